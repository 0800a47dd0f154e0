import PyProof.Rows.All
import Wide.All
import OpenK.AllK
import Wide.FinOn
import Lean
import PyProof.EqAt
import PyProof.EqKinds
import PyProof.TupleCall
import PySem.Challenge.RW_barlabel_k26_scanned_rows_refused
set_option Elab.async false
set_option compiler.extract_closed false
set_option linter.all false
set_option maxRecDepth 100000
set_option maxHeartbeats 4100000
abbrev Fg := PySem.W.Frag
namespace PySem.W.Fast
def tw9950186062084463079 := ()
def tw18415085312898183272 := ()
def tw17304259929162342556 := ()
def tw9622713789619857236 := ()
def tw7498321794522561282 := ()
def tw7466662516412395757 := ()
def tw8326251795510517656 := ()
def tw11217226121795901732 := ()
def tw12255710260609979675 := ()
def tw5795293081787152114 := ()
def tw10779232656517009911 := ()
def tw7531585182353223743 := ()
def tw17007608709566428875 := ()
def tw13343841218206387393 := ()
def tw13793987197823874227 := ()
def tw5978092612107068898 := ()
def tw8415408779013252369 := ()
def tw12265330554487488653 := ()
def tw2177474039930983688 := ()
def tw15233511500358434927 := ()
def tw4167158657764735312 := ()
def tw9458818121527105612 := ()
def tw5029457592847797723 := ()
def tw17503702316604281195 := ()
def tw10415816941241999483 := ()
def tw18012480958743091329 := ()
def tw13442718837975541629 := ()
def tw11899115377519602081 := ()
def tw18338046646026880983 := ()
def tw11569340884361589999 := ()
def tw108642611327882472 := ()
def tw12843073503538642656 := ()
def tw14669854941732951537 := ()
def tw12238593171868891519 := ()
def tw17665929344160353413 := ()
def tw15064427371820674466 := ()
def tw11805379630359062588 := ()
def tw17432441317657804173 := ()
def tw12423529306222396943 := ()
def tw9563403743632731575 := ()
def tw7699863581699192959 := ()
def tw7376757670932660123 := ()
def tw1629764047891338496 := ()
def tw18109104262594094850 := ()
def tw11694830903729213245 := ()
def tw17046182350371602359 := ()
def tw11892843809030438417 := ()
def tw13985245662436367335 := ()
def tw8961217795833120399 := ()
def tw9078939895205099600 := ()
def tw3349829784118732874 := ()
def tw9167795137710391717 := ()
def tw8900805387336552669 := ()
def tw3034214532798260490 := ()
def tw9766271726203278051 := ()
def tw1867039414905765580 := ()
def tw1624906729633250540 := ()
def tw1507576027319782429 := ()
def tw8962248528668763487 := ()
def tw9835393518945692428 := ()
def tw17840688098507842812 := ()
def tw5070721146660360110 := ()
def tw7374513921274397992 := ()
def tw6253476327752275430 := ()
def tw4304144802674657803 := ()
def tw4855274483534899860 := ()
def tw5111637984424111101 := ()
def tw5140626455244599298 := ()
def tw8025403460146843897 := ()
def tw16280384749432785504 := ()
def tw3785956159993072037 := ()
def tw5472387091786914132 := ()
def tw1535871129846773388 := ()
def tw6787356003545494068 := ()
def tw9908958172595221466 := ()
def tw17807041562942433526 := ()
def tw3708197714713918932 := ()
def tw9639417686065459079 := ()
def tw15580146512300089184 := ()
def tw1190287423915378951 := ()
def tw11966813769321669160 := ()
def tw578693452850381525 := ()
def tw16020886881606309272 := ()
def tw12307214536704069612 := ()
def tw6229089304194100651 := ()
def tw10458280669847555629 := ()
def tw1695133816392067375 := ()
def tw8004195147197874821 := ()
def tw5964814707162800104 := ()
def tw1727593634208698363 := ()
def tw16653815025863966257 := ()
def tw12005189527128444817 := ()
def tw13136559506309761419 := ()
def tw15411534221233136629 := ()
def tw18154944482279500373 := ()
def tw9544667665247619342 := ()
def tw11775541894753590077 := ()
def tw9991228024937548252 := ()
def tw1597615872359122166 := ()
def tw6696555887501662146 := ()
def tw1385141101371093373 := ()
def tw10855769433464437210 := ()
def tw8897735020330046652 := ()
def tw4442505845656955988 := ()
def tw7372826873512870232 := ()
def tw11225704137304326313 := ()
def tw6352201223617519500 := ()
def tw5368780131771843150 := ()
def tw6394386795677711719 := ()
def tw9953264155662699290 := ()
def tw10592639549601548452 := ()
end PySem.W.Fast
namespace L2
open PySem PySem.Spec PyProof.Rows
noncomputable abbrev Key := Sum Int Str
noncomputable def Zn4 : Key -> Value -> Bool
 | .inl k, v => Value.isInt k v
 | .inr x, v => Value.isStrOf x v
noncomputable def keyH (w : World) : Key -> Int
 | .inl k => hashInt k
 | .inr x => hashStr w x
theorem ZaE : ∀ {k : Key} {v : Value}, Zn4 k v = true -> (∃ i t, k = Sum.inl i /\ v = Value.int i t) \/ (∃ x t, k = Sum.inr x /\ v = Value.str x t)
 | .inl i, v, h => by
  obtain ⟨t, e⟩ := Value.isInt_shape (k := i) (v := v) h
  exact .inl ⟨i, t, rfl, e⟩
 | .inr x, v, h => by
  obtain ⟨t, e⟩ := Value.isStrOf_shape (x := x) (v := v) h
  exact .inr ⟨x, t, rfl, e⟩
theorem Zp0 (a b : Int) : decide ((Sum.inl a : Key) = Sum.inl b) = (a == b) := by
 by_cases e : a = b
 . subst e; simp
 . have h : ¬ (Sum.inl a : Key) = Sum.inl b := fun q => e (Sum.inl.inj q)
   rw [decide_eq_false h]
   exact (beq_eq_false_iff_ne.mpr e).symm
theorem Zp1 (a b : Str) : decide ((Sum.inr a : Key) = Sum.inr b) = decide (a = b) := by
 by_cases e : a = b
 . subst e; simp
 . have h : ¬ (Sum.inr a : Key) = Sum.inr b := fun q => e (Sum.inr.inj q)
   rw [decide_eq_false h, decide_eq_false e]
theorem Zp2 (a : Int) (b : Str) : decide ((Sum.inl a : Key) = Sum.inr b) = false := decide_eq_false (fun q => nomatch q)
theorem Zp3 (a : Str) (b : Int) : decide ((Sum.inr a : Key) = Sum.inl b) = false := decide_eq_false (fun q => nomatch q)
noncomputable def Zgy (prog : Program) (w : World) : PySem.KeyKind prog w Key where
 is := Zn4
 hash := keyH w
 inj := fun v a b ha hb => by
  rcases ZaE ha with ⟨i, t, rfl, rfl⟩ | ⟨x, t, rfl, rfl⟩
  . rcases ZaE hb with ⟨j, u, rfl, e⟩ | ⟨y, u, rfl, e⟩
    . injection e with e1 _; rw [e1]
    . exact nomatch e
  . rcases ZaE hb with ⟨j, u, rfl, e⟩ | ⟨y, u, rfl, e⟩
    . exact nomatch e
    . injection e with e1 _; rw [e1]
 byValue := fun k v h => by
  rcases ZaE h with ⟨i, t, rfl, rfl⟩ | ⟨x, t, rfl, rfl⟩ <;> rfl
 pyHash := fun hv h => by
  rcases ZaE hv with ⟨i, t, rfl, rfl⟩ | ⟨x, t, rfl, rfl⟩
  . exact wpAny_pyHash_int h
  . exact wpAny_pyHash_str h
 eqBool := fun hu hv h => by
  rcases ZaE hu with ⟨i, t, rfl, rfl⟩ | ⟨x, t, rfl, rfl⟩
  . rcases ZaE hv with ⟨j, u, rfl, rfl⟩ | ⟨y, u, rfl, rfl⟩
    . rw [Zp0] at h; exact wpAny_eqBool_int h
    . rw [Zp2] at h; exact SeqAt.EqAt.int_str i t y u _ _ _ _ h
  . rcases ZaE hv with ⟨j, u, rfl, rfl⟩ | ⟨y, u, rfl, rfl⟩
    . rw [Zp3] at h; exact SeqAt.EqAt.str_int x t j u _ _ _ _ h
    . rw [Zp1] at h; exact wpAny_eqBool_str h
 «strs» := fun k x t v h => by
  rcases ZaE h with ⟨i, u, rfl, e⟩ | ⟨y, u, rfl, e⟩
  . exact nomatch e
  . injection e with e1 _
    subst e1
    cases v <;> rfl
end L2
namespace L2
open PySem PySem.Spec PyProof.Rows
inductive V where
 | non | bl (b : Bool) | int (i : Int) | str (x : Str) | byt (b : Array UInt8) | flt (b : UInt64) | ref (a : Addr) | ty (n : String)
 deriving DecidableEq
def RelV : V -> Value -> Prop
 | .non, u => u = Value.none
 | .bl b, u => u = Value.bool b
 | .int i, u => ∃ t, u = Value.int i t
 | .str x, u => ∃ t, u = Value.str x t
 | .byt b, u => ∃ t, u = Value.bytes b t
 | .flt b, u => ∃ t, u = Value.float b t
 | .ref a, u => u = Value.ref a
 | .ty n, u => u = Value.type n
abbrev Vals : List V -> List Value -> Prop := Paired RelV
theorem Vals.length {xs : List V} {us : List Value} (r : Vals xs us) : xs.length = us.length := Paired.length r
theorem Vals.get : ∀ {xs : List V} {us : List Value} {i : Nat} {x : V}, Vals xs us -> xs[i]? = some x -> ∃ u, us[i]? = some u /\ RelV x u
 | _, _, _, _, .nil, e => by simp at e
 | _, _, 0, _, .cons r _, e => by simp at e; subst e; exact ⟨_, rfl, r⟩
 | _, _, i + 1, x, .cons _ t, e => by
  obtain ⟨u, h1, h2⟩ := Vals.get (i := i) (x := x) t (by simpa using e)
  exact ⟨u, by simpa using h1, h2⟩
theorem Vals.set {x : V} {u : Value} (r : RelV x u) : ∀ {xs : List V} {us : List Value} (i : Nat), Vals xs us -> Vals (xs.set i x) (us.set i u)
 | _, _, _, .nil => .nil
 | _, _, 0, .cons _ t => .cons r t
 | _, _, i + 1, .cons q t => .cons q (Vals.set r i t)
theorem Vals.append : ∀ {xs ys : List V} {us ws : List Value}, Vals xs us -> Vals ys ws -> Vals (xs ++ ys) (us ++ ws)
 | _, _, _, _, .nil, s => s
 | _, _, _, _, .cons r t, s => .cons r (Vals.append t s)
theorem Vals.take : ∀ {xs : List V} {us : List Value} (n : Nat), Vals xs us -> Vals (xs.take n) (us.take n)
 | _, _, 0, _ => .nil
 | _, _, _ + 1, .nil => .nil
 | _, _, n + 1, .cons r t => .cons r (Vals.take n t)
theorem Vals.drop : ∀ {xs : List V} {us : List Value} (n : Nat), Vals xs us -> Vals (xs.drop n) (us.drop n)
 | _, _, 0, r => r
 | _, _, _ + 1, .nil => .nil
 | _, _, n + 1, .cons _ t => Vals.drop n t
def RelO : Option V -> Option Value -> Prop
 | some v, some u => RelV v u
 | none, none => True
 | _, _ => False
def KV {κ : Type} : List (κ × V) -> List (κ × Value) -> Prop := Paired fun (p : κ × V) (q : κ × Value) => p.1 = q.1 /\ RelV p.2 q.2
noncomputable def kV : Key -> V
 | .inl i => .int i
 | .inr x => .str x
inductive HO where
 | lst (xs : List V)
 | tup (xs : List V)
 | dK (kvs : List (Key × V)) | dT (kvs : List (List Key × V))
 | set (S : Int -> Bool) (n : Nat)
 | ins (C dx : Addr) (fs : List (Str × V))
 | own (x : Addr)
 | xd (fs : List (Str × V))
 | met (f x : Addr)
 | rng (lo hi : Int)
 | frz (o : Obj) (u : HO)
 | tbl (ps : Array Value)
 | ext (φ : Heap -> Prop)
 | exc (C : Addr) (dx : Option Addr) (fr : Bool) (fs : List (Str × V))
noncomputable abbrev Hp := Addr -> Option HO
noncomputable def upd (H : Hp) (a : Addr) (o : HO) : Hp := fun b => if b = a then some o else H b
theorem Zv {H : Hp} {a : Addr} {o : HO} : upd H a o a = some o := by unfold upd; rw [if_pos rfl]
theorem Zt {H : Hp} {a b : Addr} {o : HO} (h : b ≠ a) : upd H a o b = H b := by unfold upd; rw [if_neg h]
theorem Zkq {H : Hp} {a : Addr} {o u : HO} : upd (upd H a o) a u = upd H a u := by
 funext b; unfold upd; split <;> rfl
theorem ZaF {H : Hp} {a b : Addr} {o : HO} (h : H a = some o) (h' : H b = none) : a ≠ b := by
 intro e; subst e; rw [h] at h'; cases h'
section
variable (P : Program) (w : World)
def Zag (H : Hp) (h : Heap) (a : Addr) : HO -> Prop
 | .lst xs => xs.length <= sizeLine /\ ∃ (its : List Value) (n : Nat), Vals xs its /\ h.get? a = some { cls := .type "list", data := .seq its.toArray n }
 | .tup xs => xs.length <= sizeLine /\ ∃ its : List Value, Vals xs its /\ IsTup h a its.toArray
 | .dK kvs => kvs.length <= sizeLine /\ (a == sysModules) = false /\ ∃ vs, KV kvs vs /\ h.DictOf (Zgy P w) a vs
 | .dT kvs => kvs.length <= sizeLine /\ (a == sysModules) = false /\ ∃ xs : List (List Key × Addr × Value),
  Paired (fun (p : List Key × V) (q : List Key × Addr × Value) => p.1 = q.1 /\ H q.2.1 = some (.tup (p.1.map kV)) /\ RelV p.2 q.2.2) kvs xs /\
  ∃ o es ep, h.get? a = some o /\ o.ExactDict /\ o.data = .dict es ep /\ es.toList = xs.map (entryOfKey (tupleKind (Zgy P w))) /\ (xs.map (·.1)).Nodup
 | .set S n => h.SetOf (intKind P w) a S n
 | .ins C dx fs => H dx = some (.own a) /\ fs.length <= 1000 /\ dx ≠ a /\ h.get? a = some (PySem.W.instObj C dx) /\
  ∃ mA, h.Ns1 dx mA /\ (∀ f, RelO (fs.lookup f) (mA f)) /\ PySem.Within mA (fs.map (·.1))
 | .own _ => ∃ o, h.get? a = some o
 | .xd fs => ∃ mA, h.Ns1 a mA /\ ∀ f, RelO (fs.lookup f) (mA f)
 | .rng lo hi => ∃ t u v, h.get? a = some { cls := .type "range", data := .fields #[.int lo t, .int hi u, .int 1 v] }
 | .frz o u => h.get? a = some o /\ Zag H h a u
 | .tbl ps => h.get? a = some { cls := .none, data := .fields ps }
 | .met f x => h.get? a = some (PySem.W.methodObj (.ref f) (.ref x))
 | .exc C dx fr fs => fs.length <= 1000 /\ (∃ o vs, h.get? a = some o /\ o.cls = .ref C /\ o.dict = dx /\ o.data = .fields vs /\ vs.size = 6 /\ (fr = true -> vs[1]? = some .none)) /\
  match dx with
  | none => fs = []
  | some d => H d = some (.own a) /\ d ≠ a /\ ∃ mA, h.Ns1 d mA /\ (∀ f, RelO (fs.lookup f) (mA f)) /\ PySem.Within mA (fs.map (·.1))
 | .ext φ => φ h /\ (∃ o, h.get? a = some o) /\ ∀ h1 h2 : Heap, φ h1 -> (∀ o, h1.get? a = some o -> h2.get? a = some o) -> φ h2
def HOk (H : Hp) (h : Heap) : Prop := ∀ a o, H a = some o -> Zag P w H h a o
end
section
variable {P : Program} {w : World} {H H' : Hp} {h h' : Heap} {a : Addr} {o : HO}
theorem Zag.lt (x : Zag P w H h a o) : a < h.objs.size := by
 cases o with
 | lst xs => obtain ⟨_, _, _, _, e⟩ := x; exact Heap.lt_size e
 | tup xs => obtain ⟨_, _, _, p⟩ := x; exact p.lt
 | dK kvs => obtain ⟨_, _, _, _, o, _, _, e, _⟩ := x; exact Heap.lt_size e
 | dT kvs => obtain ⟨_, _, _, _, o, _, _, e, _⟩ := x; exact Heap.lt_size e
 | set S n => obtain ⟨o, _, _, _, e, _⟩ := x; exact Heap.lt_size e
 | ins C dx fs => obtain ⟨_, _, _, e, _⟩ := x; exact Heap.lt_size e
 | own y => obtain ⟨_, e⟩ := x; exact Heap.lt_size e
 | xd fs => obtain ⟨_, ⟨_, _, _, e, _⟩, _⟩ := x; exact Heap.lt_size e
 | rng lo hi => obtain ⟨_, _, _, e⟩ := x; exact Heap.lt_size e
 | frz ob u => obtain ⟨e, _⟩ := x; exact Heap.lt_size e
 | tbl ps => exact Heap.lt_size (show h.get? a = some _ from x)
 | met f y => exact Heap.lt_size (show h.get? a = some _ from x)
 | ext φ => obtain ⟨_, ⟨_, e⟩, _⟩ := x; exact Heap.lt_size e
 | exc C dx fr fs => obtain ⟨_, ⟨_, _, e, _⟩, _⟩ := x; exact Heap.lt_size e
theorem Paired.mapP {α β : Type} {F G : α -> β -> Prop} : ∀ {l₁ : List α} {l₂ : List β}, Paired F l₁ l₂ -> (∀ a b, F a b -> G a b) -> Paired G l₁ l₂
 | _, _, .nil, _ => .nil
 | _, _, .cons r t, f => .cons (f _ _ r) (Paired.mapP t f)
theorem Zag.stay (x : Zag P w H h a o) (k : ∀ b u, (b = a \/ H b = some (.own a)) -> h.get? b = some u -> h'.get? b = some u)
 (ho : ∀ b, H b = some (.own a) -> H' b = some (.own a)) (ht : ∀ b xs, H b = some (.tup xs) -> H' b = some (.tup xs)) : Zag P w H' h' a o := by
 induction o with
 | lst xs => obtain ⟨z, its, n, r, e⟩ := x; exact ⟨z, its, n, r, k _ _ (.inl rfl) e⟩
 | tup xs => obtain ⟨z, its, r, ob, e, c⟩ := x; exact ⟨z, its, r, ob, k _ _ (.inl rfl) e, c⟩
 | dK kvs => obtain ⟨z, y, vs, r, ob, es, ep, e, c⟩ := x; exact ⟨z, y, vs, r, ob, es, ep, k _ _ (.inl rfl) e, c⟩
 | dT kvs =>
  obtain ⟨z, y, xs, r, ob, es, ep, e, c⟩ := x
  exact ⟨z, y, xs, Paired.mapP r fun p q z => ⟨z.1, ht _ _ z.2.1, z.2.2⟩, ob, es, ep, k _ _ (.inl rfl) e, c⟩
 | set S n => obtain ⟨ob, es, ep, t, e, c⟩ := x; exact ⟨ob, es, ep, t, k _ _ (.inl rfl) e, c⟩
 | ins C dx fs =>
  obtain ⟨d, z, ne, e, mA, ⟨od, es, ep, e2, c⟩, r⟩ := x
  exact ⟨ho _ d, z, ne, k _ _ (.inl rfl) e, mA, ⟨od, es, ep, k _ _ (.inr d) e2, c⟩, r⟩
 | own y => obtain ⟨ob, e⟩ := x; exact ⟨ob, k _ _ (.inl rfl) e⟩
 | xd fs => obtain ⟨mA, ⟨od, es, ep, e, c⟩, r⟩ := x; exact ⟨mA, ⟨od, es, ep, k _ _ (.inl rfl) e, c⟩, r⟩
 | rng lo hi => obtain ⟨t, u, v, e⟩ := x; exact ⟨t, u, v, k _ _ (.inl rfl) e⟩
 | frz ob u ih => obtain ⟨e, q⟩ := x; exact ⟨k _ _ (.inl rfl) e, ih q⟩
 | tbl ps =>
  have e : h.get? a = some { cls := .none, data := .fields ps } := x
  show h'.get? a = some { cls := .none, data := .fields ps }
  exact k a _ (.inl rfl) e
 | met f y =>
  have e : h.get? a = some (PySem.W.methodObj (.ref f) (.ref y)) := x
  show h'.get? a = some (PySem.W.methodObj (.ref f) (.ref y))
  exact k a _ (.inl rfl) e
 | ext φ => obtain ⟨p, ⟨o, e⟩, st⟩ := x; exact ⟨st _ _ p fun o q => k _ _ (.inl rfl) q, ⟨o, k _ _ (.inl rfl) e⟩, st⟩
 | exc C dx fr fs =>
  obtain ⟨z, ⟨o, vs, e, q⟩, r⟩ := x
  refine ⟨z, ⟨o, vs, k _ _ (.inl rfl) e, q⟩, ?_⟩
  cases dx with
  | none => exact r
  | some d =>
   obtain ⟨r1, r2, mA, ⟨od, es, ep, e2, c⟩, r3⟩ := r
   exact ⟨ho _ r1, r2, mA, ⟨od, es, ep, k _ _ (.inr r1) e2, c⟩, r3⟩
theorem HOk.lt (x : HOk P w H h) (e : H a = some o) : a < h.objs.size := (x a o e).lt
theorem HOk.fresh (x : HOk P w H h) (e : h.objs.size <= a) : H a = none := by
 cases q : H a with
 | none => rfl
 | some u => exact absurd (Nat.lt_of_lt_of_le (x.lt q) e) (Nat.lt_irrefl _)
theorem HOk.kept (x : HOk P w H h) (k : ∀ b u, h.get? b = some u -> h'.get? b = some u) : HOk P w H h' := fun a o e =>
 (x a o e).stay (fun b u _ q => k b u q) (fun _ q => q) fun _ _ q => q
theorem HOk.laid (x : HOk P w H h) (k : ∀ b u, h.get? b = some u -> h'.get? b = some u) (hp : h.objs.size <= a) (new : Zag P w (upd H a o) h' a o) : HOk P w (upd H a o) h' := fun b u e => by
 have hn := x.fresh hp
 by_cases hb : b = a
 . subst hb; rw [Zv] at e; cases e; exact new
 . rw [Zt hb] at e
   exact (x b u e).stay (fun c v _ q => k c v q) (fun c q => by rw [Zt (ZaF q hn)]; exact q) fun c xs q => by rw [Zt (ZaF q hn)]; exact q
end
def Rd (H : Hp) (a : Addr) (u : HO) : Prop := H a = some u \/ ∃ o, H a = some (.frz o u)
theorem Rd.ok {P : Program} {w : World} {H : Hp} {h : Heap} {a : Addr} {u : HO} (r : Rd H a u) (x : HOk P w H h) : Zag P w H h a u := by
 rcases r with r | ⟨o, r⟩
 . exact x a u r
 . obtain ⟨_, q⟩ := x a _ r
   exact q
def Mut : Option HO -> Prop
 | some (.lst _) => True
 | some (.dK _) => True
 | some (.dT _) => True
 | some (.set _ _) => True
 | some (.ins _ _ _) => True
 | some (.ext _) => True
 | some (.exc _ _ _ _) => True
 | _ => False
section
variable {P : Program} {w : World} {H : Hp} {h h' : Heap} {x e : Addr} {o' : HO}
theorem HOk.write (ok : HOk P w H h) (mu : Mut (H x)) (he : e = x \/ H e = some (.own x)) (k : ∀ b u, b ≠ e -> h.get? b = some u -> h'.get? b = some u) (heo : ∃ u, h'.get? e = some u)
 (new : Zag P w (upd H x o') h' x o') : HOk P w (upd H x o') h' := fun b u q => by
 have nown : ∀ c y, H c = some (.own y) -> c ≠ x := fun c y r z => by subst z; rw [r] at mu; exact mu
 have ntup : ∀ c xs, H c = some (.tup xs) -> c ≠ x := fun c xs r z => by subst z; rw [r] at mu; exact mu
 by_cases hb : b = x
 . subst hb; rw [Zv] at q; cases q; exact new
 . rw [Zt hb] at q
   by_cases hbe : b = e
   . have q' : H b = some (.own x) := by
      rcases he with z | z
      . exact absurd (hbe.trans z) hb
      . rw [hbe]; exact z
     rw [q] at q'; cases q'
     obtain ⟨v, hv⟩ := heo
     exact ⟨v, by rw [hbe]; exact hv⟩
   . refine (ok b u q).stay (fun c v hc r => k c v ?_ r) (fun c r => by rw [Zt (nown c b r)]; exact r) fun c xs r => by rw [Zt (ntup c xs r)]; exact r
     rcases hc with rfl | hc
     . exact hbe
     . rintro rfl
       rcases he with z | z
       . exact nown c b hc z
       . rw [hc] at z; cases z; exact hb rfl
end
structure Un (fs ex : List Addr) (H H' : Hp) (h h' : Heap) : Prop where
 keep : ∀ b o, h.get? b = some o -> H b = none -> b ∉ fs -> b ∉ ex -> h'.get? b = some o
 slot : ∀ b o, h.get? b = some o -> H b = none -> b ∈ fs -> b ∉ ex -> ∃ sl, h'.get? b = some { o with slots := sl }
 free : ∀ b o, h.get? b = some o -> H b = none -> b ∉ ex -> H' b = none
 there : ∀ b o, h.get? b = some o -> b ∉ ex -> ∃ o', h'.get? b = some o'
 tups : ∀ b xs, H b = some (.tup xs) -> H' b = some (.tup xs)
 frzs : ∀ b o u, H b = some (.frz o u) -> H' b = some (.frz o u)
 tbls : ∀ b ps, H b = some (.tbl ps) -> ∃ more, H' b = some (.tbl (ps ++ more))
section
variable {fs fs' ex ex' : List Addr} {H H1 H2 : Hp} {h h1 h2 h' : Heap} {a x e : Addr} {o : HO}
theorem Un.any (u : Un fs ex H H1 h h1) {b : Addr} {ob : Obj} (q : h.get? b = some ob) (n : H b = none) (hx : b ∉ ex) : ∃ sl, h1.get? b = some { ob with slots := sl } := by
 by_cases hb : b ∈ fs
 . exact u.slot b ob q n hb hx
 . exact ⟨ob.slots, u.keep b ob q n hb hx⟩
theorem Un.kept (k : ∀ b u, h.get? b = some u -> h'.get? b = some u) : Un fs ex H H h h' :=
 ⟨fun b ob q _ _ _ => k b ob q, fun b ob q _ _ _ => ⟨ob.slots, k b ob q⟩, fun _ _ _ n _ => n, fun b ob q _ => ⟨ob, k b ob q⟩, fun _ _ q => q, fun _ _ _ q => q, fun _ ps q => ⟨#[], by rw [q]; simp⟩⟩
theorem Un.refl : Un fs ex H H h h := Un.kept fun _ _ q => q
theorem Un.laid (k : ∀ b u, h.get? b = some u -> h'.get? b = some u) (hp : h.objs.size <= a) (hn : H a = none) : Un fs ex H (upd H a o) h h' where
 keep := fun b u q _ _ _ => k b u q
 slot := fun b u q _ _ _ => ⟨u.slots, k b u q⟩
 free := fun b u q n _ => by rw [Zt (Nat.ne_of_lt (Nat.lt_of_lt_of_le (Heap.lt_size q) hp))]; exact n
 there := fun b u q _ => ⟨u, k b u q⟩
 tups := fun b xs q => by rw [Zt (ZaF q hn)]; exact q
 frzs := fun b u xs q => by rw [Zt (ZaF q hn)]; exact q
 tbls := fun b ps q => ⟨#[], by rw [Zt (ZaF q hn), q]; simp⟩
theorem Un.write (mu : Mut (H x)) (he : e = x \/ H e = some (.own x)) (k : ∀ b u, b ≠ e -> h.get? b = some u -> h'.get? b = some u) (heo : ∃ u, h'.get? e = some u) : Un fs ex H (upd H x o) h h' := by
 have hx : ∀ b, H b = none -> b ≠ x := fun b n z => by subst z; rw [n] at mu; exact mu
 have hb : ∀ b, H b = none -> b ≠ e := fun b n z => by
  subst z
  rcases he with r | r
  . exact hx b n r
  . rw [n] at r; cases r
 have hm : ∀ b u, H b = some u -> ¬ Mut (some u) -> b ≠ x := fun b u q nm z => by subst z; rw [q] at mu; exact nm mu
 refine ⟨fun b u q n _ _ => k b u (hb b n) q, fun b u q n _ _ => ⟨u.slots, k b u (hb b n) q⟩, fun b u q n _ => by rw [Zt (hx b n)]; exact n, fun b u q _ => ?_,
  fun b xs q => by rw [Zt (hm b _ q fun z => z)]; exact q, fun b u xs q => by rw [Zt (hm b _ q fun z => z)]; exact q, fun b ps q => ⟨#[], by rw [Zt (hm b _ q fun z => z), q]; simp⟩⟩
 by_cases hbe : b = e
 . subst hbe; exact heo
 . exact ⟨u, k b u hbe q⟩
end
noncomputable def trk (h : Heap) (H : Hp) : List Addr := (List.range h.objs.size).filter fun a => (H a).isSome
noncomputable def hidT (h : Heap) (H : Hp) : Heap := PySem.W.hideAll h (trk h H)
theorem Zl0 (h : Heap) (H : Hp) : (hidT h H).objs.size = h.objs.size := PySem.W.hideAll_size _ _
theorem Zm1 {h : Heap} {H : Hp} {b : Addr} {o : Obj} (e : h.get? b = some o) (n : H b = none) : (hidT h H).get? b = some o :=
 PySem.W.hideAll_get _ e fun hm => by
  have q : (H b).isSome = true := (List.mem_filter.mp hm).2
  rw [n] at q; simp at q
theorem ZnU {h : Heap} {H : Hp} {b : Addr} {o : Obj} (e : (hidT h H).get? b = some o) : h.get? b = some o /\ H b = none := by
 have e' : h.get? b = some o := PySem.W.of_hideAll (trk h H) e
 refine ⟨e', ?_⟩
 cases q : H b with
 | none => rfl
 | some x =>
  have hm : b ∈ trk h H := List.mem_filter.mpr ⟨List.mem_range.mpr (Heap.lt_size e'), by simp [q]⟩
  have z : (hidT h H).get? b = none := PySem.W.hideAll_none (trk h H) hm
  rw [z] at e; cases e
noncomputable def ZnV (g h : Heap) (L : Addr) : List (Addr × Obj) := (List.range h.objs.size).filterMap fun a => if a = L \/ (g.get? a).isSome = true then none else (h.get? a).map fun o => (a, o)
noncomputable def rest (g h : Heap) (L d : Addr) : List (Addr × Obj) := (ZnV g h L).filter fun p => decide (p.1 ≠ d)
end L2
namespace L2
open PySem PySem.Spec PyProof.Rows
structure Mod (K : Fg) (mg : Str -> Option Value) (base : Heap) : Prop where
 kin : K.In base
 glob : base.Ns mainGlobals mg
 blt : ∃ mb, base.Ns builtinsNs mb /\ ∀ x : Str, x ≠ "__name__" -> mb x = bootBuiltins x
 nolimit : base.NoLimit
structure Cx where
 prog : Program
 w : World
 K : Fg
 mg : Str -> Option Value
 base : Heap
 A : Around
 N : List Str
 s₀ : Shared
 H₀ : Hp
 env : Env
 outer : List Env
 stack : List Env
 ex : List Addr
 fn : Str -> Bool
 calm : Bool
 pn : List (Addr × Obj)
 xe : Value -> Shared -> Prop
noncomputable def frs (l : List Env) : List Addr := l.filterMap (·.frame)
noncomputable abbrev Cx.fs (X : Cx) : List Addr := frs X.outer
def Vis (sc : Scope) (x : Str) : Prop := sc.names.lookup x = some .local \/ sc.names.lookup x = some .cell \/ sc.names.lookup x = some .free
def Loc (sc : Scope) (x : Str) : Prop := sc.names.lookup x = some .local \/ sc.names.lookup x = some .cell
def Look (env : Env) (h : Heap) (m : Str -> Option Value) (x : Str) (u : Value) : Prop :=
 (env.kindOf x = some .local /\ m x = some u) \/ ((env.kindOf x = some .cell \/ env.kindOf x = some .free) /\ ∃ c, env.cells.lookup x = some c /\ h.IsCell c (some u))
structure Cx.Ok (X : Cx) : Prop where
 mod : Mod X.K X.mg X.base
 kind : X.env.scope.kind = .function
 glob : X.env.globals = mainGlobals
 blt : X.env.builtins = builtinsNs
 above : X.s₀.heap.objs.size <= X.env.locals
 inj : ∀ x y c, X.env.cells.lookup x = some c -> X.env.cells.lookup y = some c -> x = y
 has : ∀ x, (X.env.kindOf x = some .cell \/ X.env.kindOf x = some .free) -> ∃ c, X.env.cells.lookup x = some c
 cab : ∀ x c, X.fn x = true -> X.env.cells.lookup x = some c -> X.s₀.heap.objs.size <= c
 hd : X.calm = true -> X.A.handled = none
 frames : X.A.frames = some X.stack
 stk : X.stack = X.outer \/ (X.stack = X.env :: X.outer /\ X.env.frame = some X.env.locals)
 exf : ∀ b ∈ X.ex, b ≠ X.env.locals /\ ∀ x c, X.env.cells.lookup x = some c -> c ≠ b
 bs : ∀ b o, X.base.get? b = some o -> X.s₀.heap.get? b = some o /\ X.H₀ b = none
 bsz : X.base.objs.size <= X.s₀.heap.objs.size
 noex : ∀ b o, X.base.get? b = some o -> b ∉ X.ex
 exfs : ∀ b ∈ X.ex, b ∉ X.fs
 funs : X.s₀.heap.FunFrames X.base X.outer
 frf : ∀ b ∈ X.fs, X.H₀ b = none
structure Inv (X : Cx) (pins : List (Addr × Obj)) (σ : List (Option V)) (H : Hp) (s : Shared) : Prop where
 ok : X.Ok
 os : s.os = X.s₀.os
 bare : AllBare s.gens
 base : Un X.fs X.ex X.H₀ H X.s₀.heap s.heap
 loc : ∃ m, s.heap.Ns X.env.locals m /\ ∀ (i : Nat) (x : Str) (v : V), X.N[i]? = some x -> σ[i]? = some (some v) -> Vis X.env.scope x -> ∃ u, RelV v u /\ Look X.env s.heap m x u
 cell : ∀ x c, X.env.cells.lookup x = some c -> ∃ v, s.heap.IsCell c v
 free : H X.env.locals = none
 freeC : ∀ x c, X.env.cells.lookup x = some c -> H c = none
 pin : ∀ p ∈ X.pn ++ pins, s.heap.get? p.1 = some p.2 /\ H p.1 = none /\ p.1 ≠ X.env.locals /\ p.1 ∉ X.fs /\ ∀ v, p.2.data ≠ .cell v
 hok : HOk X.prog X.w H s.heap
 len : σ.length = X.N.length
section
variable {X : Cx} {pins : List (Addr × Obj)} {σ : List (Option V)} {H H' : Hp} {s : Shared} {h' : Heap}
theorem Cx.Ok.nofr (ok : X.Ok) {b : Addr} {o : Obj} (e : X.base.get? b = some o) : b ∉ X.fs := fun hb => by
 have := (ok.funs.mem hb).1
 rw [e] at this; cases this
theorem Inv.bs (I : Inv X pins σ H s) : ∀ b o, X.base.get? b = some o -> s.heap.get? b = some o /\ H b = none := fun b o e =>
 ⟨I.base.keep b o (I.ok.bs b o e).1 (I.ok.bs b o e).2 (I.ok.nofr e) (I.ok.noex b o e), I.base.free b o (I.ok.bs b o e).1 (I.ok.bs b o e).2 (I.ok.noex b o e)⟩
theorem Inv.bk (I : Inv X pins σ H s) : ∀ b o, X.base.get? b = some o -> s.heap.get? b = some o := fun b o e => (I.bs b o e).1
theorem Inv.mod (I : Inv X pins σ H s) : Mod X.K X.mg X.base := I.ok.mod
theorem Inv.kIn (I : Inv X pins σ H s) : X.K.In s.heap := I.ok.mod.kin.keeps I.bk
theorem Inv.lt (I : Inv X pins σ H s) : X.env.locals < s.heap.objs.size := let ⟨_, hn, _⟩ := I.loc; hn.lt
theorem Inv.sz (I : Inv X pins σ H s) : X.s₀.heap.objs.size <= s.heap.objs.size := Nat.le_trans I.ok.above (Nat.le_of_lt I.lt)
theorem Inv.nofs (I : Inv X pins σ H s) {a : Addr} (h : s.heap.objs.size <= a) : a ∉ X.fs := fun hb => by
 obtain ⟨_, o, ho, _⟩ := I.ok.funs.mem hb
 exact absurd (Nat.lt_of_lt_of_le (Heap.lt_size ho) (Nat.le_trans I.sz h)) (Nat.lt_irrefl _)
theorem Inv.cne (I : Inv X pins σ H s) : ∀ x c, X.env.cells.lookup x = some c -> c ≠ X.env.locals := fun x c e z => by
 obtain ⟨v, o, ho, hd⟩ := I.cell x c e
 obtain ⟨m, ⟨o', es, ep, ho', hd', _⟩, _⟩ := I.loc
 rw [z, ho'] at ho; cases ho; rw [hd'] at hd; cases hd
theorem Inv.funs (I : Inv X pins σ H s) : s.heap.FunFrames X.base X.outer := by
 have all : ∀ (l : List Env), (∀ b ∈ frs l, b ∈ X.fs) -> X.s₀.heap.FunFrames X.base l -> s.heap.FunFrames X.base l := by
  intro l
  induction l with
  | nil => intro _ _; trivial
  | cons env r ih =>
   intro hs hl
   obtain ⟨hk, ⟨L, o, hf, hn, ho, hd⟩, hr⟩ := hl
   have hL : L ∈ X.fs := hs L (by unfold frs; rw [List.filterMap_cons, hf]; exact List.mem_cons_self)
   obtain ⟨sl, e⟩ := I.base.slot L o ho (I.ok.frf L hL) hL fun z => I.ok.exfs L z hL
   exact ⟨hk, ⟨L, _, hf, hn, e, hd⟩, ih (fun b hb => hs b (by unfold frs; rw [List.filterMap_cons, hf]; exact List.mem_cons_of_mem _ hb)) hr⟩
 exact all X.outer (fun _ hb => hb) I.ok.funs
theorem Inv.stack (I : Inv X pins σ H s) : s.heap.FunFrames X.base X.stack := by
 rcases I.ok.stk with e | ⟨e, hf⟩
 . rw [e]; exact I.funs
 . rw [e]
   obtain ⟨m, hn, _⟩ := I.loc
   refine .cons (by rw [I.ok.kind]; decide) hf hn ?_ I.funs
   exact Heap.get?_none_of_le (Nat.le_trans I.ok.bsz I.ok.above)
theorem Inv.stkSub (I : Inv X pins σ H s) : ∀ b ∈ frs X.stack, b ∈ X.env.locals :: X.fs := fun b hb => by
 rcases I.ok.stk with e | ⟨e, hf⟩
 . rw [e] at hb; exact List.mem_cons_of_mem _ hb
 . rw [e] at hb
   unfold frs at hb
   rw [List.filterMap_cons, hf] at hb
   exact hb
theorem Inv.stkFree (I : Inv X pins σ H s) : ∀ b ∈ frs X.stack, H b = none := fun b hb => by
 rcases List.mem_cons.mp (I.stkSub b hb) with e | hb
 . rw [e]; exact I.free
 . obtain ⟨_, o, ho, _⟩ := I.ok.funs.mem hb
   exact I.base.free b o ho (I.ok.frf b hb) fun z => I.ok.exfs b z hb
theorem Inv.step {g' : Array GenState} {t' : Nat} {d' : Drawn} {ch : List Addr} (I : Inv X pins σ H s)
 (hch : ∀ b ∈ ch, (b ∈ X.ex \/ X.s₀.heap.objs.size <= b) /\ b ≠ X.env.locals /\ (∀ x c, X.env.cells.lookup x = some c -> c ≠ b) /\ ∀ p ∈ X.pn ++ pins, p.1 ≠ b)
 (keep : ∀ b o, b ≠ X.env.locals -> b ∉ X.fs -> b ∉ ch -> s.heap.get? b = some o -> H b = none -> h'.get? b = some o)
 (slot : ∀ b o, b ≠ X.env.locals -> b ∈ X.fs -> b ∉ ch -> s.heap.get? b = some o -> H b = none -> ∃ sl, h'.get? b = some { o with slots := sl }) (free : ∀ b o, b ∉ ch -> s.heap.get? b = some o -> H b = none -> H' b = none)
 (there : ∀ b o, b ∉ ch -> s.heap.get? b = some o -> ∃ o', h'.get? b = some o')
 (tups : ∀ b xs, H b = some (.tup xs) -> H' b = some (.tup xs)) (frzs : ∀ b o u, H b = some (.frz o u) -> H' b = some (.frz o u)) (tbls : ∀ b ps, H b = some (.tbl ps) -> ∃ more, H' b = some (.tbl (ps ++ more)))
 (ns : ∀ m, s.heap.Ns X.env.locals m -> h'.Ns X.env.locals m) (hok : HOk X.prog X.w H' h') (hg : AllBare g') :
 Inv X pins σ H' { s with heap := h', gens := g', drawn := d', toks := t' } := by
 have neL : ∀ b o, X.s₀.heap.get? b = some o -> b ≠ X.env.locals := fun b o e => Nat.ne_of_lt (Nat.lt_of_lt_of_le (Heap.lt_size e) I.ok.above)
 have neC : ∀ b o, X.s₀.heap.get? b = some o -> b ∉ X.ex -> b ∉ ch := fun b o e hx hb => by
  rcases (hch b hb).1 with z | z
  . exact hx z
  . exact absurd (Nat.lt_of_lt_of_le (Heap.lt_size e) z) (Nat.lt_irrefl _)
 have cellK : ∀ x c, X.env.cells.lookup x = some c -> ∀ v, s.heap.IsCell c v -> h'.IsCell c v := fun x c e v ⟨o, ho, hd⟩ => by
  have nch : c ∉ ch := fun z => (hch c z).2.2.1 x c e rfl
  by_cases hc : c ∈ X.fs
  . obtain ⟨sl, q⟩ := slot c o (I.cne x c e) hc nch ho (I.freeC x c e)
    exact ⟨_, q, hd⟩
  . exact ⟨o, keep c o (I.cne x c e) hc nch ho (I.freeC x c e), hd⟩
 refine ⟨I.ok, I.os, hg, ⟨fun b o e n hb hx => ?_, fun b o e n hb hx => ?_, fun b o e n hx => ?_, fun b o e hx => ?_, fun b xs e => tups b xs (I.base.tups b xs e), fun b o xs e => frzs b o xs (I.base.frzs b o xs e), fun b ps e => ?_⟩, ?_, fun x c e => ?_, ?_, fun x c e => ?_, fun p hp => ?_, hok, I.len⟩
 . exact keep b o (neL b o e) hb (neC b o e hx) (I.base.keep b o e n hb hx) (I.base.free b o e n hx)
 . obtain ⟨sl, e1⟩ := I.base.slot b o e n hb hx
   obtain ⟨sl', e2⟩ := slot b _ (neL b o e) hb (neC b o e hx) e1 (I.base.free b o e n hx)
   exact ⟨sl', e2⟩
 . obtain ⟨o', e1⟩ := I.base.there b o e hx
   exact free b o' (neC b o e hx) e1 (I.base.free b o e n hx)
 . obtain ⟨o', e1⟩ := I.base.there b o e hx
   exact there b o' (neC b o e hx) e1
 . obtain ⟨m1, e1⟩ := I.base.tbls b ps e
   obtain ⟨m2, e2⟩ := tbls b _ e1
   exact ⟨m1 ++ m2, by rw [e2, Array.append_assoc]⟩
 . obtain ⟨m, hn, hl⟩ := I.loc
   refine ⟨m, ns m hn, fun i x v e1 e2 e3 => ?_⟩
   obtain ⟨u, r, l⟩ := hl i x v e1 e2 e3
   refine ⟨u, r, ?_⟩
   rcases l with l | ⟨k, c, e, z⟩
   . exact .inl l
   . exact .inr ⟨k, c, e, cellK x c e _ z⟩
 . obtain ⟨v, z⟩ := I.cell x c e
   exact ⟨v, cellK x c e v z⟩
 . obtain ⟨m, ⟨o, _, _, ho, _⟩, _⟩ := I.loc
   exact free _ o (fun z => (hch _ z).2.1 rfl) ho I.free
 . obtain ⟨v, o, ho, hd⟩ := I.cell x c e
   exact free c o (fun z => (hch c z).2.2.1 x c e rfl) ho (I.freeC x c e)
 . obtain ⟨e, n, ne, nf, d⟩ := I.pin p hp
   have nch : p.1 ∉ ch := fun z => (hch p.1 z).2.2.2 p hp rfl
   exact ⟨keep p.1 p.2 ne nf nch e n, free p.1 p.2 nch e n, ne, nf, d⟩
theorem Inv.un {t' : Nat} (I : Inv X pins σ H s) (u : Un X.fs [] H H' s.heap h') (hok : HOk X.prog X.w H' h') : Inv X pins σ H' { s with heap := h', toks := t' } := by
 obtain ⟨m, ⟨o, es, ep, ho, r⟩, _⟩ := id I.loc
 obtain ⟨sl, hL⟩ := u.any ho I.free (by simp)
 exact I.step (g' := s.gens) (d' := s.drawn) (ch := []) (fun _ z => nomatch z) (fun b o _ hb _ e n => u.keep b o e n hb (by simp)) (fun b o _ hb _ e n => u.slot b o e n hb (by simp)) (fun b o _ e n => u.free b o e n (by simp)) (fun b o _ e => u.there b o e (by simp)) u.tups u.frzs u.tbls (fun m' hm => by
  obtain ⟨o', es', ep', ho', r'⟩ := hm
  rw [ho] at ho'; cases ho'
  exact ⟨_, es', ep', hL, r'⟩) hok I.bare
theorem Inv.call {g' : Array GenState} {t' : Nat} {d' : Drawn} {ch : List Addr} (I : Inv X pins σ H s) (u : Un (frs X.stack) ch H H' s.heap h') (hok : HOk X.prog X.w H' h') (hg : AllBare g')
 (hch : ∀ b ∈ ch, (b ∈ X.ex \/ X.s₀.heap.objs.size <= b) /\ b ≠ X.env.locals /\ (∀ x c, X.env.cells.lookup x = some c -> c ≠ b) /\ ∀ p ∈ X.pn ++ pins, p.1 ≠ b) :
 Inv X pins σ H' { s with heap := h', gens := g', drawn := d', toks := t' } := by
 obtain ⟨m, ⟨o, es, ep, ho, r⟩, _⟩ := id I.loc
 obtain ⟨sl, hL⟩ := u.any ho I.free fun z => (hch _ z).2.1 rfl
 exact I.step (ch := ch) hch (fun b o hL hb hc e n => u.keep b o e n (fun z => (List.mem_cons.mp (I.stkSub b z)).elim hL hb) hc) (fun b o _ _ hc e n => u.any e n hc) (fun b o hc e n => u.free b o e n hc) (fun b o hc e => u.there b o e hc) u.tups u.frzs u.tbls (fun m' hm => by
  obtain ⟨o', es', ep', ho', r'⟩ := hm
  rw [ho] at ho'; cases ho'
  exact ⟨_, es', ep', hL, r'⟩) hok hg
theorem Inv.turned {t' : Nat} {it : Addr} (I : Inv X pins σ H s) (k : ∀ b o, b ≠ it -> s.heap.get? b = some o -> h'.get? b = some o) (hn : H it = none) (hL : it ≠ X.env.locals)
 (h1 : it ∈ X.ex \/ X.s₀.heap.objs.size <= it) (h2 : ∀ x c, X.env.cells.lookup x = some c -> c ≠ it) (h3 : ∀ p ∈ X.pn ++ pins, p.1 ≠ it) : Inv X pins σ H { s with heap := h', toks := t' } := by
 have nit : ∀ b u, H b = some u -> b ≠ it := fun b u e z => by rw [z, hn] at e; cases e
 refine I.step (g' := s.gens) (d' := s.drawn) (ch := [it]) (fun b hb => ?_) (fun b o _ _ hc e _ => k b o (fun z => hc (by simp [z])) e) (fun b o _ _ hc e _ => ⟨o.slots, k b o (fun z => hc (by simp [z])) e⟩) (fun _ _ _ _ n => n)
  (fun b o hc e => ⟨o, k b o (fun z => hc (by simp [z])) e⟩) (fun _ _ e => e) (fun _ _ _ e => e) (fun b ps e => ⟨#[], by rw [e]; simp⟩) (fun m hm => ?_) (fun b u e => ?_) I.bare
 . have e : b = it := by simpa using hb
   subst e
   exact ⟨h1, hL, h2, h3⟩
 . obtain ⟨o, es, ep, ho, r⟩ := hm
   exact ⟨o, es, ep, k _ o (Ne.symm hL) ho, r⟩
 . refine (I.hok b u e).stay (fun c v hc q => k c v ?_ q) (fun _ q => q) fun _ _ q => q
   rcases hc with z | z
   . rw [z]; exact nit b u e
   . exact nit c _ z
theorem Inv.tok (I : Inv X pins σ H s) (t : Nat) : Inv X pins σ H { s with toks := t } := I.un (h' := s.heap) (t' := t) Un.refl I.hok
theorem Inv.kept {t' : Nat} (I : Inv X pins σ H s) (k : ∀ b u, s.heap.get? b = some u -> h'.get? b = some u) : Inv X pins σ H { s with heap := h', toks := t' } := I.un (Un.kept k) (I.hok.kept k)
theorem Inv.laid {a : Addr} {o : HO} {t' : Nat} (I : Inv X pins σ H s) (k : ∀ b u, s.heap.get? b = some u -> h'.get? b = some u) (hp : s.heap.objs.size <= a) (new : Zag X.prog X.w (upd H a o) h' a o) :
 Inv X pins σ (upd H a o) { s with heap := h', toks := t' } := I.un (Un.laid k hp (I.hok.fresh hp)) (I.hok.laid k hp new)
theorem Inv.write {x e : Addr} {o : HO} {t' : Nat} (I : Inv X pins σ H s) (mu : Mut (H x)) (he : e = x \/ H e = some (.own x)) (k : ∀ b u, b ≠ e -> s.heap.get? b = some u -> h'.get? b = some u) (heo : ∃ u, h'.get? e = some u)
 (new : Zag X.prog X.w (upd H x o) h' x o) : Inv X pins σ (upd H x o) { s with heap := h', toks := t' } := I.un (Un.write mu he k heo) (I.hok.write mu he k heo new)
theorem Inv.pins_of {pins' : List (Addr × Obj)} (I : Inv X pins σ H s) (h : ∀ p ∈ pins', s.heap.get? p.1 = some p.2 /\ H p.1 = none /\ p.1 ≠ X.env.locals /\ p.1 ∉ X.fs /\ ∀ v, p.2.data ≠ .cell v) : Inv X pins' σ H s :=
 ⟨I.ok, I.os, I.bare, I.base, I.loc, I.cell, I.free, I.freeC, fun p hp => (List.mem_append.mp hp).elim (fun z => I.pin p (List.mem_append_left _ z)) (h p), I.hok, I.len⟩
theorem ZgN {N : List Str} (hN : N.Nodup) {i j : Nat} {x : Str} (a : N[i]? = some x) (b : N[j]? = some x) : i = j := by
 obtain ⟨h1, e1⟩ := List.getElem?_eq_some_iff.mp a
 obtain ⟨h2, e2⟩ := List.getElem?_eq_some_iff.mp b
 exact (List.getElem_inj hN).mp (e1.trans e2.symm)
theorem Zl1 {M : Model} {A : Around} {E : Value -> Shared -> Prop} {i : Nat} {x : Str} {v : V} {u : Value} {Q : Unit -> Shared -> Prop} (I : Inv X pins σ H s) (hN : X.N.Nodup) (hi : X.N[i]? = some x) (hx : Loc X.env.scope x) (r : RelV v u)
 (h : ∀ s', Inv X pins (σ.set i (some v)) H s' -> (∃ a, Heap.SameBut a s.heap s'.heap /\ (a = X.env.locals \/ X.env.cells.lookup x = some a)) -> Q () s') (hf : X.fn x = true \/ X.env.scope.names.lookup x = some .local := by first | exact .inl rfl | exact .inr rfl | assumption) : wpAny M A (storeName X.env x u) Q E s := by
 obtain ⟨m, hn, hl⟩ := id I.loc
 have hcls : (X.env.scope.kind == .class || (X.env.scope.kind == .module && X.env.locals != X.env.globals)) = false := by rw [I.ok.kind]; rfl
 have hiσ : i < σ.length := by rw [I.len]; exact (List.getElem?_eq_some_iff.mp hi).1
 have cne := I.cne
 have tracked : ∀ {a : Addr} {h' : Heap}, (∃ o, s.heap.get? a = some o /\ H a = none) -> Heap.SameBut a s.heap h' -> HOk X.prog X.w H h' := fun {a h'} ha hs b ob e => by
  obtain ⟨_, _, hfree⟩ := ha
  refine (I.hok b ob e).stay (fun c w' hc q => (hs.2 c ?_).trans q) (fun _ q => q) fun _ _ q => q
  rintro rfl
  rcases hc with rfl | hc
  . rw [hfree] at e; cases e
  . rw [hfree] at hc; cases hc
 rcases hx with hk | hk
 . refine wpAny_storeName_local hk hn (fun h' hn' hs => ?_) hcls
   obtain ⟨oL, _, _, hoL, _⟩ := id hn
   refine h _ ⟨I.ok, I.os, I.bare, ⟨fun b o e n hb hx => ?_, fun b o e n hb hx => ?_, I.base.free, fun b o e hx => ?_, I.base.tups, I.base.frzs, I.base.tbls⟩, ⟨_, hn', fun j y v' e1 e2 e3 => ?_⟩, fun y c e => ?_, I.free, I.freeC, fun p hp => ?_, tracked ⟨oL, hoL, I.free⟩ hs, by simpa using I.len⟩ ⟨_, hs, .inl rfl⟩
   . exact (hs.2 b (Nat.ne_of_lt (Nat.lt_of_lt_of_le (Heap.lt_size e) I.ok.above))).trans (I.base.keep b o e n hb hx)
   . obtain ⟨sl, e1⟩ := I.base.slot b o e n hb hx
     exact ⟨sl, (hs.2 b (Nat.ne_of_lt (Nat.lt_of_lt_of_le (Heap.lt_size e) I.ok.above))).trans e1⟩
   . obtain ⟨o', e1⟩ := I.base.there b o e hx
     exact ⟨o', (hs.2 b (Nat.ne_of_lt (Nat.lt_of_lt_of_le (Heap.lt_size e) I.ok.above))).trans e1⟩
   . by_cases hj : j = i
     . subst hj
       rw [hi] at e1; cases e1
       rw [List.getElem?_set_self hiσ] at e2
       cases e2
       exact ⟨u, r, .inl ⟨hk, by simp⟩⟩
     . rw [List.getElem?_set_ne (Ne.symm hj)] at e2
       obtain ⟨u', r', q⟩ := hl j y v' e1 e2 e3
       refine ⟨u', r', ?_⟩
       rcases q with ⟨k, e⟩ | ⟨k, c, e, z⟩
       . refine .inl ⟨k, ?_⟩
         have : y ≠ x := fun e => hj (ZgN hN e1 (e ▸ hi))
         simp [this, e]
       . exact .inr ⟨k, c, e, z.sameBut hs (cne y c e)⟩
   . obtain ⟨w', z⟩ := I.cell y c e
     exact ⟨w', z.sameBut hs (cne y c e)⟩
   . obtain ⟨e, n, ne, nf, d⟩ := I.pin p hp
     exact ⟨(hs.2 p.1 ne).trans e, n, ne, nf, d⟩
 . have hfn : X.fn x = true := by
    rcases hf with z | z
    . exact z
    . rw [z] at hk; cases hk
   obtain ⟨c, hc⟩ := I.ok.has x (.inl hk)
   obtain ⟨w', z⟩ := I.cell x c hc
   refine wpAny_storeName_cell I.ok.kind hk hc z (fun h' hc' hs => ?_)
   obtain ⟨oc, hoc, hocd⟩ := id z
   refine h { s with heap := h' } ⟨I.ok, I.os, I.bare, ⟨fun b o e n hb hx => ?_, fun b o e n hb hx => ?_, I.base.free, fun b o e hx => ?_, I.base.tups, I.base.frzs, I.base.tbls⟩, ⟨m, hn.sameBut hs (Ne.symm (cne x c hc)), fun j y v' e1 e2 e3 => ?_⟩, fun y c' e => ?_, I.free, I.freeC, fun p hp => ?_, tracked ⟨oc, hoc, I.freeC x c hc⟩ hs, by simpa using I.len⟩ ⟨c, hs, .inr hc⟩
   . exact (hs.2 b (Nat.ne_of_lt (Nat.lt_of_lt_of_le (Heap.lt_size e) (I.ok.cab x c hfn hc)))).trans (I.base.keep b o e n hb hx)
   . obtain ⟨sl, e1⟩ := I.base.slot b o e n hb hx
     exact ⟨sl, (hs.2 b (Nat.ne_of_lt (Nat.lt_of_lt_of_le (Heap.lt_size e) (I.ok.cab x c hfn hc)))).trans e1⟩
   . obtain ⟨o', e1⟩ := I.base.there b o e hx
     exact ⟨o', (hs.2 b (Nat.ne_of_lt (Nat.lt_of_lt_of_le (Heap.lt_size e) (I.ok.cab x c hfn hc)))).trans e1⟩
   . by_cases hj : j = i
     . subst hj
       rw [hi] at e1; cases e1
       rw [List.getElem?_set_self hiσ] at e2
       cases e2
       exact ⟨u, r, .inr ⟨.inl hk, c, hc, hc'⟩⟩
     . rw [List.getElem?_set_ne (Ne.symm hj)] at e2
       obtain ⟨u', r', q⟩ := hl j y v' e1 e2 e3
       refine ⟨u', r', ?_⟩
       rcases q with q | ⟨k, c', e, z'⟩
       . exact .inl q
       . refine .inr ⟨k, c', e, z'.sameBut hs ?_⟩
         rintro rfl
         exact hj (ZgN hN e1 (I.ok.inj _ _ _ e hc ▸ hi))
   . by_cases hcc : c' = c
     . subst hcc; exact ⟨_, hc'⟩
     . obtain ⟨w2, z2⟩ := I.cell y c' e
       exact ⟨w2, z2.sameBut hs hcc⟩
   . obtain ⟨e, n, ne, nf, d⟩ := I.pin p hp
     refine ⟨(hs.2 p.1 ?_).trans e, n, ne, nf, d⟩
     intro q
     rw [q, hoc] at e
     have q' : oc = p.2 := Option.some.inj e
     exact d w' (by rw [<- q']; exact hocd)
theorem ZdK {M : Model} {A : Around} {E : Value -> Shared -> Prop} {i : Nat} {x : Str} {v : V} {u : Value} {Q : Unit -> Shared -> Prop} (I : Inv X pins σ H s) (hN : X.N.Nodup) (hi : X.N[i]? = some x) (hx : Loc X.env.scope x) (r : RelV v u)
 (h : ∀ s', Inv X pins (σ.set i (some v)) H s' -> Q () s') (hf : X.fn x = true \/ X.env.scope.names.lookup x = some .local := by first | exact .inl rfl | exact .inr rfl | assumption) : wpAny M A (storeName X.env x u) Q E s :=
 Zl1 I hN hi hx r (fun s' I' _ => h s' I') hf
theorem Inv.call' {s' : Shared} {ch : List Addr} (I : Inv X pins σ H s) (ho : s'.os = s.os) (u : Un (frs X.stack) ch H H' s.heap s'.heap) (hok : HOk X.prog X.w H' s'.heap) (hg : AllBare s'.gens)
 (hch : ∀ b ∈ ch, (b ∈ X.ex \/ X.s₀.heap.objs.size <= b) /\ b ≠ X.env.locals /\ (∀ x c, X.env.cells.lookup x = some c -> c ≠ b) /\ ∀ p ∈ X.pn ++ pins, p.1 ≠ b) : Inv X pins σ H' s' := by
 obtain ⟨h', g', d', t', o'⟩ := s'
 have e : o' = s.os := ho
 subst e
 exact I.call (g' := g') (t' := t') (d' := d') u hok hg hch
end
abbrev XK := Value -> Option Addr -> Hp -> Prop
noncomputable abbrev St := List (Option V)
abbrev VK := V -> Hp -> Prop
abbrev TE := St -> Hp -> VK -> Prop
abbrev TT := St -> Hp -> (Bool -> Hp -> Prop) -> Prop
abbrev TA := St -> Hp -> (List V -> Hp -> Prop) -> Prop
structure Ends where
 nx : St -> Hp -> Prop
 rt : VK
 bk : St -> Hp -> Prop := fun _ _ => False
 ct : St -> Hp -> Prop := fun _ _ => False
abbrev TS := Ends -> St -> Hp -> Prop
def EP (X : Cx) (pins : List (Addr × Obj)) (σ : St) (Q : VK) (u : Value) (s' : Shared) : Prop := ∃ v H', Inv X pins σ H' s' /\ RelV v u /\ Q v H'
def TP (X : Cx) (pins : List (Addr × Obj)) (σ : St) (Q : Bool -> Hp -> Prop) (b : Bool) (s' : Shared) : Prop := ∃ H', Inv X pins σ H' s' /\ Q b H'
def AP (X : Cx) (pins : List (Addr × Obj)) (σ : St) (Q : List V -> Hp -> Prop) (us : List Value) (s' : Shared) : Prop := ∃ vs H', Inv X pins σ H' s' /\ Vals vs us /\ Q vs H'
def SP (X : Cx) (pins : List (Addr × Obj)) (D : Ends) (f : Flow) (s' : Shared) : Prop :=
 match f with
 | .next => ∃ σ' H', Inv X pins σ' H' s' /\ D.nx σ' H'
 | .brk => ∃ σ' H', Inv X pins σ' H' s' /\ D.bk σ' H'
 | .cont => ∃ σ' H', Inv X pins σ' H' s' /\ D.ct σ' H'
 | .ret u => ∃ v σ' H', Inv X pins σ' H' s' /\ RelV v u /\ D.rt v H'
def PE (X : Cx) (e : Expr) (t : TE) : Prop :=
 ∀ (pins : List (Addr × Obj)) (s : Shared) (σ : St) (H : Hp) (Q : VK), Inv X pins σ H s -> t σ H Q -> wpAny (model X.prog X.w) X.A (eval e X.env) (EP X pins σ Q) X.xe s
def PT (X : Cx) (e : Expr) (t : TT) : Prop :=
 ∀ (pins : List (Addr × Obj)) (s : Shared) (σ : St) (H : Hp) (Q : Bool -> Hp -> Prop), Inv X pins σ H s -> t σ H Q -> wpAny (model X.prog X.w) X.A (isTrue e X.env (eval e X.env)) (TP X pins σ Q) X.xe s
def PW (X : Cx) (e : Expr) (t : TT) : Prop :=
 ∀ (whole : Sem Value) (pins : List (Addr × Obj)) (s : Shared) (σ : St) (H : Hp) (Q : Bool -> Hp -> Prop), Inv X pins σ H s -> t σ H Q -> wpAny (model X.prog X.w) X.A (isTrue e X.env whole) (TP X pins σ Q) X.xe s
theorem PW.pt {X : Cx} {e : Expr} {t : TT} (h : PW X e t) : PT X e t := h _
def PA (X : Cx) (es : List Expr) (t : TA) : Prop :=
 ∀ (pos : Pos) (pins : List (Addr × Obj)) (s : Shared) (σ : St) (H : Hp) (Q : List V -> Hp -> Prop), Inv X pins σ H s -> t σ H Q -> wpAny (model X.prog X.w) X.A (spliced (backTo pos (starEach es X.env))) (AP X pins σ Q) X.xe s
def PS (X : Cx) (st : Stmt) (t : TS) : Prop :=
 ∀ (pins : List (Addr × Obj)) (s : Shared) (σ : St) (H : Hp) (D : Ends), Inv X pins σ H s -> t D σ H -> wpAny (model X.prog X.w) X.A (exec st X.env) (SP X pins D) X.xe s
def PSs (X : Cx) (st : List Stmt) (t : TS) : Prop :=
 ∀ (pins : List (Addr × Obj)) (s : Shared) (σ : St) (H : Hp) (D : Ends), Inv X pins σ H s -> t D σ H -> wpAny (model X.prog X.w) X.A (execs st X.env) (SP X pins D) X.xe s
theorem thn {α : Type} {t : Sem α} {Q Q' : α -> Shared -> Prop} {M : Model} {A : Around} {E : Value -> Shared -> Prop} {s : Shared} (h : wpAny M A t Q E s) (hQ : ∀ a s, Q a s -> Q' a s) : wpAny M A t Q' E s := wpAny_mono h hQ fun _ _ x => x
end L2
namespace L2
open PySem PySem.Spec PyProof.Rows
section
variable {X : Cx}
theorem bin {a b : Expr} {ta tb : TE} (ha : PE X a ta) (hb : PE X b tb) {pins : List (Addr × Obj)} {s : Shared} {σ : St} {H : Hp} {R : V -> V -> Hp -> Prop} (I : Inv X pins σ H s) (h : ta σ H fun x H1 => tb σ H1 fun y H2 => R x y H2)
 {α : Type} {Q : α -> Shared -> Prop} {f : Value -> Value -> Sem α}
 (hf : ∀ v u s2 x y H2, Inv X pins σ H2 s2 -> RelV x v -> RelV y u -> R x y H2 -> wpAny (model X.prog X.w) X.A (f v u) Q X.xe s2) :
 wpAny (model X.prog X.w) X.A (eval a X.env) (fun v s₁ => wpAny (model X.prog X.w) X.A (eval b X.env) (fun u s₂ => wpAny (model X.prog X.w) X.A (f v u) Q X.xe s₂) X.xe s₁) X.xe s := by
 refine thn (ha pins s σ H _ I h) fun v s1 ⟨x, H1, I1, r1, q1⟩ => ?_
 refine thn (hb pins s1 σ H1 _ I1 q1) fun u s2 ⟨y, H2, I2, r2, q2⟩ => ?_
 exact hf v u s2 x y H2 I2 r1 r2 q2
def tVar (i : Nat) : TE := fun σ H Q => ∃ v, σ[i]? = some (some v) /\ Q v H
def tC (v : V) : TE := fun _ H Q => Q v H
theorem Zl2 {i : Nat} {x : Str} {pos : Pos} (hN : X.N[i]? = some x) (hv : Vis X.env.scope x) (hd : (x == ("__debug__" : Str)) = false := by decide) (hcd : (x == ("__classdict__" : Str)) = false := by decide) : PE X (.Name x pos) (tVar i) := by
 intro pins s σ H Q I h
 obtain ⟨v, e, h⟩ := h
 obtain ⟨m, hn, hl⟩ := I.loc
 obtain ⟨u, r, l⟩ := hl i x v hN e hv
 have fin : EP X pins σ Q u s := ⟨v, H, I, r, h⟩
 rcases l with ⟨hk, hm⟩ | ⟨hk, c, hc, hcell⟩
 . exact wpAny_Name (wpAny_loadName_local I.ok.kind hk hn hm fin) hd
 . rcases hk with hk | hk
   . exact wpAny_Name (wpAny_loadName_cell I.ok.kind hk hc hcell fin) hd
   . exact wpAny_Name (wpAny_loadName_free I.ok.kind hk hc hcell fin hcd) hd
theorem ZaN {i j pos} : PE X (.Constant (.int i) j pos) (tC (.int i)) := fun _ _ _ H _ I h => wpAny_Constant_int ⟨.int i, H, I.tok _, ⟨_, rfl⟩, h⟩
theorem ZiL {b j pos} : PE X (.Constant (.bool b) j pos) (tC (.bl b)) := fun _ _ _ H _ I h => Constant_bool ⟨.bl b, H, I, rfl, h⟩
theorem Zdh {j pos} : PE X (.Constant .none j pos) (tC .non) := fun _ _ _ H _ I h => Constant_none ⟨.non, H, I, rfl, h⟩
theorem ZiS {x j pos} : PE X (.Constant (.str x) j pos) (tC (.str x)) := fun _ _ _ H _ I h => Calls.Constant_str ⟨.str x, H, I.tok _, ⟨_, rfl⟩, h⟩
def Gl (X : Cx) (x : Str) : Prop := X.env.kindOf x = some .globalImplicit
theorem ZeD {E : Value -> Shared -> Prop} {pins : List (Addr × Obj)} {s : Shared} {σ : St} {H : Hp} {x : Str} {u : Value} {pos : Pos} {Q : Value -> Shared -> Prop} (I : Inv X pins σ H s) (hg : Gl X x) (hm : X.mg x = some u) (h : Q u s)
 (hd : (x == ("__debug__" : Str)) = false := by decide) : wpAny (model X.prog X.w) X.A (eval (.Name x pos) X.env) Q E s :=
 Calls.Name_function_global I.ok.kind hg (Calls.loadGlobal_global (by rw [I.ok.glob]; exact I.mod.glob.keeps I.bk) hm h) hd
theorem Zfm {E : Value -> Shared -> Prop} {pins : List (Addr × Obj)} {s : Shared} {σ : St} {H : Hp} {x : Str} {u : Value} {pos : Pos} {Q : Value -> Shared -> Prop} (I : Inv X pins σ H s) (hg : Gl X x) (hm : X.mg x = none) (hv : bootBuiltins x = some u) (h : Q u s)
 (hn : x ≠ "__name__" := by decide) (hd : (x == ("__debug__" : Str)) = false := by decide) : wpAny (model X.prog X.w) X.A (eval (.Name x pos) X.env) Q E s := by
 obtain ⟨mb, h1, h2⟩ := I.mod.blt
 exact Calls.Name_function_global I.ok.kind hg (Calls.loadGlobal_builtin (by rw [I.ok.glob]; exact I.mod.glob.keeps I.bk) hm (by rw [I.ok.blt]; exact h1.keeps I.bk) ((h2 x hn).trans hv) h) hd
theorem ZaQ {x : Str} {v : V} {u : Value} {pos : Pos} (hg : Gl X x) (hm : X.mg x = some u) (r : RelV v u) (hd : (x == ("__debug__" : Str)) = false := by decide) : PE X (.Name x pos) (tC v) :=
 fun _ _ _ H _ I h => ZeD I hg hm ⟨v, H, I, r, h⟩ hd
theorem Zgz {x : Str} {v : V} {u : Value} {pos : Pos} (hg : Gl X x) (hm : X.mg x = none) (hv : bootBuiltins x = some u) (r : RelV v u) (hn : x ≠ "__name__" := by decide) (hd : (x == ("__debug__" : Str)) = false := by decide) : PE X (.Name x pos) (tC v) :=
 fun _ _ _ H _ I h => Zfm I hg hm hv ⟨v, H, I, r, h⟩ hn hd
variable {a b : Expr} {ta tb : TE} {pos : Pos}
def PC (X : Cx) (op : CmpOp) (a b : Expr) (t : TE) : Prop :=
 ∀ (pins : List (Addr × Obj)) (s : Shared) (σ : St) (H : Hp) (Q : VK), Inv X pins σ H s -> t σ H Q ->
  wpAny (model X.prog X.w) X.A (eval a X.env) (fun v s₁ => wpAny (model X.prog X.w) X.A (eval b X.env) (fun u s₂ => wpAny (model X.prog X.w) X.A (compareOp op v u) (EP X pins σ Q) X.xe s₂) X.xe s₁) X.xe s
theorem Zm2 (b : Expr) {op : CmpOp} (h : op ≠ .In) (h2 : op ≠ .NotIn) : behindInMarks op b = false := by
 have e1 : (op == CmpOp.In) = false := by cases op <;> first | rfl | exact absurd rfl h
 have e2 : (op == CmpOp.NotIn) = false := by cases op <;> first | rfl | exact absurd rfl h2
 cases b <;> simp [behindInMarks, e1, e2]
def tIsN (ta : TE) : TE := fun σ H Q => ta σ H fun x H1 => Q (.bl (decide (x = .non))) H1
theorem RelV.none_iff {x : V} {v : Value} (r : RelV x v) : (v == Value.none) = decide (x = .non) := by
 cases x with
 | non => cases r; rfl
 | bl _ => cases r; rfl
 | int _ => obtain ⟨t, rfl⟩ := r; rfl
 | str _ => obtain ⟨t, rfl⟩ := r; rfl
 | byt _ => obtain ⟨t, rfl⟩ := r; rfl
 | flt _ => obtain ⟨t, rfl⟩ := r; rfl
 | ref _ => cases r; rfl
 | ty _ => cases r; rfl
theorem Zp4 {j pos'} (ha : PE X a ta) : PC X .Is a (.Constant .none j pos') (tIsN ta) := by
 intro pins s σ H Q I h
 refine thn (ha pins s σ H _ I h) fun v s1 ⟨x, H1, I1, r1, q1⟩ => ?_
 exact Constant_none (is_none_gen ⟨.bl _, H1, I1, by rw [r1.none_iff]; rfl, q1⟩)
def tB (t : TE) : TT := fun σ H Q => t σ H fun x H1 => ∃ c, x = .bl c /\ Q c H1
theorem Zp5 {op : CmpOp} {t : TE} (h : PC X op a b t) (h1 : behindInMarks op b = false := by first | exact Zm2 _ (by decide) (by decide) | rfl) : PT X (.Compare a [op] [b] pos) (tB t) := by
 intro pins s σ H Q I hw
 refine wpAny_isTrue_Compare1 (thn (h pins s σ H _ I hw) fun v s1 h1 => thn h1 fun u s2 h2 => thn h2 fun c s3 ⟨x, H1, I1, r1, q1⟩ => ?_) h1
 obtain ⟨d, rfl, q⟩ := q1
 cases r1
 exact wpAny_truthy_bool ⟨H1, I1, q⟩
variable {tA tB' : TT} {rest : List Expr}
def tAnd (t u : TT) : TT := fun σ H Q => t σ H fun c H1 => if c = true then u σ H1 Q else Q false H1
def tOr (t u : TT) : TT := fun σ H Q => t σ H fun c H1 => if c = true then Q true H1 else u σ H1 Q
def tNot (t : TT) : TT := fun σ H Q => t σ H fun c H1 => Q (!c) H1
theorem ZnW (ha : PT X a tA) : PW X (.BoolOp .And [a] pos) tA := by
 intro wh pins s σ H Q I h
 refine isTrue_and (thn (ha pins s σ H Q I h) fun c s1 e => ?_)
 cases c with
 | true => exact isTrue_and_nil e
 | false => exact e
theorem Zp6 (ha : PT X a tA) : PW X (.BoolOp .Or [a] pos) tA := by
 intro wh pins s σ H Q I h
 refine isTrue_or (thn (ha pins s σ H Q I h) fun c s1 e => ?_)
 cases c with
 | false => exact isTrue_or_nil e
 | true => exact e
theorem Zp7 (ha : PT X a tA) (hb : PW X (.BoolOp .And (b :: rest) pos) tB') : PW X (.BoolOp .And (a :: b :: rest) pos) (tAnd tA tB') := by
 intro wh pins s σ H Q I h
 refine isTrue_and (thn (ha pins s σ H _ I h) fun c s1 ⟨H1, I1, q1⟩ => ?_)
 cases c with
 | true => exact hb wh pins s1 σ H1 Q I1 q1
 | false => exact ⟨H1, I1, q1⟩
theorem Zrx (ha : PT X a tA) (hb : PW X (.BoolOp .Or (b :: rest) pos) tB') : PW X (.BoolOp .Or (a :: b :: rest) pos) (tOr tA tB') := by
 intro wh pins s σ H Q I h
 refine isTrue_or (thn (ha pins s σ H _ I h) fun c s1 ⟨H1, I1, q1⟩ => ?_)
 cases c with
 | true => exact ⟨H1, I1, q1⟩
 | false => exact hb wh pins s1 σ H1 Q I1 q1
theorem Zp8 (ha : PT X a tA) : PT X (.UnaryOp .Not a pos) (tNot tA) := by
 intro pins s σ H Q I h
 exact isTrue_not (ha pins s σ H (fun c H1 => Q (!c) H1) I h)
def Zry (ta tb : TE) : TE := fun σ H Q => ta σ H fun x H1 => ∃ c, x = .bl c /\ if c = true then tb σ H1 Q else Q (.bl false) H1
def tOrV (ta tb : TE) : TE := fun σ H Q => ta σ H fun x H1 => ∃ c, x = .bl c /\ if c = true then Q (.bl true) H1 else tb σ H1 Q
def Zrz (ta : TE) : TE := fun σ H Q => ta σ H fun x H1 => ∃ c, x = .bl c /\ Q (.bl (!c)) H1
theorem Zp9 {op} {t : TE} (h : PE X a t) : PE X (.BoolOp op [a] pos) t := fun pins s σ H Q I hw => BoolOp_one (h pins s σ H Q I hw)
theorem ZpA (ha : PE X a ta) (hb : PE X (.BoolOp .And (b :: rest) pos) tb) : PE X (.BoolOp .And (a :: b :: rest) pos) (Zry ta tb) := by
 intro pins s σ H Q I h
 refine BoolOp_and (thn (ha pins s σ H _ I h) fun v s1 ⟨x, H1, I1, r1, q1⟩ => ?_)
 obtain ⟨c, rfl, q1⟩ := q1
 cases r1
 refine wpAny_truthy_bool ?_
 cases c with
 | true => exact hb pins s1 σ H1 Q I1 q1
 | false => exact ⟨.bl false, H1, I1, rfl, q1⟩
theorem Zr0 (ha : PE X a ta) (hb : PE X (.BoolOp .Or (b :: rest) pos) tb) : PE X (.BoolOp .Or (a :: b :: rest) pos) (tOrV ta tb) := by
 intro pins s σ H Q I h
 refine BoolOp_or (thn (ha pins s σ H _ I h) fun v s1 ⟨x, H1, I1, r1, q1⟩ => ?_)
 obtain ⟨c, rfl, q1⟩ := q1
 cases r1
 refine wpAny_truthy_bool ?_
 cases c with
 | false => exact hb pins s1 σ H1 Q I1 q1
 | true => exact ⟨.bl true, H1, I1, rfl, q1⟩
theorem ZpB (ha : PE X a ta) : PE X (.UnaryOp .Not a pos) (Zrz ta) := by
 intro pins s σ H Q I h
 refine UnaryOp_ (thn (ha pins s σ H _ I h) fun v s1 ⟨x, H1, I1, r1, q1⟩ => ?_)
 obtain ⟨c, rfl, q1⟩ := q1
 cases r1
 exact not_of (wpAny_truthy_bool ⟨.bl (!c), H1, I1, rfl, q1⟩)
def tIf (t : TT) (ta tb : TE) : TE := fun σ H Q => t σ H fun c H1 => if c = true then ta σ H1 Q else tb σ H1 Q
theorem Zm3 {c : Expr} (hc : PT X c tA) (ha : PE X a ta) (hb : PE X b tb) : PE X (.IfExp c a b pos) (tIf tA ta tb) := by
 intro pins s σ H Q I h
 refine wpAny_IfExp (thn (hc pins s σ H _ I h) fun d s1 ⟨H1, I1, q1⟩ => ?_)
 cases d with
 | true => exact ha pins s1 σ H1 Q I1 q1
 | false => exact hb pins s1 σ H1 Q I1 q1
end
end L2
namespace L2
open PySem PySem.Spec PyProof.Rows
def SqL (K : Fg) (H : Hp) (a : Addr) (xs : List V) : Prop :=
 Rd H a (.lst xs) \/
  ∃ (o : Obj) (its : Array Value) (n : Nat), K.lookup a = some o /\ o.cls = .type "list" /\ o.dict = none /\ o.data = .seq its n /\ its.size <= sizeLine /\ Vals xs its.toList
def SqT (K : Fg) (H : Hp) (a : Addr) (xs : List V) : Prop :=
 Rd H a (.tup xs) \/
  ∃ (o : Obj) (its : Array Value) (n : Nat), K.lookup a = some o /\ o.cls = .type "tuple" /\ o.data = .seq its n /\ its.size <= sizeLine /\ Vals xs its.toList
noncomputable def absV : Value -> Option V
 | .none => some .non
 | .bool b => some (.bl b)
 | .int i _ => some (.int i)
 | .str x _ => some (.str x)
 | .bytes b _ => some (.byt b)
 | .float b _ => some (.flt b)
 | .ref a => some (.ref a)
 | .type n => some (.ty n)
 | _ => none
theorem RelV.abs {x : V} {u : Value} (r : RelV x u) : absV u = some x := by
 cases x with
 | non => cases r; rfl
 | bl _ => cases r; rfl
 | int _ => obtain ⟨t, rfl⟩ := r; rfl
 | str _ => obtain ⟨t, rfl⟩ := r; rfl
 | byt _ => obtain ⟨t, rfl⟩ := r; rfl
 | flt _ => obtain ⟨t, rfl⟩ := r; rfl
 | ref _ => cases r; rfl
 | ty _ => cases r; rfl
theorem RelV.inj {x y : V} {u : Value} (r : RelV x u) (q : RelV y u) : x = y := Option.some.inj (r.abs.symm.trans q.abs)
theorem Vals.inj : ∀ {xs ys : List V} {us : List Value}, Vals xs us -> Vals ys us -> xs = ys
 | _, _, _, .nil, .nil => rfl
 | _, _, _, .cons r t, .cons r' t' => by rw [r.inj r', Vals.inj t t']
section
variable {X : Cx} {pins : List (Addr × Obj)} {σ : St} {H : Hp} {s : Shared} {a : Addr} {xs ys : List V}
theorem Inv.list (I : Inv X pins σ H s) (h : SqL X.K H a xs) : ∃ its : List Value, Vals xs its /\ PlainL s.heap a its.toArray /\ xs.length <= sizeLine := by
 rcases h with h | ⟨o, its, n, hk, hc, hd, hs, hz, r⟩
 . obtain ⟨z, its, n, r, e⟩ := h.ok I.hok
   exact ⟨its, r, ⟨_, n, e, rfl, rfl, rfl⟩, z⟩
 . refine ⟨its.toList, r, ⟨o, n, I.kIn a o hk, hc, hd, by simpa using hs⟩, ?_⟩
   have e := r.length
   simp only [Array.length_toList] at e
   omega
theorem Inv.tuple (I : Inv X pins σ H s) (h : SqT X.K H a xs) : ∃ its : List Value, Vals xs its /\ IsTup s.heap a its.toArray /\ xs.length <= sizeLine := by
 rcases h with h | ⟨o, its, n, hk, hc, hs, hz, r⟩
 . obtain ⟨z, its, r, p⟩ := h.ok I.hok
   exact ⟨its, r, p, z⟩
 . refine ⟨its.toList, r, ⟨o, I.kIn a o hk, hc, n, by simpa using hs⟩, ?_⟩
   have e := r.length
   simp only [Array.length_toList] at e
   omega
theorem Inv.list_inj (I : Inv X pins σ H s) (h : SqL X.K H a xs) (h' : SqL X.K H a ys) : xs = ys := by
 obtain ⟨its, r, ⟨o, n, e, _, _, d⟩, _⟩ := I.list h
 obtain ⟨its', r', ⟨o', n', e', _, _, d'⟩, _⟩ := I.list h'
 rw [e] at e'; cases e'
 rw [d] at d'
 injection d' with d1 _
 have : its = its' := by simpa using congrArg Array.toList d1
 subst this
 exact r.inj r'
theorem Inv.tuple_inj (I : Inv X pins σ H s) (h : SqT X.K H a xs) (h' : SqT X.K H a ys) : xs = ys := by
 obtain ⟨its, r, ⟨o, e, _, n, d⟩, _⟩ := I.tuple h
 obtain ⟨its', r', ⟨o', e', _, n', d'⟩, _⟩ := I.tuple h'
 rw [e] at e'; cases e'
 rw [d] at d'
 injection d' with d1 _
 have : its = its' := by simpa using congrArg Array.toList d1
 subst this
 exact r.inj r'
end
noncomputable abbrev Cx.wish (X : Cx) (E : Value -> Shared -> Prop) : Cx := { X with xe := E }
noncomputable abbrev Cx.nox (X : Cx) : Cx := X.wish fun _ _ => False
theorem Cx.Ok.wish {X : Cx} (ok : X.Ok) (E : Value -> Shared -> Prop) : (X.wish E).Ok :=
 ⟨ok.mod, ok.kind, ok.glob, ok.blt, ok.above, ok.inj, ok.has, ok.cab, ok.hd, ok.frames, ok.stk, ok.exf, ok.bs, ok.bsz, ok.noex, ok.exfs, ok.funs, ok.frf⟩
theorem Cx.Ok.unwish {X : Cx} {E : Value -> Shared -> Prop} (ok : (X.wish E).Ok) : X.Ok :=
 ⟨ok.mod, ok.kind, ok.glob, ok.blt, ok.above, ok.inj, ok.has, ok.cab, ok.hd, ok.frames, ok.stk, ok.exf, ok.bs, ok.bsz, ok.noex, ok.exfs, ok.funs, ok.frf⟩
section
variable {X : Cx} {pins : List (Addr × Obj)} {σ : St} {H : Hp} {s : Shared} {E : Value -> Shared -> Prop}
theorem Inv.wish (I : Inv X pins σ H s) (E : Value -> Shared -> Prop) : Inv (X.wish E) pins σ H s := ⟨I.ok.wish E, I.os, I.bare, I.base, I.loc, I.cell, I.free, I.freeC, I.pin, I.hok, I.len⟩
theorem Inv.unwish (I : Inv (X.wish E) pins σ H s) : Inv X pins σ H s := ⟨I.ok.unwish, I.os, I.bare, I.base, I.loc, I.cell, I.free, I.freeC, I.pin, I.hok, I.len⟩
theorem SP.unwish {D : Ends} {f : Flow} {s' : Shared} (h : SP (X.wish E) pins D f s') : SP X pins D f s' := by
 cases f with
 | next => obtain ⟨σ', H', I, q⟩ := h; exact ⟨σ', H', I.unwish, q⟩
 | brk => obtain ⟨σ', H', I, q⟩ := h; exact ⟨σ', H', I.unwish, q⟩
 | cont => obtain ⟨σ', H', I, q⟩ := h; exact ⟨σ', H', I.unwish, q⟩
 | ret u => obtain ⟨v, σ', H', I, r, q⟩ := h; exact ⟨v, σ', H', I.unwish, r, q⟩
theorem PSs.nox {st : List Stmt} {t : TS} (h : PSs X.nox st t) : PSs X st t := fun pins s σ H D I hw =>
 wpAny_mono (h pins s σ H D (I.wish _) hw) (fun _ _ q => q.unwish) fun _ _ z => False.elim z
end
section
variable {X : Cx} {st : Stmt} {rest : List Stmt} {t u : TS} {e : Expr} {te : TE} {pos : Pos}
def Zr1 : TS := fun D σ H => D.nx σ H
def tSeq (t u : TS) : TS := fun D σ H => t { D with nx := u D } σ H
theorem ZnX : PSs X [] Zr1 := fun _ _ σ H _ I h => wpAny_execs_nil ⟨σ, H, I, h⟩
theorem Zm4 (h1 : PS X st t) (h2 : PSs X rest u) : PSs X (st :: rest) (tSeq t u) := by
 intro pins s σ H D I h
 refine wpAny_execs_cons (thn (h1 pins s σ H { D with nx := u D } I h) fun f s1 q => ?_)
 cases f with
 | next =>
  obtain ⟨σ', H', I', q⟩ := q
  exact h2 pins s1 σ' H' D I' q
 | ret v => exact q
 | brk => exact q
 | cont => exact q
theorem Inv.quiet {pins : List (Addr × Obj)} {σ : St} {H : Hp} {s : Shared} (I : Inv X pins σ H s) : interactive X.env = false := by simp [interactive, I.ok.kind]
def Zr2 (te : TE) : TS := fun D σ H => te σ H fun _ H1 => D.nx σ H1
theorem ZnY (he : PE X e te) (hs : swapsWith e none pos.line X.env = pure false := by rfl) : PS X (.Expr e pos) (Zr2 te) := by
 intro pins s σ H D I h
 exact wpAny_Expr_any (thn (he pins s σ H _ I h) fun v s1 ⟨x, H1, I1, r1, q1⟩ => ⟨σ, H1, I1, q1⟩) I.quiet hs
def tRet (te : TE) : TS := fun D σ H => te σ H D.rt
theorem ZpC (he : PE X e te) : PS X (.Return (some e) pos) (tRet te) := by
 intro pins s σ H D I h
 exact wpAny_Return_some (thn (he pins s σ H _ I h) fun v s1 ⟨x, H1, I1, r1, q1⟩ => ⟨x, σ, H1, I1, r1, q1⟩)
def tIfS (c : TT) (t u : TS) : TS := fun D σ H => c σ H fun b H1 => if b = true then t D σ H1 else u D σ H1
theorem Zr3 {c : Expr} {a b : List Stmt} {tc : TT} (hc : PT X c tc) (ha : PSs X a t) (hb : PSs X b u) : PS X (.If c a b pos) (tIfS tc t u) := by
 intro pins s σ H D I h
 refine wpAny_If (thn (hc pins s σ H _ I h) fun d s1 ⟨H1, I1, q1⟩ => ?_)
 cases d with
 | true => exact ha pins s1 σ H1 D I1 q1
 | false => exact hb pins s1 σ H1 D I1 q1
end
abbrev TG := V -> St -> Hp -> (St -> Hp -> Prop) -> Prop
abbrev TGs := List V -> St -> Hp -> (St -> Hp -> Prop) -> Prop
def PG (X : Cx) (target : Expr) (t : TG) : Prop :=
 ∀ (pins : List (Addr × Obj)) (s : Shared) (σ : St) (H : Hp) (v : V) (u : Value) (Q : St -> Hp -> Prop), Inv X pins σ H s -> RelV v u -> t v σ H Q ->
  wpAny (model X.prog X.w) X.A (assign target X.env u) (fun _ s' => ∃ σ' H', Inv X pins σ' H' s' /\ Q σ' H') X.xe s
def PGs (X : Cx) (ts : List Expr) (t : TGs) : Prop :=
 ∀ (pins : List (Addr × Obj)) (s : Shared) (σ : St) (H : Hp) (vs : List V) (us : List Value) (Q : St -> Hp -> Prop), Inv X pins σ H s -> Vals vs us -> t vs σ H Q ->
  wpAny (model X.prog X.w) X.A (assignInOrder ((assignEach ts X.env).map (·.2)) us) (fun _ s' => ∃ σ' H', Inv X pins σ' H' s' /\ Q σ' H') X.xe s
abbrev TSet := V -> V -> V -> Hp -> (Hp -> Prop) -> Prop
def PSet (X : Cx) (t : TSet) : Prop :=
 ∀ (pins : List (Addr × Obj)) (s : Shared) (σ : St) (H : Hp) (o i v : V) (ov iv u : Value) (Q : Hp -> Prop), Inv X pins σ H s -> RelV o ov -> RelV i iv -> RelV v u -> t o i v H Q ->
  wpAny (model X.prog X.w) X.A (setItem ov iv u) (fun _ s' => ∃ H', Inv X pins σ H' s' /\ Q H') X.xe s
section
variable {X : Cx} {pos : Pos}
noncomputable def Zfc (i : Nat) : TG := fun v σ H Q => Q (σ.set i (some v)) H
theorem Zkr {i : Nat} {x : Str} (hN : X.N.Nodup) (hi : X.N[i]? = some x) (hx : Loc X.env.scope x) (hf : X.fn x = true \/ X.env.scope.names.lookup x = some .local := by first | exact .inl rfl | exact .inr rfl | assumption) : PG X (.Name x pos) (Zfc i) := by
 intro pins s σ H v u Q I r h
 exact wpAny_assign_Name (ZdK I hN hi hx r (fun s' I' => ⟨_, H, I', h⟩) hf)
noncomputable def gNil : TGs := fun vs σ H Q => vs = [] /\ Q σ H
noncomputable def Zn5 (t : TG) (u : TGs) : TGs := fun vs σ H Q => ∃ v r, vs = v :: r /\ t v σ H fun σ' H' => u r σ' H' Q
theorem ZnZ : PGs X [] gNil := by
 intro pins s σ H vs us Q I r h
 obtain ⟨e, h⟩ := h
 subst e
 cases r
 exact assignInOrder_nil ⟨σ, H, I, h⟩
theorem Zm5 {e : Expr} {es : List Expr} {t : TG} {u : TGs} (h1 : PG X e t) (h2 : PGs X es u)
 (hs : (assignEach (e :: es) X.env).map (·.2) = assign e X.env :: (assignEach es X.env).map (·.2) := by rfl) : PGs X (e :: es) (Zn5 t u) := by
 intro pins s σ H vs us Q I r h
 obtain ⟨v, vr, e1, h⟩ := h
 subst e1
 cases r with
 | cons r rr =>
  rw [hs]
  refine assignInOrder_cons (thn (h1 pins s σ H _ _ _ I r h) fun _ s1 ⟨σ1, H1, I1, q1⟩ => ?_)
  exact h2 pins s1 σ1 H1 _ _ Q I1 rr q1
noncomputable def gTup (K : Fg) (n : Nat) (t : TGs) : TG := fun v σ H Q => ∃ a xs, v = .ref a /\ SqT K H a xs /\ xs.length = n /\ t xs σ H Q
theorem ZpD {es : List Expr} {k : Nat} {t : TGs} {n : Nat} (hc : X.calm = true) (h : PGs X es t)
 (hn : (assignEach es X.env).length = n := by rfl) (hst : (assignEach es X.env).findIdx? (·.1) = none := by rfl) : PG X (.Tuple es k pos) (gTup X.K n t) := by
 intro pins s σ H v u Q I r hw
 obtain ⟨a, xs, e1, hq, hl, hw⟩ := hw
 subst e1
 cases r
 obtain ⟨its, rv, ht, hz⟩ := I.tuple hq
 refine assign_Tuple_tuple (I.ok.hd hc) ht (by simp [hn, <- hl, rv.length]) hst fun h' hx => ?_
 have I1 : Inv X pins σ H { s with heap := h' } := I.kept (t' := s.toks) fun b o e => hx b o (Nat.ne_of_lt (Heap.lt_size e)) e
 exact h pins _ σ H xs _ Q I1 (by simpa using rv) hw
noncomputable def gSub (to ti : TE) (t : TSet) : TG := fun v σ H Q => to σ H fun o H1 => ti σ H1 fun i H2 => t o i v H2 fun H3 => Q σ H3
theorem ZpE {o i : Expr} {to ti : TE} {t : TSet} (ho : PE X o to) (hi : PE X i ti) (hs : PSet X t)
 (ha : ∀ v, assign (.Subscript o i pos) X.env v = (do
  let ov <- holding [v] (eval o X.env)
  let iv <- holding [v, ov] (eval i X.env)
  standAt pos
  holding [v, ov, iv] (setItem ov iv v)
  release [v, ov, iv] []) := by intro _; rfl) : PG X (.Subscript o i pos) (gSub to ti t) := by
 intro pins s σ H v u Q I r h
 rw [ha]
 refine wpAny_bind (wpAny_holding (thn (ho pins s σ H _ I h) fun ov s1 ⟨x, H1, I1, r1, q1⟩ => ?_))
 refine wpAny_bind (wpAny_holding (thn (hi pins s1 σ H1 _ I1 q1) fun iv s2 ⟨y, H2, I2, r2, q2⟩ => ?_))
 refine wpAny_bind (wpAny_standAt (wpAny_bind (wpAny_holding (thn (hs pins s2 σ H2 x y v ov iv u _ I2 r1 r2 r q2) fun _ s3 ⟨H3, I3, q3⟩ => ?_))))
 exact wpAny_release ⟨σ, H3, I3, q3⟩
def tAsg (te : TE) (g : TG) : TS := fun D σ H => te σ H fun x H1 => g x σ H1 D.nx
theorem Zl3 {tg e : Expr} {te : TE} {g : TG} (he : PE X e te) (hg : PG X tg g) (hs : swapsWithSole [tg] e pos.line X.env = pure false := by rfl) (hw : swappedStores [tg] e X.env = pure none := by rfl)
 (h1 : (assignEach [tg] X.env).map (·.2) = [assign tg X.env] := by rfl) : PS X (.Assign [tg] e pos) (tAsg te g) := by
 intro pins s σ H D I h
 refine wpAny_Assign_stores (thn (he pins s σ H _ I h) fun v s1 ⟨x, H1, I1, r1, q1⟩ => ?_) hs hw
 rw [h1]
 exact thn (hg pins s1 σ H1 x v _ I1 r1 q1) fun _ s2 q => q
theorem ZpF {i : Nat} {x : Str} {e : Expr} {te : TE} {pos' : Pos} (hN : X.N.Nodup) (hi : X.N[i]? = some x) (hx : Loc X.env.scope x) (he : PE X e te) (hs : swapsWith e (some (.Name x pos')) pos.line X.env = pure false := by rfl) (hf : X.fn x = true \/ X.env.scope.names.lookup x = some .local := by first | exact .inl rfl | exact .inr rfl | assumption) :
 PS X (.Assign [.Name x pos'] e pos) (tAsg te (Zfc i)) := by
 intro pins s σ H D I h
 refine wpAny_Assign_Name (thn (he pins s σ H _ I h) fun v s1 ⟨y, H1, I1, r1, q1⟩ => ?_) hs
 exact ZdK I1 hN hi hx r1 (fun s2 I2 => ⟨_, H1, I2, q1⟩) hf
end
structure It where
 go : Nat -> Hp -> Prop
 yld : Nat -> Hp -> V -> Hp -> Prop
 stop : Nat -> Hp -> Prop
def FpOk (X : Cx) (pins : List (Addr × Obj)) (H : Hp) (b : Addr) : Prop :=
 H b = none /\ b ≠ X.env.locals /\ b ∉ X.fs /\ (b ∈ X.ex \/ X.s₀.heap.objs.size <= b) /\ (∀ x c, X.env.cells.lookup x = some c -> c ≠ b) /\ ∀ p ∈ X.pn ++ pins, p.1 ≠ b
theorem Inv.fpOk {X : Cx} {pins : List (Addr × Obj)} {σ : St} {H H' : Hp} {s : Shared} {b : Addr} (I : Inv X pins σ H s) (hb : s.heap.objs.size <= b) (hn : H' b = none) : FpOk X pins H' b := by
 refine ⟨hn, Nat.ne_of_gt (Nat.lt_of_lt_of_le I.lt hb), I.nofs hb, .inr (Nat.le_trans I.sz hb), fun x c e z => ?_, fun p hp z => ?_⟩
 . obtain ⟨v, q⟩ := I.cell x c e
   exact absurd (Nat.lt_of_lt_of_le q.lt (by rw [z]; exact hb)) (Nat.lt_irrefl _)
 . exact absurd (Nat.lt_of_lt_of_le (Heap.lt_size (I.pin p hp).1) (by rw [z]; exact hb)) (Nat.lt_irrefl _)
structure Turn (P : Program) (w : World) (K : Fg) (tg : Expr) (J : It) (fp : List Addr) (it : Addr) (tn : Nat -> Heap -> Prop) : Prop where
 mem : it ∈ fp
 obj : ∀ i h, tn i h -> ∀ b ∈ fp, ∃ o, h.get? b = some o /\ ∀ v, o.data ≠ .cell v
 keep : ∀ i h h', tn i h -> (∀ b ∈ fp, ∀ o, h.get? b = some o -> h'.get? b = some o) -> tn i h'
 item : ∀ (X : Cx), X.prog = P -> X.w = w -> X.K = K -> X.calm = true -> ∀ (i : Nat) (pins : List (Addr × Obj)) (s : Shared) (σ : St) (H : Hp) (E : Value -> Shared -> Prop), Inv X pins σ H s -> (∀ b ∈ fp, FpOk X pins H b) -> tn i s.heap -> J.go i H ->
  wpAny (model P w) X.A (pyNext (.ref it)) (fun r s1 => ∃ u, r = some u /\
   wpAny (model P w) X.A (letOwnedTupleGo tg (.ref it) u) (fun _ s2 => ∃ x H', Inv X pins σ H' s2 /\ RelV x u /\ J.yld i H x H' /\ tn (i + 1) s2.heap /\ ∀ b ∈ fp, H' b = none) E s1) E s
 done : ∀ (X : Cx), X.prog = P -> X.w = w -> X.K = K -> X.calm = true -> ∀ (i : Nat) (pins : List (Addr × Obj)) (s : Shared) (σ : St) (H : Hp) (E : Value -> Shared -> Prop), Inv X pins σ H s -> (∀ b ∈ fp, FpOk X pins H b) -> tn i s.heap -> J.stop i H ->
  wpAny (model P w) X.A (pyNext (.ref it)) (fun r s1 => r = none /\ Inv X pins σ H s1) E s
 self : ∀ (A : Around) (i : Nat) (s : Shared) (Q : Value -> Shared -> Prop) (E : Value -> Shared -> Prop), tn i s.heap -> Q (.ref it) s -> wpAny (model P w) A (pyIter (.ref it)) Q E s
abbrev TI := St -> Hp -> (It -> Hp -> Prop) -> Prop
def PIE (X : Cx) (pins : List (Addr × Obj)) (σ : St) (tg : Expr) (R : It -> Hp -> Prop) (itv : Value) (s2 : Shared) : Prop :=
 ∃ (it : Addr) (fp : List Addr) (tn : Nat -> Heap -> Prop) (J : It) (H' : Hp), itv = .ref it /\ Inv X pins σ H' s2 /\ Turn X.prog X.w X.K tg J fp it tn /\ tn 0 s2.heap /\ (∀ b ∈ fp, FpOk X pins H' b) /\ R J H'
def PI (X : Cx) (tg iter : Expr) (wi : TI) : Prop :=
 ∀ (pins : List (Addr × Obj)) (s : Shared) (σ : St) (H : Hp) (R : It -> Hp -> Prop), Inv X pins σ H s -> wi σ H R ->
  wpAny (model X.prog X.w) X.A (eval iter X.env) (fun v s1 => wpAny (model X.prog X.w) X.A (pyIter v) (PIE X pins σ tg R) X.xe s1) X.xe s
theorem ZiM {M : Model} {A : Around} {E : Value -> Shared -> Prop} {s : Shared} {tg : Expr} {it : Addr} {u : Value} {o : Obj} {n : String} {vs : Array Value} {Q : Unit -> Shared -> Prop} (ho : s.heap.get? it = some o) (hc : o.cls = .type n) (hd : o.data = .fields vs)
 (hn : ["enumerate", "zip", "dict_itemiterator", "dict_reverseitemiterator", "odict_iterator", "itertools.zip_longest", "itertools.pairwise"].contains n = false) (hQ : Q () s) : wpAny M A (letOwnedTupleGo tg (.ref it) u) Q E s := by
 unfold letOwnedTupleGo
 cases tg <;> first
  | exact wpAny_pure hQ
  | (cases u <;> first
   | exact wpAny_pure hQ
   | (refine wpAny_bind (wpAny_load ho ?_)
      rw [hc, hd]
      show wpAny M A (if (["enumerate", "zip", "dict_itemiterator", "dict_reverseitemiterator", "odict_iterator", "itertools.zip_longest", "itertools.pairwise"].contains n && vs[0]? == some (rawInt _)) = true then _ else _) Q E s
      rw [if_neg (by intro h; rw [hn, Bool.false_and] at h; cases h)]
      exact wpAny_pure hQ))
noncomputable def Itl (K : Fg) (a : Addr) : It :=
 ⟨fun i H => ∃ xs x, SqL K H a xs /\ xs[i]? = some x, fun i H x H' => H' = H /\ ∀ xs, SqL K H a xs -> xs[i]? = some x, fun i H => ∃ xs, SqL K H a xs /\ xs.length <= i⟩
noncomputable def Itt (K : Fg) (a : Addr) : It :=
 ⟨fun i H => ∃ xs x, SqT K H a xs /\ xs[i]? = some x, fun i H x H' => H' = H /\ ∀ xs, SqT K H a xs -> xs[i]? = some x, fun i H => ∃ xs, SqT K H a xs /\ xs.length <= i⟩
noncomputable def Itr (lo : Int) (n : Nat) : It := ⟨fun i _ => i < n, fun i H x H' => H' = H /\ x = .int (lo + i), fun i _ => n <= i⟩
theorem Zl4 {P : Program} {w : World} {K : Fg} {tg : Expr} (a it : Addr) : Turn P w K tg (Itl K a) [it] it (fun i h => h.IsListIter it a i) where
 mem := by simp
 obj := fun i h st b hb => by
  have e : b = it := by simpa using hb
  subst e
  obtain ⟨o, e, c, d⟩ := st
  exact ⟨o, e, fun v z => by rw [d] at z; cases z⟩
 keep := fun i h h' st k => st.at fun o e => k it (by simp) o e
 item := by
  intro X hP hw hK hc i pins s σ H E I hf st hg
  subst hP hw hK
  obtain ⟨xs, x, hq, hx⟩ := hg
  obtain ⟨its, rv, p, hz⟩ := I.list hq
  obtain ⟨u, hu, ru⟩ := rv.get hx
  obtain ⟨f0, f1, f2, f3, f4, f5⟩ := hf it (by simp)
  refine wpAny_pyNext_list_item st p.isList (x := u) (by simpa using hu) fun h' st' sb => ?_
  have I1 : Inv X pins σ H { s with heap := h' } := I.turned (t' := s.toks) (fun b o hb e => (sb.2 b hb).trans e) f0 f1 f3 f4 f5
  obtain ⟨o, e, c, d⟩ := id st'
  exact ⟨u, rfl, ZiM (s := { s with heap := h' }) e c d (by decide) ⟨x, H, I1, ru, ⟨rfl, fun ys hy => by rw [I.list_inj hy hq]; exact hx⟩, st', fun b hb => (hf b hb).1⟩⟩
 done := by
  intro X hP hw hK hc i pins s σ H E I hf st hg
  subst hP hw hK
  obtain ⟨xs, hq, hx⟩ := hg
  obtain ⟨its, rv, p, hz⟩ := I.list hq
  obtain ⟨f0, f1, f2, f3, f4, f5⟩ := hf it (by simp)
  have hl := rv.length
  exact wpAny_pyNext_list_end (I.ok.hd hc) st p.isList (by simp; omega) fun h' eb => ⟨rfl, I.turned (t' := s.toks) (fun b o hb e => eb b o hb e) f0 f1 f3 f4 f5⟩
 self := fun _ _ _ _ _ st h => wpAny_pyIter_listiter st h
theorem ZkM {P : Program} {w : World} {K : Fg} {tg : Expr} (a it : Addr) : Turn P w K tg (Itt K a) [it] it (fun i h => h.IsTupleIter it a i) where
 mem := by simp
 obj := fun i h st b hb => by
  have e : b = it := by simpa using hb
  subst e
  obtain ⟨o, e, c, d⟩ := st
  exact ⟨o, e, fun v z => by rw [d] at z; cases z⟩
 keep := fun i h h' st k => st.at fun o e => k it (by simp) o e
 item := by
  intro X hP hw hK hc i pins s σ H E I hf st hg
  subst hP hw hK
  obtain ⟨xs, x, hq, hx⟩ := hg
  obtain ⟨its, rv, p, hz⟩ := I.tuple hq
  obtain ⟨u, hu, ru⟩ := rv.get hx
  obtain ⟨f0, f1, f2, f3, f4, f5⟩ := hf it (by simp)
  refine wpAny_pyNext_tuple_item st (show s.heap.IsTuple a its.toArray from p) (x := u) (by simpa using hu) fun h' st' sb => ?_
  have I1 : Inv X pins σ H { s with heap := h' } := I.turned (t' := s.toks) (fun b o hb e => (sb.2 b hb).trans e) f0 f1 f3 f4 f5
  obtain ⟨o, e, c, d⟩ := id st'
  exact ⟨u, rfl, ZiM (s := { s with heap := h' }) e c d (by decide) ⟨x, H, I1, ru, ⟨rfl, fun ys hy => by rw [I.tuple_inj hy hq]; exact hx⟩, st', fun b hb => (hf b hb).1⟩⟩
 done := by
  intro X hP hw hK hc i pins s σ H E I hf st hg
  subst hP hw hK
  obtain ⟨xs, hq, hx⟩ := hg
  obtain ⟨its, rv, p, hz⟩ := I.tuple hq
  obtain ⟨f0, f1, f2, f3, f4, f5⟩ := hf it (by simp)
  have hl := rv.length
  exact wpAny_pyNext_tuple_end (I.ok.hd hc) st (show s.heap.IsTuple a its.toArray from p) (by simp; omega) fun h' eb => ⟨rfl, I.turned (t' := s.toks) (fun b o hb e => eb b o hb e) f0 f1 f3 f4 f5⟩
 self := fun _ _ _ _ _ st h => wpAny_pyIter_tupleiter st h
theorem ZkN {P : Program} {w : World} {K : Fg} {tg : Expr} (it : Addr) (lo : Int) (n : Nat) : Turn P w K tg (Itr lo n) [it] it (fun i h => IsRangeIter h it (lo + (i : Nat) * 1) ((n : Int) - (i : Nat)) 1) where
 mem := by simp
 obj := fun i h st b hb => by
  have e : b = it := by simpa using hb
  subst e
  exact ⟨_, st, fun v z => by
   have z' : Data.fields _ = Data.cell v := z
   cases z'⟩
 keep := fun i h h' st k => k it (by simp) _ st
 item := by
  intro X hP hw hK hc i pins s σ H E I hf st hg
  subst hP hw hK
  obtain ⟨f0, f1, f2, f3, f4, f5⟩ := hf it (by simp)
  have W := Walks.range (prog := X.prog) (w := X.w) (I.ok.hd hc) it lo 1 n
  refine W.item i s _ _ hg st fun v h' tk hv st' kk => ?_
  obtain ⟨t, rfl⟩ := hv
  have I1 : Inv X pins σ H { s with heap := h', toks := tk } := I.turned (fun b o hb e => kk b o (by simpa using hb) e) f0 f1 f3 f4 f5
  refine ⟨_, rfl, ZiM (s := { s with heap := h', toks := tk }) (n := "range_iterator") st' rfl rfl (by decide) ⟨.int (lo + i), H, I1, ⟨t, ?_⟩, ⟨rfl, rfl⟩, st', fun b hb => (hf b hb).1⟩⟩
  rw [Int.mul_one]
 done := by
  intro X hP hw hK hc i pins s σ H E I hf st hg
  subst hP hw hK
  obtain ⟨f0, f1, f2, f3, f4, f5⟩ := hf it (by simp)
  exact wpAny_pyNext_range_end (I.ok.hd hc) st (by have : n <= i := hg; omega) fun h' eb => ⟨rfl, I.turned (t' := s.toks) (fun b o hb e => eb b o hb e) f0 f1 f3 f4 f5⟩
 self := fun _ _ _ _ _ st h => wpAny_pyIter_rangeiter st h
end L2
namespace L2
open PySem PySem.Spec PyProof.Rows
section
variable {X : Cx} {tg : Expr}
noncomputable def Zr4 (K : Fg) (tl : TE) : TI := fun σ H R => tl σ H fun x H1 => ∃ a, x = .ref a /\ (∃ xs, SqL K H1 a xs) /\ R (Itl K a) H1
noncomputable def iTup (K : Fg) (tl : TE) : TI := fun σ H R => tl σ H fun x H1 => ∃ a, x = .ref a /\ (∃ xs, SqT K H1 a xs) /\ R (Itt K a) H1
theorem Zks {l : Expr} {tl : TE} (hl : PE X l tl) : PI X tg l (Zr4 X.K tl) := by
 intro pins s σ H R I h
 refine thn (hl pins s σ H _ I h) fun v s1 ⟨x, H1, I1, r1, q1⟩ => ?_
 obtain ⟨a, e, ⟨xs, hq⟩, q⟩ := q1
 subst e
 cases r1
 obtain ⟨its, rv, p, hz⟩ := I1.list hq
 refine wpAny_pyIter_list p.isList ?_
 refine ⟨s1.heap.objs.size, [s1.heap.objs.size], _, _, H1, rfl, I1.kept (t' := s1.toks) fun b o e => Heap.get?_push_of_some _ e, Zl4 a _, ⟨_, Heap.get?_push_size _ rfl, rfl, rfl⟩, fun b hb => ?_, q⟩
 have e : b = s1.heap.objs.size := by simpa using hb
 subst e
 exact I1.fpOk (Nat.le_refl _) (I1.hok.fresh (Nat.le_refl _))
theorem Zl5 {l : Expr} {tl : TE} (hl : PE X l tl) : PI X tg l (iTup X.K tl) := by
 intro pins s σ H R I h
 refine thn (hl pins s σ H _ I h) fun v s1 ⟨x, H1, I1, r1, q1⟩ => ?_
 obtain ⟨a, e, ⟨xs, hq⟩, q⟩ := q1
 subst e
 cases r1
 obtain ⟨its, rv, p, hz⟩ := I1.tuple hq
 refine wpAny_pyIter_tuple (show s1.heap.IsTuple a its.toArray from p) ?_
 refine ⟨s1.heap.objs.size, [s1.heap.objs.size], _, _, H1, rfl, I1.kept (t' := s1.toks) fun b o e => Heap.get?_push_of_some _ e, ZkM a _, ⟨_, Heap.get?_push_size _ rfl, rfl, rfl⟩, fun b hb => ?_, q⟩
 have e : b = s1.heap.objs.size := by simpa using hb
 subst e
 exact I1.fpOk (Nat.le_refl _) (I1.hok.fresh (Nat.le_refl _))
theorem Zm6 {pins : List (Addr × Obj)} {σ : St} {H : Hp} {s : Shared} {R : It -> Hp -> Prop} {E : Value -> Shared -> Prop} {lo hi : Int} {t u v : Tok} {tk : Nat} (I : Inv X pins σ H s) (h1 : -(2 ^ 62) <= lo) (h2 : lo < 2 ^ 62) (h3 : -(2 ^ 62) <= hi) (h4 : hi < 2 ^ 62)
 (q : R (Itr lo (hi - lo).toNat) H) : wpAny (model X.prog X.w) X.A (pyIter (.ref s.heap.objs.size)) (PIE X pins σ tg R) E { s with heap := s.heap.push { cls := .type "range", data := .fields #[.int lo t, .int hi u, .int 1 v] }, toks := tk } := by
 refine wpAny_pyIter_range (IsRange.new ..) (small_one h1 h2 h3 h4) ?_
 have I1 : Inv X pins σ H { s with heap := s.heap.push { cls := .type "range", data := .fields #[.int lo t, .int hi u, .int 1 v] }, toks := tk } := I.kept fun b o e => Heap.get?_push_of_some _ e
 refine ⟨(s.heap.push { cls := .type "range", data := .fields #[.int lo t, .int hi u, .int 1 v] }).objs.size, [(s.heap.push { cls := .type "range", data := .fields #[.int lo t, .int hi u, .int 1 v] }).objs.size], _, _, H, rfl,
  I1.kept (t' := tk) fun b o e => Heap.get?_push_of_some _ e, ZkN _ lo (hi - lo).toNat, ?_, fun b hb => ?_, q⟩
 . have e1 : lo + ((0 : Nat) : Int) * 1 = lo := by simp
   have e2 : (((hi - lo).toNat : Nat) : Int) - ((0 : Nat) : Int) = Builtin.Range.rangeSize lo hi 1 := by rw [rangeSize_one]; split <;> omega
   show IsRangeIter _ _ (lo + ((0 : Nat) : Int) * 1) ((((hi - lo).toNat : Nat) : Int) - ((0 : Nat) : Int)) 1
   rw [e1, e2]
   exact Heap.get?_push_size _ rfl
 . have e : b = (s.heap.push { cls := .type "range", data := .fields #[.int lo t, .int hi u, .int 1 v] }).objs.size := by simpa using hb
   subst e
   exact I1.fpOk (Nat.le_refl _) (I1.hok.fresh (Nat.le_refl _))
noncomputable def Zr5 (ta : TA) : TI := fun σ H R => ta σ H fun vs H1 => ∃ j : Int, vs = [.int j] /\ -(2 ^ 62) <= j /\ j < 2 ^ 62 /\ R (Itr 0 j.toNat) H1
theorem Zl6 {a : Expr} {ta : TA} {p pos : Pos} (hg : Gl X "range") (hm : X.mg "range" = none) (ha : PA X [a] ta) (hs : starEach [a] X.env = [(false, eval a X.env)] := by rfl) : PI X tg (.Call (.Name "range" p) [a] [] pos) (Zr5 ta) := by
 intro pins s σ H R I h
 refine Call_ (Zfm I hg hm boot_range (PyProof.Rows.callWith_type1 (thn (ha pos pins s σ H _ I h) fun us s1 ⟨vs, H1, I1, r1, q1⟩ => ?_) hs rfl))
 obtain ⟨j, e, q1, q2, q⟩ := q1
 subst e
 cases r1 with
 | cons r rr =>
  cases rr
  obtain ⟨t, rfl⟩ := r
  exact call_range_1 (Zm6 I1 (by omega) (by omega) q1 q2 (by simpa using q))
def tFor (wi : TI) (g : TG) (tb : TS) : TS := fun D σ H => wi σ H fun J H1 => ∃ W : Nat -> Nat -> St -> Hp -> Prop, (∃ m, W 0 m σ H1) /\ ∀ i m σ H, W i m σ H ->
 (J.stop i H /\ D.nx σ H) \/ (J.go i H /\ ∃ N : St -> Hp -> Prop, (∀ σ' H', N σ' H' -> ∃ m', m' < m /\ W (i + 1) m' σ' H') /\ ∀ x H', J.yld i H x H' -> g x σ H' fun σ2 H2 => tb { D with nx := N, ct := N, bk := D.nx } σ2 H2)
noncomputable def Zfn (fp : List Addr) (h : Heap) : List (Addr × Obj) := fp.filterMap fun b => (h.get? b).map fun o => (b, o)
theorem Zc0 {fp : List Addr} {h : Heap} {b : Addr} {o : Obj} (hb : b ∈ fp) (e : h.get? b = some o) : (b, o) ∈ Zfn fp h := List.mem_filterMap.mpr ⟨b, hb, by rw [e]; rfl⟩
theorem Zl7 {fp : List Addr} {h : Heap} {p : Addr × Obj} (hp : p ∈ Zfn fp h) : p.1 ∈ fp /\ h.get? p.1 = some p.2 := by
 obtain ⟨b, hb, e⟩ := List.mem_filterMap.mp hp
 cases q : h.get? b with
 | none => rw [q] at e; cases e
 | some o =>
  rw [q] at e
  have e' : (b, o) = p := Option.some.inj e
  subst e'
  exact ⟨hb, q⟩
theorem Inv.pinned {pins : List (Addr × Obj)} {σ : St} {H : Hp} {s : Shared} {fp : List Addr} (I : Inv X pins σ H s) (hf : ∀ b ∈ fp, FpOk X pins H b) (ho : ∀ b ∈ fp, ∃ o, s.heap.get? b = some o /\ ∀ v, o.data ≠ .cell v) : Inv X (pins ++ Zfn fp s.heap) σ H s :=
 I.pins_of fun p hp => (List.mem_append.mp hp).elim (fun z => I.pin p (List.mem_append_right _ z)) fun z => by
  obtain ⟨hb, e⟩ := Zl7 z
  obtain ⟨f0, f1, f2, _⟩ := hf p.1 hb
  obtain ⟨o, e', d⟩ := ho p.1 hb
  rw [e] at e'; cases e'
  exact ⟨e, f0, f1, f2, d⟩
theorem Inv.unpinned {pins pl : List (Addr × Obj)} {σ : St} {H : Hp} {s : Shared} (I : Inv X (pins ++ pl) σ H s) : Inv X pins σ H s := I.pins_of fun p hp => I.pin p (List.mem_append_right _ (List.mem_append_left _ hp))
theorem ZpG {iter : Expr} {body : List Stmt} {wi : TI} {g : TG} {tb : TS} {pos : Pos} (hp : PassesOwn (model X.prog X.w) X.A X.env X.xe) (hc : X.calm = true) (hi : PI X tg iter wi) (hg : PG X tg g) (hb : PSs X body tb)
 (hs : ∀ x, foldedSetIterable iter X.env x = pure x := by intro _; rfl) : PS X (.For tg iter body [] pos) (tFor wi g tb) := by
 intro pins s σ H D I h
 refine wpAny_For (thn (hi pins s σ H _ I h) fun v s1 h1 => thn h1 fun itv s2 h2 => ?_) hs
 obtain ⟨it, fp, tn, J, H2, e, I2, T, st2, f2, W, ⟨m0, w0⟩, turn⟩ := h2
 subst e
 have stat : ∀ {H' : Hp}, (∀ b ∈ fp, H' b = none) -> ∀ b ∈ fp, FpOk X pins H' b := fun hn b hb => ⟨hn b hb, (f2 b hb).2⟩
 refine codeAny_forLoop_any (fun n s' => ∃ i σ' H', Inv X pins σ' H' s' /\ tn i s'.heap /\ (∀ b ∈ fp, H' b = none) /\ W i n σ' H') ?_ m0 ⟨0, σ, H2, I2, st2, fun b hb => (f2 b hb).1, w0⟩
 rintro n s3 ⟨i, σ3, H3, I3, st3, fr3, w3⟩
 rcases turn i n σ3 H3 w3 with ⟨stop, qn⟩ | ⟨go, N, hN, step⟩
 . refine wpAny_passesOwn hp (thn (T.done X rfl rfl rfl hc i pins s3 σ3 H3 X.xe I3 (stat fr3) st3 stop) fun r s4 ⟨hr, I4⟩ => ?_)
   subst hr
   exact wpAny_execs_nil ⟨σ3, H3, I4, qn⟩
 . refine wpAny_passesOwn hp (thn (T.item X rfl rfl rfl hc i pins s3 σ3 H3 X.xe I3 (stat fr3) st3 go) fun r s4 ⟨u, hr, h4⟩ => ?_)
   subst hr
   refine wpAny_passesOwn hp (thn h4 fun _ s5 ⟨x, H5, I5, r5, y5, st5, fr5⟩ => ?_)
   have I5' := I5.pinned (stat fr5) (T.obj _ _ st5)
   refine wpAny_passesOwn hp (thn (hg _ s5 σ3 H5 x u _ I5' r5 (step x H5 y5)) fun _ s6 ⟨σ6, H6, I6, q6⟩ => ?_)
   refine wpAny_passesOwn hp (thn (hb _ s6 σ6 H6 _ I6 q6) fun f s7 q7 => ?_)
   have again : ∀ {σ7 : St} {H7 : Hp}, Inv X (pins ++ Zfn fp s5.heap) σ7 H7 s7 -> N σ7 H7 -> ∃ m, m < n /\ ∃ i σ' H', Inv X pins σ' H' s7 /\ tn i s7.heap /\ (∀ b ∈ fp, H' b = none) /\ W i m σ' H' := fun {σ7 H7} I7 n7 => by
    obtain ⟨m', hm, w7⟩ := hN σ7 H7 n7
    refine ⟨m', hm, i + 1, σ7, H7, I7.unpinned, T.keep _ _ _ st5 fun b hb o e => (I7.pin (b, o) (List.mem_append_right _ (List.mem_append_right _ (Zc0 hb e)))).1, fun b hb => ?_, w7⟩
    obtain ⟨o, e, d⟩ := T.obj _ _ st5 b hb
    exact (I7.pin (b, o) (List.mem_append_right _ (List.mem_append_right _ (Zc0 hb e)))).2.1
   cases f with
   | next => obtain ⟨σ7, H7, I7, n7⟩ := q7; exact again I7 n7
   | cont => obtain ⟨σ7, H7, I7, n7⟩ := q7; exact again I7 n7
   | brk => obtain ⟨σ7, H7, I7, q7⟩ := q7; exact ⟨σ7, H7, I7.unpinned, q7⟩
   | ret v => obtain ⟨x7, σ7, H7, I7, r7, q7⟩ := q7; exact ⟨x7, σ7, H7, I7.unpinned, r7, q7⟩
end
end L2
namespace L2
open PySem PySem.Spec PyProof.Rows
abbrev R2 := V -> V -> Hp -> VK -> Prop
def OpR (X : Cx) (f : Value -> Value -> Sem Value) (r : R2) : Prop :=
 ∀ (pins : List (Addr × Obj)) (s : Shared) (σ : St) (H : Hp) (x y : V) (v u : Value) (Q : VK), Inv X pins σ H s -> RelV x v -> RelV y u -> r x y H Q ->
  wpAny (model X.prog X.w) X.A (f v u) (EP X pins σ Q) X.xe s
def UnR (X : Cx) (f : Value -> Sem Value) (r : V -> Hp -> VK -> Prop) : Prop :=
 ∀ (pins : List (Addr × Obj)) (s : Shared) (σ : St) (H : Hp) (x : V) (v : Value) (Q : VK), Inv X pins σ H s -> RelV x v -> r x H Q ->
  wpAny (model X.prog X.w) X.A (f v) (EP X pins σ Q) X.xe s
def Zbm (X : Cx) (f : Value) (r : List V -> Hp -> VK -> Prop) : Prop :=
 ∀ (pins : List (Addr × Obj)) (s : Shared) (σ : St) (H : Hp) (xs : List V) (us : List Value) (Q : VK), Inv X pins σ H s -> Vals xs us -> r xs H Q ->
  wpAny (model X.prog X.w) X.A (call f us) (EP X pins σ Q) X.xe s
def TruR (X : Cx) (r : V -> Hp -> (Bool -> Hp -> Prop) -> Prop) : Prop :=
 ∀ (pins : List (Addr × Obj)) (s : Shared) (σ : St) (H : Hp) (x : V) (v : Value) (Q : Bool -> Hp -> Prop), Inv X pins σ H s -> RelV x v -> r x H Q ->
  wpAny (model X.prog X.w) X.A (truthy v) (TP X pins σ Q) X.xe s
def tOp (r : R2) (ta tb : TE) : TE := fun σ H Q => ta σ H fun x H1 => tb σ H1 fun y H2 => r x y H2 Q
def tUn (r : V -> Hp -> VK -> Prop) (ta : TE) : TE := fun σ H Q => ta σ H fun x H1 => r x H1 Q
def rI (C : Int -> Int -> Prop) (g : Int -> Int -> V) : R2 := fun x y H Q => ∃ i j, x = .int i /\ y = .int j /\ C i j /\ Q (g i j) H
def rI0 (g : Int -> Int -> V) : R2 := fun x y H Q => ∃ i j, x = .int i /\ y = .int j /\ Q (g i j) H
def rU (g : Int -> V) : V -> Hp -> VK -> Prop := fun x H Q => ∃ i, x = .int i /\ Q (g i) H
section
variable {X : Cx} {a b c : Expr} {ta tb tc : TE} {pos : Pos}
theorem binT (ha : PE X a ta) (hb : PE X b tb) {pins : List (Addr × Obj)} {s : Shared} {σ : St} {H : Hp} {R : V -> V -> Hp -> Prop} (I : Inv X pins σ H s)
 (h : ta σ H fun x H1 => tb σ H1 fun y H2 => R x y H2) {Q : Value -> Shared -> Prop} {f : Value -> Value -> Sem Value}
 (hf : ∀ v u s2 x y H2, Inv X pins σ H2 s2 -> RelV x v -> RelV y u -> R x y H2 -> wpAny (model X.prog X.w) X.A (f v u) Q X.xe s2) :
 wpAny (model X.prog X.w) X.A (eval a X.env) (fun v s₁ => wpAny (model X.prog X.w) X.A (eval b X.env) (fun u s₂ => wpAny (model X.prog X.w) X.A (f v u) Q X.xe s₂) X.xe s₁) X.xe s := by
 refine thn (ha pins s σ H _ I h) fun v s1 ⟨x, H1, I1, r1, q1⟩ => ?_
 refine thn (hb pins s1 σ H1 _ I1 q1) fun u s2 ⟨y, H2, I2, r2, q2⟩ => ?_
 exact hf v u s2 x y H2 I2 r1 r2 q2
theorem Zr6 {op : Operator} {r : R2} (ho : OpR X (binaryOp op) r) (ha : PE X a ta) (hb : PE X b tb) : PE X (.BinOp a op b pos) (tOp r ta tb) := by
 intro pins s σ H Q I h
 exact wpAny_BinOp (binT ha hb I h fun v u s2 x y H2 I2 rx ry q => ho pins s2 σ H2 x y v u Q I2 rx ry q)
theorem Zr7 {op : UnaryOp} {r : V -> Hp -> VK -> Prop} (ho : UnR X (unaryOp op) r) (ha : PE X a ta) : PE X (.UnaryOp op a pos) (tUn r ta) := by
 intro pins s σ H Q I h
 exact UnaryOp_ (thn (ha pins s σ H _ I h) fun v s1 ⟨x, H1, I1, r1, q1⟩ => ho pins s1 σ H1 x v Q I1 r1 q1)
theorem opI {f : Value -> Value -> Sem Value} {C : Int -> Int -> Prop} {g : Int -> Int -> Int}
 (rule : ∀ (i j : Int) (t u : Tok) (s : Shared) (Q : Value -> Shared -> Prop) (E : Value -> Shared -> Prop), C i j -> Q (.int (g i j) s.toks) { s with toks := s.toks + 1 } -> wpAny (model X.prog X.w) X.A (f (.int i t) (.int j u)) Q E s) :
 OpR X f (rI C fun i j => .int (g i j)) := by
 intro pins s σ H x y v u Q I rx ry h
 obtain ⟨i, j, rfl, rfl, hc, q⟩ := h
 obtain ⟨t, rfl⟩ := rx
 obtain ⟨t', rfl⟩ := ry
 exact rule i j t t' s _ _ hc ⟨.int (g i j), H, I.tok _, ⟨_, rfl⟩, q⟩
theorem opI0 {f : Value -> Value -> Sem Value} {g : Int -> Int -> Int}
 (rule : ∀ (i j : Int) (t u : Tok) (s : Shared) (Q : Value -> Shared -> Prop) (E : Value -> Shared -> Prop), Q (.int (g i j) s.toks) { s with toks := s.toks + 1 } -> wpAny (model X.prog X.w) X.A (f (.int i t) (.int j u)) Q E s) :
 OpR X f (rI0 fun i j => .int (g i j)) := by
 intro pins s σ H x y v u Q I rx ry h
 obtain ⟨i, j, rfl, rfl, q⟩ := h
 obtain ⟨t, rfl⟩ := rx
 obtain ⟨t', rfl⟩ := ry
 exact rule i j t t' s _ _ ⟨.int (g i j), H, I.tok _, ⟨_, rfl⟩, q⟩
theorem opB0 {f : Value -> Value -> Sem Value} {g : Int -> Int -> Bool}
 (rule : ∀ (i j : Int) (t u : Tok) (s : Shared) (Q : Value -> Shared -> Prop) (E : Value -> Shared -> Prop), Q (.bool (g i j)) s -> wpAny (model X.prog X.w) X.A (f (.int i t) (.int j u)) Q E s) :
 OpR X f (rI0 fun i j => .bl (g i j)) := by
 intro pins s σ H x y v u Q I rx ry h
 obtain ⟨i, j, rfl, rfl, q⟩ := h
 obtain ⟨t, rfl⟩ := rx
 obtain ⟨t', rfl⟩ := ry
 exact rule i j t t' s _ _ ⟨.bl (g i j), H, I, rfl, q⟩
def CPow (i j : Int) : Prop := 0 <= j /\ j <= 1000000 /\ i.natAbs < 2 ^ 64
def CMul (i j : Int) : Prop := (-(2 ^ 64) < i /\ i < 2 ^ 64) \/ (-(2 ^ 64) < j /\ j < 2 ^ 64)
theorem CMul.ok {i j : Int} (h : CMul i j) : IntMulOk i j := by
 rcases h with ⟨h1, h2⟩ | ⟨h1, h2⟩
 . exact .of_left (intBits_le_64 h1 h2)
 . exact .of_right (intBits_le_64 h1 h2)
theorem ZpH : OpR X (binaryOp .Add) (rI0 fun i j => .int (i + j)) := opI0 fun _ _ _ _ _ _ _ q => add_int q
theorem ZpI : OpR X (binaryOp .Sub) (rI0 fun i j => .int (i - j)) := opI0 fun _ _ _ _ _ _ _ q => sub_int q
theorem ZpJ : OpR X (binaryOp .Mult) (rI CMul fun i j => .int (i * j)) := opI fun _ _ _ _ _ _ _ hc q => mul_int q hc.ok
theorem ZpK : OpR X (binaryOp .Mod) (rI (fun _ j => 0 < j) fun i j => .int (i % j)) := opI fun i j _ _ _ _ _ hc q => by
 have h1 : (0 : Int) < j := hc
 exact mod_int' (by omega) (by rw [Int.fmod_eq_emod_of_nonneg i (by omega)]; exact q)
theorem ZpL : OpR X (binaryOp .Pow) (rI CPow fun i j => .int (i ^ j.toNat)) := opI fun _ _ _ _ _ _ _ hc q => pow_int_small hc.1 hc.2.1 hc.2.2 q
theorem unI {f : Value -> Sem Value} {g : Int -> Int}
 (rule : ∀ (i : Int) (t : Tok) (s : Shared) (Q : Value -> Shared -> Prop) (E : Value -> Shared -> Prop), Q (.int (g i) s.toks) { s with toks := s.toks + 1 } -> wpAny (model X.prog X.w) X.A (f (.int i t)) Q E s) :
 UnR X f (rU fun i => .int (g i)) := by
 intro pins s σ H x v Q I rx h
 obtain ⟨i, rfl, q⟩ := h
 obtain ⟨t, rfl⟩ := rx
 exact rule i t s _ _ ⟨.int (g i), H, I.tok _, ⟨_, rfl⟩, q⟩
theorem ZpM : UnR X (unaryOp .USub) (rU fun i => .int (-i)) := unI fun _ _ _ _ _ q => neg_int q
end
noncomputable def scal : V -> V -> Bool
 | .non, .non => true | .non, .int _ => true | .int _, .non => true | .non, .bl _ => true | .bl _, .non => true | .non, .str _ => true | .str _, .non => true
 | .int _, .int _ => true | .bl _, .bl _ => true | .str _, .str _ => true | .byt _, .byt _ => true
 | .int _, .str _ => true | .str _, .int _ => true | .bl _, .str _ => true | .str _, .bl _ => true
 | _, _ => false
def rEq : R2 := fun x y H Q => scal x y = true /\ Q (.bl (decide (x = y))) H
def rNe : R2 := fun x y H Q => scal x y = true /\ Q (.bl (!decide (x = y))) H
theorem Zkt {i j : Int} : decide (V.int i = V.int j) = (i == j) := by
 rw [Bool.eq_iff_iff]
 simp
theorem Zl8 {i j : Bool} : decide (V.bl i = V.bl j) = (i == j) := by
 rw [Bool.eq_iff_iff]
 simp
theorem Zku {i j : Str} : decide (V.str i = V.str j) = (i == j) := by
 rw [Bool.eq_iff_iff]
 simp
theorem Zkv {i j : Array UInt8} : decide (V.byt i = V.byt j) = (i.toList == j.toList) := by
 rw [Bool.eq_iff_iff]
 cases i
 cases j
 simp
section
variable {X : Cx} {a b c : Expr} {ta tb tc : TE} {pos : Pos}
theorem ZI {pins : List (Addr × Obj)} {σ : St} {H : Hp} {s : Shared} {Q : VK} {k k' : Bool} (I : Inv X pins σ H s) (q : Q (.bl k) H) (e : k = k') : EP X pins σ Q (.bool k') s := by
 subst e
 exact ⟨.bl k, H, I, rfl, q⟩
theorem Zn6 : OpR X (compareOp .Eq) rEq := by
 intro pins s σ H x y v u Q I rx ry h
 obtain ⟨hs, q⟩ := h
 cases x with
 | non =>
  cases rx
  cases y with
  | non => cases ry; exact PySem.EqNone.eq_none_none (ZI I q (by simp))
  | bl j => cases ry; exact PySem.EqNone.eq_none_bool (ZI I q (by simp))
  | int j => obtain ⟨t', rfl⟩ := ry; exact PySem.EqNone.eq_none_int (ZI I q (by simp))
  | str j => obtain ⟨t', rfl⟩ := ry; exact PySem.EqNone.eq_none_str (ZI I q (by simp))
  | _ => exact absurd (show false = true from hs) Bool.false_ne_true
 | bl i =>
  cases rx
  cases y with
  | non => cases ry; exact PySem.EqNone.eq_bool_none (ZI I q (by simp))
  | bl j => cases ry; exact eq_bool (ZI I q Zl8)
  | str j => obtain ⟨t', rfl⟩ := ry; exact PySem.EqMixed.eq_bool_str (ZI I q (by simp))
  | _ => exact absurd (show false = true from hs) Bool.false_ne_true
 | int i =>
  obtain ⟨t, rfl⟩ := rx
  cases y with
  | non => cases ry; exact PySem.EqNone.eq_int_none (ZI I q (by simp))
  | int j => obtain ⟨t', rfl⟩ := ry; exact eq_int (ZI I q Zkt)
  | str j => obtain ⟨t', rfl⟩ := ry; exact PySem.EqMixed.eq_int_str (ZI I q (by simp))
  | _ => exact absurd (show false = true from hs) Bool.false_ne_true
 | str i =>
  obtain ⟨t, rfl⟩ := rx
  cases y with
  | non => cases ry; exact PySem.EqNone.eq_str_none (ZI I q (by simp))
  | bl j => cases ry; exact PySem.EqMixed.eq_str_bool (ZI I q (by simp))
  | int j => obtain ⟨t', rfl⟩ := ry; exact PySem.EqMixed.eq_str_int (ZI I q (by simp))
  | str j => obtain ⟨t', rfl⟩ := ry; exact eq_str (ZI I q Zku)
  | _ => exact absurd (show false = true from hs) Bool.false_ne_true
 | byt i =>
  obtain ⟨t, rfl⟩ := rx
  cases y with
  | byt j => obtain ⟨t', rfl⟩ := ry; exact PySem.W.eq_bytes (ZI I q Zkv)
  | _ => exact absurd (show false = true from hs) Bool.false_ne_true
 | _ => cases y <;> exact absurd (show false = true from hs) Bool.false_ne_true
theorem Zn7 : OpR X (compareOp .NotEq) rNe := by
 intro pins s σ H x y v u Q I rx ry h
 obtain ⟨hs, q⟩ := h
 cases x with
 | non =>
  cases rx
  cases y with
  | non => cases ry; exact PySem.EqNone.ne_none_none (ZI I q (by simp))
  | bl j => cases ry; exact PySem.EqNone.ne_none_bool (ZI I q (by simp))
  | int j => obtain ⟨t', rfl⟩ := ry; exact PySem.EqNone.ne_none_int (ZI I q (by simp))
  | str j => obtain ⟨t', rfl⟩ := ry; exact PySem.EqNone.ne_none_str (ZI I q (by simp))
  | _ => exact absurd (show false = true from hs) Bool.false_ne_true
 | bl i =>
  cases rx
  cases y with
  | non => cases ry; exact PySem.EqNone.ne_bool_none (ZI I q (by simp))
  | bl j => cases ry; exact ne_bool (ZI I q (congrArg not Zl8))
  | str j => obtain ⟨t', rfl⟩ := ry; exact PySem.EqMixed.ne_bool_str (ZI I q (by simp))
  | _ => exact absurd (show false = true from hs) Bool.false_ne_true
 | int i =>
  obtain ⟨t, rfl⟩ := rx
  cases y with
  | non => cases ry; exact PySem.EqNone.ne_int_none (ZI I q (by simp))
  | int j => obtain ⟨t', rfl⟩ := ry; exact ne_int (ZI I q (congrArg not Zkt))
  | str j => obtain ⟨t', rfl⟩ := ry; exact PySem.EqMixed.ne_int_str (ZI I q (by simp))
  | _ => exact absurd (show false = true from hs) Bool.false_ne_true
 | str i =>
  obtain ⟨t, rfl⟩ := rx
  cases y with
  | non => cases ry; exact PySem.EqNone.ne_str_none (ZI I q (by simp))
  | bl j => cases ry; exact PySem.EqMixed.ne_str_bool (ZI I q (by simp))
  | int j => obtain ⟨t', rfl⟩ := ry; exact PySem.EqMixed.ne_str_int (ZI I q (by simp))
  | str j => obtain ⟨t', rfl⟩ := ry; exact ne_str (ZI I q (congrArg not Zku))
  | _ => exact absurd (show false = true from hs) Bool.false_ne_true
 | byt i =>
  obtain ⟨t, rfl⟩ := rx
  cases y with
  | byt j => obtain ⟨t', rfl⟩ := ry; exact PySem.W.ne_bytes (ZI I q (congrArg not Zkv))
  | _ => exact absurd (show false = true from hs) Bool.false_ne_true
 | _ => cases y <;> exact absurd (show false = true from hs) Bool.false_ne_true
theorem Zn8 : OpR X (compareOp .Lt) (rI0 fun i j => .bl (decide (i < j))) := opB0 fun _ _ _ _ _ _ _ q => lt_int q
theorem Zn9 : OpR X (compareOp .LtE) (rI0 fun i j => .bl (decide (i <= j))) := opB0 fun _ _ _ _ _ _ _ q => le_int q
theorem ZnA : OpR X (compareOp .Gt) (rI0 fun i j => .bl (decide (j < i))) := opB0 fun _ _ _ _ _ _ _ q => gt_int q
theorem ZnB : OpR X (compareOp .GtE) (rI0 fun i j => .bl (decide (j <= i))) := opB0 fun _ _ _ _ _ _ _ q => ge_int q
theorem nomark (b : Expr) {op : CmpOp} (h : op ≠ .In := by decide) (h2 : op ≠ .NotIn := by decide) : behindInMarks op b = false := by
 have e1 : (op == CmpOp.In) = false := by cases op <;> first | rfl | exact absurd rfl h
 have e2 : (op == CmpOp.NotIn) = false := by cases op <;> first | rfl | exact absurd rfl h2
 cases b <;> simp [behindInMarks, e1, e2]
theorem Zoa {op : CmpOp} {r : R2} (ho : OpR X (compareOp op) r) (ha : PE X a ta) (hb : PE X b tb) (hm : behindInMarks op b = false) : PE X (.Compare a [op] [b] pos) (tOp r ta tb) := by
 intro pins s σ H Q I h
 exact wpAny_Compare1 (binT ha hb I h fun v u s2 x y H2 I2 rx ry q => ho pins s2 σ H2 x y v u Q I2 rx ry q) hm
def ZnC (t : TE) : TT := fun σ H Q => t σ H fun x H' => ∃ k, x = .bl k /\ Q k H'
theorem Zob {op : CmpOp} {r : R2} (ho : OpR X (compareOp op) r) (ha : PE X a ta) (hb : PE X b tb) (hm : behindInMarks op b = false) : PT X (.Compare a [op] [b] pos) (ZnC (tOp r ta tb)) := by
 intro pins s σ H Q I h
 refine wpAny_isTrue_Compare1 (thn (ha pins s σ H _ I h) fun v s1 ⟨x, H1, I1, r1, q1⟩ => thn (hb pins s1 σ H1 _ I1 q1) fun u s2 ⟨y, H2, I2, r2, q2⟩ =>
  thn (ho pins s2 σ H2 x y v u _ I2 r1 r2 q2) fun c s3 ⟨z, H3, I3, r3, k, e, q3⟩ => ?_) hm
 subst e
 cases r3
 exact wpAny_truthy_bool ⟨H3, I3, q3⟩
def ZiT (r r' : R2) (ta tb tc : TE) : TE := fun σ H Q => ta σ H fun x H1 => tb σ H1 fun y H2 => r x y H2 fun z H3 => ∃ k, z = .bl k /\
 (if k = true then tc σ H3 fun w' H4 => r' y w' H4 Q else Q (.bl false) H3)
theorem Zm7 {op op' : CmpOp} {r r' : R2} (ho : OpR X (compareOp op) r) (ho' : OpR X (compareOp op') r') (ha : PE X a ta) (hb : PE X b tb) (hc : PE X c tc)
 (hm : lastMarks [op, op'] [b, c] = false := by with_unfolding_all rfl) : PE X (.Compare a [op, op'] [b, c] pos) (ZiT r r' ta tb tc) := by
 intro pins s σ H Q I h
 refine Compare_chain (thn (ha pins s σ H _ I h) fun v s1 ⟨x, H1, I1, r1, q1⟩ => chain_link (thn (hb pins s1 σ H1 _ I1 q1) fun u s2 ⟨y, H2, I2, r2, q2⟩ =>
  thn (ho pins s2 σ H2 x y v u _ I2 r1 r2 q2) fun d s3 ⟨z, H3, I3, r3, k, e, q3⟩ => ?_)) hm
 subst e
 cases r3
 refine wpAny_truthy_bool ?_
 cases k with
 | false => exact ite_ff ⟨.bl false, H3, I3, rfl, q3⟩
 | true => exact ite_tt (chain_last (thn (hc pins s3 σ H3 _ I3 q3) fun w' s4 ⟨z', H4, I4, r4, q4⟩ => ho' pins s4 σ H4 y z' u w' Q I4 r2 r4 q4))
theorem Zm8 {op op' : CmpOp} {r r' : R2} (ho : OpR X (compareOp op) r) (ho' : OpR X (compareOp op') r') (ha : PE X a ta) (hb : PE X b tb) (hc : PE X c tc)
 (hm : lastMarks [op, op'] [b, c] = false := by with_unfolding_all rfl) : PT X (.Compare a [op, op'] [b, c] pos) (ZnC (ZiT r r' ta tb tc)) := by
 intro pins s σ H Q I h
 refine isTrue_chain (thn (ha pins s σ H _ I h) fun v s1 ⟨x, H1, I1, r1, q1⟩ => test_link (thn (hb pins s1 σ H1 _ I1 q1) fun u s2 ⟨y, H2, I2, r2, q2⟩ =>
  thn (ho pins s2 σ H2 x y v u _ I2 r1 r2 q2) fun d s3 ⟨z, H3, I3, r3, k, e, q3⟩ => ?_)) hm
 subst e
 cases r3
 refine wpAny_truthy_bool ?_
 cases k with
 | false =>
  obtain ⟨k', e', q'⟩ := q3
  cases e'
  exact ite_ff ⟨H3, I3, q'⟩
 | true =>
  refine ite_tt (test_last (thn (hc pins s3 σ H3 _ I3 q3) fun w' s4 ⟨z', H4, I4, r4, q4⟩ => thn (ho' pins s4 σ H4 y z' u w' _ I4 r2 r4 q4) fun d' s5 ⟨z2, H5, I5, r5, k2, e2, q5⟩ => ?_))
  subst e2
  cases r5
  exact wpAny_truthy_bool ⟨H5, I5, q5⟩
def TruV (K : Fg) (x : V) (H : Hp) (k : Bool) : Prop :=
 match x with
 | .non => k = false
 | .bl b => k = b
 | .int i => k = (i != 0)
 | .str y => y.length <= sizeLine /\ k = ((y.length : Int) != 0)
 | .byt y => y.size <= sizeLine /\ k = ((y.size : Int) != 0)
 | .ref p => (∃ xs, SqL K H p xs /\ k = !xs.isEmpty) \/ (∃ xs, SqT K H p xs /\ k = !xs.isEmpty) \/ ∃ kvs, H p = some (.dK kvs) /\ k = !kvs.isEmpty
 | _ => False
theorem ZkO {κ : Type} {kvs : List (κ × V)} {vs : List (κ × Value)} (r : KV kvs vs) : (!vs.isEmpty) = !kvs.isEmpty := by
 cases r <;> rfl
theorem Zhb {xs : List V} {its : List Value} (r : Vals xs its) : (!its.toArray.isEmpty) = !xs.isEmpty := by
 cases r <;> simp
theorem ZeL : (sizeLine : Nat) < 2 ^ 63 := by rw [sizeLine_eq]; decide
theorem ZpN : TruR X (fun x H Q => ∃ k, TruV X.K x H k /\ Q k H) := by
 intro pins s σ H x v Q I rx h
 obtain ⟨k, e, q⟩ := h
 have hl := ZeL
 have hs : sizeLine = 16777216 := sizeLine_eq
 cases x with
 | non =>
  cases rx
  have e' : k = false := e
  subst e'
  exact truthy_none ⟨H, I, q⟩
 | bl b =>
  cases rx
  have e' : k = b := e
  subst e'
  exact wpAny_truthy_bool ⟨H, I, q⟩
 | int i =>
  obtain ⟨t, rfl⟩ := rx
  have e' : k = (i != 0) := e
  subst e'
  exact PySem.P.truthy_int ⟨H, I, q⟩
 | str y =>
  obtain ⟨t, rfl⟩ := rx
  obtain ⟨hy, e'⟩ : y.length <= sizeLine /\ k = ((y.length : Int) != 0) := e
  subst e'
  exact PySem.P.truthy_str (by omega) ⟨H, I.tok _, q⟩
 | byt y =>
  obtain ⟨t, rfl⟩ := rx
  obtain ⟨hy, e'⟩ : y.size <= sizeLine /\ k = ((y.size : Int) != 0) := e
  subst e'
  exact PySem.W.truthy_bytes (by omega) ⟨H, I.tok _, q⟩
 | ref p =>
  cases rx
  have e' : (∃ xs, SqL X.K H p xs /\ k = !xs.isEmpty) \/ (∃ xs, SqT X.K H p xs /\ k = !xs.isEmpty) \/ ∃ kvs, H p = some (.dK kvs) /\ k = !kvs.isEmpty := e
  rcases e' with ⟨xs, hx, e'⟩ | ⟨xs, hx, e'⟩ | ⟨kvs, hx, e'⟩
  . subst e'
    obtain ⟨its, r, pl, hz⟩ := I.list hx
    have hlen := r.length
    exact wpAny_truthy_list pl.isList (by simp only [List.size_toArray]; omega) ⟨H, I.tok _, by rw [Zhb r]; exact q⟩
  . subst e'
    obtain ⟨its, r, pl, hz⟩ := I.tuple hx
    have hlen := r.length
    exact truthy_tuple pl (by simp only [List.size_toArray]; omega) ⟨H, I.tok _, by rw [Zhb r]; exact q⟩
  . subst e'
    obtain ⟨hz, hS, vs, r, m⟩ : kvs.length <= sizeLine /\ (p == sysModules) = false /\ ∃ vs, KV kvs vs /\ s.heap.DictOf (Zgy X.prog X.w) p vs := I.hok p _ hx
    have hlen : kvs.length = vs.length := Paired.length r
    exact wpAny_truthy_dict hS m (by omega) ⟨H, I.tok _, by rw [ZkO r]; exact q⟩
 | _ => exact (show False from e).elim
theorem Zm9 (ha : PE X a ta) (he : ∀ whole, isTrue a X.env whole = (do let v <- whole; standAt a.pos; holding [v] (truthy v))) :
 PT X a (fun σ H Q => ta σ H fun x H' => ∃ k, TruV X.K x H' k /\ Q k H') := by
 intro pins s σ H Q I h
 exact isTrue_plain (thn (ha pins s σ H _ I h) fun v s1 ⟨x, H1, I1, r1, q1⟩ => ZpN pins s1 σ H1 x v Q I1 r1 q1) (he _)
theorem ZkP : OpR X (binaryOp .Add) (fun x y H Q => ∃ i j, x = .str i /\ y = .str j /\ i.length + j.length <= sizeLine /\ Q (.str (i ++ j)) H) := by
 intro pins s σ H x y v u Q I rx ry h
 obtain ⟨i, j, rfl, rfl, hz, q⟩ := h
 obtain ⟨t, rfl⟩ := rx
 obtain ⟨t', rfl⟩ := ry
 exact add_str (fun t' tk => ⟨.str (i ++ j), H, I.tok _, ⟨_, rfl⟩, q⟩) hz
theorem Zhc {x : V} {us : List Value} (r : Vals [x] us) : ∃ u, us = [u] /\ RelV x u := by
 cases r with
 | cons r1 r2 => cases r2; exact ⟨_, rfl, r1⟩
theorem ZmA : Zbm X (.builtin "abs") (fun xs H Q => ∃ i, xs = [.int i] /\ Q (.int (if i < 0 then -i else i)) H) := by
 intro pins s σ H xs us Q I r h
 obtain ⟨i, rfl, q⟩ := h
 obtain ⟨u, rfl, t, rfl⟩ := Zhc r
 exact call_abs_int fun u tk => ⟨.int (if i < 0 then -i else i), H, I.tok _, ⟨_, rfl⟩, q⟩
end
end L2
namespace L2
open PySem PySem.Spec PyProof.Rows
structure ObjM (h : Heap) (x dx C : Addr) (mA : Str -> Option Value) : Prop where
 obj : h.get? x = some (PySem.W.instObj C dx)
 ns : h.Ns1 dx mA
 ne : dx ≠ x
theorem Zim {h : Heap} {dx : Addr} {mA : Str -> Option Value} (n : h.Ns1 dx mA) : ∃ od, h.get? dx = some od /\ ∀ name, PySem.W.lookIn name od = some (mA name) := by
 obtain ⟨o, es, ep, ho, hd, hk, _, hm⟩ := n
 refine ⟨o, ho, fun name => ?_⟩
 have e := hm name
 unfold nsFind findBy at e
 rw [<- Array.find?_toList] at e
 unfold PySem.W.lookIn
 rw [hd]
 dsimp only
 split
 . rename_i y q
   rw [q] at e
   exact congrArg some e
 . rename_i q
   rw [q] at e
   have a : es.toList.any (·.refKey) = false := by
    rw [List.any_eq_false]
    intro y hy
    obtain ⟨z, t, hkey⟩ := hk y (Array.mem_toList_iff.mp hy)
    simp [DictEntry.refKey, hkey]
   have a' : ¬ es.toList.any (·.refKey) = true := by rw [a]; exact Bool.false_ne_true
   rw [if_neg a']
   exact congrArg some e
theorem ObjM.look {h : Heap} {x dx C : Addr} {mA : Str -> Option Value} (I : ObjM h x dx C mA) : ∃ od, PySem.W.InstAt h x (PySem.W.instObj C dx) C (some od) /\ ∀ name, PySem.W.lookIn name od = some (mA name) :=
 let ⟨od, ho, hl⟩ := Zim I.ns
 ⟨od, ⟨I.obj, rfl, rfl, ho⟩, hl⟩
noncomputable def putF (f : Str) (v : V) : List (Str × V) -> List (Str × V)
 | [] => [(f, v)]
 | (g, x) :: r => if g = f then (g, v) :: r else (g, x) :: putF f v r
theorem ZgD (f g : Str) (v : V) : ∀ fs : List (Str × V), (putF f v fs).lookup g = if g = f then some v else fs.lookup g
 | [] => by
  show List.lookup g [(f, v)] = _
  by_cases h : g = f
  . have hb : (g == f) = true := beq_iff_eq.mpr h
    simp only [List.lookup, hb, if_pos h]
  . have hb : (g == f) = false := beq_eq_false_iff_ne.mpr h
    simp only [List.lookup, hb, if_neg h]
 | (k, x) :: r => by
  have ih := ZgD f g v r
  rw [show putF f v ((k, x) :: r) = (if k = f then (k, v) :: r else (k, x) :: putF f v r) from rfl]
  by_cases hk : k = f
  . rw [if_pos hk]
    by_cases h : g = k
    . have hb : (g == k) = true := beq_iff_eq.mpr h
      simp only [List.lookup, hb, if_pos (h.trans hk)]
    . have hb : (g == k) = false := beq_eq_false_iff_ne.mpr h
      simp only [List.lookup, hb, if_neg (fun e : g = f => h (e.trans hk.symm))]
  . rw [if_neg hk]
    by_cases h : g = k
    . have hb : (g == k) = true := beq_iff_eq.mpr h
      simp only [List.lookup, hb, if_neg (fun e : g = f => hk (h.symm.trans e))]
    . have hb : (g == k) = false := beq_eq_false_iff_ne.mpr h
      simp only [List.lookup, hb]
      exact ih
theorem ZfT (f : Str) (v : V) : ∀ fs : List (Str × V), f ∈ (putF f v fs).map (·.1) /\ ∀ g, g ∈ fs.map (·.1) -> g ∈ (putF f v fs).map (·.1)
 | [] => ⟨by simp [putF], fun g h => by simp at h⟩
 | (k, x) :: r => by
  obtain ⟨i1, i2⟩ := ZfT f v r
  rw [show putF f v ((k, x) :: r) = (if k = f then (k, v) :: r else (k, x) :: putF f v r) from rfl]
  by_cases hk : k = f
  . rw [if_pos hk]
    subst hk
    exact ⟨by simp, fun g h => by simpa using h⟩
  . rw [if_neg hk]
    refine ⟨?_, fun g h => ?_⟩
    . rw [List.map_cons]
      exact List.mem_cons_of_mem _ i1
    . rw [List.map_cons] at h ⊢
      rcases List.mem_cons.mp h with e | e
      . exact List.mem_cons.mpr (.inl e)
      . exact List.mem_cons_of_mem _ (i2 g e)
theorem ZgE (f : Str) (v : V) : ∀ fs : List (Str × V), (putF f v fs).length <= fs.length + 1
 | [] => by simp [putF]
 | (k, x) :: r => by
  have ih := ZgE f v r
  rw [show putF f v ((k, x) :: r) = (if k = f then (k, v) :: r else (k, x) :: putF f v r) from rfl]
  by_cases hk : k = f
  . rw [if_pos hk, List.length_cons, List.length_cons]; omega
  . rw [if_neg hk, List.length_cons, List.length_cons]; omega
theorem RelO.some_of {v : V} {o : Option Value} (r : RelO (some v) o) : ∃ u, o = some u /\ RelV v u := by
 cases o with
 | none => exact (show False from r).elim
 | some u => exact ⟨u, rfl, r⟩
theorem Zl9 {v : V} {u : Value} (r : RelV v u) : PySem.W.handedIn u = true := by
 cases v with
 | non => cases (show u = Value.none from r); rfl
 | bl b => cases (show u = Value.bool b from r); rfl
 | int i => obtain ⟨t, e⟩ := (show ∃ t, u = Value.int i t from r); cases e; rfl
 | str x => obtain ⟨t, e⟩ := (show ∃ t, u = Value.str x t from r); cases e; rfl
 | byt b => obtain ⟨t, e⟩ := (show ∃ t, u = Value.bytes b t from r); cases e; rfl
 | flt b => obtain ⟨t, e⟩ := (show ∃ t, u = Value.float b t from r); cases e; rfl
 | ref a => cases (show u = Value.ref a from r); rfl
 | ty n => cases (show u = Value.type n from r); rfl
section
variable {P : Program} {w : World} {H H' : Hp} {h h' : Heap} {a C dx : Addr} {fs fs' : List (Str × V)}
theorem Zoc (hok : HOk P w H h) (e : H a = some (.ins C dx fs)) : ∃ mA, ObjM h a dx C mA /\ (∀ f, RelO (fs.lookup f) (mA f)) /\ PySem.Within mA (fs.map (·.1)) /\ fs.length <= 1000 /\ H dx = some (.own a) := by
 obtain ⟨d, z, ne, ob, mA, n, r, q⟩ := (show Zag P w H h a (.ins C dx fs) from hok a _ e)
 exact ⟨mA, ⟨ob, n, ne⟩, r, q, z, d⟩
end
structure Cls (K : Fg) (C : Addr) : Prop where
 pg : PySem.W.plainGet K C Str.empty = true
 hd : PySem.W.hasDictIn K C = true
 po : PySem.W.plainOver K C = true
 sa : PySem.W.findIn K (.ref C) "__setattr__" = some (some (.builtin "object.__setattr__"))
theorem Cls.get {K : Fg} {C : Addr} (c : Cls K C) (f : Str) : PySem.W.plainGet K C f = true := c.pg
def Zee (K : Fg) (C : Addr) (f : Str) : Prop := PySem.W.findIn K (.ref C) f = some none
theorem Zee.taker {K : Fg} {C : Addr} {f : Str} (n : Zee K C f) : PySem.W.takerIn K C f = some none := by
 unfold PySem.W.takerIn
 rw [show PySem.W.findIn K (.ref C) f = some none from n]
 rfl
section
variable {X : Cx} {pins : List (Addr × Obj)} {σ : St} {H : Hp} {s : Shared} {a C dx : Addr} {fs : List (Str × V)} {f : Str} {v : V} {A : Around} {E : Value -> Shared -> Prop}
theorem Zod {prog : Program} {w : World} {env : Env} {e : Expr} {f : Str} {pos : Pos} {s : Shared} {Q : Value -> Shared -> Prop} (hb : attributeBase e f env (eval e env) = eval e env)
 (h : wpAny (model prog w) A (eval e env) (fun o s₁ => wpAny (model prog w) A (getAttr o f true) Q E s₁) E s) : wpAny (model prog w) A (eval (.Attribute e f pos) env) Q E s :=
 Attribute_any_ h (by rw [arm_eval_Attribute, hb])
end
section
variable {X : Cx} {pins : List (Addr × Obj)} {σ : St} {H : Hp} {s : Shared} {A : Around} {E : Value -> Shared -> Prop} {Q : Value -> Shared -> Prop} {c : Value} {b : Bool}
inductive TyOf (K : Fg) (H : Hp) : V -> Value -> Prop where
 | non : TyOf K H .non (.type "NoneType")
 | bl (x : Bool) : TyOf K H (.bl x) (.type "bool")
 | int (i : Int) : TyOf K H (.int i) (.type "int")
 | str (x : Str) : TyOf K H (.str x) (.type "str")
 | flt (x : UInt64) : TyOf K H (.flt x) (.type "float")
 | lst {a : Addr} {xs : List V} (e : H a = some (.lst xs)) : TyOf K H (.ref a) (.type "list")
 | frz {a : Addr} {o : Obj} {xs : List V} (e : H a = some (.frz o (.lst xs))) : TyOf K H (.ref a) (.type "list")
 | tup {a : Addr} {xs : List V} (e : H a = some (.tup xs)) : TyOf K H (.ref a) (.type "tuple")
 | dK {a : Addr} {kvs : List (Key × V)} (e : H a = some (.dK kvs)) : TyOf K H (.ref a) (.type "dict")
 | dT {a : Addr} {kvs : List (List Key × V)} (e : H a = some (.dT kvs)) : TyOf K H (.ref a) (.type "dict")
 | ins {a C dx : Addr} {fs : List (Str × V)} (e : H a = some (.ins C dx fs)) (cl : Cls K C) (ha : PySem.W.findIn K (.ref C) "__class__" = some (some (.builtin "object.__class__")))
  (hn : PySem.W.specialIn K (.builtin "object.__class__") "__get__" = some (some (.builtin "getset_descriptor.__get__"))) (htk : PySem.W.takesIn K (.builtin "object.__class__") = some true)
  (hm : PySem.W.mroIn K C (.type "object") = some true) : TyOf K H (.ref a) (.ref C)
theorem ZlA {x : V} {u t : Value} (I : Inv X pins σ H s) (rx : RelV x u) (ty : TyOf X.K H x t) (e : PySem.W.kitOne X.K t c = some b) (h : ∀ tk, Q (.bool b) { s with toks := tk }) :
 wpAny (model X.prog X.w) A (call (.builtin "isinstance") [u, c]) Q E s := by
 cases ty with
 | non => cases (show u = Value.none from rx); exact PySem.W.kia_one PySem.W.kitx_none I.kIn True.intro e (fun z => nomatch z) h
 | bl y => cases (show u = Value.bool y from rx); exact PySem.W.kia_one PySem.W.kitx_bool I.kIn True.intro e (fun z => nomatch z) h
 | int i => obtain ⟨t, q⟩ := (show ∃ t, u = Value.int i t from rx); cases q; exact PySem.W.kia_one PySem.W.kitx_int I.kIn True.intro e (fun z => nomatch z) h
 | str y => obtain ⟨t, q⟩ := (show ∃ t, u = Value.str y t from rx); cases q; exact PySem.W.kia_one PySem.W.kitx_str I.kIn True.intro e (fun z => nomatch z) h
 | flt y => obtain ⟨t, q⟩ := (show ∃ t, u = Value.float y t from rx); cases q; exact PySem.W.kia_one PySem.W.kitx_float I.kIn True.intro e (fun z => nomatch z) h
 | @lst a xs ea =>
  cases (show u = Value.ref a from rx)
  obtain ⟨_, _, n, _, h1⟩ := (show Zag X.prog X.w H s.heap a (.lst xs) from I.hok a _ ea)
  exact PySem.W.kia_one PySem.W.kitx_list I.kIn ⟨_, h1, rfl⟩ e (fun z => nomatch z) h
 | @frz a ob xs ea =>
  cases (show u = Value.ref a from rx)
  obtain ⟨_, _, _, n, _, h1⟩ := (show Zag X.prog X.w H s.heap a (.frz ob (.lst xs)) from I.hok a _ ea)
  exact PySem.W.kia_one PySem.W.kitx_list I.kIn ⟨_, h1, rfl⟩ e (fun z => nomatch z) h
 | @tup a xs ea =>
  cases (show u = Value.ref a from rx)
  obtain ⟨_, _, _, p⟩ := (show Zag X.prog X.w H s.heap a (.tup xs) from I.hok a _ ea)
  obtain ⟨o, h1, h2, _⟩ := p
  exact PySem.W.kia_one PySem.W.kitx_tuple I.kIn ⟨o, h1, h2⟩ e (fun z => nomatch z) h
 | @dK a kvs ea =>
  cases (show u = Value.ref a from rx)
  obtain ⟨_, _, vs, _, p⟩ := (show Zag X.prog X.w H s.heap a (.dK kvs) from I.hok a _ ea)
  obtain ⟨o, es, ep, h1, h2, _⟩ := p
  exact PySem.W.kia_one PySem.W.kitx_dict I.kIn ⟨o, h1, h2.1⟩ e (fun z => nomatch z) h
 | @dT a kvs ea =>
  cases (show u = Value.ref a from rx)
  obtain ⟨_, _, xs, _, o, es, ep, h1, h2, _⟩ := (show Zag X.prog X.w H s.heap a (.dT kvs) from I.hok a _ ea)
  exact PySem.W.kia_one PySem.W.kitx_dict I.kIn ⟨o, h1, h2.1⟩ e (fun z => nomatch z) h
 | @ins a C dx fs ea cl ha hn htk hm =>
  cases (show u = Value.ref a from rx)
  obtain ⟨mA, O, _⟩ := Zoc I.hok ea
  obtain ⟨od, J, _⟩ := O.look
  exact PySem.W.kia_one (PySem.W.kitx_own (cl.get _) cl.hd ha hn htk hm) I.kIn J e (fun z => nomatch z) h
end
end L2
namespace L2
open PySem PySem.Spec PyProof.Rows
structure Room (k : Nat) (A : Around) : Prop where
 hd : A.handled = none
 dp : A.depth + 3 * k + 5 < recursionLimit
 un : A.units + 16 * k + 200 < cLine
theorem Room.mono {j k : Nat} {A : Around} (r : Room k A) (h : j <= k) : Room j A := ⟨r.hd, by have := r.dp; omega, by have := r.un; omega⟩
theorem Room.deeper {k : Nat} {A : Around} (r : Room (k + 1) A) (env : Env) : Room k (A.deeper env) :=
 ⟨r.hd, by have := r.dp; show A.depth + 1 + 3 * k + 5 < _; omega, by have := r.un; show A.units + 3 + 16 * k + 200 < _; omega⟩
theorem ZkQ {A : Around} {C : Addr} {us : List Value} {kw : List (Str × Value)} : (A.under (.builtin "type.__call__" ⟨.ref C :: us, kw⟩)).depth = A.depth + 1 := by
 first | rfl | simp [Around.under, Code.weight, Code.isCreation, Code.isGuard, Code.isCaller, Code.frames, Code.isFrame, guardIds]
theorem ZkR {A : Around} {C : Addr} {us : List Value} {kw : List (Str × Value)} : (A.under (.builtin "type.__call__" ⟨.ref C :: us, kw⟩)).units = A.units + 1 := by
 first | rfl | simp [Around.under, Code.cUnits, Code.frames, Code.isFrame]
theorem Room.make {k : Nat} {A : Around} (r : Room (k + 1) A) (C : Addr) (us : List Value) (kw : List (Str × Value)) : Room k (A.under (.builtin "type.__call__" ⟨.ref C :: us, kw⟩)) :=
 ⟨r.hd, by have := r.dp; rw [ZkQ]; omega, by have := r.un; rw [ZkR]; omega⟩
theorem Room.depth {k : Nat} {A : Around} (r : Room k A) : A.depth < recursionLimit := by have := r.dp; omega
theorem Room.units {k : Nat} {A : Around} (r : Room k A) : A.units + 64 < cLine := by have := r.un; omega
def tNil : TA := fun _ H Q => Q [] H
def ZkS (ta : TE) (tr : TA) : TA := fun σ H Q => ta σ H fun x H1 => tr σ H1 fun xs H2 => Q (x :: xs) H2
section
variable {X : Cx} {e : Expr} {es : List Expr} {te : TE} {t : TA} {pos : Pos}
theorem ZcA : PA X [] tNil := fun _ _ _ _ H Q I h => Calls.spliced_nil ⟨[], H, I, .nil, h⟩
theorem Zbg (ha : PE X e te) (hr : PA X es t) (hs : starEach (e :: es) X.env = (false, eval e X.env) :: starEach es X.env := by rfl) : PA X (e :: es) (ZkS te t) := by
 intro pos pins s σ H Q I h
 rw [hs]
 show wpAny _ _ (spliced ((false, eval e X.env) :: backTo pos (starEach es X.env))) _ _ s
 refine Calls.spliced_cons (thn (ha pins s σ H _ I h) fun u s1 ⟨x, H1, I1, r1, q1⟩ => ?_)
 exact thn (hr pos pins s1 σ H1 _ I1 q1) fun us s2 ⟨xs, H2, I2, r2, q2⟩ => ⟨x :: xs, H2, I2, .cons r1 r2, q2⟩
def tTup (t : TA) : TE := fun σ H Q => t σ H fun xs H1 => xs.length <= sizeLine /\ ∀ p, H1 p = none -> Q (.ref p) (upd H1 p (.tup xs))
def tLst (t : TA) : TE := fun σ H Q => t σ H fun xs H1 => xs.length <= sizeLine /\ ∀ p, H1 p = none -> Q (.ref p) (upd H1 p (.lst xs))
theorem ZpO {x1} (h : PA X es t) : PE X (.Tuple es x1 pos) (tTup t) := by
 intro pins s σ H Q I hq
 refine wpAny_Tuple_spliced (thn (h pos pins s σ H _ I hq) fun us s1 ⟨xs, H1, I1, r, z, q⟩ => ⟨by rw [<- r.length]; exact z, ?_⟩)
 have hf : H1 s1.heap.objs.size = none := I1.hok.fresh (Nat.le_refl _)
 refine ⟨.ref s1.heap.objs.size, upd H1 s1.heap.objs.size (.tup xs), I1.laid (t' := s1.toks) (fun b u e => Heap.get?_push_of_some _ e) (Nat.le_refl _) ?_, rfl, q _ hf⟩
 exact ⟨z, us, r, ⟨_, Heap.get?_push_size _ rfl, rfl, _, rfl⟩⟩
theorem ZlB (h : PA X es t) : PE X (.List es pos) (tLst t) := by
 intro pins s σ H Q I hq
 refine wpAny_List_spliced (thn (h pos pins s σ H _ I hq) fun us s1 ⟨xs, H1, I1, r, z, q⟩ => ⟨by rw [<- r.length]; exact z, ?_⟩)
 have hf : H1 s1.heap.objs.size = none := I1.hok.fresh (Nat.le_refl _)
 refine ⟨.ref s1.heap.objs.size, upd H1 s1.heap.objs.size (.lst xs), I1.laid (t' := s1.toks) (fun b u e => Heap.get?_push_of_some _ e) (Nat.le_refl _) ?_, rfl, q _ hf⟩
 exact ⟨z, us, 0, r, Heap.get?_push_size _ rfl⟩
end
abbrev Sp := List V -> Hp -> VK -> XK -> Prop
abbrev CXT := List Env -> Hp -> Shared -> XK -> Value -> Shared -> Prop
structure Env0 (P : Program) (w : World) (K : Fg) (mg : Str -> Option Value) (base : Heap) (A : Around) (outer : List Env) (s : Shared) (H : Hp) : Prop where
 frames : A.frames = some outer
 mod : Mod K mg base
 bs : ∀ b o, base.get? b = some o -> s.heap.get? b = some o /\ H b = none
 bsz : base.objs.size <= s.heap.objs.size
 funs : s.heap.FunFrames base outer
 frf : ∀ b ∈ frs outer, H b = none
 hok : HOk P w H s.heap
 bare : AllBare s.gens
def CE (outer : List Env) (P : Program) (w : World) (H : Hp) (s : Shared) (Q : VK) (u : Value) (s' : Shared) : Prop :=
 ∃ v H', s'.os = s.os /\ AllBare s'.gens /\ Un (frs outer) [] H H' s.heap s'.heap /\ HOk P w H' s'.heap /\ RelV v u /\ Q v H'
def CR (CX : CXT) (outer : List Env) (P : Program) (w : World) (H : Hp) (s : Shared) (Q : VK) (E : XK) (r : Result) (s' : Shared) : Prop :=
 match r with
 | .ok (.ret u) => CE outer P w H s Q u s'
 | .ok _ => False
 | .error e => CX outer H s E e s'
structure FnOk (P : Program) (w : World) (K : Fg) (mg : Str -> Option Value) (base : Heap) (CX : CXT) (k : Nat) (f : Addr) (fd : FuncData) (ps : List Str) (sp : Sp) : Prop where
 len : ∀ vs H Q E, sp vs H Q E -> vs.length = ps.length
 run : ∀ (A : Around) (outer : List Env) (s : Shared) (H : Hp) (args : Args) (us : List Value) (vs : List V) (Q : VK) (E : XK), Room k A -> Env0 P w K mg base A outer s H -> BindsTo s fd args (ps.zip us) -> Vals vs us -> sp vs H Q E ->
  codeAny (model P w) A (.call (.ref f) args) (CR CX outer P w H s Q E) s
theorem Env0.make {P : Program} {w : World} {K : Fg} {mg : Str -> Option Value} {base : Heap} {A : Around} {outer : List Env} {s : Shared} {H : Hp} (e : Env0 P w K mg base A outer s H) (C : Addr) (us : List Value) (kw : List (Str × Value)) :
 Env0 P w K mg base (A.under (.builtin "type.__call__" ⟨.ref C :: us, kw⟩)) outer s H := ⟨by first | exact e.frames | (simpa [Around.under, Code.envs, Code.isFrame, pushEnvs] using e.frames), e.mod, e.bs, e.bsz, e.funs, e.frf, e.hok, e.bare⟩
section
variable {X : Cx} {pins : List (Addr × Obj)} {σ : St} {H : Hp} {s s' : Shared}
theorem Inv.env0 (I : Inv X pins σ H s) : Env0 X.prog X.w X.K X.mg X.base X.A X.stack s H :=
 ⟨I.ok.frames, I.ok.mod, I.bs, Nat.le_trans I.ok.bsz I.sz, I.stack, I.stkFree, I.hok, I.bare⟩
theorem Inv.after {Q : VK} {u : Value} (I : Inv X pins σ H s) (h : CE X.stack X.prog X.w H s Q u s') : EP X pins σ Q u s' := by
 obtain ⟨v, H', os, bare, un, hok, r, q⟩ := h
 obtain ⟨hh, g, d, t, os'⟩ := s'
 obtain rfl : os' = s.os := os
 exact ⟨v, H', I.call (h' := hh) (g' := g) (d' := d) (t' := t) (ch := []) un hok bare (fun b z => absurd z (by simp)), r, q⟩
end
def ZnD (sp : Sp) (dvs : List V) (E : XK) (t : TA) : TE := fun σ H Q => t σ H fun vs H1 => sp (vs ++ dvs) H1 Q E
def Binds (K : Fg) (fd : FuncData) (ps : List Str) (ds : List Value) : Prop :=
 ∀ (s : Shared) (us : List Value), K.In s.heap -> (us ++ ds).length = ps.length -> BindsTo s fd ⟨us, []⟩ (ps.zip (us ++ ds))
theorem Binds.all {K : Fg} {fd : FuncData} {ps : List Str} (h : ∀ us : List Value, us.length = ps.length -> bindArgs fd ⟨us, []⟩ = pure (ps.zip us)) : Binds K fd ps [] := fun s us _ hl => by
 rw [List.append_nil] at hl ⊢
 exact .of_eq (h us hl)
def Passes (CX : CXT) (X : Cx) (E : XK) : Prop := ∀ (pins : List (Addr × Obj)) (σ : St) (H : Hp) (s : Shared) (e : Value) (s' : Shared), Inv X pins σ H s -> CX X.stack H s E e s' -> X.xe e s'
section
variable {X : Cx} {CX : CXT} {k : Nat} {f C : Addr} {fd : FuncData} {ps : List Str} {sp : Sp} {dvs : List V} {ds : List Value} {E : XK} {x m : Str} {p pos apos : Pos} {e o : Expr} {es : List Expr} {ta : TE} {t : TA}
theorem ZpP {pins : List (Addr × Obj)} {σ : St} {H : Hp} {s : Shared} {Q : VK} {us : List Value} {vs : List V} (F : FnOk X.prog X.w X.K X.mg X.base CX k f fd ps sp) (hr : Room k X.A) (hb : Binds X.K fd ps ds) (hd : Vals dvs ds) (hx : Passes CX X E)
 (I : Inv X pins σ H s) (r : Vals vs us) (h : sp (vs ++ dvs) H Q E) : wpAny (model X.prog X.w) X.A (call (.ref f) us) (EP X pins σ Q) X.xe s := by
 have r2 : Vals (vs ++ dvs) (us ++ ds) := r.append hd
 have hl : (us ++ ds).length = ps.length := by rw [<- r2.length]; exact F.len _ _ _ _ h
 refine wpAny_call (codeAny_mono (F.run X.A X.stack s H ⟨us, []⟩ (us ++ ds) (vs ++ dvs) Q E hr I.env0 (hb s us I.kIn hl) r2 h) fun r s' hq => ?_)
 cases r with
 | error e => exact hx pins σ H s e s' I hq
 | ok fl =>
  cases fl with
  | ret u => exact I.after hq
  | next => exact False.elim hq
  | brk => exact False.elim hq
  | cont => exact False.elim hq
theorem Zoe (F : FnOk X.prog X.w X.K X.mg X.base CX k f fd ps sp) (hr : Room k X.A) (hg : Gl X x) (hm : X.mg x = some (.ref f)) (hk : PySem.W.keepIn X.K (.ref f) = true) (hb : Binds X.K fd ps ds) (hd : Vals dvs ds) (hx : Passes CX X E)
 (ha : PA X (e :: es) t) (hdb : (x == ("__debug__" : Str)) = false := by decide) (he : starEach (e :: es) X.env = (false, eval e X.env) :: starEach es X.env := by rfl) (hpl : (backTo pos (starEach es X.env)).any (·.1) = false := by rfl) :
 PE X (.Call (.Name x p) (e :: es) [] pos) (ZnD sp dvs E t) := by
 intro pins s σ H Q I h
 refine wpAny_Call_Name_kw (ZeD I hg hm ?_ hdb)
 refine PySem.W.callWith_K (h₀ := X.base) I.ok.mod.kin hk (thn (ha pos pins s σ H _ I h) fun us s1 ⟨vs, H1, I1, r, q⟩ => ⟨I1.kIn, ?_⟩) he hpl
 exact ZpP F hr hb hd hx I1 r q
end
def PK (X : Cx) (kws : List Keyword) (t : TA) : Prop :=
 ∀ (pos : Pos) (pins : List (Addr × Obj)) (s : Shared) (σ : St) (H : Hp) (Q : List V -> Hp -> Prop), Inv X pins σ H s -> t σ H Q -> wpAny (model X.prog X.w) X.A (evalAll ((backToKw pos (keywordEach kws X.env)).map (·.2))) (AP X pins σ Q) X.xe s
section
variable {X : Cx} {CX : CXT} {k : Nat} {f C : Addr} {fd : FuncData} {ps ks : List Str} {sp : Sp} {E : XK} {x m : Str} {p pos apos kpos : Pos} {e o : Expr} {es : List Expr} {kws : List Keyword} {te ta : TE} {t tk : TA} {nm : Option Str}
theorem ZpQ : PK X [] tNil := fun _ _ _ _ H Q I h => wpAny_evalAll_nil ⟨[], H, I, .nil, h⟩
theorem Zof (ha : PE X e te) (hr : PK X kws t) : PK X (⟨nm, e, kpos⟩ :: kws) (ZkS te t) := by
 intro pos pins s σ H Q I h
 show wpAny _ _ (evalAll ((do let v <- eval e X.env; standAt pos; pure v) :: (backToKw pos (keywordEach kws X.env)).map (·.2))) _ _ s
 refine wpAny_evalAll_cons (wpAny_bind (thn (ha pins s σ H _ I h) fun u s1 ⟨x, H1, I1, r1, q1⟩ => wpAny_bind (wpAny_standAt (wpAny_pure ?_))))
 exact thn (hr pos pins s1 σ H1 _ I1 q1) fun us s2 ⟨xs, H2, I2, r2, q2⟩ => ⟨x :: xs, H2, I2, .cons r1 r2, q2⟩
variable {g : List Value -> List Value -> List Value} {gV : List V -> List V -> List V}
end
structure FnScope (N P : List Str) (sc : Scope) : Prop where
 kind : sc.kind = .function
 co : sc.isCoroutine = false
 gen : sc.isGenerator = false
 nd : N.Nodup
 pre : N.take P.length = P
 par : ∀ x ∈ P, sc.names.lookup x = some .local \/ sc.names.lookup x = some .cell
 nofree : ∀ y ∈ sc.names, y.2 ≠ .free
theorem Zin {kindOf : Str -> Option NameKind} {x : Str} : ∀ {binds : List (Str × Value)} {m : Str -> Option Value}, (∀ v, (x, v) ∉ binds) -> bindL kindOf binds m x = m x
 | [], _, _ => rfl
 | (n, v) :: r, m, h => by
  unfold bindL
  rw [Zin fun w hw => h w (List.mem_cons_of_mem _ hw)]
  split
  . have : x ≠ n := by rintro rfl; exact h v List.mem_cons_self
    simp [this]
  . rfl
theorem Zio {kindOf : Str -> Option NameKind} {x : Str} : ∀ {binds : List (Str × Value)} {m : Str -> Option Value}, (∀ v, (x, v) ∉ binds) -> bindC kindOf binds m x = m x
 | [], _, _ => rfl
 | (n, v) :: r, m, h => by
  unfold bindC
  rw [Zio fun w hw => h w (List.mem_cons_of_mem _ hw)]
  split
  . rfl
  . have : x ≠ n := by rintro rfl; exact h v List.mem_cons_self
    simp [this]
theorem Zip {kindOf : Str -> Option NameKind} {x : Str} {v : Value} : ∀ {P : List Str} {vs : List Value} {i : Nat} {m : Str -> Option Value}, P.Nodup -> P[i]? = some x -> vs[i]? = some v -> kindOf x = some .local ->
 bindL kindOf (P.zip vs) m x = some v
 | [], _, _, _, _, h, _, _ => by simp at h
 | _ :: _, [], _, _, _, _, h, _ => by simp at h
 | p :: P, w :: vs, 0, m, nd, h1, h2, hk => by
  simp at h1 h2; subst h1; subst h2
  show bindL kindOf ((p, w) :: P.zip vs) m p = _
  unfold bindL
  rw [Zin fun v hv => (List.nodup_cons.mp nd).1 (List.of_mem_zip hv).1, if_pos hk]
  simp
 | p :: P, w :: vs, i + 1, m, nd, h1, h2, hk => by
  show bindL kindOf ((p, w) :: P.zip vs) m x = _
  unfold bindL
  exact Zip (i := i) (List.nodup_cons.mp nd).2 (by simpa using h1) (by simpa using h2) hk
theorem Ziq {kindOf : Str -> Option NameKind} {x : Str} {v : Value} : ∀ {P : List Str} {vs : List Value} {i : Nat} {m : Str -> Option Value}, P.Nodup -> P[i]? = some x -> vs[i]? = some v -> kindOf x ≠ some .local ->
 bindC kindOf (P.zip vs) m x = some v
 | [], _, _, _, _, h, _, _ => by simp at h
 | _ :: _, [], _, _, _, _, h, _ => by simp at h
 | p :: P, w :: vs, 0, m, nd, h1, h2, hk => by
  simp at h1 h2; subst h1; subst h2
  show bindC kindOf ((p, w) :: P.zip vs) m p = _
  unfold bindC
  rw [Zio fun v hv => (List.nodup_cons.mp nd).1 (List.of_mem_zip hv).1, if_neg hk]
  simp
 | p :: P, w :: vs, i + 1, m, nd, h1, h2, hk => by
  show bindC kindOf ((p, w) :: P.zip vs) m x = _
  unfold bindC
  exact Ziq (i := i) (List.nodup_cons.mp nd).2 (by simpa using h1) (by simpa using h2) hk
noncomputable def start (N : List Str) (vs : List V) : St := vs.map some ++ List.replicate (N.length - vs.length) none
noncomputable def cxOf (CX : CXT) (P : Program) (w : World) (K : Fg) (mg : Str -> Option Value) (base : Heap) (N : List Str) (qual : Str) (scope : Scope) (f : Addr) (cd : Value) (A : Around) (outer : List Env) (s : Shared) (H : Hp) (E : XK) : Cx where
 prog := P
 w := w
 K := K
 mg := mg
 base := base
 A := A.deeper (envOfC qual scope s.heap.objs.size f cd)
 N := N
 s₀ := s
 H₀ := H
 env := envOfC qual scope s.heap.objs.size f cd
 outer := outer
 stack := envOfC qual scope s.heap.objs.size f cd :: outer
 ex := []
 calm := true
 fn := fun _ => true
 pn := []
 xe := fun e s' => wpAny (model P w) (A.deeper (envOfC qual scope s.heap.objs.size f cd)) (leaving (envOfC qual scope s.heap.objs.size f cd) e) (fun _ s'' => CX outer H s E e s'') (fun e' s'' => CX outer H s E e' s'') s'
theorem ZiU {sc : Scope} {n : Nat} {x : Str} (h : sc.names.lookup x = some .cell) : ∃ c, (cellsFrom n sc.names []).lookup x = some c := by
 have q := PySem.W.cellsFrom_some sc.names n [] (.inl h)
 exact Option.isSome_iff_exists.mp q
theorem Zir {CX : CXT} {P : Program} {w : World} {K : Fg} {mg : Str -> Option Value} {base : Heap} {N ps : List Str} {qual : Str} {scope : Scope} {f : Addr} {cd : Value} {A : Around} {outer : List Env} {s s1 : Shared} {H : Hp} {E : XK} {us : List Value} {vs : List V}
 (S : FnScope N ps scope) (hd : A.handled = none) (e0 : Env0 P w K mg base A outer s H) (hl : vs.length = ps.length) (r : Vals vs us)
 (x : InCallC s s.heap.objs.size (bindL (envOfC qual scope s.heap.objs.size f cd).kindOf (ps.zip us) fun _ => none) (cellsFrom (s.heap.objs.size + 1) scope.names []) (bindC (envOfC qual scope s.heap.objs.size f cd).kindOf (ps.zip us) fun _ => none) s1) :
 Inv (cxOf CX P w K mg base N qual scope f cd A outer s H E) [] (start N vs) H s1 := by
 have hpl : ps.length <= N.length := by have := congrArg List.length S.pre; rw [List.length_take] at this; omega
 obtain ⟨h1, tk, rfl, hk⟩ := x.done
 have noA : ∀ b : Addr, b ∉ (cxOf CX P w K mg base N qual scope f cd A outer s H E).ex := fun b z => absurd (show b ∈ ([] : List Addr) from z) (by simp)
 refine ⟨⟨e0.mod, S.kind, rfl, rfl, Nat.le_refl _, fun y z c h1 h2 => ?_, fun y hy => ?_, fun y c _ h => ?_, fun _ => hd, Around.frames_deeper e0.frames, .inr ⟨rfl, rfl⟩, fun b z => absurd z (noA b), e0.bs, e0.bsz, fun b _ _ => noA b, fun b z => absurd z (noA b), e0.funs, e0.frf⟩,
  rfl, e0.bare, Un.kept hk, ⟨_, x.toInCall.ns, fun i y v h1 h2 h3 => ?_⟩, fun y c h => ⟨_, x.cell y c h⟩, e0.hok.fresh (Nat.le_refl _), fun y c h => ?_, fun p hp => absurd (show p ∈ ([] : List (Addr × Obj)) from hp) (by simp), e0.hok.kept hk, ?_⟩
 . exact name_of_addr x.apart (PySem.mem_of_lookup h1) (PySem.mem_of_lookup h2)
 . have hy : scope.names.lookup y = some .cell \/ scope.names.lookup y = some .free := hy
   rcases hy with hy | hy
   . exact ZiU hy
   . exact absurd rfl (S.nofree _ (PySem.mem_of_lookup hy))
 . exact Nat.le_of_lt (x.above y c (PySem.mem_of_lookup h))
 . have hi : i < vs.length := by
    unfold start at h2
    by_cases hi : i < vs.length
    . exact hi
    . rw [List.getElem?_append_right (by simpa using hi)] at h2
      rw [List.getElem?_replicate] at h2
      split at h2 <;> cases h2
   have ha : vs[i]? = some v := by
    unfold start at h2
    rw [List.getElem?_append_left (by simpa using hi), List.getElem?_map] at h2
    cases e : vs[i]? with
    | none => rw [e] at h2; cases h2
    | some a => rw [e] at h2; cases h2; rfl
   obtain ⟨u, hu, rv⟩ := r.get ha
   have hp : ps[i]? = some y := by
    rw [<- S.pre, List.getElem?_take_of_lt (by omega)]; exact h1
   have ndP : ps.Nodup := by rw [<- S.pre]; exact S.nd.sublist (List.take_sublist _ _)
   refine ⟨u, rv, ?_⟩
   rcases S.par y (List.mem_of_getElem? hp) with k | k
   . exact .inl ⟨k, Zip ndP hp hu k⟩
   . obtain ⟨c, e⟩ := ZiU (n := s.heap.objs.size + 1) k
     refine .inr ⟨.inl k, c, e, ?_⟩
     have q := x.cell y c e
     rw [Ziq ndP hp hu (by show scope.names.lookup y ≠ _; rw [k]; decide)] at q
     exact q
 . exact e0.hok.fresh (Nat.le_of_lt (x.above y c (PySem.mem_of_lookup h)))
 . unfold start
   show _ = N.length
   rw [List.length_append, List.length_map, List.length_replicate]
   omega
theorem Zr8 {CX : CXT} {P : Program} {w : World} {K : Fg} {mg : Str -> Option Value} {base : Heap} {k : Nat} {f : Addr} {name qual : Str} {params : Arguments} {body : List Stmt} {scope : Scope} {dV kV doc pm cdv ct oc : Value} {an od : Option Addr}
 {osl : Array (Option Value)} {N ps : List Str} {sp : Sp} (lk : K.lookup f = some ⟨oc, od, .func (PySem.W.fnOf name qual params body scope dV kV doc pm an cdv ct), osl⟩) (hcd : PySem.W.codeIn K cdv qual = true) (S : FnScope N ps scope)
 (len : ∀ vs H Q E, sp vs H Q E -> vs.length = ps.length)
 (hbody : ∀ (A : Around) (outer : List Env) (s : Shared) (H : Hp) (vs : List V) (Q : VK) (E : XK), Room k (A.deeper (envOfC qual scope s.heap.objs.size f cdv)) -> sp vs H Q E ->
  ∃ t, PSs (cxOf CX P w K mg base N qual scope f cdv A outer s H E) body t /\ t { nx := fun _ H' => Q .non H', rt := Q } (start N vs) H) :
 FnOk P w K mg base CX (k + 1) f (PySem.W.fnOf name qual params body scope dV kV doc pm an cdv ct) ps sp := by
 refine ⟨len, fun A outer s H args us vs Q E hr e0 hb r hsp => ?_⟩
 have hl := len _ _ _ _ hsp
 have KX : K.In s.heap := e0.mod.kin.keeps fun b o e => (e0.bs b o e).1
 have lim : s.heap.NoLimit := e0.mod.nolimit.keeps fun b o e => (e0.bs b o e).1
 have hkind : ∀ y ∈ ps.zip us, scope.names.lookup y.1 = some .local \/ (scope.names.lookup y.1 = some .cell /\ ((cellsFrom (s.heap.objs.size + 1) scope.names []).lookup y.1).isSome = true) := fun ⟨n, v⟩ hy => by
  rcases S.par n (List.of_mem_zip hy).1 with q | q
  . exact .inl q
  . exact .inr ⟨q, PySem.W.cellsFrom_some _ _ _ (.inl q)⟩
 refine codeAny_call_function hr.depth (KX _ _ lk) rfl S.co S.gen rfl (PySem.W.codeRec_of KX hcd) (hb _ _ _ _ ?_)
 refine wpAny_newFunctionEnv_cells S.kind hkind fun env he s1 x => ?_
 subst he
 refine ⟨lim.keeps x.toInCall.keep, codeAny_func ?_⟩
 obtain ⟨t, ht, hq⟩ := hbody A outer s H vs Q E (hr.deeper _) hsp
 have I : Inv (cxOf CX P w K mg base N qual scope f cdv A outer s H E) [] (start N vs) H s1 := Zir S hr.hd e0 hl r x
 refine wpAny_mono (ht [] s1 (start N vs) H _ I hq) (fun fl s' hs => ?_) fun e s' hs => hs
 have fin : ∀ {σ' : St} {H' : Hp} {v : V} {u : Value}, Inv (cxOf CX P w K mg base N qual scope f cdv A outer s H E) [] σ' H' s' -> RelV v u -> Q v H' -> CE outer P w H s Q u s' :=
  fun {σ' H' v u} J rv q => ⟨v, H', J.os, J.bare, J.base, J.hok, rv, q⟩
 cases fl with
 | ret u =>
  obtain ⟨v, σ', H', J, rv, q⟩ := hs
  exact fin J rv q
 | next =>
  obtain ⟨σ', H', J, q⟩ := hs
  exact fin (v := V.non) (u := Value.none) J rfl q
 | brk =>
  obtain ⟨_, _, _, q⟩ := hs
  exact False.elim q
 | cont =>
  obtain ⟨_, _, _, q⟩ := hs
  exact False.elim q
end L2
namespace L2
open PySem PySem.Spec PyProof.Rows
section
variable {X : Cx} {x : Str} {p pos : Pos} {e : Expr} {es : List Expr} {t : TA} {id T : String} {r : List V -> Hp -> VK -> Prop}
def tCB (r : List V -> Hp -> VK -> Prop) (t : TA) : TE := fun σ H Q => t σ H fun vs H1 => r vs H1 Q
theorem Zf2 (hc : Zbm X (.builtin id) r) (hg : Gl X x) (hm : X.mg x = none) (hv : bootBuiltins x = some (.builtin id)) (ha : PA X (e :: es) t) (hn : x ≠ "__name__" := by decide) (hdb : (x == ("__debug__" : Str)) = false := by decide)
 (he : starEach (e :: es) X.env = (false, eval e X.env) :: starEach es X.env := by rfl) (hpl : (backTo pos (starEach es X.env)).any (·.1) = false := by rfl) : PE X (.Call (.Name x p) (e :: es) [] pos) (tCB r t) := by
 intro pins s σ H Q I h
 refine wpAny_Call_Name_kw (Zfm I hg hm hv ?_ hn hdb)
 exact PyProof.Rows.callWith_builtin1 (thn (ha pos pins s σ H _ I h) fun us s1 ⟨vs, H1, I1, r1, q1⟩ => hc pins s1 σ H1 vs us Q I1 r1 q1) he hpl
theorem ZlC (hc : Zbm X (.type T) r) (hg : Gl X x) (hm : X.mg x = none) (hv : bootBuiltins x = some (.type T)) (ha : PA X (e :: es) t) (hn : x ≠ "__name__" := by decide) (hdb : (x == ("__debug__" : Str)) = false := by decide)
 (he : starEach (e :: es) X.env = (false, eval e X.env) :: starEach es X.env := by rfl) (hpl : (backTo pos (starEach es X.env)).any (·.1) = false := by rfl) : PE X (.Call (.Name x p) (e :: es) [] pos) (tCB r t) := by
 intro pins s σ H Q I h
 refine wpAny_Call_Name_kw (Zfm I hg hm hv ?_ hn hdb)
 exact PyProof.Rows.callWith_type1 (thn (ha pos pins s σ H _ I h) fun us s1 ⟨vs, H1, I1, r1, q1⟩ => hc pins s1 σ H1 vs us Q I1 r1 q1) he hpl
end
end L2
namespace HT
open PySem PyProof.Rows
section
variable {prog : Program} {w : World} {A : Around} {E : Value -> Shared -> Prop} {s : Shared}
noncomputable def sIx (n d : Nat) : Option Int -> Nat
 | none => d
 | some v => if v < 0 then (v + (n : Int)).toNat else min v.toNat n
theorem Zkw (n d k : Nat) : sIx n d (some (k : Int)) = min k n := by
 show (if (k : Int) < 0 then ((k : Int) + (n : Int)).toNat else min (k : Int).toNat n) = min k n
 rw [if_neg (by omega), Int.toNat_natCast]
end
end HT
namespace L2
open PySem PySem.Spec PyProof.Rows
abbrev TO := St -> Hp -> (Option Int -> Hp -> Prop) -> Prop
def PO (X : Cx) (e : Option Expr) (t : TO) : Prop :=
 ∀ (pins : List (Addr × Obj)) (s : Shared) (σ : St) (H : Hp) (Q : Option Int -> Hp -> Prop), Inv X pins σ H s -> t σ H Q ->
  wpAny (model X.prog X.w) X.A (evalPart e X.env) (fun u s' => ∃ o H', Inv X pins σ H' s' /\ IsPart u o /\ Q o H') X.xe s
noncomputable def Zr9 (t : TE) : TO := fun σ H Q => t σ H fun x H1 => ∃ i, x = .int i /\ Q (some i) H1
section
variable {X : Cx} {e : Expr} {te : TE} {lo hi : Option Expr} {tl th : TO} {pos p2 : Pos}
theorem Zog (h : PE X e te) : PO X (some e) (Zr9 te) := by
 intro pins s σ H Q I hw
 rw [evalPart_some]
 refine thn (h pins s σ H _ I hw) fun u s1 ⟨x, H1, I1, r1, q1⟩ => ?_
 obtain ⟨i, rfl, q⟩ := q1
 obtain ⟨t, rfl⟩ := r1
 exact ⟨some i, H1, I1, .int i t, q⟩
def SlR (X : Cx) (r : V -> Option Int -> Option Int -> Hp -> VK -> Prop) : Prop :=
 ∀ (pins : List (Addr × Obj)) (s : Shared) (σ : St) (H : Hp) (x : V) (v vl vu : Value) (lo hi : Option Int) (sl : Addr) (Q : VK), Inv X pins σ H s -> RelV x v -> s.heap.IsSliceOf sl vl vu .none -> IsPart vl lo -> IsPart vu hi -> r x lo hi H Q ->
  ∃ T id, typeLookup (.type T) "__getitem__" = pure (some (.builtin id)) /\ s.TypeIs v T /\ wpAny (model X.prog X.w) X.A (getItem v (.ref sl)) (EP X pins σ Q) X.xe s
def tSl (r : V -> Option Int -> Option Int -> Hp -> VK -> Prop) (te : TE) (tl th : TO) : TE := fun σ H Q => te σ H fun x H1 => tl σ H1 fun l H2 => th σ H2 fun u H3 => r x l u H3 Q
theorem ZmB {r : V -> Option Int -> Option Int -> Hp -> VK -> Prop} (hr : SlR X r) (he : PE X e te) (hl : PO X lo tl) (hu : PO X hi th) : PE X (.Subscript e (.Slice lo hi none p2) pos) (tSl r te tl th) := by
 intro pins s σ H Q I h
 refine Subscript_ (thn (he pins s σ H _ I h) fun v s1 ⟨x, H1, I1, r1, q1⟩ => ?_)
 refine wpAny_Slice (thn (hl pins s1 σ H1 _ I1 q1) fun vl s2 ⟨l, H2, I2, pl, q2⟩ => thn (hu pins s2 σ H2 _ I2 q2) fun vu s3 ⟨u, H3, I3, pu, q3⟩ => ?_)
 rw [evalPart_none]
 refine wpAny_pure ?_
 have I4 : Inv X pins σ H3 { s3 with heap := s3.heap.push { cls := .type "slice", data := .fields #[vl, vu, .none] } } := I3.kept (t' := s3.toks) fun b ob q => Heap.get?_push_of_some _ q
 obtain ⟨T, id, hT, ht, hg⟩ := hr pins { s3 with heap := s3.heap.push { cls := .type "slice", data := .fields #[vl, vu, .none] } } σ H3 x v vl vu l u s3.heap.objs.size Q I4 r1 (Heap.IsSliceOf.new ..) pl pu q3
 show wpAny (model X.prog X.w) X.A (subscriptTail e (.Slice lo hi none p2) v (.ref s3.heap.objs.size)) (EP X pins σ Q) X.xe { s3 with heap := s3.heap.push { cls := .type "slice", data := .fields #[vl, vu, .none] } }
 exact tail_any (ops := [.ref s3.heap.objs.size, v]) ht hT hg (by with_unfolding_all rfl)
noncomputable def cutV (xs : List V) (lo hi : Option Int) : List V := (xs.drop (HT.sIx xs.length 0 lo)).take (HT.sIx xs.length xs.length hi - HT.sIx xs.length 0 lo)
theorem ZjT (xs : List V) (lo hi : Option Int) : (cutV xs lo hi).length <= xs.length := by
 unfold cutV
 rw [List.length_take, List.length_drop]
 omega
end
end L2
namespace L2
open PySem PySem.Spec PyProof.Rows
noncomputable def ixN (n : Nat) (i : Int) : Option Nat := if 0 <= i then (if i < n then some i.toNat else none) else if -(n : Int) <= i then some (i + n).toNat else none
noncomputable def atI {α : Type} (xs : List α) (i : Int) : Option α := (ixN xs.length i).bind fun j => xs[j]?
theorem Zkx {n : Nat} {i : Int} {j : Nat} (h : ixN n i = some j) : seqIndex? i n = some j /\ j < n /\ -(n : Int) <= i /\ i < n := by
 unfold ixN at h
 by_cases h0 : 0 <= i
 . rw [if_pos h0] at h
   by_cases h1 : i < n
   . rw [if_pos h1] at h
     have e : i.toNat = j := Option.some.inj h
     exact ⟨by rw [seqIndex_of h0 h1, e], by omega, by omega, h1⟩
   . rw [if_neg h1] at h; cases h
 . rw [if_neg h0] at h
   by_cases h1 : -(n : Int) <= i
   . rw [if_pos h1] at h
     have e : (i + n).toNat = j := Option.some.inj h
     exact ⟨by rw [seqIndex_neg (by omega) h1, e], by omega, h1, by omega⟩
   . rw [if_neg h1] at h; cases h
theorem ZhB {α : Type} {xs : List α} {i : Int} {v : α} (h : atI xs i = some v) : ∃ j, seqIndex? i xs.length = some j /\ xs[j]? = some v /\ j < xs.length /\ -(xs.length : Int) <= i /\ i < xs.length := by
 unfold atI at h
 cases e : ixN xs.length i with
 | none => rw [e] at h; cases h
 | some j =>
  rw [e] at h
  obtain ⟨h1, h2, h3, h4⟩ := Zkx e
  exact ⟨j, h1, h, h2, h3, h4⟩
def ZhC (b : Expr) : Prop := ∀ o i, subscripted b false o i = operate [o, i] (getItem o i)
def IxR (X : Cx) (r : R2) : Prop :=
 ∀ (value slice : Expr) (pins : List (Addr × Obj)) (s : Shared) (σ : St) (H : Hp) (x y : V) (v u : Value) (Q : VK), Inv X pins σ H s -> RelV x v -> RelV y u -> r x y H Q ->
  subscripted slice false v u = operate [v, u] (getItem v u) -> wpAny (model X.prog X.w) X.A (subscriptTail value slice v u) (EP X pins σ Q) X.xe s
def MtR (X : Cx) (id : String) (r : V -> List V -> Hp -> VK -> Prop) : Prop :=
 ∀ (pins : List (Addr × Obj)) (s : Shared) (σ : St) (H : Hp) (x : V) (xs : List V) (v : Value) (us : List Value) (Q : VK), Inv X pins σ H s -> RelV x v -> Vals xs us -> r x xs H Q ->
  wpAny (model X.prog X.w) X.A (call (.builtin id) (v :: us)) (EP X pins σ Q) X.xe s
section
variable {X : Cx} {a b : Expr} {ta tb : TE} {pos : Pos}
theorem ZrA {r : R2} (hr : IxR X r) (ha : PE X a ta) (hb : PE X b tb) (hs : ZhC b) : PE X (.Subscript a b pos) (tOp r ta tb) := by
 intro pins s σ H Q I h
 exact Subscript_ (binT ha hb I h fun v u s2 x y H2 I2 rx ry q => hr a b pins s2 σ H2 x y v u Q I2 rx ry q (hs _ _))
def rIxL (K : Fg) : R2 := fun x y H Q => ∃ p xs i v, x = .ref p /\ y = .int i /\ SqL K H p xs /\ atI xs i = some v /\ Q v H
def rIxT (K : Fg) : R2 := fun x y H Q => ∃ p xs i v, x = .ref p /\ y = .int i /\ SqT K H p xs /\ atI xs i = some v /\ Q v H
def rIxS : R2 := fun x y H Q => ∃ z i c, x = .str z /\ y = .int i /\ z.length <= sizeLine /\ atI z.cps.toList i = some c /\ Q (.str ⟨#[c]⟩) H
theorem Zky : IxR X (rIxL X.K) := by
 intro value slice pins s σ H x y v u Q I rx ry h hs
 obtain ⟨p, xs, i, z, rfl, rfl, hq, he, q⟩ := h
 cases rx
 obtain ⟨t, rfl⟩ := ry
 obtain ⟨its, r, pl, hz⟩ := I.list hq
 obtain ⟨j, h1, h2, h3, h4, h5⟩ := ZhB he
 obtain ⟨w, ew, rw'⟩ := r.get h2
 have hl := r.length
 have hn := ZeL
 have fin : EP X pins σ Q w s := ⟨z, H, I, rw', q⟩
 by_cases h0 : 0 <= i
 . have hj : i.toNat = j := by
    rw [seqIndex_of h0 h5] at h1
    exact Option.some.inj h1
   exact item_listR pl.isList h0 (by omega) (by rw [hj]; simpa using ew) fin hs
 . have hj : (i + (its.toArray.size : Int)).toNat = j := by
    rw [seqIndex_neg (by omega) h4] at h1
    rw [List.size_toArray, <- hl]
    exact Option.some.inj h1
   exact subscriptTail_builtinR (x := w) pl.isList.typeIs slot_list_getitem.lookup
    (wpAny_getItem_list_neg (Q := fun r s' => r = w /\ EP X pins σ Q r s') pl.isList (by omega) (by rw [List.size_toArray] <;> omega) (by omega) (by rw [hj]; simpa using ew) ⟨rfl, fin⟩) hs
theorem ZlD : IxR X (rIxT X.K) := by
 intro value slice pins s σ H x y v u Q I rx ry h hs
 obtain ⟨p, xs, i, z, rfl, rfl, hq, he, q⟩ := h
 cases rx
 obtain ⟨t, rfl⟩ := ry
 obtain ⟨its, r, pl, hz⟩ := I.tuple hq
 obtain ⟨j, h1, h2, h3, h4, h5⟩ := ZhB he
 obtain ⟨w, ew, rw'⟩ := r.get h2
 have hl := r.length
 have hn := ZeL
 have fin : EP X pins σ Q w s := ⟨z, H, I, rw', q⟩
 exact subscriptTail_builtinR (x := w) pl.typeIs slot_tuple_getitem.lookup
  (getItem_tuple (j := j) (Q := fun r s' => r = w /\ EP X pins σ Q r s') pl (by omega) (by omega) (by rw [List.size_toArray, <- hl]; exact h1) (by simpa using ew) ⟨rfl, fin⟩) hs
theorem ZpR : IxR X rIxS := by
 intro value slice pins s σ H x y v u Q I rx ry h hs
 obtain ⟨z, i, c, rfl, rfl, hz, he, q⟩ := h
 obtain ⟨t, rfl⟩ := rx
 obtain ⟨t', rfl⟩ := ry
 obtain ⟨j, h1, h2, h3, h4, h5⟩ := ZhB he
 have hl : z.cps.toList.length = z.length := by simp [Str.length]
 rw [hl] at h1 h4 h5
 have hn := ZeL
 exact tail_any (typeIs_str s z t) slot_str_getitem.lookup (getItem_str (c := c) (by
  have e1 : decide (i < -(2 ^ 63 : Int)) = false := decide_eq_false (by omega)
  have e2 : decide (i ≥ 2 ^ 63) = false := decide_eq_false (by omega)
  rw [e1, e2, Bool.or_false]) (by rw [h1]; simpa using h2) ⟨.str ⟨#[c]⟩, H, I.tok _, ⟨_, rfl⟩, q⟩) hs
theorem ZkT (its : List Value) (n j : Nat) (u : Value) : Obj.mapSeq (·.setIfInBounds j u) { cls := .type "list", data := .seq its.toArray n } = { cls := .type "list", data := .seq (its.set j u).toArray n } := by
 simp [Obj.mapSeq]
theorem Inv.lst {pins : List (Addr × Obj)} {σ : St} {H : Hp} {s : Shared} {p : Addr} {xs : List V} (I : Inv X pins σ H s) (h : H p = some (.lst xs)) :
 ∃ (its : List Value) (n : Nat), Vals xs its /\ s.heap.get? p = some { cls := .type "list", data := .seq its.toArray n } /\ xs.length <= sizeLine := by
 obtain ⟨z, its, n, r, e⟩ := I.hok p _ h
 exact ⟨its, n, r, e, z⟩
theorem Inv.lstUpd {pins : List (Addr × Obj)} {σ : St} {H : Hp} {s : Shared} {p : Addr} {xs ys : List V} {its its' : List Value} {n n' : Nat} {f : Obj -> Obj} (I : Inv X pins σ H s) (h : H p = some (.lst xs))
 (ho : s.heap.get? p = some { cls := .type "list", data := .seq its.toArray n }) (hf : f { cls := .type "list", data := .seq its.toArray n } = { cls := .type "list", data := .seq its'.toArray n' }) (r : Vals ys its') (hz : ys.length <= sizeLine) (t : Nat) :
 Inv X pins σ (upd H p (.lst ys)) { s with heap := s.heap.update p f, toks := t } := by
 have e : (s.heap.update p f).get? p = some { cls := .type "list", data := .seq its'.toArray n' } := by
  rw [Heap.get?_update_self f ho (by rw [hf] <;> rfl), hf]
 refine I.write (x := p) (e := p) (by rw [h]; trivial) (.inl rfl) (fun b u hb q => (Heap.get?_update_other _ _ (Ne.symm hb)).trans q) ⟨_, e⟩ ?_
 exact ⟨hz, its', n', r, e⟩
def ZrB : V -> V -> V -> Hp -> (Hp -> Prop) -> Prop := fun o i v H Q => ∃ p xs k j, o = .ref p /\ i = .int k /\ H p = some (.lst xs) /\ ixN xs.length k = some j /\ Q (upd H p (.lst (xs.set j v)))
theorem ZmC : PSet X ZrB := by
 intro pins s σ H o i v ov iv u Q I ro ri rv h
 obtain ⟨p, xs, k, j, rfl, rfl, hp, hj, q⟩ := h
 cases ro
 obtain ⟨t, rfl⟩ := ri
 obtain ⟨its, n, r, ho, hz⟩ := I.lst hp
 obtain ⟨h1, h2, h3, h4⟩ := Zkx hj
 have hl := r.length
 have hn := ZeL
 have I' : Inv X pins σ (upd H p (.lst (xs.set j v))) { s with heap := s.heap.update p (Obj.mapSeq (·.setIfInBounds j u)) } :=
  I.lstUpd hp ho (ZkT its n j u) (r.set rv j) (by rw [List.length_set]; exact hz) s.toks
 by_cases h0 : 0 <= k
 . have hk : k.toNat = j := by
    rw [seqIndex_of h0 h4] at h1
    exact Option.some.inj h1
   exact PySem.W.ki_setAt ho h0 (by omega) (by rw [List.size_toArray, <- hl]; exact h4) (by rw [hk]; exact ⟨_, I', q⟩)
 . have hk : (k + (its.toArray.size : Int)).toNat = j := by
    rw [seqIndex_neg (by omega) h3] at h1
    rw [List.size_toArray, <- hl]
    exact Option.some.inj h1
   exact PySem.W.ki_setBack ho (by omega) (by rw [List.size_toArray, <- hl]; exact h3) (by omega) (by rw [hk]; exact ⟨_, I', q⟩)
theorem ZiV (lo hi : Option Int) (n : Nat) : (sliceBounds lo hi none n).1 = ((HT.sIx n 0 lo : Nat) : Int) /\ (sliceBounds lo hi none n).2.1 = ((HT.sIx n n hi : Nat) : Int) /\ (sliceBounds lo hi none n).2.2 = 1 := by
 refine ⟨?_, ?_, rfl⟩
 . cases lo with
   | none => simp [sliceBounds, HT.sIx]
   | some i =>
    simp only [sliceBounds, HT.sIx, Option.getD_none, show (1 : Int) > 0 by decide, if_true]
    by_cases h : i < 0
    . simp only [h, if_true] <;> omega
    . simp only [h, if_false] <;> omega
 . cases hi with
   | none => simp [sliceBounds, HT.sIx]
   | some i =>
    simp only [sliceBounds, HT.sIx, Option.getD_none, show (1 : Int) > 0 by decide, if_true]
    by_cases h : i < 0
    . simp only [h, if_true] <;> omega
    . simp only [h, if_false] <;> omega
theorem Zi8 (its : List Value) (lo hi : Option Int) : slicePick its.toArray lo hi none = ((its.drop (HT.sIx its.length 0 lo)).take (HT.sIx its.length its.length hi - HT.sIx its.length 0 lo)).toArray := by
 obtain ⟨h1, h2, h3⟩ := ZiV lo hi its.toArray.size
 unfold slicePick
 rw [h1, h2, h3]
 simp only [sliceRange_one, pick_run, List.size_toArray] <;> rfl
def rSlL (K : Fg) : V -> Option Int -> Option Int -> Hp -> VK -> Prop := fun x lo hi H Q => ∃ a xs, x = .ref a /\ SqL K H a xs /\ ∀ p, H p = none -> Q (.ref p) (upd H p (.lst (cutV xs lo hi)))
theorem Zkz : SlR X (rSlL X.K) := by
 intro pins s σ H x v vl vu lo hi sl Q I rx hs pl pu h
 obtain ⟨a, xs, rfl, hx, q⟩ := h
 cases rx
 obtain ⟨its, r, ht, hz⟩ := I.list hx
 have hlen := r.length
 refine ⟨"list", _, slot_list_getitem.lookup, ht.isList.typeIs, ?_⟩
 refine wpAny_getItem_list_slice ht.isList hs pl pu .none (by simp) ?_ (by rw [List.size_toArray] <;> omega)
 rw [Zi8, <- hlen]
 refine ⟨.ref s.heap.objs.size, _, I.laid (t' := s.toks) (o := .lst (cutV xs lo hi)) (fun b ob q => Heap.get?_push_of_some _ q) (Nat.le_refl _) ?_, rfl, q _ (I.hok.fresh (Nat.le_refl _))⟩
 exact ⟨Nat.le_trans (ZjT xs lo hi) hz, _, 0, (r.drop (HT.sIx xs.length 0 lo)).take (HT.sIx xs.length xs.length hi - HT.sIx xs.length 0 lo), Heap.get?_push_size _ rfl⟩
noncomputable def Zbt : V -> Bool
 | .non => true
 | .bl _ => true
 | .int _ => true
 | .str _ => true
 | _ => false
noncomputable def eqV : V -> V -> Bool
 | .non, .non => true
 | .bl a, .bl b => a == b
 | .bl a, .int b => (if a then 1 else 0) == b
 | .int a, .bl b => a == (if b then 1 else 0)
 | .int a, .int b => a == b
 | .str a, .str b => a == b
 | _, _ => false
theorem ZpS {A : Around} {s : Shared} {y x : V} {u v : Value} (ry : RelV y u) (rx : RelV x v) (fy : Zbt y = true) (fx : Zbt x = true) : SeqAt.EqAt A s u v (eqV y x) := by
 cases y with
 | non =>
  cases ry
  cases x with
  | non => cases rx; exact SeqAt.EqAt.same _
  | bl b => cases rx; exact SeqAt.EqAt.none_bool b
  | int b => obtain ⟨t, rfl⟩ := rx; exact SeqAt.EqAt.none_int b t
  | str b => obtain ⟨t, rfl⟩ := rx; exact SeqAt.EqAt.none_str b t
  | _ => exact absurd (show false = true from fx) Bool.false_ne_true
 | bl a =>
  cases ry
  cases x with
  | non => cases rx; exact SeqAt.EqAt.bool_none a
  | bl b => cases rx; exact SeqAt.EqAt.bool_bool a b
  | int b => obtain ⟨t, rfl⟩ := rx; exact SeqAt.EqAt.bool_int a b t
  | str b => obtain ⟨t, rfl⟩ := rx; exact SeqAt.EqAt.bool_str a b t
  | _ => exact absurd (show false = true from fx) Bool.false_ne_true
 | int a =>
  obtain ⟨t', rfl⟩ := ry
  cases x with
  | non => cases rx; exact SeqAt.EqAt.int_none a t'
  | bl b => cases rx; exact SeqAt.EqAt.int_bool a t' b
  | int b => obtain ⟨t, rfl⟩ := rx; exact SeqAt.EqAt.int_int a t' b t
  | str b => obtain ⟨t, rfl⟩ := rx; exact SeqAt.EqAt.int_str a t' b t
  | _ => exact absurd (show false = true from fx) Bool.false_ne_true
 | str a =>
  obtain ⟨t', rfl⟩ := ry
  cases x with
  | non => cases rx; exact SeqAt.EqAt.str_none a t'
  | bl b => cases rx; exact SeqAt.EqAt.str_bool a t' b
  | int b => obtain ⟨t, rfl⟩ := rx; exact SeqAt.EqAt.str_int a t' b t
  | str b => obtain ⟨t, rfl⟩ := rx; exact SeqAt.EqAt.str_str a t' b t
  | _ => exact absurd (show false = true from fx) Bool.false_ne_true
 | _ => exact absurd (show false = true from fy) Bool.false_ne_true
noncomputable def eqU (x : V) (u : Value) : Bool := match u with
 | .none => eqV .non x
 | .bool b => eqV (.bl b) x
 | .int i _ => eqV (.int i) x
 | .str z _ => eqV (.str z) x
 | _ => false
theorem ZiW {x y : V} {u : Value} (r : RelV y u) (f : Zbt y = true) : eqU x u = eqV y x := by
 cases y with
 | non => cases r; rfl
 | bl b => cases r; rfl
 | int i => obtain ⟨t, rfl⟩ := r; rfl
 | str z => obtain ⟨t, rfl⟩ := r; rfl
 | _ => exact absurd (show false = true from f) Bool.false_ne_true
theorem ZhD {x : V} : ∀ {xs : List V} {us : List Value}, Vals xs us -> xs.all Zbt = true -> us.any (eqU x) = xs.any fun y => eqV y x
 | _, _, .nil, _ => rfl
 | y :: xs, u :: us, .cons r t, f => by
  rw [List.all_cons, Bool.and_eq_true] at f
  rw [List.any_cons, List.any_cons, ZiW r f.1, ZhD t f.2]
theorem Zf3 {A : Around} {s : Shared} {x : V} {v : Value} (rx : RelV x v) (fx : Zbt x = true) : ∀ {xs : List V} {us : List Value}, Vals xs us -> xs.all Zbt = true -> ∀ u ∈ us, SeqAt.EqAt A s u v (eqU x u)
 | _, _, .nil, _ => fun u hu => by cases hu
 | y :: xs, u :: us, .cons r t, f => fun u' hu => by
  rw [List.all_cons, Bool.and_eq_true] at f
  rcases List.mem_cons.mp hu with rfl | hu
  . rw [ZiW r f.1]; exact ZpS r rx f.1 fx
  . exact Zf3 rx fx t f.2 u' hu
noncomputable def inV (x : V) (xs : List V) : Bool := xs.any fun y => eqV y x
def rIn (K : Fg) (neg : Bool) : R2 := fun x y H Q => ∃ p xs, y = .ref p /\ (SqL K H p xs \/ SqT K H p xs) /\ Zbt x = true /\ xs.all Zbt = true /\ Q (.bl (if neg then !inV x xs else inV x xs)) H
theorem Zis : OpR X (compareOp .In) (rIn X.K false) := by
 intro pins s σ H x y v u Q I rx ry h
 obtain ⟨p, xs, rfl, hq, fx, fs, q⟩ := h
 cases ry
 rcases hq with hq | hq
 . obtain ⟨its, r, pl, hz⟩ := I.list hq
   refine SeqAt.in_listAt (eqU x) pl.isList (fun w hw => Zf3 rx fx r fs w (by simpa using hw)) ⟨.bl _, H, I, rfl, ?_⟩
   rw [show its.toArray.any (eqU x) = its.any (eqU x) by simp, ZhD r fs]
   exact q
 . obtain ⟨its, r, pl, hz⟩ := I.tuple hq
   refine SeqAt.in_tupleAt (eqU x) pl (fun w hw => Zf3 rx fx r fs w (by simpa using hw)) ⟨.bl _, H, I, rfl, ?_⟩
   rw [show its.toArray.any (eqU x) = its.any (eqU x) by simp, ZhD r fs]
   exact q
theorem Zdi : Zbm X (.builtin "len") (fun xs H Q => ∃ p ys, xs = [.ref p] /\ (SqL X.K H p ys \/ SqT X.K H p ys) /\ Q (.int ys.length) H) := by
 intro pins s σ H xs us Q I r h
 obtain ⟨p, ys, rfl, hq, q⟩ := h
 obtain ⟨u, rfl, rx⟩ := Zhc r
 cases rx
 have hn := ZeL
 rcases hq with hq | hq
 . obtain ⟨its, r', pl, hz⟩ := I.list hq
   have hlen := r'.length
   exact Calls.call_len_list pl.isList (by simp only [List.size_toArray] <;> omega) ⟨.int ys.length, H, I.tok _, ⟨s.toks + 1, by rw [List.size_toArray, hlen]⟩, q⟩
 . obtain ⟨its, r', pl, hz⟩ := I.tuple hq
   have hlen := r'.length
   exact len_tuple pl (by simp only [List.size_toArray] <;> omega) ⟨.int ys.length, H, I.tok _, ⟨s.toks + 1, by rw [List.size_toArray, hlen]⟩, q⟩
theorem ZiX : Zbm X (.builtin "len") (fun xs H Q => ∃ z, xs = [.str z] /\ z.length <= sizeLine /\ Q (.int z.length) H) := by
 intro pins s σ H xs us Q I r h
 obtain ⟨z, rfl, hz, q⟩ := h
 obtain ⟨u, rfl, t, rfl⟩ := Zhc r
 have hn := ZeL
 exact len_str (by omega) ⟨.int z.length, H, I.tok _, ⟨_, rfl⟩, q⟩
theorem Zdj : Zbm X (.type "list") (fun xs H Q => ∃ p ys, xs = [.ref p] /\ (SqL X.K H p ys \/ SqT X.K H p ys) /\ ∀ l, H l = none -> Q (.ref l) (upd H l (.lst ys))) := by
 intro pins s σ H xs us Q I r h
 obtain ⟨p, ys, rfl, hq, q⟩ := h
 obtain ⟨u, rfl, rx⟩ := Zhc r
 cases rx
 have fin : ∀ (its : List Value), Vals ys its -> ys.length <= sizeLine -> ∀ (h' : Heap) (c' : Nat), (∀ b o', s.heap.get? b = some o' -> h'.get? b = some o') ->
  h'.get? s.heap.objs.size = some { cls := .type "list", dict := none, data := .seq its.toArray c', slots := #[] } -> EP X pins σ Q (.ref s.heap.objs.size) { s with heap := h' } := fun its r' hz h' c' kp e =>
  ⟨.ref s.heap.objs.size, _, I.laid (t' := s.toks) kp (Nat.le_refl _) (show Zag X.prog X.w _ h' _ (.lst ys) from ⟨hz, its, c', r', e⟩), rfl, q _ (I.hok.fresh (Nat.le_refl _))⟩
 rcases hq with hq | hq
 . obtain ⟨its, r', pl, hz⟩ := I.list hq
   have hlen := r'.length
   obtain ⟨o, ho, hc, n, hd⟩ := pl.isList
   exact call_list_seq p (.inl rfl) ho hc hd (fun h' c' kp e => fin its r' hz h' c' kp e) (by simp only [List.size_toArray] <;> omega)
 . obtain ⟨its, r', pl, hz⟩ := I.tuple hq
   have hlen := r'.length
   obtain ⟨o, ho, hc, n, hd⟩ := pl
   exact call_list_seq p (.inr rfl) ho hc hd (fun h' c' kp e => fin its r' hz h' c' kp e) (by simp only [List.size_toArray] <;> omega)
def tyV (K : Fg) (T : String) (x : V) (H : Hp) : Prop := match x with
 | .str _ => T = "str"
 | .int _ => T = "int"
 | .ref p => (T = "list" /\ ∃ xs, SqL K H p xs) \/ (T = "tuple" /\ ∃ o, K.lookup p = some o /\ o.cls = .type "tuple" /\ o.dict = none) \/
  (T = "dict" /\ ((∃ kvs, H p = some (.dK kvs)) \/ ∃ kvs, H p = some (.dT kvs))) \/ (T = "set" /\ ∃ S n, H p = some (.set S n))
 | _ => False
theorem ZpT {pins : List (Addr × Obj)} {σ : St} {H : Hp} {s : Shared} {T : String} {x : V} {v : Value} (I : Inv X pins σ H s) (r : RelV x v) (ty : tyV X.K T x H) :
 s.TypeIs v T /\ ∀ a, v = .ref a -> ∃ ob, s.heap.get? a = some ob /\ ob.dict = none := by
 cases x with
 | str z =>
  obtain ⟨t, rfl⟩ := r
  cases (show T = "str" from ty)
  exact ⟨typeIs_str s z t, fun _ e => nomatch e⟩
 | int i =>
  obtain ⟨t, rfl⟩ := r
  cases (show T = "int" from ty)
  exact ⟨typeIs_int s i t, fun _ e => nomatch e⟩
 | ref p =>
  cases r
  rcases ty with ⟨rfl, xs, hq⟩ | ⟨rfl, o, hk, hc, hd⟩ | ⟨rfl, hk⟩ | ⟨rfl, S, n, hk⟩
  . obtain ⟨its, _, pl, _⟩ := I.list hq
    refine ⟨pl.isList.typeIs, fun a e => ?_⟩
    cases e
    obtain ⟨o, n, e, c, hd, _⟩ := pl
    exact ⟨o, e, hd⟩
  . refine ⟨⟨o, I.kIn p o hk, hc⟩, fun a e => ?_⟩
    cases e
    exact ⟨o, I.kIn _ o hk, hd⟩
  . have z : ∃ o, s.heap.get? p = some o /\ o.ExactDict := by
     rcases hk with ⟨kvs, hk⟩ | ⟨kvs, hk⟩
     . obtain ⟨_, _, _, _, o, _, _, e, ex, _⟩ := I.hok p _ hk
       exact ⟨o, e, ex⟩
     . obtain ⟨_, _, _, _, o, _, _, e, ex, _⟩ := I.hok p _ hk
       exact ⟨o, e, ex⟩
    obtain ⟨o, e, ex⟩ := z
    refine ⟨⟨o, e, ex.1⟩, fun a e2 => ?_⟩
    cases e2
    exact ⟨o, e, ex.2.1⟩
  . obtain ⟨o, _, _, _, e, ex, _⟩ := I.hok p _ hk
    refine ⟨⟨o, e, ex.1⟩, fun a e2 => ?_⟩
    cases e2
    exact ⟨o, e, ex.2.1⟩
 | _ => exact False.elim ty
def tBM (K : Fg) (T : String) (r : V -> List V -> Hp -> VK -> Prop) (to : TE) (t : TA) : TE := fun σ H Q => to σ H fun x H1 => tyV K T x H1 /\ t σ H1 fun xs H2 => r x xs H2 Q
variable {o e : Expr} {es : List Expr} {to : TE} {t : TA} {name : Str} {apos cpos : Pos} {T id : String} {r : V -> List V -> Hp -> VK -> Prop}
theorem ZnE (pa : PlainAttrs T) (slot : Slot T name id) (hty : typeOf (.builtin id) = pure (.type "method_descriptor")) (hm : MtR X id r) (ho : PE X o to) (ha : PA X (e :: es) t)
 (hbase : attributeBase o name X.env (eval o X.env) = eval o X.env := by rfl)
 (hfew : ((backTo cpos (starEach (e :: es) X.env)).all (fun x => !x.1) && (backToKw cpos (keywordEach [] X.env)).all (fun x => x.1.isSome)
  && decide ((e :: es).length + ([] : List Keyword).length + (if ([] : List Keyword).isEmpty then 0 else 1) < 30)) = true := by rfl)
 (hline : (apos.endLine == cpos.line) = true := by rfl) (hs : starEach (e :: es) X.env = (false, eval e X.env) :: starEach es X.env := by rfl) (hplain : (backTo cpos (starEach es X.env)).any (·.1) = false := by rfl) :
 PE X (.Call (.Attribute o name apos) (e :: es) [] cpos) (tBM X.K T r to t) := by
 intro pins s σ H Q I h
 refine wpAny_Call_method_late hbase hfew hline rfl (thn (ho pins s σ H _ I h) fun v s1 ⟨x, H1, I1, r1, ty, q1⟩ => ?_)
 obtain ⟨h1, h2⟩ := ZpT I1 r1 ty
 refine ⟨T, id, pa, slot, hty, h1, h2, ?_⟩
 have hA := ha cpos pins s1 σ H1 _ I1 q1
 rw [hs] at hA ⊢
 refine Calls.callWith_builtin (by show (false || (backTo cpos (starEach es X.env)).any (·.1)) = false; rw [hplain] <;> rfl) (Calls.evalArgs_plain ?_)
 exact thn hA fun us s2 ⟨vs, H2, I2, r2, q2⟩ => hm pins s2 σ H2 x vs v us Q I2 r1 r2 q2
end
end L2
namespace L2
open PySem PySem.Spec PyProof.Rows
def MtM (X : Cx) (id : String) (r : V -> List V -> Hp -> VK -> Prop) : Prop :=
 ∀ (pins : List (Addr × Obj)) (s : Shared) (σ : St) (H : Hp) (x : V) (xs : List V) (v : Value) (us : List Value) (Q : VK), Inv X pins σ H s -> RelV x v -> Vals xs us -> r x xs H Q ->
  wpAny (model X.prog X.w) X.A (call (.builtin id) (v :: us)) (EP X pins σ Q) X.xe s
theorem Vals.one : ∀ {x : V} {us : List Value}, Vals [x] us -> ∃ u, us = [u] /\ RelV x u
 | _, _, .cons r .nil => ⟨_, rfl, r⟩
theorem Vals.two : ∀ {x y : V} {us : List Value}, Vals [x, y] us -> ∃ u v, us = [u, v] /\ RelV x u /\ RelV y v
 | _, _, _, .cons r (.cons q .nil) => ⟨_, _, rfl, r, q⟩
section
variable {X : Cx} {pins : List (Addr × Obj)} {σ : St} {H : Hp} {s : Shared} {l b : Addr} {xs ys zs : List V}
theorem Inv.lset {its its' : List Value} {n : Nat} {f : Array Value -> Array Value} {t' : Nat} (I : Inv X pins σ H s) (hH : H l = some (.lst xs))
 (e : s.heap.get? l = some { cls := .type "list", data := .seq its.toArray n }) (hf : f its.toArray = its'.toArray) (hv : Vals ys its') (hz : ys.length <= sizeLine) :
 Inv X pins σ (upd H l (.lst ys)) { s with heap := s.heap.update l (Obj.mapSeq f), toks := t' } := by
 have q := PySem.IsL.update e f
 rw [hf] at q
 refine I.write (x := l) (e := l) (by rw [hH]; exact trivial) (.inl rfl) (fun b' u hb hu => (Heap.get?_update_other s.heap (Obj.mapSeq f) (Ne.symm hb)).trans hu) ⟨_, q⟩ ?_
 exact ⟨hz, its', _, hv, q⟩
theorem Inv.lnew {its : List Value} {t' : Nat} (I : Inv X pins σ H s) (hv : Vals ys its) (hz : ys.length <= sizeLine) :
 Inv X pins σ (upd H s.heap.objs.size (.lst ys)) { s with heap := s.heap.push { cls := .type "list", data := .seq its.toArray }, toks := t' } :=
 I.laid (fun _ _ q => Heap.get?_push_of_some _ q) (Nat.le_refl _) ⟨hz, its, 0, hv, Heap.get?_push_size _ rfl⟩
theorem Inv.fresh (I : Inv X pins σ H s) : H s.heap.objs.size = none := I.hok.fresh (Nat.le_refl _)
theorem Inv.lstM (I : Inv X pins σ H s) (hH : H l = some (.lst xs)) : xs.length <= sizeLine /\ ∃ (its : List Value) (n : Nat), Vals xs its /\ xs.length = its.length /\ s.heap.get? l = some { cls := .type "list", data := .seq its.toArray n } := by
 obtain ⟨z, its, n, r, e⟩ := I.hok l _ hH
 exact ⟨z, its, n, r, r.length, e⟩
end
section
variable {X : Cx}
def Zoh : V -> List V -> Hp -> VK -> Prop := fun x vs H Q => ∃ l xs y, x = .ref l /\ vs = [y] /\ H l = some (.lst xs) /\ xs.length < sizeLine /\ Q .non (upd H l (.lst (xs ++ [y])))
theorem Zit : MtM X "list.append" Zoh := by
 intro pins s σ H x vs v us Q I rx rv h
 obtain ⟨l, xs, y, rfl, rfl, hH, hz, q⟩ := h
 cases rx
 obtain ⟨u, rfl, ru⟩ := rv.one
 obtain ⟨z, its, n, r, hl, e⟩ := I.lstM hH
 refine call_meets F.slot_list_append ⟨_, e, rfl⟩ F.entry_list_append (F.args_list_append_2 _ _) (PySem.list_append l its.toArray n u (by rw [List.size_toArray]; omega)) ⟨e, ?_⟩
 refine ⟨.non, _, I.lset (its' := its ++ [u]) hH e (by simp) (r.append (.cons ru .nil)) ?_, rfl, q⟩
 rw [List.length_append, List.length_singleton]
 omega
def rCat : R2 := fun x y H Q => ∃ l b xs zs, x = .ref l /\ y = .ref b /\ H l = some (.lst xs) /\ H b = some (.lst zs) /\ xs.length + zs.length <= sizeLine /\ ∀ p, H p = none -> Q (.ref p) (upd H p (.lst (xs ++ zs)))
theorem ZpU : OpR X (binaryOp .Add) rCat := by
 intro pins s σ H x y v u Q I rx ry h
 obtain ⟨l, b, xs, zs, rfl, rfl, hH, hB, hz, q⟩ := h
 cases rx
 cases ry
 obtain ⟨z, its, n, r, hl, e⟩ := I.lstM hH
 obtain ⟨z2, its2, n2, r2, hl2, e2⟩ := I.lstM hB
 refine PySem.P.add_list e e2 ?_ (by rw [List.size_toArray, List.size_toArray]; omega)
 have ea : its.toArray ++ its2.toArray = (its ++ its2).toArray := by simp
 rw [ea]
 exact ⟨.ref _, _, I.lnew (t' := s.toks) (r.append r2) (by rw [List.length_append]; omega), rfl, q _ I.fresh⟩
end
end L2
namespace L2
open PySem PySem.Spec PyProof.Rows
section
variable {κ : Type} [DecidableEq κ]
noncomputable def valV (kvs : List (κ × V)) (k : κ) : Option V := (kvs.find? fun kv => decide (kv.1 = k)).map (·.2)
theorem KV.length {kvs : List (κ × V)} {vs : List (κ × Value)} (r : KV kvs vs) : kvs.length = vs.length := Paired.length r
end
section
variable {P : Program} {w : World} {H : Hp} {h : Heap} {a : Addr}
theorem ZrC {u : HO} (ok : HOk P w H h) (e : Rd H a u) : Zag P w H h a u := e.ok ok
theorem ZrD {kvs : List (Key × V)} (ok : HOk P w H h) (e : Rd H a (.dK kvs)) : kvs.length <= sizeLine /\ (a == sysModules) = false /\ ∃ vs, KV kvs vs /\ h.DictOf (Zgy P w) a vs :=
 show Zag P w H h a (.dK kvs) from ZrC ok e
end
section
variable {X : Cx} {pins : List (Addr × Obj)} {σ : St} {H : Hp} {s : Shared} {a : Addr} {kvs : List (Key × V)} {k : Key} {u : Value} {A : Around} {E : Value -> Shared -> Prop}
theorem ZrE {Q : Value -> Shared -> Prop} (I : Inv X pins σ H s) (e : Rd H a (.dK kvs)) (h : ∀ t s', Inv X pins σ H s' -> Q (.int kvs.length t) s') : wpAny (model X.prog X.w) A (call (.builtin "len") [.ref a]) Q E s := by
 obtain ⟨z, hd, vs, rel, dd⟩ := ZrD I.hok e
 refine call_len_dict hd dd (by rw [<- rel.length]; rw [sizeLine_eq] at z; omega) ?_
 rw [<- rel.length]
 exact h _ _ (I.tok _)
end
structure M1 (X : Cx) (o : Expr) (m : Str) (apos : Pos) (e : Expr) (cpos : Pos) : Prop where
 base : attributeBase o m X.env (eval o X.env) = eval o X.env
 few : ((backTo cpos (starEach [e] X.env)).all (fun x => !x.1) && (backToKw cpos (keywordEach [] X.env)).all (fun x => x.1.isSome)
  && decide (([e] : List Expr).length + ([] : List Keyword).length + (if ([] : List Keyword).isEmpty then 0 else 1) < 30)) = true
 line : (apos.endLine == cpos.line) = true
 trees : backTo cpos (starEach [e] X.env) = [(false, eval e X.env)]
structure M2 (X : Cx) (o : Expr) (m : Str) (apos : Pos) (e f : Expr) (cpos : Pos) : Prop where
 base : attributeBase o m X.env (eval o X.env) = eval o X.env
 few : ((backTo cpos (starEach [e, f] X.env)).all (fun x => !x.1) && (backToKw cpos (keywordEach [] X.env)).all (fun x => x.1.isSome)
  && decide (([e, f] : List Expr).length + ([] : List Keyword).length + (if ([] : List Keyword).isEmpty then 0 else 1) < 30)) = true
 line : (apos.endLine == cpos.line) = true
 trees : backTo cpos (starEach [e, f] X.env) = [(false, eval e X.env), (false, eval f X.env)]
end L2
namespace Att
open PySem PySem.W PySem.Calls PyProof.Rows
theorem Zhd {P : Params} {h : Heap} : ∀ (ns : List Int) (vs : List Value), WellAll P h vs (ns.map WData.int) -> IntsAre vs ns := by
 intro ns
 induction ns with
 | nil =>
  intro vs w
  rw [List.map_nil] at w
  cases w
  exact .nil
 | cons n ns ih =>
  intro vs w
  rw [List.map_cons] at w
  cases w with
  | cons a b =>
   cases a
   exact .cons _ _ (ih _ b)
theorem ZlE {l : OpenLaw} {n : Nat} (hn : l.most = some n) {P : Params} {h : Heap} {args : List WData} {vals : List Value}
 (hpre : l.row.toRowW.claim.pre args = true) (hwl : WellAll P h vals args) :
 ∃ a vs ns, vals = [Value.ref a] /\ args = [WData.list (ns.map WData.int)] /\ h.get? a = some { cls := .type "list", data := .seq vs.toArray } /\ IntsAre vs ns /\ ns.length <= n := by
 have hsh : WShape.hasAll [] args [.list .int] = true := (pre_splitW hpre).1
 have hc : l.pre.holds [] { args := args } = true := (pre_splitW hpre).2
 obtain ⟨d, r, rfl, h1, h2⟩ := hasAllW_cons hsh
 obtain rfl := hasAllW_nil h2
 obtain ⟨xs, rfl, h3⟩ := hasW_list h1
 obtain ⟨ns, rfl⟩ := items_int h3
 have hlen : ns.length <= n := by
  unfold OpenLaw.pre at hc
  have h4 : (WTm.not (.lt (.lit (.int (n : Int))) (.len (.arg 0)))).holds [] { args := [.list (ns.map .int)] } = true := by
   have h4 := (holds_andW hc).1
   rw [hn] at h4
   exact h4
  have h5 := condW_of h4 (w_not (w_lt w_lit (w_len_list (w_arg rfl))))
  rw [List.length_map] at h5
  refine Nat.le_of_not_lt fun q => ?_
  have q' : (n : Int) < ((ns.length : Nat) : Int) := by omega
  first
   | (rw [decide_eq_true q'] at h5; exact absurd h5 (by decide))
   | (simp at h5; omega)
 cases hwl with
 | cons w1 w2 =>
  cases w2
  cases w1 with
  | list ho hall => exact ⟨_, _, ns, rfl, rfl, ho, Zhd ns _ hall, hlen⟩
theorem ZlF (l : OpenLaw) (args : List WData) : l.row.toRowW.claim.post args (.bool true) args = true :=
 postW_of (r := l.row.toRowW) (X := (true == true))
  (show WShape.has [] (.bool true) .bool = true by first | rfl | decide | simp [WShape.has, WShape.arms, WShape.armsAll])
  (show (WTm.eq .res (.lit (.bool true))).value [] { args := args, res := some (.bool true), after := args } = some (.bool (true == true)) from w_eq_bool (w_res rfl) w_lit) rfl
theorem ZjU {l : OpenLaw} {n : Nat} {q : Program} {loose : List Str} {XP : (Str -> Option Value) -> Heap -> Prop} {YP : World -> Heap -> Prop} {d : DefRec}
 (hn : l.most = some n) (hdf : d.params.defaults = [])
 (call : ∀ (w : World) (s₀ s₁ : Shared) (mg mb : Str -> Option Value) (fa : Addr) (o : Obj) (pm cd doc : Value) (a : Addr) (vs : List Value) (ns : List Int),
  Ground q loose [] XP w s₀ mg mb s₁.heap -> YP w s₁.heap ->
  s₁.heap.get? fa = some o -> o.data = .func (docDef d.name d.params d.body d.scope pm cd doc) -> s₁.heap.CodeRec cd d.name -> mg d.name = some (.ref fa) ->
  s₁.heap.get? a = some { cls := .type "list", data := .seq vs.toArray } -> IntsAre vs ns -> ns.length <= n -> s₁.gens = #[] ->
  codeAny (model l.prog w) callerA (.call (.ref fa) ⟨[.ref a], []⟩) (fun r s' => r = .ok (.ret (.bool true)) /\ OldK s₁.heap s'.heap /\ s'.os = s₁.os /\ AllBare s'.gens) s₁) :
 WalkO q loose XP YP l.row.toRowW d [] (fun f vs => PySem.call f vs) := by
 intro w s₀ s₁ mg mb G Y fa o pm cd doc dV kV ho hd hcd hD hmg hg args vals as hpre hlay hrd hwl hlo
 obtain rfl : dV = .none := Dflts.none hD hdf
 obtain rfl : kV = .none := Dflts.noKw hD
 obtain ⟨a, vs, ns, rfl, rfl, hobj, hints, hlen⟩ := ZlE hn hpre hwl
 refine enter_call (codeAny_mono (call w s₀ s₁ mg mb fa o pm cd doc a vs ns G Y ho (fd_plain hd) hcd hmg hobj hints hlen hg) fun r s' hq => ?_)
 obtain ⟨rfl, h2, h3, h4⟩ := hq
 exact ⟨.inl ⟨.bool true, .bool true, [], rfl, fun _ => rfl, .bool true, ZlF l _, fun _ => ⟨List.Pairwise.nil, fun _ hm => (nomatch hm)⟩⟩, h2, h3, h4⟩
end Att
namespace L2
open PySem PySem.Spec PyProof.Rows
theorem Ziu : ∀ {vs : List Value} {ns : List Int}, IntsAre vs ns -> Vals (ns.map V.int) vs
 | _, _, .nil => .nil
 | _, _, .cons n t h => .cons ⟨t, rfl⟩ (Ziu h)
def Only (H : Hp) : Prop := ∀ b, H b = none \/ ∃ o xs, H b = some (.frz o (.lst xs))
theorem ZmD {P : Program} {w : World} {K : Fg} {mg mb : Str -> Option Value} {CX : CXT} {k : Nat} {fa a : Addr} {fd : FuncData} {x : Str} {sp : Sp} {s₁ : Shared} {vs : List Value} {ns : List Int}
 (KX : K.In s₁.heap) (hns : s₁.heap.Ns mainGlobals mg) (hb : s₁.heap.Ns builtinsNs mb) (hbb : ∀ x : Str, x ≠ "__name__" -> mb x = bootBuiltins x) (hlim : s₁.heap.NoLimit) (hg : s₁.gens = #[])
 (ha : s₁.heap.get? a = some { cls := .type "list", data := .seq vs.toArray }) (hi : IntsAre vs ns) (hl : ns.length <= sizeLine) (hr : Room k callerA)
 (F : ∀ base : Heap, K.In base -> base.Ns mainGlobals mg -> FnOk P w K mg base CX k fa fd [x] sp) (hbind : ∀ (s : Shared) (u : Value), BindsTo s fd ⟨[u], []⟩ [(x, u)])
 (hsp : ∀ H : Hp, Only H -> SqL K H a (ns.map V.int) -> sp [.ref a] H (fun v _ => v = .bl true) fun _ _ _ => False)
 (hCX : ∀ H e s', CX [] H s₁ (fun _ _ _ => False) e s' -> False) :
 codeAny (model P w) callerA (.call (.ref fa) ⟨[.ref a], []⟩) (fun r s' => r = .ok (.ret (.bool true)) /\ OldK s₁.heap s'.heap /\ s'.os = s₁.os /\ AllBare s'.gens) s₁ := by
 have rv := Ziu hi
 have lenV := hi.length
 have core : ∀ H : Hp, Only H -> SqL K H a (ns.map V.int) -> HOk P w H s₁.heap -> (∀ b, H b ≠ none -> b = a) -> (H a ≠ none -> K.lookup a = none) ->
  codeAny (model P w) callerA (.call (.ref fa) ⟨[.ref a], []⟩) (fun r s' => r = .ok (.ret (.bool true)) /\ OldK s₁.heap s'.heap /\ s'.os = s₁.os /\ AllBare s'.gens) s₁ := by
  intro H hO hS hok hA hK
  have base_of : ∀ {b : Addr} {o : Obj}, s₁.heap.get? b = some o -> H b = none -> (hidT s₁.heap H).get? b = some o := fun e n => Zm1 e n
  have noA : ∀ {b : Addr} {o : Obj} {es : Array DictEntry} {ep : Nat}, s₁.heap.get? b = some o -> o.data = .dict es ep -> H b = none := fun {b o es ep} e d => by
   cases q : H b with
   | none => rfl
   | some u =>
    have e' : b = a := hA b (by rw [q]; simp)
    subst e'
    rw [ha] at e; cases e
    have d' : Data.seq vs.toArray _ = Data.dict es ep := d
    cases d'
  have nsK : ∀ {b : Addr} {m : Str -> Option Value}, s₁.heap.Ns b m -> (hidT s₁.heap H).Ns b m := fun {b m} ⟨o, es, ep, e, d, r⟩ => ⟨o, es, ep, base_of e (noA e d), d, r⟩
  have hKb : K.In (hidT s₁.heap H) := fun b o e => base_of (KX b o e) (by
   cases q : H b with
   | none => rfl
   | some u =>
    have e' : b = a := hA b (by rw [q]; simp)
    subst e'
    rw [hK (by rw [q]; simp)] at e; cases e)
  have hM : Mod K mg (hidT s₁.heap H) := ⟨hKb, nsK hns, ⟨mb, nsK hb, hbb⟩, let ⟨mc, h1, h2⟩ := hlim; ⟨mc, nsK h1, h2⟩⟩
  have e0 : Env0 P w K mg (hidT s₁.heap H) callerA [] s₁ H := ⟨rfl, hM, fun b o e => ZnU e, Nat.le_of_eq (Zl0 _ _), trivial, fun b hb => absurd (show b ∈ ([] : List Addr) from hb) (by simp), hok, .of_eq hg⟩
  refine codeAny_mono ((F _ hKb (nsK hns)).run callerA [] s₁ H ⟨[.ref a], []⟩ [.ref a] [.ref a] _ _ hr e0 (hbind s₁ (.ref a)) (.cons rfl .nil) (hsp H hO hS)) fun r s' h => ?_
  cases r with
  | error e => exact (hCX H e s' h).elim
  | ok fl =>
   cases fl with
   | next => exact False.elim h
   | brk => exact False.elim h
   | cont => exact False.elim h
   | ret u =>
    obtain ⟨v, H', os, bare, un, hok', r', q⟩ := h
    have q' : v = .bl true := q
    subst q'
    obtain rfl : u = Value.bool true := r'
    refine ⟨rfl, OldK.of_keep fun b o e => ?_, os, bare⟩
    cases q : H b with
    | none => exact un.keep b o e q (by intro z; exact absurd (show b ∈ ([] : List Addr) from z) (by simp)) (by simp)
    | some u =>
     rcases hO b with z | ⟨ob, xs, z⟩
     . rw [q] at z; cases z
     . have z2 := un.frzs b ob _ z
       obtain ⟨e1, _⟩ := hok b _ z
       obtain ⟨e2, _⟩ := hok' b _ z2
       rw [e] at e1; cases e1
       exact e2
 cases hk : K.lookup a with
 | some o =>
  have e := KX a o hk
  rw [ha] at e
  cases e
  refine core (fun _ => none) (fun _ => .inl rfl) (.inr ⟨_, vs.toArray, _, hk, rfl, rfl, rfl, by rw [List.size_toArray, lenV]; exact hl, by simpa using rv⟩) (fun b u z => by have z' : (none : Option HO) = some u := z; cases z') (fun b z => absurd rfl z) fun z => absurd rfl z
 | none =>
  refine core (fun b => if b = a then some (.frz { cls := .type "list", data := .seq vs.toArray } (.lst (ns.map V.int))) else none) (fun b => ?_) (.inl (.inr ⟨{ cls := .type "list", data := .seq vs.toArray }, if_pos rfl⟩)) (fun b u z => ?_) (fun b z => ?_) fun _ => hk
  . by_cases hb : b = a
    . exact .inr ⟨_, _, if_pos hb⟩
    . exact .inl (if_neg hb)
  . by_cases hb : b = a
    . have z' := (if_pos hb).symm.trans z
      cases z'
      subst hb
      exact ⟨ha, by rw [List.length_map]; exact hl, vs, _, rv, ha⟩
    . have z' := (if_neg hb).symm.trans z
      cases z'
  . by_cases hb : b = a
    . exact hb
    . exact absurd (if_neg hb) z
end L2
namespace L2
open PySem PySem.Spec PyProof.Rows
theorem Zoi {l : PySem.W.OpenLaw} {n k : Nat} {q : Program} {loose : List Str} {XP : (Str -> Option Value) -> Heap -> Prop} {YP : World -> Heap -> Prop} {d : DefRec} {K : Params -> Fg} {CX : World -> CXT} {sp : World -> Sp} {x : Str}
 (hn : l.most = some n) (hn2 : n <= sizeLine) (hdf : d.params.defaults = []) (hr : Room k callerA)
 (hY : ∀ (w : World) (h : Heap), YP w h -> (K w.params).In h)
 (F : ∀ (w : World) (mg : Str -> Option Value) (fa : Addr) (h : Heap), (K w.params).In h -> h.Ns mainGlobals mg -> mg d.name = some (.ref fa) ->
  ∃ fd : FuncData, (∀ (s : Shared) (u : Value), BindsTo s fd ⟨[u], []⟩ [(x, u)]) /\
   ∀ base : Heap, (K w.params).In base -> base.Ns mainGlobals mg -> FnOk l.prog w (K w.params) mg base (CX w) k fa fd [x] (sp w))
 (hsp : ∀ (w : World) (H : Hp) (a : Addr) (ns : List Int), ns.length <= n -> Only H -> SqL (K w.params) H a (ns.map V.int) -> sp w [.ref a] H (fun v _ => v = .bl true) fun _ _ _ => False)
 (hCX : ∀ (w : World) (H : Hp) (s : Shared) (e : Value) (s' : Shared), CX w [] H s (fun _ _ _ => False) e s' -> False) :
 PySem.W.WalkO q loose XP YP l.row.toRowW d [] (fun f vs => PySem.call f vs) := by
 refine Att.ZjU hn hdf fun w s₀ s₁ mg mb fa o pm cd doc a vs ns G Y ho hd hcd hmg hobj hints hlen hg => ?_
 have KX := hY w _ Y
 obtain ⟨fd, hb, hF⟩ := F w mg fa _ KX G.T.g hmg
 exact ZmD KX G.T.g G.T.b G.T.builtins G.T.nolimit hg hobj hints (Nat.le_trans hlen hn2) hr hF hb (fun H hO hS => hsp w H a ns hlen hO hS) fun H e s' => hCX w H s₁ e s'
theorem ZmE {l : PySem.W.OpenLaw} {n k : Nat} {q : Program} {loose : List Str} {XP : (Str -> Option Value) -> Heap -> Prop} {YP : World -> Heap -> Prop} {d : DefRec} {K : Params -> Fg} {CX : CXT} {sp : Fg -> Sp} {x : Str}
 (hn : l.most = some n) (hn2 : n <= sizeLine) (hdf : d.params.defaults = []) (hr : Room k callerA)
 (hY : ∀ (w : World) (h : Heap), YP w h -> (K w.params).In h)
 (F : ∀ (w : World) (mg : Str -> Option Value) (fa : Addr) (h : Heap), (K w.params).In h -> h.Ns mainGlobals mg -> mg d.name = some (.ref fa) ->
  ∃ fd : FuncData, (∀ (s : Shared) (u : Value), BindsTo s fd ⟨[u], []⟩ [(x, u)]) /\
   ∀ base : Heap, (K w.params).In base -> base.Ns mainGlobals mg -> FnOk l.prog w (K w.params) mg base CX k fa fd [x] (sp (K w.params)))
 (hsp : ∀ (K : Fg) (H : Hp) (a : Addr) (ns : List Int), ns.length <= n -> Only H -> SqL K H a (ns.map V.int) -> sp K [.ref a] H (fun v _ => v = .bl true) fun _ _ _ => False)
 (hCX : ∀ (H : Hp) (s : Shared) (e : Value) (s' : Shared), CX [] H s (fun _ _ _ => False) e s' -> False) :
 PySem.W.WalkO q loose XP YP l.row.toRowW d [] (fun f vs => PySem.call f vs) :=
 Zoi (K := K) (CX := fun _ => CX) (sp := fun w => sp (K w.params)) hn hn2 hdf hr hY F (fun w H a ns h1 h2 h3 => hsp (K w.params) H a ns h1 h2 h3) fun _ H s e s' => hCX H s e s'
end L2
namespace L2
open PySem PySem.Spec PyProof.Rows
noncomputable def ZhE (s : Stmt) (j : Nat) : Stmt := match s with
 | .ClassDef _ _ _ body _ _ _ _ _ _ _ => body.getD j (.Pass ⟨0, 0, 0, 0⟩)
 | _ => .Pass ⟨0, 0, 0, 0⟩
noncomputable def ZA (s : Stmt) : Arguments := match s with
 | .FunctionDef _ a _ _ _ _ _ _ _ _ => a
 | _ => { posonlyargs := [], args := [], vararg := none, kwonlyargs := [], kw_defaults := [], kwarg := none, defaults := [] }
noncomputable def Z2 (s : Stmt) : List Stmt := match s with
 | .FunctionDef _ _ b _ _ _ _ _ _ _ => b
 | _ => []
noncomputable def Za (s : Stmt) : Scope := match s with
 | .FunctionDef _ _ _ _ _ _ sc _ _ _ => sc
 | _ => { kind := .function, names := [], isGenerator := false, isCoroutine := false }
noncomputable abbrev CX0 : CXT := fun _ _ _ _ _ _ => False
noncomputable abbrev E0 : XK := fun _ _ _ => False
theorem ZrF {X : Cx} : Passes CX0 X E0 := fun _ _ _ _ _ _ _ h => h.elim
structure Fun (K : Fg) (x qual : Str) (st : Stmt) (f : Addr) (fd : FuncData) : Prop where
 ex : ∃ (oc : Value) (od : Option Addr) (kV doc pm : Value) (an : Option Addr) (cdv ct : Value) (osl : Array (Option Value)),
  fd = PySem.W.fnOf x qual (ZA st) (Z2 st) (Za st) .none kV doc pm an cdv ct /\ K.lookup f = some ⟨oc, od, .func fd, osl⟩ /\ PySem.W.codeIn K cdv qual = true
 kp : PySem.W.keepIn K (.ref f) = true
section
variable {P : Program} {w : World} {K : Fg} {mg : Str -> Option Value} {base : Heap}
theorem Fun.ok {x qual : Str} {st : Stmt} {f : Addr} {fd : FuncData} {N ps : List Str} {k : Nat} {sp : Sp} (F : Fun K x qual st f fd) (S : FnScope N ps (Za st)) (len : ∀ vs H Q E, sp vs H Q E -> vs.length = ps.length)
 (hbody : ∀ (cdv : Value) (A : Around) (outer : List Env) (s : Shared) (H : Hp) (vs : List V) (Q : VK) (E : XK), Room k (A.deeper (envOfC qual (Za st) s.heap.objs.size f cdv)) -> sp vs H Q E ->
  ∃ t, PSs (cxOf CX0 P w K mg base N qual (Za st) f cdv A outer s H E).nox (Z2 st) t /\ t { nx := fun _ H' => Q .non H', rt := Q } (start N vs) H) : FnOk P w K mg base CX0 (k + 1) f fd ps sp := by
 obtain ⟨oc, od, kV, doc, pm, an, cdv, ct, osl, rfl, lk, hcd⟩ := F.ex
 refine Zr8 lk hcd S len fun A outer s H vs Q E hr hsp => ?_
 obtain ⟨t, h, q⟩ := hbody cdv A outer s H vs Q E hr hsp
 exact ⟨t, h.nox, q⟩
theorem Fun.binds {x qual : Str} {st : Stmt} {f : Addr} {fd : FuncData} {ps : List Str} (F : Fun K x qual st f fd)
 (h : ∀ (kV doc pm : Value) (an : Option Addr) (cdv ct : Value) (us : List Value), us.length = ps.length -> bindArgs (PySem.W.fnOf x qual (ZA st) (Z2 st) (Za st) .none kV doc pm an cdv ct) ⟨us, []⟩ = pure (ps.zip us)) : Binds K fd ps [] := by
 obtain ⟨oc, od, kV, doc, pm, an, cdv, ct, osl, rfl, lk, hcd⟩ := F.ex
 exact .all (h kV doc pm an cdv ct)
theorem Zab {x qual : Str} {st : Stmt} {f : Addr} {oc : Value} {od an : Option Addr} {osl : Array (Option Value)} {kV doc pm cdv ct : Value} (l : K.lookup f = some ⟨oc, od, .func (PySem.W.fnOf x qual (ZA st) (Z2 st) (Za st) .none kV doc pm an cdv ct), osl⟩)
 (c : PySem.W.codeIn K cdv qual = true) (k : PySem.W.keepIn K (.ref f) = true) : Fun K x qual st f (PySem.W.fnOf x qual (ZA st) (Z2 st) (Za st) .none kV doc pm an cdv ct) := ⟨⟨oc, od, kV, doc, pm, an, cdv, ct, osl, rfl, l, c⟩, k⟩
end
def Same (H H' : Hp) : Prop := ∀ b o, H b = some o -> H' b = some o
theorem Same.refl (H : Hp) : Same H H := fun _ _ h => h
theorem Same.trans {H H1 H2 : Hp} (a : Same H H1) (b : Same H1 H2) : Same H H2 := fun c o h => b c o (a c o h)
theorem Same.seq {K : Fg} {H H' : Hp} {a : Addr} {xs : List V} (e : Same H H') (h : SqL K H a xs) : SqL K H' a xs := by
 rcases h with (h | ⟨o, h⟩) | h
 . exact .inl (.inl (e _ _ h))
 . exact .inl (.inr ⟨o, e _ _ h⟩)
 . exact .inr h
section
variable {X : Cx}
theorem ZlG : Zbm X (.builtin "len") (fun xs H Q => ∃ a kvs, xs = [V.ref a] /\ H a = some (.dK kvs) /\ Q (.int kvs.length) H) := by
 intro pins s σ H xs us Q I r h
 obtain ⟨a, kvs, rfl, ha, q⟩ := h
 obtain ⟨u, rfl, ru⟩ := Zhc r
 cases ru
 exact ZrE I (.inl ha) fun t s' I' => ⟨.int kvs.length, H, I', ⟨t, rfl⟩, q⟩
end
end L2
namespace L2
open PySem PySem.Spec PyProof.Rows
noncomputable def TB (T : Addr) : HO := .ext fun h => ∃ o ts, h.get? T = some o /\ o.data = .fields ts /\ 3 < ts.size
theorem ZnF {P : Program} {w : World} {H : Hp} {h : Heap} {T : Addr} {o : Obj} {ts : Array Value} (e : h.get? T = some o) (d : o.data = .fields ts) (z : 3 < ts.size) : Zag P w H h T (TB T) :=
 ⟨⟨o, ts, e, d, z⟩, ⟨o, e⟩, fun h1 h2 ⟨o, ts, e, d, z⟩ k => ⟨o, ts, k o e, d, z⟩⟩
structure FlyT (φ : Value -> Prop) (H : Hp) (h : Heap) (ea : Addr) : Prop where
 ex : ∃ (C : Addr) (dx : Option Addr) (fs : List (Str × V)) (oe : Obj) (vs : Array Value) (T : Addr) (oT : Obj) (ts : Array Value) (fl : Value), H ea = some (.exc C dx false fs) /\ h.get? ea = some oe /\ oe.data = .fields vs /\ vs.size = 6 /\ vs[1]? = some (.ref T) /\
  H T = some (TB T) /\ h.get? T = some oT /\ oT.data = .fields ts /\ ts[3]? = some fl /\ φ fl
structure FlyN (H : Hp) (h : Heap) (ea : Addr) : Prop where
 ex : ∃ (C : Addr) (dx : Option Addr) (fs : List (Str × V)) (oe : Obj) (vs : Array Value), H ea = some (.exc C dx false fs) /\ h.get? ea = some oe /\ oe.data = .fields vs /\ vs.size = 6 /\ vs[1]? = some .none
theorem FlyT.mono {φ ψ : Value -> Prop} {H : Hp} {h : Heap} {ea : Addr} (f : FlyT φ H h ea) (k : ∀ v, φ v -> ψ v) : FlyT ψ H h ea := by
 obtain ⟨C, dx, fs, oe, vs, T, oT, ts, fl, a1, a2, a3, a4, a5, a6, a7, a8, a9, a10⟩ := f.ex
 exact ⟨C, dx, fs, oe, vs, T, oT, ts, fl, a1, a2, a3, a4, a5, a6, a7, a8, a9, k _ a10⟩
def Fly (X : Cx) (H : Hp) (h : Heap) (ea : Addr) : Prop := FlyN H h ea \/ FlyT (fun fl => fl = .none \/ fl = rawInt X.env.locals) H h ea
structure Fr0 (X : Cx) (A : Around) : Prop where
 stk : X.stack = X.env :: X.outer
 frm : X.env.frame = some X.env.locals
 fms : A.frames = some X.stack
section
variable {X : Cx} {A : Around} {M : Model} {E : Value -> Shared -> Prop} {pins : List (Addr × Obj)} {σ : St} {H : Hp} {s : Shared} {ea : Addr}
theorem Ze5 {h : Heap} {a : Addr} {o : Obj} {vs : Array Value} (f : Array Value -> Array Value) (e : h.get? a = some o) (d : o.data = .fields vs) : (h.update a (Obj.mapFields f)).get? a = some { o with data := .fields (f vs) } := by
 have q : Obj.mapFields f o = { o with data := .fields (f vs) } := by
  obtain ⟨c, di, da, sl⟩ := o
  cases d
  rfl
 rw [<- q]
 exact Heap.get?_update_self (Obj.mapFields f) e (Obj.isFreed_of_fields (vs := f vs) (by rw [q]))
theorem Inv.excSet {C : Addr} {dx : Option Addr} {fr fr' : Bool} {fs : List (Str × V)} {oe : Obj} {vs : Array Value} {f : Array Value -> Array Value} (I : Inv X pins σ H s) (e1 : H ea = some (.exc C dx fr fs)) (e2 : s.heap.get? ea = some oe) (e3 : oe.data = .fields vs) (z : (f vs).size = 6)
 (hf : fr' = true -> (f vs)[1]? = some .none) : Inv X pins σ (upd H ea (.exc C dx fr' fs)) { s with heap := s.heap.update ea (Obj.mapFields f) } := by
 have g := Ze5 f e2 e3
 refine I.write (t' := s.toks) (x := ea) (e := ea) (by rw [e1]; trivial) (.inl rfl) (fun b u hb q => by rw [Heap.get?_update_other _ _ (Ne.symm hb)]; exact q) ⟨_, g⟩ ?_
 obtain ⟨l, ⟨o, vs', q1, q2, q3, q4, q5, q6⟩, r⟩ := (show Zag X.prog X.w H s.heap ea (.exc C dx fr fs) from I.hok ea _ e1)
 rw [e2] at q1
 cases q1
 refine ⟨l, ⟨_, f vs, g, q2, q3, rfl, z, hf⟩, ?_⟩
 cases dx with
 | none => exact r
 | some d =>
  obtain ⟨r1, r2, mA, ⟨od, es, ep, e4, c⟩, r3⟩ := r
  refine ⟨by rw [Zt r2]; exact r1, r2, mA, ⟨od, es, ep, by rw [Heap.get?_update_other _ _ (Ne.symm r2)]; exact e4, c⟩, r3⟩
theorem ZiY {H : Hp} {a : Addr} {o : HO} (e : H a = some o) : upd H a o = H := by
 funext b
 unfold upd
 split
 . rename_i q; subst q; exact e.symm
 . rfl
theorem Inv.tbSet {T : Addr} {oT : Obj} {ts : Array Value} {f : Array Value -> Array Value} (I : Inv X pins σ H s) (e1 : H T = some (TB T)) (e2 : s.heap.get? T = some oT) (e3 : oT.data = .fields ts) (z : 3 < (f ts).size) :
 Inv X pins σ H { s with heap := s.heap.update T (Obj.mapFields f) } := by
 have g := Ze5 f e2 e3
 have J : Inv X pins σ (upd H T (TB T)) { s with heap := s.heap.update T (Obj.mapFields f) } :=
  I.write (t' := s.toks) (x := T) (e := T) (by rw [e1]; exact trivial) (.inl rfl) (fun b u hb q => by rw [Heap.get?_update_other _ _ (Ne.symm hb)]; exact q) ⟨_, g⟩ (ZnF g rfl z)
 rw [ZiY e1] at J
 exact J
theorem ZnG {C : Addr} {dx : Option Addr} {fr : Bool} {fs : List (Str × V)} {T : Addr} (e1 : H ea = some (.exc C dx fr fs)) (e2 : H T = some (TB T)) : T ≠ ea := fun q => by
 subst q
 rw [e1] at e2
 cases e2
theorem set6 {vs : Array Value} {v : Value} {i : Nat} : (vs.setIfInBounds i v).size = vs.size := Array.size_setIfInBounds
theorem ZiZ {C : Addr} {dx : Option Addr} {fs : List (Str × V)} {oe : Obj} {vs : Array Value} {head : Value} {hadNext : Bool} (F : Fr0 X A) (I : Inv X pins σ H s) (e1 : H ea = some (.exc C dx false fs)) (e2 : s.heap.get? ea = some oe) (e3 : oe.data = .fields vs) (e4 : vs.size = 6) :
 wpAny M A (do
  let a <- frameOf X.env
  let pl <- entryPlaceOf X.env.locals hadNext
  let b <- EntryCells.newEntry head a Value.none (rawInt ↑X.env.locals) Value.none pl
  setField (Value.ref ea) 1 b) (fun _ s' => ∃ H', Inv X pins σ H' s' /\ Same H H' /\ FlyT (fun fl => fl = rawInt X.env.locals) H' s'.heap ea) E s := by
 have hfr : A.frames = some (X.env :: X.outer) := by rw [F.fms, F.stk]
 have hl : s.heap.FunFrames X.base (X.env :: X.outer) := by rw [<- F.stk]; exact I.stack
 refine wpAny_bind (wpAny_frameOf_fun hfr hl F.frm fun h₁ hs₁ => ?_)
 have hfs : List.filterMap (fun x => x.frame) (X.env :: X.outer) = frs X.stack := by rw [F.stk]; rfl
 rw [hfs] at hs₁
 obtain ⟨_, k1, k2⟩ := hs₁
 have nfr : ∀ b o, H b = some o -> b ∉ frs X.stack := fun b o e z => by rw [I.stkFree b z] at e; cases e
 have un : Un (frs X.stack) [] H H s.heap h₁ :=
  ⟨fun b o e n hb _ => by rw [k1 b hb]; exact e, fun b o e n hb _ => k2 b o e, fun b o e n _ => n, fun b o e _ => let ⟨sl, q⟩ := k2 b o e; ⟨_, q⟩, fun _ _ e => e, fun _ _ _ e => e, fun b ps e => ⟨#[], by rw [e]; simp⟩⟩
 have hok1 : HOk X.prog X.w H h₁ := fun a o e => (I.hok a o e).stay (fun b u hb q => by
  rw [k1 b]
  . exact q
  . rcases hb with z | z
    . rw [z]; exact nfr a o e
    . exact nfr b _ z) (fun _ q => q) fun _ _ q => q
 have I1 : Inv X pins σ H { s with heap := h₁ } := I.call (g' := s.gens) (d' := s.drawn) (t' := s.toks) un hok1 I.bare fun b z => absurd z (by simp)
 have e2' : h₁.get? ea = some oe := by rw [k1 ea (nfr ea _ e1)]; exact e2
 (refine wpAny_bind (wpAny_entryPlaceOf fun pl hpl => ?_))
 refine wpAny_bind ?_
 (unfold EntryCells.newEntry newFields)
 refine wpAny_newObj_type ?_ (IsPlace.sizeOk5 hpl _ _ _ _ _)
 have z4 : 3 < (([head, Value.ref X.env.locals, Value.none, rawInt ↑X.env.locals, Value.none] ++ if pl.isEmpty = true then List.replicate 6 Value.none else pl).toArray).size := by simp
 have hg := Heap.get?_push_size h₁ (o := { cls := Value.type "traceback", data := .fields ([head, Value.ref X.env.locals, Value.none, rawInt ↑X.env.locals, Value.none] ++ if pl.isEmpty = true then List.replicate 6 Value.none else pl).toArray }) rfl
 have I2 := I1.laid (a := h₁.objs.size) (o := TB h₁.objs.size) (t' := s.toks) (h' := h₁.push { cls := Value.type "traceback", data := .fields ([head, Value.ref X.env.locals, Value.none, rawInt ↑X.env.locals, Value.none] ++ if pl.isEmpty = true then List.replicate 6 Value.none else pl).toArray })
  (fun b u q => Heap.get?_push_of_some _ q) (Nat.le_refl _) (ZnF hg rfl z4)
 have hn : H h₁.objs.size = none := I1.hok.fresh (Nat.le_refl _)
 have ne : ea ≠ h₁.objs.size := ZaF e1 hn
 have e1' : upd H h₁.objs.size (TB h₁.objs.size) ea = some (.exc C dx false fs) := by rw [Zt ne]; exact e1
 have e2'' := Heap.get?_push_of_some { cls := Value.type "traceback", data := .fields ([head, Value.ref X.env.locals, Value.none, rawInt ↑X.env.locals, Value.none] ++ if pl.isEmpty = true then List.replicate 6 Value.none else pl).toArray } e2'
 refine wpAny_setField e2'' e3 (by omega) ?_
 have I3 := Inv.excSet (fr' := false) (f := fun x => x.setIfInBounds 1 (Value.ref h₁.objs.size)) I2 e1' e2'' e3 (by rw [set6]; exact e4) (by simp)
 rw [ZiY e1'] at I3
 refine ⟨_, I3, fun b o q => by rw [Zt (ZaF q hn)]; exact q, ⟨C, dx, fs, _, _, h₁.objs.size, _, _, rawInt X.env.locals, e1', Ze5 _ e2'' e3, rfl, by rw [set6]; exact e4, ?_, Zv, (Heap.get?_update_other _ _ ne).trans hg, rfl, ?_, rfl⟩⟩
 . rw [Array.getElem?_setIfInBounds]
   simp [e4]
 . simp
theorem ZhF (F : Fr0 X A) (I : Inv X pins σ H s) (f : Fly X H s.heap ea) :
 wpAny M A (noteFrame (.ref ea) X.env) (fun _ s' => ∃ H', Inv X pins σ H' s' /\ Same H H' /\ FlyT (fun fl => fl = rawInt X.env.locals) H' s'.heap ea) E s := by
 unfold noteFrame
 rw [F.frm]
 dsimp only
 rcases f with ⟨C, dx, fs, oe, vs, e1, e2, e3, e4, e5⟩ | ⟨C, dx, fs, oe, vs, T, oT, ts, fl, e1, e2, e3, e4, e5, e6, e7, e8, e9, e10⟩
 . refine wpAny_bind (wpAny_field e2 e3 e5 ?_)
   rw [if_neg (by decide)]
   exact ZiZ F I e1 e2 e3 e4
 . refine wpAny_bind (wpAny_field e2 e3 e5 ?_)
   rw [if_pos (show (Value.ref T != Value.none) = true from rfl)]
   refine wpAny_bind (wpAny_field e7 e8 e9 ?_)
   have hz : 3 < ts.size := (Array.getElem?_eq_some_iff.mp e9).1
   rcases e10 with rfl | rfl
   . rw [if_neg (by simp [rawInt])]
     refine wpAny_bind (wpAny_setField e7 e8 hz ?_)
     have I1 := I.tbSet (f := fun x => x.setIfInBounds 3 Value.none) e6 e7 e8 (by rw [set6]; exact hz)
     refine ZiZ F I1 e1 ?_ e3 e4
     show (Heap.update _ _ _).get? _ = _
     rw [Heap.get?_update_other _ _ (ZnG e1 e6)]
     exact e2
   . rw [if_pos (by simp)]
     exact wpAny_pure ⟨H, I, Same.refl _, C, dx, fs, oe, vs, T, oT, ts, _, e1, e2, e3, e4, e5, e6, e7, e8, e9, rfl⟩
theorem Zef {φ : Value -> Prop} {o : Option Addr} (I : Inv X pins σ H s) (f : FlyT φ H s.heap ea) :
 wpAny M A (setFlight (.ref ea) o) (fun _ s' => Inv X pins σ H s' /\ FlyT (fun fl => fl = o.elim Value.none fun f => rawInt f) H s'.heap ea) E s := by
 obtain ⟨C, dx, fs, oe, vs, T, oT, ts, fl, e1, e2, e3, e4, e5, e6, e7, e8, e9, e10⟩ := f.ex
 unfold setFlight
 have hz : 3 < ts.size := (Array.getElem?_eq_some_iff.mp e9).1
 refine wpAny_bind (wpAny_field e2 e3 e5 ?_)
 rw [if_pos (show (Value.ref T != Value.none) = true from rfl)]
 refine wpAny_setField e7 e8 hz ?_
 have I1 := I.tbSet (f := fun x => x.setIfInBounds 3 (o.elim Value.none fun f => rawInt f)) e6 e7 e8 (by rw [set6]; exact hz)
 refine ⟨I1, C, dx, fs, oe, vs, T, _, _, _, e1, ?_, e3, e4, e5, e6, Ze5 _ e7 e8, rfl, ?_, rfl⟩
 . show (Heap.update _ _ _).get? _ = _
   rw [Heap.get?_update_other _ _ (ZnG e1 e6)]
   exact e2
 . rw [Array.getElem?_setIfInBounds]
   simp [hz]
theorem ZmF (F : Fr0 X A) (I : Inv X pins σ H s) (f : Fly X H s.heap ea) :
 wpAny M A (leaving X.env (.ref ea)) (fun _ s' => ∃ H', Inv X pins σ H' s' /\ Same H H' /\ FlyT (fun fl => fl = Value.none) H' s'.heap ea) E s := by
 unfold leaving
 refine wpAny_bind (thn (ZhF F I f) fun _ s1 ⟨H1, I1, k1, f1⟩ => ?_)
 exact thn (Zef (o := none) I1 f1) fun _ s2 ⟨I2, f2⟩ => ⟨H1, I2, k1, f2⟩
structure EndX extends Ends where
 xc : Addr -> St -> Hp -> Prop
abbrev TX := EndX -> St -> Hp -> Prop
def XP (X : Cx) (pins : List (Addr × Obj)) (xc : Addr -> St -> Hp -> Prop) (e : Value) (s' : Shared) : Prop :=
 X.xe e s' \/ ∃ ea σ' H', e = .ref ea /\ Inv X pins σ' H' s' /\ Fly X H' s'.heap ea /\ ∀ H'', Same H' H'' -> xc ea σ' H''
def PX (X : Cx) (st : Stmt) (t : TX) : Prop :=
 ∀ (pins : List (Addr × Obj)) (s : Shared) (σ : St) (H : Hp) (D : EndX), Inv X pins σ H s -> t D σ H -> wpAny (model X.prog X.w) X.A (exec st X.env) (SP X pins D.toEnds) (XP X pins D.xc) s
def PXs (X : Cx) (st : List Stmt) (t : TX) : Prop :=
 ∀ (pins : List (Addr × Obj)) (s : Shared) (σ : St) (H : Hp) (D : EndX), Inv X pins σ H s -> t D σ H -> wpAny (model X.prog X.w) X.A (execs st X.env) (SP X pins D.toEnds) (XP X pins D.xc) s
theorem PX.imp {st : Stmt} {t u : TX} (h : PX X st t) (k : ∀ D σ H, u D σ H -> t D σ H) : PX X st u := fun pins s σ H D I w => h pins s σ H D I (k D σ H w)
theorem PXs.imp {st : List Stmt} {t u : TX} (h : PXs X st t) (k : ∀ D σ H, u D σ H -> t D σ H) : PXs X st u := fun pins s σ H D I w => h pins s σ H D I (k D σ H w)
theorem PS.x {st : Stmt} {t : TS} (h : PS X st t) : PX X st fun D => t D.toEnds := fun pins s σ H D I w => wpAny_mono (h pins s σ H D.toEnds I w) (fun _ _ q => q) fun _ _ q => .inl q
theorem ZpV {P : Program} {w : World} {xc : Addr -> St -> Hp -> Prop} (F : Fr0 X A) (hx : ∀ e s, ¬ X.xe e s) : PassesOwn (model P w) A X.env (XP X pins xc) := fun e s' h => by
 rcases h with h | ⟨ea, σ', H', rfl, I, f, q⟩
 . exact absurd h (hx _ _)
 . refine wpAny_mono (ZhF F I f) (fun _ s1 ⟨H1, I1, k1, f1⟩ => ?_) fun _ _ z => z
   obtain ⟨C, dx, fs, oe, vs, T, oT, ts, fl, e1, e2, e3, e4, e5, e6, e7, e8, e9, e10⟩ := f1.ex
   show wpAny _ _ _ _ _ _
   refine wpAny_bind (wpAny_field e2 e3 e5 ?_)
   rw [if_neg (show ¬ (Value.ref T == Value.none) = true from Bool.false_ne_true)]
   refine thn (Zef (o := X.env.frame) I1 f1) fun _ s2 ⟨I2, f2⟩ => .inr ⟨ea, σ', H1, rfl, I2, .inr (f2.mono fun v hv => .inr ?_), fun H2 k2 => q H2 (k1.trans k2)⟩
   rw [hv, F.frm]
   rfl
end
end L2
namespace L2
open PySem PySem.Spec PyProof.Rows
section
variable {X : Cx} {A : Around} {pins : List (Addr × Obj)} {σ : St} {H : Hp} {s : Shared} {pos : Pos}
theorem thnx {α : Type} {t : Sem α} {Q Q' : α -> Shared -> Prop} {M : Model} {A : Around} {xc : Addr -> St -> Hp -> Prop} {s : Shared} (h : wpAny M A t Q X.xe s) (hQ : ∀ a s, Q a s -> Q' a s) : wpAny M A t Q' (XP X pins xc) s := wpAny_mono h hQ fun _ _ x => .inl x
def ZrG (t u : TX) : TX := fun D σ H => t { D with nx := u D } σ H
theorem Zoj : PXs X [] fun D σ H => D.nx σ H := fun _ _ σ H _ I h => wpAny_execs_nil ⟨σ, H, I, h⟩
theorem ZmG {st : Stmt} {rest : List Stmt} {t u : TX} (h1 : PX X st t) (h2 : PXs X rest u) : PXs X (st :: rest) (ZrG t u) := by
 intro pins s σ H D I h
 refine wpAny_execs_cons (thn (h1 pins s σ H { D with nx := u D } I h) fun f s1 q => ?_)
 cases f with
 | next =>
  obtain ⟨σ', H', I', q⟩ := q
  exact h2 pins s1 σ' H' D I' q
 | ret v => exact q
 | brk => exact q
 | cont => exact q
def tIfX (c : TT) (t u : TX) : TX := fun D σ H => c σ H fun b H1 => if b = true then t D σ H1 else u D σ H1
theorem ZrH {c : Expr} {a b : List Stmt} {tc : TT} {t u : TX} (hc : PT X c tc) (ha : PXs X a t) (hb : PXs X b u) : PX X (.If c a b pos) (tIfX tc t u) := by
 intro pins s σ H D I h
 refine wpAny_If (thnx (hc pins s σ H _ I h) fun d s1 ⟨H1, I1, q1⟩ => ?_)
 cases d with
 | true => exact ha pins s1 σ H1 D I1 q1
 | false => exact hb pins s1 σ H1 D I1 q1
theorem XP.unpinned {pl : List (Addr × Obj)} {xc : Addr -> St -> Hp -> Prop} {e : Value} (h : XP X (pins ++ pl) xc e s) : XP X pins xc e s := by
 rcases h with h | ⟨ea, σ', H', e, I, f, q⟩
 . exact .inl h
 . exact .inr ⟨ea, σ', H', e, I.unpinned, f, q⟩
def ZrI (wi : TI) (g : TG) (tb : TX) : TX := fun D σ H => wi σ H fun J H1 => ∃ W : Nat -> Nat -> St -> Hp -> Prop, (∃ m, W 0 m σ H1) /\ ∀ i m σ H, W i m σ H ->
 (J.stop i H /\ D.nx σ H) \/ (J.go i H /\ ∃ N : St -> Hp -> Prop, (∀ σ' H', N σ' H' -> ∃ m', m' < m /\ W (i + 1) m' σ' H') /\ ∀ x H', J.yld i H x H' -> g x σ H' fun σ2 H2 => tb { D with nx := N, ct := N, bk := D.nx } σ2 H2)
theorem ZpW {tg iter : Expr} {body : List Stmt} {wi : TI} {g : TG} {tb : TX} (F : Fr0 X X.A) (hx : ∀ e s, ¬ X.xe e s) (hc : X.calm = true) (hi : PI X tg iter wi) (hg : PG X tg g) (hb : PXs X body tb)
 (hs : ∀ x, foldedSetIterable iter X.env x = pure x := by intro _; rfl) : PX X (.For tg iter body [] pos) (ZrI wi g tb) := by
 intro pins s σ H D I h
 have hp : PassesOwn (model X.prog X.w) X.A X.env (XP X pins D.xc) := ZpV F hx
 refine wpAny_For (thnx (hi pins s σ H _ I h) fun v s1 h1 => thnx h1 fun itv s2 h2 => ?_) hs
 obtain ⟨it, fp, tn, J, H2, e, I2, T, st2, f2, W, ⟨m0, w0⟩, turn⟩ := h2
 subst e
 have stat : ∀ {H' : Hp}, (∀ b ∈ fp, H' b = none) -> ∀ b ∈ fp, FpOk X pins H' b := fun hn b hb => ⟨hn b hb, (f2 b hb).2⟩
 refine codeAny_forLoop_any (fun n s' => ∃ i σ' H', Inv X pins σ' H' s' /\ tn i s'.heap /\ (∀ b ∈ fp, H' b = none) /\ W i n σ' H') ?_ m0 ⟨0, σ, H2, I2, st2, fun b hb => (f2 b hb).1, w0⟩
 rintro n s3 ⟨i, σ3, H3, I3, st3, fr3, w3⟩
 rcases turn i n σ3 H3 w3 with ⟨stop, qn⟩ | ⟨go, N, hN, step⟩
 . refine wpAny_passesOwn hp (thnx (T.done X rfl rfl rfl hc i pins s3 σ3 H3 X.xe I3 (stat fr3) st3 stop) fun r s4 ⟨hr, I4⟩ => ?_)
   subst hr
   exact wpAny_execs_nil ⟨σ3, H3, I4, qn⟩
 . refine wpAny_passesOwn hp (thnx (T.item X rfl rfl rfl hc i pins s3 σ3 H3 X.xe I3 (stat fr3) st3 go) fun r s4 ⟨u, hr, h4⟩ => ?_)
   subst hr
   refine wpAny_passesOwn hp (thnx h4 fun _ s5 ⟨x, H5, I5, r5, y5, st5, fr5⟩ => ?_)
   have I5' := I5.pinned (stat fr5) (T.obj _ _ st5)
   refine wpAny_passesOwn hp (thnx (hg _ s5 σ3 H5 x u _ I5' r5 (step x H5 y5)) fun _ s6 ⟨σ6, H6, I6, q6⟩ => ?_)
   refine wpAny_passesOwn hp (wpAny_mono (hb _ s6 σ6 H6 { D with nx := N, ct := N, bk := D.nx } I6 q6) (fun f s7 q7 => ?_) fun _ _ z => z.unpinned)
   have again : ∀ {σ7 : St} {H7 : Hp}, Inv X (pins ++ Zfn fp s5.heap) σ7 H7 s7 -> N σ7 H7 -> ∃ m, m < n /\ ∃ i σ' H', Inv X pins σ' H' s7 /\ tn i s7.heap /\ (∀ b ∈ fp, H' b = none) /\ W i m σ' H' := fun {σ7 H7} I7 n7 => by
    obtain ⟨m', hm, w7⟩ := hN σ7 H7 n7
    refine ⟨m', hm, i + 1, σ7, H7, I7.unpinned, T.keep _ _ _ st5 fun b hb o e => (I7.pin (b, o) (List.mem_append_right _ (List.mem_append_right _ (Zc0 hb e)))).1, fun b hb => ?_, w7⟩
    obtain ⟨o, e, d⟩ := T.obj _ _ st5 b hb
    exact (I7.pin (b, o) (List.mem_append_right _ (List.mem_append_right _ (Zc0 hb e)))).2.1
   cases f with
   | next => obtain ⟨σ7, H7, I7, n7⟩ := q7; exact again I7 n7
   | cont => obtain ⟨σ7, H7, I7, n7⟩ := q7; exact again I7 n7
   | brk => obtain ⟨σ7, H7, I7, q7⟩ := q7; exact ⟨σ7, H7, I7.unpinned, q7⟩
   | ret v => obtain ⟨x7, σ7, H7, I7, r7, q7⟩ := q7; exact ⟨x7, σ7, H7, I7.unpinned, r7, q7⟩
noncomputable def CXx (P : Program) (w : World) : CXT := fun outer H s E e s' => ∃ ea H', e = .ref ea /\ s'.os = s.os /\ AllBare s'.gens /\ Un (frs outer) [] H H' s.heap s'.heap /\ HOk P w H' s'.heap /\ FlyT (fun fl => fl = Value.none) H' s'.heap ea /\
 ∀ H'', Same H' H'' -> E (.ref ea) none H''
theorem ZpX {P : Program} {w : World} {K : Fg} {mg : Str -> Option Value} {base : Heap} {k : Nat} {f : Addr} {name qual : Str} {params : Arguments} {body : List Stmt} {scope : Scope} {dV kV doc pm cdv ct oc : Value} {an od : Option Addr}
 {osl : Array (Option Value)} {N ps : List Str} {sp : Sp} (lk : K.lookup f = some ⟨oc, od, .func (PySem.W.fnOf name qual params body scope dV kV doc pm an cdv ct), osl⟩) (hcd : PySem.W.codeIn K cdv qual = true) (S : FnScope N ps scope)
 (len : ∀ vs H Q E, sp vs H Q E -> vs.length = ps.length)
 (hbody : ∀ (A : Around) (outer : List Env) (s : Shared) (H : Hp) (vs : List V) (Q : VK) (E : XK), Room k (A.deeper (envOfC qual scope s.heap.objs.size f cdv)) -> sp vs H Q E ->
  ∃ t, (A.frames = some outer -> PXs (cxOf CX0 P w K mg base N qual scope f cdv A outer s H E).nox body t) /\ t { nx := fun _ H' => Q .non H', rt := Q, xc := fun ea _ H' => E (.ref ea) none H' } (start N vs) H) :
 FnOk P w K mg base (CXx P w) (k + 1) f (PySem.W.fnOf name qual params body scope dV kV doc pm an cdv ct) ps sp := by
 refine ⟨len, fun A outer s H args us vs Q E hr e0 hb r hsp => ?_⟩
 have hl := len _ _ _ _ hsp
 have KX : K.In s.heap := e0.mod.kin.keeps fun b o e => (e0.bs b o e).1
 have lim : s.heap.NoLimit := e0.mod.nolimit.keeps fun b o e => (e0.bs b o e).1
 have hkind : ∀ y ∈ ps.zip us, scope.names.lookup y.1 = some .local \/ (scope.names.lookup y.1 = some .cell /\ ((cellsFrom (s.heap.objs.size + 1) scope.names []).lookup y.1).isSome = true) := fun ⟨n, v⟩ hy => by
  rcases S.par n (List.of_mem_zip hy).1 with q | q
  . exact .inl q
  . exact .inr ⟨q, PySem.W.cellsFrom_some _ _ _ (.inl q)⟩
 refine codeAny_call_function hr.depth (KX _ _ lk) rfl S.co S.gen rfl (PySem.W.codeRec_of KX hcd) (hb _ _ _ _ ?_)
 refine wpAny_newFunctionEnv_cells S.kind hkind fun env he s1 x => ?_
 subst he
 refine ⟨lim.keeps x.toInCall.keep, codeAny_func ?_⟩
 obtain ⟨t, ht, hq⟩ := hbody A outer s H vs Q E (hr.deeper _) hsp
 have I : Inv (cxOf CX0 P w K mg base N qual scope f cdv A outer s H E) [] (start N vs) H s1 := Zir S hr.hd e0 hl r x
 refine wpAny_mono (ht e0.frames [] s1 (start N vs) H _ (I.wish _) hq) (fun fl s' hs => ?_) fun e s' hs => ?_
 . have fin : ∀ {σ' : St} {H' : Hp} {v : V} {u : Value}, Inv (cxOf CX0 P w K mg base N qual scope f cdv A outer s H E).nox [] σ' H' s' -> RelV v u -> Q v H' -> CE outer P w H s Q u s' :=
    fun {σ' H' v u} J rv q => ⟨v, H', J.os, J.bare, J.base, J.hok, rv, q⟩
   cases fl with
   | ret u =>
    obtain ⟨v, σ', H', J, rv, q⟩ := hs
    exact fin J rv q
   | next =>
    obtain ⟨σ', H', J, q⟩ := hs
    exact fin (v := V.non) (u := Value.none) J rfl q
   | brk =>
    obtain ⟨_, _, _, q⟩ := hs
    exact False.elim q
   | cont =>
    obtain ⟨_, _, _, q⟩ := hs
    exact False.elim q
 . rcases hs with hs | ⟨ea, σ', H', rfl, J, fl, q⟩
   . exact False.elim hs
   . have F : Fr0 (cxOf CX0 P w K mg base N qual scope f cdv A outer s H E).nox (A.deeper (envOfC qual scope s.heap.objs.size f cdv)) := ⟨rfl, rfl, Around.frames_deeper e0.frames⟩
     refine wpAny_mono (ZmF (M := model P w) (E := fun _ _ => False) F J fl) (fun _ s2 ⟨H2, J2, k2, f2⟩ => ?_) fun _ _ z => z.elim
     exact ⟨ea, H2, rfl, J2.os, J2.bare, J2.base, J2.hok, f2, fun H'' k3 => q H'' (k2.trans k3)⟩
def EXP (X : Cx) (pins : List (Addr × Obj)) (σ : St) (Ex : Addr -> Hp -> Prop) (e : Value) (s' : Shared) : Prop :=
 X.xe e s' \/ ∃ ea H', e = .ref ea /\ Inv X pins σ H' s' /\ Fly X H' s'.heap ea /\ ∀ H'', Same H' H'' -> Ex ea H''
abbrev TEX := St -> Hp -> VK -> (Addr -> Hp -> Prop) -> Prop
def PEx (X : Cx) (e : Expr) (t : TEX) : Prop :=
 ∀ (pins : List (Addr × Obj)) (s : Shared) (σ : St) (H : Hp) (Q : VK) (Ex : Addr -> Hp -> Prop), Inv X pins σ H s -> t σ H Q Ex -> wpAny (model X.prog X.w) X.A (eval e X.env) (EP X pins σ Q) (EXP X pins σ Ex) s
theorem PEx.imp {e : Expr} {t u : TEX} (h : PEx X e t) (k : ∀ σ H Q Ex, u σ H Q Ex -> t σ H Q Ex) : PEx X e u := fun pins s σ H Q Ex I w => h pins s σ H Q Ex I (k σ H Q Ex w)
theorem thne {α : Type} {t : Sem α} {Q Q' : α -> Shared -> Prop} {M : Model} {A : Around} {Ex : Addr -> Hp -> Prop} {s : Shared} (h : wpAny M A t Q X.xe s) (hQ : ∀ a s, Q a s -> Q' a s) : wpAny M A t Q' (EXP X pins σ Ex) s := wpAny_mono h hQ fun _ _ x => .inl x
theorem EXP.xp {Ex : Addr -> Hp -> Prop} {e : Value} {xc : Addr -> St -> Hp -> Prop} (h : EXP X pins σ Ex e s) (k : ∀ ea H', Ex ea H' -> xc ea σ H') : XP X pins xc e s := by
 rcases h with h | ⟨ea, H', e, I, f, q⟩
 . exact .inl h
 . exact .inr ⟨ea, σ, H', e, I, f, fun H'' z => k ea H'' (q H'' z)⟩
theorem Zok {k : Nat} {f : Addr} {fd : FuncData} {ps : List Str} {sp : Sp} {dvs : List V} {ds : List Value} {Q : VK} {Ex : Addr -> Hp -> Prop} {us : List Value} {vs : List V} (F : FnOk X.prog X.w X.K X.mg X.base (CXx X.prog X.w) k f fd ps sp) (hr : Room k X.A) (hb : Binds X.K fd ps ds) (hd : Vals dvs ds)
 (I : Inv X pins σ H s) (r : Vals vs us) (h : sp (vs ++ dvs) H Q (fun v _ H' => ∃ ea, v = .ref ea /\ Ex ea H')) : wpAny (model X.prog X.w) X.A (call (.ref f) us) (EP X pins σ Q) (EXP X pins σ Ex) s := by
 have r2 : Vals (vs ++ dvs) (us ++ ds) := r.append hd
 have hl : (us ++ ds).length = ps.length := by rw [<- r2.length]; exact F.len _ _ _ _ h
 refine wpAny_call (codeAny_mono (F.run X.A X.stack s H ⟨us, []⟩ (us ++ ds) (vs ++ dvs) Q _ hr I.env0 (hb s us I.kIn hl) r2 h) fun r s' hq => ?_)
 cases r with
 | error e =>
  obtain ⟨ea, H', rfl, os, bare, un, hok, fl, q⟩ := hq
  refine .inr ⟨ea, H', rfl, I.call' (ch := []) os un hok bare fun b z => absurd z (by simp), .inr (fl.mono fun v z => .inl z), fun H'' z => ?_⟩
  obtain ⟨ea', e, q⟩ := q H'' z
  cases e
  exact q
 | ok fl =>
  cases fl with
  | ret u => exact I.after hq
  | next => exact False.elim hq
  | brk => exact False.elim hq
  | cont => exact False.elim hq
noncomputable def ZpY (sp : Sp) (dvs : List V) (t : TA) : TEX := fun σ H Q Ex => t σ H fun vs H1 => sp (vs ++ dvs) H1 Q (fun v _ H' => ∃ ea, v = .ref ea /\ Ex ea H')
theorem ZmH {k : Nat} {f : Addr} {fd : FuncData} {ps : List Str} {sp : Sp} {dvs : List V} {ds : List Value} {x : Str} {p : Pos} {e : Expr} {es : List Expr} {t : TA} (F : FnOk X.prog X.w X.K X.mg X.base (CXx X.prog X.w) k f fd ps sp) (hr : Room k X.A) (hg : Gl X x) (hm : X.mg x = some (.ref f)) (hk : PySem.W.keepIn X.K (.ref f) = true) (hb : Binds X.K fd ps ds) (hd : Vals dvs ds)
 (ha : PA X (e :: es) t) (hdb : (x == ("__debug__" : Str)) = false := by decide) (he : starEach (e :: es) X.env = (false, eval e X.env) :: starEach es X.env := by rfl) (hpl : (backTo pos (starEach es X.env)).any (·.1) = false := by rfl) :
 PEx X (.Call (.Name x p) (e :: es) [] pos) (ZpY sp dvs t) := by
 intro pins s σ H Q Ex I h
 refine wpAny_Call_Name_kw (ZeD I hg hm ?_ hdb)
 refine PySem.W.callWith_K (h₀ := X.base) I.ok.mod.kin hk (thne (ha pos pins s σ H _ I h) fun us s1 ⟨vs, H1, I1, r, q⟩ => ⟨I1.kIn, ?_⟩) he hpl
 exact Zok F hr hb hd I1 r q
theorem Zol {e : Expr} {te : TEX} (he : PEx X e te) (hs : swapsWith e none pos.line X.env = pure false := by rfl) : PX X (.Expr e pos) fun D σ H => te σ H (fun _ H1 => D.nx σ H1) (fun ea H1 => D.xc ea σ H1) := by
 intro pins s σ H D I h
 exact wpAny_Expr_any (wpAny_mono (he pins s σ H _ _ I h) (fun v s1 ⟨x, H1, I1, r1, q1⟩ => ⟨σ, H1, I1, q1⟩) fun _ _ z => z.xp fun _ _ q => q) I.quiet hs
theorem ZpZ {e : Expr} {te : TEX} (he : PEx X e te) : PX X (.Return (some e) pos) fun D σ H => te σ H D.rt (fun ea H1 => D.xc ea σ H1) := by
 intro pins s σ H D I h
 exact wpAny_Return_some (wpAny_mono (he pins s σ H _ _ I h) (fun v s1 ⟨x, H1, I1, r1, q1⟩ => ⟨x, σ, H1, I1, r1, q1⟩) fun _ _ z => z.xp fun _ _ q => q)
theorem Zqa {i : Nat} {x : Str} {e : Expr} {te : TEX} {pos' : Pos} (hN : X.N.Nodup) (hi : X.N[i]? = some x) (hx : Loc X.env.scope x) (he : PEx X e te) (hs : swapsWith e (some (.Name x pos')) pos.line X.env = pure false := by rfl) (hf : X.fn x = true \/ X.env.scope.names.lookup x = some .local := by first | exact .inl rfl | exact .inr rfl | assumption) :
 PX X (.Assign [.Name x pos'] e pos) fun D σ H => te σ H (fun v H1 => D.nx (σ.set i (some v)) H1) (fun ea H1 => D.xc ea σ H1) := by
 intro pins s σ H D I h
 refine wpAny_Assign_Name (wpAny_mono (he pins s σ H _ _ I h) (fun v s1 ⟨y, H1, I1, r1, q1⟩ => ?_) fun _ _ z => z.xp fun _ _ q => q) hs
 exact ZdK I1 hN hi hx r1 (fun s2 I2 => ⟨_, H1, I2, q1⟩) hf
end
end L2
namespace L2
open PySem PySem.Spec PyProof.Rows
noncomputable def bmV : List Value := [.type "ValueError", .type "Exception", .type "BaseException", .type "object"]
noncomputable def Za2 : List Value -> Bool
 | .ref _ :: l => Za2 l
 | l => l == bmV
theorem ZfU {v : Value} (hv : bmV.contains v = true) : ∀ {l : List Value}, Za2 l = true -> l.contains v = true
 | [], h => by unfold Za2 at h; exact absurd h (by decide)
 | x :: l, h => by
  cases x with
  | ref a =>
   rw [List.contains_cons, ZfU (l := l) hv h, Bool.or_true]
  | _ => rw [beq_iff_eq.mp (show (_ :: l == bmV) = true from h)]; exact hv
theorem ZfV (self : Value) : ∀ {l : List Value}, Za2 l = true -> refuseLoop self (Str.ofString "__setattr__") l = pure ()
 | [], h => by unfold Za2 at h; exact absurd h (by decide)
 | x :: l, h => by
  cases x with
  | ref a => rw [refuseLoop_ref]; exact ZfV self (l := l) h
  | _ => rw [beq_iff_eq.mp (show (_ :: l == bmV) = true from h)]; exact F.store_ValueError.passes self
structure XC (K : Fg) (C : Addr) : Prop where
 obj : ∃ (nm q : Str) (N : Addr) (bs bm : List Value) (sn : List Str) (sub : List Value) (ab : Bool) (col : Option Bool) (dd : Option Addr) (k0 k1 k2 k3 k5 : Option Value),
  K.lookup C = some (excClassObj nm q C N bs bm true sn sub ab col dd k0 k1 k2 k3 k5 "ValueError.__new__") /\ PySem.W.tailIn K bmV bm = true /\ Za2 bm = true
 sa : PySem.W.findIn K (.ref C) (Str.ofString "__setattr__") = some (some (.builtin "object.__setattr__"))
 ga : PySem.W.findIn K (.ref C) (Str.ofString "__getattribute__") = some (some (.builtin "BaseException.__getattribute__"))
 kp : PySem.W.keepIn K (.ref C) = true
section
variable {prog : Program} {w : World} {A : Around} {E : Value -> Shared -> Prop} {K : Fg} {C f x : Addr} {h : Heap} {g : Array GenState} {d : Drawn} {t : Nat} {os : OsState} {rest : List Value}
noncomputable abbrev Zay (C t : Addr) : Obj := { cls := .ref C, data := .fields #[.ref t, .none, .none, .none, .bool false, .none] }
noncomputable abbrev Zas (vs : List Value) : Obj := { cls := .type "tuple", data := .seq vs.toArray }
theorem ZlH {Q : Value -> Shared -> Prop} (X : XC K C) (hK : K.In h) (hi : PySem.W.findIn K (.ref C) (Str.ofString "__init__") = some (some (.ref f))) (hf : PySem.W.typeIn K (.ref f) = some (.type "function")) (hr : rest.length <= sizeLine)
 (hq : wpAny (model prog w) (A.under (.builtin "type.__call__" ⟨.ref C :: rest, []⟩)) (call (.ref f) (.ref (h.objs.size + 1) :: rest)) (fun r s' => r = .none /\ Q (.ref (h.objs.size + 1)) s') E ⟨(h.push (Zas rest)).push (Zay C h.objs.size), g, d, t, os⟩) : wpAny (model prog w) A (call (.ref C) rest) Q E ⟨h, g, d, t, os⟩ := by
 obtain ⟨nm, q, N, bs, bm, sn, sub, ab, col, dd, k0, k1, k2, k3, k5, lk, tl, tv⟩ := X.obj
 have hC : h.get? C = some (excClassObj nm q C N bs bm true sn sub ab col dd k0 k1 k2 k3 k5 "ValueError.__new__") := hK _ _ lk
 have T : OwnTail h bmV bm := PySem.W.tail_of_in hK tl
 have f1 := tc_lookup
 have f2 := tc_bind (.ref C)
 have hT : Shared.TypeIs ⟨h, g, d, t, os⟩ (.ref C) "type" := ⟨_, hC, rfl⟩
 (refine wpAny_call (codeAny_of_tree ?_))
 refine wpAny_bind (wpAny_load' hC ?_)
 refine wpAny_bind (wpAny_specialOf hT f1 (wpAny_bind (wpAny_of_eq f2 (wpAny_bind (wpAny_pure (wpAny_ite_true rfl (wpAny_pure ⟨rfl, ?_⟩)))))))
 refine codeAny_call_builtin_at (Code.quiet_builtin _ (by decide +kernel)) entry_typeCall (wpAny_check_type_call_sub hC ?_)
 show wpAny _ _ (Builtin.«type.__call__» ⟨Value.ref C :: rest, []⟩) _ _ _
 (unfold Builtin.«type.__call__»)
 refine wpAny_ite_false rfl ?_
 refine wpAny_bind (wpAny_bind (wpAny_bind (wpAny_load' hC (wpAny_pure (wpAny_pure (wpAny_ite_false rfl (wpAny_bind (wpAny_madeBy_exc hC (wpAny_bind (wpAny_pure (wpAny_bind (wpAny_holding (wpAny_call ?_)))))))))))))
 have F := F.excBase_ValueError
 have hB : bmV.contains (Value.type "ValueError") = true := by decide +kernel
 refine codeAny_call_builtin_code (Code.quiet_builtin _ F.quiet) (wpAny_check_new_subU F hB T hC (codeAny_exc_new_subU F hB F T hC ?_ hr))
 have kk : ∀ b o, h.get? b = some o -> ((h.push (Zas rest)).push (Zay C h.objs.size)).get? b = some o := fun b o e => Heap.get?_push_of_some _ (Heap.get?_push_of_some _ e)
 have hC₁ := kk _ _ hC
 have hget : ((h.push (Zas rest)).push (Zay C h.objs.size)).get? (h.objs.size + 1) = some (Zay C h.objs.size) := Heap.get?_push_at (by simp) rfl
 have J : PySem.W.InstAt ((h.push (Zas rest)).push (Zay C h.objs.size)) (h.objs.size + 1) (Zay C h.objs.size) C none := ⟨hget, rfl, rfl, trivial⟩
 show wpAny _ _ _ _ _ _
 refine wpAny_bind (wpAny_bind (wpAny_bind (wpAny_loadPart_at hget (wpAny_pure (wpAny_isSubtype_exc hC₁ ?_)))))
 rw [show (Value.ref C :: bm).contains (Value.ref C) = true by simp]
 refine wpAny_ite_false rfl (wpAny_bind (wpAny_holding (PySem.W.special_fn (hK.keeps kk) J hi hf (wpAny_mono hq (fun r s' ⟨e, q⟩ => ?_) fun _ _ z => z))))
 subst e
 exact wpAny_ite_false rfl (wpAny_pure q)
theorem Zhe {e : Addr} {oe : Obj} {vs : Array Value} {Q : Value -> Shared -> Prop} (X : XC K C) (hK : K.In h) (he : h.get? e = some oe) (hc : oe.cls = .ref C) (hd : oe.data = .fields vs) (hz : vs.size = 6) (hr : rest.length <= sizeLine)
 (hq : Q .none ⟨(h.push (Zas rest)).update e (Obj.mapFields fun x => x.setIfInBounds 0 (.ref h.objs.size)), g, d, t, os⟩) :
 wpAny (model prog w) A (call (.builtin "ValueError.__init__") (.ref e :: rest)) Q E ⟨h, g, d, t, os⟩ := by
 obtain ⟨nm, q, N, bs, bm, sn, sub, ab, col, dd, k0, k1, k2, k3, k5, lk, tl, tv⟩ := X.obj
 have hC : h.get? C = some (excClassObj nm q C N bs bm true sn sub ab col dd k0 k1 k2 k3 k5 "ValueError.__new__") := hK _ _ lk
 have T : OwnTail h bmV bm := PySem.W.tail_of_in hK tl
 have F := F.excBase_ValueError
 have he' := Heap.get?_push_of_some (Zas rest) he
 refine wpAny_call (codeAny_call_builtin F.init.plain F.initEntry (wpAny_check_init_subU F T hC he hc ?_))
 (unfold Builtin.«BaseException.__init__»)
 refine wpAny_ite_false rfl (wpAny_bind (wpAny_newTuple ?_ hr))
 refine wpAny_bind ?_
 unfold Builtin.BaseException.bexcPut
 obtain ⟨v0, h0⟩ : ∃ v0, vs[0]? = some v0 := ⟨_, Array.getElem?_eq_getElem (by omega)⟩
 refine wpAny_bind (wpAny_field he' hd h0 (wpAny_bind (wpAny_setField he' hd (by omega) ?_)))
 cases v0 <;> first
  | exact wpAny_letGo (wpAny_pure hq)
  | exact wpAny_pure (wpAny_pure hq)
theorem ZlI {Q : Value -> Shared -> Prop} (X : XC K C) (hK : K.In h) (hi : PySem.W.findIn K (.ref C) (Str.ofString "__init__") = some (some (.builtin "ValueError.__init__"))) (hr : rest.length <= sizeLine)
 (hq : Q (.ref (h.objs.size + 1)) ⟨(((h.push (Zas rest)).push (Zay C h.objs.size)).push (Zas rest)).update (h.objs.size + 1) (Obj.mapFields fun x => x.setIfInBounds 0 (.ref (h.objs.size + 2))), g, d, t, os⟩) : wpAny (model prog w) A (call (.ref C) rest) Q E ⟨h, g, d, t, os⟩ := by
 obtain ⟨nm, q, N, bs, bm, sn, sub, ab, col, dd, k0, k1, k2, k3, k5, lk, tl, tv⟩ := X.obj
 have hC : h.get? C = some (excClassObj nm q C N bs bm true sn sub ab col dd k0 k1 k2 k3 k5 "ValueError.__new__") := hK _ _ lk
 have T : OwnTail h bmV bm := PySem.W.tail_of_in hK tl
 have f1 := tc_lookup
 have f2 := tc_bind (.ref C)
 have hT : Shared.TypeIs ⟨h, g, d, t, os⟩ (.ref C) "type" := ⟨_, hC, rfl⟩
 (refine wpAny_call (codeAny_of_tree ?_))
 refine wpAny_bind (wpAny_load' hC ?_)
 refine wpAny_bind (wpAny_specialOf hT f1 (wpAny_bind (wpAny_of_eq f2 (wpAny_bind (wpAny_pure (wpAny_ite_true rfl (wpAny_pure ⟨rfl, ?_⟩)))))))
 refine codeAny_call_builtin_at (Code.quiet_builtin _ (by decide +kernel)) entry_typeCall (wpAny_check_type_call_sub hC ?_)
 show wpAny _ _ (Builtin.«type.__call__» ⟨Value.ref C :: rest, []⟩) _ _ _
 (unfold Builtin.«type.__call__»)
 refine wpAny_ite_false rfl ?_
 refine wpAny_bind (wpAny_bind (wpAny_bind (wpAny_load' hC (wpAny_pure (wpAny_pure (wpAny_ite_false rfl (wpAny_bind (wpAny_madeBy_exc hC (wpAny_bind (wpAny_pure (wpAny_bind (wpAny_holding (wpAny_call ?_)))))))))))))
 have F := F.excBase_ValueError
 have hB : bmV.contains (Value.type "ValueError") = true := by decide +kernel
 refine codeAny_call_builtin_code (Code.quiet_builtin _ F.quiet) (wpAny_check_new_subU F hB T hC (codeAny_exc_new_subU F hB F T hC ?_ hr))
 have kk : ∀ b o, h.get? b = some o -> ((h.push (Zas rest)).push (Zay C h.objs.size)).get? b = some o := fun b o e => Heap.get?_push_of_some _ (Heap.get?_push_of_some _ e)
 have hC₁ := kk _ _ hC
 have hget : ((h.push (Zas rest)).push (Zay C h.objs.size)).get? (h.objs.size + 1) = some (Zay C h.objs.size) := Heap.get?_push_at (by simp) rfl
 have J : PySem.W.InstAt ((h.push (Zas rest)).push (Zay C h.objs.size)) (h.objs.size + 1) (Zay C h.objs.size) C none := ⟨hget, rfl, rfl, trivial⟩
 show wpAny _ _ _ _ _ _
 refine wpAny_bind (wpAny_bind (wpAny_bind (wpAny_loadPart_at hget (wpAny_pure (wpAny_isSubtype_exc hC₁ ?_)))))
 rw [show (Value.ref C :: bm).contains (Value.ref C) = true by simp]
 refine wpAny_ite_false rfl (wpAny_bind (wpAny_holding ?_))
 refine wpAny_bind (wpAny_bind (PySem.W.Looks.here J.type (PySem.W.Looks.here (PySem.W.looks_findIn (hK.keeps kk) hi) (wpAny_holding (wpAny_bind (wpAny_of_eq (F.init.bind _) (wpAny_bind ?_)))))))
 refine Zhe (vs := #[.ref h.objs.size, .none, .none, .none, .bool false, .none]) X (hK.keeps kk) hget rfl rfl rfl hr ?_
 refine wpAny_pure (wpAny_ite_false rfl (wpAny_pure ?_))
 have z : ((h.push (Zas rest)).push (Zay C h.objs.size)).objs.size = h.objs.size + 2 := by simp
 rw [z]
 exact hq
theorem ZlJ {M : Model} {s : Shared} {env : Env} {y : Sem Value} {Q : Flow -> Shared -> Prop} (hh : A.handled = none)
 (hx : wpAny M A y (fun v s₁ => ∃ (K : Fg) (C e : Addr) (oe : Obj) (vs : Array Value), XC K C /\ K.In s₁.heap /\ v = .ref e /\ s₁.heap.get? e = some oe /\ oe.cls = .ref C /\ oe.data = .fields vs /\ vs[1]? = some .none /\ E (.ref e) s₁) E s) :
 wpAny M A (raiseStmt env (some y) none) Q E s := by
 unfold raiseStmt
 refine wpAny_bind (thn hx fun v s₁ ⟨K, C, e, oe, vs, X, hK, hv, he, hc, hd, h1, q⟩ => ?_)
 subst hv
 obtain ⟨nm, q', N, bs, bm, sn, sub, ab, col, dd, k0, k1, k2, k3, k5, lk, tl, tv⟩ := X.obj
 have hC := hK _ _ lk
 have hbe : (Value.ref C :: bm).contains (.type "BaseException") = true := by rw [List.contains_cons, ZfU (by decide +kernel) tv, Bool.or_true]
 (obtain ⟨hp, g, d, tk, os⟩ := s₁)
 obtain ⟨oc, odx, oda, osl⟩ := oe
 have hc : oc = .ref C := hc
 have hd : oda = .fields vs := hd
 subst hc hd
 refine wpAny_bind (wpAny_pure (wpAny_bind (wpAny_holding ?_)))
 unfold excFromValue
 refine wpAny_bind ?_
 unfold isExcClass
 refine wpAny_bind ?_
 refine wpAny_bind (wpAny_loadPart_at he (wpAny_pure (wpAny_ite_false rfl (wpAny_pure (wpAny_ite_false rfl (wpAny_bind ?_))))))
 refine wpAny_bind (wpAny_bind (wpAny_loadPart_at he (wpAny_pure (wpAny_isSubtype_exc hC ?_))))
 rw [hbe]
 refine wpAny_ite_true rfl (wpAny_pure (wpAny_bind (wpAny_bind (wpAny_loadPart_at he (wpAny_pure (wpAny_ite_false rfl (wpAny_bind ?_)))))))
 unfold raisedInstance
 refine wpAny_bind (wpAny_bind (wpAny_loadPart_at he (wpAny_pure (wpAny_bind (wpAny_bind (wpAny_loadPart_at hC (wpAny_pure ?_)))))))
 refine wpAny_ite_true rfl (wpAny_pure (wpAny_bind ?_))
 unfold setFlight
 refine wpAny_bind (wpAny_field he rfl h1 (wpAny_ite_false rfl (wpAny_pure ?_)))
 exact wpAny_raiseNew_none hh q
end
end L2
namespace L2
open PySem PySem.Spec PyProof.Rows
section
variable {prog : Program} {w : World} {A : Around} {E : Value -> Shared -> Prop} {K : Fg} {C f a : Addr} {h : Heap} {g : Array GenState} {d : Drawn} {t : Nat} {os : OsState} {rest : List Value} {oe : Obj} {od : Option Obj} {name : Str} {v : Value}
theorem ZhG : bmV.contains (.type "BaseException") = true := by decide +kernel
theorem ZlK : bmV.contains (.type "object") = true := by decide +kernel
theorem ZmI : builtinKind "BaseException.__getattribute__" = some Manifest.AttrKind.slot := by decide +kernel
theorem ZlL : splitId "BaseException.__getattribute__" = some ("BaseException", "__getattribute__") := by decide +kernel
theorem Ziv {M : Model} {s : Shared} {nv : Value} {Q : Unit -> Shared -> Prop} (sub : PySem.W.Looks M s.heap (isInstance (.ref a) (.type "BaseException")) true) (hq : Q () s) : wpAny M A (checkBuiltinCall "BaseException.__getattribute__" ⟨[.ref a, nv], []⟩) Q E s :=
 (@PySem.W.check_slot M A E s "BaseException.__getattribute__" "BaseException" "__getattribute__" (.ref a) [nv] [] Q ZmI ZlL sub) (F.args_bexc_ga (.ref a) nv) hq
theorem XC.cls (X : XC K C) : ∃ cd bm, PySem.W.clsIn K C = some cd /\ cd.mro = .ref C :: bm /\ Za2 bm = true /\ cd.hasDict = true := by
 obtain ⟨nm, q, N, bs, bm, sn, sub, ab, col, dd, k0, k1, k2, k3, k5, lk, tl, tv⟩ := X.obj
 exact ⟨_, bm, by unfold PySem.W.clsIn; rw [lk], rfl, tv, rfl⟩
theorem XC.sub (X : XC K C) {n : String} (hn : bmV.contains (.type n) = true) : PySem.W.mroIn K C (.type n) = some true := by
 obtain ⟨cd, bm, h1, h2, h3, _⟩ := X.cls
 unfold PySem.W.mroIn
 rw [h1]
 show (if cd.mro.isEmpty = true then none else some (cd.mro.contains (.type n))) = _
 rw [h2, if_neg (by simp), List.contains_cons, ZfU hn h3, Bool.or_true]
theorem Zqb {tk : Tok} {R : Result -> Shared -> Prop} (X : XC K C) (hK : K.In h) (J : PySem.W.InstAt h a oe C od) (hf : PySem.W.findObj K C od name = some (.value v)) (hr : R (.ok (.ret v)) ⟨h, g, d, t, os⟩) :
 codeAny (model prog w) A (.call (.builtin "BaseException.__getattribute__") ⟨[.ref a, .str name tk], []⟩) R ⟨h, g, d, t, os⟩ := by
 have FA := F.attrBase_ValueError
 have sub : PySem.W.Looks (model prog w) h (isInstance (.ref a) (.type "BaseException")) true := PySem.W.Looks.andThen J.type (PySem.W.looks_mroIn hK (X.sub ZhG))
 refine codeAny_call_builtin FA.ga.plain F.entry_bexc_ga ?_
 refine Ziv sub ?_
 (unfold Builtin.«object.__getattribute__»)
 refine wpAny_bind (wpAny_of_eq (a := (Value.ref a, [Value.str name tk])) rfl ?_)
 refine wpAny_bind (wpAny_pure (wpAny_bind (PySem.W.Looks.at J.type (wpAny_bind (PySem.W.Looks.at (PySem.W.looks_find hK J hf) (wpAny_pure hr))))))
theorem Zqc {tk : Tok} {R : Result -> Shared -> Prop} (X : XC K C) (hK : K.In h) (J : PySem.W.InstAt h a oe C od) (ha : PySem.W.findIn K (.ref C) "__class__" = some (some (.builtin "object.__class__")))
 (hn : PySem.W.specialIn K (.builtin "object.__class__") "__get__" = some (some (.builtin "getset_descriptor.__get__"))) (htk : PySem.W.takesIn K (.builtin "object.__class__") = some true) (hr : R (.ok (.ret (.ref C))) ⟨h, g, d, t, os⟩) :
 codeAny (model prog w) A (.call (.builtin "BaseException.__getattribute__") ⟨[.ref a, .str (Str.ofString "__class__") tk], []⟩) R ⟨h, g, d, t, os⟩ := by
 have FA := F.attrBase_ValueError
 obtain ⟨cd, bm, h1, h2, h3, _⟩ := X.cls
 have hf : PySem.W.findObj K C od "__class__" = some (.bind (.builtin "getset_descriptor.__get__") (.builtin "object.__class__")) := by
  unfold PySem.W.findObj
  rw [h1, ha]
  simp only [Option.bind_some]
  rw [hn]
  simp only [Option.bind_some]
  rw [htk]
  rfl
 have sub : PySem.W.Looks (model prog w) h (isInstance (.ref a) (.type "BaseException")) true := PySem.W.Looks.andThen J.type (PySem.W.looks_mroIn hK (X.sub ZhG))
 refine codeAny_call_builtin FA.ga.plain F.entry_bexc_ga ?_
 refine Ziv sub ?_
 (unfold Builtin.«object.__getattribute__»)
 refine wpAny_bind (wpAny_of_eq (a := (Value.ref a, [Value.str (Str.ofString "__class__") tk])) rfl ?_)
 refine wpAny_bind (wpAny_pure (wpAny_bind (PySem.W.Looks.at J.type (wpAny_bind (PySem.W.Looks.at (PySem.W.looks_find hK J hf) ?_)))))
 exact wpAny_bind (wpAny_holding (wpAny_call (PySem.W.class_get hK J (X.sub ZlK) (wpAny_pure hr))))
theorem ZnH {tk : Tok} {fill expr : Bool} {Q : Value -> Shared -> Prop} (X : XC K C) (hK : K.In h) (J : PySem.W.InstAt h a oe C od) (hg : PySem.W.findIn K (.ref C) (Str.ofString "__getattr__") = some none) (hv : PySem.W.handedIn v = true)
 (hr : ∀ R : Result -> Shared -> Prop, R (.ok (.ret v)) ⟨h, g, d, t, os⟩ -> codeAny (model prog w) A (.call (.builtin "BaseException.__getattribute__") ⟨[.ref a, .str name tk], []⟩) R ⟨h, g, d, t, os⟩) (hq : Q v ⟨h, g, d, t, os⟩) :
 wpAny (model prog w) A (getAttrBy (.ref a) (.str name tk) fill expr) Q E ⟨h, g, d, t, os⟩ := by
 have FA := F.attrBase_ValueError
 (have hx0 : (expr && onTheHeap (Value.builtin "BaseException.__getattribute__")) = false := by cases expr <;> rfl)
 unfold getAttrBy
 refine wpAny_holding (wpAny_bind (PySem.W.Looks.at J.type (wpAny_bind (PySem.W.Looks.at (PySem.W.looks_findIn hK X.ga) (wpAny_ite_false (by show decide ((true && (Value.builtin "BaseException.__getattribute__" == Value.builtin "object.__getattribute__")) = true) = false; decide +kernel) ?_)))))
 unfold getAttrByItsOwn
 refine wpAny_bind (?_ : wpAny _ _ (hookBefore _) _ _ _)
 unfold hookBefore
 refine wpAny_ite_true rfl (PySem.W.Looks.at (PySem.W.looks_findIn hK hg) (wpAny_bind (wpAny_attempt (wpAny_holding ?_))))
 unfold callGetattribute
 rw [hx0]
 refine wpAny_ite_false rfl ?_
 unfold boundAndCalled
 refine wpAny_bind (wpAny_of_eq (FA.ga.bind _) (wpAny_call (hr _ ?_)))
 exact PySem.W.handed_on hv hq
theorem Zom {expr : Bool} {Q : Value -> Shared -> Prop} {s : Shared} (X : XC K C) (hK : K.In s.heap) (J : PySem.W.InstAt s.heap a oe C od) (hg : PySem.W.findIn K (.ref C) (Str.ofString "__getattr__") = some none) (hv : PySem.W.handedIn v = true)
 (hf : PySem.W.findObj K C od name = some (.value v)) (hq : Q v { s with toks := s.toks + 1 }) : wpAny (model prog w) A (getAttr (.ref a) name expr) Q E s := by
 obtain ⟨h, g, d, t, os⟩ := s
 unfold getAttr
 exact wpAny_bind (wpAny_mkText (ZnH X hK J hg hv (fun R hr => Zqb X hK J hf hr) hq))
theorem ZmJ {Q : Option Value -> Shared -> Prop} {s : Shared} (X : XC K C) (hK : K.In s.heap) (J : PySem.W.InstAt s.heap a oe C od) (hg : PySem.W.findIn K (.ref C) (Str.ofString "__getattr__") = some none) (ha : PySem.W.findIn K (.ref C) "__class__" = some (some (.builtin "object.__class__")))
 (hn : PySem.W.specialIn K (.builtin "object.__class__") "__get__" = some (some (.builtin "getset_descriptor.__get__"))) (htk : PySem.W.takesIn K (.builtin "object.__class__") = some true) (hq : Q (some (.ref C)) { s with toks := s.toks + 1 }) :
 wpAny (model prog w) A (getAttr? (.ref a) (Str.ofString "__class__")) Q E s := by
 obtain ⟨h, g, d, t, os⟩ := s
 unfold getAttr?
 (refine wpAny_bind (wpAny_mkText ?_))
 unfold getAttrBy?
 exact wpAny_bind (wpAny_attempt (ZnH (v := .ref C) X hK J hg rfl (fun R hr => Zqc X hK J ha hn htk hr) (wpAny_pure hq)))
structure XD (K : Fg) (C : Addr) : Prop extends XC K C where
 hk : PySem.W.findIn K (.ref C) (Str.ofString "__getattr__") = some none
 hc : PySem.W.findIn K (.ref C) "__class__" = some (some (.builtin "object.__class__"))
 hn : PySem.W.specialIn K (.builtin "object.__class__") "__get__" = some (some (.builtin "getset_descriptor.__get__"))
 ht : PySem.W.takesIn K (.builtin "object.__class__") = some true
theorem ZmK (X : XD K C) : PySem.W.KitX K (.ref a) (.ref C) fun h => PySem.W.InstAt h a oe C od where
 ty := fun M h hK J => J.type
 it := fun M h hK J => by
  obtain ⟨nm, q, N, bs, bm, sn, sub, ab, col, dd, k0, k1, k2, k3, k5, lk, tl, tv⟩ := X.obj
  exact fun A Q E s k hq => wpAny_bind (wpAny_loadPart (k _ _ (hK _ _ lk)) (wpAny_pure hq))
 ne := fun h tp dd its n sl hK e => by
  obtain ⟨nm, q, N, bs, bm, sn, sub, ab, col, dd, k0, k1, k2, k3, k5, lk, tl, tv⟩ := X.obj
  refine Bool.eq_false_iff.mpr fun z => ?_
  have := Value.ref.inj (beq_iff_eq.mp z)
  subst this
  have := congrArg (fun o => match o with | some (Obj.mk _ _ (.cls _) _) => true | _ => false) ((hK _ _ lk).symm.trans e)
  exact absurd this (by simp)
 ca := fun hK J hq => ZmJ X.toXC hK J X.hk X.hc X.hn X.ht hq
theorem osaX {s : Shared} {R : Result -> Shared -> Prop} {tk : Tok} (X : XC K C) (hK : K.In s.heap) (J : PySem.W.InstAt s.heap a oe C od) (ht : PySem.W.takerIn K C name = some none)
 (hs : ∀ b : Bool, wpAny (model prog w) A.in1 (Builtin.ObjectAttr.storeInOwnDict (.ref a) (.ref C) (.str name tk) name v b) (fun fin s' => match fin with
  | .done f => R (.ok f) s'
  | .again c' => c'.quiet = true /\ codeAny (model prog w) A c' R s') (fun e s' => R (.error e) s') s) :
 codeAny (model prog w) A (.call (.builtin "object.__setattr__") ⟨[.ref a, .str name tk, v], []⟩) R s := by
 have SF := F.store_object
 obtain ⟨cd, bm, h1, h2, h3, _⟩ := X.cls
 have sub : PySem.W.Looks (model prog w) s.heap (isInstance (.ref a) (.type "object")) true := PySem.W.Looks.andThen J.type (PySem.W.looks_mroIn hK (X.sub ZlK))
 have hm : PySem.W.Looks (model prog w) s.heap (mroOf (.ref C)) cd.mro := PySem.W.Looks.andThen (PySem.W.looks_clsIn hK h1) PySem.W.Looks.now
 refine codeAny_call_builtin SF.slot.plain SF.entry ?_
 refine (@PySem.W.check_slot (model prog w) A.in1 _ s "object.__setattr__" "object" "__setattr__" (.ref a) [.str name tk, v] [] _ SF.kind SF.split sub) (SF.args (.ref a) (.str name tk) v) ?_
 rw [PySem.W.osa_eq, refuse_eq]
 refine wpAny_bind (wpAny_bind (PySem.W.Looks.here J.type (wpAny_bind (PySem.W.Looks.here hm ?_))))
 rw [h2, refuseLoop_ref, ZfV _ h3]
 refine wpAny_pure (wpAny_bind (PySem.W.Looks.here J.type ?_))
 unfold PySem.W.takerIn at ht
 obtain ⟨attr, e1, e2⟩ := Option.bind_eq_some_iff.mp ht
 refine wpAny_bind (PySem.W.Looks.here (PySem.W.looks_findIn hK e1) ?_)
 have L3 : PySem.W.Looks (model prog w) s.heap (Builtin.ObjectAttr.storeTaker? attr) none := by
  cases attr with
  | none => exact PySem.W.Looks.now
  | some x =>
   obtain ⟨b, hb, hz⟩ := Option.map_eq_some_iff.mp e2
   cases b with
   | true => cases hz
   | false => exact PySem.W.Looks.andThen (PySem.W.looks_takesIn hK hb) PySem.W.Looks.now
 exact wpAny_bind (PySem.W.Looks.here L3 (hs attr.isSome))
end
end L2
namespace L2
open PySem PySem.Spec PyProof.Rows
def GX (K : Fg) (n : Str) (C : Addr) : Prop := PySem.W.nsIn K mainGlobals n = some (some (.ref C)) /\ (PySem.W.clsIn K C).map (·.name) = some n
def bmOf (K : Fg) : List Str -> List Value -> Prop
 | [], bm => bm = bmV
 | n :: ns, bm => ∃ L bm', bm = .ref L :: bm' /\ GX K n L /\ bmOf K ns bm'
noncomputable def Zg0 : List Str := ["row", "number", "length", "numbers"]
structure XN (K : Fg) (ns : List Str) (C : Addr) : Prop extends XD K C where
 nms : ∃ cd, PySem.W.clsIn K C = some cd /\ bmOf K ns cd.mro
 nof : ∀ f ∈ Zg0, Zee K C f
theorem GX.ne {K : Fg} {n c : Str} {C D : Addr} (h : GX K n C) (h' : GX K c D) : (Value.ref D == Value.ref C) = decide (c = n) := by
 by_cases e : c = n
 . subst e
   have := h.1.symm.trans h'.1
   cases this
   simp
 . rw [decide_eq_false e]
   refine Bool.eq_false_iff.mpr fun z => e ?_
   have z := Value.ref.inj (beq_iff_eq.mp z)
   subst z
   have := h'.2.symm.trans h.2
   exact Option.some.inj this
theorem bmOf.has {K : Fg} {c : Str} {D : Addr} (h' : GX K c D) : ∀ {ns : List Str} {bm : List Value}, bmOf K ns bm -> bm.contains (.ref D) = decide (c ∈ ns)
 | [], bm, h => by
  rw [show bm = bmV from h]
  rfl
 | n :: ns, bm, h => by
  obtain ⟨L, bm', rfl, g, r⟩ := h
  rw [List.contains_cons, bmOf.has h' r, GX.ne g h']
  by_cases e : c = n
  . simp [e]
  . simp [e]
theorem XN.isa {K : Fg} {ns : List Str} {c : Str} {C D : Addr} (h : XN K ns C) (h' : GX K c D) (ht : PySem.W.typeIn K (.ref D) = some (.type "type")) : PySem.W.kitOne K (.ref C) (.ref D) = some (decide (c ∈ ns)) := by
 obtain ⟨cd, h1, h2⟩ := h.nms
 obtain ⟨cd', bm, q1, q2, q3, _⟩ := h.toXC.cls
 rw [h1] at q1
 cases q1
 have hm : PySem.W.mroIn K C (.ref D) = some (decide (c ∈ ns)) := by
  unfold PySem.W.mroIn
  rw [h1]
  show (if cd.mro.isEmpty = true then none else some (cd.mro.contains (.ref D))) = _
  rw [if_neg (by rw [q2]; simp), bmOf.has h' h2]
 unfold PySem.W.kitOne
 have hs : (PySem.W.clsIn K D).isSome = true := by
  cases e : PySem.W.clsIn K D with
  | none => have := h'.2; rw [e] at this; cases this
  | some x => rfl
 split
 . rename_i e
   have := Value.ref.inj (beq_iff_eq.mp e)
   subst this
   have : cd.mro.contains (.ref C) = true := by rw [q2]; simp
   rw [bmOf.has h' h2] at this
   rw [this]
 . unfold PySem.W.kitCls
   dsimp only
   rw [if_pos (by rw [hs, ht]; simp)]
   exact hm
theorem XN.isaB {K : Fg} {ns : List Str} {n : String} {C : Addr} (h : XN K ns C) (hb : bmV.contains (.type n) = true) (hm : PySem.W.kitMeta n = true) : PySem.W.kitOne K (.ref C) (.type n) = some true := by
 unfold PySem.W.kitOne
 rw [if_neg (by simp)]
 unfold PySem.W.kitCls
 dsimp only
 rw [if_pos hm]
 exact h.toXC.sub hb
section
variable {X : Cx} {pins : List (Addr × Obj)} {σ : St} {H : Hp} {s : Shared} {a C : Addr} {dx : Option Addr} {fr : Bool} {fs : List (Str × V)} {f : Str} {v : V} {A : Around} {E : Value -> Shared -> Prop}
theorem ZeE (I : Inv X pins σ H s) (e : H a = some (.exc C dx fr fs)) : ∃ (oe : Obj) (vs : Array Value) (od : Option Obj), s.heap.get? a = some oe /\ oe.cls = .ref C /\ oe.dict = dx /\ oe.data = .fields vs /\ vs.size = 6 /\ (fr = true -> vs[1]? = some .none) /\ PySem.W.InstAt s.heap a oe C od /\
 ∃ mA : Str -> Option Value, (∀ f, RelO (fs.lookup f) (mA f)) /\ PySem.Within mA (fs.map (·.1)) /\ (∀ name, (match od with | some o => PySem.W.lookIn name o | none => some none) = some (mA name)) /\
  ∀ d, dx = some d -> H d = some (.own a) /\ d ≠ a /\ s.heap.Ns1 d mA := by
 obtain ⟨l, ⟨oe, vs, e1, e2, e3, e4, e5, e6⟩, r⟩ := (show Zag X.prog X.w H s.heap a (.exc C dx fr fs) from I.hok a _ e)
 have nc : PySem.W.notCls oe = true := by unfold PySem.W.notCls; rw [e4]
 cases dx with
 | none =>
  have r : fs = [] := r
  subst r
  exact ⟨oe, vs, none, e1, e2, e3, e4, e5, e6, ⟨e1, e2, nc, by rw [e3]; trivial⟩, fun _ => none, fun _ => trivial, fun y h => absurd rfl h, fun _ => rfl, fun d h => nomatch h⟩
 | some d =>
  obtain ⟨r1, r2, mA, r3, r4, r5⟩ := r
  obtain ⟨od, ho, hl⟩ := Zim r3
  exact ⟨oe, vs, some od, e1, e2, e3, e4, e5, e6, ⟨e1, e2, nc, by rw [e3]; exact ho⟩, mA, r4, r5, hl, fun d' h => by cases h; exact ⟨r1, r2, r3⟩⟩
theorem ZjV {b : Bool} {Q : Value -> Shared -> Prop} (I : Inv X pins σ H s) (e : H a = some (.exc C dx fr fs)) (c : XD X.K C) (n : Zee X.K C f) (l : fs.lookup f = some v)
 (h : ∀ u s', Inv X pins σ H s' -> RelV v u -> Q u s') : wpAny (model X.prog X.w) A (getAttr (.ref a) f b) Q E s := by
 obtain ⟨oe, vs, od, e1, e2, e3, e4, e5, e6, J, mA, r1, r2, r3, r4⟩ := ZeE I e
 obtain ⟨u, hu, ru⟩ := RelO.some_of (v := v) (o := mA f) (by rw [<- l]; exact r1 f)
 refine Zom c.toXC I.kIn J c.hk (Zl9 ru) ?_ (h u _ (I.tok _) ru)
 obtain ⟨cd, bm, h1, h2, h3, h4⟩ := c.toXC.cls
 unfold PySem.W.findObj
 rw [h1, show PySem.W.findIn X.K (.ref C) f = some none from n]
 simp only [Option.bind_some]
 have : PySem.W.ownOf cd od f = some (mA f) := by
  unfold PySem.W.ownOf
  rw [if_pos h4]
  have := r3 f
  cases od with
  | none => exact this
  | some o => exact this
 rw [this, hu]
 rfl
theorem ZkU {c : Value} {b : Bool} {Q : Value -> Shared -> Prop} (I : Inv X pins σ H s) (e : H a = some (.exc C dx fr fs)) (x : XD X.K C) (k : PySem.W.kitOne X.K (.ref C) c = some b) (h : ∀ tk, Q (.bool b) { s with toks := tk }) :
 wpAny (model X.prog X.w) A (call (.builtin "isinstance") [.ref a, c]) Q E s := by
 obtain ⟨oe, vs, od, e1, e2, e3, e4, e5, e6, J, _⟩ := ZeE I e
 exact PySem.W.kia_one (ZmK x) I.kIn J k (fun z => nomatch z) h
theorem ZjW {y : V} {u : Value} {Q : Unit -> Shared -> Prop} (I : Inv X pins σ H s) (e : H a = some (.exc C dx fr fs)) (c : XC X.K C) (n : Zee X.K C f) (hl : fs.length < 1000) (ry : RelV y u)
 (h : ∀ s' H' d', H' a = some (.exc C (some d') fr (putF f y fs)) -> (∀ b o, b ≠ a -> H b = some o -> H' b = some o) -> Inv X pins σ H' s' -> Q () s') : wpAny (model X.prog X.w) A (setAttr (.ref a) f u) Q E s := by
 obtain ⟨oe, vs, od, e1, e2, e3, e4, e5, e6, J, mA, r1, r2, r3, r4⟩ := ZeE I e
 have hz : (fs.map (·.1)).length <= sizeLine := by rw [List.length_map, sizeLine_eq]; omega
 obtain ⟨cd, bm, h1, h2, h3, h4⟩ := c.cls
 refine PySem.W.set_plain I.kIn J c.sa (osaX (s := { s with toks := s.toks + 1 }) c I.kIn J n.taker fun b => ?_)
 have rel : ∀ g, RelO ((putF f y fs).lookup g) (if g = f then some u else mA g) := fun g => by
  rw [ZgD]
  by_cases q : g = f
  . rw [if_pos q, if_pos q]; exact ry
  . rw [if_neg q, if_neg q]; exact r1 g
 have wi : PySem.Within (fun g => if g = f then some u else mA g) ((putF f y fs).map (·.1)) := fun g hg => by
  by_cases q : g = f
  . rw [q]; exact (ZfT f y fs).1
  . refine (ZfT f y fs).2 g (r2 g fun z => hg ?_)
    show (if g = f then some u else mA g) = none
    rw [if_neg q]; exact z
 have le : (putF f y fs).length <= 1000 := by have := ZgE f y fs; omega
 refine wpAny_bind (wpAny_pure (wpAny_bind (wpAny_bind (wpAny_loadPart e1 ?_))))
 rw [e2]
 refine wpAny_bind (PySem.W.Looks.here (s := { s with toks := s.toks + 1 }) (PySem.W.looks_clsIn I.kIn h1) ?_)
 rw [h4]
 cases dx with
 | some d =>
  obtain ⟨q1, q2, q3⟩ := r4 d rfl
  rw [e3]
  refine wpAny_pure (a := some d) (wpAny_bind (wpAny_pure (wpAny_bind ?_)))
  refine wpAny_nsSet1 (s := { s with toks := s.toks + 1 }) q3 fun h' hn2 hs2 => ?_
  obtain ⟨oD, esD, epD, hoD, hdD, hcD⟩ := hn2.count (PySem.Within.cons f u r2)
  refine wpAny_bind (wpAny_lookBehind hoD (by rw [hdD]; exact pastItsLine_dict (Nat.le_trans hcD (by rw [List.length_cons]; omega))) ?_)
  refine wpAny_pure (h _ _ d Zv (fun b o hb q => by rw [Zt hb]; exact q) (I.write (t' := s.toks + 2) (x := a) (e := d) (o := .exc C (some d) fr (putF f y fs)) (h' := h') (by rw [e]; exact True.intro) (.inr q1) (fun b q hb z => (hs2.2 b hb).trans z) ⟨oD, hoD⟩ ?_))
  exact ⟨le, ⟨oe, vs, (hs2.2 _ (Ne.symm q2)).trans e1, e2, e3, e4, e5, e6⟩, by rw [Zt q2]; exact q1, q2, _, hn2, rel, wi⟩
 | none =>
  have hfs : fs = [] := by
   have : Zag X.prog X.w H s.heap a (.exc C none fr fs) := I.hok a _ e
   exact this.2.2
  subst hfs
  rw [e3]
  refine wpAny_ite_false rfl ?_
  rw [e4]
  refine wpAny_bind (wpAny_alloc (wpAny_bind (wpAny_update (s := { s with heap := s.heap.push PySem.W.emptyDict, toks := s.toks + 1 }) (Heap.get?_push_of_some _ e1) ?_)))
  have nd : s.heap.objs.size ≠ a := Nat.ne_of_gt (Heap.lt_size e1)
  have g1 : ((s.heap.push PySem.W.emptyDict).update a fun o => { o with dict := some s.heap.objs.size }).get? a = some { oe with dict := some s.heap.objs.size } := Heap.get?_update_self _ (Heap.get?_push_of_some _ e1) (Obj.isFreed_of_fields (vs := vs) e4)
  have g2 : ((s.heap.push PySem.W.emptyDict).update a fun o => { o with dict := some s.heap.objs.size }).get? s.heap.objs.size = some PySem.W.emptyDict := (Heap.get?_update_other _ _ (Ne.symm nd)).trans (Heap.get?_push_size _ rfl)
  have q3 : Heap.Ns1 ((s.heap.push PySem.W.emptyDict).update a fun o => { o with dict := some s.heap.objs.size }) s.heap.objs.size (fun _ => none) := ⟨_, #[], _, g2, rfl, fun e he => absurd he (by simp), by unfold UniqKeys; simp, fun _ => rfl⟩
  refine wpAny_pure (a := some s.heap.objs.size) (wpAny_bind (wpAny_pure (wpAny_bind ?_)))
  refine wpAny_nsSet1 (s := ⟨_, s.gens, s.drawn, s.toks + 1, s.os⟩) q3 fun h' hn2 hs2 => ?_
  obtain ⟨oD, esD, epD, hoD, hdD, hcD⟩ := hn2.count (PySem.Within.cons (m := fun _ => none) (ns := []) f u fun y h => absurd rfl h)
  refine wpAny_bind (wpAny_lookBehind hoD (by rw [hdD]; exact pastItsLine_dict (Nat.le_trans hcD (by rw [List.length_cons]; decide))) ?_)
  have hn : H s.heap.objs.size = none := I.hok.fresh (Nat.le_refl _)
  have g3 : h'.get? a = some { oe with dict := some s.heap.objs.size } := (hs2.2 _ (Ne.symm nd)).trans g1
  have kk : ∀ b o, b ≠ a -> s.heap.get? b = some o -> h'.get? b = some o := fun b o hb q => by
   have : b ≠ s.heap.objs.size := Nat.ne_of_lt (Heap.lt_size q)
   exact (hs2.2 b this).trans ((Heap.get?_update_other _ _ (Ne.symm hb)).trans (Heap.get?_push_of_some _ q))
  have I1 := I.laid (a := s.heap.objs.size) (o := .own a) (t' := s.toks + 1) (h' := s.heap.push PySem.W.emptyDict) (fun b u q => Heap.get?_push_of_some _ q) (Nat.le_refl _) ⟨_, Heap.get?_push_size _ rfl⟩
  have e1' : upd H s.heap.objs.size (.own a) a = some (.exc C none fr []) := by rw [Zt (Ne.symm nd)]; exact e
  have I2 := I1.write (t' := s.toks + 1) (x := a) (e := a) (o := .exc C (some s.heap.objs.size) fr []) (h' := (s.heap.push PySem.W.emptyDict).update a fun o => { o with dict := some s.heap.objs.size }) (by rw [e1']; exact True.intro) (.inl rfl)
   (fun b q hb z => (Heap.get?_update_other _ _ (Ne.symm hb)).trans z) ⟨_, g1⟩ ⟨by simp, ⟨_, vs, g1, e2, rfl, e4, e5, e6⟩, by rw [Zt nd]; exact Zv, nd, _, q3, fun _ => trivial, fun y h => absurd rfl h⟩
  have e2' : upd (upd H s.heap.objs.size (.own a)) a (.exc C (some s.heap.objs.size) fr []) s.heap.objs.size = some (.own a) := by rw [Zt nd]; exact Zv
  have I3 := I2.write (t' := s.toks + 2) (x := a) (e := s.heap.objs.size) (o := .exc C (some s.heap.objs.size) fr (putF f y [])) (h' := h') (by rw [Zv]; exact True.intro) (.inr e2')
   (fun b q hb z => (hs2.2 b hb).trans z) ⟨oD, hoD⟩ ⟨le, ⟨_, vs, g3, e2, rfl, e4, e5, e6⟩, by rw [Zt nd]; exact e2', nd, _, hn2, fun g => ?_, fun g hg => ?_⟩
  . exact wpAny_pure (h _ _ s.heap.objs.size Zv (fun b o hb q => by rw [Zt hb, Zt hb, Zt (ZaF q hn)]; exact q) I3)
  . have := rel g
    have hz : mA g = none := by
     have := r1 g
     cases q : mA g with
     | none => rfl
     | some z => rw [q] at this; exact this.elim
    rw [hz] at this
    exact this
  . refine wi g fun z => hg ?_
    have z : (if g = f then some u else mA g) = none := z
    show (if g = f then some u else none) = none
    by_cases q : g = f
    . rw [if_pos q] at z; cases z
    . rw [if_neg q]
end
end L2
namespace L2
open PySem PySem.Spec PyProof.Rows
section
variable {X : Cx} {pins : List (Addr × Obj)} {σ : St} {H : Hp} {s : Shared} {a C f : Addr} {k : Nat} {fd : FuncData} {ps : List Str} {sp : Sp} {x : Str} {p pos apos : Pos} {e o : Expr} {es : List Expr} {t : TA}
theorem Inv.madeX {us : List Value} (I : Inv X pins σ H s) : Inv X pins σ (upd H (s.heap.objs.size + 1) (.exc C none true [])) { s with heap := (s.heap.push (Zas us)).push (Zay C s.heap.objs.size) } := by
 have I1 : Inv X pins σ H { s with heap := s.heap.push (Zas us) } := I.kept (t' := s.toks) fun b u e => Heap.get?_push_of_some _ e
 have hget : ((s.heap.push (Zas us)).push (Zay C s.heap.objs.size)).get? (s.heap.objs.size + 1) = some (Zay C s.heap.objs.size) := Heap.get?_push_at (by simp) rfl
 exact I1.laid (a := s.heap.objs.size + 1) (o := .exc C none true []) (t' := s.toks) (h' := (s.heap.push (Zas us)).push (Zay C s.heap.objs.size)) (fun b u e => Heap.get?_push_of_some _ e) (by simp) ⟨by simp, ⟨_, _, hget, rfl, rfl, rfl, rfl, fun _ => rfl⟩, rfl⟩
def ZrJ (C : Addr) (sp : Sp) (dvs : List V) (t : TA) : TE := fun σ H Q => t σ H fun vs H1 => vs.length <= sizeLine /\ ∀ x, H1 x = none -> sp (.ref x :: (vs ++ dvs)) (upd H1 x (.exc C none true [])) (fun v H2 => v = .non /\ Q (.ref x) H2) E0
theorem ZmL {Q : VK} {us ds : List Value} {vs dvs : List V} (M : XC X.K C) (hi : PySem.W.findIn X.K (.ref C) (Str.ofString "__init__") = some (some (.ref f))) (hf : PySem.W.typeIn X.K (.ref f) = some (.type "function")) (F : FnOk X.prog X.w X.K X.mg X.base CX0 k f fd ps sp) (hr : Room (k + 1) X.A)
 (hb : Binds X.K fd ps ds) (hd : Vals dvs ds) (I : Inv X pins σ H s) (r : Vals vs us) (hl : vs.length <= sizeLine) (h : ∀ x, H x = none -> sp (.ref x :: (vs ++ dvs)) (upd H x (.exc C none true [])) (fun v H2 => v = .non /\ Q (.ref x) H2) E0) :
 wpAny (model X.prog X.w) X.A (call (.ref C) us) (EP X pins σ Q) X.xe s := by
 have hq := h (s.heap.objs.size + 1) (I.hok.fresh (Nat.le_succ _))
 have I2 := Inv.madeX (C := C) (us := us) I
 have r2 : Vals (V.ref (s.heap.objs.size + 1) :: (vs ++ dvs)) (Value.ref (s.heap.objs.size + 1) :: (us ++ ds)) := .cons rfl (r.append hd)
 have hl2 : (Value.ref (s.heap.objs.size + 1) :: us ++ ds).length = ps.length := by
  have e := r2.length
  rw [F.len _ _ _ _ hq] at e
  exact e.symm
 refine ZlH (h := s.heap) (g := s.gens) (d := s.drawn) (t := s.toks) (os := s.os) M I.kIn hi hf (by rw [<- r.length]; exact hl) (wpAny_call (codeAny_mono (F.run _ X.stack _ _ ⟨Value.ref (s.heap.objs.size + 1) :: us, []⟩ (Value.ref (s.heap.objs.size + 1) :: (us ++ ds)) _ _ E0 (hr.make C us [])
  (I2.env0.make C us []) (hb _ (Value.ref (s.heap.objs.size + 1) :: us) I2.kIn hl2) r2 hq) fun r s' hq' => ?_))
 cases r with
 | error e => exact False.elim hq'
 | ok fl =>
  cases fl with
  | ret u =>
   obtain ⟨v, H', I3, rv, ev, q3⟩ := I2.after hq'
   subst ev
   exact ⟨rv, ⟨V.ref (s.heap.objs.size + 1), H', I3, rfl, q3⟩⟩
  | next => exact False.elim hq'
  | brk => exact False.elim hq'
  | cont => exact False.elim hq'
theorem Zon {ds : List Value} {dvs : List V} (M : XC X.K C) (hi : PySem.W.findIn X.K (.ref C) (Str.ofString "__init__") = some (some (.ref f))) (hf : PySem.W.typeIn X.K (.ref f) = some (.type "function")) (F : FnOk X.prog X.w X.K X.mg X.base CX0 k f fd ps sp) (hr : Room (k + 1) X.A) (hg : Gl X x) (hm : X.mg x = some (.ref C))
 (hb : Binds X.K fd ps ds) (hd : Vals dvs ds) (ha : PA X (e :: es) t) (hdb : (x == ("__debug__" : Str)) = false := by decide) (he : starEach (e :: es) X.env = (false, eval e X.env) :: starEach es X.env := by rfl) (hpl : (backTo pos (starEach es X.env)).any (·.1) = false := by rfl) :
 PE X (.Call (.Name x p) (e :: es) [] pos) (ZrJ C sp dvs t) := by
 intro pins s σ H Q I h
 refine wpAny_Call_Name_kw (ZeD I hg hm ?_ hdb)
 refine PySem.W.callWith_K (h₀ := X.base) I.ok.mod.kin M.kp (thn (ha pos pins s σ H _ I h) fun us s1 ⟨vs, H1, I1, r, l, q⟩ => ⟨I1.kIn, ?_⟩) he hpl
 exact ZmL M hi hf F hr hb hd I1 r l q
theorem Zoo (M : XC X.K C) (hi : PySem.W.findIn X.K (.ref C) (Str.ofString "__init__") = some (some (.builtin "ValueError.__init__"))) (hg : Gl X x) (hm : X.mg x = some (.ref C)) (hdb : (x == ("__debug__" : Str)) = false := by decide) :
 PE X (.Call (.Name x p) [] [] pos) (fun σ H Q => ∀ a, H a = none -> Q (.ref a) (upd H a (.exc C none true []))) := by
 intro pins s σ H Q I h
 refine wpAny_Call_Name_kw (ZeD I hg hm ?_ hdb)
 refine PySem.W.callWith_K0 I.kIn M.kp ?_
 refine ZlI (h := s.heap) (g := s.gens) (d := s.drawn) (t := s.toks) (os := s.os) M I.kIn hi (by simp) ?_
 have I2 := Inv.madeX (C := C) (us := []) I
 have I3 : Inv X pins σ (upd H (s.heap.objs.size + 1) (.exc C none true [])) { s with heap := ((s.heap.push (Zas [])).push (Zay C s.heap.objs.size)).push (Zas []) } := I2.kept (t' := s.toks) fun b u e => Heap.get?_push_of_some _ e
 have hget : (((s.heap.push (Zas [])).push (Zay C s.heap.objs.size)).push (Zas [])).get? (s.heap.objs.size + 1) = some (Zay C s.heap.objs.size) := Heap.get?_push_of_some _ (Heap.get?_push_at (by simp) rfl)
 have I4 := I3.excSet (fr' := true) (f := fun x => x.setIfInBounds 0 (.ref (s.heap.objs.size + 2))) Zv hget rfl rfl (fun _ => rfl)
 rw [Zkq] at I4
 exact ⟨.ref (s.heap.objs.size + 1), _, I4, rfl, h _ (I.hok.fresh (Nat.le_succ _))⟩
structure XI (K : Fg) (L : Addr) : Prop where
 sp : PySem.W.specialIn K (.ref L) (Str.ofString "__getattribute__") = some (some (.builtin "type.__getattribute__"))
 rd : PySem.W.readsIn K L (.type "type") = true
 fd : PySem.W.findCls K (.ref L) (.type "type") (Str.ofString "__init__") = some (.val (.builtin "ValueError.__init__"))
def Zqd (K : Fg) (t : TA) : TE := fun σ H Q => t σ H fun vs H1 => ∃ a v C dx fr fs, vs = [.ref a, v] /\ XC K C /\ H1 a = some (.exc C dx fr fs) /\ Q .non H1
theorem ZmM {pl : Sem Bool} {L : Addr} (M : XI X.K L) (hg : Gl X x) (hm : X.mg x = some (.ref L)) (ha : PA X (e :: es) t) (hdb : (x == ("__debug__" : Str)) = false := by decide)
 (hst : starEach (e :: es) X.env = (false, eval e X.env) :: starEach es X.env := by rfl) (hpl : (backTo pos (starEach es X.env)).any (·.1) = false := by rfl)
 (ht : eval (.Call (.Attribute (.Name x p) "__init__" apos) (e :: es) [] pos) X.env = (do
  let ov <- eval (.Name x p) X.env
  standAt apos.atName
  let (f, first) <- holding [ov] (getMethod ov "__init__" pl)
  callWith pos f first (backTo pos (starEach (e :: es) X.env)) (backToKw pos (keywordEach [] X.env))) := by rfl) :
 PE X (.Call (.Attribute (.Name x p) "__init__" apos) (e :: es) [] pos) (Zqd X.K t) := by
 intro pins s σ H Q I h
 refine PySem.W.methodCall_KW (pl := pl) (ZeD I hg hm ?_ hdb) ht
 refine PySem.W.method_cls I.kIn M.sp (PySem.W.cls_value I.kIn M.rd M.fd (by decide +kernel) ?_)
 refine PyProof.Rows.callWith_builtin1 (thn (ha pos pins _ σ H _ (I.tok _) h) fun us s1 ⟨vs, H1, I1, r1, a, v, C, dx, fr, fs, ev, M1, ea, q⟩ => ?_) hst hpl
 subst ev
 obtain ⟨u, rfl⟩ : ∃ u, us = [.ref a, u] := by
  cases r1 with
  | cons r r1 =>
   cases r1 with
   | cons r' r1 =>
    cases r1
    exact ⟨_, by rw [show _ = Value.ref a from r]⟩
 obtain ⟨oe, ws, od, e1, e2, e3, e4, e5, e6, J, _⟩ := ZeE I1 ea
 refine Zhe (h := s1.heap) (g := s1.gens) (d := s1.drawn) (t := s1.toks) (os := s1.os) M1 I1.kIn e1 e2 e4 e5 (show 1 <= sizeLine by decide) ?_
 have I2 : Inv X pins σ H1 { s1 with heap := s1.heap.push (Zas [u]) } := I1.kept (t' := s1.toks) fun b u e => Heap.get?_push_of_some _ e
 have I3 := I2.excSet (fr' := fr) (f := fun x => x.setIfInBounds 0 (.ref s1.heap.objs.size)) ea (Heap.get?_push_of_some _ e1) e4 (by rw [set6]; exact e5) (fun hf => by rw [Array.getElem?_setIfInBounds]; simpa using e6 hf)
 rw [ZiY ea] at I3
 exact ⟨.non, H1, I3, rfl, q⟩
theorem Zja {te : TE} (hc : X.calm = true) (he : PE X e te) : PX X (.Raise (some e) none pos) fun D σ H => te σ H fun v H1 => ∃ a C dx fs, v = .ref a /\ XC X.K C /\ H1 a = some (.exc C dx true fs) /\ ∀ H'', Same (upd H1 a (.exc C dx false fs)) H'' -> D.xc a σ H'' := by
 intro pins s σ H D I h
 rw [arm_exec_Raise]
 refine wpAny_bind (wpAny_standAt (ZlJ (I.ok.hd hc) (wpAny_bind (thnx (he pins s σ H _ I h) fun u s1 ⟨v, H1, I1, r1, a, C, dx, fs, ev, M, ea, q⟩ => wpAny_bind (wpAny_standAt (wpAny_pure ?_))))))
 subst ev
 obtain rfl : u = Value.ref a := r1
 obtain ⟨oe, ws, od, e1, e2, e3, e4, e5, e6, J, mA, r2, r3, r4, r5⟩ := ZeE I1 ea
 have I2 : Inv X pins σ (upd H1 a (.exc C dx false fs)) s1 := by
  have := I1.write (t' := s1.toks) (x := a) (e := a) (o := .exc C dx false fs) (h' := s1.heap) (by rw [ea]; exact True.intro) (.inl rfl) (fun _ _ _ z => z) ⟨_, e1⟩ (by
   obtain ⟨l, ⟨o, vs', q1, q2, q3, q4, q5, q6⟩, r⟩ := (show Zag X.prog X.w H1 s1.heap a (.exc C dx true fs) from I1.hok a _ ea)
   refine ⟨l, ⟨o, vs', q1, q2, q3, q4, q5, fun z => nomatch z⟩, ?_⟩
   cases dx with
   | none => exact r
   | some d => obtain ⟨t1, t2, t3⟩ := r; exact ⟨by rw [Zt t2]; exact t1, t2, t3⟩)
  exact this
 exact ⟨X.K, C, a, oe, ws, M, I1.kIn, rfl, e1, e2, e4, e6 rfl, .inr ⟨a, σ, _, rfl, I2, .inl ⟨C, dx, fs, oe, ws, Zv, e1, e4, e5, e6 rfl⟩, q⟩⟩
end
end L2
namespace L2
open PySem PySem.Spec PyProof.Rows
section
variable {X : Cx} {pins : List (Addr × Obj)} {σ : St} {H : Hp} {s : Shared} {A : Around} {M : Model} {E : Value -> Shared -> Prop} {i : Nat} {x : Str}
theorem Zfd {v : V} {pos : Pos} {Q : Unit -> Shared -> Prop} (I : Inv X pins σ H s) (hN : X.N.Nodup) (hi : X.N[i]? = some x) (hx : X.env.scope.names.lookup x = some .local)
 (h : ∀ s', Inv X pins (σ.set i none) H s' -> Q () s') : wpAny M A (do bindName X.env x Value.none; unbindBehindTheSuite X.env x pos) Q E s := by
 have hcls : (X.env.scope.kind == .class || (X.env.scope.kind == .module && X.env.locals != X.env.globals)) = false := by rw [I.ok.kind]; rfl
 refine wpAny_bind (wpAny_bindName (ZdK (v := V.non) I hN hi (.inl hx) rfl (fun s1 I1 => ?_) (.inr hx)))
 have hiσ : i < σ.length := by rw [I.len]; exact (List.getElem?_eq_some_iff.mp hi).1
 obtain ⟨m, hn, hl⟩ := id I1.loc
 obtain ⟨u, hu, lk⟩ := hl i x V.non hi (by rw [List.getElem?_set_self hiσ]) (.inl hx)
 have hm : m x = some u := by
  rcases lk with ⟨_, e⟩ | ⟨k, _⟩
  . exact e
  . rcases k with k | k
    . have : some NameKind.local = some NameKind.cell := hx.symm.trans k
      cases this
    . have : some NameKind.local = some NameKind.free := hx.symm.trans k
      cases this
 unfold unbindBehindTheSuite
 refine wpAny_onRaise (wpAny_unbindName_local hx hn hm hcls fun h' u' hn' hs => h _ ?_)
 have tracked : HOk X.prog X.w H h' := fun b ob e => by
  obtain ⟨oL, _, _, hoL, _⟩ := id hn
  refine (I1.hok b ob e).stay (fun c w' hc q => (hs.2 c ?_).trans q) (fun _ q => q) fun _ _ q => q
  rintro rfl
  rcases hc with rfl | hc
  . rw [I1.free] at e; cases e
  . rw [I1.free] at hc; cases hc
 refine ⟨I1.ok, I1.os, I1.bare, ⟨fun b o e n hb hx => ?_, fun b o e n hb hx => ?_, I1.base.free, fun b o e hx => ?_, I1.base.tups, I1.base.frzs, I1.base.tbls⟩, ⟨_, hn', fun j y v' e1 e2 e3 => ?_⟩, fun y c e => ?_, I1.free, I1.freeC, fun p hp => ?_, tracked, by simpa using I.len⟩
 . exact (hs.2 b (Nat.ne_of_lt (Nat.lt_of_lt_of_le (Heap.lt_size e) I1.ok.above))).trans (I1.base.keep b o e n hb hx)
 . obtain ⟨sl, e1⟩ := I1.base.slot b o e n hb hx
   exact ⟨sl, (hs.2 b (Nat.ne_of_lt (Nat.lt_of_lt_of_le (Heap.lt_size e) I1.ok.above))).trans e1⟩
 . obtain ⟨o', e1⟩ := I1.base.there b o e hx
   exact ⟨o', (hs.2 b (Nat.ne_of_lt (Nat.lt_of_lt_of_le (Heap.lt_size e) I1.ok.above))).trans e1⟩
 . by_cases hj : j = i
   . subst hj
     rw [List.getElem?_set_self hiσ] at e2
     cases e2
   . rw [List.getElem?_set_ne (Ne.symm hj)] at e2
     obtain ⟨u', r', q⟩ := hl j y v' e1 (by rw [List.getElem?_set_ne (Ne.symm hj)]; exact e2) e3
     refine ⟨u', r', ?_⟩
     rcases q with ⟨k, e⟩ | ⟨k, c, e, z⟩
     . refine .inl ⟨k, ?_⟩
       have : y ≠ x := fun e => hj (ZgN hN e1 (e ▸ hi))
       simp [this, e]
     . exact .inr ⟨k, c, e, z.sameBut hs (I1.cne y c e)⟩
 . obtain ⟨w', z⟩ := I1.cell y c e
   exact ⟨w', z.sameBut hs (I1.cne y c e)⟩
 . obtain ⟨e, n, ne, nf, d⟩ := I1.pin p hp
   exact ⟨(hs.2 p.1 ne).trans e, n, ne, nf, d⟩
theorem ZkV {K : Fg} {ns : List Str} {c : Str} {C D ea : Addr} {oe : Obj} {od : Option Obj} {Q : Bool -> Shared -> Prop} (h : XN K ns C) (h' : XC K D) (g : GX K c D) (hK : K.In s.heap) (J : PySem.W.InstAt s.heap ea oe C od) (hq : Q (decide (c ∈ ns)) s) : wpAny M A (excMatches (.ref ea) (.ref D)) Q E s := by
 obtain ⟨nm, q, N, bs, bm, sn, sub, ab, col, dd, k0, k1, k2, k3, k5, lk, tl, tv⟩ := h'.obj
 have hD := hK _ _ lk
 obtain ⟨cd, h1, h2⟩ := h.nms
 obtain ⟨cd', bm', q1, q2, q3, _⟩ := h.toXC.cls
 rw [h1] at q1
 cases q1
 have hm : PySem.W.mroIn K C (.ref D) = some (decide (c ∈ ns)) := by
  unfold PySem.W.mroIn
  rw [h1]
  show (if cd.mro.isEmpty = true then none else some (cd.mro.contains (.ref D))) = _
  rw [if_neg (by rw [q2]; simp), bmOf.has g h2]
 (obtain ⟨hp, gg, d, tk, os⟩ := s)
 unfold excMatches
 refine wpAny_bind (wpAny_bind (wpAny_bind (wpAny_loadPart_at hD (wpAny_pure (wpAny_of_eq tc_notTuple ?_)))))
 refine wpAny_ite_false rfl (wpAny_bind (wpAny_pure (wpAny_bind ?_)))
 (simp only [List.forIn_cons, List.forIn_nil])
 (refine wpAny_bind (wpAny_bind ?_))
 unfold isExcClass
 refine wpAny_bind (wpAny_bind (wpAny_loadPart_at hD (wpAny_pure (wpAny_ite_true rfl (PySem.W.Looks.at (PySem.W.looks_mroIn hK (h'.sub ZhG)) ?_)))))
 refine wpAny_ite_false rfl (wpAny_pure (wpAny_pure (wpAny_bind (PySem.W.Looks.at J.type (wpAny_bind (wpAny_bind (wpAny_bind (PySem.W.Looks.at (PySem.W.looks_mroIn hK hm) ?_))))))))
 cases e : decide (c ∈ ns) with
 | true => rw [e] at hq; exact wpAny_ite_true rfl (wpAny_pure (wpAny_pure (wpAny_pure hq)))
 | false => rw [e] at hq; exact wpAny_ite_false rfl (wpAny_pure (wpAny_pure (wpAny_pure hq)))
noncomputable abbrev Cx.inH (X : Cx) (v : Value) : Cx := { X with A := X.A.mark (some v), calm := false, xe := fun _ _ => False }
theorem Inv.inH (I : Inv X pins σ H s) (v : Value) : Inv (X.inH v) pins σ H s := ⟨⟨I.ok.mod, I.ok.kind, I.ok.glob, I.ok.blt, I.ok.above, I.ok.inj, I.ok.has, I.ok.cab, (fun z => Bool.noConfusion z), I.ok.frames, I.ok.stk, I.ok.exf, I.ok.bs, I.ok.bsz, I.ok.noex, I.ok.exfs, I.ok.funs, I.ok.frf⟩, I.os, I.bare, I.base, I.loc, I.cell, I.free, I.freeC, I.pin, I.hok, I.len⟩
theorem Inv.outH {v : Value} (I : Inv (X.inH v) pins σ H s) (hh : X.calm = true -> X.A.handled = none) : Inv X pins σ H s := ⟨⟨I.ok.mod, I.ok.kind, I.ok.glob, I.ok.blt, I.ok.above, I.ok.inj, I.ok.has, I.ok.cab, hh, I.ok.frames, I.ok.stk, I.ok.exf, I.ok.bs, I.ok.bsz, I.ok.noex, I.ok.exfs, I.ok.funs, I.ok.frf⟩, I.os, I.bare, I.base, I.loc, I.cell, I.free, I.freeC, I.pin, I.hok, I.len⟩
structure HS where
 c : Str
 nm : Option Nat
 ts : TS
noncomputable def HS.ends (h : HS) (D : Ends) : Ends := match h.nm with
 | none => D
 | some i => { nx := fun σ H => D.nx (σ.set i none) H, rt := D.rt, bk := fun σ H => D.bk (σ.set i none) H, ct := fun σ H => D.ct (σ.set i none) H }
noncomputable def HS.put (h : HS) (ea : Addr) (σ : St) : St := match h.nm with
 | none => σ
 | some i => σ.set i (some (.ref ea))
inductive PH (X : Cx) : ExceptHandler -> HS -> Prop
 | plain {c : Str} {D : Addr} {b₀ : Stmt} {body : List Stmt} {pos np : Pos} {ts : TS} (hg : Gl X c) (hm : X.mg c = some (.ref D)) (xc : XC X.K D) (gx : GX X.K c D) (hdb : (c == ("__debug__" : Str)) = false) (hs : ∀ v, PSs (X.inH v) (b₀ :: body) ts) :
  PH X (.ExceptHandler (some (.Name c np)) none (b₀ :: body) pos) ⟨c, none, ts⟩
 | as_ {c n : Str} {D : Addr} {i : Nat} {b₀ : Stmt} {body : List Stmt} {pos np : Pos} {ts : TS} (hg : Gl X c) (hm : X.mg c = some (.ref D)) (xc : XC X.K D) (gx : GX X.K c D) (hdb : (c == ("__debug__" : Str)) = false) (hN : X.N.Nodup) (hi : X.N[i]? = some n) (hl : X.env.scope.names.lookup n = some .local) (hs : ∀ v, PSs (X.inH v) (b₀ :: body) ts) :
  PH X (.ExceptHandler (some (.Name c np)) (some n) (b₀ :: body) pos) ⟨c, some i, ts⟩
inductive PHs (X : Cx) : List ExceptHandler -> List HS -> Prop
 | nil : PHs X [] []
 | cons {h : ExceptHandler} {hs : List ExceptHandler} {g : HS} {gs : List HS} : PH X h g -> PHs X hs gs -> PHs X (h :: hs) (g :: gs)
def Zfe (ns : List Str) (D : Ends) (ea : Addr) (σ : St) (H : Hp) : List HS -> Prop
 | [] => False
 | h :: hs => if h.c ∈ ns then h.ts (h.ends D) (h.put ea σ) H else Zfe ns D ea σ H hs
theorem SP.inH {v : Value} {D : Ends} {f : Flow} {s' : Shared} (hh : X.calm = true -> X.A.handled = none) (h : SP (X.inH v) pins D f s') : SP X pins D f s' := by
 cases f with
 | next => obtain ⟨σ', H', I, q⟩ := h; exact ⟨σ', H', I.outH hh, q⟩
 | brk => obtain ⟨σ', H', I, q⟩ := h; exact ⟨σ', H', I.outH hh, q⟩
 | cont => obtain ⟨σ', H', I, q⟩ := h; exact ⟨σ', H', I.outH hh, q⟩
 | ret u => obtain ⟨v, σ', H', I, r, q⟩ := h; exact ⟨v, σ', H', I.outH hh, r, q⟩
theorem Ziw {ns : List Str} {C ea : Addr} {dx : Option Addr} {fs : List (Str × V)} {c : Str} {D' : Addr} {np pos : Pos} {R : Result -> Shared -> Prop} (XNh : XN X.K ns C) (I : Inv X pins σ H s) (e : H ea = some (.exc C dx false fs)) (hg : Gl X c) (hm : X.mg c = some (.ref D')) (xc : XC X.K D') (gx : GX X.K c D') (hdb : (c == ("__debug__" : Str)) = false)
 (hR : R (.ok (if decide (c ∈ ns) = true then Flow.brk else Flow.next)) s) : codeAny (model X.prog X.w) (X.A.mark (some (.ref ea))) (.handlers (.ref ea) [.ExceptHandler (some (.Name c np)) none [] pos] X.env) R s := by
 obtain ⟨oe, vs, od, e1, e2, e3, e4, e5, e6, J, _⟩ := ZeE I e
 exact codeAny_handlers_test (Calls.Name_function_global I.ok.kind hg (Calls.loadGlobal_global (by rw [I.ok.glob]; exact I.mod.glob.keeps I.bk) hm (ZkV XNh xc gx I.kIn J hR)) hdb)
theorem ZfH {a : Addr} : Value.ref a ≠ byPass := fun z => by cases z
theorem ZkW {ns : List Str} {C ea : Addr} {dx : Option Addr} {fs : List (Str × V)} {D : Ends} {c : Str} {D' : Addr} {b₀ : Stmt} {body : List Stmt} {pos np : Pos} {ts : TS} {rest : List ExceptHandler} (XNh : XN X.K ns C) (I : Inv X pins σ H s) (e : H ea = some (.exc C dx false fs)) (f : FlyT (fun fl => fl = Value.none) H s.heap ea)
 (hg : Gl X c) (hm : X.mg c = some (.ref D')) (xc : XC X.K D') (gx : GX X.K c D') (hdb : (c == ("__debug__" : Str)) = false) (hs : ∀ v, PSs (X.inH v) (b₀ :: body) ts) (h1 : c ∈ ns -> ts D σ H) (h2 : c ∉ ns -> wpAny (model X.prog X.w) X.A (handleBy (.ref ea) X.env rest) (SP X pins D) E s) :
 wpAny (model X.prog X.w) X.A (handleBy (.ref ea) X.env (.ExceptHandler (some (.Name c np)) none (b₀ :: body) pos :: rest)) (SP X pins D) E s := by
 refine wpAny_handleBy_cons (Ziw XNh I e hg hm xc gx hdb ?_) ZfH
 by_cases z : c ∈ ns
 . rw [decide_eq_true z, if_pos rfl]
   refine codeAny_handlers_suite (thn (Zef (o := none) I f) fun _ s1 ⟨I1, f1⟩ => ?_)
   exact wpAny_mono (hs (.ref ea) pins s1 σ H D (I1.inH _) (h1 z)) (fun fl s2 q => q.inH I.ok.hd) fun _ _ z => z.elim
 . rw [decide_eq_false z, if_neg Bool.false_ne_true]
   exact h2 z
theorem Zop {ns : List Str} {C ea : Addr} {dx : Option Addr} {fs : List (Str × V)} {D : Ends} {c n : Str} {D' : Addr} {b₀ : Stmt} {body : List Stmt} {pos np : Pos} {ts : TS} {rest : List ExceptHandler} (XNh : XN X.K ns C) (I : Inv X pins σ H s) (e : H ea = some (.exc C dx false fs)) (f : FlyT (fun fl => fl = Value.none) H s.heap ea)
 (hg : Gl X c) (hm : X.mg c = some (.ref D')) (xc : XC X.K D') (gx : GX X.K c D') (hdb : (c == ("__debug__" : Str)) = false) (hN : X.N.Nodup) (hi : X.N[i]? = some n) (hl : X.env.scope.names.lookup n = some .local) (hs : ∀ v, PSs (X.inH v) (b₀ :: body) ts)
 (h1 : c ∈ ns -> ts { nx := fun σ H => D.nx (σ.set i none) H, rt := D.rt, bk := fun σ H => D.bk (σ.set i none) H, ct := fun σ H => D.ct (σ.set i none) H } (σ.set i (some (.ref ea))) H) (h2 : c ∉ ns -> wpAny (model X.prog X.w) X.A (handleBy (.ref ea) X.env rest) (SP X pins D) E s) :
 wpAny (model X.prog X.w) X.A (handleBy (.ref ea) X.env (.ExceptHandler (some (.Name c np)) (some n) (b₀ :: body) pos :: rest)) (SP X pins D) E s := by
 refine wpAny_handleBy_cons (Ziw XNh I e hg hm xc gx hdb ?_) ZfH
 by_cases z : c ∈ ns
 . rw [decide_eq_true z, if_pos rfl]
   refine codeAny_handlers_suite_as (thn (Zef (o := none) I f) fun _ s1 ⟨I1, f1⟩ => ?_)
   refine ZdK (v := .ref ea) I1 hN hi (.inl hl) rfl (fun s2 I2 => ?_) (.inr hl)
   refine wpAny_mono (hs (.ref ea) pins s2 _ H _ (I2.inH _) (h1 z)) (fun fl s3 q => ?_) fun _ _ z => z.elim
   cases fl with
   | next => obtain ⟨σ', H', I3, q⟩ := q; exact Zfd (v := .non) (I3.outH I.ok.hd) hN hi hl fun s4 I4 => ⟨_, _, I4, q⟩
   | brk => obtain ⟨σ', H', I3, q⟩ := q; exact Zfd (v := .non) (I3.outH I.ok.hd) hN hi hl fun s4 I4 => ⟨_, _, I4, q⟩
   | cont => obtain ⟨σ', H', I3, q⟩ := q; exact Zfd (v := .non) (I3.outH I.ok.hd) hN hi hl fun s4 I4 => ⟨_, _, I4, q⟩
   | ret u => obtain ⟨v, σ', H', I3, r, q⟩ := q; exact Zfd (v := .non) (I3.outH I.ok.hd) hN hi hl fun s4 I4 => ⟨v, _, _, I4, r, q⟩
 . rw [decide_eq_false z, if_neg Bool.false_ne_true]
   exact h2 z
theorem Zoq {ns : List Str} {C ea : Addr} {dx : Option Addr} {fs : List (Str × V)} {D : Ends} (XNh : XN X.K ns C) {hs : List ExceptHandler} {gs : List HS} (hh : PHs X hs gs) (I : Inv X pins σ H s) (e : H ea = some (.exc C dx false fs)) (f : FlyT (fun fl => fl = Value.none) H s.heap ea) (h : Zfe ns D ea σ H gs) :
 wpAny (model X.prog X.w) X.A (handleBy (.ref ea) X.env hs) (SP X pins D) E s := by
 induction hh with
 | nil => exact h.elim
 | cons p ps ih =>
  cases p with
  | plain hg hm xc gx hdb hs' =>
   refine ZkW XNh I e f hg hm xc gx hdb hs' (fun z => ?_) fun z => ih ?_
   . unfold Zfe at h; rw [if_pos z] at h; exact h
   . unfold Zfe at h; rw [if_neg z] at h; exact h
  | as_ hg hm xc gx hdb hN hi hl hs' =>
   refine Zop XNh I e f hg hm xc gx hdb hN hi hl hs' (fun z => ?_) fun z => ih ?_
   . unfold Zfe at h; rw [if_pos z] at h; exact h
   . unfold Zfe at h; rw [if_neg z] at h; exact h
def tTry (K : Fg) (tb : TX) (gs : List HS) : TX := fun D σ H => tb { D with xc := fun ea σ' H' => ∃ C dx fs ns, XN K ns C /\ H' ea = some (.exc C dx false fs) /\ Zfe ns D.toEnds ea σ' H' gs } σ H
theorem Zqe {body : List Stmt} {h₀ : ExceptHandler} {hs : List ExceptHandler} {gs : List HS} {tb : TX} {pos : Pos} (F : Fr0 X X.A) (hx : ∀ e s, ¬ X.xe e s) (hb : PXs X body tb) (hh : PHs X (h₀ :: hs) gs) : PX X (.Try body (h₀ :: hs) [] [] pos) (tTry X.K tb gs) := by
 intro pins s σ H D I h
 refine wpAny_Try_except (wpAny_mono (hb pins s σ H _ I h) (fun fl s1 q => ?_) fun e s1 q => ?_)
 . cases fl with
   | next => exact wpAny_execs_nil q
   | ret v => exact q
   | brk => exact q
   | cont => exact q
 . rcases q with q | ⟨ea, σ', H', rfl, I1, f1, q⟩
   . exact absurd q (hx _ _)
   . refine thn (ZhF F I1 f1) fun _ s2 ⟨H2, I2, k2, f2⟩ => thn (Zef (o := none) I2 f2) fun _ s3 ⟨I3, f3⟩ => ?_
     obtain ⟨C, dx, fs, ns, xn, e, th⟩ := q H2 k2
     exact Zoq xn hh I3 e f3 th
end
end L2
namespace L2
open PySem PySem.Spec PyProof.Rows
noncomputable def cxC (X : Cx) (N' : List Str) (scope : Scope) (cl : List (Str × Addr)) (C : Addr) (s₀ : Shared) (H₀ : Hp) (ex : List Addr) : Cx where
 prog := X.prog
 w := X.w
 K := X.K
 mg := X.mg
 base := X.base
 A := X.A
 N := N'
 s₀ := s₀
 H₀ := H₀
 env := compEnvC scope cl C X.env
 outer := X.stack
 stack := X.stack
 ex := ex
 fn := fun _ => false
 calm := X.calm
 pn := []
 xe := fun _ _ => False
theorem Zhf {scope : Scope} {env : Env} (h : ∀ y ∈ scope.names, y.2 = .free -> ∃ c, env.cells.lookup y.1 = some c) :
 ∃ cl, closureFor scope env = pure cl /\ (∀ y c, cl.lookup y = some c -> env.cells.lookup y = some c) /\ ∀ y ∈ scope.names, y.2 = .free -> ∃ c, cl.lookup y.1 = some c := by
 have go : ∀ (names : List (Str × NameKind)) (acc : List (Str × Addr)), (∀ y ∈ names, y.2 = .free -> ∃ c, env.cells.lookup y.1 = some c) -> (∀ y c, acc.lookup y = some c -> env.cells.lookup y = some c) ->
  ∃ cl, (forIn names acc fun x r => if (x.2 == NameKind.free) = true then do let c <- cellOf env x.1; pure (ForInStep.yield ((x.1, c) :: r)) else pure (ForInStep.yield r) : Sem _) = pure cl /\
   (∀ y c, cl.lookup y = some c -> env.cells.lookup y = some c) /\ (∀ y c, acc.lookup y = some c -> ∃ c, cl.lookup y = some c) /\ ∀ y ∈ names, y.2 = .free -> ∃ c, cl.lookup y.1 = some c := by
  intro names
  induction names with
  | nil => intro acc _ h2; exact ⟨acc, rfl, h2, fun y c e => ⟨c, e⟩, fun y hy => nomatch hy⟩
  | cons z r ih =>
   intro acc h1 h2
   obtain ⟨n, k⟩ := z
   rw [List.forIn_cons]
   by_cases hk : k = .free
   . subst hk
     obtain ⟨c, hc⟩ := h1 (n, .free) List.mem_cons_self rfl
     obtain ⟨cl, e, a1, a2, a3⟩ := ih ((n, c) :: acc) (fun y hy => h1 y (List.mem_cons_of_mem _ hy)) (fun y d hd => by
      rw [List.lookup_cons] at hd
      cases hb : y == n with
      | true => rw [hb] at hd; simp only at hd; cases hd; rw [eq_of_beq hb]; exact hc
      | false => rw [hb] at hd; exact h2 y d hd)
     refine ⟨cl, ?_, a1, fun y d hd => ?_, fun y hy hf => ?_⟩
     . rw [<- e]
       have e1 : cellOf env n = pure c := by
        unfold cellOf
        rw [hc]
       simp only [beq_self_eq_true, if_true, e1, pure_bind]
     . by_cases hyn : y = n
       . exact a2 y c (by rw [hyn, List.lookup_cons, beq_self_eq_true])
       . exact a2 y d (by rw [List.lookup_cons, show (y == n) = false by simpa using hyn]; exact hd)
     . (rcases List.mem_cons.mp hy with rfl | hy)
       . exact a2 n c (by rw [List.lookup_cons, beq_self_eq_true])
       . exact a3 y hy hf
   . have hb : (k == NameKind.free) = false := by simpa using hk
     obtain ⟨cl, e, a1, a2, a3⟩ := ih acc (fun y hy => h1 y (List.mem_cons_of_mem _ hy)) h2
     refine ⟨cl, ?_, a1, a2, fun y hy hf => ?_⟩
     . rw [<- e]
       simp only [hb, Bool.false_eq_true, if_false, pure_bind]
     . (rcases List.mem_cons.mp hy with rfl | hy)
       . exact absurd hf hk
       . exact a3 y hy hf
 obtain ⟨cl, e, a1, _, a3⟩ := go scope.names [] h (fun y c e => nomatch e)
 refine ⟨cl, ?_, a1, a3⟩
 unfold closureFor
 simp only [] at e ⊢
 rw [e]
 rfl
theorem ZfW {env : Env} : ∀ {names : List (Str × NameKind)} {x : Str}, names.lookup x = some .free ->
 (names.map fun (n, k) => if (k == NameKind.free && env.scope.kind == .function && env.kindOf n == some .cell) then (n, NameKind.cell) else (n, k)).lookup x = some .cell \/
 (names.map fun (n, k) => if (k == NameKind.free && env.scope.kind == .function && env.kindOf n == some .cell) then (n, NameKind.cell) else (n, k)).lookup x = some .free
 | [], _, h => by simp at h
 | (n, k) :: r, x, h => by
  have ih := @ZfW env r x
  show List.lookup x ((if (k == NameKind.free && env.scope.kind == .function && env.kindOf n == some .cell) = true then (n, NameKind.cell) else (n, k)) :: _) = _ \/ List.lookup x ((if (k == NameKind.free && env.scope.kind == .function && env.kindOf n == some .cell) = true then (n, NameKind.cell) else (n, k)) :: _) = _
  cases hx : x == n with
  | true =>
   (simp only [List.lookup_cons, hx] at h)
   cases h
   by_cases hc : (NameKind.free == NameKind.free && env.scope.kind == .function && env.kindOf n == some .cell) = true
   . rw [if_pos hc]; left; simp only [List.lookup_cons, hx]
   . rw [if_neg hc]; right; simp only [List.lookup_cons, hx]
  | false =>
   (simp only [List.lookup_cons, hx] at h)
   (by_cases hc : (k == NameKind.free && env.scope.kind == .function && env.kindOf n == some .cell) = true)
   . (rw [if_pos hc]; simp only [List.lookup_cons, hx]; exact ih h)
   . (rw [if_neg hc]; simp only [List.lookup_cons, hx]; exact ih h)
noncomputable def Zeg (osc : Scope) (oN : List Str) (k : Nat) (js : List Nat) (N' : List Str) (scope : Scope) : Bool :=
 scope.kind == .function && scope.names.all (fun y => y.2 != .cell) && scope.names.all (fun y => y.2 != .local || scope.names.lookup y.1 == some .local) &&
 scope.names.all (fun y => y.2 != .free || osc.names.lookup y.1 == some .cell || osc.names.lookup y.1 == some .free) &&
 N'.length == k + js.length && decide N'.Nodup &&
 (List.range js.length).all fun i => match js[i]? with
  | none => false
  | some j => match oN[j]? with
   | none => false
   | some y => N'[k + i]? == some y && scope.names.lookup y == some .free
structure CompScope (X : Cx) (k : Nat) (js : List Nat) (N' : List Str) (scope : Scope) : Prop where
 kind : scope.kind = .function
 nocell : ∀ y ∈ scope.names, y.2 ≠ .cell
 names : ∀ y ∈ scope.names, y.2 = .local -> scope.names.lookup y.1 = some .local
 free : ∀ y ∈ scope.names, y.2 = .free -> X.env.kindOf y.1 = some .cell \/ X.env.kindOf y.1 = some .free
 len : N'.length = k + js.length
 nd : N'.Nodup
 idx : ∀ i j : Nat, js[i]? = some j -> ∃ y, X.N[j]? = some y /\ N'[k + i]? = some y /\ scope.names.lookup y = some .free
theorem CompScope.of {X : Cx} {osc : Scope} {oN : List Str} {k : Nat} {js : List Nat} {N' : List Str} {scope : Scope} (h : Zeg osc oN k js N' scope = true) (e : X.env.scope = osc) (eN : X.N = oN) : CompScope X k js N' scope := by
 subst e eN
 unfold Zeg at h
 (simp only [Bool.and_eq_true] at h)
 obtain ⟨⟨⟨⟨⟨⟨h1, h2⟩, h3⟩, h4⟩, h5⟩, h6⟩, h7⟩ := h
 refine ⟨eq_of_beq h1, fun y hy => by simpa using List.all_eq_true.mp h2 y hy, fun y hy hl => ?_, fun y hy hf => ?_, eq_of_beq h5, of_decide_eq_true h6, fun i j hj => ?_⟩
 . have q := List.all_eq_true.mp h3 y hy
   rw [hl] at q
   simpa using q
 . have q := List.all_eq_true.mp h4 y hy
   rw [hf] at q
   simp at q
   exact q
 . have hi : i < js.length := (List.getElem?_eq_some_iff.mp hj).1
   have q := List.all_eq_true.mp h7 i (List.mem_range.mpr hi)
   rw [hj] at q
   simp only at q
   cases hN : X.N[j]? with
   | none => rw [hN] at q; cases q
   | some y =>
    rw [hN] at q
    simp only [Bool.and_eq_true] at q
    exact ⟨y, rfl, eq_of_beq q.1, eq_of_beq q.2⟩
noncomputable def Zdk (js : List Nat) (σ : St) : St := js.map fun j => (σ[j]?).join
noncomputable def ZcB (k : Nat) (js : List Nat) (σ : St) : St := List.replicate k none ++ Zdk js σ
section
variable {X : Cx}
theorem ZmN {pins : List (Addr × Obj)} {σ : St} {H : Hp} {s : Shared} {k : Nat} {js : List Nat} {N' : List Str} {scope : Scope} {cl : List (Str × Addr)} {fp : List Addr} {h1 : Heap} {tk : Nat}
 (I : Inv X pins σ H s) (S : CompScope X k js N' scope) (hf : ∀ b ∈ fp, FpOk X pins H b) (hfo : ∀ b ∈ fp, b < s.heap.objs.size)
 (c1 : ∀ y c, cl.lookup y = some c -> X.env.cells.lookup y = some c) (c2 : ∀ y ∈ scope.names, y.2 = .free -> ∃ c, cl.lookup y.1 = some c)
 (ns : ∃ m, h1.Ns (s.heap.objs.size + 1) m) (kp : ∀ b o, s.heap.get? b = some o -> h1.get? b = some o) (hD : h1.get? s.heap.objs.size = some { cls := .type "list", data := .seq #[] }) :
 Inv (cxC X N' scope cl (s.heap.objs.size + 1) s H fp) [] (ZcB k js σ) (upd H s.heap.objs.size (.lst [])) { s with heap := h1, toks := tk } := by
 have hfr : H s.heap.objs.size = none := I.hok.fresh (Nat.le_refl _)
 have hfr1 : H (s.heap.objs.size + 1) = none := I.hok.fresh (Nat.le_succ _)
 have cells : ∀ y c, cl.lookup y = some c -> c < s.heap.objs.size := fun y c e => by
  obtain ⟨v, q⟩ := I.cell y c (c1 y c e)
  exact q.lt
 have exb : ∀ b ∈ fp, ∀ o, X.base.get? b = some o -> False := fun b hb o e => by
  rcases (hf b hb).2.2.2.1 with z | z
  . exact I.ok.noex b o e z
  . exact absurd (Nat.lt_of_lt_of_le (Heap.lt_size (I.ok.bs b o e).1) z) (Nat.lt_irrefl _)
 have exs : ∀ b ∈ fp, b ∉ frs X.stack := fun b hb z => by
  rcases List.mem_cons.mp (I.stkSub b z) with q | q
  . exact (hf b hb).2.1 q
  . exact (hf b hb).2.2.1 q
 obtain ⟨m1, hn1⟩ := ns
 have upk : ∀ y, scope.names.lookup y = some .free -> ((cxC X N' scope cl (s.heap.objs.size + 1) s H fp).env.kindOf y = some .cell \/ (cxC X N' scope cl (s.heap.objs.size + 1) s H fp).env.kindOf y = some .free) := fun y hy => ZfW hy
 have memf : ∀ y, scope.names.lookup y = some .free -> ∃ c, cl.lookup y = some c := fun y hy => c2 (y, .free) (PySem.mem_of_lookup hy) rfl
 have back : ∀ y, ((cxC X N' scope cl (s.heap.objs.size + 1) s H fp).env.kindOf y = some .cell \/ (cxC X N' scope cl (s.heap.objs.size + 1) s H fp).env.kindOf y = some .free) -> scope.names.lookup y = some .free := by
  intro y hy
  have key : ∀ names : List (Str × NameKind), (∀ z ∈ names, z.2 ≠ .cell) ->
   ((names.map fun (n, k) => if (k == NameKind.free && X.env.scope.kind == .function && X.env.kindOf n == some .cell) then (n, NameKind.cell) else (n, k)).lookup y = some .cell \/
   (names.map fun (n, k) => if (k == NameKind.free && X.env.scope.kind == .function && X.env.kindOf n == some .cell) then (n, NameKind.cell) else (n, k)).lookup y = some .free) -> names.lookup y = some .free := by
   intro names
   induction names with
   | nil => intro _ h; simp at h
   | cons z r ih =>
    intro hz h
    obtain ⟨n, kd⟩ := z
    have ih' := ih fun z hz' => hz z (List.mem_cons_of_mem _ hz')
    have hkd : kd ≠ .cell := hz (n, kd) List.mem_cons_self
    have h' : List.lookup y ((if (kd == NameKind.free && X.env.scope.kind == .function && X.env.kindOf n == some .cell) = true then (n, NameKind.cell) else (n, kd)) :: r.map _) = _ \/
     List.lookup y ((if (kd == NameKind.free && X.env.scope.kind == .function && X.env.kindOf n == some .cell) = true then (n, NameKind.cell) else (n, kd)) :: r.map _) = _ := h
    rw [List.lookup_cons]
    cases hx : y == n with
    | true =>
     by_cases hc : (kd == NameKind.free && X.env.scope.kind == .function && X.env.kindOf n == some .cell) = true
     . have : (kd == NameKind.free) = true := by
        (simp only [Bool.and_eq_true] at hc)
        exact hc.1.1
       rw [eq_of_beq this]
     . rw [if_neg hc] at h'
       simp only [List.lookup_cons, hx] at h'
       rcases h' with q | q
       . exact absurd (Option.some.inj q) hkd
       . exact q
    | false =>
     simp only
     by_cases hc : (kd == NameKind.free && X.env.scope.kind == .function && X.env.kindOf n == some .cell) = true
     . rw [if_pos hc] at h'
       simp only [List.lookup_cons, hx] at h'
       exact ih' h'
     . rw [if_neg hc] at h'
       simp only [List.lookup_cons, hx] at h'
       exact ih' h'
  exact key scope.names S.nocell hy
 refine ⟨⟨I.mod, S.kind, I.ok.glob, I.ok.blt, Nat.le_succ _, fun x y c e1 e2 => I.ok.inj x y c (c1 x c e1) (c1 y c e2), fun y hy => memf y (back y hy), fun x c hx => (nomatch hx), I.ok.hd, I.ok.frames, .inl rfl,
  fun b hb => ⟨Nat.ne_of_lt (Nat.lt_succ_of_lt (hfo b hb)), fun x c e => (hf b hb).2.2.2.2.1 x c (c1 x c e)⟩, I.bs, Nat.le_trans I.ok.bsz I.sz, fun b o e hb => exb b hb o e, exs, I.stack, I.stkFree⟩,
  rfl, I.bare, Un.laid kp (Nat.le_refl _) hfr, ⟨m1, hn1, fun i x v e1 e2 e3 => ?_⟩, fun x c e => ?_, ?_, fun x c e => ?_, fun p hp => (nomatch hp), I.hok.laid kp (Nat.le_refl _) ⟨by simp, [], 0, .nil, hD⟩, ?_⟩
 . -- a name's value within the block
   have hi : ¬ i < k := fun hi => by
    unfold ZcB at e2
    rw [List.getElem?_append_left (by simpa using hi), List.getElem?_replicate, if_pos hi] at e2
    cases e2
   have hik : k <= i := Nat.le_of_not_lt hi
   have e2' : (Zdk js σ)[i - k]? = some (some v) := by
    unfold ZcB at e2
    rw [List.getElem?_append_right (by simpa using hik), List.length_replicate] at e2
    exact e2
   unfold Zdk at e2'
   rw [List.getElem?_map] at e2'
   cases hj : js[i - k]? with
   | none => rw [hj] at e2'; cases e2'
   | some j =>
    rw [hj] at e2'
    have e4 : (σ[j]?).join = some v := Option.some.inj e2'
    obtain ⟨y, n1, n2, n3⟩ := S.idx (i - k) j hj
    rw [Nat.add_sub_cancel' hik] at n2
    have e1' : N'[i]? = some x := e1
    rw [e1'] at n2
    obtain rfl : x = y := Option.some.inj n2
    have e5 : σ[j]? = some (some v) := by
     cases q : σ[j]? with
     | none => rw [q] at e4; cases e4
     | some o => rw [q] at e4; exact congrArg some e4
    obtain ⟨m, hn, hl⟩ := I.loc
    have hk := S.free (x, .free) (PySem.mem_of_lookup n3) rfl
    have hv : Vis X.env.scope x := .inr hk
    obtain ⟨u, r, l⟩ := hl j x v n1 e5 hv
    refine ⟨u, r, .inr ⟨upk x n3, ?_⟩⟩
    rcases l with ⟨q, _⟩ | ⟨_, c, hc, hcell⟩
    . rcases hk with z | z <;> (rw [show X.env.kindOf x = some NameKind.local from q] at z; cases z)
    . obtain ⟨c', hc'⟩ := memf x n3
      have : c' = c := Option.some.inj ((c1 x c' hc').symm.trans hc)
      subst this
      obtain ⟨o, ho, hd⟩ := hcell
      exact ⟨c', hc', o, kp _ _ ho, hd⟩
 . obtain ⟨v, o, ho, hd⟩ := I.cell x c (c1 x c e)
   exact ⟨v, o, kp _ _ ho, hd⟩
 . show upd H s.heap.objs.size (.lst []) (s.heap.objs.size + 1) = none
   rw [Zt (Nat.succ_ne_self _)]
   exact hfr1
 . show upd H s.heap.objs.size (.lst []) c = none
   rw [Zt (Nat.ne_of_lt (cells x c e))]
   exact I.freeC x c (c1 x c e)
 . show (ZcB k js σ).length = N'.length
   unfold ZcB Zdk
   rw [List.length_append, List.length_replicate, List.length_map, S.len]
def PIf (X : Cx) (ifs : List Expr) (t : TT) : Prop :=
 ∀ (pins : List (Addr × Obj)) (s : Shared) (σ : St) (H : Hp) (Q : Bool -> Hp -> Prop), Inv X pins σ H s -> t σ H Q ->
  wpAny (model X.prog X.w) X.A (forIn ifs true fun c r => if r = true then do let ok <- isTrue c X.env (eval c X.env); pure (ForInStep.yield ok) else pure (ForInStep.yield r)) (TP X pins σ Q) X.xe s
def tIf0 : TT := fun _ H Q => Q true H
theorem Zor : PIf X [] tIf0 := fun _ _ _ H _ I h => wpAny_tests_nil ⟨H, I, h⟩
theorem Zos {c : Expr} {t : TT} (h : PT X c t) : PIf X [c] t := fun pins s σ H Q I q => wpAny_tests_one (h pins s σ H Q I q)
def ZkX (J : It) (g : TG) (tif : TT) (te : TE) (D : Addr) (Q : VK) (W : Nat -> Nat -> St -> List V -> Hp -> Prop) : Prop :=
 ∀ i m σ ys H, W i m σ ys H -> H D = some (.lst ys) -> (J.stop i H /\ Q (.ref D) H) \/ (J.go i H /\ ∀ x H', J.yld i H x H' -> g x σ H' fun σ2 H2 => tif σ2 H2 fun b H3 =>
  if b = true then te σ2 H3 fun y H4 => H4 D = some (.lst ys) /\ ys.length < sizeLine /\ ∃ m', m' < m /\ W (i + 1) m' σ2 (ys ++ [y]) (upd H4 D (.lst (ys ++ [y])))
  else H3 D = some (.lst ys) /\ ∃ m', m' < m /\ W (i + 1) m' σ2 ys H3)
theorem ZlM {elt tg iter : Expr} {ifs : List Expr} {scope : Scope} {pos : Pos} {it D : Addr} {J : It} {fp : List Addr} {tn : Nat -> Heap -> Prop} {g : TG} {tif : TT} {te : TE} {Q : VK} {R : Result -> Shared -> Prop}
 (hx : ∀ e s', X.xe e s' -> False) (hc : X.calm = true) (T : Turn X.prog X.w X.K tg J fp it tn) (hg : PG X tg g) (hif : PIf X ifs tif) (he : PE X elt te)
 (stat : ∀ {H' : Hp}, (∀ b ∈ fp, H' b = none) -> ∀ b ∈ fp, FpOk X [] H' b)
 {W : Nat -> Nat -> St -> List V -> Hp -> Prop} (turn : ZkX J g tif te D Q W)
 (hR : ∀ σ' H' s', Inv X [] σ' H' s' -> Q (.ref D) H' -> R (.ok .next) s')
 {σ : St} {H : Hp} {s : Shared} {m : Nat} (I : Inv X [] σ H s) (st : tn 0 s.heap) (fr : ∀ b ∈ fp, H b = none) (hD : H D = some (.lst [])) (w0 : W 0 m σ [] H) :
 codeAny (model X.prog X.w) X.A (.compLoop (.ListComp elt [⟨tg, iter, ifs, 0⟩] scope pos) 0 (.ref it) (.ref D) X.env) R s := by
 refine codeAny_loop rfl (fun n s' => ∃ i ys σ' H', Inv X [] σ' H' s' /\ tn i s'.heap /\ (∀ b ∈ fp, H' b = none) /\ H' D = some (.lst ys) /\ W i n σ' ys H') (fun n s3 hI => ?_) m ⟨0, [], σ, H, I, st, fr, hD, w0⟩
 obtain ⟨i, ys, σ3, H3, I3, st3, fr3, d3, w3⟩ := hI
 show wpAny _ X.A ((compTurn (.ListComp elt [⟨tg, iter, ifs, 0⟩] scope pos) 0 (.ref it) (.ref D) X.env).onRaise (fun x => do noteFrame x X.env; theTreesLotGoes x)) _ _ s3
 refine wpAny_noted ?_
 rw [compTurn_list]
 (refine wpAny_bind (wpAny_standAt (wpAny_bind ?_)))
 have sub : ∀ {α : Type} {t : Sem α} {P : α -> Shared -> Prop} {E' : Value -> Shared -> Prop} {s : Shared}, wpAny (model X.prog X.w) X.A t P X.xe s -> wpAny (model X.prog X.w) X.A t P E' s := fun h => wpAny_mono h (fun _ _ q => q) fun e s' q => (hx e s' q).elim
 rcases turn i n σ3 ys H3 w3 d3 with ⟨stop, q⟩ | ⟨go, step⟩
 . refine sub (thn (T.done X rfl rfl rfl hc i [] s3 σ3 H3 X.xe I3 (stat fr3) st3 stop) fun r s4 ⟨hr, I4⟩ => ?_)
   subst hr
   exact wpAny_pure (hR σ3 H3 s4 I4 q)
 . refine sub (thn (T.item X rfl rfl rfl hc i [] s3 σ3 H3 X.xe I3 (stat fr3) st3 go) fun r s4 ⟨u, hr, h4⟩ => ?_)
   subst hr
   refine wpAny_bind (sub (thn h4 fun _ s5 ⟨x, H5, I5, r5, y5, st5, fr5⟩ => ?_))
   have I5' := I5.pinned (stat fr5) (T.obj _ _ st5)
   refine wpAny_bind (sub (thn (hg _ s5 σ3 H5 x u _ I5' r5 (step x H5 y5)) fun _ s6 ⟨σ6, H6, I6, q6⟩ => ?_))
   have again : ∀ {s7 : Shared} {H7 : Hp} {ys7 : List V}, Inv X ([] ++ Zfn fp s5.heap) σ6 H7 s7 -> H7 D = some (.lst ys7) -> (∃ m', m' < n /\ W (i + 1) m' σ6 ys7 H7) ->
    ∃ m, m < n /\ ∃ i ys σ' H', Inv X [] σ' H' s7 /\ tn i s7.heap /\ (∀ b ∈ fp, H' b = none) /\ H' D = some (.lst ys) /\ W i m σ' ys H' := fun {s7 H7 ys7} I7 d7 w7 => by
    obtain ⟨m', hm, w7⟩ := w7
    refine ⟨m', hm, i + 1, ys7, σ6, H7, I7.unpinned, T.keep _ _ _ st5 fun b hb o e => (I7.pin (b, o) (List.mem_append_right _ (List.mem_append_right _ (Zc0 hb e)))).1, fun b hb => ?_, d7, w7⟩
    obtain ⟨o, e, d⟩ := T.obj _ _ st5 b hb
    exact (I7.pin (b, o) (List.mem_append_right _ (List.mem_append_right _ (Zc0 hb e)))).2.1
   refine wpAny_bind (sub (thn (hif _ s6 σ6 H6 _ I6 q6) fun ok s7 ⟨H7, I7, q7⟩ => ?_))
   cases ok with
   | false =>
    rw [if_neg Bool.false_ne_true] at q7
    exact wpAny_pure ⟨rfl, again I7 q7.1 q7.2⟩
   | true =>
    rw [if_pos rfl] at q7
    refine wpAny_bind (wpAny_bind (sub (thn (he _ s7 σ6 H7 _ I7 q7) fun y s8 ⟨v, H8, I8, r8, d8, z8, w8⟩ => ?_)))
    have ap := Zit (X := X) _ s8 σ6 H8 (.ref D) [v] (.ref D) [y] (fun _ H9 => H9 = upd H8 D (.lst (ys ++ [v]))) I8 rfl (.cons r8 .nil) ⟨D, ys, v, rfl, rfl, d8, z8, rfl⟩
    refine wpAny_bind (sub (thn ap fun _ s9 ⟨_, H9, I9, _, e9⟩ => ?_))
    subst e9
    exact wpAny_pure (wpAny_pure ⟨rfl, again I9 Zv w8⟩)
def ZiN (k : Nat) (js : List Nat) (wi : TI) (g : TG) (tif : TT) (te : TE) : TE := fun σ H Q => wi σ H fun J H1 => ∀ D, H1 D = none -> ∃ W : Nat -> Nat -> St -> List V -> Hp -> Prop,
 (∃ m, W 0 m (ZcB k js σ) [] (upd H1 D (.lst []))) /\ ZkX J g tif te D Q W
theorem Zhg {elt tg iter : Expr} {ifs : List Expr} {scope : Scope} {pos : Pos} {k : Nat} {js : List Nat} {N' : List Str} {J : It} {fp : List Addr} {tn : Nat -> Heap -> Prop} {it : Addr} {g : TG} {tif : TT} {te : TE} {Q : VK} {E : Value -> Shared -> Prop}
 {pins : List (Addr × Obj)} {s : Shared} {σ : St} {H : Hp} {cl : List (Str × Addr)} {RR : Value -> Addr -> Result -> Shared -> Prop}
 (hc : X.calm = true) (S : CompScope X k js N' scope) (T : Turn X.prog X.w X.K tg J fp it tn) (st : tn 0 s.heap) (hf : ∀ b ∈ fp, FpOk X pins H b)
 (c1 : ∀ y c, cl.lookup y = some c -> X.env.cells.lookup y = some c) (c2 : ∀ y ∈ scope.names, y.2 = .free -> ∃ c, cl.lookup y.1 = some c)
 (hin : ∀ (cl : List (Str × Addr)) (C : Addr) (s₀ : Shared) (H₀ : Hp) (ex : List Addr), PG (cxC X N' scope cl C s₀ H₀ ex) tg g /\ PIf (cxC X N' scope cl C s₀ H₀ ex) ifs tif /\ PE (cxC X N' scope cl C s₀ H₀ ex) elt te)
 (I : Inv X pins σ H s) (q : ∀ D, H D = none -> ∃ W : Nat -> Nat -> St -> List V -> Hp -> Prop, (∃ m, W 0 m (ZcB k js σ) [] (upd H D (.lst []))) /\ ZkX J g tif te D Q W)
 (hRR : ∀ (D C : Addr) (s' : Shared) (H' : Hp), s.heap.get? C = none -> (∃ m, s'.heap.Ns C m) -> Inv X pins σ H' s' -> FpOk X pins H' C -> Q (.ref D) H' -> RR (.ref D) C (.ok .next) s') :
 wpAny (model X.prog X.w) X.A (newList []) (fun acc s₃ => wpAny (model X.prog X.w) X.A (newFunctionEnv scope X.env.globals cl [] X.env.qual none .none (some X.env)) (fun cenv s₄ =>
  codeAny (model X.prog X.w) X.A (.compStart (.ListComp elt [⟨tg, iter, ifs, 0⟩] scope pos) 0 (.ref it) acc { cenv with scope := relabel scope X.env }) (RR acc cenv.locals) s₄) E s₃) E s := by
 refine wpAny_newObj_type (wpAny_newFunctionEnv S.nocell (by intro y hy; simp at hy) (fun h₁ hns₁ hsb₁ => ?_) S.kind)
 dsimp only at hns₁ hsb₁ ⊢
 generalize hH2 : s.heap.push { cls := .type "list", dict := none, data := .seq ([] : List Value).toArray } = H2 at hns₁ hsb₁ ⊢
 have hC : H2.objs.size = s.heap.objs.size + 1 := by rw [<- hH2, Heap.size_push]
 rw [hC] at hns₁ hsb₁ ⊢
 have kp : ∀ b o, s.heap.get? b = some o -> h₁.get? b = some o := fun b o e => hsb₁.extBut b o (Nat.ne_of_lt (Nat.lt_succ_of_lt (Heap.lt_size e))) (Heap.get?_push_of_some _ (hH2 ▸ Heap.get?_push_of_some _ e))
 have hD : h₁.get? s.heap.objs.size = some { cls := .type "list", data := .seq #[] } := hsb₁.extBut _ _ (Nat.ne_of_lt (Nat.lt_succ_self _)) (Heap.get?_push_of_some _ (hH2 ▸ Heap.get?_push_size _ rfl))
 have hfo : ∀ b ∈ fp, b < s.heap.objs.size := fun b hb => by obtain ⟨o, e, _⟩ := T.obj _ _ st b hb; exact Heap.lt_size e
 obtain ⟨W, ⟨m0, w0⟩, turn⟩ := q s.heap.objs.size (I.hok.fresh (Nat.le_refl _))
 obtain ⟨gG, gI, gE⟩ := hin cl (s.heap.objs.size + 1) s H fp
 have fresh1 : s.heap.get? (s.heap.objs.size + 1) = none := by
  cases e : s.heap.get? (s.heap.objs.size + 1) with
  | none => rfl
  | some o => exact absurd (Heap.lt_size e) (Nat.not_lt.mpr (Nat.le_succ _))
 have I1 : ∀ tk, Inv (cxC X N' scope cl (s.heap.objs.size + 1) s H fp) [] (ZcB k js σ) (upd H s.heap.objs.size (.lst [])) { s with heap := h₁, toks := tk } := fun tk => ZmN I S hf hfo c1 c2 ⟨_, hns₁⟩ kp hD
 have ffr : ∀ b ∈ fp, upd H s.heap.objs.size (.lst []) b = none := fun b hb => by
  rw [Zt (Nat.ne_of_lt (hfo b hb))]
  exact (hf b hb).1
 have exs : ∀ b ∈ fp, b ∉ frs X.stack := (I1 0).ok.exfs
 have stat : ∀ {H' : Hp}, (∀ b ∈ fp, H' b = none) -> ∀ b ∈ fp, FpOk (cxC X N' scope cl (s.heap.objs.size + 1) s H fp) [] H' b := fun hn b hb =>
  ⟨hn b hb, ((I1 0).ok.exf b hb).1, exs b hb, .inl hb, ((I1 0).ok.exf b hb).2, fun p hp => (nomatch hp)⟩
 have st1 : tn 0 h₁ := T.keep _ _ _ st fun b _ o e => kp b o e
 have loop : ∀ tk, codeAny (model X.prog X.w) X.A (.compLoop (.ListComp elt [⟨tg, iter, ifs, 0⟩] scope pos) 0 (.ref it) (.ref s.heap.objs.size) (compEnvC scope cl (s.heap.objs.size + 1) X.env))
  (RR (.ref s.heap.objs.size) (s.heap.objs.size + 1)) { s with heap := h₁, toks := tk } := fun tk => by
  refine ZlM (X := cxC X N' scope cl (s.heap.objs.size + 1) s H fp) (fun _ _ z => z) hc T gG gI gE stat turn (fun σ' H' s' J q' => ?_) (I1 tk) st1 ffr Zv w0
  have u : Un (frs X.stack) fp H H' s.heap s'.heap := J.base
  have J1 : Inv X pins σ H' s' := I.call' J.os u J.hok J.bare fun b hb => ⟨(hf b hb).2.2.2.1, (hf b hb).2.1, (hf b hb).2.2.2.2.1, (hf b hb).2.2.2.2.2⟩
  obtain ⟨m', hn', _⟩ := J.loc
  refine hRR _ _ s' H' fresh1 ⟨m', hn'⟩ J1 ⟨J.free, Nat.ne_of_gt (Nat.lt_succ_of_lt I.lt), I.nofs (Nat.le_succ _), .inr (Nat.le_trans I.sz (Nat.le_succ _)), fun x c e z => ?_, fun p hp z => ?_⟩ q'
  . obtain ⟨v, qc⟩ := I.cell x c e
    have h1 := qc.lt
    rw [z] at h1
    exact absurd h1 (Nat.not_lt.mpr (Nat.le_succ _))
  . have h1 := Heap.lt_size (I.pin p hp).1
    rw [z] at h1
    exact absurd h1 (Nat.not_lt.mpr (Nat.le_succ _))
 exact codeAny_compStart_list (loop _) (T.self X.A 0 _ _ _ st1 (loop _))
theorem Zot {elt tg iter : Expr} {ifs : List Expr} {scope : Scope} {pos : Pos} {k : Nat} {js : List Nat} {N' : List Str} {wi : TI} {g : TG} {tif : TT} {te : TE}
 (hc : X.calm = true) (S : CompScope X k js N' scope) (hi : PI X tg iter wi)
 (hin : ∀ (cl : List (Str × Addr)) (C : Addr) (s₀ : Shared) (H₀ : Hp) (ex : List Addr), PG (cxC X N' scope cl C s₀ H₀ ex) tg g /\ PIf (cxC X N' scope cl C s₀ H₀ ex) ifs tif /\ PE (cxC X N' scope cl C s₀ H₀ ex) elt te)
 (hs : ∀ x, foldedSetIterable iter X.env x = pure x := by intro _; rfl) : PE X (.ListComp elt [⟨tg, iter, ifs, 0⟩] scope pos) (ZiN k js wi g tif te) := by
 intro pins s σ H Q I h
 obtain ⟨cl, ec, c1, c2⟩ := Zhf (scope := scope) (env := X.env) fun y hy hf => I.ok.has y.1 (S.free y hy hf)
 rw [eval_ListComp]
 refine wpAny_comprehension_free (use := none) rfl hs ec S.kind S.names (thn (hi pins s σ H _ I h) fun xv s1 h1 => thn h1 fun itv s2 h2 => ?_)
 obtain ⟨it, fp, tn, J, H2, e, I2, T, st2, f2, q⟩ := h2
 subst e
 refine Zhg (RR := fun acc C => compPost (model X.prog X.w) X.A X.xe none (EP X pins σ Q) acc C) hc S T st2 f2 c1 c2 hin I2 q ?_
 intro D C s' H' _ hn J1 fC q'
 obtain ⟨m', hn⟩ := hn
 obtain ⟨f0, f1, f2, f3, f4, f5⟩ := fC
 exact ⟨m', hn, fun h' hs' => ⟨.ref D, H', J1.turned (t' := s'.toks) (fun b o hb e => hs'.extBut b o hb e) f0 f1 f3 f4 f5, rfl, q'⟩⟩
theorem Zou {i : Nat} {x : Str} {elt tg iter : Expr} {ifs : List Expr} {scope : Scope} {pos spos pos' : Pos} {k : Nat} {js : List Nat} {N' : List Str} {wi : TI} {g : TG} {tif : TT} {te : TE}
 (hN : X.N.Nodup) (hi : X.N[i]? = some x) (hx : Loc X.env.scope x)
 (hc : X.calm = true) (S : CompScope X k js N' scope) (hit : PI X tg iter wi)
 (hin : ∀ (cl : List (Str × Addr)) (C : Addr) (s₀ : Shared) (H₀ : Hp) (ex : List Addr), PG (cxC X N' scope cl C s₀ H₀ ex) tg g /\ PIf (cxC X N' scope cl C s₀ H₀ ex) ifs tif /\ PE (cxC X N' scope cl C s₀ H₀ ex) elt te)
 (hsw : swapsWith (.ListComp elt [⟨tg, iter, ifs, 0⟩] scope pos) (some (.Name x pos')) spos.line X.env = pure true := by rfl)
 (hf : X.fn x = true \/ X.env.scope.names.lookup x = some .local := by first | exact .inl rfl | exact .inr rfl | assumption)
 (hs : ∀ x, foldedSetIterable iter X.env x = pure x := by intro _; rfl) : PS X (.Assign [.Name x pos'] (.ListComp elt [⟨tg, iter, ifs, 0⟩] scope pos) spos) (tAsg (ZiN k js wi g tif te) (Zfc i)) := by
 intro pins s σ H D I h
 obtain ⟨cl, ec, c1, c2⟩ := Zhf (scope := scope) (env := X.env) fun y hy hf => I.ok.has y.1 (S.free y hy hf)
 (rw [exec_Assign_Name_used _ _ _ _ hsw])
 (refine wpAny_bind (wpAny_standAt (wpAny_bind ?_)))
 show wpAny _ X.A (do let _ <- comprehension (.ListComp elt [⟨tg, iter, ifs, 0⟩] scope pos) scope X.env _ (newList []) false (eval iter X.env) (some (assign (.Name x pos') X.env))) _ _ s
 refine wpAny_bind (wpAny_mono (wpAny_comprehension_free (use := some (assign (.Name x pos') X.env)) (Q := fun _ s' => SP X pins D .next s') rfl hs ec S.kind S.names
  (thn (hit pins s σ H _ I h) fun xv s1 h1 => thn h1 fun itv s2 h2 => ?_)) (fun _ s' hq => wpAny_pure (wpAny_pure hq)) fun _ _ e => e)
 obtain ⟨it, fp, tn, J, H2, e, I2, T, st2, f2, q⟩ := h2
 subst e
 refine Zhg (Q := fun v H' => Zfc i v σ H' D.nx) (RR := fun acc C => compPost (model X.prog X.w) X.A X.xe (some (assign (.Name x pos') X.env)) (fun _ s' => SP X pins D .next s') acc C) hc S T st2 f2 c1 c2 hin I2 q ?_
 intro Da C s' H' fr hn J1 fC q'
 obtain ⟨m', hn⟩ := hn
 obtain ⟨f0, f1, f2, f3, f4, f5⟩ := fC
 obtain ⟨oC, es, ep, hoC, hdC, hkC, hmC⟩ := id hn
 show wpAny _ X.A (assign (.Name x pos') X.env (.ref Da)) _ _ _
 have J2 : Inv X (pins ++ [(C, oC)]) σ H' s' := J1.pins_of fun p hp => by
  (rcases List.mem_append.mp hp with z | z)
  . exact J1.pin p (List.mem_append_right _ z)
  . have z' : p = (C, oC) := by simpa using z
    subst z'
    exact ⟨hoC, f0, f1, f2, fun v e => by rw [hdC] at e; cases e⟩
 refine wpAny_assign_Name (ZdK J2 hN hi hx (v := .ref Da) rfl (fun s'' I'' => ?_) hf)
 have hC'' := (I''.pin (C, oC) (List.mem_append_right _ (List.mem_append_right _ (by simp)))).1
 refine ⟨m', ⟨oC, es, ep, hC'', hdC, hkC, hmC⟩, fun h' hs' => ?_⟩
 have I3 : Inv X pins (σ.set i (some (.ref Da))) H' s'' := I''.unpinned
 exact ⟨_, H', I3.turned (t' := s''.toks) (fun b o hb e => hs'.extBut b o hb e) f0 f1 f3 f4 f5, q'⟩
end
end L2
namespace L2
open PySem PySem.Spec PyProof.Rows
mutual
inductive Den (K : Fg) (H : Hp) : V -> PyData -> Prop
 | non : Den K H .non .none
 | bl (b : Bool) : Den K H (.bl b) (.bool b)
 | int (i : Int) : Den K H (.int i) (.int i)
 | str (x : Str) : Den K H (.str x) (.str x)
 | lst {a : Addr} {vs : List V} {ds : List PyData} : SqL K H a vs -> DenL K H vs ds -> Den K H (.ref a) (.list ds)
 | tup {a : Addr} {vs : List V} {ds : List PyData} : SqT K H a vs -> DenL K H vs ds -> Den K H (.ref a) (.tuple ds)
inductive DenL (K : Fg) (H : Hp) : List V -> List PyData -> Prop
 | nil : DenL K H [] []
 | cons {v : V} {d : PyData} {vs : List V} {ds : List PyData} : Den K H v d -> DenL K H vs ds -> DenL K H (v :: vs) (d :: ds)
end
theorem Same.tupq {K : Fg} {H H' : Hp} {a : Addr} {xs : List V} (e : Same H H') (h : SqT K H a xs) : SqT K H' a xs := by
 rcases h with (h | ⟨o, h⟩) | h
 . exact .inl (.inl (e _ _ h))
 . exact .inl (.inr ⟨o, e _ _ h⟩)
 . exact .inr h
mutual
theorem Den.same {K : Fg} {H H' : Hp} (e : Same H H') : ∀ {v : V} {d : PyData}, Den K H v d -> Den K H' v d
 | _, _, .non => .non
 | _, _, .bl b => .bl b
 | _, _, .int i => .int i
 | _, _, .str x => .str x
 | _, _, .lst h r => .lst (e.seq h) (DenL.same e r)
 | _, _, .tup h r => .tup (e.tupq h) (DenL.same e r)
theorem DenL.same {K : Fg} {H H' : Hp} (e : Same H H') : ∀ {vs : List V} {ds : List PyData}, DenL K H vs ds -> DenL K H' vs ds
 | _, _, .nil => .nil
 | _, _, .cons h r => .cons (Den.same e h) (DenL.same e r)
end
section
variable {X : Cx} {pins : List (Addr × Obj)} {σ : St} {H : Hp} {s : Shared}
mutual
theorem Den.reads (I : Inv X pins σ H s) : ∀ {v : V} {d : PyData} {u : Value}, Den X.K H v d -> RelV v u -> ∃ as, Reads s.heap u d as
 | _, _, _, .non, r => by cases (show _ = Value.none from r); exact ⟨_, .none⟩
 | _, _, _, .bl b, r => by cases (show _ = Value.bool b from r); exact ⟨_, .bool b⟩
 | _, _, _, .int i, r => by obtain ⟨t, q⟩ := (show ∃ t, _ = Value.int i t from r); cases q; exact ⟨_, .int i t⟩
 | _, _, _, .str x, r => by obtain ⟨t, q⟩ := (show ∃ t, _ = Value.str x t from r); cases q; exact ⟨_, .str x t⟩
 | _, _, _, .lst (a := a) h q, r => by
  cases (show _ = Value.ref a from r)
  obtain ⟨its, rv, p, hz⟩ := I.list h
  obtain ⟨as, ra⟩ := DenL.reads I q rv
  obtain ⟨o, ho, hc, n, hd⟩ := p.isList
  exact ⟨_, .list ho hc hd (by simpa using ra)⟩
 | _, _, _, .tup (a := a) h q, r => by
  cases (show _ = Value.ref a from r)
  obtain ⟨its, rv, p, hz⟩ := I.tuple h
  obtain ⟨as, ra⟩ := DenL.reads I q rv
  obtain ⟨o, ho, hc, n, hd⟩ := (show s.heap.IsTuple a its.toArray from p)
  exact ⟨_, .tuple ho hc hd (by simpa using ra)⟩
theorem DenL.reads (I : Inv X pins σ H s) : ∀ {vs : List V} {ds : List PyData} {us : List Value}, DenL X.K H vs ds -> Vals vs us -> ∃ as, ReadsAll s.heap us ds as
 | _, _, _, .nil, r => by cases r; exact ⟨_, .nil⟩
 | _, _, _, .cons h q, r => by
  cases r with
  | cons r1 r2 =>
   obtain ⟨as, ra⟩ := Den.reads I h r1
   obtain ⟨bs, rb⟩ := DenL.reads I q r2
   exact ⟨_, .cons ra rb⟩
end
end
section
variable {X : Cx}
def rEqD (K : Fg) : R2 := fun x y H Q => ∃ d e, Den K H x d /\ Den K H y e /\ SeqAt.shaped d = true /\ SeqAt.shaped e = true /\ Q (.bl (PyData.eqv d e)) H
def rNeD (K : Fg) : R2 := fun x y H Q => ∃ d e, Den K H x d /\ Den K H y e /\ SeqAt.shaped d = true /\ SeqAt.shaped e = true /\ Q (.bl (!PyData.eqv d e)) H
theorem ZlN (hu : X.A.units + 64 < cLine) : OpR X (compareOp .Eq) (rEqD X.K) := by
 intro pins s σ H x y v u Q I rx ry h
 obtain ⟨d, e, hd, he, s1, s2, q⟩ := h
 obtain ⟨as, ra⟩ := hd.reads I rx
 obtain ⟨bs, rb⟩ := he.reads I ry
 exact eq_dataH ra rb s1 s2 hu ⟨.bl _, H, I, rfl, q⟩
theorem ZlO (hu : X.A.units + 64 < cLine) : OpR X (compareOp .NotEq) (rNeD X.K) := by
 intro pins s σ H x y v u Q I rx ry h
 obtain ⟨d, e, hd, he, s1, s2, q⟩ := h
 obtain ⟨as, ra⟩ := hd.reads I rx
 obtain ⟨bs, rb⟩ := he.reads I ry
 exact ne_dataH ra rb s1 s2 hu ⟨.bl _, H, I, rfl, q⟩
def rSlS : V -> Option Int -> Option Int -> Hp -> VK -> Prop := fun x lo hi H Q => ∃ z, x = .str z /\ z.length <= sizeLine /\ Q (.str (Txt.slice z lo hi)) H
theorem Zqf : SlR X rSlS := by
 intro pins s σ H x v vl vu lo hi sl Q I rx hs pl pu h
 obtain ⟨z, rfl, hz, q⟩ := h
 obtain ⟨t, rfl⟩ := rx
 refine ⟨"str", _, F.slot_str_getitem.lookup, typeIs_str _ _ _, ?_⟩
 have fin : ∀ t' k, EP X pins σ Q (.str (Txt.slice z lo hi) t') { s with toks := k } := fun t' k => ⟨.str _, H, I.tok k, ⟨t', rfl⟩, q⟩
 have hle := Nat.le_trans (Txt.slice_le z lo hi) hz
 cases pl with
 | none =>
  cases pu with
  | none => exact wpAny_getItem_str_slice (l := none) (u := none) (st := none) hs rfl (post_val_or_str ⟨hle, fin⟩)
  | int j tj => exact wpAny_getItem_str_slice (l := none) (u := some (j, tj)) (st := none) hs rfl (post_val_or_str ⟨hle, fin⟩)
 | int i ti =>
  cases pu with
  | none => exact wpAny_getItem_str_slice (l := some (i, ti)) (u := none) (st := none) hs rfl (post_val_or_str ⟨hle, fin⟩)
  | int j tj => exact wpAny_getItem_str_slice (l := some (i, ti)) (u := some (j, tj)) (st := none) hs rfl (post_val_or_str ⟨hle, fin⟩)
theorem ZmO (c : V) (cu : Value) (rc : RelV c cu) (huniq : ∀ u, RelV c u -> u = cu) : Zbm X (.builtin "isinstance") (fun xs H Q => ∃ x t b, xs = [x, c] /\ TyOf X.K H x t /\ PySem.W.kitOne X.K t cu = some b /\ Q (.bl b) H) := by
 intro pins s σ H xs us Q I r h
 obtain ⟨x, t, b, rfl, ty, e, q⟩ := h
 obtain ⟨u, w', rfl, ru, rw'⟩ := r.two
 obtain rfl := huniq w' rw'
 exact ZlA I ru ty e fun tk => ⟨.bl b, H, I.tok tk, rfl, q⟩
theorem Zov {h h' : Heap} {o : Obj} (hk : ∀ b x, b ∉ [h.objs.size] -> (h.push o).get? b = some x -> h'.get? b = some x) : ∀ b x, h.get? b = some x -> h'.get? b = some x :=
 fun c o e => hk c o (fun hm => by rw [List.mem_singleton.mp hm] at e; exact Nat.lt_irrefl _ (Heap.lt_size e)) (Heap.get?_push_of_some _ e)
noncomputable def fmtV : V -> Option Str
 | .int i => if i.natAbs.log2 < 1920 then some (toString i : String) else none
 | .str x => some x
 | .non => some ("None" : String)
 | _ => none
def tFmt (te : TE) : TE := fun σ H Q => te σ H fun x H1 => ∃ z, fmtV x = some z /\ z.length <= sizeLine /\ Q (.str z) H1
theorem Zqg {e : Expr} {te : TE} {pos : Pos} (h : PE X e te) : PE X (.FormattedValue e (-1) none pos) (tFmt te) := by
 intro pins s σ H Q I hw
 refine PyProof.Rows.FormattedValue_plain (thn (h pins s σ H _ I hw) fun v s1 ⟨x, H1, I1, r1, z, e1, hz, q⟩ => ?_)
 have fin : ∀ t' k, EP X pins σ Q (.str z t') { s1 with toks := k } := fun t' k => ⟨.str _, H1, I1.tok k, ⟨t', rfl⟩, q⟩
 cases x with
 | int i =>
  obtain ⟨t, rfl⟩ := r1
  unfold fmtV at e1
  simp only at e1
  split at e1
  . rename_i hl
    cases e1
    exact PyProof.Rows.formatField_int_small hl (fin _ _)
  . cases e1
 | str y =>
  obtain ⟨t, rfl⟩ := r1
  cases e1
  exact PyProof.Rows.formatField_str (fun t' k => fin t' k) hz
 | non =>
  cases (show v = Value.none from r1)
  cases e1
  exact wpAny_formatField_none (fin _ _)
 | _ => cases e1
noncomputable def ZiO : List TE -> Str -> TE
 | [], acc => fun _ H Q => Q (.str acc) H
 | t :: r, acc => fun σ H Q => t σ H fun x H1 => ∃ z, x = .str z /\ (acc ++ z).length <= sizeLine /\ ZiO r (acc ++ z) σ H1 Q
def PEs (X : Cx) : List Expr -> List TE -> Prop := Paired (PE X)
theorem Zhh : ∀ {es : List Expr} {ts : List TE} (acc : Str) (pins : List (Addr × Obj)) (s : Shared) (σ : St) (H : Hp) (Q : VK), PEs X es ts -> acc.length <= sizeLine -> Inv X pins σ H s -> ZiO ts acc σ H Q ->
 wpAny (model X.prog X.w) X.A (joinParts acc (es.map fun e => eval e X.env)) (EP X pins σ Q) X.xe s
 | _, _, acc, pins, s, σ, H, Q, .nil, hz, I, h => PyProof.Rows.joinParts_nil ⟨.str acc, H, I.tok _, ⟨_, rfl⟩, h⟩ hz
 | _, _, acc, pins, s, σ, H, Q, .cons h1 h2, hz, I, h => by
  refine PyProof.Rows.joinParts_cons (thn (h1 pins s σ H _ I h) fun v s1 ⟨x, H1, I1, r1, z, e, hl, q⟩ => ?_)
  subst e
  obtain ⟨t, rfl⟩ := r1
  exact ⟨hl, Zhh (acc ++ z) pins s1 σ H1 Q h2 hl I1 q⟩
theorem ZfX (env : Env) : ∀ es : List Expr, evalEach es env = es.map fun e => eval e env
 | [] => rfl
 | e :: es => by
  have ih := ZfX env es
  show eval e env :: evalEach es env = _
  rw [ih, List.map_cons]
theorem Zow {a b : Expr} {es : List Expr} {ts : List TE} {pos : Pos} (h : PEs X (a :: b :: es) ts) : PE X (.JoinedStr (a :: b :: es) pos) (ZiO ts Str.empty) := by
 intro pins s σ H Q I hw
 have q := Zhh (X := X) Str.empty pins s σ H Q h (by decide) I hw
 refine PyProof.Rows.JoinedStr_many ?_
 rw [ZfX]
 exact q
end
end L2
namespace L2
open PySem PySem.Spec PyProof.Rows
noncomputable def Its (x : Str) : It := ⟨fun i _ => i < x.cps.size, fun i H v H' => H' = H /\ ∃ c, x.cps[i]? = some c /\ v = .str ⟨#[c]⟩, fun i _ => x.cps.size <= i⟩
theorem ZmP {P : Program} {w : World} {K : Fg} {tg : Expr} (it : Addr) (x : Str) (t : Tok) {ty : String} (hty : ty = "str_ascii_iterator" \/ ty = "str_iterator") : Turn P w K tg (Its x) [it] it (fun i h => i <= x.cps.size /\ h.IsStrIter it ty x t i) where
 mem := by simp
 obj := fun i h st b hb => by
  have e : b = it := by simpa using hb
  subst e
  obtain ⟨_, o, e, c, d⟩ := st
  exact ⟨o, e, fun v z => by rw [d] at z; cases z⟩
 keep := fun i h h' st k => ⟨st.1, let ⟨o, ho, r⟩ := st.2; ⟨o, k it (by simp) o ho, r⟩⟩
 item := by
  intro X hP hw hK hc i pins s σ H E I hf st hg
  subst hP hw hK
  obtain ⟨f0, f1, f2, f3, f4, f5⟩ := hf it (by simp)
  have go : ∀ {W : Walks X.prog X.w X.A it [it] [it] x.cps.size (SignAt x) (fun i h => h.IsStrIter it ty x t i)}, wpAny (model X.prog X.w) X.A (pyNext (.ref it)) (fun r s1 => ∃ u, r = some u /\
   wpAny (model X.prog X.w) X.A (letOwnedTupleGo tg (.ref it) u) (fun _ s2 => ∃ v H', Inv X pins σ H' s2 /\ RelV v u /\ (Its x).yld i H v H' /\ (i + 1 <= x.cps.size /\ s2.heap.IsStrIter it ty x t (i + 1)) /\ ∀ b ∈ [it], H' b = none) E s1) E s := fun {W} => by
   refine W.item i s _ _ hg st.2 fun v h' tk hv st' kk => ?_
   obtain ⟨c, u, ec, rfl⟩ := hv
   have I1 : Inv X pins σ H { s with heap := h', toks := tk } := I.turned (fun b o hb e => kk b o (by simpa using hb) e) f0 f1 f3 f4 f5
   obtain ⟨o, e, cc, d⟩ := id st'
   refine ⟨_, rfl, ZiM (s := { s with heap := h', toks := tk }) e cc d ?_ ⟨.str ⟨#[c]⟩, H, I1, ⟨u, rfl⟩, ⟨rfl, c, ec, rfl⟩, ⟨hg, st'⟩, fun b hb => (hf b hb).1⟩⟩
   rcases hty with rfl | rfl <;> decide
  rcases hty with rfl | rfl
  . exact go (W := Walks.strAscii (I.ok.hd hc) it x t)
  . exact go (W := Walks.strWide (I.ok.hd hc) it x t)
 done := by
  intro X hP hw hK hc i pins s σ H E I hf st hg
  subst hP hw hK
  obtain ⟨f0, f1, f2, f3, f4, f5⟩ := hf it (by simp)
  obtain rfl : i = x.cps.size := Nat.le_antisymm st.1 hg
  rcases hty with rfl | rfl
  . exact (Walks.strAscii (prog := X.prog) (w := X.w) (I.ok.hd hc) it x t).done s _ _ st.2 fun h' tk kk => ⟨rfl, I.turned (fun b o hb e => kk b o (by simpa using hb) e) f0 f1 f3 f4 f5⟩
  . exact (Walks.strWide (prog := X.prog) (w := X.w) (I.ok.hd hc) it x t).done s _ _ st.2 fun h' tk kk => ⟨rfl, I.turned (fun b o hb e => kk b o (by simpa using hb) e) f0 f1 f3 f4 f5⟩
 self := fun A i s Q E st h => by
  rcases hty with rfl | rfl
  . exact wpAny_pyIter_striter_ascii st.2 h
  . exact wpAny_pyIter_striter_wide st.2 h
section
variable {X : Cx} {tg : Expr}
noncomputable def iStr (tl : TE) : TI := fun σ H R => tl σ H fun v H1 => ∃ x, v = .str x /\ R (Its x) H1
theorem Zqh {l : Expr} {tl : TE} (hl : PE X l tl) : PI X tg l (iStr tl) := by
 intro pins s σ H R I h
 refine thn (hl pins s σ H _ I h) fun v s1 ⟨y, H1, I1, r1, q1⟩ => ?_
 obtain ⟨x, e, q⟩ := q1
 subst e
 obtain ⟨t, rfl⟩ := r1
 have fin : ∀ (o : Obj) (ty : String), (ty = "str_ascii_iterator" \/ ty = "str_iterator") -> (s1.heap.push o).IsStrIter s1.heap.objs.size ty x t 0 -> PIE X pins σ tg R (.ref s1.heap.objs.size) { s1 with heap := s1.heap.push o } := fun o ty hty hit => by
  refine ⟨s1.heap.objs.size, [s1.heap.objs.size], _, _, H1, rfl, I1.kept (t' := s1.toks) fun b o e => Heap.get?_push_of_some _ e, ZmP _ x t hty, ⟨Nat.zero_le _, hit⟩, fun b hb => ?_, q⟩
  have e : b = s1.heap.objs.size := by simpa using hb
  subst e
  exact I1.fpOk (Nat.le_refl _) (I1.hok.fresh (Nat.le_refl _))
 (cases ha : x.cps.all (· < 128))
 . exact wpAny_pyIter_wide ha (fin _ _ (.inr rfl) ⟨_, Heap.get?_push_size _ rfl, rfl, rfl⟩)
 . exact wpAny_pyIter_ascii ha (fin _ _ (.inl rfl) ⟨_, Heap.get?_push_size _ rfl, rfl, rfl⟩)
end
end L2
namespace L2
open PySem PySem.Spec PyProof.Rows
structure FnAt (P : Program) (w : World) (K : Fg) (mg : Str -> Option Value) (base : Heap) (x : Str) (k : Nat) (ps : List Str) (sp : Sp) : Prop where
 ex : ∃ (f : Addr) (fd : FuncData), FnOk P w K mg base CX0 k f fd ps sp /\ mg x = some (.ref f) /\ PySem.W.keepIn K (.ref f) = true /\ Binds K fd ps []
section
variable {X : Cx} {x m : Str} {j n : Nat} {ps : List Str} {sp : Sp} {C : Addr} {e o : Expr} {es : List Expr} {ta : TE} {t : TA} {p pos apos : Pos}
theorem ZrK (G : FnAt X.prog X.w X.K X.mg X.base x j ps sp) (hr : Room n X.A) (ha : PA X (e :: es) t) (hj : j <= n := by decide) (hg : Gl X x := by rfl) (hdb : (x == ("__debug__" : Str)) = false := by decide)
 (he : starEach (e :: es) X.env = (false, eval e X.env) :: starEach es X.env := by rfl) (hpl : (backTo pos (starEach es X.env)).any (·.1) = false := by rfl) : PE X (.Call (.Name x p) (e :: es) [] pos) (ZnD sp [] E0 t) := by
 obtain ⟨f, fd, F, hm, hk, hb⟩ := G.ex
 exact Zoe F (hr.mono hj) hg hm hk hb .nil ZrF ha hdb he hpl
end
theorem ZgF (j : Nat) (js : List Nat) (σ : St) : Zdk (j :: js) σ = (σ[j]?).join :: Zdk js σ := rfl
end L2
namespace L2
open PySem PySem.Spec PyProof.Rows
theorem ZeM : bootBuiltins "isinstance" = some (.builtin "isinstance") := by decide +kernel
theorem ZrL : bootBuiltins "int" = some (.type "int") := by decide +kernel
theorem ZlP : bootBuiltins "bool" = some (.type "bool") := by decide +kernel
end L2
namespace L2
open PySem PySem.Spec PyProof.Rows
noncomputable def Zd (sc : Scope) (N : List Str) (i : Nat) (x : Str) (b : Bool) : Bool := N[i]? == some x && sc.names.lookup x == some (if b then .cell else .local) && !(x == ("__debug__" : Str)) && !(x == ("__classdict__" : Str))
noncomputable def Zdl (sc : Scope) (N : List Str) (i : Nat) (x : Str) : Bool := N[i]? == some x && (sc.names.lookup x == some .cell || sc.names.lookup x == some .free) && !(x == ("__debug__" : Str)) && !(x == ("__classdict__" : Str))
noncomputable def glOk (sc : Scope) (x : Str) : Bool := sc.names.lookup x == some .globalImplicit && !(x == ("__debug__" : Str)) && !(x == ("__name__" : Str))
noncomputable def Zal (scope osc : Scope) : Scope :=
 { scope with names := scope.names.map fun (n, k) => if (k == .free && osc.kind == .function && osc.names.lookup n == some .cell) then (n, .cell) else (n, k) }
section
variable {X : Cx} {sc : Scope} {N : List Str} {i : Nat} {x : Str} {b : Bool} {pos : Pos}
theorem Zd.at (h : Zd sc N i x b = true) : N[i]? = some x /\ sc.names.lookup x = some (if b then .cell else .local) /\ (x == ("__debug__" : Str)) = false /\ (x == ("__classdict__" : Str)) = false := by
 unfold Zd at h
 (simp only [Bool.and_eq_true, Bool.not_eq_true'] at h)
 exact ⟨eq_of_beq h.1.1.1, eq_of_beq h.1.1.2, h.1.2, h.2⟩
theorem Zd.loc (h : Zd sc N i x b = true) : Loc sc x := by
 have q := (Zd.at h).2.1
 cases b
 . exact .inl q
 . exact .inr q
theorem pvs (h : Zd sc N i x b = true) (e1 : X.env.scope = sc := by rfl) (e2 : X.N = N := by rfl) : PE X (.Name x pos) (tVar i) := by
 obtain ⟨h1, h2, h3, h4⟩ := Zd.at h
 have l := Zd.loc h
 subst e1 e2
 refine Zl2 h1 ?_ h3 h4
 rcases l with l | l
 . exact .inl l
 . exact .inr (.inl l)
theorem pvf (h : Zdl sc N i x = true) (e1 : X.env.scope = sc := by rfl) (e2 : X.N = N := by rfl) : PE X (.Name x pos) (tVar i) := by
 unfold Zdl at h
 simp only [Bool.and_eq_true, Bool.not_eq_true', Bool.or_eq_true] at h
 subst e1 e2
 refine Zl2 (eq_of_beq h.1.1.1) ?_ h.1.2 h.2
 rcases h.1.1.2 with l | l
 . exact .inr (.inl (eq_of_beq l))
 . exact .inr (.inr (eq_of_beq l))
theorem glk (h : glOk sc x = true) (e1 : X.env.scope = sc := by rfl) : Gl X x := by
 unfold glOk at h
 (simp only [Bool.and_eq_true] at h)
 subst e1
 exact eq_of_beq h.1.1
theorem dbk (h : glOk sc x = true) : (x == ("__debug__" : Str)) = false := by
 unfold glOk at h
 (simp only [Bool.and_eq_true, Bool.not_eq_true'] at h)
 exact h.1.2
theorem nmk (h : glOk sc x = true) : x ≠ "__name__" := by
 unfold glOk at h
 (simp only [Bool.and_eq_true, Bool.not_eq_true'] at h)
 intro e
 have := h.2
 rw [e, beq_self_eq_true] at this
 cases this
theorem ZmQ (h : Zd sc N i x b = true) (nd : N.Nodup) (e1 : X.env.scope = sc := by rfl) (e2 : X.N = N := by rfl) (hf : X.fn x = true \/ b = false := by first | exact .inl rfl | exact .inr rfl) : PG X (.Name x pos) (Zfc i) := by
 obtain ⟨h1, h2, h3, h4⟩ := Zd.at h
 have l := Zd.loc h
 subst e1 e2
 refine Zkr nd h1 l ?_
 rcases hf with q | q
 . exact .inl q
 . subst q
   exact .inr h2
noncomputable def ZeN (osc scope : Scope) (x : Str) : Bool := osc.kind == .function && osc.names.lookup x == some .local && !(scope.names.any fun (n, k) => n == x && (k == .local || k == .cell))
theorem ZkY {elt : Expr} {gens : List Comprehension} {scope osc : Scope} {pos' : Pos} {line : Nat} {env : Env} (h : ZeN osc scope x = true) (hl : (pos'.line == pos.line) = true) (e : env.scope = osc) :
 swapsWith (.ListComp elt gens scope pos) (some (.Name x pos')) line env = pure true := by
 subst e
 unfold ZeN at h
 (simp only [Bool.and_eq_true, Bool.not_eq_true'] at h)
 obtain ⟨⟨h1, h2⟩, h3⟩ := h
 show (pure (env.blockKind == .function && env.kindOf x == some .local && pos'.line == pos.line && !(scope.names.any fun (n, k) => n == x && (k == .local || k == .cell))) : Sem Bool) = pure true
 have hb : (env.blockKind == ScopeKind.function) = true := by
  unfold Env.blockKind
  rw [eq_of_beq h1]
  rfl
 have hk : (env.kindOf x == some NameKind.local) = true := h2
 rw [hb, hk, hl, h3]
 rfl
theorem ZkZ {elt : Expr} {gens : List Comprehension} {scope osc : Scope} {pos' : Pos} {line : Nat} {env : Env} (h : (osc.names.lookup x == some .cell) = true) (e : env.scope = osc) :
 swapsWith (.ListComp elt gens scope pos) (some (.Name x pos')) line env = pure false := by
 subst e
 show (pure (env.blockKind == .function && env.kindOf x == some .local && pos'.line == pos.line && !(scope.names.any fun (n, k) => n == x && (k == .local || k == .cell))) : Sem Bool) = pure false
 have hk : (env.kindOf x == some NameKind.local) = false := by
  have q : env.kindOf x = some .cell := eq_of_beq h
  rw [q]
  rfl
 rw [hk, Bool.and_false, Bool.false_and, Bool.false_and]
theorem ZmR {elt tg iter : Expr} {ifs : List Expr} {scope : Scope} {spos pos' : Pos} {k : Nat} {js : List Nat} {N' : List Str} {wi : TI} {g : TG} {tif : TT} {te : TE}
 (h : Zd sc N i x false = true) (nd : N.Nodup) (hw : ZeN sc scope x = true)
 (hc : X.calm = true) (S : CompScope X k js N' scope) (hit : PI X tg iter wi)
 (hin : ∀ (cl : List (Str × Addr)) (C : Addr) (s₀ : Shared) (H₀ : Hp) (ex : List Addr), PG (cxC X N' scope cl C s₀ H₀ ex) tg g /\ PIf (cxC X N' scope cl C s₀ H₀ ex) ifs tif /\ PE (cxC X N' scope cl C s₀ H₀ ex) elt te)
 (hl : (pos'.line == pos.line) = true := by rfl) (e1 : X.env.scope = sc := by rfl) (e2 : X.N = N := by rfl)
 (hs : ∀ x, foldedSetIterable iter X.env x = pure x := by intro _; rfl) : PS X (.Assign [.Name x pos'] (.ListComp elt [⟨tg, iter, ifs, 0⟩] scope pos) spos) (tAsg (ZiN k js wi g tif te) (Zfc i)) := by
 obtain ⟨h1, h2, h3, h4⟩ := Zd.at h
 have l := Zd.loc h
 have w := fun (e : X.env.scope = sc) => ZkY (elt := elt) (gens := [⟨tg, iter, ifs, 0⟩]) (pos := pos) (line := spos.line) hw hl e
 have w1 := w e1
 subst e1 e2
 exact Zou nd h1 l hc S hit hin w1 (.inr h2) hs
end
end L2
namespace L2
open PySem
section
variable {A : Around} {M : Model} {s : Shared} {E : Value -> Shared -> Prop}
theorem Zla {q : Pos} {T : String} {xs : List (Bool × Sem Value)} {ks : List (Option Str × Sem Value)} {Q : Value -> Shared -> Prop} (h1 : xs.any (·.1) = false) (h2 : ks.any (·.1.isNone) = false)
 (h : wpAny M A (evalArgs (.type T) true xs ks) (fun a s1 => wpAny M A (call (.type T) a.pos a.kw) Q E s1) E s) : wpAny M A (callWith q (.type T) [] xs ks) Q E s := by
 unfold callWith
 refine wpAny_bind (wpAny_holding (wpAny_mono h (fun a s1 z => wpAny_bind (wpAny_standAt ?_)) fun _ _ y => y))
 simp only [h1, h2, Bool.or_false]
 exact wpAny_bind (wpAny_pure (wpAny_bind (wpAny_mono z (fun r s2 y => wpAny_bind (wpAny_holding (wpAny_point (wpAny_pure y)))) fun _ _ y => y)))
end
section
variable {prog : Program} {w : World} {A : Around} {E : Value -> Shared -> Prop} {s : Shared}
theorem Zox {T newId : String} {o : Value} {xs : List Value} {kw : List (Str × Value)} (hl : typeLookup (.type T) "__init__" = pure (some (.builtin "object.__init__"))) (hm : Bind.madeBy (.type T) = pure (some newId)) (hne : (some newId != some "object.__new__") = true) (hx : xs ≠ []) :
 Meets (Builtin.«object.__init__» ⟨o :: xs, kw⟩) (fun _ R s => s.TypeIs o T /\ R (.ok (.ret .none)) s) := by
 refine Meets.of_wp fun prog w A R s ⟨hT, hq⟩ => ?_
 cases xs with
 | nil => exact absurd rfl hx
 | cons a xs =>
  (repeat (any_goals (first | assumption | wp_step)))
  exact ⟨.none, rfl, hq⟩
theorem Zoy {T newId : String} {Bn : Builtin} {xs : List Value} {kw : List (Str × Value)} {S : Spec} {Q : Value -> Shared -> Prop} (ft : TypeCalled T newId "object.__init__") (hne : (some newId != some "object.__new__") = true)
 (c1 : checkTypeCall T ⟨xs, kw⟩ = pure ()) (c2 : checkBuiltinCall newId ⟨.type T :: xs, kw⟩ = pure ()) (c3 : ∀ o, argsOk "object.__init__" ⟨o :: xs, kw⟩) (hx : xs ≠ []) (en : entryFor table newId = some Bn) (g : Meets (Bn ⟨.type T :: xs, kw⟩) S)
 (h : S A.in1 (wants (fun o s1 => s1.TypeIs o T /\ Q o s1) E) s) : wpAny (model prog w) A (call (.type T) xs kw) Q E s := by
 obtain ⟨c, tl, hm⟩ := ft.mro
 have hmd := ft.made
 have hsb := ft.sub
 refine wpAny_call (codeAny_of_tree (show wpAny _ _ (callAny (.type T) _) _ _ _ from ?_))
 refine wpAny_pure (And.intro (Code.quiet_builtin _ (by decide +kernel)) (codeAny_builtin F.entry_type_call ?_))
 rw [Around.under_plain (weight_type_call_type T xs kw) (units_type_call_type T xs kw)]
 have n1 := ft.notType
 have n2 := ft.canCreate
 (repeat (any_goals (first | assumption | wp_step)))
 refine codeAny_mono (codeAny_call_builtin ft.plain en (wpAny_of_eq c2 (g prog w A.in1 _ s h))) fun r s1 hr => ?_
 cases r with
 | error e => exact hr
 | ok fl =>
  cases fl with
  | ret o =>
   obtain ⟨hT, hQ⟩ := hr
   have b1 := ft.init.lookup
   have b2 := ft.init.bind o
   (repeat (any_goals (first | assumption | wp_step)))
   refine codeAny_mono (codeAny_call_builtin ft.init.plain F.entry_object_init (ft.init.check _ _ _ _ _ _ _ _ hT (c3 o) (Zox b1 hmd hne hx prog w A.in1 (wants (fun r s2 => r = .none /\ Q o s2) E) s1 ⟨hT, rfl, hQ⟩))) fun r2 s2 hr2 => ?_
   cases r2 with
   | error e => exact hr2
   | ok fl2 =>
    cases fl2 with
    | ret r =>
     obtain ⟨rfl, hq⟩ := hr2
     (repeat (any_goals (first | assumption | wp_step)))
    | _ => exact hr2.elim
  | _ => exact hr.elim
theorem Zqi {α β : Type} {M : Model} {A : Around} {E : Value -> Shared -> Prop} {s : Shared} {Q : β -> Shared -> Prop} {f : α -> Sem β} {x : α} (h : ∀ a, wpAny M A (f a) Q E s) : wpAny M A (f x) Q E s := h x
theorem ZlQ (a : Value) (c : Int) (t : Tok) : checkTypeCall "enumerate" ⟨[a], [("start", .int c t)]⟩ = pure () := by kernel_rfl
theorem ZlR (a : Value) (c : Int) (t : Tok) : checkBuiltinCall "enumerate.__new__" ⟨[.type "enumerate", a], [("start", .int c t)]⟩ = pure () := by kernel_rfl
theorem ZlS (o a : Value) (c : Int) (t : Tok) : argsOk "object.__init__" ⟨[o, a], [("start", .int c t)]⟩ := by
 unfold argsOk; rw [signature?_of (id := "object.__init__") (n := ['_', '_', 't', 'i', 'n', 'i', '_', '_']) (o := ['t', 'c', 'e', 'j', 'b', 'o']) (by kernel_rfl) F.owner_object]; kernel_rfl
theorem Zqj (l : Addr) (its : Array Value) (c : Int) (t : Tok) (hc : Builtin.SmallTypes.fitsIndex c = true) :
 Meets (Builtin.«enumerate.__new__» ⟨[.type "enumerate", .ref l], [("start", .int c t)]⟩) (fun _ R s => s.heap.IsList l its /\ R (.ok (.ret (.ref (s.heap.push { cls := .type "list_iterator", data := .fields #[.ref l, .int 0 0] }).objs.size)))
  { s with heap := (s.heap.push { cls := .type "list_iterator", data := .fields #[.ref l, .int 0 0] }).push { cls := .type "enumerate", data := .fields #[.none, .bool false, .ref s.heap.objs.size, rawInt c, .none, .none] } }) :=
 .of_wp fun prog w A R s h => by
  obtain ⟨hp, gs, dr, tk, os⟩ := s
  obtain ⟨hL, h⟩ := h
  obtain ⟨⟨cl, dct, dt, sl⟩, hl, e1, n, e2⟩ := id hL
  replace e1 : cl = .type "list" := e1
  replace e2 : dt = .seq its n := e2
  subst e1 e2
  have hsub := sub_enumerate
  wp_walk using AutoSeq1.wpAny_loadPart' hl
  (refine wpAny_stack_any fun st => wpAny_pure ?_)
  refine Zqi fun short => ?_
  have hf : (!Builtin.SmallTypes.fitsIndex c) = false := by rw [hc]; rfl
  cases short
  . refine wpAny_bind (wpAny_of_eq (a := (Value.ref l, some (Value.int c t))) (by kernel_rfl) ?_)
    wp_walk using wpAny_pyIter_list hL
    exact ⟨_, rfl, h⟩
  . refine wpAny_bind (wpAny_of_eq (a := (Value.ref l, some (Value.int c t))) (by kernel_rfl) ?_)
    wp_walk using wpAny_pyIter_list hL
    exact ⟨_, rfl, h⟩
theorem Zoz {e it l : Addr} {i : Nat} {c : Int} {its : Array Value} {x old : Value} {Q : Option Value -> Shared -> Prop} (he : IsEnum s.heap e it c old) (hi : s.heap.IsListIter it l i) (hl : s.heap.IsList l its) (hx : its[i]? = some x) (ne : e ≠ it)
 (hQ : ∀ h', IsEnumOut h' e it (c + 1) x s.heap.objs.size -> h'.IsListIter it l (i + 1) -> h'.get? s.heap.objs.size = some { cls := .type "tuple", data := .seq #[.int c s.toks, x] } ->
  (∀ b o, b ≠ e -> b ≠ it -> s.heap.get? b = some o -> h'.get? b = some o) -> Q (some (.ref s.heap.objs.size)) { s with heap := h', toks := s.toks + 1 }) : wpAny (model prog w) A (pyNext (.ref e)) Q E s := by
 (have hT : s.TypeIs (.ref e) "enumerate" := ⟨_, he, rfl⟩)
 unfold pyNext
 refine wpAny_bind (wpAny_attempt (wpAny_callSpecial?_slot (name := Str.ofString "__next__") hT F.slot_enumerate_next (wpAny_call_entry F.slot_enumerate_next hT F.entry_enumerate_next ?_ (F.args_enumerate_next_1 _))))
 obtain ⟨hp, gs, dr, tk, os⟩ := s
 (have hel : e < hp.objs.size := Heap.lt_size he)
 show wpAny (model prog w) A.in1 (field (.ref e) 2 >>= _) _ _ _
 refine wpAny_bind (wpAny_field he rfl (x := .ref it) rfl (wpAny_bind (wpAny_nextOf_list_item hi hl hx fun g1 i1 k1 => ?_)))
 replace k1 : Heap.SameBut it hp g1 := k1
 have e1 : IsEnum g1 e it c old := (k1.2 e ne).trans he
 show wpAny (model prog w) A.in1 (field (.ref e) 3 >>= _) _ _ ⟨g1, gs, dr, tk, os⟩
 refine wpAny_bind (wpAny_field e1 rfl (x := rawInt c) rfl ?_)
 show wpAny (model prog w) A.in1 (field (.ref e) 4 >>= _) _ _ ⟨g1, gs, dr, tk, os⟩
 refine wpAny_bind (wpAny_field e1 rfl (x := .none) rfl ?_)
 show wpAny (model prog w) A.in1 (mkInt c >>= _) _ _ ⟨g1, gs, dr, tk, os⟩
 (refine wpAny_bind (wpAny_mkInt ?_))
 show wpAny (model prog w) A.in1 (setField (.ref e) 3 (rawInt (c + 1)) >>= _) _ _ ⟨g1, gs, dr, tk + 1, os⟩
 refine wpAny_bind (wpAny_setField_rec e1 (by simp) fun g2 e2 k2 => ?_)
 replace k2 : Heap.SameBut e g1 g2 := k2
 replace e2 : IsEnum g2 e it (c + 1) old := e2
 show wpAny (model prog w) A.in1 (setField (.ref e) 4 .none >>= _) _ _ ⟨g2, gs, dr, tk + 1, os⟩
 refine wpAny_bind (wpAny_setField_rec e2 (by simp) fun g3 e3 k3 => ?_)
 replace k3 : Heap.SameBut e g2 g3 := k3
 replace e3 : IsEnum g3 e it (c + 1) old := e3
 have z3 : g3.objs.size = hp.objs.size := by rw [k3.1, k2.1, k1.1]
 show wpAny (model prog w) A.in1 (newTuple [.int c tk, x] >>= _) _ _ ⟨g3, gs, dr, tk + 1, os⟩
 (refine wpAny_bind (wpAny_newTuple ?_))
 have e4 : IsEnum (g3.push { cls := .type "tuple", data := .seq #[.int c tk, x] }) e it (c + 1) old := Heap.get?_push_of_some _ e3
 have t4 : (g3.push { cls := .type "tuple", data := .seq #[.int c tk, x] }).get? hp.objs.size = some { cls := .type "tuple", data := .seq #[.int c tk, x] } := by rw [<- z3]; exact Heap.get?_push_size _ rfl
 have i4 : (g3.push { cls := .type "tuple", data := .seq #[.int c tk, x] }).IsListIter it l (i + 1) := by
  obtain ⟨o, ho, r⟩ := (i1.extBut k2.extBut (Ne.symm ne)).extBut k3.extBut (Ne.symm ne)
  exact ⟨o, Heap.get?_push_of_some _ ho, r⟩
 have b4 : ∀ b o, b ≠ e -> b ≠ it -> hp.get? b = some o -> (g3.push { cls := .type "tuple", data := .seq #[.int c tk, x] }).get? b = some o := fun b o n1 n2 y => Heap.get?_push_of_some _ (k3.extBut b o n1 (k2.extBut b o n1 (k1.extBut b o n2 y)))
 generalize g3.push { cls := .type "tuple", data := .seq #[.int c tk, x] } = g4 at e4 t4 i4 b4 ⊢
 rw [z3]
 show wpAny (model prog w) A.in1 (Builtin.SmallTypes.ownedTupleIsFree (.ref e) >>= _) _ _ ⟨g4, gs, dr, tk + 1, os⟩
 clear e3 k3 e2 k2 e1 k1 i1 z3 g3 g2 g1
 refine wpAny_bind ?_
 (unfold Builtin.SmallTypes.ownedTupleIsFree)
 refine wpAny_bind (wpAny_field e4 rfl (x := .none) rfl (wpAny_pure ?_))
 simp only [if_true]
 refine wpAny_bind (wpAny_rule (wpAny_bind (wpAny_field e4 rfl (x := old) rfl (wpAny_bind (wpAny_setField_rec e4 (by simp) fun g5 e5 k5 => ?_)))))
 replace k5 : Heap.SameBut e g4 g5 := k5
 replace e5 : IsEnum g5 e it (c + 1) x := e5
 show wpAny (model prog w) A.in1 (Builtin.SmallTypes.ownedTupleHandOut (.ref e) (.ref hp.objs.size) >>= _) _ _ ⟨g5, gs, dr, tk + 1, os⟩
 refine wpAny_bind ?_
 (unfold Builtin.SmallTypes.ownedTupleHandOut)
 refine wpAny_bind (wpAny_setField_rec e5 (by simp) fun g6 e6 k6 => ?_)
 replace k6 : Heap.SameBut e g5 g6 := k6
 replace e6 : IsEnumOut g6 e it (c + 1) x hp.objs.size := e6
 refine wpAny_setField_rec e6 (by simp) fun g7 e7 k7 => ?_
 replace k7 : Heap.SameBut e g6 g7 := k7
 replace e7 : IsEnumOut g7 e it (c + 1) x hp.objs.size := e7
 have up : ∀ b o, b ≠ e -> g4.get? b = some o -> g7.get? b = some o := fun b o n y => k7.extBut b o n (k6.extBut b o n (k5.extBut b o n y))
 refine wpAny_bind (wpAny_letGo (wpAny_pure ⟨_, rfl, wpAny_pure (hQ g7 e7 ?_ (up _ _ (Nat.ne_of_gt hel) t4) fun b o n1 n2 y => up b o n1 (b4 b o n1 n2 y))⟩))
 exact ((i4.extBut k5.extBut (Ne.symm ne)).extBut k6.extBut (Ne.symm ne)).extBut k7.extBut (Ne.symm ne)
theorem Zqk {e it l : Addr} {i : Nat} {c : Int} {its : Array Value} {old : Value} {Q : Option Value -> Shared -> Prop} (hh : A.handled = none) (he : IsEnum s.heap e it c old) (hi : s.heap.IsListIter it l i) (hl : s.heap.IsList l its) (hx : its[i]? = none)
 (hQ : ∀ g, Heap.ExtBut it s.heap g -> Q none { s with heap := g }) : wpAny (model prog w) A (pyNext (.ref e)) Q E s := by
 (have hT : s.TypeIs (.ref e) "enumerate" := ⟨_, he, rfl⟩)
 unfold pyNext
 refine wpAny_bind (wpAny_attempt (wpAny_callSpecial?_slot (name := Str.ofString "__next__") hT F.slot_enumerate_next (wpAny_call_entry F.slot_enumerate_next hT F.entry_enumerate_next ?_ (F.args_enumerate_next_1 _))))
 show wpAny (model prog w) A.in1 (field (.ref e) 2 >>= _) _ _ _
 refine wpAny_bind (wpAny_field he rfl (x := .ref it) rfl (wpAny_bind (wpAny_nextOf_list_end hh hi hl hx fun h' y b1 ⟨o, b2, b3⟩ => ?_)))
 exact wpAny_bind (wpAny_isInstance (T := "StopIteration") (b := true) ⟨o, b2, b3⟩ isSubtype_stop (wpAny_pure (hQ _ b1)))
theorem Zo0 {l : Addr} {its : Array Value} {c : Int} {t : Tok} {Q : Value -> Shared -> Prop} (hL : s.heap.IsList l its) (hc : Builtin.SmallTypes.fitsIndex c = true)
 (h : ∀ h', IsEnum h' (s.heap.objs.size + 1) s.heap.objs.size c .none -> h'.IsListIter s.heap.objs.size l 0 -> (∀ b o, s.heap.get? b = some o -> h'.get? b = some o) -> Q (.ref (s.heap.objs.size + 1)) { s with heap := h' }) :
 wpAny (model prog w) A (call (.type "enumerate") [.ref l] [("start", .int c t)]) Q E s := by
 refine Zoy F.called_enumerate (by decide) (ZlQ _ _ _) (ZlR _ _ _) (fun o => ZlS o _ _ _) (by simp) F.entry_enumerate_new (Zqj l its c t hc) ⟨hL, ?_⟩
 have hz := Heap.size_push s.heap { cls := .type "list_iterator", data := .fields #[.ref l, .int 0 0] }
 show _ /\ Q (.ref _) _
 rw [hz]
 have y := Heap.get?_push_size (s.heap.push { cls := .type "list_iterator", data := .fields #[.ref l, .int 0 0] }) (o := { cls := .type "enumerate", data := .fields #[.none, .bool false, .ref s.heap.objs.size, rawInt c, .none, .none] }) rfl
 rw [hz] at y
 exact ⟨⟨_, y, rfl⟩, h _ y ⟨_, Heap.get?_push_of_some _ (Heap.get?_push_size _ rfl), rfl, rfl⟩ fun b o x => Heap.get?_push_of_some _ (Heap.get?_push_of_some _ x)⟩
end
end L2
namespace L2
open PySem PySem.Spec
section
variable {X : Cx} {pins : List (Addr × Obj)} {σ : St} {H : Hp} {s : Shared} {h' : Heap}
theorem Inv.turnedL {t' : Nat} {fp : List Addr} (I : Inv X pins σ H s) (k : ∀ b o, b ∉ fp -> s.heap.get? b = some o -> h'.get? b = some o) (hf : ∀ b ∈ fp, FpOk X pins H b) : Inv X pins σ H { s with heap := h', toks := t' } := by
 have nf : ∀ b u, H b = some u -> b ∉ fp := fun b u e z => by rw [(hf b z).1] at e; cases e
 have hL : X.env.locals ∉ fp := fun z => (hf _ z).2.1 rfl
 refine I.step (g' := s.gens) (d' := s.drawn) (ch := fp) (fun b hb => ?_) (fun b o _ _ hc e _ => k b o hc e) (fun b o _ _ hc e _ => ⟨o.slots, k b o hc e⟩) (fun _ _ _ _ n => n) (fun b o hc e => ⟨o, k b o hc e⟩)
  (fun _ _ e => e) (fun _ _ _ e => e) (fun b ps e => ⟨#[], by rw [e]; simp⟩) (fun m hm => ?_) (fun b u e => ?_) I.bare
 . obtain ⟨f0, f1, f2, f3, f4, f5⟩ := hf b hb
   exact ⟨f3, f1, f4, f5⟩
 . obtain ⟨o, es, ep, ho, r⟩ := hm
   exact ⟨o, es, ep, k _ o hL ho, r⟩
 . refine (I.hok b u e).stay (fun c v hc q => k c v ?_ q) (fun _ q => q) fun _ _ q => q
   exact hc.elim (fun z => by rw [z]; exact nf b u e) fun z => nf c _ z
theorem ZjX {h : Heap} {o o' : Obj} {b : Addr} (hb : b < h.objs.size) (e : (h.push o).get? b = some o') : h.get? b = some o' := by
 (obtain ⟨e1, e2⟩ := Heap.get?_some_iff.mp e)
 refine Heap.get?_some_iff.mpr ⟨?_, e2⟩
 cases h
 simpa [Heap.push, Array.getElem?_push, Nat.ne_of_lt hb] using e1
theorem Inv.laidT {t' : Nat} {fp : List Addr} {xs : List V} {us : List Value} (I : Inv X pins σ H s) (r : Vals xs us) (hz : xs.length <= sizeLine) (ht : h'.get? s.heap.objs.size = some { cls := .type "tuple", data := .seq us.toArray })
 (k : ∀ b o, b ∉ fp -> s.heap.get? b = some o -> h'.get? b = some o) (hf : ∀ b ∈ fp, FpOk X pins H b) (hlt : ∀ b ∈ fp, b < s.heap.objs.size) : Inv X pins σ (upd H s.heap.objs.size (.tup xs)) { s with heap := h', toks := t' } := by
 have I1 : Inv X pins σ (upd H s.heap.objs.size (.tup xs)) { s with heap := s.heap.push { cls := .type "tuple", data := .seq us.toArray }, toks := t' } :=
  I.laid (fun b u e => Heap.get?_push_of_some _ e) (Nat.le_refl _) ⟨hz, us, r, ⟨_, Heap.get?_push_size _ rfl, rfl, _, rfl⟩⟩
 refine (fun (go : ∀ b o, b ∉ fp -> (s.heap.push { cls := .type "tuple", data := .seq us.toArray }).get? b = some o -> h'.get? b = some o) => ?_) fun b o hb e => ?_
 . exact Inv.turnedL (s := { s with heap := s.heap.push { cls := .type "tuple", data := .seq us.toArray }, toks := t' }) (fp := fp) (t' := t') (h' := h') I1 go fun b hb => ⟨by rw [Zt (Nat.ne_of_lt (hlt b hb))]; exact (hf b hb).1, (hf b hb).2⟩
 . by_cases hq : b = s.heap.objs.size
   . subst hq
     rw [Heap.get?_push_size _ rfl] at e
     rw [<- e]
     exact ht
   . have : b < s.heap.objs.size := by
      have := Heap.lt_size e
      rw [Heap.size_push] at this
      exact Nat.lt_of_le_of_ne (Nat.le_of_lt_succ this) hq
     exact k b o hb (ZjX this e)
end
noncomputable def Ite (K : Fg) (a : Addr) (c : Int) : It where
 go i H := ∃ xs x, SqL K H a xs /\ xs[i]? = some x
 yld i H x H' := ∃ A y, x = .ref A /\ H A = none /\ H' = upd H A (.tup [.int (c + i), y]) /\ ∀ xs, SqL K H a xs -> xs[i]? = some y
 stop i H := ∃ xs, SqL K H a xs /\ xs.length <= i
theorem ZlT {P : Program} {w : World} {K : Fg} {es : List Expr} {k1 : Nat} {pos : Pos} (a e it : Addr) (c : Int) (ne : e ≠ it) : Turn P w K (.Tuple es k1 pos) (Ite K a c) [e, it] e (fun i h => (∃ old, IsEnum h e it (c + (i : Nat)) old) /\ h.IsListIter it a i) where
 mem := by simp
 obj := fun i h st b hb => by
  obtain ⟨⟨old, he⟩, o, e1, e2, e3⟩ := st
  (rcases List.mem_cons.mp hb with rfl | hb)
  . exact ⟨_, he, fun v z => by
     have z' : Data.fields _ = Data.cell v := z
     cases z'⟩
  . have : b = it := by simpa using hb
    subst this
    exact ⟨o, e1, fun v z => by rw [e3] at z; cases z⟩
 keep := fun i h h' st k => ⟨st.1.imp fun old he => k e (by simp) _ he, st.2.at fun o y => k it (by simp) o y⟩
 item := by
  intro X hP hw hK hc i pins s σ H E I hf st hg
  subst hP hw hK
  obtain ⟨xs, x, hq, hx⟩ := hg
  obtain ⟨its, rv, p, hz⟩ := I.list hq
  obtain ⟨u, hu, ru⟩ := rv.get hx
  obtain ⟨⟨old, he⟩, hi⟩ := st
  have le : e < s.heap.objs.size := Heap.lt_size he
  have li : it < s.heap.objs.size := by obtain ⟨_, y, _⟩ := hi; exact Heap.lt_size y
  have lt : ∀ b ∈ [e, it], b < s.heap.objs.size := fun b hb => by
   (rcases List.mem_cons.mp hb with rfl | hb)
   . exact le
   . rw [List.mem_singleton.mp hb]; exact li
  refine Zoz he hi p.isList (x := u) (by simpa using hu) ne fun h' ho hi' ht hk => ⟨_, rfl, ?_⟩
  refine wpAny_letOwnedTupleGo_enum ho fun h2 he2 hs2 => ?_
  have up : ∀ b o, b ≠ e -> h'.get? b = some o -> h2.get? b = some o := fun b o n y => hs2.extBut b o n y
  have I2 := I.laidT (fp := [e, it]) (h' := h2) (t' := s.toks + 1) (xs := [.int (c + i), x]) (us := [.int (c + i) s.toks, u]) (.cons ⟨_, rfl⟩ (.cons ru .nil)) (by simp [sizeLine])
   (up _ _ (Nat.ne_of_gt le) ht) (fun b o hb y => up b o (fun z => hb (by simp [z])) (hk b o (fun z => hb (by simp [z])) (fun z => hb (by simp [z])) y)) hf lt
  refine ⟨.ref s.heap.objs.size, _, I2, rfl, ⟨_, x, rfl, I.hok.fresh (Nat.le_refl _), rfl, fun ys hy => by rw [I.list_inj hy hq]; exact hx⟩, ⟨⟨u, ?_⟩, hi'.at fun o y => up it o (Ne.symm ne) y⟩, fun b hb => ?_⟩
  . have z : c + ((i + 1 : Nat) : Int) = c + i + 1 := by omega
    rw [z]
    exact he2
  . rw [Zt (Nat.ne_of_lt (lt b hb))]
    exact (hf b hb).1
 done := by
  intro X hP hw hK hc i pins s σ H E I hf st hg
  subst hP hw hK
  obtain ⟨xs, hq, hx⟩ := hg
  obtain ⟨its, rv, p, hz⟩ := I.list hq
  obtain ⟨⟨old, he⟩, hi⟩ := st
  have hl := rv.length
  exact Zqk (I.ok.hd hc) he hi p.isList (by simp; omega) fun h' eb => ⟨rfl, I.turnedL (t' := s.toks) (fun b o hb y => eb b o (fun z => hb (by simp [z])) y) hf⟩
 self := fun _ _ _ _ _ st h => by
  obtain ⟨⟨old, he⟩, _⟩ := st
  exact wpAny_pyIter_enum he h
section
variable {X : Cx} {es : List Expr} {k1 : Nat} {l ke : Expr} {t : TA} {p pos q kp : Pos} {c : Int}
noncomputable def Zlb (K : Fg) (c : Int) (t : TA) : TI := fun σ H R => t σ H fun vs H1 => ∃ a, vs = [.ref a] /\ (∃ xs, SqL K H1 a xs) /\ R (Ite K a c) H1
theorem ZnI {pins : List (Addr × Obj)} {σ : St} {H : Hp} {s : Shared} {h' : Heap} {R : It -> Hp -> Prop} {E : Value -> Shared -> Prop} {a : Addr} (I : Inv X pins σ H s) (he : IsEnum h' (s.heap.objs.size + 1) s.heap.objs.size c .none) (hi : h'.IsListIter s.heap.objs.size a 0)
 (hk : ∀ b o, s.heap.get? b = some o -> h'.get? b = some o) (z : R (Ite X.K a c) H) : wpAny (model X.prog X.w) X.A (pyIter (.ref (s.heap.objs.size + 1))) (PIE X pins σ (.Tuple es k1 q) R) E { s with heap := h' } := by
 refine wpAny_pyIter_enum he ⟨_, [s.heap.objs.size + 1, s.heap.objs.size], _, _, H, rfl, I.kept (t' := s.toks) hk, ZlT a _ _ c (Nat.succ_ne_self _), ⟨⟨_, by simpa using he⟩, hi⟩, fun b hb => ?_, z⟩
 have : s.heap.objs.size <= b := by
  (rcases List.mem_cons.mp hb with rfl | hb)
  . omega
  . rw [List.mem_singleton.mp hb]; exact Nat.le_refl _
 exact I.fpOk this (I.hok.fresh this)
theorem Zo1 (hg : Gl X "enumerate") (hm : X.mg "enumerate" = none) (ha : PA X [l] t) (hs : starEach [l] X.env = [(false, eval l X.env)] := by rfl) : PI X (.Tuple es k1 q) (.Call (.Name "enumerate" p) [l] [] pos) (Zlb X.K 0 t) := by
 intro pins s σ H R I h
 refine PyProof.Rows.Call_ (Zfm I hg hm PyProof.Rows.boot_enumerate (PyProof.Rows.callWith_type1 (thn (ha pos pins s σ H _ I h) fun us s1 ⟨vs, H1, I1, r1, q1⟩ => ?_) hs rfl))
 obtain ⟨a, e, ⟨xs, hq⟩, z⟩ := q1
 subst e
 cases r1 with
 | cons r rr =>
  cases rr
  cases r
  obtain ⟨its, rv, pl, hz⟩ := I1.list hq
  exact call_enumerate_list pl.isList fun h' he hi _ hk => ZnI I1 he hi hk z
theorem ZmS (hg : Gl X "enumerate") (hm : X.mg "enumerate" = none) (ha : PA X [l] t) (hke : PE X ke (tC (.int c))) (hc : Builtin.SmallTypes.fitsIndex c = true) (hs : starEach [l] X.env = [(false, eval l X.env)] := by rfl) : PI X (.Tuple es k1 q) (.Call (.Name "enumerate" p) [l] [⟨some "start", ke, kp⟩] pos) (Zlb X.K c t) := by
 intro pins s σ H R I h
 refine wpAny_Call_Name_kw (Zfm I hg hm PyProof.Rows.boot_enumerate (Zla (by rw [hs]; rfl) rfl ?_))
 rw [hs]
 refine PyProof.Rows.evalArgs_kwB rfl ?_
 have ha' := ha pos pins s σ H _ I h
 rw [hs] at ha'
 refine thn ha' fun us s1 ⟨vs, H1, I1, r1, q1⟩ => ?_
 obtain ⟨a, e, ⟨xs, hq⟩, z⟩ := q1
 subst e
 cases r1 with
 | cons r rr =>
  cases rr
  cases r
  refine thn (Zof (nm := some "start") (kpos := kp) hke ZpQ pos pins s1 σ H1 (fun vs H2 => vs = [.int c] /\ H2 = H1) I1 ⟨rfl, rfl⟩) fun ws s2 ⟨zs, H2, I2, r2, e1, e2⟩ => ?_
  subst e1 e2
  cases r2 with
  | cons r rr =>
   cases rr
   obtain ⟨tt, rfl⟩ := r
   obtain ⟨its, rv, pl, hz⟩ := I2.list hq
   exact Zo0 pl.isList hc fun h' he hi hk => ZnI I2 he hi hk z
end
end L2
namespace T
open PySem L2
inductive Kd where
 | lst | frl | tup | ftp | dic (ks : List Key) | ins (C : Addr) (fs : List Str) | exc (ns : List Str) (fr : Bool) (fs : List Str)
 deriving DecidableEq
inductive D where
 | sc (v : V) | hole | node (k : Kd) (o : Bool) (ds : List D)
mutual
noncomputable def shr : D -> D
 | .sc v => .sc v
 | .hole => .hole
 | .node k _ ds => .node k false (shrL ds)
noncomputable def shrL : List D -> List D
 | [] => []
 | d :: ds => shr d :: shrL ds
end
def Zf4 (K : Fg) (H : Hp) (a : Addr) (vs : List V) : Kd -> Prop
 | .lst => H a = some (.lst vs)
 | .frl => SqL K H a vs
 | .tup => H a = some (.tup vs)
 | .ftp => SqT K H a vs
 | .dic ks => ks.length = vs.length /\ H a = some (.dK (ks.zip vs))
 | .ins C fs => fs.length = vs.length /\ ∃ dx, H a = some (.ins C dx (fs.zip vs))
 | .exc ns fr fs => fs.length = vs.length /\ ∃ C dx, XN K ns C /\ H a = some (.exc C dx fr (fs.zip vs))
def Zc1 (K : Fg) (H : Hp) (a : Addr) (vs : List V) : Kd -> Prop
 | .lst => H a = some (.lst vs)
 | .frl => False
 | .tup => H a = some (.tup vs)
 | .ftp => False
 | .dic ks => ks.length = vs.length /\ H a = some (.dK (ks.zip vs))
 | .ins C fs => fs.length = vs.length /\ ∃ dx, H a = some (.ins C dx (fs.zip vs))
 | .exc ns fr fs => fs.length = vs.length /\ ∃ C dx, XN K ns C /\ H a = some (.exc C dx fr (fs.zip vs))
theorem Zc1.r {K : Fg} {H : Hp} {a : Addr} {vs : List V} {k : Kd} (h : Zc1 K H a vs k) : Zf4 K H a vs k := by
 cases k with
 | lst => exact h
 | frl => exact h.elim
 | tup => exact h
 | ftp => exact h.elim
 | dic ks => exact h
 | ins C fs => exact h
 | exc ns fr fs => exact h
theorem Zc1.at {K : Fg} {H : Hp} {a : Addr} {vs : List V} {k : Kd} (h : Zc1 K H a vs k) : H a ≠ none := by
 cases k with
 | lst => rw [show H a = _ from h]; simp
 | frl => exact h.elim
 | tup => rw [show H a = _ from h]; simp
 | ftp => exact h.elim
 | dic ks => rw [h.2]; simp
 | ins C fs => obtain ⟨_, dx, e⟩ := h; rw [e]; simp
 | exc ns fr fs => obtain ⟨_, C, dx, _, e⟩ := h; rw [e]; simp
theorem Zc1.eq {K : Fg} {H H' : Hp} {a : Addr} {vs : List V} {k : Kd} (h : Zc1 K H a vs k) (e : H' a = H a) : Zc1 K H' a vs k := by
 cases k with
 | lst => exact e.trans h
 | frl => exact h.elim
 | tup => exact e.trans h
 | ftp => exact h.elim
 | dic ks => exact ⟨h.1, e.trans h.2⟩
 | ins C fs => obtain ⟨l, dx, q⟩ := h; exact ⟨l, dx, e.trans q⟩
 | exc ns fr fs => obtain ⟨l, C, dx, x, q⟩ := h; exact ⟨l, C, dx, x, e.trans q⟩
theorem Same.tupq' {K : Fg} {H H' : Hp} {a : Addr} {xs : List V} (e : Same H H') (h : SqT K H a xs) : SqT K H' a xs := by
 rcases h with (h | ⟨o, h⟩) | h
 . exact .inl (.inl (e _ _ h))
 . exact .inl (.inr ⟨o, e _ _ h⟩)
 . exact .inr h
theorem Zf4.same {K : Fg} {H H' : Hp} {a : Addr} {vs : List V} {k : Kd} (e : Same H H') (h : Zf4 K H a vs k) : Zf4 K H' a vs k := by
 cases k with
 | lst => exact e _ _ h
 | frl => exact e.seq h
 | tup => exact e _ _ h
 | ftp => exact Same.tupq' e h
 | dic ks => exact ⟨h.1, e _ _ h.2⟩
 | ins C fs => obtain ⟨l, dx, q⟩ := h; exact ⟨l, dx, e _ _ q⟩
 | exc ns fr fs => obtain ⟨l, C, dx, x, q⟩ := h; exact ⟨l, C, dx, x, e _ _ q⟩
noncomputable abbrev Bud := Addr -> Nat
noncomputable def one (a : Addr) : Bud := fun b => if b = a then 1 else 0
mutual
inductive Rep (K : Fg) (H Hs : Hp) : V -> D -> Bud -> Prop
 | sc (v : V) (m : Bud) : Rep K H Hs v (.sc v) m
 | hole (v : V) (m : Bud) : Rep K H Hs v .hole m
 | own {a : Addr} {k : Kd} {vs : List V} {ds : List D} {m m' : Bud} : Zc1 K H a vs k -> RepL K H Hs vs ds m' -> (∀ b, one a b + m' b <= m b) -> Rep K H Hs (.ref a) (.node k true ds) m
 | shd {a : Addr} {k : Kd} {vs : List V} {ds : List D} {m : Bud} : Zf4 K Hs a vs k -> RepL K H Hs vs ds (fun _ => 0) -> Rep K H Hs (.ref a) (.node k false ds) m
inductive RepL (K : Fg) (H Hs : Hp) : List V -> List D -> Bud -> Prop
 | nil (m : Bud) : RepL K H Hs [] [] m
 | cons {v : V} {d : D} {vs : List V} {ds : List D} {m1 m2 m : Bud} : Rep K H Hs v d m1 -> RepL K H Hs vs ds m2 -> (∀ b, m1 b + m2 b <= m b) -> RepL K H Hs (v :: vs) (d :: ds) m
end
structure Good (H Hs : Hp) (M : Bud) : Prop where
 sub : Same Hs H
 le : ∀ b, M b <= 1
 ne : ∀ b, M b = 1 -> Hs b = none
 has : ∀ b, M b = 1 -> H b ≠ none
structure Stp (H Hs : Hp) (M : Bud) (H' Hs' : Hp) (M' : Bud) : Prop where
 keep : ∀ b o, H b = some o -> M b = 0 -> H' b = some o
 own : ∀ b, M' b = 1 -> M b = 1 \/ H b = none
 grow : Same Hs Hs'
 shr : ∀ b, Hs b = none -> Hs' b ≠ none -> M b = 1 \/ H b = none
 stay : ∀ b, H b ≠ none -> H' b ≠ none
section
variable {K : Fg} {H Hs H' Hs' H1 Hs1 H2 Hs2 : Hp} {M M' M1 M2 m m1 m2 m' : Bud}
mutual
theorem Rep.mono : ∀ {v : V} {d : D} {m m' : Bud}, Rep K H Hs v d m -> (∀ b, m b <= m' b) -> Rep K H Hs v d m'
 | _, _, _, _, .sc v _, _ => .sc v _
 | _, _, _, _, .hole v _, _ => .hole v _
 | _, _, _, _, .own n r h, l => .own n r fun b => Nat.le_trans (h b) (l b)
 | _, _, _, _, .shd n r, _ => .shd n r
end
theorem RepL.mono {vs : List V} {ds : List D} {m m' : Bud} (h : RepL K H Hs vs ds m) (l : ∀ b, m b <= m' b) : RepL K H Hs vs ds m' := by
 cases h with
 | nil => exact .nil _
 | cons a b c => exact .cons a b fun x => Nat.le_trans (c x) (l x)
mutual
theorem Rep.frame (g : Same Hs Hs') : ∀ {v : V} {d : D} {m : Bud}, (∀ b, m b ≥ 1 -> H b ≠ none -> H' b = H b) -> Rep K H Hs v d m -> Rep K H' Hs' v d m
 | _, _, _, _, .sc v _ => .sc v _
 | _, _, _, _, .hole v _ => .hole v _
 | _, _, m, k, .own (a := a) (m' := m') n r h => by
  have h1 : m a ≥ 1 := by have := h a; simp only [one, if_pos] at this; omega
  refine .own (n.eq (k a h1 n.at)) (RepL.frame g (fun b hb hn => k b ?_ hn) r) h
  have := h b
  omega
 | _, _, _, k, .shd n r => .shd (n.same g) (RepL.frame g (fun b hb => absurd hb (by simp)) r)
theorem RepL.frame (g : Same Hs Hs') : ∀ {vs : List V} {ds : List D} {m : Bud}, (∀ b, m b ≥ 1 -> H b ≠ none -> H' b = H b) -> RepL K H Hs vs ds m -> RepL K H' Hs' vs ds m
 | _, _, _, _, .nil _ => .nil _
 | _, _, m, k, .cons (m1 := m1) (m2 := m2) x y h => by
  refine .cons (Rep.frame g (fun b hb => k b ?_) x) (RepL.frame g (fun b hb => k b ?_) y) h
  . have := h b; omega
  . have := h b; omega
end
theorem Good.drop (g : Good H Hs M) (l : ∀ b, M' b <= M b) : Good H Hs M' :=
 ⟨g.sub, fun b => Nat.le_trans (l b) (g.le b), fun b h => g.ne b (by have := l b; have := g.le b; omega), fun b h => g.has b (by have := l b; have := g.le b; omega)⟩
theorem Stp.drop (s : Stp H Hs M H' Hs' M1) (l : ∀ b, M2 b <= M1 b) (le : ∀ b, M1 b <= 1) : Stp H Hs M H' Hs' M2 :=
 ⟨s.keep, fun b h => s.own b (by have := l b; have := le b; omega), s.grow, s.shr, s.stay⟩
theorem Stp.refl (H Hs : Hp) (M : Bud) : Stp H Hs M H Hs M := ⟨fun _ _ h _ => h, fun _ h => .inl h, Same.refl _, fun _ h h' => absurd h h', fun _ h => h⟩
theorem Z1 (g : Good H Hs M) (g1 : Good H1 Hs1 (fun b => m1 b + M1 b)) (s1 : Stp H Hs M H1 Hs1 (fun b => m1 b + M1 b)) (g2 : Good H2 Hs2 M2) (s2 : Stp H1 Hs1 M1 H2 Hs2 M2) :
 Good H2 Hs2 (fun b => m1 b + M2 b) /\ Stp H Hs M H2 Hs2 (fun b => m1 b + M2 b) /\ (∀ b, m1 b ≥ 1 -> H1 b ≠ none -> H2 b = H1 b) := by
 have d : ∀ b, m1 b = 1 -> M2 b = 0 := fun b h => by
  have l1 : m1 b + M1 b <= 1 := g1.le b
  have l2 := g2.le b
  have : M2 b ≠ 1 := fun e => by
   rcases s2.own b e with q | q
   . omega
   . exact g1.has b (by show m1 b + M1 b = 1; omega) q
  omega
 have k1 : ∀ b, m1 b ≥ 1 -> H1 b ≠ none -> H2 b = H1 b := fun b h n => by
  have l1 : m1 b + M1 b <= 1 := g1.le b
  cases q : H1 b with
  | none => exact absurd q n
  | some o => exact s2.keep b o q (by omega)
 refine ⟨⟨g2.sub, fun b => ?_, fun b h => ?_, fun b h => ?_⟩, ⟨fun b o e z => ?_, fun b h => ?_, s1.grow.trans s2.grow, fun b n n' => ?_, fun b n => s2.stay b (s1.stay b n)⟩, k1⟩
 . have l1 : m1 b + M1 b <= 1 := g1.le b
   have l2 := g2.le b
   show m1 b + M2 b <= 1
   by_cases h : m1 b = 1
   . have := d b h; omega
   . omega
 . have h : m1 b + M2 b = 1 := h
   have l1 : m1 b + M1 b <= 1 := g1.le b
   by_cases h1 : m1 b = 1
   . cases q : Hs2 b with
     | none => rfl
     | some o =>
      have n1 : Hs1 b = none := g1.ne b (by show m1 b + M1 b = 1; omega)
      rcases s2.shr b n1 (by rw [q]; simp) with z | z
      . omega
      . exact absurd z (g1.has b (by show m1 b + M1 b = 1; omega))
   . exact g2.ne b (by omega)
 . have h : m1 b + M2 b = 1 := h
   have l1 : m1 b + M1 b <= 1 := g1.le b
   by_cases h1 : m1 b = 1
   . have n := g1.has b (by show m1 b + M1 b = 1; omega)
     rw [k1 b (by omega) n]; exact n
   . exact g2.has b (by omega)
 . have e1 := s1.keep b o e z
   have : ¬ (m1 b + M1 b = 1) := fun q => by
    rcases s1.own b q with w | w
    . omega
    . rw [e] at w; cases w
   have l1 : m1 b + M1 b <= 1 := g1.le b
   exact s2.keep b o e1 (by omega)
 . have h : m1 b + M2 b = 1 := h
   have l1 : m1 b + M1 b <= 1 := g1.le b
   by_cases h1 : m1 b = 1
   . exact s1.own b (by show m1 b + M1 b = 1; omega)
   . rcases s2.own b (by omega) with q | q
     . exact s1.own b (by show m1 b + M1 b = 1; omega)
     . cases w : H b with
       | none => exact .inr rfl
       | some o => exact absurd q (s1.stay b (by rw [w]; simp))
 . cases q : Hs1 b with
   | some o => exact s1.shr b n (by rw [q]; simp)
   | none =>
    rcases s2.shr b q n' with z | z
    . have l1 : m1 b + M1 b <= 1 := g1.le b
      exact s1.own b (by show m1 b + M1 b = 1; omega)
    . cases w : H b with
      | none => exact .inr rfl
      | some o => exact absurd z (s1.stay b (by rw [w]; simp))
end
end T
namespace T
open PySem L2
inductive Rs (α : Type) where
 | ok (a : α) | exc (x : D) (δ : List D) | stuck
noncomputable abbrev M (α : Type) := List D -> Rs (α × List D)
noncomputable def M.ret {α : Type} (a : α) : M α := fun δ => .ok (a, δ)
noncomputable def M.bnd {α β : Type} (c : M α) (f : α -> M β) : M β := fun δ => match c δ with
 | .ok (a, δ') => f a δ'
 | .exc x δ' => .exc x δ'
 | .stuck => .stuck
noncomputable def lift {α : Type} : Option α -> M α
 | some a => M.ret a
 | none => fun _ => .stuck
noncomputable def stk {α : Type} : M α := fun _ => .stuck
inductive Ty where
 | int | bool | str | list | tuple | dict | own (C : Addr)
 deriving DecidableEq
inductive BF where
 | len | abs | str | int | bool | sum | min | max | list | tuple | all | any | sorted | isi (t : Ty) | dict | ord | isiX (c : Str) | isiV | xinit | xfld (f : Str) | cnt (v : V) | minL | maxL
 deriving DecidableEq
inductive BM where
 | split | join | get | index | count | find | replace | strip | startswith | endswith | isdigit | copy | lower | upper
 deriving DecidableEq
inductive MM where
 | append | extend | pop | popAt | reverse | clear | insert | update | popKey | remove
 deriving DecidableEq
inductive IK where
 | rng1 | rng2 | rng3 | val | valS | enum | zip | rev | items | values
 deriving DecidableEq
inductive Tg where
 | name (i : Nat) | tup (is : List Nat)
structure FI where
 lend : Bool
 run : List D -> Rs (D × List D)
inductive E where
 | k (v : V)
 | g (d : D)
 | v (i : Nat)
 | bin (op : Operator) (a b : E)
 | neg (a : E)
 | cmp (op : CmpOp) (a b : E)
 | chain (op op' : CmpOp) (a b c : E)
 | isN (p : Bool) (a : E)
 | isB (c p : Bool) (a : E)
 | nt (a : E)
 | and (a b : E)
 | or (a b : E)
 | ife (c a b : E)
 | ix (a i : E)
 | sl (a lo hi : E)
 | fld (a : E) (f : Str)
 | lst (es : List E)
 | tup (es : List E)
 | kl (vs : List V)
 | kt (vs : List V)
 | dct0
 | call (f : FI) (es : List E)
 | bf (f : BF) (es : List E)
 | bm (m : BM) (o : E) (es : List E)
 | mut (m : MM) (i : Nat) (ps : List E) (es : List E)
 | meth (A : Addr) (m : Str) (f : FI) (o : E) (es : List E)
 | new (A : Addr) (f : FI) (es : List E)
 | comp (k : Nat) (js : List Nat) (tg : Tg) (ik : IK) (ies : List E) (cond : List E) (elt : E)
 | fs (es : List E)
inductive S where
 | asg (i : Nat) (e : E)
 | unp (is : List Nat) (e : E)
 | sub (i : Nat) (ps : List E) (ix : E) (e : E)
 | attr (i : Nat) (f : Str) (e : E)
 | ex (e : E)
 | ret (e : E)
 | retN
 | iff (c : E) (a b : List S)
 | for_ (tg : Tg) (ik : IK) (ies : List E) (body : List S)
 | while_ (c : E) (body : List S)
 | pass | brk | cnt
 | raise (e : E)
 | asgX (i : Nat) (f : FI) (es : List E)
 | exX (f : FI) (es : List E)
 | retX (f : FI) (es : List E)
 | raise0 (ns : List Str)
 | raiseI (ns : List Str) (f : FI) (es : List E)
 | attrX (i : Nat) (f : Str) (e : E)
 | forX (tg : Tg) (ik : IK) (ies : List E) (body : List S)
 | try_ (body : List S) (c : Str) (nm : Option Nat) (suite : List S)
inductive Op where
 | late (i : Nat) | tmp (d : D)
inductive W where
 | sc (v : V) | nd (k : Kd) (ds : List D)
noncomputable def ZaG (i : Nat) : M Op := fun δ => match δ[i]? with
 | some (.sc _) => .ok (.late i, δ)
 | some (.node _ _ _) => .ok (.late i, δ)
 | _ => .stuck
noncomputable def Zs (e : E) (c : M D) : M Op := match e with
 | .v i => ZaG i
 | _ => c.bnd fun d => M.ret (.tmp d)
noncomputable def view : Op -> M W
 | .tmp (.sc v) => M.ret (.sc v)
 | .tmp (.node k _ ds) => M.ret (.nd k ds)
 | .tmp .hole => stk
 | .late i => fun δ => match δ[i]? with
  | some (.sc v) => .ok (.sc v, δ)
  | some (.node k false ds) => .ok (.nd k ds, δ)
  | some (.node k true ds) => .ok (.nd k (shrL ds), δ.set i (.node k true (shrL ds)))
  | _ => .stuck
noncomputable def views : List Op -> M (List W)
 | [] => M.ret []
 | p :: ps => (view p).bnd fun w => (views ps).bnd fun ws => M.ret (w :: ws)
noncomputable def valV (i : Nat) : M D := fun δ => match δ[i]? with
 | some (.sc v) => .ok (.sc v, δ)
 | some (.node k false ds) => .ok (.node k false ds, δ)
 | some (.node k true ds) => .ok (.node k false (shrL ds), δ.set i (.node k false (shrL ds)))
 | _ => .stuck
noncomputable def newL (ds : List D) : Option D := if ds.length <= sizeLine then some (.node .lst true ds) else none
noncomputable def newT (ds : List D) : Option D := if ds.length <= sizeLine then some (.node .tup true ds) else none
noncomputable def binW : Operator -> W -> W -> Option D
 | .Add, .sc (.int i), .sc (.int j) => some (.sc (.int (i + j)))
 | .Sub, .sc (.int i), .sc (.int j) => some (.sc (.int (i - j)))
 | .Mult, .sc (.int i), .sc (.int j) => if (-(2 ^ 64) < i /\ i < 2 ^ 64) \/ (-(2 ^ 64) < j /\ j < 2 ^ 64) then some (.sc (.int (i * j))) else none
 | .FloorDiv, .sc (.int i), .sc (.int j) => if 0 < j /\ j < 18446744073709551616 then some (.sc (.int (i / j))) else none
 | .Mod, .sc (.int i), .sc (.int j) => if 0 < j then some (.sc (.int (i % j))) else none
 | .Pow, .sc (.int i), .sc (.int j) => if 0 <= j /\ j <= 1000000 /\ i.natAbs < 2 ^ 64 then some (.sc (.int (i ^ j.toNat))) else none
 | .Add, .sc (.str x), .sc (.str y) => if x.length + y.length <= sizeLine then some (.sc (.str (x ++ y))) else none
 | .Add, .nd .lst xs, .nd .lst ys => newL (xs ++ ys)
 | _, _, _ => none
noncomputable def cmpI (op : CmpOp) (i j : Int) : Option Bool := match op with
 | .Lt => some (decide (i < j)) | .LtE => some (decide (i <= j)) | .Gt => some (decide (j < i)) | .GtE => some (decide (j <= i))
 | _ => none
mutual
noncomputable def py : D -> Option PyData
 | .sc .non => some .none
 | .sc (.bl b) => some (.bool b)
 | .sc (.int i) => some (.int i)
 | .sc (.str x) => some (.str x)
 | .node .lst _ ds => (pyL ds).map .list
 | .node .frl _ ds => (pyL ds).map .list
 | .node .tup _ ds => (pyL ds).map .tuple
 | .node .ftp _ ds => (pyL ds).map .tuple
 | _ => none
noncomputable def pyL : List D -> Option (List PyData)
 | [] => some []
 | d :: ds => (py d).bind fun a => (pyL ds).map (a :: ·)
end
noncomputable def toD : W -> D
 | .sc v => .sc v
 | .nd k ds => .node k false ds
noncomputable def eqPy (a b : PyData) : Option Bool := if SeqAt.shaped a = true /\ SeqAt.shaped b = true then some (PyData.eqv a b) else none
noncomputable def eqW : W -> W -> Option Bool
 | .sc u, .sc v => if scal u v = true then some (decide (u = v)) else (py (.sc u)).bind fun a => (py (.sc v)).bind fun b => eqPy a b
 | x, y => (py (toD x)).bind fun a => (py (toD y)).bind fun b => eqPy a b
noncomputable def Zbu : List D -> Option (List Int)
 | [] => some []
 | .sc (.int i) :: r => (Zbu r).map (i :: ·)
 | _ => none
noncomputable def cmpW : CmpOp -> W -> W -> Option Bool
 | .Eq, x, y => eqW x y
 | .NotEq, x, y => (eqW x y).map (!·)
 | .In, .sc (.int i), .nd .lst ds => (Zbu ds).map fun is => decide (i ∈ is)
 | op, .sc (.int i), .sc (.int j) => cmpI op i j
 | _, _, _ => none
noncomputable def ixN' (n : Nat) (i : Int) : Option Nat := if 0 <= i then (if i < n then some i.toNat else none) else if -(n : Int) <= i then some (i + n).toNat else none
noncomputable def ixW : W -> W -> Option D
 | .nd .lst ds, .sc (.int i) => (ixN' ds.length i).bind fun j => ds[j]?
 | .nd .frl ds, .sc (.int i) => (ixN' ds.length i).bind fun j => ds[j]?
 | .nd .tup ds, .sc (.int i) => (ixN' ds.length i).bind fun j => ds[j]?
 | .nd .ftp ds, .sc (.int i) => (ixN' ds.length i).bind fun j => ds[j]?
 | .sc (.str z), .sc (.int i) => if z.length <= sizeLine then ((ixN' z.cps.toList.length i).bind fun j => z.cps.toList[j]?).map fun c => .sc (.str ⟨#[c]⟩) else none
 | _, _ => none
noncomputable def ixW2 (x y : W) : Option D := ixW x y
noncomputable def ZaX (op : CmpOp) (x y : W) : Option Bool := cmpW op x y
noncomputable def Zg1 (f : Str) : List Str -> List D -> Option D
 | g :: fs, d :: ds => if g = f then some d else Zg1 f fs ds
 | _, _ => none
noncomputable def fldW (ok : Addr -> Str -> Bool) (f : Str) : W -> Option D
 | .nd (.ins C fs) ds => if ok C f then Zg1 f fs ds else none
 | _ => none
noncomputable def truW : W -> Option Bool
 | .sc (.bl b) => some b
 | .sc (.int i) => some (decide (i ≠ 0))
 | .sc (.str x) => if x.length <= sizeLine then some (decide (x.length ≠ 0)) else none
 | .sc .non => some false
 | .nd .lst ds => some (!ds.isEmpty)
 | .nd .frl ds => some (!ds.isEmpty)
 | .nd .tup ds => some (!ds.isEmpty)
 | .nd .ftp ds => some (!ds.isEmpty)
 | .nd (.dic _) ds => some (!ds.isEmpty)
 | _ => none
noncomputable def tyW : Ty -> W -> Option Bool
 | .int, .sc (.int _) => some true | .int, .sc (.bl _) => some true | .int, .sc (.str _) => some false | .int, .sc .non => some false
 | .int, .nd .lst _ => some false | .int, .nd .tup _ => some false
 | .bool, .sc (.bl _) => some true | .bool, .sc (.int _) => some false | .bool, .sc (.str _) => some false | .bool, .sc .non => some false
 | .bool, .nd .lst _ => some false | .bool, .nd .tup _ => some false
 | .str, .sc (.str _) => some true | .str, .sc (.int _) => some false | .str, .sc (.bl _) => some false | .str, .sc .non => some false
 | .str, .nd .lst _ => some false | .str, .nd .tup _ => some false
 | .list, .nd .lst _ => some true | .list, .nd .tup _ => some false | .list, .sc (.int _) => some false | .list, .sc (.bl _) => some false | .list, .sc (.str _) => some false | .list, .sc .non => some false
 | .tuple, .nd .tup _ => some true | .tuple, .nd .lst _ => some false | .tuple, .sc (.int _) => some false | .tuple, .sc (.bl _) => some false | .tuple, .sc (.str _) => some false | .tuple, .sc .non => some false
 | _, _ => none
noncomputable def Zk0 : List D -> Option (List Bool)
 | [] => some []
 | .sc (.bl b) :: r => (Zk0 r).map (b :: ·)
 | _ => none
noncomputable def cutD (xs : List D) (lo hi : Option Int) : List D := (xs.drop (HT.sIx xs.length 0 lo)).take (HT.sIx xs.length xs.length hi - HT.sIx xs.length 0 lo)
noncomputable def slD : W -> Option Int -> Option Int -> Option D
 | .nd .lst ds, lo, hi => some (.node .lst true (cutD ds lo hi))
 | .nd .frl ds, lo, hi => some (.node .lst true (cutD ds lo hi))
 | .sc (.str z), lo, hi => if z.length <= sizeLine then some (.sc (.str (Txt.slice z lo hi))) else none
 | _, _, _ => none
noncomputable def intP : W -> Option (Option Int)
 | .sc (.int i) => some (some i)
 | _ => none
noncomputable def Zff (e : E) (c : M Op) : M (Option Int) := match e with
 | .k .non => M.ret none
 | _ => (c.bnd view).bnd fun w => lift (intP w)
noncomputable def ZlU : List D -> Option (List Str)
 | [] => some []
 | .sc (.str x) :: r => (ZlU r).map (x :: ·)
 | _ => none
noncomputable def lenB : List W -> Option D
 | [.nd .lst ds] => some (.sc (.int ds.length))
 | [.nd .frl ds] => some (.sc (.int ds.length))
 | [.nd .tup ds] => some (.sc (.int ds.length))
 | [.nd .ftp ds] => some (.sc (.int ds.length))
 | [.nd (.dic _) ds] => some (.sc (.int ds.length))
 | [.sc (.str x)] => if x.length <= sizeLine then some (.sc (.int x.length)) else none
 | _ => none
noncomputable def absB : List W -> Option D
 | [.sc (.int i)] => some (.sc (.int (if i < 0 then -i else i)))
 | _ => none
noncomputable def strB : List W -> Option D
 | [.sc (.int i)] => if i.natAbs.log2 < 1920 then some (.sc (.str (Str.ofString (toString i)))) else none
 | _ => none
noncomputable def intB : List W -> Option D
 | [.sc (.int i)] => some (.sc (.int i))
 | [.sc (.bl b)] => some (.sc (.int (if b then 1 else 0)))
 | [.sc (.str z)] => match intText? z with
  | some n => if z.length <= 640 then some (.sc (.int n)) else none
  | none => none
 | _ => none
noncomputable def Zlc : List W -> Option D
 | [.nd .lst ds] => some (.node .lst true ds)
 | [.nd .frl ds] => some (.node .lst true ds)
 | [.nd .tup ds] => some (.node .lst true ds)
 | [.nd .ftp ds] => some (.node .lst true ds)
 | _ => none
noncomputable def Zql : List W -> Option D
 | [.nd .lst ds] => some (.node .tup true ds)
 | _ => none
noncomputable def isiB (t : Ty) : List W -> Option D
 | [w] => (tyW t w).map fun b => .sc (.bl b)
 | _ => none
noncomputable def allB : List W -> Option D
 | [.nd .lst ds] => (Zk0 ds).map fun bs => .sc (.bl (bs.all id))
 | _ => none
noncomputable def sumB : List W -> Option D
 | [.nd .lst ds] => (Zbu ds).map fun is => .sc (.int is.sum)
 | _ => none
noncomputable def minB : List W -> Option D
 | [.sc (.int i), .sc (.int j)] => some (.sc (.int (if j < i then j else i)))
 | _ => none
noncomputable def maxB : List W -> Option D
 | [.sc (.int i), .sc (.int j)] => some (.sc (.int (if j > i then j else i)))
 | _ => none
noncomputable def Zld (c : Str) : List W -> Option D
 | [.nd (.exc ns _ _) _] => some (.sc (.bl (decide (c ∈ ns))))
 | _ => none
noncomputable def Zle : List W -> Option D
 | [.nd (.exc _ _ _) _] => some (.sc (.bl true))
 | _ => none
noncomputable def Zjb : List W -> Option D
 | [.nd (.exc _ _ _) _, .sc _] => some (.sc .non)
 | _ => none
noncomputable def Zlf (f : Str) : List W -> Option D
 | [.nd (.exc _ _ fs) ds] => if f ∈ Zg0 then Zg1 f fs ds else none
 | _ => none
noncomputable def ZdV : List D -> Option (List V)
 | [] => some []
 | .sc u :: r => if Zbt u = true then (ZdV r).map (u :: ·) else none
 | _ => none
noncomputable def cntB (v : V) : List W -> Option D
 | [.nd .lst ds] => (ZdV ds).map fun us => .sc (.int ((us.countP fun u => eqV u v : Nat) : Int))
 | _ => none
noncomputable def Zlg : List W -> Option D
 | [.nd .lst ds] => (Zbu ds).bind fun is => match is with
  | [] => none
  | i :: is => some (.sc (.int (is.foldl (fun a b => if b < a then b else a) i)))
 | _ => none
noncomputable def ZrM : List W -> Option D
 | [.nd .lst ds] => (Zbu ds).bind fun is => match is with
  | [] => none
  | i :: is => some (.sc (.int (is.foldl (fun a b => if b > a then b else a) i)))
 | _ => none
noncomputable def bfW : BF -> List W -> Option D
 | .len, ws => lenB ws
 | .abs, ws => absB ws
 | .str, ws => strB ws
 | .int, ws => intB ws
 | .list, ws => Zlc ws
 | .tuple, ws => Zql ws
 | .isi t, ws => isiB t ws
 | .all, ws => allB ws
 | .sum, ws => sumB ws
 | .min, ws => minB ws
 | .max, ws => maxB ws
 | .isiX c, ws => Zld c ws
 | .isiV, ws => Zle ws
 | .xinit, ws => Zjb ws
 | .xfld f, ws => Zlf f ws
 | .cnt v, ws => cntB v ws
 | .minL, ws => Zlg ws
 | .maxL, ws => ZrM ws
 | _, _ => none
noncomputable def strW : W -> Option Str
 | .sc (.str z) => some z
 | _ => none
noncomputable def bmW : BM -> Str -> List W -> Option D
 | .split, z, [.sc (.str s)] => if s.cps.size = 1 /\ z.length + 2 <= sizeLine then some (.node .lst true ((Txt.split z s).map fun x => .sc (.str x))) else none
 | .join, z, [.nd .lst ds] => (ZlU ds).bind fun ts => if JoinOk z ts = true then some (.sc (.str (Txt.join z ts))) else none
 | _, _, _ => none
noncomputable def rng (a b : Int) : List D := (List.range (b - a).toNat).map fun (k : Nat) => .sc (.int (a + k))
noncomputable def okR (i : Int) : Bool := decide (-(2 ^ 62) <= i) && decide (i < 2 ^ 62)
noncomputable def Zah : Int -> List D -> List D
 | _, [] => []
 | c, d :: ds => .node .tup false [.sc (.int c), d] :: Zah (c + 1) ds
noncomputable def zipD : List D -> List D -> List D
 | d :: ds, e :: es => .node .tup false [d, e] :: zipD ds es
 | _, _ => []
noncomputable def zipI : List W -> Option (List D)
 | [.nd k ds, .nd k' es] => if (k = .lst \/ k = .frl) /\ (k' = .lst \/ k' = .frl) then some (zipD ds es) else none
 | _ => none
noncomputable def ZnJ : List W -> Option (List D)
 | [.nd k ds, .sc (.int c)] => if (k = .lst \/ k = .frl) /\ okR c = true then some (Zah c ds) else none
 | _ => none
noncomputable def Zlh : List W -> Option (List D)
 | [.sc (.int n)] => if okR n then some (rng 0 n) else none
 | _ => none
noncomputable def ZrN : List W -> Option (List D)
 | [.sc (.int a), .sc (.int b)] => if okR a && okR b then some (rng a b) else none
 | _ => none
noncomputable def valI : List W -> Option (List D)
 | [.nd .lst ds] => some ds
 | [.nd .frl ds] => some ds
 | [.nd .tup ds] => some ds
 | [.nd .ftp ds] => some ds
 | [.sc (.str x)] => some (x.cps.toList.map fun c => .sc (.str ⟨#[c]⟩))
 | _ => none
noncomputable def itW : IK -> List W -> Option (List D)
 | .zip, ws => zipI ws
 | .enum, ws => ZnJ ws
 | .rng1, ws => Zlh ws
 | .rng2, ws => ZrN ws
 | .val, ws => valI ws
 | _, _ => none
noncomputable def holdV : Op -> M (W × Option (Nat × D))
 | .tmp (.sc v) => M.ret (.sc v, none)
 | .tmp (.node k _ ds) => M.ret (.nd k (shrL ds), none)
 | .tmp .hole => stk
 | .late i => fun δ => match δ[i]? with
  | some (.sc v) => .ok ((.sc v, none), δ)
  | some (.node k false ds) => .ok ((.nd k ds, none), δ)
  | some (.node k true ds) => .ok ((.nd k (shrL ds), some (i, .node k true (shrL ds))), δ.set i .hole)
  | _ => .stuck
noncomputable def ZD : List Op -> M (List W × List (Nat × D))
 | [] => M.ret ([], [])
 | p :: ps => (holdV p).bnd fun w => (ZD ps).bnd fun ws => M.ret (w.1 :: ws.1, w.2.toList ++ ws.2)
noncomputable def Zan : List (Nat × D) -> M Unit
 | [] => M.ret ()
 | (i, d) :: r => fun δ => Zan r (δ.set i d)
noncomputable def walked : List E -> Nat -> Bool
 | [], _ => false
 | .v i :: r, j => i == j || walked r j
 | _ :: r, j => walked r j
noncomputable def takeA (lend : Bool) : Op -> M D
 | .tmp d => M.ret d
 | .late i => fun δ => match δ[i]? with
  | some (.sc v) => .ok (.sc v, δ)
  | some (.node k false ds) => .ok (.node k false ds, δ)
  | some (.node k true ds) => if lend then .ok (.node k true ds, δ.set i .hole) else .ok (.node k false (shrL ds), δ.set i (.node k false (shrL ds)))
  | _ => .stuck
noncomputable def Zbj (lend : Bool) : List Op -> M (List D)
 | [] => M.ret []
 | p :: ps => (takeA lend p).bnd fun d => (Zbj lend ps).bnd fun ds => M.ret (d :: ds)
noncomputable def giveA : Op -> D -> M Unit
 | .tmp _, _ => M.ret ()
 | .late i, d => fun δ => match δ[i]? with
  | some .hole => .ok ((), δ.set i d)
  | _ => .ok ((), δ)
noncomputable def ZW : List Op -> List D -> M Unit
 | p :: ps, d :: ds => (giveA p d).bnd fun _ => ZW ps ds
 | _, _ => M.ret ()
noncomputable def ZdW (fi : FI) (ps : List Op) : M D := (Zbj fi.lend ps).bnd fun ds => match fi.run ds with
 | .ok (d, ds') => (ZW ps ds').bnd fun _ => M.ret d
 | .exc _ _ => stk
 | .stuck => stk
noncomputable def Zdm (fi : FI) (ps : List Op) : M D := (Zbj fi.lend ps).bnd fun ds => match fi.run ds with
 | .ok (d, ds') => (ZW ps ds').bnd fun _ => M.ret d
 | .exc x ds' => fun δ => match ZW ps ds' δ with
  | .ok (_, δ') => .exc x δ'
  | _ => .stuck
 | .stuck => stk
noncomputable def chkI (A : Addr) (m : Str) : Op -> M Unit
 | .late i => fun δ => match δ[i]? with
  | some (.node (.ins B fs) _ _) => if B = A /\ m ∉ fs then .ok ((), δ) else .stuck
  | _ => .stuck
 | .tmp (.node (.ins B fs) _ _) => fun δ => if B = A /\ m ∉ fs then .ok ((), δ) else .stuck
 | _ => stk
noncomputable def newF (C : Addr) (fi : FI) (ps : List Op) : M D := (Zbj fi.lend ps).bnd fun ds => match fi.run (.node (.ins C []) true [] :: ds) with
 | .ok (.sc .non, d :: ds') => (ZW ps ds').bnd fun _ => M.ret d
 | .ok _ => stk
 | .exc _ _ => stk
 | .stuck => stk
noncomputable def newX (ns : List Str) (fi : FI) (ps : List Op) : M D := if 1000 < ps.length then stk else (Zbj fi.lend ps).bnd fun ds => match fi.run (.node (.exc ns true []) true [] :: ds) with
 | .ok (.sc .non, d :: ds') => (ZW ps ds').bnd fun _ => M.ret d
 | .ok _ => stk
 | .exc _ _ => stk
 | .stuck => stk
noncomputable def Zdn {α : Type} : D -> M α
 | .node (.exc ns true fs) true ds => fun δ => .exc (.node (.exc ns false fs) true ds) δ
 | _ => stk
noncomputable def asgN (lock : Nat -> Bool) (i : Nat) (d : D) : M Unit := fun δ => if i < δ.length && !lock i then .ok ((), δ.set i d) else .stuck
noncomputable def ZcO (lock : Nat -> Bool) : List Nat -> List D -> M Unit
 | [], [] => M.ret ()
 | i :: is, d :: ds => (asgN lock i d).bnd fun _ => ZcO lock is ds
 | _, _ => stk
noncomputable def asgT (lock : Nat -> Bool) : Tg -> D -> M Unit
 | .name i, d => asgN lock i d
 | .tup is, .node .tup _ ds => ZcO lock is ds
 | .tup _, _ => stk
noncomputable def modS (i : Nat) (f : Kd -> List D -> Option (D × Kd × List D)) : M D := fun δ => match δ[i]? with
 | some (.node k true ds) => match f k ds with
  | some (r, k', ds') => .ok (r, δ.set i (.node k' true ds'))
  | none => .stuck
 | _ => .stuck
noncomputable def mutD : MM -> List W -> Kd -> List D -> Option (D × Kd × List D)
 | .extend, [.nd .lst es], .lst, ds => if ds.length + es.length <= sizeLine then some (.sc .non, .lst, ds ++ es) else none
 | .pop, [], .lst, ds => ds.getLast?.map fun d => (d, .lst, ds.dropLast)
 | .popAt, [.sc (.int i)], .lst, ds => if -(2 ^ 63) <= i /\ i < 2 ^ 63 then (ixN' ds.length i).bind fun j => ds[j]?.map fun d => (d, .lst, ds.eraseIdx j) else none
 | .reverse, [], .lst, ds => some (.sc .non, .lst, ds.reverse)
 | .clear, [], .lst, _ => some (.sc .non, .lst, [])
 | _, _, _, _ => none
noncomputable def appD (d : D) : Kd -> List D -> Option (D × Kd × List D)
 | .lst, ds => if ds.length < sizeLine then some (.sc .non, .lst, ds ++ [d]) else none
 | _, _ => none
noncomputable def appM (i : Nat) : List D -> M D
 | [d] => modS i (appD d)
 | _ => stk
noncomputable def chkL (i : Nat) : M Unit := fun δ => match δ[i]? with
 | some (.node .lst _ _) => .ok ((), δ)
 | _ => .stuck
noncomputable def setD (w : W) (d : D) : Kd -> List D -> Option (D × Kd × List D)
 | .lst, ds => match w with
  | .sc (.int i) => (ixN' ds.length i).map fun j => (.sc .non, .lst, ds.set j d)
  | _ => none
 | _, _ => none
noncomputable def Zch (w : W) (d : D) (k : Kd) (ds : List D) : Option (D × Kd × List D) := setD w d k ds
noncomputable def putN (f : Str) : List Str -> List Str
 | [] => [f]
 | g :: r => if g = f then g :: r else g :: putN f r
noncomputable def putV {α : Type} (f : Str) (d : α) : List Str -> List α -> List α
 | g :: r, x :: ds => if g = f then d :: ds else x :: putV f d r ds
 | _, _ => [d]
noncomputable def putD (ok : Addr -> Str -> Bool) (f : Str) (d : D) : Kd -> List D -> Option (D × Kd × List D)
 | .ins C fs, ds => if fs.length < 1000 /\ ok C f = true then some (.sc .non, .ins C (putN f fs), putV f d fs ds) else none
 | _, _ => none
noncomputable def putX (f : Str) (d : D) : Kd -> List D -> Option (D × Kd × List D)
 | .exc ns fr fs, ds => if fs.length < 1000 /\ f ∈ Zg0 then some (.sc .non, .exc ns fr (putN f fs), putV f d fs ds) else none
 | _, _ => none
structure Ctx where
 lock : Nat -> Bool
 fok : Addr -> Str -> Bool
 fuel : Nat
noncomputable def ZdL : List Nat -> M (List D)
 | [] => M.ret []
 | j :: js => fun δ => match δ[j]? with
  | some d => ((ZdL js).bnd fun ds => M.ret (d :: ds)) (δ.set j .hole)
  | none => .stuck
noncomputable def Zc2 : List Nat -> List D -> M Unit
 | j :: js, d :: ds => fun δ => Zc2 js ds (δ.set j d)
 | _, _ => M.ret ()
noncomputable def ZaR (asg : D -> M Unit) (cond : M Bool) (elt : M D) : List D -> List D -> M (List D)
 | [], acc => M.ret acc
 | d :: ds, acc => (asg d).bnd fun _ => cond.bnd fun b => if b then elt.bnd fun x => ZaR asg cond elt ds (acc ++ [x]) else ZaR asg cond elt ds acc
noncomputable def ZbD (k : Nat) (js : List Nat) (loop : M (List D)) : M D := (ZdL js).bnd fun caps δ => match loop (List.replicate k .hole ++ caps) with
 | .ok (acc, δ') => ((Zc2 js (δ'.drop k)).bnd fun _ => lift (newL acc)) δ
 | .exc _ _ => .stuck
 | .stuck => .stuck
noncomputable def fmtD : V -> Option Str
 | .int i => if i.natAbs.log2 < 1920 then some (Str.ofString (toString i)) else none
 | .str x => some x
 | .non => some (Str.ofString "None")
 | _ => none
noncomputable def fmtW (acc : Str) : W -> Option Str
 | .sc v => (fmtD v).bind fun z => if z.length <= sizeLine /\ (acc ++ z).length <= sizeLine then some (acc ++ z) else none
 | _ => none
noncomputable def isNW (p : Bool) : W -> D
 | .sc v => .sc (.bl (decide (v = .non) == p))
 | .nd _ _ => .sc (.bl (!p))
noncomputable def isBW (c p : Bool) : W -> Option D
 | .sc (.bl b) => some (.sc (.bl ((b == c) == p)))
 | _ => none
noncomputable def negW : W -> Option D
 | .sc (.int i) => some (.sc (.int (-i)))
 | _ => none
noncomputable def notW : W -> Option D
 | .sc (.bl t) => some (.sc (.bl (!t)))
 | _ => none
noncomputable def andM (b : M D) : W -> M D
 | .sc (.bl true) => b
 | .sc (.bl false) => M.ret (.sc (.bl false))
 | _ => stk
noncomputable def orM (b : M D) : W -> M D
 | .sc (.bl false) => b
 | .sc (.bl true) => M.ret (.sc (.bl true))
 | _ => stk
noncomputable def ZcP (c : M D) : M Bool := c.bnd fun d => lift (match d with | .sc (.bl b) => some b | _ => none)
noncomputable def tdef (e : E) (c : M D) : M Bool := (Zs e c).bnd fun p => (view p).bnd fun w => lift (truW w)
noncomputable def vdef (e : E) (c : M D) : M W := (Zs e c).bnd view
mutual
noncomputable def evb (C : Ctx) : E -> M D × M Bool
 | .k v => let c : M D := M.ret (.sc v); (c, tdef (.k v) c)
 | .g d => let c : M D := M.ret d; (c, tdef (.g d) c)
 | .v i => (valV i, tdef (.v i) (valV i))
 | .bin op a b =>
  let c : M D := (Zs a (evb C a).1).bnd fun p => (Zs b (evb C b).1).bnd fun q => (view p).bnd fun x => (view q).bnd fun y => lift (binW op x y)
  (c, tdef (.bin op a b) c)
 | .neg a =>
  let c : M D := (vdef a (evb C a).1).bnd fun x => lift (negW x)
  (c, tdef (.neg a) c)
 | .cmp op a b =>
  let c : M D := (Zs a (evb C a).1).bnd fun p => (Zs b (evb C b).1).bnd fun q => (view p).bnd fun x => (view q).bnd fun y => lift ((ZaX op x y).map fun t => .sc (.bl t))
  (c, ZcP c)
 | .chain op op' a b e =>
  let c : M D := (Zs a (evb C a).1).bnd fun p => (Zs b (evb C b).1).bnd fun q => (view p).bnd fun x => (view q).bnd fun y => (lift (cmpW op x y)).bnd fun t => if t then (Zs e (evb C e).1).bnd fun r => (view q).bnd fun y => (view r).bnd fun z => lift ((cmpW op' y z).map fun t => .sc (.bl t)) else M.ret (.sc (.bl false))
  (c, ZcP c)
 | .isN p a =>
  let c : M D := (vdef a (evb C a).1).bnd fun x => M.ret (isNW p x)
  (c, tdef (.isN p a) c)
 | .isB c p a =>
  let r : M D := (vdef a (evb C a).1).bnd fun x => lift (isBW c p x)
  (r, tdef (.isB c p a) r)
 | .nt a => ((vdef a (evb C a).1).bnd fun w => lift (notW w), (evb C a).2.bnd fun b => M.ret (!b))
 | .and a b => ((vdef a (evb C a).1).bnd (andM (evb C b).1), (evb C a).2.bnd fun t => if t then (evb C b).2 else M.ret false)
 | .or a b => ((vdef a (evb C a).1).bnd (orM (evb C b).1), (evb C a).2.bnd fun t => if t then M.ret true else (evb C b).2)
 | .ife c a b =>
  let r : M D := (evb C c).2.bnd fun t => if t then (evb C a).1 else (evb C b).1
  (r, tdef (.ife c a b) r)
 | .ix a i =>
  let c : M D := (Zs a (evb C a).1).bnd fun p => (Zs i (evb C i).1).bnd fun q => (view p).bnd fun x => (view q).bnd fun y => lift (ixW2 x y)
  (c, tdef (.ix a i) c)
 | .sl a lo hi =>
  let c : M D := (Zs a (evb C a).1).bnd fun p => (Zff lo (Zs lo (evb C lo).1)).bnd fun l => (Zff hi (Zs hi (evb C hi).1)).bnd fun h => (view p).bnd fun x => lift (slD x l h)
  (c, tdef (.sl a lo hi) c)
 | .fld a f =>
  let c : M D := (vdef a (evb C a).1).bnd fun x => lift (fldW C.fok f x)
  (c, tdef (.fld a f) c)
 | .lst es =>
  let c : M D := (evs C es).bnd fun ds => lift (newL ds)
  (c, tdef (.lst es) c)
 | .tup es =>
  let c : M D := (evs C es).bnd fun ds => lift (newT ds)
  (c, tdef (.tup es) c)
 | .kl vs =>
  let c : M D := lift (newL (vs.map D.sc))
  (c, tdef (.kl vs) c)
 | .kt vs =>
  let c : M D := lift (newT (vs.map D.sc))
  (c, tdef (.kt vs) c)
 | .dct0 =>
  let c : M D := M.ret (.node (.dic []) true [])
  (c, tdef .dct0 c)
 | .call f es =>
  let c : M D := (opds C es).bnd fun ps => ZdW f ps
  (c, tdef (.call f es) c)
 | .bf f es =>
  let c : M D := (opds C es).bnd fun ps => (views ps).bnd fun ws => lift (bfW f ws)
  (c, tdef (.bf f es) c)
 | .bm m o es =>
  let c : M D := (vdef o (evb C o).1).bnd fun w => (lift (strW w)).bnd fun z => (opds C es).bnd fun ps => (views ps).bnd fun ws => lift (bmW m z ws)
  (c, tdef (.bm m o es) c)
 | .mut m i ps es =>
  let c : M D := match m, ps with
   | .append, [] => (chkL i).bnd fun _ => (evs C es).bnd fun ds => appM i ds
   | m, [] => (chkL i).bnd fun _ => (opds C es).bnd fun ps => (views ps).bnd fun ws => modS i (mutD m ws)
   | _, _ => stk
  (c, tdef (.mut m i ps es) c)
 | .meth A m f o es =>
  let c : M D := (Zs o (evb C o).1).bnd fun p => (chkI A m p).bnd fun _ => (opds C es).bnd fun ps => ZdW f (p :: ps)
  (c, tdef (.meth A m f o es) c)
 | .new A f es =>
  let c : M D := (opds C es).bnd fun ps => newF A f ps
  (c, tdef (.new A f es) c)
 | .comp k js tg ik ies cond elt =>
  let C' : Ctx := { C with lock := fun i => decide (k <= i) }
  let loop (items : List D) : M (List D) := ZaR (asgT C'.lock tg) (tsts C' cond) (evb C' elt).1 items []
  let c : M D := (opds C ies).bnd fun ps => (ZD ps).bnd fun h => (lift (itW ik h.1)).bnd fun items => (ZbD k js (loop items)).bnd fun d => (Zan h.2).bnd fun _ => M.ret d
  (c, tdef (.comp k js tg ik ies cond elt) c)
 | .fs es =>
  let c : M D := fss C es Str.empty
  (c, tdef (.fs es) c)
noncomputable def fss (C : Ctx) : List E -> Str -> M D
 | [], acc => M.ret (.sc (.str acc))
 | e :: es, acc => (vdef e (evb C e).1).bnd fun w => (lift (fmtW acc w)).bnd fun acc' => fss C es acc'
noncomputable def opds (C : Ctx) : List E -> M (List Op)
 | [] => M.ret []
 | e :: es => (Zs e (evb C e).1).bnd fun p => (opds C es).bnd fun ps => M.ret (p :: ps)
noncomputable def evs (C : Ctx) : List E -> M (List D)
 | [] => M.ret []
 | e :: es => (evb C e).1.bnd fun p => (evs C es).bnd fun ps => M.ret (p :: ps)
noncomputable def tsts (C : Ctx) : List E -> M Bool
 | [] => M.ret true
 | e :: es => (evb C e).2.bnd fun b => if b then tsts C es else M.ret false
end
noncomputable abbrev ev (C : Ctx) (e : E) : M D := (evb C e).1
noncomputable abbrev tst (C : Ctx) (e : E) : M Bool := (evb C e).2
inductive Fl where
 | nx | rt (d : D) | bk | ct
noncomputable def forL (asg : D -> M Unit) (body : M Fl) : List D -> M Fl
 | [] => M.ret .nx
 | d :: ds => (asg d).bnd fun _ => body.bnd fun f => match f with
  | .nx => forL asg body ds
  | .ct => forL asg body ds
  | .bk => M.ret .nx
  | .rt x => M.ret (.rt x)
noncomputable def Zjc (c : M Bool) (body : M Fl) : Nat -> M Fl
 | 0 => stk
 | n + 1 => c.bnd fun b => if b then body.bnd fun f => match f with
  | .nx => Zjc c body n
  | .ct => Zjc c body n
  | .bk => M.ret .nx
  | .rt x => M.ret (.rt x)
  else M.ret .nx
noncomputable def movV (i : Nat) : M D := fun δ => match δ[i]? with
 | some (.sc v) => .ok (.sc v, δ)
 | some (.node k o ds) => .ok (.node k o ds, δ.set i .hole)
 | _ => .stuck
noncomputable def retV (C : Ctx) (e : E) : M D := match e with
 | .v i => if C.lock i then valV i else movV i
 | e => ev C e
noncomputable def seqL (c : M Fl) (r : M Fl) : M Fl := c.bnd fun f => match f with
 | .nx => r
 | f => M.ret f
noncomputable def unpM (lock : Nat -> Bool) (is : List Nat) : W -> M Unit
 | .nd .tup ds => ZcO lock is ds
 | .nd .lst ds => ZcO lock is ds
 | _ => stk
noncomputable def finB (h : List (Nat × D)) : Rs (Fl × List D) -> Rs (Fl × List D)
 | .ok (f, δ) => ((Zan h).bnd fun _ => M.ret f) δ
 | .exc x δ => (match Zan h δ with
  | .ok (_, δ') => .exc x δ'
  | _ => .stuck)
 | .stuck => .stuck
noncomputable def hits (c : Str) : D -> Bool
 | .node (.exc ns false _) true _ => decide (c ∈ ns)
 | _ => false
noncomputable def Zli (i : Nat) : Rs (Fl × List D) -> Rs (Fl × List D)
 | .ok (f, δ) => .ok (f, δ.set i .hole)
 | .exc _ _ => .stuck
 | .stuck => .stuck
noncomputable def tryM (lock : Nat -> Bool) (body : M Fl) (c : Str) (nm : Option Nat) (suite : M Fl) : M Fl := fun δ => match body δ with
 | .ok r => .ok r
 | .stuck => .stuck
 | .exc x δ' => if hits c x then (match nm with
  | none => (match suite δ' with
   | .exc _ _ => .stuck
   | r => r)
  | some i => if i < δ'.length && !lock i then Zli i (suite (δ'.set i x)) else .stuck) else .stuck
mutual
noncomputable def ex (C : Ctx) : S -> M Fl
 | .asg i e => (ev C e).bnd fun d => (asgN C.lock i d).bnd fun _ => M.ret .nx
 | .unp is e => (vdef e (ev C e)).bnd fun w => (unpM C.lock is w).bnd fun _ => M.ret .nx
 | .sub i ps ix e => match ps with
  | [] => (ev C e).bnd fun d => (ZaG i).bnd fun _ => (vdef ix (ev C ix)).bnd fun w => (modS i (Zch w d)).bnd fun _ => M.ret .nx
  | _ => stk
 | .attr i f e => (ev C e).bnd fun d => (ZaG i).bnd fun _ => (modS i (putD C.fok f d)).bnd fun _ => M.ret .nx
 | .ex e => (ev C e).bnd fun _ => M.ret .nx
 | .ret e => (retV C e).bnd fun d => M.ret (.rt d)
 | .retN => M.ret (.rt (.sc .non))
 | .iff c a b => (tst C c).bnd fun t => if t then exs C a else exs C b
 | .for_ tg ik ies body =>
  let lk : Nat -> Bool := fun j => C.lock j || walked ies j
  (opds C ies).bnd fun ps => (ZD ps).bnd fun h => (lift (itW ik h.1)).bnd fun items => (forL (asgT lk tg) (exs { C with lock := lk } body) items).bnd fun f => (Zan h.2).bnd fun _ => M.ret f
 | .while_ c body => Zjc (tst C c) (exs C body) C.fuel
 | .pass => M.ret .nx
 | .brk => M.ret .bk
 | .cnt => M.ret .ct
 | .raise _ => stk
 | .asgX i f es => ((opds C es).bnd fun ps => Zdm f ps).bnd fun d => (asgN C.lock i d).bnd fun _ => M.ret .nx
 | .exX f es => ((opds C es).bnd fun ps => Zdm f ps).bnd fun _ => M.ret .nx
 | .retX f es => ((opds C es).bnd fun ps => Zdm f ps).bnd fun d => M.ret (.rt d)
 | .raise0 ns => Zdn (.node (.exc ns true []) true [])
 | .raiseI ns f es => ((opds C es).bnd fun ps => newX ns f ps).bnd Zdn
 | .attrX i f e => (ev C e).bnd fun d => (ZaG i).bnd fun _ => (modS i (putX f d)).bnd fun _ => M.ret .nx
 | .forX tg ik ies body =>
  let lk : Nat -> Bool := fun j => C.lock j || walked ies j
  (opds C ies).bnd fun ps => (ZD ps).bnd fun h => (lift (itW ik h.1)).bnd fun items δ => finB h.2 (forL (asgT lk tg) (exs { C with lock := lk } body) items δ)
 | .try_ body c nm suite => tryM C.lock (exs C body) c nm (exs C suite)
noncomputable def exs (C : Ctx) : List S -> M Fl
 | [] => M.ret .nx
 | s :: r => seqL (ex C s) (exs C r)
end
noncomputable def Zjd (n : Nat) : Rs (Fl × List D) -> Rs (D × List D)
 | .ok (.rt d, δ) => .ok (d, δ.take n)
 | .ok (.nx, δ) => .ok (.sc .non, δ.take n)
 | .ok _ => .stuck
 | .exc x δ => .exc x (δ.take n)
 | .stuck => .stuck
noncomputable def Zg (C : Ctx) (n N : Nat) (body : List S) (ds : List D) : Rs (D × List D) :=
 if ds.length = n then Zjd n (exs { C with lock := fun i => decide (i < n) } body (ds ++ List.replicate (N - n) .hole)) else .stuck
end T
namespace T
open PySem L2
inductive Sep {α : Type} (R : α -> D -> Bud -> Prop) : List α -> List D -> Bud -> Prop
 | nil (m : Bud) : Sep R [] [] m
 | cons {a : α} {d : D} {as : List α} {ds : List D} {m1 m2 m : Bud} : R a d m1 -> Sep R as ds m2 -> (∀ b, m1 b + m2 b <= m b) -> Sep R (a :: as) (d :: ds) m
theorem RepL.sep {K : Fg} {H Hs : Hp} : ∀ {vs : List V} {ds : List D} {m : Bud}, RepL K H Hs vs ds m -> Sep (Rep K H Hs) vs ds m
 | _, _, _, .nil _ => .nil _
 | _, _, _, .cons a b c => .cons a b.sep c
theorem Sep.repL {K : Fg} {H Hs : Hp} : ∀ {vs : List V} {ds : List D} {m : Bud}, Sep (Rep K H Hs) vs ds m -> RepL K H Hs vs ds m
 | _, _, _, .nil _ => .nil _
 | _, _, _, .cons a b c => .cons a b.repL c
section
variable {α β : Type} {R R' : α -> D -> Bud -> Prop}
theorem Sep.length : ∀ {as : List α} {ds : List D} {m : Bud}, Sep R as ds m -> as.length = ds.length
 | _, _, _, .nil _ => rfl
 | _, _, _, .cons _ b _ => by rw [List.length_cons, List.length_cons, b.length]
theorem Sep.mono {as : List α} {ds : List D} {m m' : Bud} (h : Sep R as ds m) (l : ∀ b, m b <= m' b) : Sep R as ds m' := by
 cases h with
 | nil => exact .nil _
 | cons a b c => exact .cons a b fun x => Nat.le_trans (c x) (l x)
theorem Sep.imp : ∀ {as : List α} {ds : List D} {m : Bud}, (∀ a d m', (∀ b, m' b <= m b) -> R a d m' -> R' a d m') -> Sep R as ds m -> Sep R' as ds m
 | _, _, _, _, .nil _ => .nil _
 | _, _, m, f, .cons (m1 := m1) (m2 := m2) x y c => .cons (f _ _ _ (fun b => by have := c b; omega) x) (y.imp fun a d m' l => f a d m' fun b => by have := c b; have := l b; (try dsimp only at *); omega) c
theorem Sep.focus : ∀ {as : List α} {ds : List D} {m : Bud} {i : Nat} {d : D}, Sep R as ds m -> ds[i]? = some d -> ∃ (a : α) (m1 m2 : Bud), as[i]? = some a /\ R a d m1 /\ (∀ b, m1 b + m2 b <= m b) /\
 ∀ (R' : α -> D -> Bud -> Prop) (a' : α) (d' : D) (m' : Bud), (∀ a d m', (∀ b, m' b <= m2 b) -> R a d m' -> R' a d m') -> R' a' d' m' -> Sep R' (as.set i a') (ds.set i d') (fun b => m' b + m2 b)
 | _, _, _, _, _, .nil _, h => by simp at h
 | _, _, m, 0, _, .cons (a := a) (m1 := m1) (m2 := m2) x y c, h => by
  (simp only [List.getElem?_cons_zero, Option.some.injEq] at h)
  subst h
  exact ⟨a, m1, m2, rfl, x, c, fun R' a' d' m' f x' => .cons x' (y.imp f) fun b => Nat.le_refl _⟩
 | _, _, m, i + 1, d, .cons (a := a) (m1 := m1) (m2 := m2) x y c, h => by
  obtain ⟨a', n1, n2, e, r, l, f⟩ := Sep.focus (i := i) y (by simpa using h)
  refine ⟨a', n1, fun b => m1 b + n2 b, by simpa using e, r, fun b => by have := c b; have := l b; (try dsimp only at *); omega, fun R' a'' d'' m' g x' => ?_⟩
  have q := f R' a'' d'' m' (fun a d m' l' => g a d m' fun b => by have := l' b; (try dsimp only at *); omega) x'
  exact .cons (m2 := fun b => m' b + n2 b) (g _ _ _ (fun b => by (try dsimp only at *); omega) x) q fun b => by (try dsimp only at *); omega
theorem Sep.append : ∀ {as bs : List α} {ds es : List D} {m1 m2 : Bud}, Sep R as ds m1 -> Sep R bs es m2 -> Sep R (as ++ bs) (ds ++ es) (fun b => m1 b + m2 b)
 | _, _, _, _, _, _, .nil _, y => y.mono fun b => by (try dsimp only at *); omega
 | _, _, _, _, _, m2, .cons (m2 := n2) x y c, z => .cons (m2 := fun b => n2 b + m2 b) x (y.append z) fun b => by have := c b; omega
theorem Sep.get {as : List α} {ds : List D} {m : Bud} {i : Nat} {d : D} (h : Sep R as ds m) (e : ds[i]? = some d) : ∃ (a : α) (m1 : Bud), as[i]? = some a /\ R a d m1 /\ ∀ b, m1 b <= m b := by
 obtain ⟨a, m1, m2, e, r, l, _⟩ := h.focus e
 exact ⟨a, m1, e, r, fun b => by have := l b; omega⟩
theorem Sep.split : ∀ {as : List α} {ds es : List D} {m : Bud}, Sep R as (ds ++ es) m -> ∃ (a1 a2 : List α) (m1 m2 : Bud), as = a1 ++ a2 /\ Sep R a1 ds m1 /\ Sep R a2 es m2 /\ ∀ b, m1 b + m2 b <= m b
 | as, [], es, m, h => ⟨[], as, fun _ => 0, m, rfl, .nil _, h, fun b => by (try dsimp only at *); omega⟩
 | _, d :: ds, es, m, .cons (a := a) (m1 := m1) x y c => by
  obtain ⟨a1, a2, n1, n2, e, p, q, l⟩ := Sep.split (ds := ds) (es := es) y
  subst e
  exact ⟨a :: a1, a2, fun b => m1 b + n1 b, n2, rfl, .cons x p fun b => Nat.le_refl _, q, fun b => by have := c b; have := l b; (try dsimp only at *); omega⟩
theorem Sep.take {as : List α} {ds : List D} {m : Bud} (h : Sep R as ds m) (n : Nat) : Sep R (as.take n) (ds.take n) m := by
 have e : ds.take n ++ ds.drop n = ds := List.take_append_drop n ds
 rw [<- e] at h
 obtain ⟨a1, a2, m1, m2, q, p, p', l⟩ := h.split
 have hl := p.length
 have hd := h.length
 subst q
 have : (a1 ++ a2).take n = a1 := by
  by_cases hn : n <= ds.length
  . rw [List.take_left' (by rw [hl, List.length_take]; omega)]
  . have e2 : a2 = [] := by
     have := p'.length
     rw [List.length_drop] at this
     exact List.length_eq_zero_iff.mp (by (try dsimp only at *); omega)
    rw [e2, List.append_nil]
    exact List.take_of_length_le (by rw [hl, List.length_take]; omega)
 rw [this]
 exact p.mono fun b => by have := l b; omega
theorem Sep.drop {as : List α} {ds : List D} {m : Bud} (h : Sep R as ds m) (n : Nat) : Sep R (as.drop n) (ds.drop n) m := by
 have e : ds.take n ++ ds.drop n = ds := List.take_append_drop n ds
 rw [<- e] at h
 obtain ⟨a1, a2, m1, m2, q, p, p', l⟩ := h.split
 have hl := p.length
 subst q
 have : (a1 ++ a2).drop n = a2 := by
  by_cases hn : n <= ds.length
  . rw [List.drop_left' (by rw [hl, List.length_take]; omega)]
  . have e2 : a2 = [] := by
     have := p'.length
     rw [List.length_drop] at this
     exact List.length_eq_zero_iff.mp (by (try dsimp only at *); omega)
    rw [e2, List.append_nil]
    exact List.drop_of_length_le (by rw [hl, List.length_take]; omega)
 rw [this]
 exact p'.mono fun b => by have := l b; omega
end
section
variable {K : Fg} {H Hs Hs' : Hp}
mutual
theorem Rep.share (g : Same Hs Hs') : ∀ {v : V} {d : D} {m : Bud}, (∀ b, m b ≥ 1 -> H b ≠ none -> Hs' b = H b) -> Rep K H Hs v d m -> Rep K H Hs' v (shr d) (fun _ => 0)
 | _, _, _, _, .sc v _ => .sc v _
 | _, _, _, _, .hole v _ => .hole v _
 | _, _, m, k, .own (a := a) (m' := m') n r h => by
  have h1 : m a ≥ 1 := by have := h a; simp only [one, if_pos] at this; omega
  refine .shd (Zc1.r (n.eq (k a h1 n.at))) (RepL.share g (fun b hb => k b ?_) r)
  have := h b
  omega
 | _, _, _, _, .shd n r => .shd (n.same g) (RepL.share g (fun b hb => absurd hb (by simp)) r)
theorem RepL.share (g : Same Hs Hs') : ∀ {vs : List V} {ds : List D} {m : Bud}, (∀ b, m b ≥ 1 -> H b ≠ none -> Hs' b = H b) -> RepL K H Hs vs ds m -> RepL K H Hs' vs (shrL ds) (fun _ => 0)
 | _, _, _, _, .nil _ => .nil _
 | _, _, m, k, .cons x y h => by
  refine .cons (Rep.share g (fun b hb => k b ?_) x) (RepL.share g (fun b hb => k b ?_) y) fun b => Nat.le_refl _
  . have := h b; omega
  . have := h b; omega
end
noncomputable def shH (H Hs : Hp) (m : Bud) : Hp := fun b => if m b ≥ 1 then H b else Hs b
theorem ZdM {M : Bud} {m : Bud} (g : Good H Hs M) (l : ∀ b, m b <= M b) : Same Hs (shH H Hs m) := fun b o e => by
 unfold shH
 split
 . exact g.sub b o e
 . exact e
theorem ZfY {m : Bud} : ∀ b, m b ≥ 1 -> H b ≠ none -> shH H Hs m b = H b := fun b h _ => if_pos h
theorem Good.share {m M : Bud} (g : Good H Hs (fun b => m b + M b)) : Good H (shH H Hs m) M where
 sub := fun b o e => by
  unfold shH at e
  split at e
  . exact e
  . exact g.sub b o e
 le := fun b => by have : m b + M b <= 1 := g.le b; omega
 ne := fun b h => by
  have : m b + M b <= 1 := g.le b
  unfold shH
  rw [if_neg (by (try dsimp only at *); omega)]
  exact g.ne b (by show m b + M b = 1; omega)
 has := fun b h => by
  have : m b + M b <= 1 := g.le b
  exact g.has b (by show m b + M b = 1; omega)
theorem Stp.share {m M : Bud} (g : Good H Hs (fun b => m b + M b)) : Stp H Hs (fun b => m b + M b) H (shH H Hs m) M where
 keep := fun _ _ h _ => h
 own := fun b h => .inl (by have : m b + M b <= 1 := g.le b; show m b + M b = 1; omega)
 grow := ZdM g fun b => by (try dsimp only at *); omega
 shr := fun b h h' => by
  unfold shH at h'
  split at h'
  . have : m b + M b <= 1 := g.le b
    exact .inl (by show m b + M b = 1; omega)
  . exact absurd h h'
 stay := fun _ h => h
end
def RepO (K : Fg) (H Hs : Hp) (o : Option V) (d : D) (m : Bud) : Prop := d = .hole \/ ∃ v, o = some v /\ Rep K H Hs v d m
abbrev RepS (K : Fg) (H Hs : Hp) (σ : St) (δ : List D) (m : Bud) : Prop := Sep (RepO K H Hs) σ δ m
section
variable {K : Fg} {H Hs H' Hs' : Hp}
theorem RepO.frame {o : Option V} {d : D} {m : Bud} (g : Same Hs Hs') (k : ∀ b, m b ≥ 1 -> H b ≠ none -> H' b = H b) (h : RepO K H Hs o d m) : RepO K H' Hs' o d m := by
 rcases h with h | ⟨v, e, r⟩
 . exact .inl h
 . exact .inr ⟨v, e, r.frame g k⟩
theorem RepS.frame {σ : St} {δ : List D} {m : Bud} (g : Same Hs Hs') (k : ∀ b, m b ≥ 1 -> H b ≠ none -> H' b = H b) (h : RepS K H Hs σ δ m) : RepS K H' Hs' σ δ m :=
 h.imp fun a d m' l r => RepO.frame g (fun b hb => k b (Nat.le_trans hb (l b))) r
theorem RepL.slots : ∀ {vs : List V} {ds : List D} {m : Bud}, RepL K H Hs vs ds m -> RepS K H Hs (vs.map some) ds m
 | _, _, _, .nil _ => .nil _
 | _, _, _, .cons x y c => .cons (.inr ⟨_, rfl, x⟩) (RepL.slots y) c
theorem holes (o : Nat -> Option V) : ∀ (n : Nat) (m : Bud) (σ : St), σ.length = n -> RepS K H Hs σ (List.replicate n .hole) m
 | 0, m, [], _ => .nil _
 | n + 1, m, o :: σ, h => .cons (m1 := fun _ => 0) (.inl rfl) (holes (fun _ => none) n m σ (by simpa using h)) fun b => by (try dsimp only at *); omega
theorem RepS.slot {σ : St} {δ : List D} {m : Bud} {i : Nat} {d : D} (h : RepS K H Hs σ δ m) (e : δ[i]? = some d) (hd : d ≠ .hole) : ∃ (v : V) (m1 m2 : Bud), σ[i]? = some (some v) /\ Rep K H Hs v d m1 /\ (∀ b, m1 b + m2 b <= m b) /\
 ∀ (H' Hs' : Hp) (o : Option V) (d' : D) (m' : Bud), Same Hs Hs' -> (∀ b, m2 b ≥ 1 -> H b ≠ none -> H' b = H b) -> RepO K H' Hs' o d' m' -> RepS K H' Hs' (σ.set i o) (δ.set i d') (fun b => m' b + m2 b) := by
 obtain ⟨o, m1, m2, e1, r, l, f⟩ := h.focus e
 rcases r with r | ⟨v, rfl, r⟩
 . exact absurd r hd
 . exact ⟨v, m1, m2, e1, r, l, fun H' Hs' o d' m' g k x => f _ o d' m' (fun a d m'' l' q => RepO.frame g (fun b hb => k b (Nat.le_trans hb (l' b))) q) x⟩
theorem ZaU {α : Type} : ∀ {l : List α} {i : Nat} {a : α}, l[i]? = some a -> l.set i a = l
 | [], _, _, h => by simp at h
 | b :: l, 0, a, h => by simp at h; subst h; rfl
 | b :: l, i + 1, a, h => by rw [List.set_cons_succ, ZaU (by simpa using h)]
end
end T
namespace T
open PySem PySem.Spec L2
theorem Zc {α β : Type} {c : M α} {f : α -> M β} {δ : List D} {r : β × List D} (h : c.bnd f δ = .ok r) : ∃ a δ', c δ = .ok (a, δ') /\ f a δ' = .ok r := by
 unfold M.bnd at h
 split at h
 . rename_i a δ' e
   exact ⟨a, δ', e, h⟩
 . cases h
 . cases h
theorem Zi {α : Type} {a : α} {δ : List D} {r : α × List D} (h : M.ret a δ = .ok r) : r = (a, δ) := by
 unfold M.ret at h
 injection h with h
 exact h.symm
theorem Za8 {α : Type} {o : Option α} {δ : List D} {a : α} {δ' : List D} (h : lift o δ = .ok (a, δ')) : o = some a /\ δ' = δ := by
 cases o with
 | none => cases h
 | some x =>
  have := Zi h
  cases this
  exact ⟨rfl, rfl⟩
def RepP (K : Fg) (H Hs : Hp) (σ : St) (v : V) : Op -> Bud -> Prop
 | .late i, _ => σ[i]? = some (some v)
 | .tmp d, m => Rep K H Hs v d m
theorem RepP.frame {K : Fg} {H Hs H' Hs' : Hp} {σ : St} {v : V} {p : Op} {m : Bud} (g : Same Hs Hs') (k : ∀ b, m b ≥ 1 -> H b ≠ none -> H' b = H b) (h : RepP K H Hs σ v p m) : RepP K H' Hs' σ v p m := by
 cases p with
 | late i => exact h
 | tmp d => exact Rep.frame g k h
inductive View (K : Fg) (H Hs : Hp) : V -> W -> Bud -> Prop
 | sc (v : V) (m : Bud) : View K H Hs v (.sc v) m
 | nd {a : Addr} {k : Kd} {vs : List V} {ds : List D} {m : Bud} : Zf4 K H a vs k -> RepL K H Hs vs ds m -> View K H Hs (.ref a) (.nd k ds) m
theorem View.frame {K : Fg} {H Hs Hs' : Hp} {v : V} {w : W} {m : Bud} (g : Same Hs Hs') (h : View K H Hs v w m) : View K H Hs' v w m := by
 cases h with
 | sc v m => exact .sc v m
 | nd n r => exact .nd n (r.frame g fun _ _ _ => rfl)
section
variable {K : Fg} {H Hs H' Hs' H1 Hs1 H2 Hs2 : Hp} {σ : St} {δ δ' : List D} {M M' B m : Bud}
theorem Good.re (g : Good H Hs M) (l : ∀ b, M' b <= M b := by intro b; (try dsimp only); omega) : Good H Hs M' := g.drop l
theorem ZbH {p : Op} {v : V} {w : W} (g : Good H Hs (fun b => B b + M b)) (s : RepS K H Hs σ δ M) (r : RepP K H Hs σ v p m) (e : view p δ = .ok (w, δ')) :
 ∃ Hs' M', Good H Hs' (fun b => B b + M' b) /\ Stp H Hs (fun b => B b + M b) H Hs' (fun b => B b + M' b) /\ View K H Hs' v w m /\ RepS K H Hs' σ δ' M' := by
 cases p with
 | tmp d =>
  cases d with
  | sc u =>
   have := Zi e
   cases this
   cases r
   exact ⟨Hs, M, g, Stp.refl _ _ _, .sc _ _, s⟩
  | hole => cases e
  | node k o ds =>
   have := Zi e
   cases this
   refine ⟨Hs, M, g, Stp.refl _ _ _, ?_, s⟩
   cases r with
   | own n q l => exact .nd n.r (q.mono fun b => by have := l b; omega)
   | shd n q => exact .nd (n.same g.sub) (q.mono fun b => Nat.zero_le _)
 | late i =>
  have r : σ[i]? = some (some v) := r
  unfold view at e
  dsimp only at e
  split at e
  . rename_i u hi
    cases e
    obtain ⟨v', m1, m2, e1, q, l, f⟩ := s.slot hi (by simp)
    rw [r] at e1
    cases e1
    cases q
    exact ⟨Hs, M, g, Stp.refl _ _ _, .sc _ _, s⟩
  . rename_i k ds hi
    cases e
    obtain ⟨v', m1, m2, e1, q, l, f⟩ := s.slot hi (by simp)
    rw [r] at e1
    cases e1
    cases q with
    | shd n q => exact ⟨Hs, M, g, Stp.refl _ _ _, .nd (n.same g.sub) (q.mono fun b => Nat.zero_le _), s⟩
  . rename_i k ds hi
    cases e
    obtain ⟨v', m1, m2, e1, q, l, f⟩ := s.slot hi (by simp)
    rw [r] at e1
    cases e1
    cases q with
    | @own a _ vs _ _ m' n q l' =>
     have g2 : Good H Hs (fun b => m' b + (B b + (one a b + m2 b))) := g.re fun b => by have := l b; have := l' b; omega
     have hsame := ZdM g2 (m := m') fun b => by omega
     have q2 := RepL.share hsame (ZfY (H := H) (Hs := Hs) (m := m')) q
     refine ⟨shH H Hs m', fun b => one a b + m2 b, g2.share, ?_, .nd n.r (q2.mono fun b => Nat.zero_le _), ?_⟩
     . have s1 := Stp.share g2
       exact ⟨fun b o h z => h, fun b h => by
        rcases s1.own b h with q | q
        . left
          have : B b + M b <= 1 := g.le b
          have h1 := l b
          have h2 := l' b
          have h3 : m' b + (B b + (one a b + m2 b)) = 1 := q
          show B b + M b = 1
          omega
        . exact .inr q, s1.grow, fun b h h' => by
        rcases s1.shr b h h' with q | q
        . left
          have : B b + M b <= 1 := g.le b
          have h1 := l b
          have h2 := l' b
          have h3 : m' b + (B b + (one a b + m2 b)) = 1 := q
          show B b + M b = 1
          omega
        . exact .inr q, fun b h => h⟩
     . have z := f H (shH H Hs m') (some (.ref a)) (.node k true (shrL ds)) (one a) hsame (fun _ _ _ => rfl) (.inr ⟨_, rfl, .own n q2 fun b => by simp⟩)
       rw [ZaU r] at z
       exact z
  . cases e
def Outs (K : Fg) (H Hs : Hp) (m : Bud) (d : D) (Q : VK) : Prop := ∀ (v : V) (H' : Hp) (m' : Bud), Same H H' -> (∀ b, m' b <= 1) -> (∀ b, m' b = 1 -> H' b ≠ none) -> (∀ b, H b ≠ none -> m' b <= m b) -> Rep K H' Hs v d m' -> Q v H'
theorem Outs.sc {u : V} {Q : VK} (h : Outs K H Hs m (.sc u) Q) : Q u H := h u H (fun _ => 0) (Same.refl _) (fun _ => Nat.zero_le _) (fun _ h => by simp at h) (fun _ _ => Nat.zero_le _) (.sc u _)
theorem Zje {H : Hp} {p : Addr} {o : HO} (h : H p = none) : Same H (upd H p o) := fun b u e => by
 rw [Zt (ZaF e h)]
 exact e
theorem Outs.new {k : Kd} {ds : List D} {vs : List V} {o : HO} {p : Addr} {Q : VK} (h : Outs K H Hs m (.node k true ds) Q) (hm : ∀ b, m b <= 1) (hh : ∀ b, m b = 1 -> H b ≠ none) (hp : H p = none) (n : Zc1 K (upd H p o) p vs k) (r : RepL K H Hs vs ds m) : Q (.ref p) (upd H p o) := by
 have hs := Zje (o := o) hp
 have mp : m p = 0 := by
  have := hm p
  by_cases q : m p = 1
  . exact absurd hp (hh p q)
  . omega
 refine h (.ref p) (upd H p o) (fun b => one p b + m b) hs (fun b => ?_) (fun b q => ?_) (fun b q => ?_) (.own n (r.frame (Same.refl _) fun b hb hn => ?_) fun b => Nat.le_refl _)
 . unfold one
   have := hm b
   split
   . rename_i e; subst e; omega
   . omega
 . by_cases e : b = p
   . subst e; rw [Zv]; simp
   . rw [Zt e]
     exact hh b (by simp only [one, if_neg e] at q; omega)
 . have e : b ≠ p := fun e => by subst e; exact q hp
   simp only [one, if_neg e]
   omega
 . have e : b ≠ p := fun e => by subst e; exact hn hp
   rw [Zt e]
theorem ZeF {H0 Hs0 : Hp} {M0 : Bud} {d : D} {Q : VK} (st : Stp H0 Hs0 M0 H Hs (fun b => B b + M b)) (g : Good H Hs (fun b => B b + M b)) (s : RepS K H Hs σ δ M)
 (q : ∀ (v : V) (H' Hs' : Hp) (m M' : Bud), Good H' Hs' (fun b => m b + M' b) -> Stp H0 Hs0 M0 H' Hs' (fun b => m b + M' b) -> Rep K H' Hs' v d m -> RepS K H' Hs' σ δ M' -> Q v H') : Outs K H Hs B d Q := by
 intro v H' m' hs h1 h2 h3 r
 have hz : ∀ b, H b = none -> M b = 0 /\ B b = 0 := fun b hb => by
  have := g.has b
  have l : B b + M b <= 1 := g.le b
  by_cases e : B b + M b = 1
  . exact absurd hb (this e)
  . omega
 have hst : ∀ b, H b ≠ none -> H' b ≠ none := fun b hb => by
  cases e : H b with
  | none => exact absurd e hb
  | some o => rw [hs b o e]; simp
 refine q v H' Hs m' M ⟨fun b o e => hs b o (g.sub b o e), fun b => ?_, fun b h => ?_, fun b h => ?_⟩ ⟨fun b o e z => hs b o (st.keep b o e z), fun b h => ?_, st.grow, st.shr, fun b h => hst b (st.stay b h)⟩ r (s.frame (Same.refl _) fun b hb hn => ?_)
 . have l : B b + M b <= 1 := g.le b
   have := h1 b
   by_cases e : H b = none
   . have := hz b e; show m' b + M b <= 1; omega
   . have := h3 b e; show m' b + M b <= 1; omega
 . have h : m' b + M b = 1 := h
   have l : B b + M b <= 1 := g.le b
   by_cases e : H b = none
   . cases q : Hs b with
     | none => rfl
     | some o => rw [g.sub b o q] at e; cases e
   . have := h3 b e
     exact g.ne b (by show B b + M b = 1; omega)
 . have h : m' b + M b = 1 := h
   have l : B b + M b <= 1 := g.le b
   by_cases e : m' b = 1
   . exact h2 b e
   . exact hst b (g.has b (by show B b + M b = 1; omega))
 . have h : m' b + M b = 1 := h
   have l : B b + M b <= 1 := g.le b
   by_cases e : H b = none
   . right
     cases w : H0 b with
     | none => rfl
     | some o => exact absurd e (st.stay b (by rw [w]; simp))
   . have := h3 b e
     exact st.own b (by show B b + M b = 1; omega)
 . cases e : H b with
   | none => exact absurd e hn
   | some o => exact hs b o e
theorem RepL.app {vs ws : List V} {ds es : List D} {m1 m2 : Bud} (a : RepL K H Hs vs ds m1) (b : RepL K H Hs ws es m2) : RepL K H Hs (vs ++ ws) (ds ++ es) (fun b => m1 b + m2 b) := (a.sep.append b.sep).repL
theorem RepL.len {vs : List V} {ds : List D} {m : Bud} (a : RepL K H Hs vs ds m) : vs.length = ds.length := a.sep.length
end
end T
namespace T
open PySem PySem.Spec L2
def tG {α : Type} (K : Fg) (c : M α) (R : Hp -> Hp -> St -> α -> V -> Bud -> Prop) : TE := fun σ H Q => ∃ (δ : List D) (Hs : Hp) (M : Bud) (a : α) (δ' : List D), Good H Hs M /\ RepS K H Hs σ δ M /\ c δ = .ok (a, δ') /\
 ∀ (v : V) (H' Hs' : Hp) (m M' : Bud), Good H' Hs' (fun b => m b + M' b) -> Stp H Hs M H' Hs' (fun b => m b + M' b) -> R H' Hs' σ a v m -> RepS K H' Hs' σ δ' M' -> Q v H'
def tM (K : Fg) (c : M D) : TE := tG K c fun H Hs _ d v m => Rep K H Hs v d m
def tP (K : Fg) (c : M Op) : TE := tG K c fun H Hs σ p v m => RepP K H Hs σ v p m
def tT (K : Fg) (c : M Bool) : TT := fun σ H Q => ∃ (δ : List D) (Hs : Hp) (M : Bud) (b : Bool) (δ' : List D), Good H Hs M /\ RepS K H Hs σ δ M /\ c δ = .ok (b, δ') /\
 ∀ (H' Hs' : Hp) (M' : Bud), Good H' Hs' M' -> Stp H Hs M H' Hs' M' -> RepS K H' Hs' σ δ' M' -> Q b H'
def Zdo (K : Fg) (H Hs : Hp) (σ : St) : List V -> List Op -> Bud -> Prop
 | [], [], _ => True
 | v :: vs, p :: ps, m => ∃ m1 m2 : Bud, RepP K H Hs σ v p m1 /\ Zdo K H Hs σ vs ps m2 /\ ∀ b, m1 b + m2 b <= m b
 | _, _, _ => False
theorem Zdo.frame {K : Fg} {H Hs H' Hs' : Hp} {σ : St} (g : Same Hs Hs') : ∀ {vs : List V} {ps : List Op} {m : Bud}, (∀ b, m b ≥ 1 -> H b ≠ none -> H' b = H b) -> Zdo K H Hs σ vs ps m -> Zdo K H' Hs' σ vs ps m
 | [], [], _, _, h => h
 | v :: vs, p :: ps, m, k, ⟨m1, m2, a, b, l⟩ => ⟨m1, m2, a.frame g fun c hc => k c (by have := l c; omega), b.frame g fun c hc => k c (by have := l c; omega), l⟩
 | [], _ :: _, _, _, h => h.elim
 | _ :: _, [], _, _, h => h.elim
def tPs (K : Fg) (c : M (List Op)) : TA := fun σ H Q => ∃ (δ : List D) (Hs : Hp) (M : Bud) (a : List Op) (δ' : List D), Good H Hs M /\ RepS K H Hs σ δ M /\ c δ = .ok (a, δ') /\
 ∀ (vs : List V) (H' Hs' : Hp) (m M' : Bud), Good H' Hs' (fun b => m b + M' b) -> Stp H Hs M H' Hs' (fun b => m b + M' b) -> Zdo K H' Hs' σ vs a m -> RepS K H' Hs' σ δ' M' -> Q vs H'
def tDs (K : Fg) (c : M (List D)) : TA := fun σ H Q => ∃ (δ : List D) (Hs : Hp) (M : Bud) (a : List D) (δ' : List D), Good H Hs M /\ RepS K H Hs σ δ M /\ c δ = .ok (a, δ') /\
 ∀ (vs : List V) (H' Hs' : Hp) (m M' : Bud), Good H' Hs' (fun b => m b + M' b) -> Stp H Hs M H' Hs' (fun b => m b + M' b) -> RepL K H' Hs' vs a m -> RepS K H' Hs' σ δ' M' -> Q vs H'
section
variable {X : Cx} {e a b : Expr} {es : List Expr} {pos : Pos}
theorem PE.imp {t t' : TE} (h : PE X e t) (w : ∀ σ H Q, t' σ H Q -> t σ H Q) : PE X e t' := fun pins s σ H Q I q => h pins s σ H Q I (w σ H Q q)
theorem PT.imp {t t' : TT} (h : PT X e t) (w : ∀ σ H Q, t' σ H Q -> t σ H Q) : PT X e t' := fun pins s σ H Q I q => h pins s σ H Q I (w σ H Q q)
theorem PA.imp {t t' : TA} (h : PA X es t) (w : ∀ σ H Q, t' σ H Q -> t σ H Q) : PA X es t' := fun pos pins s σ H Q I q => h pos pins s σ H Q I (w σ H Q q)
theorem Zc3 {H Hs : Hp} {M : Bud} (g : Good H Hs M) : Good H Hs (fun b => (fun _ => 0) b + M b) := g.drop fun b => by simp
theorem stp0 (H Hs : Hp) (M : Bud) : Stp H Hs M H Hs (fun b => (fun _ => 0) b + M b) := by
 have e : (fun b => (fun _ => 0) b + M b) = M := by funext b; simp
 rw [e]
 exact Stp.refl H Hs M
theorem ok_k {v : V} (h : PE X e (tC v)) : PE X e (tM X.K (M.ret (.sc v))) := PE.imp h fun σ H Q ⟨δ, Hs, M, d, δ', g, r, e, q⟩ => by
 have := Zi e
 cases this
 exact q v H Hs (fun _ => 0) M (Zc3 g) (stp0 H Hs M) (.sc v _) r
theorem ZcV {i : Nat} (h : PE X e (tVar i)) : PE X e (tP X.K (ZaG i)) := PE.imp h fun σ H Q ⟨δ, Hs, M, p, δ', g, r, e, q⟩ => by
 have fin : ∀ {d : D}, δ[i]? = some d -> d ≠ .hole -> p = .late i -> δ' = δ -> tVar i σ H Q := fun hd hn e1 e2 => by
  subst e1 e2
  obtain ⟨v, m1, m2, e3, _⟩ := r.slot hd hn
  exact ⟨v, e3, q v H Hs (fun _ => 0) M (Zc3 g) (stp0 H Hs M) e3 r⟩
 unfold ZaG at e
 split at e
 . rename_i hd
   injection e with e
   cases e
   exact fin hd (by simp) rfl rfl
 . rename_i hd
   injection e with e
   cases e
   exact fin hd (by simp) rfl rfl
 . cases e
theorem ok_v {i : Nat} (h : PE X e (tVar i)) : PE X e (tM X.K (valV i)) := PE.imp h fun σ H Q ⟨δ, Hs, M, d, δ', g, s, e, q⟩ => by
 unfold valV at e
 split at e
 . rename_i u hd
   injection e with e
   cases e
   obtain ⟨v, m1, m2, e3, r, _⟩ := s.slot hd (by simp)
   cases r
   exact ⟨u, e3, q u H Hs (fun _ => 0) M (Zc3 g) (stp0 H Hs M) (.sc _ _) s⟩
 . rename_i k ds hd
   injection e with e
   cases e
   obtain ⟨v, m1, m2, e3, r, _⟩ := s.slot hd (by simp)
   cases r with
   | shd n r => exact ⟨_, e3, q _ H Hs (fun _ => 0) M (Zc3 g) (stp0 H Hs M) (.shd n r) s⟩
 . rename_i k ds hd
   injection e with e
   cases e
   obtain ⟨v, m1, m2, e3, r, l, f⟩ := s.slot hd (by simp)
   refine ⟨v, e3, ?_⟩
   have g2 : Good H Hs (fun b => m1 b + m2 b) := g.re fun b => by have := l b; omega
   have hsame := ZdM g2 (m := m1) fun b => by omega
   have r2 := Rep.share hsame (ZfY (H := H) (Hs := Hs) (m := m1)) r
   have st := Stp.share g2
   refine q v H (shH H Hs m1) (fun _ => 0) m2 (Zc3 g2.share) ⟨fun b o h _ => h, fun b h => ?_, st.grow, fun b h h' => ?_, fun b h => h⟩ r2 ?_
   . have h : (fun _ => 0) b + m2 b = 1 := h
     have := l b
     have := g.le b
     left; simp at h; omega
   . rcases st.shr b h h' with z | z
     . have z : m1 b + m2 b = 1 := z
       have := l b
       have := g.le b
       left; omega
     . exact .inr z
   . have z := f H (shH H Hs m1) (some v) (.node k false (shrL ds)) (fun _ => 0) hsame (fun _ _ _ => rfl) (.inr ⟨v, rfl, r2⟩)
     rw [ZaU e3] at z
     exact z.mono fun b => by simp
 . cases e
theorem Ze {c : M D} (h : PE X e (tM X.K c)) : PE X e (tP X.K (c.bnd fun d => M.ret (.tmp d))) := PE.imp h fun σ H Q ⟨δ, Hs, M, p, δ', g, s, e, q⟩ => by
 obtain ⟨d, δ1, e1, e2⟩ := Zc e
 have := Zi e2
 cases this
 exact ⟨δ, Hs, M, d, _, g, s, e1, fun v H' Hs' m M' g' st r s' => q v H' Hs' m M' g' st r s'⟩
theorem seq2 {K : Fg} {ca cb : M Op} {σ : St} {H Hs : Hp} {M : Bud} {δ δ1 δ2 : List D} {p q : Op} {R : V -> V -> Hp -> Prop} (g : Good H Hs M) (s : RepS K H Hs σ δ M) (e1 : ca δ = .ok (p, δ1)) (e2 : cb δ1 = .ok (q, δ2))
 (h : ∀ (x y : V) (H2 Hs2 : Hp) (m1 m2 M2 : Bud), Good H2 Hs2 (fun b => (m1 b + m2 b) + M2 b) -> Stp H Hs M H2 Hs2 (fun b => (m1 b + m2 b) + M2 b) -> RepP K H2 Hs2 σ x p m1 -> RepP K H2 Hs2 σ y q m2 -> RepS K H2 Hs2 σ δ2 M2 -> R x y H2) :
 tP K ca σ H fun x H1 => tP K cb σ H1 fun y H2 => R x y H2 := by
 refine ⟨δ, Hs, M, p, δ1, g, s, e1, fun x H1 Hs1 m1 M1 g1 st1 r1 s1 => ⟨δ1, Hs1, M1, q, δ2, g1.re, s1, e2, fun y H2 Hs2 m2 M2 g2 st2 r2 s2 => ?_⟩⟩
 obtain ⟨G, S, k⟩ := Z1 g g1 st1 g2 st2
 have le : ∀ b, m1 b + (m2 b + M2 b) <= 1 := G.le
 exact h x y H2 Hs2 m1 m2 M2 G.re (S.drop (fun b => by omega) le) (r1.frame st2.grow k) r2 s2
theorem Zlj {K : Fg} {σ : St} {H Hs : Hp} {m1 m2 M : Bud} {δ δ1 δ2 : List D} {p q : Op} {x y : V} {w1 w2 : W} (g : Good H Hs (fun b => (m1 b + m2 b) + M b)) (s : RepS K H Hs σ δ M) (r1 : RepP K H Hs σ x p m1) (r2 : RepP K H Hs σ y q m2)
 (e1 : view p δ = .ok (w1, δ1)) (e2 : view q δ1 = .ok (w2, δ2)) : ∃ Hs' M', Good H Hs' (fun b => (m1 b + m2 b) + M' b) /\ Stp H Hs (fun b => (m1 b + m2 b) + M b) H Hs' (fun b => (m1 b + m2 b) + M' b) /\ View K H Hs' x w1 m1 /\ View K H Hs' y w2 m2 /\ RepS K H Hs' σ δ2 M' := by
 obtain ⟨Hs1, M1, g1, st1, v1, s1⟩ := ZbH (B := fun b => m1 b + m2 b) g s r1 e1
 obtain ⟨Hs2, M2, g2, st2, v2, s2⟩ := ZbH (B := fun b => m1 b + m2 b) g1 s1 (r2.frame st1.grow fun _ _ _ => rfl) e2
 refine ⟨Hs2, M2, g2, ?_, v1.frame st2.grow, v2, s2⟩
 have z := Z1 (m1 := fun _ => 0) g (g1.re fun b => by simp) (st1.drop (fun b => by simp) g1.le) g2 st2
 exact z.2.1.drop (fun b => by simp) z.1.le
def r2W (K : Fg) (f : W -> W -> Option D) : R2 := fun x y H Q => ∃ (Hs : Hp) (w1 w2 : W) (m1 m2 : Bud) (d : D), Same Hs H /\ (∀ b, m1 b + m2 b <= 1) /\ (∀ b, m1 b + m2 b = 1 -> H b ≠ none) /\ View K H Hs x w1 m1 /\ View K H Hs y w2 m2 /\ f w1 w2 = some d /\ Outs K H Hs (fun b => m1 b + m2 b) d Q
theorem op2 {K : Fg} {ca cb : M Op} {f : W -> W -> Option D} {σ : St} {H : Hp} {Q : VK} (h : tM K (ca.bnd fun p => cb.bnd fun q => (view p).bnd fun x => (view q).bnd fun y => lift (f x y)) σ H Q) : tOp (r2W K f) (tP K ca) (tP K cb) σ H Q := by
 obtain ⟨δ, Hs, M, d, δ', g, s, e, q⟩ := h
 obtain ⟨p, δ1, e1, e⟩ := Zc e
 obtain ⟨p2, δ2, e2, e⟩ := Zc e
 obtain ⟨w1, δ3, e3, e⟩ := Zc e
 obtain ⟨w2, δ4, e4, e⟩ := Zc e
 obtain ⟨e5, rfl⟩ := Za8 e
 refine seq2 g s e1 e2 fun x y H2 Hs2 m1 m2 M2 g2 st2 r1 r2 s2 => ?_
 obtain ⟨Hs3, M3, g3, st3, v1, v2, s3⟩ := Zlj g2 s2 r1 r2 e3 e4
 have z := Z1 (m1 := fun _ => 0) g (g2.re fun b => by simp) (st2.drop (fun b => by simp) g2.le) g3 st3
 have st : Stp H Hs M H2 Hs3 (fun b => (m1 b + m2 b) + M3 b) := z.2.1.drop (fun b => by simp) z.1.le
 exact ⟨Hs3, w1, w2, m1, m2, d, g3.sub, fun b => by have : (m1 b + m2 b) + M3 b <= 1 := g3.le b; omega, fun b hb => g3.has b (by have : (m1 b + m2 b) + M3 b <= 1 := g3.le b; show (m1 b + m2 b) + M3 b = 1; omega), v1, v2, e5, ZeF st g3 s3 q⟩
theorem Zn {op : Operator} {ca cb : M Op} (ho : OpR X (binaryOp op) (r2W X.K (binW op))) (ha : PE X a (tP X.K ca)) (hb : PE X b (tP X.K cb)) :
 PE X (.BinOp a op b pos) (tM X.K (ca.bnd fun p => cb.bnd fun q => (view p).bnd fun x => (view q).bnd fun y => lift (binW op x y))) := PE.imp (Zr6 ho ha hb) fun σ H Q h => op2 h
theorem ZmT : OpR X (binaryOp .FloorDiv) (rI (fun _ j => 0 < j /\ j < 18446744073709551616) fun i j => .int (i / j)) := opI fun i j _ _ _ _ _ hc q => by
 have h1 : (0 : Int) < j := hc.1
 have h2 : j < 18446744073709551616 := hc.2
 refine PyProof.Rows.floordiv_int (by omega) (by rw [Int.fdiv_eq_ediv_of_nonneg i (by omega)]; exact q) (.inl (PyProof.noPylong_of_log2 ?_))
 by_cases h0 : j.natAbs = 0
 . rw [h0]; decide +kernel
 . have : j.natAbs.log2 < 64 := (Nat.log2_lt h0).mpr (by omega)
   omega
theorem Zo (op : Operator) : OpR X (binaryOp op) (r2W X.K (binW op)) := by
 intro pins s σ H x y v u Q I rx ry h
 obtain ⟨Hs, w1, w2, m1, m2, d, hs, h1, h2, v1, v2, e, o⟩ := h
 unfold binW at e
 split at e
 . cases e; cases v1; cases v2; exact ZpH pins s σ H _ _ v u Q I rx ry ⟨_, _, rfl, rfl, o.sc⟩
 . cases e; cases v1; cases v2; exact ZpI pins s σ H _ _ v u Q I rx ry ⟨_, _, rfl, rfl, o.sc⟩
 . split at e
   . rename_i hc; cases e; cases v1; cases v2; exact ZpJ pins s σ H _ _ v u Q I rx ry ⟨_, _, rfl, rfl, hc, o.sc⟩
   . cases e
 . split at e
   . rename_i hc; cases e; cases v1; cases v2; exact ZmT pins s σ H _ _ v u Q I rx ry ⟨_, _, rfl, rfl, hc, o.sc⟩
   . cases e
 . split at e
   . rename_i hc; cases e; cases v1; cases v2; exact ZpK pins s σ H _ _ v u Q I rx ry ⟨_, _, rfl, rfl, hc, o.sc⟩
   . cases e
 . split at e
   . rename_i hc; cases e; cases v1; cases v2; exact ZpL pins s σ H _ _ v u Q I rx ry ⟨_, _, rfl, rfl, hc, o.sc⟩
   . cases e
 . split at e
   . rename_i hc; cases e; cases v1; cases v2; exact ZkP pins s σ H _ _ v u Q I rx ry ⟨_, _, rfl, rfl, hc, o.sc⟩
   . cases e
 . unfold newL at e
   split at e
   . rename_i hc
     cases e
     cases v1 with
     | nd n1 r1 => cases v2 with
      | nd n2 r2 =>
       have l1 := r1.len
       have l2 := r2.len
       rw [List.length_append] at hc
       exact ZpU pins s σ H _ _ v u Q I rx ry ⟨_, _, _, _, rfl, rfl, n1, n2, by omega, fun p hp => o.new h1 h2 hp (show upd H p _ p = _ from Zv) (r1.app r2)⟩
   . cases e
 . cases e
end
end T
namespace T
open PySem PySem.Spec L2
mutual
theorem Rep.den {K : Fg} {H Hs : Hp} (g : Same Hs H) : ∀ {v : V} {d : D} {m : Bud} {a : PyData}, Rep K H Hs v d m -> py d = some a -> Den K H v a
 | _, _, _, _, .sc .non _, h => by simp only [py, Option.some.injEq] at h; subst h; exact .non
 | _, _, _, _, .sc (.bl b) _, h => by simp only [py, Option.some.injEq] at h; subst h; exact .bl b
 | _, _, _, _, .sc (.int b) _, h => by simp only [py, Option.some.injEq] at h; subst h; exact .int b
 | _, _, _, _, .sc (.str b) _, h => by simp only [py, Option.some.injEq] at h; subst h; exact .str b
 | _, _, _, _, .sc (.byt b) _, h => by simp [py] at h
 | _, _, _, _, .sc (.flt b) _, h => by simp [py] at h
 | _, _, _, _, .sc (.ref b) _, h => by simp [py] at h
 | _, _, _, _, .sc (.ty b) _, h => by simp [py] at h
 | _, _, _, _, .hole v _, h => by simp [py] at h
 | _, _, _, _, .own (k := .lst) n r _, h => by
  simp only [py, Option.map_eq_some_iff] at h
  obtain ⟨x, h, rfl⟩ := h
  exact .lst (.inl (.inl n)) (RepL.den g r h)
 | _, _, _, _, .own (k := .frl) n r _, h => n.elim
 | _, _, _, _, .own (k := .tup) n r _, h => by
  simp only [py, Option.map_eq_some_iff] at h
  obtain ⟨x, h, rfl⟩ := h
  exact .tup (.inl (.inl n)) (RepL.den g r h)
 | _, _, _, _, .own (k := .ftp) n r _, h => n.elim
 | _, _, _, _, .own (k := .dic _) n r _, h => by simp [py] at h
 | _, _, _, _, .own (k := .ins _ _) n r _, h => by simp [py] at h
 | _, _, _, _, .own (k := .exc _ _ _) n r _, h => by simp [py] at h
 | _, _, _, _, .shd (k := .lst) n r, h => by
  simp only [py, Option.map_eq_some_iff] at h
  obtain ⟨x, h, rfl⟩ := h
  exact .lst (.inl (.inl (g _ _ n))) (RepL.den g r h)
 | _, _, _, _, .shd (k := .frl) n r, h => by
  simp only [py, Option.map_eq_some_iff] at h
  obtain ⟨x, h, rfl⟩ := h
  exact .lst (g.seq n) (RepL.den g r h)
 | _, _, _, _, .shd (k := .tup) n r, h => by
  simp only [py, Option.map_eq_some_iff] at h
  obtain ⟨x, h, rfl⟩ := h
  exact .tup (.inl (.inl (g _ _ n))) (RepL.den g r h)
 | _, _, _, _, .shd (k := .ftp) n r, h => by
  simp only [py, Option.map_eq_some_iff] at h
  obtain ⟨x, h, rfl⟩ := h
  exact .tup (Same.tupq' g n) (RepL.den g r h)
 | _, _, _, _, .shd (k := .dic _) n r, h => by simp [py] at h
 | _, _, _, _, .shd (k := .ins _ _) n r, h => by simp [py] at h
 | _, _, _, _, .shd (k := .exc _ _ _) n r, h => by simp [py] at h
theorem RepL.den {K : Fg} {H Hs : Hp} (g : Same Hs H) : ∀ {vs : List V} {ds : List D} {m : Bud} {as : List PyData}, RepL K H Hs vs ds m -> pyL ds = some as -> DenL K H vs as
 | _, _, _, _, .nil _, h => by simp only [pyL, Option.some.injEq] at h; subst h; exact .nil
 | _, _, _, _, .cons x y _, h => by
  simp only [pyL, Option.bind_eq_some_iff, Option.map_eq_some_iff] at h
  obtain ⟨a, h1, as, h2, rfl⟩ := h
  exact .cons (Rep.den g x h1) (RepL.den g y h2)
end
theorem View.den {K : Fg} {H Hs : Hp} (g : Same Hs H) {v : V} {w : W} {m : Bud} {a : PyData} (h : View K H Hs v w m) (e : py (toD w) = some a) : Den K H v a := by
 cases h with
 | sc v m => exact Rep.den g (.sc v m) e
 | @nd ad k vs ds m n r =>
  cases k with
  | lst =>
   simp only [toD, py, Option.map_eq_some_iff] at e
   obtain ⟨x, e, rfl⟩ := e
   exact .lst (.inl (.inl n)) (r.den g e)
  | frl =>
   simp only [toD, py, Option.map_eq_some_iff] at e
   obtain ⟨x, e, rfl⟩ := e
   exact .lst n (r.den g e)
  | tup =>
   simp only [toD, py, Option.map_eq_some_iff] at e
   obtain ⟨x, e, rfl⟩ := e
   exact .tup (.inl (.inl n)) (r.den g e)
  | ftp =>
   simp only [toD, py, Option.map_eq_some_iff] at e
   obtain ⟨x, e, rfl⟩ := e
   exact .tup n (r.den g e)
  | dic ks => simp [toD, py] at e
  | ins C fs => simp [toD, py] at e
  | exc ns fr fs => simp [toD, py] at e
section
variable {X : Cx} {e a b c : Expr} {es rest : List Expr} {pos : Pos}
theorem Zo2 {a b : PyData} {t : Bool} (h : eqPy a b = some t) : SeqAt.shaped a = true /\ SeqAt.shaped b = true /\ PyData.eqv a b = t := by
 unfold eqPy at h
 split at h
 . rename_i q
   exact ⟨q.1, q.2, Option.some.inj h⟩
 . cases h
theorem Zhi {K : Fg} {H Hs : Hp} (g : Same Hs H) {x y : V} {w1 w2 : W} {m1 m2 : Bud} {t : Bool} (v1 : View K H Hs x w1 m1) (v2 : View K H Hs y w2 m2) (h : eqW w1 w2 = some t) :
 (scal x y = true /\ decide (x = y) = t) \/ ∃ d e, Den K H x d /\ Den K H y e /\ SeqAt.shaped d = true /\ SeqAt.shaped e = true /\ PyData.eqv d e = t := by
 have go : ((py (toD w1)).bind fun a => (py (toD w2)).bind fun b => eqPy a b) = some t -> ∃ d e, Den K H x d /\ Den K H y e /\ SeqAt.shaped d = true /\ SeqAt.shaped e = true /\ PyData.eqv d e = t := fun q => by
  simp only [Option.bind_eq_some_iff] at q
  obtain ⟨d, q1, e, q2, q3⟩ := q
  obtain ⟨s1, s2, s3⟩ := Zo2 q3
  exact ⟨d, e, v1.den g q1, v2.den g q2, s1, s2, s3⟩
 cases v1 with
 | sc u _ => cases v2 with
  | sc v _ =>
   have h : (if scal x y = true then some (decide (x = y)) else (py (.sc x)).bind fun a => (py (.sc y)).bind fun b => eqPy a b) = some t := h
   by_cases q : scal x y = true
   . rw [if_pos q] at h
     exact .inl ⟨q, Option.some.inj h⟩
   . rw [if_neg q] at h
     exact .inr (go h)
  | nd n r => exact .inr (go h)
 | nd n r => exact .inr (go h)
theorem ZeO {K : Fg} {H Hs : Hp} : ∀ {ds : List D} {vs : List V} {m : Bud} {is : List Int}, RepL K H Hs vs ds m -> Zbu ds = some is -> vs = is.map V.int
 | [], _, _, is, .nil _, h => by simp only [Zbu, Option.some.injEq] at h; subst h; rfl
 | d :: ds, _, _, is, .cons x y _, h => by
  unfold Zbu at h
  split at h
  . rename_i hh; cases hh
  . rename_i i r hh
    injection hh with h1 h2
    subst h1 h2
    (simp only [Option.map_eq_some_iff] at h)
    obtain ⟨js, h, rfl⟩ := h
    cases x
    rw [ZeO y h]
    rfl
  . cases h
theorem ZgO (i : Int) : ∀ is : List Int, inV (.int i) (is.map V.int) = decide (i ∈ is)
 | [] => rfl
 | j :: is => by
  have h := ZgO i is
  unfold inV at h ⊢
  rw [List.map_cons, List.any_cons, h]
  by_cases e : j = i
  . subst e; simp [eqV]
  . have e' : ¬ i = j := fun q => e q.symm
    simp [eqV, e, e']
theorem ZfZ : ∀ is : List Int, (is.map V.int).all Zbt = true
 | [] => rfl
 | j :: is => by rw [List.map_cons, List.all_cons, ZfZ is]; rfl
theorem ZlV (op : CmpOp) (hu : X.A.units + 64 < cLine) : OpR X (compareOp op) (r2W X.K fun x y => (cmpW op x y).map fun t => .sc (.bl t)) := by
 intro pins s σ H x y v u Q I rx ry h
 obtain ⟨Hs, w1, w2, m1, m2, d, hs, h1, h2, v1, v2, e, o⟩ := h
 simp only [Option.map_eq_some_iff] at e
 obtain ⟨t, e, rfl⟩ := e
 have q := o.sc
 unfold cmpW at e
 split at e
 . rcases Zhi hs v1 v2 e with ⟨h3, rfl⟩ | ⟨d, f, h3, h4, h5, h6, rfl⟩
   . exact Zn6 pins s σ H _ _ v u Q I rx ry ⟨h3, q⟩
   . exact ZlN hu pins s σ H _ _ v u Q I rx ry ⟨d, f, h3, h4, h5, h6, q⟩
 . simp only [Option.map_eq_some_iff] at e
   obtain ⟨t, e, rfl⟩ := e
   rcases Zhi hs v1 v2 e with ⟨h3, rfl⟩ | ⟨d, f, h3, h4, h5, h6, rfl⟩
   . exact Zn7 pins s σ H _ _ v u Q I rx ry ⟨h3, q⟩
   . exact ZlO hu pins s σ H _ _ v u Q I rx ry ⟨d, f, h3, h4, h5, h6, q⟩
 . simp only [Option.map_eq_some_iff] at e
   obtain ⟨is, e, rfl⟩ := e
   cases v1
   cases v2 with
   | nd n r =>
    have ei := ZeO r e
    subst ei
    exact Zis pins s σ H _ _ v u Q I rx ry ⟨_, _, rfl, .inl (.inl (.inl n)), rfl, ZfZ _, by rw [if_neg Bool.false_ne_true, ZgO]; exact q⟩
 . rename_i i j _ _
   cases v1; cases v2
   cases op with
   | Lt => cases e; exact Zn8 pins s σ H _ _ v u Q I rx ry ⟨_, _, rfl, rfl, q⟩
   | LtE => cases e; exact Zn9 pins s σ H _ _ v u Q I rx ry ⟨_, _, rfl, rfl, q⟩
   | Gt => cases e; exact ZnA pins s σ H _ _ v u Q I rx ry ⟨_, _, rfl, rfl, q⟩
   | GtE => cases e; exact ZnB pins s σ H _ _ v u Q I rx ry ⟨_, _, rfl, rfl, q⟩
   | _ => cases e
 . cases e
theorem Zqm {op : CmpOp} {ca cb : M Op} (hu : X.A.units + 64 < cLine) (ha : PE X a (tP X.K ca)) (hb : PE X b (tP X.K cb)) (hm : behindInMarks op b = false := by first | exact nomark _ | with_unfolding_all rfl) :
 PE X (.Compare a [op] [b] pos) (tM X.K (ca.bnd fun p => cb.bnd fun q => (view p).bnd fun x => (view q).bnd fun y => lift ((cmpW op x y).map fun t => .sc (.bl t)))) := PE.imp (Zoa (ZlV op hu) ha hb hm) fun σ H Q h => op2 h
theorem ZmU {c : M D} {δ : List D} {r : Bool × List D} (h : ZcP c δ = .ok r) : c δ = .ok (.sc (.bl r.1), r.2) := by
 obtain ⟨d, δ1, e1, e2⟩ := Zc h
 obtain ⟨b, δ2⟩ := r
 obtain ⟨e3, rfl⟩ := Za8 e2
 cases d with
 | sc v => cases v with
  | bl t => cases e3; exact e1
  | _ => cases e3
 | _ => cases e3
theorem ZhH {c : M D} {σ : St} {H : Hp} {Q : Bool -> Hp -> Prop} {K : Fg} (h : tT K (ZcP c) σ H Q) : tM K c σ H fun x H' => ∃ k, x = .bl k /\ Q k H' := by
 obtain ⟨δ, Hs, M, b, δ', g, s, e, q⟩ := h
 refine ⟨δ, Hs, M, .sc (.bl b), δ', g, s, ZmU e, fun v H' Hs' m M' g' st r s' => ?_⟩
 cases r
 exact ⟨b, rfl, q H' Hs' M' g'.re (st.drop (fun b => by omega) g'.le) s'⟩
theorem Zo3 {op : CmpOp} {ca cb : M Op} (hu : X.A.units + 64 < cLine) (ha : PE X a (tP X.K ca)) (hb : PE X b (tP X.K cb)) (hm : behindInMarks op b = false := by first | exact nomark _ | with_unfolding_all rfl) :
 PT X (.Compare a [op] [b] pos) (tT X.K (ZcP (ca.bnd fun p => cb.bnd fun q => (view p).bnd fun x => (view q).bnd fun y => lift ((cmpW op x y).map fun t => .sc (.bl t))))) := PT.imp (Zob (ZlV op hu) ha hb hm) fun σ H Q h => op2 (ZhH h)
theorem op1 {K : Fg} {ca : M Op} {f : W -> Option D} {σ : St} {H : Hp} {Q : VK} {r : V -> Hp -> VK -> Prop} (h : tM K ((ca.bnd view).bnd fun x => lift (f x)) σ H Q)
 (hr : ∀ (x : V) (H Hs : Hp) (w : W) (m : Bud) (d : D), Same Hs H -> (∀ b, m b <= 1) -> (∀ b, m b = 1 -> H b ≠ none) -> View K H Hs x w m -> f w = some d -> Outs K H Hs m d Q -> r x H Q) : tUn r (tP K ca) σ H Q := by
 obtain ⟨δ, Hs, M, d, δ', g, s, e, q⟩ := h
 obtain ⟨w, δ2, e, e5⟩ := Zc e
 obtain ⟨p, δ1, e1, e3⟩ := Zc e
 obtain ⟨e6, rfl⟩ := Za8 e5
 refine ⟨δ, Hs, M, p, δ1, g, s, e1, fun x H2 Hs2 m1 M2 g2 st2 r1 s2 => ?_⟩
 obtain ⟨Hs3, M3, g3, st3, v1, s3⟩ := ZbH (B := m1) g2 s2 r1 e3
 have z := Z1 (m1 := fun _ => 0) g (g2.re fun b => by simp) (st2.drop (fun b => by simp) g2.le) g3 st3
 have st : Stp H Hs M H2 Hs3 (fun b => m1 b + M3 b) := z.2.1.drop (fun b => by simp) z.1.le
 exact hr x H2 Hs3 w m1 d g3.sub (fun b => by have : m1 b + M3 b <= 1 := g3.le b; omega) (fun b hb => g3.has b (by have : m1 b + M3 b <= 1 := g3.le b; show m1 b + M3 b = 1; omega)) v1 e6 (ZeF st g3 s3 q)
theorem Zjf {ca : M Op} (ha : PE X a (tP X.K ca)) : PE X (.UnaryOp .USub a pos) (tM X.K ((ca.bnd view).bnd fun x => lift (negW x))) :=
 PE.imp (Zr7 ZpM ha) fun σ H Q h => op1 h fun x H Hs w m d g h1 h2 v e o => by
  unfold negW at e
  split at e
  . cases e; cases v; exact ⟨_, rfl, o.sc⟩
  . cases e
theorem Zqn {K : Fg} {H Hs : Hp} {v : V} {w : W} {m : Bud} {t : Bool} (h : View K H Hs v w m) (e : truW w = some t) : TruV K v H t := by
 cases h with
 | sc v m =>
  cases v with
  | bl b => cases e; rfl
  | int i => cases e; show decide (i ≠ 0) = (i != 0); rw [Bool.eq_iff_iff]; simp
  | str x =>
   have e : (if x.length <= sizeLine then some (decide (x.length ≠ 0)) else none) = some t := e
   split at e
   . rename_i q
     cases e
     exact ⟨q, by rw [Bool.eq_iff_iff]; simp⟩
   . cases e
  | non => cases e; rfl
  | _ => cases e
 | @nd a k vs ds m n r =>
  have l : (!vs.isEmpty) = !ds.isEmpty := by
   have := r.len
   cases vs <;> cases ds <;> simp at this ⊢
  cases k with
  | lst => cases e; exact .inl ⟨vs, .inl (.inl n), by rw [l]⟩
  | frl => cases e; exact .inl ⟨vs, n, by rw [l]⟩
  | tup => cases e; exact .inr (.inl ⟨vs, .inl (.inl n), by rw [l]⟩)
  | ftp => cases e; exact .inr (.inl ⟨vs, n, by rw [l]⟩)
  | dic ks =>
   cases e
   obtain ⟨hl, n⟩ := n
   refine .inr (.inr ⟨_, n, ?_⟩)
   rw [<- l]
   cases ks <;> cases vs <;> simp at hl ⊢
  | ins C fs => cases e
  | exc ns fr fs => cases e
theorem Zbv {ca : M Op} (ha : PE X e (tP X.K ca)) (he : ∀ whole, isTrue e X.env whole = (do let v <- whole; standAt e.pos; holding [v] (truthy v)) := by intro _; rfl) :
 PT X e (tT X.K (ca.bnd fun p => (view p).bnd fun w => lift (truW w))) := PT.imp (Zm9 ha he) fun σ H Q h => by
 obtain ⟨δ, Hs, M, t, δ', g, s, e, q⟩ := h
 obtain ⟨p, δ1, e1, e⟩ := Zc e
 obtain ⟨w, δ2, e3, e5⟩ := Zc e
 obtain ⟨e6, rfl⟩ := Za8 e5
 refine ⟨δ, Hs, M, p, δ1, g, s, e1, fun x H2 Hs2 m1 M2 g2 st2 r1 s2 => ?_⟩
 obtain ⟨Hs3, M3, g3, st3, v1, s3⟩ := ZbH (B := m1) g2 s2 r1 e3
 have z := Z1 (m1 := fun _ => 0) g (g2.re fun b => by simp) (st2.drop (fun b => by simp) g2.le) g3 st3
 exact ⟨t, Zqn v1 e6, q H2 Hs3 M3 g3.re (z.2.1.drop (fun b => by simp) z.1.le) s3⟩
end
end T
namespace T
open PySem PySem.Spec L2
section
variable {X : Cx} {e a b c : Expr} {es rest : List Expr} {pos : Pos}
theorem PW.imp {t t' : TT} (h : PW X e t) (w : ∀ σ H Q, t' σ H Q -> t σ H Q) : PW X e t' := fun wh pins s σ H Q I q => h wh pins s σ H Q I (w σ H Q q)
theorem Zjg {K : Fg} {ca : M Bool} {f : Bool -> M Bool} {σ : St} {H : Hp} {Q : Bool -> Hp -> Prop} (h : tT K (ca.bnd f) σ H Q) : tT K ca σ H fun t H1 => tT K (f t) σ H1 Q := by
 obtain ⟨δ, Hs, M, b, δ', g, s, e, q⟩ := h
 obtain ⟨t, δ1, e1, e2⟩ := Zc e
 refine ⟨δ, Hs, M, t, δ1, g, s, e1, fun H1 Hs1 M1 g1 st1 s1 => ⟨δ1, Hs1, M1, b, δ', g1, s1, e2, fun H2 Hs2 M2 g2 st2 s2 => ?_⟩⟩
 have z := Z1 (m1 := fun _ => 0) g (g1.re fun b => by simp) (st1.drop (fun b => by simp) g1.le) g2 st2
 exact q H2 Hs2 M2 g2 (z.2.1.drop (fun b => by simp) z.1.le) s2
theorem Zhj {K : Fg} {t : Bool} {σ : St} {H : Hp} {Q : Bool -> Hp -> Prop} (h : tT K (M.ret t) σ H Q) : Q t H := by
 obtain ⟨δ, Hs, M, b, δ', g, s, e, q⟩ := h
 have := Zi e
 cases this
 exact q H Hs M g (Stp.refl _ _ _) s
theorem Zqo {K : Fg} {ca : M Bool} {f : Bool -> M D} {σ : St} {H : Hp} {Q : VK} (h : tM K (ca.bnd f) σ H Q) : tT K ca σ H fun t H1 => tM K (f t) σ H1 Q := by
 obtain ⟨δ, Hs, M, b, δ', g, s, e, q⟩ := h
 obtain ⟨t, δ1, e1, e2⟩ := Zc e
 refine ⟨δ, Hs, M, t, δ1, g, s, e1, fun H1 Hs1 M1 g1 st1 s1 => ⟨δ1, Hs1, M1, b, δ', g1, s1, e2, fun v H2 Hs2 m2 M2 g2 st2 r2 s2 => ?_⟩⟩
 have z := Z1 (m1 := fun _ => 0) g (g1.re fun b => by simp) (st1.drop (fun b => by simp) g1.le) g2 st2
 exact q v H2 Hs2 m2 M2 g2 (z.2.1.drop (fun b => by simp) z.1.le) r2 s2
theorem Zk1 {ca : M Bool} (ha : PT X a (tT X.K ca)) : PW X (.BoolOp .And [a] pos) (tT X.K ca) := ZnW ha
theorem Zfo {ca : M Bool} (ha : PT X a (tT X.K ca)) : PW X (.BoolOp .Or [a] pos) (tT X.K ca) := Zp6 ha
theorem Zk2 {ca cb : M Bool} (ha : PT X a (tT X.K ca)) (hb : PW X (.BoolOp .And (b :: rest) pos) (tT X.K cb)) : PW X (.BoolOp .And (a :: b :: rest) pos) (tT X.K (ca.bnd fun t => if t then cb else M.ret false)) :=
 PW.imp (Zp7 ha hb) fun σ H Q h => by
  obtain ⟨δ, Hs, M, t, δ', g, s, e, q⟩ := Zjg h
  refine ⟨δ, Hs, M, t, δ', g, s, e, fun H' Hs' M' g' st s' => ?_⟩
  have z := q H' Hs' M' g' st s'
  cases t with
  | true => exact z
  | false => exact Zhj z
theorem ZcC {ca cb : M Bool} (ha : PT X a (tT X.K ca)) (hb : PW X (.BoolOp .Or (b :: rest) pos) (tT X.K cb)) : PW X (.BoolOp .Or (a :: b :: rest) pos) (tT X.K (ca.bnd fun t => if t then M.ret true else cb)) :=
 PW.imp (Zrx ha hb) fun σ H Q h => by
  obtain ⟨δ, Hs, M, t, δ', g, s, e, q⟩ := Zjg h
  refine ⟨δ, Hs, M, t, δ', g, s, e, fun H' Hs' M' g' st s' => ?_⟩
  have z := q H' Hs' M' g' st s'
  cases t with
  | false => exact z
  | true => exact Zhj z
theorem Zk3 {ca : M Bool} (ha : PT X a (tT X.K ca)) : PT X (.UnaryOp .Not a pos) (tT X.K (ca.bnd fun t => M.ret (!t))) :=
 PT.imp (Zp8 ha) fun σ H Q h => by
  obtain ⟨δ, Hs, M, t, δ', g, s, e, q⟩ := Zjg h
  exact ⟨δ, Hs, M, t, δ', g, s, e, fun H' Hs' M' g' st s' => Zhj (q H' Hs' M' g' st s')⟩
theorem Zqp {ct : M Bool} {ca cb : M D} (hc : PT X c (tT X.K ct)) (ha : PE X a (tM X.K ca)) (hb : PE X b (tM X.K cb)) : PE X (.IfExp c a b pos) (tM X.K (ct.bnd fun t => if t then ca else cb)) :=
 PE.imp (Zm3 hc ha hb) fun σ H Q h => by
  obtain ⟨δ, Hs, M, t, δ', g, s, e, q⟩ := Zqo h
  refine ⟨δ, Hs, M, t, δ', g, s, e, fun H' Hs' M' g' st s' => ?_⟩
  have z := q H' Hs' M' g' st s'
  cases t with
  | true => exact z
  | false => exact z
theorem Zjh {K : Fg} {ca : M Op} {f : W -> M D} {σ : St} {H : Hp} {Q : VK} (h : tM K ((ca.bnd view).bnd f) σ H Q) : tP K ca σ H fun x H1 => ∃ (Hs : Hp) (w : W) (m : Bud), View K H1 Hs x w m /\ tM K (f w) σ H1 Q := by
 obtain ⟨δ, Hs, M, d, δ', g, s, e, q⟩ := h
 obtain ⟨w, δ2, e, e5⟩ := Zc e
 obtain ⟨p, δ1, e1, e3⟩ := Zc e
 refine ⟨δ, Hs, M, p, δ1, g, s, e1, fun x H2 Hs2 m1 M2 g2 st2 r1 s2 => ?_⟩
 obtain ⟨Hs3, M3, g3, st3, v1, s3⟩ := ZbH (B := m1) g2 s2 r1 e3
 refine ⟨Hs3, w, m1, v1, δ2, Hs3, M3, d, δ', g3.re, s3, e5, fun v H4 Hs4 m4 M4 g4 st4 r4 s4 => ?_⟩
 have z := Z1 (m1 := fun _ => 0) g (g2.re fun b => by simp) (st2.drop (fun b => by simp) g2.le) g3 st3
 have st : Stp H Hs M H2 Hs3 (fun b => m1 b + M3 b) := z.2.1.drop (fun b => by simp) z.1.le
 have z := Z1 (m1 := m1) (M1 := M3) g g3 st g4 st4
 exact q v H4 Hs4 m4 M4 g4 (z.2.1.drop (fun b => by omega) z.1.le) r4 s4
theorem Zji {K : Fg} {v : V} {σ : St} {H : Hp} {Q : VK} (h : tM K (M.ret (.sc v)) σ H Q) : Q v H := by
 obtain ⟨δ, Hs, M, b, δ', g, s, e, q⟩ := h
 have := Zi e
 cases this
 exact q v H Hs (fun _ => 0) M (Zc3 g) (stp0 _ _ _) (.sc v _) s
theorem Zfp {K : Fg} {σ : St} {H : Hp} {Q : VK} (h : tM K stk σ H Q) : False := by
 obtain ⟨δ, Hs, M, b, δ', g, s, e, q⟩ := h
 cases e
theorem Zfq {op} {ca : M D} (ha : PE X a (tM X.K ca)) : PE X (.BoolOp op [a] pos) (tM X.K ca) := Zp9 ha
theorem ZhI {ca : M Op} {cb : M D} (ha : PE X a (tP X.K ca)) (hb : PE X (.BoolOp .And (b :: rest) pos) (tM X.K cb)) : PE X (.BoolOp .And (a :: b :: rest) pos) (tM X.K ((ca.bnd view).bnd (andM cb))) :=
 PE.imp (ZpA ha hb) fun σ H Q h => by
  obtain ⟨δ, Hs, M, t, δ', g, s, e, q⟩ := Zjh h
  refine ⟨δ, Hs, M, t, δ', g, s, e, fun v H' Hs' m M' g' st r s' => ?_⟩
  obtain ⟨Hs2, w, m2, v2, z⟩ := q v H' Hs' m M' g' st r s'
  cases v2 with
  | sc u _ => cases v with
   | bl t => cases t with
    | true => exact ⟨true, rfl, z⟩
    | false => exact ⟨false, rfl, Zji z⟩
   | _ => exact (Zfp z).elim
  | nd n r => exact (Zfp z).elim
theorem Zhk {ca : M Op} {cb : M D} (ha : PE X a (tP X.K ca)) (hb : PE X (.BoolOp .Or (b :: rest) pos) (tM X.K cb)) : PE X (.BoolOp .Or (a :: b :: rest) pos) (tM X.K ((ca.bnd view).bnd (orM cb))) :=
 PE.imp (Zr0 ha hb) fun σ H Q h => by
  obtain ⟨δ, Hs, M, t, δ', g, s, e, q⟩ := Zjh h
  refine ⟨δ, Hs, M, t, δ', g, s, e, fun v H' Hs' m M' g' st r s' => ?_⟩
  obtain ⟨Hs2, w, m2, v2, z⟩ := q v H' Hs' m M' g' st r s'
  cases v2 with
  | sc u _ => cases v with
   | bl t => cases t with
    | false => exact ⟨false, rfl, z⟩
    | true => exact ⟨true, rfl, Zji z⟩
   | _ => exact (Zfp z).elim
  | nd n r => exact (Zfp z).elim
theorem Zk4 {ca : M Op} (ha : PE X a (tP X.K ca)) : PE X (.UnaryOp .Not a pos) (tM X.K ((ca.bnd view).bnd fun w => lift (notW w))) :=
 PE.imp (ZpB ha) fun σ H Q h => by
  obtain ⟨δ, Hs, M, t, δ', g, s, e, q⟩ := Zjh h
  refine ⟨δ, Hs, M, t, δ', g, s, e, fun v H' Hs' m M' g' st r s' => ?_⟩
  obtain ⟨Hs2, w, m2, v2, z⟩ := q v H' Hs' m M' g' st r s'
  cases v2 with
  | sc u _ => cases v with
   | bl t => exact ⟨t, rfl, Zji z⟩
   | _ => exact (Zfp z).elim
  | nd n r => exact (Zfp z).elim
theorem RepL.at {K : Fg} {H Hs : Hp} {vs : List V} {ds : List D} {m : Bud} {j : Nat} {d : D} (r : RepL K H Hs vs ds m) (e : ds[j]? = some d) : ∃ (v : V) (m1 : Bud), vs[j]? = some v /\ Rep K H Hs v d m1 /\ ∀ b, m1 b <= m b := r.sep.get e
theorem Outs.part {K : Fg} {H Hs : Hp} {m m1 : Bud} {v : V} {d : D} {Q : VK} (h : Outs K H Hs m d Q) (hm : ∀ b, m b <= 1) (hh : ∀ b, m b = 1 -> H b ≠ none) (l : ∀ b, m1 b <= m b) (r : Rep K H Hs v d m1) : Q v H :=
 h v H m1 (Same.refl _) (fun b => Nat.le_trans (l b) (hm b)) (fun b e => hh b (by have := l b; have := hm b; omega)) (fun b _ => l b) r
theorem Zqq (n : Nat) (i : Int) : ixN' n i = ixN n i := rfl
theorem ZrO : IxR X (r2W X.K ixW) := by
 intro value slice pins s σ H x y v u Q I rx ry h hsl
 obtain ⟨Hs, w1, w2, m1, m2, d, hs, h1, h2, v1, v2, e, o⟩ := h
 have fin : ∀ {ds : List D} {vs : List V} {i : Int}, RepL X.K H Hs vs ds m1 -> ((ixN' ds.length i).bind fun j => ds[j]?) = some d -> ∃ z, atI vs i = some z /\ Q z H := fun {ds vs i} r e => by
  simp only [Option.bind_eq_some_iff] at e
  obtain ⟨j, e1, e2⟩ := e
  obtain ⟨z, m3, e3, rz, l⟩ := r.at e2
  refine ⟨z, ?_, o.part h1 h2 (fun b => by have := l b; omega) rz⟩
  unfold atI
  rw [r.len, <- Zqq, e1]
  exact e3
 unfold ixW at e
 split at e
 . cases v1 with
   | nd n r => cases v2; obtain ⟨z, e1, q⟩ := fin r e; exact Zky value slice pins s σ H _ _ v u Q I rx ry ⟨_, _, _, z, rfl, rfl, .inl (.inl n), e1, q⟩ hsl
 . cases v1 with
   | nd n r => cases v2; obtain ⟨z, e1, q⟩ := fin r e; exact Zky value slice pins s σ H _ _ v u Q I rx ry ⟨_, _, _, z, rfl, rfl, n, e1, q⟩ hsl
 . cases v1 with
   | nd n r => cases v2; obtain ⟨z, e1, q⟩ := fin r e; exact ZlD value slice pins s σ H _ _ v u Q I rx ry ⟨_, _, _, z, rfl, rfl, .inl (.inl n), e1, q⟩ hsl
 . cases v1 with
   | nd n r => cases v2; obtain ⟨z, e1, q⟩ := fin r e; exact ZlD value slice pins s σ H _ _ v u Q I rx ry ⟨_, _, _, z, rfl, rfl, n, e1, q⟩ hsl
 . split at e
   . rename_i z i hz
     cases v1; cases v2
     simp only [Option.map_eq_some_iff] at e
     obtain ⟨c, e, rfl⟩ := e
     exact ZpR value slice pins s σ H _ _ v u Q I rx ry ⟨_, _, c, rfl, rfl, hz, e, o.sc⟩ hsl
   . cases e
 . cases e
theorem ZrP {ca cb : M Op} (ha : PE X a (tP X.K ca)) (hb : PE X b (tP X.K cb)) (hs : ZhC b := by intro _ _; rfl) :
 PE X (.Subscript a b pos) (tM X.K (ca.bnd fun p => cb.bnd fun q => (view p).bnd fun x => (view q).bnd fun y => lift (ixW x y))) := PE.imp (ZrA ZrO ha hb hs) fun σ H Q h => op2 h
end
end T
namespace T
open PySem PySem.Spec L2
section
variable {X : Cx} {e a b c : Expr} {es rest : List Expr} {pos : Pos}
theorem RepL.take {K : Fg} {H Hs : Hp} {vs : List V} {ds : List D} {m : Bud} (r : RepL K H Hs vs ds m) (n : Nat) : RepL K H Hs (vs.take n) (ds.take n) m := (r.sep.take n).repL
theorem RepL.drop {K : Fg} {H Hs : Hp} {vs : List V} {ds : List D} {m : Bud} (r : RepL K H Hs vs ds m) (n : Nat) : RepL K H Hs (vs.drop n) (ds.drop n) m := (r.sep.drop n).repL
def rSlW (K : Fg) : V -> Option Int -> Option Int -> Hp -> VK -> Prop := fun x lo hi H Q => ∃ (Hs : Hp) (w : W) (m : Bud) (d : D), Same Hs H /\ (∀ b, m b <= 1) /\ (∀ b, m b = 1 -> H b ≠ none) /\ View K H Hs x w m /\ slD w lo hi = some d /\ Outs K H Hs m d Q
theorem ZrQ : SlR X (rSlW X.K) := by
 intro pins s σ H x v vl vu lo hi sl Q I rx hsl pl pu h
 obtain ⟨Hs, w, m, d, hs, h1, h2, v1, e, o⟩ := h
 have go : ∀ {a : Addr} {vs : List V} {ds : List D}, RepL X.K H Hs vs ds m -> d = .node .lst true (cutD ds lo hi) -> ∀ p, H p = none -> Q (.ref p) (upd H p (.lst (cutV vs lo hi))) := fun {a vs ds} r e p hp => by
  subst e
  refine o.new h1 h2 hp (vs := cutV vs lo hi) Zv ?_
  unfold cutV cutD
  rw [r.len]
  exact (r.drop _).take _
 unfold slD at e
 split at e
 . cases v1 with
   | nd n r => exact Zkz pins s σ H _ v vl vu lo hi sl Q I rx hsl pl pu ⟨_, _, rfl, .inl (.inl n), go (a := 0) r (Option.some.inj e).symm⟩
 . cases v1 with
   | nd n r => exact Zkz pins s σ H _ v vl vu lo hi sl Q I rx hsl pl pu ⟨_, _, rfl, n, go (a := 0) r (Option.some.inj e).symm⟩
 . split at e
   . rename_i hz
     cases e
     cases v1
     exact Zqf pins s σ H _ v vl vu lo hi sl Q I rx hsl pl pu ⟨_, rfl, hz, o.sc⟩
   . cases e
 . cases e
noncomputable def tW (K : Fg) (c : M (Option Int)) : TO := fun σ H Q => ∃ (δ : List D) (Hs : Hp) (M : Bud) (l : Option Int) (δ' : List D), Good H Hs M /\ RepS K H Hs σ δ M /\ c δ = .ok (l, δ') /\
 ∀ (H' Hs' : Hp) (M' : Bud), Good H' Hs' M' -> Stp H Hs M H' Hs' M' -> RepS K H' Hs' σ δ' M' -> Q l H'
theorem PO.imp {o : Option Expr} {t t' : TO} (h : PO X o t) (w : ∀ σ H Q, t' σ H Q -> t σ H Q) : PO X o t' := fun pins s σ H Q I q => h pins s σ H Q I (w σ H Q q)
theorem Zk5 {ca : M Op} (ha : PE X a (tP X.K ca)) : PO X (some a) (tW X.K ((ca.bnd view).bnd fun w => lift (intP w))) := PO.imp (Zog ha) fun σ H Q h => by
 obtain ⟨δ, Hs, M, l, δ', g, s, e, q⟩ := h
 obtain ⟨w, δ2, e, e5⟩ := Zc e
 obtain ⟨p, δ1, e1, e3⟩ := Zc e
 obtain ⟨e6, rfl⟩ := Za8 e5
 refine ⟨δ, Hs, M, p, δ1, g, s, e1, fun x H2 Hs2 m1 M2 g2 st2 r1 s2 => ?_⟩
 obtain ⟨Hs3, M3, g3, st3, v1, s3⟩ := ZbH (B := m1) g2 s2 r1 e3
 have z := Z1 (m1 := fun _ => 0) g (g2.re fun b => by simp) (st2.drop (fun b => by simp) g2.le) g3 st3
 have fin := q H2 Hs3 M3 g3.re (z.2.1.drop (fun b => by simp) z.1.le) s3
 cases v1 with
 | sc u _ => cases x with
  | int i => cases e6; exact ⟨i, rfl, fin⟩
  | _ => cases e6
 | nd n r => cases e6
variable {lo hi : Option Expr} {ca : M Op} {cl ch : M (Option Int)} {p2 : Pos}
theorem ZrR (ha : PE X a (tP X.K ca)) (hl : PO X lo (tW X.K cl)) (hh : PO X hi (tW X.K ch)) :
 PE X (.Subscript a (.Slice lo hi none p2) pos) (tM X.K (ca.bnd fun p => cl.bnd fun l => ch.bnd fun h => (view p).bnd fun x => lift (slD x l h))) :=
 PE.imp (ZmB ZrQ ha hl hh) fun σ H Q h => by
  obtain ⟨δ, Hs, M, d, δ', g, s, e, q⟩ := h
  obtain ⟨p, δ1, e1, e⟩ := Zc e
  obtain ⟨l, δ2, e2, e⟩ := Zc e
  obtain ⟨u, δ3, e3, e⟩ := Zc e
  obtain ⟨w, δ4, e4, e⟩ := Zc e
  obtain ⟨e7, rfl⟩ := Za8 e
  refine ⟨δ, Hs, M, p, δ1, g, s, e1, fun x H1 Hs1 m1 M1 g1 st1 r1 s1 => ⟨δ1, Hs1, M1, l, δ2, g1.re, s1, e2, fun H2 Hs2 M2 g2 st2 s2 => ⟨δ2, Hs2, M2, u, δ3, g2, s2, e3, fun H3 Hs3 M3 g3 st3 s3 => ?_⟩⟩⟩
  obtain ⟨G2, S2, k2⟩ := Z1 g g1 st1 g2 st2
  obtain ⟨G3, S3, k3⟩ := Z1 g G2 S2 g3 st3
  have r2 := RepP.frame st2.grow k2 r1
  have r3 := RepP.frame st3.grow (fun b hb hn => k3 b hb hn) r2
  obtain ⟨Hs4, M4, g4, st4, v4, s4⟩ := ZbH (B := m1) G3 s3 r3 e4
  have z := Z1 (m1 := fun _ => 0) g (G3.re fun b => by simp) (S3.drop (fun b => by simp) G3.le) g4 st4
  have S4 : Stp H Hs M H3 Hs4 (fun b => m1 b + M4 b) := z.2.1.drop (fun b => by simp) z.1.le
  have le : ∀ b, m1 b + M4 b <= 1 := g4.le
  exact ⟨Hs4, w, m1, d, g4.sub, fun b => by have := le b; omega, fun b hb => g4.has b (by have := le b; show m1 b + M4 b = 1; omega), v4, e7, ZeF S4 g4 s4 q⟩
theorem Zk6 {K : Fg} {H Hs : Hp} {f : Str} : ∀ {fs : List Str} {vs : List V} {ds : List D} {m : Bud} {d : D}, RepL K H Hs vs ds m -> fs.length = vs.length -> Zg1 f fs ds = some d -> ∃ (v : V) (m1 : Bud), (fs.zip vs).lookup f = some v /\ Rep K H Hs v d m1 /\ ∀ b, m1 b <= m b
 | [], _, _, _, _, _, _, h => by simp [Zg1] at h
 | _ :: _, _, _, _, _, .nil _, hl, h => by simp at hl
 | g :: fs, v :: vs, d' :: ds, m, d, .cons (m1 := m1) (m2 := m2) x y c, hl, h => by
  simp only [Zg1] at h
  by_cases e : g = f
  . rw [if_pos e] at h
    cases h
    refine ⟨v, m1, ?_, x, fun b => by have := c b; omega⟩
    subst e
    simp [List.lookup]
  . rw [if_neg e] at h
    obtain ⟨v', m', h1, h2, h3⟩ := Zk6 y (by simpa using hl) h
    refine ⟨v', m', ?_, h2, fun b => by have := c b; have := h3 b; omega⟩
    rw [List.zip_cons_cons]
    have hb : (f == g) = false := beq_eq_false_iff_ne.mpr (fun q => e q.symm)
    simp only [List.lookup, hb]
    exact h1
theorem Zk : PA X [] (tPs X.K (M.ret [])) := PA.imp ZcA fun σ H Q h => by
 obtain ⟨δ, Hs, M, b, δ', g, s, e, q⟩ := h
 have := Zi e
 cases this
 exact q [] H Hs (fun _ => 0) M (Zc3 g) (stp0 _ _ _) trivial s
theorem Zh {cs : M (List Op)} (ha : PE X e (tP X.K ca)) (hr : PA X es (tPs X.K cs)) (hs : starEach (e :: es) X.env = (false, eval e X.env) :: starEach es X.env := by rfl) :
 PA X (e :: es) (tPs X.K (ca.bnd fun p => cs.bnd fun ps => M.ret (p :: ps))) := PA.imp (Zbg ha hr hs) fun σ H Q h => by
 obtain ⟨δ, Hs, M, b, δ', g, s, e, q⟩ := h
 obtain ⟨p, δ1, e1, e⟩ := Zc e
 obtain ⟨ps, δ2, e2, e⟩ := Zc e
 have := Zi e
 cases this
 refine ⟨δ, Hs, M, p, δ1, g, s, e1, fun x H1 Hs1 m1 M1 g1 st1 r1 s1 => ⟨δ1, Hs1, M1, ps, _, g1.re, s1, e2, fun xs H2 Hs2 m2 M2 g2 st2 r2 s2 => ?_⟩⟩
 obtain ⟨G2, S2, k2⟩ := Z1 g g1 st1 g2 st2
 exact q (x :: xs) H2 Hs2 (fun b => m1 b + m2 b) M2 (G2.re fun b => by omega) (S2.drop (fun b => by omega) G2.le) ⟨m1, m2, r1.frame st2.grow k2, r2, fun b => Nat.le_refl _⟩ s2
theorem Za3 : PA X [] (tDs X.K (M.ret [])) := PA.imp ZcA fun σ H Q h => by
 obtain ⟨δ, Hs, M, b, δ', g, s, e, q⟩ := h
 have := Zi e
 cases this
 exact q [] H Hs (fun _ => 0) M (Zc3 g) (stp0 _ _ _) (.nil _) s
theorem ZB {c : M D} {cs : M (List D)} (ha : PE X e (tM X.K c)) (hr : PA X es (tDs X.K cs)) (hs : starEach (e :: es) X.env = (false, eval e X.env) :: starEach es X.env := by rfl) :
 PA X (e :: es) (tDs X.K (c.bnd fun p => cs.bnd fun ps => M.ret (p :: ps))) := PA.imp (Zbg ha hr hs) fun σ H Q h => by
 obtain ⟨δ, Hs, M, b, δ', g, s, e, q⟩ := h
 obtain ⟨p, δ1, e1, e⟩ := Zc e
 obtain ⟨ps, δ2, e2, e⟩ := Zc e
 have := Zi e
 cases this
 refine ⟨δ, Hs, M, p, δ1, g, s, e1, fun x H1 Hs1 m1 M1 g1 st1 r1 s1 => ⟨δ1, Hs1, M1, ps, _, g1.re, s1, e2, fun xs H2 Hs2 m2 M2 g2 st2 r2 s2 => ?_⟩⟩
 obtain ⟨G2, S2, k2⟩ := Z1 g g1 st1 g2 st2
 exact q (x :: xs) H2 Hs2 (fun b => m1 b + m2 b) M2 (G2.re fun b => by omega) (S2.drop (fun b => by omega) G2.le) (.cons (r1.frame st2.grow k2) r2 fun b => Nat.le_refl _) s2
theorem Zk7 {K : Fg} {cs : M (List D)} {f : List D -> Option D} {σ : St} {H : Hp} {Q : VK} (h : tM K (cs.bnd fun ds => lift (f ds)) σ H Q) : tDs K cs σ H fun vs H1 => ∃ (Hs : Hp) (m : Bud) (ds : List D) (d : D), (∀ b, m b <= 1) /\ (∀ b, m b = 1 -> H1 b ≠ none) /\ RepL K H1 Hs vs ds m /\ f ds = some d /\ Outs K H1 Hs m d Q := by
 obtain ⟨δ, Hs, M, b, δ', g, s, e, q⟩ := h
 obtain ⟨ds, δ1, e1, e⟩ := Zc e
 obtain ⟨e2, rfl⟩ := Za8 e
 refine ⟨δ, Hs, M, ds, _, g, s, e1, fun vs H1 Hs1 m1 M1 g1 st1 r1 s1 => ⟨Hs1, m1, ds, b, fun b => by have : m1 b + M1 b <= 1 := g1.le b; omega, fun b hb => g1.has b (by have : m1 b + M1 b <= 1 := g1.le b; show m1 b + M1 b = 1; omega), r1, e2, ZeF st1 g1 s1 q⟩⟩
theorem Zeh {cs : M (List D)} (h : PA X es (tDs X.K cs)) : PE X (.List es pos) (tM X.K (cs.bnd fun ds => lift (newL ds))) := PE.imp (ZlB h) fun σ H Q hq => by
 obtain ⟨δ, Hs, M, ds, δ', g, s, e, q⟩ := Zk7 hq
 refine ⟨δ, Hs, M, ds, δ', g, s, e, fun vs H1 Hs1 m1 M1 g1 st1 r1 s1 => ?_⟩
 obtain ⟨Hs2, m, ds, d, h1, h2, r, e, o⟩ := q vs H1 Hs1 m1 M1 g1 st1 r1 s1
 unfold newL at e
 split at e
 . rename_i hl
   cases e
   exact ⟨by rw [r.len]; exact hl, fun p hp => o.new h1 h2 hp (vs := vs) Zv r⟩
 . cases e
theorem ZcD {cs : M (List D)} {k : Nat} (h : PA X es (tDs X.K cs)) : PE X (.Tuple es k pos) (tM X.K (cs.bnd fun ds => lift (newT ds))) := PE.imp (ZpO h) fun σ H Q hq => by
 obtain ⟨δ, Hs, M, ds, δ', g, s, e, q⟩ := Zk7 hq
 refine ⟨δ, Hs, M, ds, δ', g, s, e, fun vs H1 Hs1 m1 M1 g1 st1 r1 s1 => ?_⟩
 obtain ⟨Hs2, m, ds, d, h1, h2, r, e, o⟩ := q vs H1 Hs1 m1 M1 g1 st1 r1 s1
 unfold newT at e
 split at e
 . rename_i hl
   cases e
   exact ⟨by rw [r.len]; exact hl, fun p hp => o.new h1 h2 hp (vs := vs) Zv r⟩
 . cases e
end
end T
namespace T
open PySem PySem.Spec L2
def Views (K : Fg) (H Hs : Hp) : List V -> List W -> Bud -> Prop
 | [], [], _ => True
 | v :: vs, w :: ws, m => ∃ m1 m2 : Bud, View K H Hs v w m1 /\ Views K H Hs vs ws m2 /\ ∀ b, m1 b + m2 b <= m b
 | _, _, _ => False
theorem Zjj {K : Fg} {H : Hp} {σ : St} {B : Bud} : ∀ {ps : List Op} {vs : List V} {Hs : Hp} {δ δ' : List D} {M m : Bud} {ws : List W}, Good H Hs (fun b => B b + M b) -> RepS K H Hs σ δ M -> Zdo K H Hs σ vs ps m -> views ps δ = .ok (ws, δ') ->
 ∃ Hs' M', Good H Hs' (fun b => B b + M' b) /\ Stp H Hs (fun b => B b + M b) H Hs' (fun b => B b + M' b) /\ Views K H Hs' vs ws m /\ RepS K H Hs' σ δ' M'
 | [], [], Hs, δ, δ', M, m, ws, g, s, r, e => by
  have := Zi e
  cases this
  exact ⟨Hs, M, g, Stp.refl _ _ _, trivial, s⟩
 | [], _ :: _, _, _, _, _, _, _, _, _, r, _ => r.elim
 | _ :: _, [], _, _, _, _, _, _, _, _, r, _ => r.elim
 | p :: ps, v :: vs, Hs, δ, δ', M, m, ws, g, s, ⟨m1, m2, r1, r2, l⟩, e => by
  obtain ⟨w, δ1, e1, e⟩ := Zc e
  obtain ⟨ws', δ2, e2, e⟩ := Zc e
  have := Zi e
  cases this
  obtain ⟨Hs1, M1, g1, st1, v1, s1⟩ := ZbH g s r1 e1
  obtain ⟨Hs2, M2, g2, st2, v2, s2⟩ := Zjj g1 s1 (r2.frame st1.grow fun _ _ _ => rfl) e2
  have z := Z1 (m1 := fun _ => 0) g (g1.re fun b => by simp) (st1.drop (fun b => by simp) g1.le) g2 st2
  exact ⟨Hs2, M2, g2, z.2.1.drop (fun b => by simp) z.1.le, ⟨m1, m2, v1.frame st2.grow, v2, l⟩, s2⟩
def rNW (K : Fg) (f : List W -> Option D) : List V -> Hp -> VK -> Prop := fun vs H Q => ∃ (Hs : Hp) (ws : List W) (m : Bud) (d : D), Same Hs H /\ (∀ b, m b <= 1) /\ (∀ b, m b = 1 -> H b ≠ none) /\ Views K H Hs vs ws m /\ f ws = some d /\ Outs K H Hs m d Q
theorem opN {K : Fg} {cs : M (List Op)} {f : List W -> Option D} {σ : St} {H : Hp} {Q : VK} (h : tM K (cs.bnd fun ps => (views ps).bnd fun ws => lift (f ws)) σ H Q) : tPs K cs σ H fun vs H1 => rNW K f vs H1 Q := by
 obtain ⟨δ, Hs, M, d, δ', g, s, e, q⟩ := h
 obtain ⟨ps, δ1, e1, e⟩ := Zc e
 obtain ⟨ws, δ2, e2, e⟩ := Zc e
 obtain ⟨e3, rfl⟩ := Za8 e
 refine ⟨δ, Hs, M, ps, δ1, g, s, e1, fun vs H1 Hs1 m1 M1 g1 st1 r1 s1 => ?_⟩
 obtain ⟨Hs2, M2, g2, st2, v2, s2⟩ := Zjj (B := m1) g1 s1 r1 e2
 have z := Z1 (m1 := fun _ => 0) g (g1.re fun b => by simp) (st1.drop (fun b => by simp) g1.le) g2 st2
 have S : Stp H Hs M H1 Hs2 (fun b => m1 b + M2 b) := z.2.1.drop (fun b => by simp) z.1.le
 have le : ∀ b, m1 b + M2 b <= 1 := g2.le
 exact ⟨Hs2, ws, m1, d, g2.sub, fun b => by have := le b; omega, fun b hb => g2.has b (by have := le b; show m1 b + M2 b = 1; omega), v2, e3, ZeF S g2 s2 q⟩
theorem Views.one {K : Fg} {H Hs : Hp} {vs : List V} {w : W} {m : Bud} (h : Views K H Hs vs [w] m) : ∃ (v : V) (m1 : Bud), vs = [v] /\ View K H Hs v w m1 /\ ∀ b, m1 b <= m b := by
 cases vs with
 | nil => exact h.elim
 | cons v vs =>
  obtain ⟨m1, m2, h1, h2, l⟩ := h
  cases vs with
  | nil => exact ⟨v, m1, rfl, h1, fun b => by have := l b; omega⟩
  | cons _ _ => exact h2.elim
theorem Views.two {K : Fg} {H Hs : Hp} {vs : List V} {w w' : W} {m : Bud} (h : Views K H Hs vs [w, w'] m) : ∃ (v v' : V) (m1 m2 : Bud), vs = [v, v'] /\ View K H Hs v w m1 /\ View K H Hs v' w' m2 /\ ∀ b, m1 b + m2 b <= m b := by
 cases vs with
 | nil => exact h.elim
 | cons v vs =>
  obtain ⟨m1, m2, h1, h2, l⟩ := h
  obtain ⟨v', m3, rfl, h3, l'⟩ := Views.one h2
  exact ⟨v, v', m1, m3, rfl, h1, h3, fun b => by have := l b; have := l' b; omega⟩
section
variable {X : Cx} {e : Expr} {es : List Expr} {pos p : Pos} {x : Str} {id ty : String} {f : BF} {cs : M (List Op)}
theorem ZbI (hc : Zbm X (.builtin id) (rNW X.K (bfW f))) (hg : Gl X x) (hm : X.mg x = none) (hv : bootBuiltins x = some (.builtin id)) (ha : PA X (e :: es) (tPs X.K cs)) (hn : x ≠ "__name__" := by decide) (hdb : (x == ("__debug__" : Str)) = false := by decide)
 (he : starEach (e :: es) X.env = (false, eval e X.env) :: starEach es X.env := by rfl) (hpl : (backTo pos (starEach es X.env)).any (·.1) = false := by rfl) :
 PE X (.Call (.Name x p) (e :: es) [] pos) (tM X.K (cs.bnd fun ps => (views ps).bnd fun ws => lift (bfW f ws))) := PE.imp (Zf2 hc hg hm hv ha hn hdb he hpl) fun σ H Q h => opN h
theorem Zjk (hc : Zbm X (.type ty) (rNW X.K (bfW f))) (hg : Gl X x) (hm : X.mg x = none) (hv : bootBuiltins x = some (.type ty)) (ha : PA X (e :: es) (tPs X.K cs)) (hn : x ≠ "__name__" := by decide) (hdb : (x == ("__debug__" : Str)) = false := by decide)
 (he : starEach (e :: es) X.env = (false, eval e X.env) :: starEach es X.env := by rfl) (hpl : (backTo pos (starEach es X.env)).any (·.1) = false := by rfl) :
 PE X (.Call (.Name x p) (e :: es) [] pos) (tM X.K (cs.bnd fun ps => (views ps).bnd fun ws => lift (bfW f ws))) := PE.imp (ZlC hc hg hm hv ha hn hdb he hpl) fun σ H Q h => opN h
theorem Zei : Zbm X (.builtin "len") (rNW X.K (bfW .len)) := by
 intro pins s σ H xs us Q I r h
 obtain ⟨Hs, ws, m, d, hs, h1, h2, v, e, o⟩ := h
 replace e : lenB _ = _ := e
 unfold lenB at e
 split at e <;> first | (rename_i z; cases z; done) | skip
 all_goals first
  | (obtain ⟨y, m1, rfl, v, l⟩ := v.one
     cases v with
     | nd n r' =>
      have hl := r'.len
      cases e
      first
      | exact Zdi pins s σ H _ us Q I r ⟨_, _, rfl, .inl (.inl (.inl n)), by rw [hl]; exact o.sc⟩
      | exact Zdi pins s σ H _ us Q I r ⟨_, _, rfl, .inl n, by rw [hl]; exact o.sc⟩
      | exact Zdi pins s σ H _ us Q I r ⟨_, _, rfl, .inr n, by rw [hl]; exact o.sc⟩
      | exact Zdi pins s σ H _ us Q I r ⟨_, _, rfl, .inr (.inl (.inl n)), by rw [hl]; exact o.sc⟩
      | (obtain ⟨n1, n2⟩ := n
         exact ZlG pins s σ H _ us Q I r ⟨_, _, rfl, n2, by rw [List.length_zip, n1, Nat.min_self, hl]; exact o.sc⟩))
  | (obtain ⟨y, m1, rfl, v, l⟩ := v.one
     split at e
     . rename_i hz
       cases e
       cases v
       exact ZiX pins s σ H _ us Q I r ⟨_, rfl, hz, o.sc⟩
     . cases e)
  | cases e
theorem Zqr : Zbm X (.builtin "abs") (rNW X.K (bfW .abs)) := by
 intro pins s σ H xs us Q I r h
 obtain ⟨Hs, ws, m, d, hs, h1, h2, v, e, o⟩ := h
 replace e : absB _ = _ := e
 unfold absB at e
 split at e <;> first | (rename_i z; cases z; done) | skip
 all_goals first
  | (obtain ⟨y, m1, rfl, v, l⟩ := v.one
     cases v
     cases e
     exact ZmA pins s σ H _ us Q I r ⟨_, rfl, o.sc⟩)
  | cases e
theorem ZhJ : Zbm X (.type "list") (rNW X.K (bfW .list)) := by
 intro pins s σ H xs us Q I r h
 obtain ⟨Hs, ws, m, d, hs, h1, h2, v, e, o⟩ := h
 replace e : Zlc _ = _ := e
 unfold Zlc at e
 split at e <;> first | (rename_i z; cases z; done) | skip
 all_goals first
  | (obtain ⟨y, m1, rfl, v, l⟩ := v.one
     cases v with
     | nd n r' =>
      cases e
      have go : ∀ p, H p = none -> Q (.ref p) (upd H p (.lst _)) := fun p hp => o.new h1 h2 hp Zv (r'.mono l)
      first
      | exact Zdj pins s σ H _ us Q I r ⟨_, _, rfl, .inl (.inl (.inl n)), go⟩
      | exact Zdj pins s σ H _ us Q I r ⟨_, _, rfl, .inl n, go⟩
      | exact Zdj pins s σ H _ us Q I r ⟨_, _, rfl, .inr n, go⟩
      | exact Zdj pins s σ H _ us Q I r ⟨_, _, rfl, .inr (.inl (.inl n)), go⟩)
  | cases e
theorem Zix : ∀ (is : List Int) (us : List Value), Vals (is.map V.int) us -> ∀ (i : Nat) (v : Value), us[i]? = some v -> ∃ t, v = .int (is.getD i 0) t
 | [], us, r, i, v, h => by cases r; simp at h
 | n :: is, us, r, i, v, h => by
  cases r with
  | cons r rr =>
   cases i with
   | zero =>
    simp at h
    subst h
    obtain ⟨t, rfl⟩ := r
    exact ⟨t, rfl⟩
   | succ i => exact Zix is _ rr i v (by simpa using h)
theorem ZjY : ∀ (is : List Int), preSum (fun i => is.getD i 0) is.length = is.sum := by
 intro is
 have h : ∀ n, n <= is.length -> preSum (fun i => is.getD i 0) n = (is.take n).sum := by
  intro n
  induction n with
  | zero => intro _; simp [preSum]
  | succ n ih =>
   intro hn
   have := ih (by omega)
   show preSum (fun i => is.getD i 0) n + is.getD n 0 = _
   rw [this, PyProof.Rows.take_sum_succ is n (by omega)]
 have := h is.length (Nat.le_refl _)
 rw [List.take_length] at this
 exact this
theorem Zi9 (hc : X.calm = true) : Zbm X (.builtin "sum") (fun xs H Q => ∃ (l : Addr) (is : List Int), xs = [.ref l] /\ SqL X.K H l (is.map V.int) /\ Q (.int is.sum) H) := by
 intro pins s σ H xs us Q I r h
 obtain ⟨l, is, rfl, hl, q⟩ := h
 obtain ⟨u, rfl, ru⟩ := r.one
 cases (show u = Value.ref l from ru)
 obtain ⟨its, rv, p, hz⟩ := I.list hl
 have hlt : l < s.heap.objs.size := by obtain ⟨_, e, _⟩ := p.isList; exact Heap.lt_size e
 refine call_sum_walkG (wpAny_pyIter_list p.isList ?_)
 refine ⟨s.heap.objs.size, [s.heap.objs.size, l], [s.heap.objs.size], its.toArray.size, _, _, fun i => is.getD i 0, rfl, Walks.list (A := X.A.in1) (I.ok.hd hc) _ l (Nat.ne_of_lt hlt) its.toArray,
  ⟨⟨_, Heap.get?_push_size _ rfl, rfl, rfl⟩, p.isList.push _⟩, fun b hb => ?_, fun i v hP => ?_, fun h' tk t' hk => ?_⟩
 . have e : ∀ o, (s.heap.push o).objs.size = s.heap.objs.size + 1 := fun o => by simp [Heap.push]
   rw [e]
   rcases List.mem_cons.mp hb with q | q
   . rw [q]
     exact Nat.lt_succ_self _
   . rw [List.mem_singleton.mp q]
     exact Nat.lt_succ_of_lt hlt
 . exact Zix is its rv i v (by simpa using hP)
 . have e : preSum (fun i => is.getD i 0) its.toArray.size = is.sum := by
    rw [List.size_toArray, <- rv.length, List.length_map]
    exact ZjY is
   rw [e]
   exact ⟨.int _, H, I.kept (t' := tk) (Zov hk), ⟨_, rfl⟩, q⟩
theorem ZlW (hc : X.calm = true) : Zbm X (.builtin "sum") (rNW X.K (bfW .sum)) := by
 intro pins s σ H xs us Q I r h
 obtain ⟨Hs, ws, m, d, hs, h1, h2, v, e, o⟩ := h
 replace e : sumB _ = _ := e
 unfold sumB at e
 split at e <;> first | (rename_i z; cases z; done) | skip
 all_goals first
  | (obtain ⟨y, m1, rfl, v, l⟩ := v.one
     cases v with
     | nd n r' =>
      simp only [Option.map_eq_some_iff] at e
      obtain ⟨is, e, rfl⟩ := e
      have ei := ZeO r' e
      subst ei
      exact Zi9 hc pins s σ H _ us Q I r ⟨_, _, rfl, .inl (.inl n), o.sc⟩)
  | cases e
end
end T
namespace T
open PySem PySem.Spec L2
noncomputable def kitB (a b : String) : Option Bool := if (Value.type a == Value.type b) = true then some true else if PySem.W.kitMeta b = true then (PySem.fastBuiltinMro a).map (·.contains (.type b)) else none
theorem ZeG (K : Fg) (a b : String) : PySem.W.kitOne K (.type a) (.type b) = kitB a b := rfl
noncomputable def tyS : Ty -> Option String
 | .int => some "int" | .bool => some "bool" | .str => some "str" | .list => some "list" | .tuple => some "tuple" | .dict => some "dict" | .own _ => none
theorem ZrS : kitB "int" "int" = some true := by decide +kernel
theorem ZrT : kitB "bool" "int" = some true := by decide +kernel
theorem ZrU : kitB "str" "int" = some false := by decide +kernel
theorem ZrV : kitB "NoneType" "int" = some false := by decide +kernel
theorem ZrW : kitB "list" "int" = some false := by decide +kernel
theorem ZrX : kitB "tuple" "int" = some false := by decide +kernel
theorem ZrY : kitB "bool" "bool" = some true := by decide +kernel
theorem ZrZ : kitB "int" "bool" = some false := by decide +kernel
theorem Zsa : kitB "str" "bool" = some false := by decide +kernel
theorem Zsb : kitB "NoneType" "bool" = some false := by decide +kernel
theorem Zsc : kitB "list" "bool" = some false := by decide +kernel
theorem Zsd : kitB "tuple" "bool" = some false := by decide +kernel
theorem Zse : kitB "str" "str" = some true := by decide +kernel
theorem Zsf : kitB "int" "str" = some false := by decide +kernel
theorem Zsg : kitB "bool" "str" = some false := by decide +kernel
theorem Zsh : kitB "NoneType" "str" = some false := by decide +kernel
theorem Zsi : kitB "list" "str" = some false := by decide +kernel
theorem Zsj : kitB "tuple" "str" = some false := by decide +kernel
theorem Zsk : kitB "list" "list" = some true := by decide +kernel
theorem Zsl : kitB "tuple" "list" = some false := by decide +kernel
theorem Zsm : kitB "int" "list" = some false := by decide +kernel
theorem Zsn : kitB "bool" "list" = some false := by decide +kernel
theorem Zso : kitB "str" "list" = some false := by decide +kernel
theorem Zsp : kitB "NoneType" "list" = some false := by decide +kernel
theorem Zsq : kitB "tuple" "tuple" = some true := by decide +kernel
theorem Zsr : kitB "list" "tuple" = some false := by decide +kernel
theorem Zss : kitB "int" "tuple" = some false := by decide +kernel
theorem Zst : kitB "bool" "tuple" = some false := by decide +kernel
theorem Zsu : kitB "str" "tuple" = some false := by decide +kernel
theorem Zsv : kitB "NoneType" "tuple" = some false := by decide +kernel
theorem Zsw {K : Fg} {H Hs : Hp} {t : Ty} {n : String} {v : V} {w : W} {m : Bud} {b : Bool} (hn : tyS t = some n) (hv : View K H Hs v w m) (h : tyW t w = some b) : ∃ tv, TyOf K H v tv /\ PySem.W.kitOne K tv (.type n) = some b := by
 cases hv with
 | sc v _ =>
  cases t <;> cases hn <;> cases v <;> cases h <;> first
   | exact ⟨_, .int _, by rw [ZeG]; first | exact ZrS | exact ZrZ | exact Zsf | exact Zsm | exact Zss⟩
   | exact ⟨_, .bl _, by rw [ZeG]; first | exact ZrT | exact ZrY | exact Zsg | exact Zsn | exact Zst⟩
   | exact ⟨_, .str _, by rw [ZeG]; first | exact ZrU | exact Zsa | exact Zse | exact Zso | exact Zsu⟩
   | exact ⟨_, .non, by rw [ZeG]; first | exact ZrV | exact Zsb | exact Zsh | exact Zsp | exact Zsv⟩
 | @nd a k vs ds m n r =>
  cases t <;> cases hn <;> cases k <;> cases h <;> first
   | exact ⟨_, .lst n, by rw [ZeG]; first | exact ZrW | exact Zsc | exact Zsi | exact Zsk | exact Zsr⟩
   | exact ⟨_, .tup n, by rw [ZeG]; first | exact ZrX | exact Zsd | exact Zsj | exact Zsl | exact Zsq⟩
section
variable {X : Cx} {a e c : Expr} {es : List Expr} {pos p : Pos} {x : Str} {n : String} {ca : M Op}
theorem Zjl {t : Ty} (hn : tyS t = some n) (hg : Gl X "isinstance") (hm : X.mg "isinstance" = none) (ha : PE X a (tP X.K ca)) (hc : PE X c (tC (.ty n))) (hs : starEach [a, c] X.env = [(false, eval a X.env), (false, eval c X.env)] := by rfl)
 (hs1 : starEach [c] X.env = [(false, eval c X.env)] := by rfl) :
 PE X (.Call (.Name "isinstance" p) [a, c] [] pos) (tM X.K ((ca.bnd fun p => (M.ret ([] : List Op)).bnd fun ps => M.ret (p :: ps)).bnd fun ps => (views ps).bnd fun ws => lift (bfW (.isi t) ws))) :=
 PE.imp (Zf2 (ZmO (.ty n) (.type n) rfl fun u h => h) hg hm ZeM (Zbg ha (Zbg hc ZcA (by rw [hs1]; rfl)) (by rw [hs, hs1])) (by decide) (by decide) (by rw [hs, hs1]) (by rw [hs1]; rfl)) fun σ H Q h => by
  have h2 : tM X.K ((ca.bnd view).bnd fun w => lift (bfW (.isi t) [w])) σ H Q := by
   obtain ⟨δ, Hs, M, d, δ', g, s, e, q⟩ := h
   refine ⟨δ, Hs, M, d, δ', g, s, ?_, q⟩
   obtain ⟨ps, δ1, e1, e⟩ := Zc e
   obtain ⟨pp, δ2, e2, e3⟩ := Zc e1
   obtain ⟨z, δ3, e4, e5⟩ := Zc e3
   have := Zi e4
   cases this
   have := Zi e5
   cases this
   obtain ⟨ws, δ4, e6, e⟩ := Zc e
   obtain ⟨w, δ5, e7, e8⟩ := Zc e6
   obtain ⟨z, δ6, e9, e10⟩ := Zc e8
   have := Zi e9
   cases this
   have := Zi e10
   cases this
   show T.M.bnd (ca.bnd view) _ δ = _
   unfold T.M.bnd
   rw [e2]
   dsimp only
   rw [e7]
   exact e
  refine op1 (r := fun x H1 Q => ∃ x' t' b, [x, V.ty n] = [x', V.ty n] /\ TyOf X.K H1 x' t' /\ PySem.W.kitOne X.K t' (.type n) = some b /\ Q (.bl b) H1) h2 fun x H Hs w m d g h1 h2 v e o => ?_
  simp only [bfW, isiB, Option.map_eq_some_iff] at e
  obtain ⟨b, e, rfl⟩ := e
  obtain ⟨tv, h3, h4⟩ := Zsw hn v e
  exact ⟨x, tv, b, rfl, h3, h4, o.sc⟩
end
def spF (K : Fg) (F : List D -> Rs (D × List D)) : Sp := fun vs H Q _ => ∃ (ds : List D) (Hs : Hp) (m : Bud) (d : D) (ds' : List D), Good H Hs m /\ RepL K H Hs vs ds m /\ F ds = .ok (d, ds') /\
 ∀ (v : V) (H' Hs' : Hp) (m1 m' : Bud), Good H' Hs' (fun b => m1 b + m' b) -> Stp H Hs m H' Hs' (fun b => m1 b + m' b) -> Rep K H' Hs' v d m1 -> RepL K H' Hs' vs ds' m' -> Q v H'
theorem Zo4 {K : Fg} {H Hs : Hp} {σ : St} {B m M : Bud} {δ δ' : List D} {lend : Bool} {p : Op} {v : V} {d : D} (g : Good H Hs (fun b => B b + (m b + M b))) (s : RepS K H Hs σ δ M) (r : RepP K H Hs σ v p m) (e : takeA lend p δ = .ok (d, δ')) :
 ∃ Hs' m' M', Good H Hs' (fun b => B b + (m' b + M' b)) /\ Stp H Hs (fun b => B b + (m b + M b)) H Hs' (fun b => B b + (m' b + M' b)) /\ Rep K H Hs' v d m' /\ RepS K H Hs' σ δ' M' /\ ∀ b, m' b + M' b <= m b + M b := by
 cases p with
 | tmp d' =>
  have := Zi e
  cases this
  exact ⟨Hs, m, M, g, Stp.refl _ _ _, r, s, fun b => Nat.le_refl _⟩
 | late i =>
  have r : σ[i]? = some (some v) := r
  have same : ∀ {d : D}, δ[i]? = some d -> d ≠ .hole -> (∀ m1, Rep K H Hs v d m1 -> Rep K H Hs v d (fun _ => 0)) -> ∃ Hs' m' M', Good H Hs' (fun b => B b + (m' b + M' b)) /\ Stp H Hs (fun b => B b + (m b + M b)) H Hs' (fun b => B b + (m' b + M' b)) /\ Rep K H Hs' v d m' /\ RepS K H Hs' σ δ M' /\ ∀ b, m' b + M' b <= m b + M b := fun {d} hi hn hz => by
   obtain ⟨v', m1, m2, e1, q, l, f⟩ := s.slot hi hn
   rw [r] at e1
   cases e1
   exact ⟨Hs, fun _ => 0, M, g.re fun b => by (try simp); (try omega), (Stp.refl H Hs _).drop (fun b => by (try simp); (try omega)) g.le, hz _ q, s, fun b => by (try simp); (try omega)⟩
  unfold takeA at e
  dsimp only at e
  split at e
  . rename_i u hi
    cases e
    exact same hi (by simp) fun m1 q => by cases q; exact .sc _ _
  . rename_i k ds hi
    cases e
    exact same hi (by simp) fun m1 q => by cases q with | shd n q => exact .shd n q
  . rename_i k ds hi
    obtain ⟨v', m1, m2, e1, q, l, f⟩ := s.slot hi (by simp)
    rw [r] at e1
    cases e1
    split at e
    . cases e
      refine ⟨Hs, m1, m2, g.re fun b => by have := l b; omega, (Stp.refl H Hs _).drop (fun b => by have := l b; omega) g.le, q, ?_, fun b => by have := l b; omega⟩
      have z := f H Hs (some v) .hole (fun _ => 0) (Same.refl _) (fun _ _ _ => rfl) (.inl rfl)
      rw [ZaU r] at z
      exact z.mono fun b => by simp
    . cases e
      have g2 : Good H Hs (fun b => m1 b + (B b + m2 b)) := g.re fun b => by have := l b; omega
      have hsame := ZdM g2 (m := m1) fun b => by omega
      have r2 := Rep.share hsame (ZfY (H := H) (Hs := Hs) (m := m1)) q
      have st := Stp.share g2
      refine ⟨shH H Hs m1, fun _ => 0, m2, g2.share.re fun b => by simp, ⟨fun b o h _ => h, fun b h => ?_, st.grow, fun b h h' => ?_, fun b h => h⟩, r2, ?_, fun b => by have := l b; simp; omega⟩
      . have h : B b + (0 + m2 b) = 1 := h
        have l0 : B b + (m b + M b) <= 1 := g.le b
        have := l b
        left
        show B b + (m b + M b) = 1
        omega
      . rcases st.shr b h h' with z | z
        . have z : m1 b + (B b + m2 b) = 1 := z
          have l0 : B b + (m b + M b) <= 1 := g.le b
          have := l b
          left
          show B b + (m b + M b) = 1
          omega
        . exact .inr z
      . have z := f H (shH H Hs m1) (some v) (.node k false (shrL ds)) (fun _ => 0) hsame (fun _ _ _ => rfl) (.inr ⟨v, rfl, r2⟩)
        rw [ZaU r] at z
        exact z.mono fun b => by simp
  . cases e
theorem Zf5 {K : Fg} {H : Hp} {σ : St} {lend : Bool} : ∀ {ps : List Op} {vs : List V} {Hs : Hp} {δ δ' : List D} {B M m : Bud} {ds : List D}, Good H Hs (fun b => B b + (m b + M b)) -> RepS K H Hs σ δ M -> Zdo K H Hs σ vs ps m -> Zbj lend ps δ = .ok (ds, δ') ->
 ∃ Hs' m' M', Good H Hs' (fun b => B b + (m' b + M' b)) /\ Stp H Hs (fun b => B b + (m b + M b)) H Hs' (fun b => B b + (m' b + M' b)) /\ RepL K H Hs' vs ds m' /\ RepS K H Hs' σ δ' M'
 | [], [], Hs, δ, δ', B, M, m, ds, g, s, r, e => by
  have := Zi e
  cases this
  exact ⟨Hs, m, M, g, Stp.refl _ _ _, .nil _, s⟩
 | [], _ :: _, _, _, _, _, _, _, _, _, _, r, _ => r.elim
 | _ :: _, [], _, _, _, _, _, _, _, _, _, r, _ => r.elim
 | p :: ps, v :: vs, Hs, δ, δ', B, M, m, ds, g, s, ⟨n1, n2, r1, r2, l⟩, e => by
  obtain ⟨d, δ1, e1, e⟩ := Zc e
  obtain ⟨ds', δ2, e2, e⟩ := Zc e
  have := Zi e
  cases this
  have g0 : Good H Hs (fun b => (B b + n2 b) + (n1 b + M b)) := g.re fun b => by have := l b; omega
  obtain ⟨Hs1, m1, M1, g1, st1, q1, s1, l1⟩ := Zo4 g0 s r1 e1
  have g1' : Good H Hs1 (fun b => (B b + m1 b) + (n2 b + M1 b)) := g1.re fun b => by omega
  obtain ⟨Hs2, m2, M2, g2, st2, q2, s2⟩ := Zf5 g1' s1 (r2.frame st1.grow fun _ _ _ => rfl) e2
  have S0 : Stp H Hs (fun b => B b + (m b + M b)) H Hs1 (fun b => (B b + m1 b) + (n2 b + M1 b)) := by
   refine ⟨fun b o h _ => h, fun b h => ?_, st1.grow, fun b h h' => ?_, fun b h => h⟩
   . have h : (B b + m1 b) + (n2 b + M1 b) = 1 := h
     rcases st1.own b (show (B b + n2 b) + (m1 b + M1 b) = 1 by omega) with z | z
     . have z : (B b + n2 b) + (n1 b + M b) = 1 := z
       have l0 : B b + (m b + M b) <= 1 := g.le b
       have := l b
       left
       show B b + (m b + M b) = 1
       omega
     . exact .inr z
   . rcases st1.shr b h h' with z | z
     . have z : (B b + n2 b) + (n1 b + M b) = 1 := z
       have l0 : B b + (m b + M b) <= 1 := g.le b
       have := l b
       left
       show B b + (m b + M b) = 1
       omega
     . exact .inr z
  have z := Z1 (m1 := fun _ => 0) g (g1'.re fun b => by simp) (S0.drop (fun b => by simp) g1'.le) g2 st2
  have S : Stp H Hs (fun b => B b + (m b + M b)) H Hs2 (fun b => (B b + m1 b) + (m2 b + M2 b)) := z.2.1.drop (fun b => by simp) z.1.le
  exact ⟨Hs2, fun b => m1 b + m2 b, M2, g2.re fun b => by dsimp only; omega, S.drop (fun b => by dsimp only; omega) g2.le, .cons (q1.frame st2.grow fun _ _ _ => rfl) q2 fun b => Nat.le_refl _, s2⟩
theorem ZeP {K : Fg} {H Hs : Hp} {σ : St} : ∀ {ps : List Op} {vs : List V} {δ δ' : List D} {M m : Bud} {ds : List D} {u : Unit}, RepS K H Hs σ δ M -> RepL K H Hs vs ds m -> (∀ i v, (.late i, v) ∈ ps.zip vs -> σ[i]? = some (some v)) -> ZW ps ds δ = .ok (u, δ') -> RepS K H Hs σ δ' (fun b => m b + M b)
 | [], vs, δ, δ', M, m, ds, u, s, r, hl, e => by
  have := Zi (show T.M.ret () δ = Rs.ok (u, δ') by unfold ZW at e; exact e)
  cases this
  exact s.mono fun b => by omega
 | p :: ps, [], δ, δ', M, m, ds, u, s, r, hl, e => by
  cases r
  have := Zi (show T.M.ret () δ = Rs.ok (u, δ') by unfold ZW at e; exact e)
  cases this
  exact s.mono fun b => by omega
 | p :: ps, v :: vs, δ, δ', M, m, ds, u, s, r, hl, e => by
  cases r with
  | @cons _ d _ ds' m1 m2 _ x y l =>
   unfold ZW at e
   obtain ⟨_, δ1, e1, e2⟩ := Zc e
   have hl' : ∀ i v, (.late i, v) ∈ ps.zip vs -> σ[i]? = some (some v) := fun i v h => hl i v (by rw [List.zip_cons_cons]; exact List.mem_cons_of_mem _ h)
   have go : ∀ {M1 : Bud}, RepS K H Hs σ δ1 M1 -> (∀ b, M1 b <= m1 b + M b) -> RepS K H Hs σ δ' (fun b => m b + M b) := fun {M1} s1 l1 =>
    (ZeP s1 y hl' e2).mono fun b => by have := l b; have := l1 b; omega
   cases p with
   | tmp d' =>
    have := Zi e1
    cases this
    exact go s fun b => by omega
   | late i =>
    have hi := hl i v (by rw [List.zip_cons_cons]; exact List.mem_cons_self)
    unfold giveA at e1
    dsimp only at e1
    split at e1
    . rename_i hh
      cases e1
      obtain ⟨o, n1, n2, q1, q2, q3, f⟩ := s.focus hh
      have z := f (RepO K H Hs) (some v) d m1 (fun a d m' _ q => q) (.inr ⟨v, rfl, x⟩)
      rw [ZaU hi] at z
      exact go z fun b => by have := q3 b; omega
    . cases e1
      exact go s fun b => by omega
theorem lates {K : Fg} {H Hs : Hp} {σ : St} : ∀ {ps : List Op} {vs : List V} {m : Bud}, Zdo K H Hs σ vs ps m -> ∀ i v, (.late i, v) ∈ ps.zip vs -> σ[i]? = some (some v)
 | [], [], _, _, i, v, h => by simp at h
 | [], _ :: _, _, r, _, _, _ => r.elim
 | _ :: _, [], _, r, _, _, _ => r.elim
 | p :: ps, w :: vs, _, ⟨m1, m2, r1, r2, _⟩, i, v, h => by
  rw [List.zip_cons_cons] at h
  rcases List.mem_cons.mp h with e | e
  . injection e with e1 e2
    subst e1 e2
    exact r1
  . exact lates r2 i v e
theorem ZmV {K : Fg} {fi : FI} {σ : St} {H H1 Hs Hs1 : Hp} {M m1 M1 : Bud} {δ1 δ' : List D} {d : D} {ps : List Op} {vs : List V} {Q : VK} {E : XK} (g : Good H Hs M) (g1 : Good H1 Hs1 (fun b => m1 b + M1 b)) (st1 : Stp H Hs M H1 Hs1 (fun b => m1 b + M1 b))
 (r1 : Zdo K H1 Hs1 σ vs ps m1) (s1 : RepS K H1 Hs1 σ δ1 M1) (e : ZdW fi ps δ1 = .ok (d, δ'))
 (q : ∀ (v : V) (H' Hs' : Hp) (m M' : Bud), Good H' Hs' (fun b => m b + M' b) -> Stp H Hs M H' Hs' (fun b => m b + M' b) -> Rep K H' Hs' v d m -> RepS K H' Hs' σ δ' M' -> Q v H') : spF K fi.run vs H1 Q E := by
 unfold ZdW at e
 obtain ⟨ds, δ2, e2, e⟩ := Zc e
 cases hF : fi.run ds with
 | ok r =>
  obtain ⟨d', ds'⟩ := r
  rw [hF] at e
  dsimp only at e
  obtain ⟨u, δ3, e3, e⟩ := Zc e
  have := Zi e
  cases this
  obtain ⟨Hs2, m2, M2, g2, st2, q2, s2⟩ := Zf5 (B := fun _ => 0) (g1.re fun b => by simp) s1 r1 e2
  have z0 := Z1 (m1 := fun _ => 0) g (g1.re fun b => by simp) (st1.drop (fun b => by simp) g1.le) (g2.re fun b => by simp) (M1 := fun b => m1 b + M1 b) (M2 := fun b => m2 b + M2 b) (by
   have := st2
   exact ⟨fun b o h z => this.keep b o h (by simpa using z), fun b h => by have := this.own b (by simpa using h); simpa using this, this.grow, fun b h h' => by have := this.shr b h h'; simpa using this, this.stay⟩)
  have G2 : Good H1 Hs2 (fun b => M2 b + m2 b) := g2.re fun b => by simp; omega
  have S2 : Stp H Hs M H1 Hs2 (fun b => M2 b + m2 b) := z0.2.1.drop (fun b => by simp; omega) z0.1.le
  refine ⟨ds, Hs2, m2, _, ds', G2.re fun b => by omega, q2, hF, fun v H3 Hs3 n1 n2 g3 st3 r3 r4 => ?_⟩
  obtain ⟨G, S, k⟩ := Z1 g G2 S2 g3 st3
  have s3 := RepS.frame st3.grow k s2
  have fin := ZeP s3 r4 (lates r1) e3
  exact q v H3 Hs3 n1 (fun b => n2 b + M2 b) (G.re fun b => by (try dsimp only); omega) (S.drop (fun b => by (try dsimp only); omega) G.le) r3 fin
 | exc x y => rw [hF] at e; cases e
 | stuck => rw [hF] at e; cases e
theorem Zo5 {K : Fg} {fi : FI} {cs : M (List Op)} {σ : St} {H : Hp} {Q : VK} {E : XK} (h : tM K (cs.bnd fun ps => ZdW fi ps) σ H Q) : tPs K cs σ H fun vs H1 => spF K fi.run vs H1 Q E := by
 obtain ⟨δ, Hs, M, d, δ', g, s, e, q⟩ := h
 obtain ⟨ps, δ1, e1, e⟩ := Zc e
 exact ⟨δ, Hs, M, ps, δ1, g, s, e1, fun vs H1 Hs1 m1 M1 g1 st1 r1 s1 => ZmV g g1 st1 r1 s1 e q⟩
section
variable {X : Cx} {a e c : Expr} {es : List Expr} {pos p : Pos} {x : Str} {j n : Nat} {fi : FI} {ps : List Str} {cs : M (List Op)}
theorem ZJ (G : FnAt X.prog X.w X.K X.mg X.base x j ps (spF X.K fi.run)) (hr : Room n X.A) (ha : PA X (e :: es) (tPs X.K cs)) (hj : j <= n := by decide) (hg : Gl X x := by rfl) (hdb : (x == ("__debug__" : Str)) = false := by decide)
 (he : starEach (e :: es) X.env = (false, eval e X.env) :: starEach es X.env := by rfl) (hpl : (backTo pos (starEach es X.env)).any (·.1) = false := by rfl) :
 PE X (.Call (.Name x p) (e :: es) [] pos) (tM X.K (cs.bnd fun ps => ZdW fi ps)) := PE.imp (ZrK G hr ha hj hg hdb he hpl) fun σ H Q h => by
 obtain ⟨δ, Hs, M, a, δ', g, s, e, q⟩ := Zo5 (E := E0) h
 refine ⟨δ, Hs, M, a, δ', g, s, e, fun vs H' Hs' m M' g' st r s' => ?_⟩
 show spF X.K fi.run (vs ++ []) H' Q E0
 rw [List.append_nil]
 exact q vs H' Hs' m M' g' st r s'
end
end T
namespace T
open PySem PySem.Spec L2
theorem modL {K : Fg} {H Hs : Hp} {σ : St} {B M : Bud} {δ : List D} {i : Nat} {k : Kd} {ds : List D} (g : Good H Hs (fun b => B b + M b)) (s : RepS K H Hs σ δ M) (hi : δ[i]? = some (.node k true ds)) :
 ∃ (p : Addr) (vs : List V) (m' m2 : Bud), σ[i]? = some (some (.ref p)) /\ Zc1 K H p vs k /\ RepL K H Hs vs ds m' /\ (∀ b, one p b + m' b + m2 b <= M b) /\
  ∀ (o' : HO) (k' : Kd) (vs' : List V) (ds' : List D) (n' nr : Bud) (rv : V) (r : D), (∀ b, n' b + nr b <= m' b + B b) -> Zc1 K (upd H p o') p vs' k' -> RepL K H Hs vs' ds' n' -> Rep K H Hs rv r nr ->
   Good (upd H p o') Hs (fun b => nr b + (one p b + n' b + m2 b)) /\ Stp H Hs (fun b => B b + M b) (upd H p o') Hs (fun b => nr b + (one p b + n' b + m2 b)) /\ Rep K (upd H p o') Hs rv r nr /\
   RepS K (upd H p o') Hs σ (δ.set i (.node k' true ds')) (fun b => one p b + n' b + m2 b) := by
 obtain ⟨v, m1, m2, e1, q, l, f⟩ := s.slot hi (by simp)
 cases q with
 | @own p _ vs _ _ m' n r l' =>
  have le : ∀ b, one p b + m' b + m2 b <= M b := fun b => by have := l b; have := l' b; omega
  refine ⟨p, vs, m', m2, e1, n, r, le, fun o' k' vs' ds' n' nr rv rd h1 hn hr hq => ?_⟩
  have one_p : one p p = 1 := by simp [one]
  have tot : ∀ b, nr b + (one p b + n' b + m2 b) <= B b + M b := fun b => by have := le b; have := h1 b; omega
  have zp : m' p = 0 /\ B p = 0 /\ m2 p = 0 := by
   have := le p
   have := g.le p
   try dsimp only at this
   omega
  have zp2 : n' p = 0 /\ nr p = 0 := by have := h1 p; omega
  have Hp : H p ≠ none := n.at
  have eqH : ∀ b, b ≠ p -> upd H p o' b = H b := fun b hb => Zt hb
  have hs2 : Hs p = none := g.ne p (by have := le p; have := g.le p; (try dsimp only at this ⊢); omega)
  refine ⟨⟨fun b o e => ?_, fun b => ?_, fun b h => ?_, fun b h => ?_⟩, ⟨fun b o e z => ?_, fun b h => ?_, Same.refl _, fun b h h' => absurd h h', fun b h => ?_⟩, ?_, ?_⟩
  . have hb : b ≠ p := fun q => by subst q; rw [hs2] at e; cases e
    rw [eqH b hb]
    exact g.sub b o e
  . have := g.le b
    have := tot b
    (try dsimp only at *)
    omega
  . have := g.le b
    have := tot b
    exact g.ne b (by (try dsimp only at *); omega)
  . by_cases hb : b = p
    . subst hb; rw [Zv]; simp
    . rw [eqH b hb]
      have := g.le b
      have := tot b
      exact g.has b (by (try dsimp only at *); omega)
  . have hb : b ≠ p := fun q => by
     subst q
     have := le b
     have := g.le b
     (try dsimp only at *)
     omega
    rw [eqH b hb]
    exact e
  . have := g.le b
    have := tot b
    left
    (try dsimp only at *)
    omega
  . by_cases hb : b = p
    . subst hb; rw [Zv]; simp
    . rw [eqH b hb]; exact h
  . exact hq.frame (Same.refl _) fun b hb hn' => eqH b fun q => by subst q; omega
  . have r' : RepL K (upd H p o') Hs vs' ds' n' := hr.frame (Same.refl _) fun b hb hn' => eqH b fun q => by subst q; omega
    have z := f (upd H p o') Hs (some (.ref p)) (.node k' true ds') (fun b => one p b + n' b) (Same.refl _) (fun b hb hn' => eqH b fun q => by subst q; omega) (.inr ⟨_, rfl, .own hn r' fun b => Nat.le_refl _⟩)
    rw [ZaU e1] at z
    exact z.mono fun b => by (try dsimp only); omega
theorem ZhK {i : Nat} {f : Kd -> List D -> Option (D × Kd × List D)} {δ δ' : List D} {d : D} (h : modS i f δ = .ok (d, δ')) : ∃ k ds k' ds', δ[i]? = some (.node k true ds) /\ f k ds = some (d, k', ds') /\ δ' = δ.set i (.node k' true ds') := by
 unfold modS at h
 split at h
 . rename_i k ds hi
   split at h
   . rename_i r k' ds' hf
     cases h
     exact ⟨k, ds, k', ds', hi, hf, rfl⟩
   . cases h
 . cases h
section
variable {X : Cx} {o e : Expr} {es : List Expr} {cpos apos : Pos} {i : Nat} {name : Str} {id : String}
theorem Zqs {K : Fg} {H Hs : Hp} {σ : St} {M : Bud} {δ δ' : List D} {u : Unit} (g : Good H Hs M) (s : RepS K H Hs σ δ M) (h : chkL i δ = .ok (u, δ')) : δ' = δ /\ ∃ p, σ[i]? = some (some (.ref p)) /\ tyV K "list" (.ref p) H := by
 unfold chkL at h
 split at h
 . rename_i oo ds hi
   cases h
   obtain ⟨v, m1, m2, e1, q, l, f⟩ := s.slot hi (by simp)
   refine ⟨rfl, ?_⟩
   cases q with
   | own n r _ => exact ⟨_, e1, .inl ⟨rfl, _, .inl (.inl n)⟩⟩
   | shd n r => exact ⟨_, e1, .inl ⟨rfl, _, .inl (.inl (g.sub _ _ n))⟩⟩
 . cases h
theorem ZlX {cs : M (List D)} (ho : PE X o (tVar i)) (ha : PA X [e] (tDs X.K cs))
 (hbase : attributeBase o "append" X.env (eval o X.env) = eval o X.env := by rfl)
 (hfew : ((backTo cpos (starEach [e] X.env)).all (fun x => !x.1) && (backToKw cpos (keywordEach [] X.env)).all (fun x => x.1.isSome)
  && decide ([e].length + ([] : List Keyword).length + (if ([] : List Keyword).isEmpty then 0 else 1) < 30)) = true := by rfl)
 (hline : (apos.endLine == cpos.line) = true := by rfl) (hs : starEach [e] X.env = (false, eval e X.env) :: starEach [] X.env := by rfl) (hplain : (backTo cpos (starEach [] X.env)).any (·.1) = false := by rfl) :
 PE X (.Call (.Attribute o "append" apos) [e] [] cpos) (tM X.K ((chkL i).bnd fun _ => cs.bnd fun ds => appM i ds)) :=
 PE.imp (ZnE PySem.F.plainAttrs_list PySem.F.slot_list_append PySem.F.type_list_append Zit ho ha hbase hfew hline hs hplain) fun σ H Q h => by
  obtain ⟨δ, Hs, M, d, δ', g, s, ea, q⟩ := h
  obtain ⟨u, δ0, e0, eb⟩ := Zc ea
  obtain ⟨ds, δ1, e1, ec⟩ := Zc eb
  obtain ⟨rfl, p0, h1, h2⟩ := Zqs g s e0
  refine ⟨_, h1, h2, δ0, Hs, M, ds, δ1, g, s, e1, fun vs H1 Hs1 m1 M1 g1 st1 r1 s1 => ?_⟩
  unfold appM at ec
  split at ec
  . rename_i x
    obtain ⟨k, ds0, k', ds', hi, hf, rfl⟩ := ZhK ec
    unfold appD at hf
    split at hf
    . split at hf
      . rename_i hl
        cases hf
        cases r1 with
        | @cons y _ _ _ a1 a2 _ rx r2 la =>
         cases r2
         obtain ⟨p, ws, m', m2, e2, n, rl, le, fin⟩ := modL g1 s1 hi
         have e3 : some (some (V.ref p)) = some (some (V.ref p0)) := by rw [<- e2, h1]
         cases e3
         obtain ⟨G, S, R, SS⟩ := fin (.lst (ws ++ [y])) .lst (ws ++ [y]) (ds0 ++ [x]) (fun b => m' b + a1 b) (fun _ => 0) .non (.sc .non) (fun b => by have := la b; (try dsimp only); omega) Zv (rl.app (.cons rx (.nil (fun _ => 0)) fun b => by simp)) (.sc _ _)
         have z := Z1 (m1 := fun _ => 0) g (g1.re fun b => by simp) (st1.drop (fun b => by simp) g1.le) G S
         exact ⟨_, ws, y, rfl, rfl, n, by rw [rl.len]; exact hl, q _ _ Hs1 _ _ G (z.2.1.drop (fun b => by simp) z.1.le) R SS⟩
      . cases hf
    . cases hf
  . cases ec
end
end T
namespace L2
open PySem PySem.Spec PyProof.Rows
section
variable {prog : Program} {w : World} {A : Around} {E : Value -> Shared -> Prop} {s : Shared}
theorem ZnK {it a : Addr} {us : Array Value} (ne : a ≠ it) : ∀ (m j : Nat) (s : Shared) (Q : List Value -> Shared -> Prop), s.heap.IsListIter it a j -> s.heap.IsList a us -> j + m <= us.size ->
 (∀ g, Heap.IsListIter g it a (j + m) -> Heap.SameBut it s.heap g -> Q ((us.toList.drop j).take m) { s with heap := g }) -> wpAny (model prog w) A (draw (.ref it) m) Q E s
 | 0, j, s, Q, st, _, _, q => wpAny_pure (by simpa using q s.heap st (Heap.SameBut.refl ..))
 | m + 1, j, s, Q, st, hl, le, q => by
  have lt : j < us.size := by omega
  refine wpAny_bind (wpAny_pyNext_list_item st hl (x := us[j]) (by simp [lt]) fun g1 st1 k1 => ?_)
  refine wpAny_bind (wpAny_holding (ZnK ne m (j + 1) _ _ st1 (hl.extBut k1.extBut ne) (by omega) fun g2 st2 k2 => wpAny_pure ?_))
  have z := q g2 (by rw [show j + (m + 1) = j + 1 + m by omega]; exact st2) (k1.trans k2)
  rw [show us.toList.drop j = us[j] :: us.toList.drop (j + 1) by simp [List.drop_eq_getElem_cons, lt], List.take_succ_cons] at z
  exact z
theorem Zo6 {a : Addr} {us : Array Value} {Q : List Value -> Shared -> Prop} (hh : A.handled = none) (hl : s.heap.IsList a us)
 (q : ∀ g, Heap.ExtBut s.heap.objs.size s.heap g -> Q us.toList { s with heap := g }) : wpAny (model prog w) A (unpackItems (.ref a) us.size none) Q E s := by
 have ne : a ≠ s.heap.objs.size := Nat.ne_of_lt (by obtain ⟨o, e, _⟩ := hl; exact Heap.lt_size e)
 unfold unpackItems
 refine wpAny_bind (?_ : wpAny _ _ _ _ _ _)
 unfold notIterableAtAll
 refine wpAny_bind (wpAny_specialOf hl.typeIs slot_list_iter.lookup (wpAny_pure ?_))
 simp only [if_false, Bool.false_eq_true]
 refine wpAny_bind (wpAny_holding (wpAny_pyIter_list hl (wpAny_bind (wpAny_holding (ZnK ne us.size 0 _ _ ⟨_, Heap.get?_push_size _ rfl, rfl, rfl⟩ (hl.push _) (by omega) fun g1 st1 k1 => ?_)))))
 rw [show List.take us.size (List.drop 0 us.toList) = us.toList from by rw [List.drop_zero, List.take_of_length_le (by simp)], if_neg (by simp)]
 refine wpAny_bind (wpAny_holding (wpAny_pyNext_list_end hh st1 ((hl.push _).extBut k1.extBut ne) (by simp) fun g2 k2 => ?_))
 simp only [if_false, Bool.false_eq_true, Option.isSome_none]
 exact wpAny_pure (q g2 fun b o hb e => k2 b o hb (k1.extBut b o hb (Heap.get?_push_of_some _ e)))
theorem Zo7 {env : Env} {es : List Expr} {k : Nat} {p : Pos} {a : Addr} {us : Array Value} {Q : Unit -> Shared -> Prop} (hh : A.handled = none) (hl : s.heap.IsList a us) (hn : (assignEach es env).length = us.size) (hst : (assignEach es env).findIdx? (·.1) = none)
 (q : ∀ g, Heap.ExtBut s.heap.objs.size s.heap g -> wpAny (model prog w) A (assignInOrder ((assignEach es env).map (·.2)) us.toList) Q E { s with heap := g }) : wpAny (model prog w) A (assign (.Tuple es k p) env (.ref a)) Q E s := by
 rw [assign_Tuple]
 refine wpAny_bind (wpAny_standAt ?_)
 unfold unpack
 rw [hn, hst]
 exact wpAny_bind (wpAny_holding (Zo6 hh hl q))
end
noncomputable def gSeq (K : Fg) (n : Nat) (t : TGs) : TG := fun v σ H Q => ∃ a xs, v = .ref a /\ (SqT K H a xs \/ SqL K H a xs) /\ xs.length = n /\ t xs σ H Q
theorem ZlY {X : Cx} {pos : Pos} {es : List Expr} {k : Nat} {t : TGs} {n : Nat} (hc : X.calm = true) (h : PGs X es t)
 (hn : (assignEach es X.env).length = n := by rfl) (hst : (assignEach es X.env).findIdx? (·.1) = none := by rfl) : PG X (.Tuple es k pos) (gSeq X.K n t) := by
 intro pins s σ H v u Q I r hw
 obtain ⟨a, xs, e1, hq, hl, hw⟩ := hw
 rcases hq with hq | hq
 . exact ZpD hc h hn hst pins s σ H v u Q I r ⟨a, xs, e1, hq, hl, hw⟩
 . subst e1
   cases r
   obtain ⟨its, rv, ht, hz⟩ := I.list hq
   refine Zo7 (I.ok.hd hc) ht.isList (by simp [hn, <- hl, rv.length]) hst fun h' hx => ?_
   have I1 : Inv X pins σ H { s with heap := h' } := I.kept (t' := s.toks) fun b o e => hx b o (Nat.ne_of_lt (Heap.lt_size e)) e
   exact h pins _ σ H xs _ Q I1 (by simpa using rv) hw
end L2
namespace T
open PySem PySem.Spec L2
def Keeps (lk : Nat -> Bool) (σ σ' : St) : Prop := ∀ i, lk i = true -> σ'[i]? = σ[i]?
theorem Keeps.refl (lk : Nat -> Bool) (σ : St) : Keeps lk σ σ := fun _ _ => rfl
theorem Keeps.trans {lk : Nat -> Bool} {σ σ1 σ2 : St} (a : Keeps lk σ σ1) (b : Keeps lk σ1 σ2) : Keeps lk σ σ2 := fun i h => (b i h).trans (a i h)
def Post (K : Fg) (lk : Nat -> Bool) (E : Ends) (σ : St) (H Hs : Hp) (M : Bud) (f : Fl) (δ' : List D) : Prop := match f with
 | .nx => ∀ (σ' : St) (H' Hs' : Hp) (M' : Bud), Keeps lk σ σ' -> Good H' Hs' M' -> Stp H Hs M H' Hs' M' -> RepS K H' Hs' σ' δ' M' -> E.nx σ' H'
 | .bk => ∀ (σ' : St) (H' Hs' : Hp) (M' : Bud), Keeps lk σ σ' -> Good H' Hs' M' -> Stp H Hs M H' Hs' M' -> RepS K H' Hs' σ' δ' M' -> E.bk σ' H'
 | .ct => ∀ (σ' : St) (H' Hs' : Hp) (M' : Bud), Keeps lk σ σ' -> Good H' Hs' M' -> Stp H Hs M H' Hs' M' -> RepS K H' Hs' σ' δ' M' -> E.ct σ' H'
 | .rt d => ∀ (v : V) (σ' : St) (H' Hs' : Hp) (m M' : Bud), Keeps lk σ σ' -> Good H' Hs' (fun b => m b + M' b) -> Stp H Hs M H' Hs' (fun b => m b + M' b) -> Rep K H' Hs' v d m -> RepS K H' Hs' σ' δ' M' -> E.rt v H'
def tS (K : Fg) (lk : Nat -> Bool) (c : M Fl) : TS := fun E σ H => ∃ (δ : List D) (Hs : Hp) (M : Bud) (f : Fl) (δ' : List D), Good H Hs M /\ RepS K H Hs σ δ M /\ c δ = .ok (f, δ') /\ Post K lk E σ H Hs M f δ'
theorem Post.ahead {K : Fg} {lk : Nat -> Bool} {E : Ends} {σ σ1 : St} {H Hs H1 Hs1 : Hp} {M M1 : Bud} {f : Fl} {δ' : List D} (k : Keeps lk σ σ1) (g : Good H Hs M) (g1 : Good H1 Hs1 M1) (st : Stp H Hs M H1 Hs1 M1) (h : Post K lk E σ H Hs M f δ') : Post K lk E σ1 H1 Hs1 M1 f δ' := by
 have tr : ∀ {H' Hs' : Hp} {M' : Bud}, Good H' Hs' M' -> Stp H1 Hs1 M1 H' Hs' M' -> Stp H Hs M H' Hs' M' := fun {H' Hs' M'} g' st' => by
  have z := Z1 (m1 := fun _ => 0) g (g1.re fun b => by simp) (st.drop (fun b => by simp) g1.le) g' st'
  exact z.2.1.drop (fun b => by simp) z.1.le
 cases f with
 | nx => exact fun σ' H' Hs' M' k' g' st' r => h σ' H' Hs' M' (k.trans k') g' (tr g' st') r
 | bk => exact fun σ' H' Hs' M' k' g' st' r => h σ' H' Hs' M' (k.trans k') g' (tr g' st') r
 | ct => exact fun σ' H' Hs' M' k' g' st' r => h σ' H' Hs' M' (k.trans k') g' (tr g' st') r
 | rt d => exact fun v σ' H' Hs' m M' k' g' st' rv r => h v σ' H' Hs' m M' (k.trans k') g' (tr g' st') rv r
section
variable {X : Cx} {e a b c o : Expr} {st : Stmt} {rest : List Stmt} {pos pos' : Pos} {lk : Nat -> Bool} {i : Nat} {x : Str}
theorem PS.imp {t t' : TS} (h : PS X st t) (w : ∀ E σ H, t' E σ H -> t E σ H) : PS X st t' := fun pins s σ H E I q => h pins s σ H E I (w E σ H q)
theorem PSs.imp {t t' : TS} (h : PSs X rest t) (w : ∀ E σ H, t' E σ H -> t E σ H) : PSs X rest t' := fun pins s σ H E I q => h pins s σ H E I (w E σ H q)
theorem Zx : PSs X [] (tS X.K lk (M.ret .nx)) := PSs.imp ZnX fun E σ H h => by
 obtain ⟨δ, Hs, M, f, δ', g, s, e, q⟩ := h
 have := Zi e
 cases this
 exact q σ H Hs M (Keeps.refl _ _) g (Stp.refl _ _ _) s
theorem Zj {c r : M Fl} (h1 : PS X st (tS X.K lk c)) (h2 : PSs X rest (tS X.K lk r)) : PSs X (st :: rest) (tS X.K lk (seqL c r)) := PSs.imp (Zm4 h1 h2) fun E σ H h => by
 obtain ⟨δ, Hs, M, f, δ', g, s, e, q⟩ := h
 obtain ⟨f1, δ1, e1, e2⟩ := Zc e
 refine ⟨δ, Hs, M, f1, δ1, g, s, e1, ?_⟩
 cases f1 with
 | nx => exact fun σ' H' Hs' M' k g' st' r => ⟨δ1, Hs', M', f, δ', g', r, e2, q.ahead k g g' st'⟩
 | bk => have := Zi e2; cases this; exact q
 | ct => have := Zi e2; cases this; exact q
 | rt d => have := Zi e2; cases this; exact q
theorem Zf6 : PS X st (tS X.K lk stk) := fun pins s σ H E I ⟨δ, Hs, M, f, δ', g, _, e, q⟩ => by cases e
theorem ZhL {c : M D} (he : PE X e (tM X.K c)) (hs : swapsWith e none pos.line X.env = pure false := by rfl) : PS X (.Expr e pos) (tS X.K lk (c.bnd fun _ => M.ret .nx)) := PS.imp (ZnY he hs) fun E σ H h => by
 obtain ⟨δ, Hs, M, f, δ', g, s, e, q⟩ := h
 obtain ⟨d, δ1, e1, e2⟩ := Zc e
 have := Zi e2
 cases this
 exact ⟨δ, Hs, M, d, _, g, s, e1, fun v H' Hs' m M' g' st' r s' => q σ H' Hs' M' (Keeps.refl _ _) g'.re (st'.drop (fun b => by omega) g'.le) s'⟩
theorem ZM {c : M D} (he : PE X e (tM X.K c)) : PS X (.Return (some e) pos) (tS X.K lk (c.bnd fun d => M.ret (.rt d))) := PS.imp (ZpC he) fun E σ H h => by
 obtain ⟨δ, Hs, M, f, δ', g, s, e, q⟩ := h
 obtain ⟨d, δ1, e1, e2⟩ := Zc e
 have := Zi e2
 cases this
 exact ⟨δ, Hs, M, d, _, g, s, e1, fun v H' Hs' m M' g' st' r s' => q v σ H' Hs' m M' (Keeps.refl _ _) g' st' r s'⟩
theorem Zhl (h : PE X e (tVar i)) : PE X e (tM X.K (movV i)) := PE.imp h fun σ H Q ⟨δ, Hs, M, d, δ', g, s, e, q⟩ => by
 unfold movV at e
 split at e
 . rename_i u hd
   cases e
   obtain ⟨v, m1, m2, e3, r, _⟩ := s.slot hd (by simp)
   cases r
   exact ⟨u, e3, q u H Hs (fun _ => 0) M (Zc3 g) (stp0 H Hs M) (.sc _ _) s⟩
 . rename_i k oo ds hd
   cases e
   obtain ⟨v, m1, m2, e3, r, l, f⟩ := s.slot hd (by simp)
   have z := f H Hs (some v) .hole (fun _ => 0) (Same.refl _) (fun _ _ _ => rfl) (.inl rfl)
   rw [ZaU e3] at z
   exact ⟨v, e3, q v H Hs m1 m2 (g.re fun b => by have := l b; omega) ((Stp.refl H Hs M).drop (fun b => by have := l b; omega) g.le) r (z.mono fun b => by simp)⟩
 . cases e
theorem Zdp {cc : M Bool} {ca cb : M Fl} {A B : List Stmt} (hc : PT X c (tT X.K cc)) (ha : PSs X A (tS X.K lk ca)) (hb : PSs X B (tS X.K lk cb)) : PS X (.If c A B pos) (tS X.K lk (cc.bnd fun t => if t then ca else cb)) := PS.imp (Zr3 hc ha hb) fun E σ H h => by
 obtain ⟨δ, Hs, M, f, δ', g, s, e, q⟩ := h
 obtain ⟨t, δ1, e1, e2⟩ := Zc e
 refine ⟨δ, Hs, M, t, δ1, g, s, e1, fun H' Hs' M' g' st' s' => ?_⟩
 cases t with
 | true => exact ⟨δ1, Hs', M', f, δ', g', s', e2, q.ahead (Keeps.refl _ _) g g' st'⟩
 | false => exact ⟨δ1, Hs', M', f, δ', g', s', e2, q.ahead (Keeps.refl _ _) g g' st'⟩
theorem ZcT {K : Fg} {H Hs : Hp} {σ : St} {δ : List D} {m M : Bud} {v : V} {d : D} (s : RepS K H Hs σ δ M) (hi : i < δ.length) (r : Rep K H Hs v d m) : RepS K H Hs (σ.set i (some v)) (δ.set i d) (fun b => m b + M b) := by
 obtain ⟨o, m1, m2, e1, q, l, f⟩ := s.focus (List.getElem?_eq_getElem hi)
 exact (f (RepO K H Hs) (some v) d m (fun a d m' _ q => q) (.inr ⟨v, rfl, r⟩)).mono fun b => by have := l b; (try dsimp only); omega
theorem Zfr {δ δ' : List D} {d : D} {u : Unit} (h : asgN lk i d δ = .ok (u, δ')) : i < δ.length /\ lk i = false /\ δ' = δ.set i d := by
 unfold asgN at h
 split at h
 . rename_i hc
   simp only [Bool.and_eq_true, decide_eq_true_eq, Bool.not_eq_true'] at hc
   cases h
   exact ⟨hc.1, hc.2, rfl⟩
 . cases h
theorem Zcn {σ : St} {v : Option V} (h : lk i = false) : Keeps lk σ (σ.set i v) := fun j hj => by
 have : i ≠ j := fun q => by subst q; rw [h] at hj; cases hj
 rw [List.getElem?_set_ne this]
theorem Zqt {c : M D} (hN : X.N.Nodup) (hi : X.N[i]? = some x) (hx : Loc X.env.scope x) (he : PE X e (tM X.K c)) (hs : swapsWith e (some (.Name x pos')) pos.line X.env = pure false := by rfl)
 (hf : X.fn x = true \/ X.env.scope.names.lookup x = some .local := by first | exact .inl rfl | exact .inr rfl | assumption) :
 PS X (.Assign [.Name x pos'] e pos) (tS X.K lk (c.bnd fun d => (asgN lk i d).bnd fun _ => M.ret .nx)) := PS.imp (ZpF hN hi hx he hs hf) fun E σ H h => by
 obtain ⟨δ, Hs, M, f, δ', g, s, e, q⟩ := h
 obtain ⟨d, δ1, e1, e2⟩ := Zc e
 obtain ⟨u, δ2, e3, e4⟩ := Zc e2
 have := Zi e4
 cases this
 obtain ⟨h1, h2, rfl⟩ := Zfr e3
 exact ⟨δ, Hs, M, d, δ1, g, s, e1, fun v H' Hs' m M' g' st' r s' => q _ H' Hs' _ (Zcn h2) g' st' (ZcT s' h1 r)⟩
end
end T
namespace T
open PySem PySem.Spec L2
noncomputable def gNs : List Nat -> TGs
 | [] => gNil
 | i :: is => Zn5 (Zfc i) (gNs is)
theorem Zg2 {K : Fg} {H Hs : Hp} {lk : Nat -> Bool} : ∀ {is : List Nat} {ds : List D} {vs : List V} {σ : St} {δ δ' : List D} {m M : Bud} {u : Unit} {Q : St -> Hp -> Prop}, ZcO lk is ds δ = .ok (u, δ') -> RepL K H Hs vs ds m -> RepS K H Hs σ δ M ->
 (∀ σ', Keeps lk σ σ' -> RepS K H Hs σ' δ' (fun b => m b + M b) -> Q σ' H) -> vs.length = is.length /\ gNs is vs σ H Q
 | [], [], _, σ, δ, δ', m, M, u, Q, e, .nil _, s, q => by
  have := Zi e
  cases this
  exact ⟨rfl, rfl, q σ (Keeps.refl _ _) (s.mono fun b => by omega)⟩
 | [], _ :: _, _, _, _, _, _, _, _, _, e, _, _, _ => by cases e
 | _ :: _, [], _, _, _, _, _, _, _, _, e, _, _, _ => by cases e
 | i :: is, d :: ds, _, σ, δ, δ', m, M, u, Q, e, .cons (v := v) (vs := vs) (m1 := m1) (m2 := m2) x y l, s, q => by
  obtain ⟨u1, δ1, e1, e2⟩ := Zc e
  obtain ⟨h1, h2, rfl⟩ := Zfr e1
  obtain ⟨hl, hq⟩ := Zg2 (Q := Q) e2 y (ZcT s h1 x) fun σ' k r => q σ' ((Zcn h2).trans k) (r.mono fun b => by have := l b; (try dsimp only); omega)
  exact ⟨by rw [List.length_cons, List.length_cons, hl], v, vs, rfl, hq⟩
section
variable {X : Cx} {e o k : Expr} {es : List Expr} {pos pos' : Pos} {lk : Nat -> Bool} {i j : Nat} {is : List Nat} {x : Str}
theorem Zhm : PGs X [] (gNs []) := ZnZ
theorem ok_g (hN : X.N.Nodup) (hi : X.N[i]? = some x) (hx : Loc X.env.scope x) (hr : PGs X es (gNs is)) (hf : X.fn x = true \/ X.env.scope.names.lookup x = some .local := by first | exact .inl rfl | exact .inr rfl | assumption)
 (hs : (assignEach (.Name x pos :: es) X.env).map (·.2) = assign (.Name x pos) X.env :: (assignEach es X.env).map (·.2) := by rfl) : PGs X (.Name x pos :: es) (gNs (i :: is)) := Zm5 (Zkr hN hi hx hf) hr hs
theorem Zo8 {K : Fg} {H Hs : Hp} {σ : St} {δ δ' : List D} {m M : Bud} {x : V} {w : W} {u : Unit} {Q : St -> Hp -> Prop} (v : View K H Hs x w m) (s : RepS K H Hs σ δ M) (e : unpM lk is w δ = .ok (u, δ'))
 (q : ∀ σ', Keeps lk σ σ' -> RepS K H Hs σ' δ' (fun b => m b + M b) -> Q σ' H) : gSeq K is.length (gNs is) x σ H Q := by
 unfold unpM at e
 split at e
 . cases v with
   | nd n r =>
    obtain ⟨hl, hq⟩ := Zg2 e r s q
    exact ⟨_, _, rfl, .inl (.inl (.inl n)), hl, hq⟩
 . cases v with
   | nd n r =>
    obtain ⟨hl, hq⟩ := Zg2 e r s q
    exact ⟨_, _, rfl, .inr (.inl (.inl n)), hl, hq⟩
 . cases e
theorem Zqu {ca : M Op} (hc : X.calm = true) (he : PE X e (tP X.K ca)) (hg : PGs X es (gNs is)) (hn : (assignEach es X.env).length = is.length := by rfl) (hst : (assignEach es X.env).findIdx? (·.1) = none := by rfl)
 (hs : swapsWithSole [.Tuple es j pos'] e pos.line X.env = pure false := by rfl) (hw : swappedStores [.Tuple es j pos'] e X.env = pure none := by rfl)
 (h1 : (assignEach [.Tuple es j pos'] X.env).map (·.2) = [assign (.Tuple es j pos') X.env] := by rfl) :
 PS X (.Assign [.Tuple es j pos'] e pos) (tS X.K lk ((ca.bnd view).bnd fun w => (unpM lk is w).bnd fun _ => M.ret .nx)) := PS.imp (Zl3 he (ZlY hc hg hn hst) hs hw h1) fun E σ H h => by
 obtain ⟨δ, Hs, M, f, δ', g, s, ea, q⟩ := h
 obtain ⟨w, δ2, eb, ec⟩ := Zc ea
 obtain ⟨p, δ1, e1, e2⟩ := Zc eb
 obtain ⟨u, δ3, e3, e4⟩ := Zc ec
 have := Zi e4
 cases this
 refine ⟨δ, Hs, M, p, δ1, g, s, e1, fun x H2 Hs2 m1 M2 g2 st2 r1 s2 => ?_⟩
 obtain ⟨Hs3, M3, g3, st3, v1, s3⟩ := ZbH (B := m1) g2 s2 r1 e2
 have z := Z1 (m1 := fun _ => 0) g (g2.re fun b => by simp) (st2.drop (fun b => by simp) g2.le) g3 st3
 exact Zo8 v1 s3 e3 fun σ' kk r => q σ' H2 Hs3 _ kk g3 (z.2.1.drop (fun b => by simp) z.1.le) r
theorem RepL.set {K : Fg} {H Hs : Hp} {vs : List V} {ds : List D} {m m1 : Bud} {n : Nat} {v : V} {d d0 : D} (r : RepL K H Hs vs ds m) (hn : ds[n]? = some d0) (x : Rep K H Hs v d m1) : RepL K H Hs (vs.set n v) (ds.set n d) (fun b => m b + m1 b) := by
 obtain ⟨a, n1, n2, e1, q, l, f⟩ := r.sep.focus hn
 exact ((f (Rep K H Hs) v d m1 (fun a d m' _ q => q) x).mono fun b => by have := l b; (try dsimp only); omega).repL
theorem Zk8 {K : Fg} {H Hs : Hp} {σ : St} {δ δ' : List D} {M : Bud} {p : Op} (s : RepS K H Hs σ δ M) (h : ZaG i δ = .ok (p, δ')) : δ' = δ /\ ∃ v, σ[i]? = some (some v) := by
 unfold ZaG at h
 split at h
 . rename_i hd
   cases h
   obtain ⟨v, _, _, e, _⟩ := s.slot hd (by simp)
   exact ⟨rfl, v, e⟩
 . rename_i hd
   cases h
   obtain ⟨v, _, _, e, _⟩ := s.slot hd (by simp)
   exact ⟨rfl, v, e⟩
 . cases h
theorem Zqv {c : M D} {ck : M Op} (ho : PE X o (tVar i)) (hk : PE X k (tP X.K ck)) (he : PE X e (tM X.K c))
 (ha : ∀ v, assign (.Subscript o k pos') X.env v = (do
  let ov <- holding [v] (eval o X.env)
  let iv <- holding [v, ov] (eval k X.env)
  standAt pos'
  holding [v, ov, iv] (setItem ov iv v)
  release [v, ov, iv] []) := by intro _; rfl)
 (hs : swapsWithSole [.Subscript o k pos'] e pos.line X.env = pure false := by rfl) (hw : swappedStores [.Subscript o k pos'] e X.env = pure none := by rfl)
 (h1 : (assignEach [.Subscript o k pos'] X.env).map (·.2) = [assign (.Subscript o k pos') X.env] := by rfl) :
 PS X (.Assign [.Subscript o k pos'] e pos) (tS X.K lk (c.bnd fun d => (ZaG i).bnd fun _ => (ck.bnd view).bnd fun w => (modS i (setD w d)).bnd fun _ => M.ret .nx)) :=
 PS.imp (Zl3 he (ZpE ho hk ZmC ha) hs hw h1) fun E σ H h => by
 obtain ⟨δ, Hs, M, f, δ', g, s, ea, q⟩ := h
 obtain ⟨d, δ1, e1, eb⟩ := Zc ea
 obtain ⟨p0, δ2, e2, ec⟩ := Zc eb
 obtain ⟨w, δ3, e3, ed⟩ := Zc ec
 obtain ⟨p, δ4, e4, e5⟩ := Zc e3
 obtain ⟨r0, δ5, e6, e7⟩ := Zc ed
 have := Zi e7
 cases this
 obtain ⟨kk, ds0, k', ds', hi, hf, rfl⟩ := ZhK e6
 refine ⟨δ, Hs, M, d, δ1, g, s, e1, fun v H1 Hs1 m1 M1 g1 st1 r1 s1 => ?_⟩
 obtain ⟨rfl, vo, ho⟩ := Zk8 s1 e2
 refine ⟨vo, ho, δ2, Hs1, M1, p, δ4, g1.re, s1, e4, fun y H2 Hs2 m2 M2 g2 st2 r2 s2 => ?_⟩
 obtain ⟨G2, S2, k2⟩ := Z1 g g1 st1 g2 st2
 have r1' := r1.frame st2.grow k2
 obtain ⟨Hs3, M3, g3, st3, v3, s3⟩ := ZbH (B := fun b => m1 b + m2 b) (G2.re fun b => by (try dsimp only); omega) s2 r2 e5
 have r1'' := r1'.frame (H' := H2) st3.grow fun _ _ _ => rfl
 obtain ⟨p1, us, m', n2, e8, n, rl, le, fin⟩ := modL g3 s3 hi
 rw [ho] at e8
 cases e8
 unfold setD at hf
 split at hf
 . split at hf
   . rename_i nn
     simp only [Option.map_eq_some_iff] at hf
     obtain ⟨jj, hj, hf⟩ := hf
     cases hf
     cases v3
     have hl := rl.len
     have hjj : ixN us.length nn = some jj := by rw [hl]; exact hj
     have hlt : jj < ds0.length := by
      unfold ixN' at hj
      split at hj
      . split at hj
        . cases hj; omega
        . cases hj
      . split at hj
        . cases hj; omega
        . cases hj
     obtain ⟨G, S, R, SS⟩ := fin (.lst (us.set jj v)) .lst (us.set jj v) (ds0.set jj d) (fun b => m' b + m1 b) (fun _ => 0) .non (.sc .non) (fun b => by (try dsimp only); omega) Zv (rl.set (List.getElem?_eq_getElem hlt) r1'') (.sc _ _)
     have S2' : Stp H Hs M H2 Hs2 (fun b => m1 b + m2 b + M2 b) := S2.drop (fun b => by omega) G2.le
     have G2' : Good H2 Hs2 (fun b => m1 b + m2 b + M2 b) := G2.re fun b => by omega
     have z3 := Z1 (m1 := fun _ => 0) g (G2'.re fun b => by simp) (S2'.drop (fun b => by simp) G2'.le) g3 st3
     have S3 : Stp H Hs M H2 Hs3 (fun b => m1 b + m2 b + M3 b) := z3.2.1.drop (fun b => by simp) z3.1.le
     have z := Z1 (m1 := fun _ => 0) g (g3.re fun b => by simp) (S3.drop (fun b => by simp) g3.le) G S
     exact ⟨_, us, nn, jj, rfl, rfl, n, hjj, q σ _ Hs3 _ (Keeps.refl _ _) (G.re fun b => by (try dsimp only); omega) ((z.2.1.drop (fun b => by simp) z.1.le).drop (fun b => by (try dsimp only); omega) G.le) SS⟩
   . cases hf
 . cases hf
end
end T
namespace T
open PySem PySem.Spec L2
structure WalkV (J : It) (vs : List V) (B : Bud) (Pp : Hp -> Hp -> Prop) : Prop where
 stay : ∀ {H Hs H' Hs' : Hp}, Pp H Hs -> Same Hs Hs' -> (∀ b, B b ≥ 1 -> H b ≠ none -> H' b = H b) -> Pp H' Hs'
 go : ∀ {H Hs : Hp} {i : Nat} {v : V}, Same Hs H -> Pp H Hs -> vs[i]? = some v -> J.go i H
 yld : ∀ {H Hs H' : Hp} {i : Nat} {x v : V}, Same Hs H -> Pp H Hs -> vs[i]? = some v -> J.yld i H x H' -> H' = H /\ x = v
 stop : ∀ {H Hs : Hp} {i : Nat}, Same Hs H -> Pp H Hs -> vs.length <= i -> J.stop i H
def Grow (H Hs H' Hs' : Hp) : Prop := (H' = H /\ Hs' = Hs) \/ ∃ A o, H A = none /\ H' = upd H A o /\ Hs' = upd Hs A o
theorem Grow.same {H Hs H' Hs' : Hp} (w : Grow H Hs H' Hs') (g : Same Hs H) : Same Hs Hs' /\ (∀ b, H b ≠ none -> H' b = H b) /\ Same Hs' H' := by
 rcases w with ⟨rfl, rfl⟩ | ⟨A, o, h, rfl, rfl⟩
 . exact ⟨Same.refl _, fun _ _ => rfl, g⟩
 . have hs : Hs A = none := by
    cases q : Hs A with
    | none => rfl
    | some u => rw [g A u q] at h; cases h
   have ne : ∀ b u, Hs b = some u -> b ≠ A := fun b u e z => by subst z; rw [hs] at e; cases e
   refine ⟨fun b u e => ?_, fun b n => Zt fun z => n (by rw [z]; exact h), fun b u e => ?_⟩
   . rw [Zt (ne b u e)]; exact e
   . by_cases z : b = A
     . subst z; rw [Zv] at e ⊢; exact e
     . rw [Zt z] at e ⊢; exact g b u e
theorem Grow.good {H Hs H' Hs' : Hp} {M : Bud} (w : Grow H Hs H' Hs') (g : Good H Hs M) : Good H' Hs' M := by
 obtain ⟨s1, s2, s3⟩ := w.same g.sub
 refine ⟨s3, g.le, fun b h => ?_, fun b h => ?_⟩
 . rcases w with ⟨rfl, rfl⟩ | ⟨A, o, n, rfl, rfl⟩
   . exact g.ne b h
   . rw [Zt fun z => g.has b h (by rw [z]; exact n)]; exact g.ne b h
 . rw [s2 b (g.has b h)]; exact g.has b h
theorem Grow.stp {H Hs H' Hs' H0 Hs0 : Hp} {M M0 : Bud} (w : Grow H Hs H' Hs') (g : Good H Hs M) (t : Stp H0 Hs0 M0 H Hs M) : Stp H0 Hs0 M0 H' Hs' M := by
 obtain ⟨s1, s2, s3⟩ := w.same g.sub
 refine ⟨fun b o e z => ?_, t.own, t.grow.trans s1, fun b n n' => ?_, fun b n => ?_⟩
 . have e1 := t.keep b o e z
   rw [s2 b (by rw [e1]; simp)]; exact e1
 . by_cases q : Hs b = none
   . rcases w with ⟨rfl, rfl⟩ | ⟨A, o, h, rfl, rfl⟩
     . exact absurd q n'
     . by_cases z : b = A
       . subst z
         cases y : H0 b with
         | none => exact .inr rfl
         | some u => exact absurd h (t.stay b (by rw [y]; simp))
       . rw [Zt z] at n'; exact absurd q n'
   . exact t.shr b n q
 . have := t.stay b n
   rw [s2 b this]; exact this
structure Walk (K : Fg) (J : It) (items : List D) (B : Bud) (Pp : Hp -> Hp -> Prop) : Prop where
 stay : ∀ {H Hs H' Hs' : Hp}, Pp H Hs -> Same Hs Hs' -> (∀ b, B b ≥ 1 -> H b ≠ none -> H' b = H b) -> Pp H' Hs'
 go : ∀ {H Hs : Hp} {i : Nat}, Same Hs H -> Pp H Hs -> i < items.length -> J.go i H
 yld : ∀ {H Hs H' : Hp} {i : Nat} {x : V} {d : D}, Same Hs H -> Pp H Hs -> items[i]? = some d -> J.yld i H x H' -> ∃ Hs', Grow H Hs H' Hs' /\ Rep K H' Hs' x d (fun _ => 0)
 stop : ∀ {H Hs : Hp} {i : Nat}, Same Hs H -> Pp H Hs -> items.length <= i -> J.stop i H
theorem WalkV.w {K : Fg} {J : It} {vs : List V} {items : List D} {B : Bud} {Pp : Hp -> Hp -> Prop} (w : WalkV J vs B Pp) : Walk K J items B (fun H Hs => Pp H Hs /\ RepL K H Hs vs items (fun _ => 0)) where
 stay := fun h g k => ⟨w.stay h.1 g k, h.2.frame g fun b hb => absurd hb (by simp)⟩
 go := fun {H Hs i} g h l => by
  have e := h.2.len
  exact w.go g h.1 (List.getElem?_eq_getElem (show i < vs.length by omega))
 yld := fun {H Hs H' i x d} g h e y => by
  obtain ⟨v, m1, ev, rv, lv⟩ := h.2.at e
  obtain ⟨rfl, rfl⟩ := w.yld g h.1 ev y
  exact ⟨Hs, .inl ⟨rfl, rfl⟩, rv.mono lv⟩
 stop := fun {H Hs i} g h l => w.stop g h.1 (by have := h.2.len; omega)
def Held (K : Fg) (H Hs : Hp) (σ : St) : List (Nat × D) -> Bud -> Prop
 | [], _ => True
 | (i, d) :: r, m => ∃ (v : V) (m1 m2 : Bud), σ[i]? = some (some v) /\ Rep K H Hs v d m1 /\ Held K H Hs σ r m2 /\ ∀ b, m1 b + m2 b <= m b
theorem Held.frame {K : Fg} {H Hs H' Hs' : Hp} {σ : St} (g : Same Hs Hs') : ∀ {hs : List (Nat × D)} {m : Bud}, (∀ b, m b ≥ 1 -> H b ≠ none -> H' b = H b) -> Held K H Hs σ hs m -> Held K H' Hs' σ hs m
 | [], _, _, h => h
 | (i, d) :: r, m, k, ⟨v, m1, m2, e, x, y, l⟩ => ⟨v, m1, m2, e, x.frame g fun b hb => k b (by have := l b; omega), y.frame g fun b hb => k b (by have := l b; omega), l⟩
theorem Held.keeps {K : Fg} {H Hs : Hp} {σ σ' : St} {lk : Nat -> Bool} (k : Keeps lk σ σ') : ∀ {hs : List (Nat × D)} {m : Bud}, (∀ p ∈ hs, lk p.1 = true) -> Held K H Hs σ hs m -> Held K H Hs σ' hs m
 | [], _, _, h => h
 | (i, d) :: r, m, hl, ⟨v, m1, m2, e, x, y, l⟩ => ⟨v, m1, m2, (k i (hl (i, d) List.mem_cons_self)).trans e, x, y.keeps k fun p hp => hl p (List.mem_cons_of_mem _ hp), l⟩
theorem Zco {K : Fg} {H Hs : Hp} {σ : St} : ∀ {hs : List (Nat × D)} {m M : Bud} {δ δ' : List D} {u : Unit}, Zan hs δ = .ok (u, δ') -> Held K H Hs σ hs m -> RepS K H Hs σ δ M -> RepS K H Hs σ δ' (fun b => m b + M b)
 | [], m, M, δ, δ', u, e, h, s => by
  have := Zi e
  cases this
  exact s.mono fun b => by omega
 | (i, d) :: r, m, M, δ, δ', u, e, ⟨v, m1, m2, e1, x, y, l⟩, s => by
  have hi : i < δ.length := by
   have := s.length
   have := (List.getElem?_eq_some_iff.mp e1).1
   omega
  have z := ZcT s hi x
  rw [ZaU e1] at z
  exact (Zco (show Zan r (δ.set i d) = _ from e) y z).mono fun b => by have := l b; (try dsimp only); omega
noncomputable def tI (K : Fg) (ik : IK) (cs : M (List Op)) : TI := fun σ H R => ∃ (δ : List D) (Hs : Hp) (M : Bud) (h : List W × List (Nat × D)) (items : List D) (δ' : List D), Good H Hs M /\ RepS K H Hs σ δ M /\ (cs.bnd ZD) δ = .ok (h, δ') /\ itW ik h.1 = some items /\
 ∀ (J : It) (Pp : Hp -> Hp -> Prop) (H' Hs' : Hp) (B M' : Bud), Good H' Hs' (fun b => B b + M' b) -> Stp H Hs M H' Hs' (fun b => B b + M' b) -> RepS K H' Hs' σ δ' M' -> Held K H' Hs' σ h.2 B -> Walk K J items B Pp -> Pp H' Hs' -> R J H'
theorem PI.imp {X : Cx} {tg it : Expr} {w w' : TI} (h : PI X tg it w) (q : ∀ σ H R, w' σ H R -> w σ H R) : PI X tg it w' := fun pins s σ H R I z => h pins s σ H R I (q σ H R z)
def HW (K : Fg) (H Hs : Hp) (B : Bud) (v : V) : W -> Prop
 | .sc u => v = u
 | .nd k ds => ∃ a vs, v = .ref a /\ RepL K H Hs vs ds (fun _ => 0) /\ (Zf4 K Hs a vs k \/ (Zc1 K H a vs k /\ B a ≥ 1))
theorem ZhM {K : Fg} {H Hs : Hp} {σ : St} {δ δ' : List D} {m M : Bud} {p : Op} {v : V} {w : W × Option (Nat × D)} (g : Good H Hs (fun b => m b + M b)) (s : RepS K H Hs σ δ M) (r : RepP K H Hs σ v p m) (e : holdV p δ = .ok (w, δ')) :
 ∃ Hs' B M', Good H Hs' (fun b => B b + M' b) /\ Stp H Hs (fun b => m b + M b) H Hs' (fun b => B b + M' b) /\ RepS K H Hs' σ δ' M' /\ Held K H Hs' σ w.2.toList B /\ HW K H Hs' B v w.1 := by
 have dropM : ∀ {Hs' : Hp} {M' : Bud}, Good H Hs' M' -> Good H Hs' (fun b => (fun _ => 0) b + M' b) := fun g => g.re fun b => by simp
 cases p with
 | tmp d =>
  cases d with
  | hole => cases e
  | sc u =>
   have := Zi e
   cases this
   cases r
   exact ⟨Hs, fun _ => 0, M, g.re fun b => by simp, (Stp.refl H Hs _).drop (fun b => by simp) g.le, s, trivial, rfl⟩
  | node k o ds =>
   have := Zi e
   cases this
   have hsame := ZdM g (m := m) fun b => by omega
   have r2 := Rep.share hsame (ZfY (H := H) (Hs := Hs) (m := m)) r
   refine ⟨shH H Hs m, fun _ => 0, M, dropM g.share, (Stp.share g).drop (fun b => by simp) g.share.le, s.frame hsame fun _ _ _ => rfl, trivial, ?_⟩
   simp only [shr] at r2
   cases r2 with
   | shd n r3 => exact ⟨_, _, rfl, r3, .inl n⟩
 | late i =>
  have r : σ[i]? = some (some v) := r
  unfold holdV at e
  dsimp only at e
  split at e
  . rename_i u hi
    cases e
    obtain ⟨v', m1, m2, e1, q, l, f⟩ := s.slot hi (by simp)
    rw [r] at e1
    cases e1
    cases q
    exact ⟨Hs, fun _ => 0, M, g.re fun b => by simp, (Stp.refl H Hs _).drop (fun b => by simp) g.le, s, trivial, rfl⟩
  . rename_i k ds hi
    cases e
    obtain ⟨v', m1, m2, e1, q, l, f⟩ := s.slot hi (by simp)
    rw [r] at e1
    cases e1
    cases q with
    | shd n q => exact ⟨Hs, fun _ => 0, M, g.re fun b => by simp, (Stp.refl H Hs _).drop (fun b => by simp) g.le, s, trivial, _, _, rfl, q, .inl n⟩
  . rename_i k ds hi
    cases e
    obtain ⟨v', m1, m2, e1, q, l, f⟩ := s.slot hi (by simp)
    rw [r] at e1
    cases e1
    cases q with
    | @own a _ vs _ _ m' n q l' =>
     have g2 : Good H Hs (fun b => m' b + (one a b + m2 b)) := g.re fun b => by have := l b; have := l' b; omega
     have hsame := ZdM g2 (m := m') fun b => by omega
     have q2 := RepL.share hsame (ZfY (H := H) (Hs := Hs) (m := m')) q
     have st := Stp.share g2
     have z := f H (shH H Hs m') (some (.ref a)) .hole (fun _ => 0) hsame (fun _ _ _ => rfl) (.inl rfl)
     rw [ZaU r] at z
     refine ⟨shH H Hs m', one a, m2, g2.share, ⟨fun b o h _ => h, fun b h => ?_, st.grow, fun b h h' => ?_, fun b h => h⟩, z.mono fun b => by simp, ⟨_, one a, fun _ => 0, r, .own n q2 fun b => by simp, trivial, fun b => by simp⟩, _, _, rfl, q2, .inr ⟨n, by simp [one]⟩⟩
     . have h : one a b + m2 b = 1 := h
       have l0 : m b + M b <= 1 := g.le b
       have := l b
       have := l' b
       left
       show m b + M b = 1
       omega
     . rcases st.shr b h h' with z | z
       . have z : m' b + (one a b + m2 b) = 1 := z
         have l0 : m b + M b <= 1 := g.le b
         have := l b
         have := l' b
         left
         show m b + M b = 1
         omega
       . exact .inr z
  . cases e
theorem Zlk (lo : Int) (n : Nat) (B : Bud) : WalkV (Itr lo n) ((List.range n).map fun (k : Nat) => V.int (lo + k)) B (fun _ _ => True) where
 stay := fun _ _ _ => trivial
 go := fun {H Hs i v} _ _ h => by
  have := (List.getElem?_eq_some_iff.mp h).1
  simp only [List.length_map, List.length_range] at this
  exact this
 yld := fun {H Hs H' i x v} _ _ h y => by
  obtain ⟨e, y⟩ := y
  have := (List.getElem?_eq_some_iff.mp h).1
  simp only [List.length_map, List.length_range] at this
  rw [List.getElem?_map, List.getElem?_range this] at h
  simp only [Option.map_some, Option.some.injEq] at h
  exact ⟨e, y.trans h⟩
 stop := fun {H Hs i} _ _ h => by
  simp only [List.length_map, List.length_range] at h
  exact h
theorem Ziy {K : Fg} {a : Addr} {vs : List V} {B : Bud} : WalkV (Itl K a) vs B (fun H Hs => SqL K Hs a vs \/ (H a = some (.lst vs) /\ B a ≥ 1)) := by
 have sq : ∀ {H Hs : Hp}, Same Hs H -> (SqL K Hs a vs \/ (H a = some (.lst vs) /\ B a ≥ 1)) -> SqL K H a vs := fun g h => by
  rcases h with h | h
  . exact g.seq h
  . exact .inl (.inl h.1)
 refine ⟨fun h g k => ?_, fun g h e => ⟨vs, _, sq g h, e⟩, fun g h e y => ?_, fun g h e => ⟨vs, sq g h, e⟩⟩
 . rcases h with h | ⟨h, hb⟩
   . exact .inl (g.seq h)
   . exact .inr ⟨(k a hb (by rw [h]; simp)).trans h, hb⟩
 . obtain ⟨e1, y⟩ := y
   have := y vs (sq g h)
   rw [e] at this
   exact ⟨e1, (Option.some.inj this).symm⟩
theorem Zjm {K : Fg} {a : Addr} {vs : List V} {B : Bud} : WalkV (Itt K a) vs B (fun H Hs => SqT K Hs a vs \/ (H a = some (.tup vs) /\ B a ≥ 1)) := by
 have sq : ∀ {H Hs : Hp}, Same Hs H -> (SqT K Hs a vs \/ (H a = some (.tup vs) /\ B a ≥ 1)) -> SqT K H a vs := fun g h => by
  rcases h with h | h
  . exact Same.tupq' g h
  . exact .inl (.inl h.1)
 refine ⟨fun h g k => ?_, fun g h e => ⟨vs, _, sq g h, e⟩, fun g h e y => ?_, fun g h e => ⟨vs, sq g h, e⟩⟩
 . rcases h with h | ⟨h, hb⟩
   . exact .inl (Same.tupq' g h)
   . exact .inr ⟨(k a hb (by rw [h]; simp)).trans h, hb⟩
 . obtain ⟨e1, y⟩ := y
   have := y vs (sq g h)
   rw [e] at this
   exact ⟨e1, (Option.some.inj this).symm⟩
section
variable {X : Cx} {tg a b l : Expr} {ca cb : M Op} {pos p : Pos}
theorem Zll {c : M Op} {δ δ' : List D} {h : List W × List (Nat × D)} (e : ((c.bnd fun p => (M.ret ([] : List Op)).bnd fun ps => M.ret (p :: ps)).bnd ZD) δ = .ok (h, δ')) : ∃ p δ1 w, c δ = .ok (p, δ1) /\ holdV p δ1 = .ok (w, δ') /\ h = ([w.1], w.2.toList) := by
 obtain ⟨ps, δ1, e1, e2⟩ := Zc e
 obtain ⟨p, δ2, e3, e4⟩ := Zc e1
 obtain ⟨z, δ3, e5, e6⟩ := Zc e4
 have := Zi e5
 cases this
 have := Zi e6
 cases this
 obtain ⟨w, δ4, e7, e8⟩ := Zc e2
 obtain ⟨z, δ5, e9, e10⟩ := Zc e8
 have := Zi e9
 cases this
 have := Zi e10
 cases this
 exact ⟨p, δ1, w, e3, e7, by simp⟩
theorem Zga {K : Fg} {H Hs : Hp} : ∀ (l : List Int), RepL K H Hs (l.map V.int) (l.map fun i => D.sc (.int i)) (fun _ => 0)
 | [] => .nil _
 | i :: l => .cons (m1 := fun _ => 0) (m2 := fun _ => 0) (.sc _ _) (Zga l) fun b => by simp
theorem Zo9 {K : Fg} {H Hs : Hp} (lo hi : Int) : RepL K H Hs ((List.range (hi - lo).toNat).map fun (k : Nat) => V.int (lo + k)) (rng lo hi) (fun _ => 0) := by
 have z := Zga (K := K) (H := H) (Hs := Hs) ((List.range (hi - lo).toNat).map fun (k : Nat) => lo + k)
 rw [List.map_map, List.map_map] at z
 exact z
theorem Zfs (hg : Gl X "range") (hm : X.mg "range" = none) (ha : PE X a (tP X.K ca)) (hs : starEach [a] X.env = [(false, eval a X.env)] := by rfl) :
 PI X tg (.Call (.Name "range" p) [a] [] pos) (tI X.K .rng1 (ca.bnd fun p => (M.ret ([] : List Op)).bnd fun ps => M.ret (p :: ps))) := PI.imp (Zl6 hg hm (Zbg ha ZcA (by rw [hs]; rfl)) hs) fun σ H R h => by
 obtain ⟨δ, Hs, M, h, items, δ', g, s, e, ei, q⟩ := h
 obtain ⟨p, δ1, w, e1, e2, rfl⟩ := Zll e
 refine ⟨δ, Hs, M, p, δ1, g, s, e1, fun x H2 Hs2 m1 M2 g2 st2 r1 s2 => ?_⟩
 obtain ⟨Hs3, B, M3, g3, st3, s3, hh, hw⟩ := ZhM g2 s2 r1 e2
 have z := Z1 (m1 := fun _ => 0) g (g2.re fun b => by simp) (st2.drop (fun b => by simp) g2.le) g3 st3
 obtain ⟨w1, w2⟩ := w
 replace ei : Zlh _ = _ := ei
 unfold Zlh at ei
 split at ei
 rotate_left
 . cases ei
 rename_i n hx
 cases hx
 split at ei
 . rename_i hok
   cases ei
   obtain rfl := hw
   simp only [okR, Bool.and_eq_true, decide_eq_true_eq] at hok
   have hz : (n - 0).toNat = n.toNat := by omega
   refine ⟨n, rfl, hok.1, hok.2, ?_⟩
   have := Zo9 (K := X.K) (H := H2) (Hs := Hs3) 0 n
   rw [hz] at this
   exact q _ _ H2 Hs3 B M3 g3 (z.2.1.drop (fun b => by simp) z.1.le) s3 hh (Zlk 0 n.toNat B).w ⟨trivial, this⟩
 . cases ei
theorem Zhn {K : Fg} {H Hs : Hp} : ∀ (l : List Nat), RepL K H Hs (l.map fun c => V.str ⟨#[c]⟩) (l.map fun c => D.sc (.str ⟨#[c]⟩)) (fun _ => 0)
 | [] => .nil _
 | i :: l => .cons (m1 := fun _ => 0) (m2 := fun _ => 0) (.sc _ _) (Zhn l) fun b => by simp
theorem ZmW (x : Str) (B : Bud) : WalkV (Its x) (x.cps.toList.map fun c => V.str ⟨#[c]⟩) B (fun _ _ => True) where
 stay := fun _ _ _ => trivial
 go := fun {H Hs i v} _ _ h => by
  have := (List.getElem?_eq_some_iff.mp h).1
  have : i < x.cps.size := by simpa using this
  exact this
 yld := fun {H Hs H' i y v} _ _ h z => by
  obtain ⟨e, c, h1, h2⟩ := z
  refine ⟨e, ?_⟩
  rw [List.getElem?_map, Array.getElem?_toList, h1] at h
  simp only [Option.map_some, Option.some.injEq] at h
  exact h2.trans h
 stop := fun {H Hs i} _ _ h => by
  have h : x.cps.size <= i := by simpa using h
  exact h
theorem ZlZ (hl : PE X l (tP X.K ca)) : PI X tg l (tI X.K .val (ca.bnd fun p => (M.ret ([] : List Op)).bnd fun ps => M.ret (p :: ps))) := by
 intro pins st0 σ H R I hh0
 obtain ⟨δ, Hs, M, h, items, δ', g, s, e, ei, q⟩ := hh0
 obtain ⟨p, δ1, w, e1, e2, rfl⟩ := Zll e
 obtain ⟨w1, w2⟩ := w
 have core : ∀ (x : V) (H2 Hs2 : Hp) (m1 M2 : Bud), Good H2 Hs2 (fun b => m1 b + M2 b) -> Stp H Hs M H2 Hs2 (fun b => m1 b + M2 b) -> RepP X.K H2 Hs2 σ x p m1 -> RepS X.K H2 Hs2 σ δ1 M2 ->
  ∃ Hs3 B M3, Good H2 Hs3 (fun b => B b + M3 b) /\ Stp H Hs M H2 Hs3 (fun b => B b + M3 b) /\ RepS X.K H2 Hs3 σ δ' M3 /\ Held X.K H2 Hs3 σ w2.toList B /\ HW X.K H2 Hs3 B x w1 := fun x H2 Hs2 m1 M2 g2 st2 r1 s2 => by
  obtain ⟨Hs3, B, M3, g3, st3, s3, hh, hw⟩ := ZhM g2 s2 r1 e2
  have z := Z1 (m1 := fun _ => 0) g (g2.re fun b => by simp) (st2.drop (fun b => by simp) g2.le) g3 st3
  exact ⟨Hs3, B, M3, g3, z.2.1.drop (fun b => by simp) z.1.le, s3, hh, hw⟩
 cases w1 with
 | sc u =>
  cases u with
  | str z =>
   cases ei
   refine Zqh hl pins st0 σ H R I ⟨δ, Hs, M, p, δ1, g, s, e1, fun x H2 Hs2 m1 M2 g2 st2 r1 s2 => ?_⟩
   obtain ⟨Hs3, B, M3, g3, st3, s3, hh, hw⟩ := core x H2 Hs2 m1 M2 g2 st2 r1 s2
   exact ⟨z, hw, q _ _ H2 Hs3 B M3 g3 st3 s3 hh (ZmW z B).w ⟨trivial, Zhn _⟩⟩
  | _ => cases ei
 | nd k ds =>
  cases k with
  | lst =>
   cases ei
   refine Zks hl pins st0 σ H R I ⟨δ, Hs, M, p, δ1, g, s, e1, fun x H2 Hs2 m1 M2 g2 st2 r1 s2 => ?_⟩
   obtain ⟨Hs3, B, M3, g3, st3, s3, hh, a, vs, hx, hr, hn⟩ := core x H2 Hs2 m1 M2 g2 st2 r1 s2
   have hp : SqL X.K Hs3 a vs \/ (H2 a = some (.lst vs) /\ B a ≥ 1) := hn.elim (fun n => .inl (.inl (.inl n))) fun n => .inr n
   refine ⟨a, hx, ⟨vs, ?_⟩, q _ _ H2 Hs3 B M3 g3 st3 s3 hh Ziy.w ⟨hp, hr⟩⟩
   rcases hp with hp | hp
   . exact g3.sub.seq hp
   . exact .inl (.inl hp.1)
  | frl =>
   cases ei
   refine Zks hl pins st0 σ H R I ⟨δ, Hs, M, p, δ1, g, s, e1, fun x H2 Hs2 m1 M2 g2 st2 r1 s2 => ?_⟩
   obtain ⟨Hs3, B, M3, g3, st3, s3, hh, a, vs, hx, hr, hn⟩ := core x H2 Hs2 m1 M2 g2 st2 r1 s2
   have hp : SqL X.K Hs3 a vs \/ (H2 a = some (.lst vs) /\ B a ≥ 1) := hn.elim (fun n => .inl n) fun n => n.1.elim
   refine ⟨a, hx, ⟨vs, ?_⟩, q _ _ H2 Hs3 B M3 g3 st3 s3 hh Ziy.w ⟨hp, hr⟩⟩
   rcases hp with hp | hp
   . exact g3.sub.seq hp
   . exact .inl (.inl hp.1)
  | tup =>
   cases ei
   refine Zl5 hl pins st0 σ H R I ⟨δ, Hs, M, p, δ1, g, s, e1, fun x H2 Hs2 m1 M2 g2 st2 r1 s2 => ?_⟩
   obtain ⟨Hs3, B, M3, g3, st3, s3, hh, a, vs, hx, hr, hn⟩ := core x H2 Hs2 m1 M2 g2 st2 r1 s2
   have hp : SqT X.K Hs3 a vs \/ (H2 a = some (.tup vs) /\ B a ≥ 1) := hn.elim (fun n => .inl (.inl (.inl n))) fun n => .inr n
   refine ⟨a, hx, ⟨vs, ?_⟩, q _ _ H2 Hs3 B M3 g3 st3 s3 hh Zjm.w ⟨hp, hr⟩⟩
   rcases hp with hp | hp
   . exact Same.tupq' g3.sub hp
   . exact .inl (.inl hp.1)
  | ftp =>
   cases ei
   refine Zl5 hl pins st0 σ H R I ⟨δ, Hs, M, p, δ1, g, s, e1, fun x H2 Hs2 m1 M2 g2 st2 r1 s2 => ?_⟩
   obtain ⟨Hs3, B, M3, g3, st3, s3, hh, a, vs, hx, hr, hn⟩ := core x H2 Hs2 m1 M2 g2 st2 r1 s2
   have hp : SqT X.K Hs3 a vs \/ (H2 a = some (.tup vs) /\ B a ≥ 1) := hn.elim (fun n => .inl n) fun n => n.1.elim
   refine ⟨a, hx, ⟨vs, ?_⟩, q _ _ H2 Hs3 B M3 g3 st3 s3 hh Zjm.w ⟨hp, hr⟩⟩
   rcases hp with hp | hp
   . exact Same.tupq' g3.sub hp
   . exact .inl (.inl hp.1)
  | dic ks => cases ei
  | ins C fs => cases ei
  | exc ns fr fs => cases ei
end
end T
namespace T
open PySem PySem.Spec L2
noncomputable def gT (K : Fg) : Tg -> TG
 | .name i => Zfc i
 | .tup is => gSeq K is.length (gNs is)
theorem ZhN {K : Fg} {H Hs : Hp} {lk : Nat -> Bool} {tg : Tg} {d : D} {v : V} {σ : St} {δ δ' : List D} {M : Bud} {u : Unit} {Q : St -> Hp -> Prop} (hs : Same Hs H) (e : asgT lk tg d δ = .ok (u, δ')) (r : Rep K H Hs v d (fun _ => 0)) (s : RepS K H Hs σ δ M)
 (q : ∀ σ', Keeps lk σ σ' -> RepS K H Hs σ' δ' M -> Q σ' H) : gT K tg v σ H Q := by
 cases tg with
 | name i =>
  obtain ⟨h1, h2, rfl⟩ := Zfr e
  exact q _ (Zcn h2) ((ZcT s h1 r).mono fun b => by simp)
 | tup is =>
  cases d with
  | sc v => cases e
  | hole => cases e
  | node k o ds =>
   cases k with
   | tup =>
    have e : ZcO lk is ds δ = .ok (u, δ') := e
    cases r with
    | own n r l =>
     rename_i a _ _
     have := l a
     simp [one] at this
    | shd n r =>
     obtain ⟨hl, hq⟩ := Zg2 (Q := Q) e r s fun σ' k z => q σ' k (z.mono fun b => by simp)
     exact ⟨_, _, rfl, .inl (.inl (.inl (hs _ _ n))), hl, hq⟩
   | _ => cases e
theorem ZoA {a : E} {c : M D} (h : ∀ j, a ≠ .v j) : Zs a c = c.bnd fun d => M.ret (.tmp d) := by
 cases a <;> first | rfl | exact absurd rfl (h _)
theorem ZgG : ∀ {ps : List Op} {δ δ' : List D} {h : List W × List (Nat × D)}, ZD ps δ = .ok (h, δ') -> ∀ q ∈ h.2, .late q.1 ∈ ps
 | [], δ, δ', h, e, q, hq => by
  have := Zi (show T.M.ret (([] : List W), ([] : List (Nat × D))) δ = .ok (h, δ') from e)
  cases this
  simp at hq
 | p :: ps, δ, δ', h, e, q, hq => by
  obtain ⟨w, δ1, e1, e2⟩ := Zc e
  obtain ⟨ws, δ2, e3, e4⟩ := Zc e2
  have := Zi e4
  cases this
  rcases List.mem_append.mp hq with h | h
  . have : p = .late q.1 := by
     cases p with
     | tmp d => cases d <;> cases e1 <;> simp at h
     | late i =>
      unfold holdV at e1
      dsimp only at e1
      split at e1 <;> cases e1 <;> simp at h
      subst h
      rfl
    rw [this]
    exact List.mem_cons_self
  . exact List.mem_cons_of_mem _ (ZgG e3 q h)
def HWs (cs : M (List Op)) (lk : Nat -> Bool) : Prop := ∀ δ h δ', (cs.bnd ZD) δ = .ok (h, δ') -> ∀ q ∈ h.2, lk q.1 = true
def LkLe (lk lk' : Nat -> Bool) : Prop := ∀ i, lk i = true -> lk' i = true
theorem Zho (lk f : Nat -> Bool) : LkLe lk (fun j => lk j || f j) := fun i h => by
 show (lk i || f i) = true
 rw [h]
 rfl
section
variable {X : Cx} {tg iter : Expr} {body : List Stmt} {pos : Pos} {lk lk' : Nat -> Bool} {ik : IK} {cs : M (List Op)} {tgt : Tg} {cb : M Fl}
theorem Zjn (hp : PassesOwn (model X.prog X.w) X.A X.env X.xe) (hc : X.calm = true) (hl : LkLe lk lk') (hw : HWs cs lk')
 (hi : PI X tg iter (tI X.K ik cs)) (hg : PG X tg (gT X.K tgt)) (hb : PSs X body (tS X.K lk' cb)) (hs : ∀ x, foldedSetIterable iter X.env x = pure x := by intro _; rfl) :
 PS X (.For tg iter body [] pos) (tS X.K lk (cs.bnd fun ps => (ZD ps).bnd fun h => (lift (itW ik h.1)).bnd fun items => (forL (asgT lk' tgt) cb items).bnd fun f => (Zan h.2).bnd fun _ => M.ret f)) :=
 PS.imp (ZpG hp hc hi hg hb hs) fun E σ H h => by
 obtain ⟨δ, Hs, M, f, δ', g, s, ea, q⟩ := h
 obtain ⟨ps, δ1, e1, eb⟩ := Zc ea
 obtain ⟨hh, δ2, e2, ec⟩ := Zc eb
 obtain ⟨items, δ3, e3, ed⟩ := Zc ec
 obtain ⟨e3', rfl⟩ := Za8 e3
 obtain ⟨f1, δ4, e4, ee⟩ := Zc ed
 obtain ⟨u, δ5, e5, e6⟩ := Zc ee
 have := Zi e6
 cases this
 have e12 : (cs.bnd ZD) δ = .ok (hh, δ3) := by
  show T.M.bnd cs ZD δ = _
  unfold T.M.bnd
  rw [e1]
  exact e2
 have locked := hw _ _ _ e12
 refine ⟨δ, Hs, M, hh, items, δ3, g, s, e12, e3', fun J Pp H1 Hs1 B M1 g1 st1 s1 held wk pp => ?_⟩
 have kl : ∀ {σ1 σ2 : St}, Keeps lk' σ1 σ2 -> Keeps lk σ1 σ2 := fun k i h => k i (hl i h)
 refine ⟨fun i m σ2 H2 => m = items.length - i /\ i <= items.length /\ Keeps lk' σ σ2 /\ ∃ (δ2 : List D) (Hs2 : Hp) (M2 : Bud), Good H2 Hs2 (fun b => B b + M2 b) /\ Stp H Hs M H2 Hs2 (fun b => B b + M2 b) /\ RepS X.K H2 Hs2 σ2 δ2 M2 /\ Held X.K H2 Hs2 σ2 hh.2 B /\ Pp H2 Hs2 /\ forL (asgT lk' tgt) cb (items.drop i) δ2 = .ok (f, δ4),
  ⟨items.length, by simp, Nat.zero_le _, Keeps.refl _ _, δ3, Hs1, M1, g1, st1, s1, held, pp, by rw [List.drop_zero]; exact e4⟩, ?_⟩
 rintro i m σ2 H2 ⟨rfl, hle, k2, δ2, Hs2, M2, g2, st2, s2, held2, pp2, e7⟩
 have fin_nx : ∀ {σ3 : St} {H3 Hs3 : Hp} {M3 : Bud}, f = .nx -> Keeps lk' σ σ3 -> Good H3 Hs3 (fun b => B b + M3 b) -> Stp H Hs M H3 Hs3 (fun b => B b + M3 b) -> RepS X.K H3 Hs3 σ3 δ4 M3 -> Held X.K H3 Hs3 σ3 hh.2 B -> E.nx σ3 H3 := fun {σ3 H3 Hs3 M3} ef k3 g3 st3 s3 held3 => by
  subst ef
  exact q σ3 H3 Hs3 _ (kl k3) g3 st3 (Zco e5 held3 s3)
 by_cases hlt : i < items.length
 . right
   have hd : items[i]? = some (items[i]'(by omega)) := List.getElem?_eq_getElem (by omega)
   have hdrop : items.drop i = items[i]'(by omega) :: items.drop (i + 1) := List.drop_eq_getElem_cons (by omega)
   rw [hdrop] at e7
   obtain ⟨u1, δ5', e8, e9⟩ := Zc e7
   obtain ⟨fl, δ6, e10, e11⟩ := Zc e9
   refine ⟨wk.go g2.sub pp2 hlt, fun σ3 H3 => Keeps lk' σ σ3 /\ ∃ (δ2 : List D) (Hs2 : Hp) (M2 : Bud), Good H3 Hs2 (fun b => B b + M2 b) /\ Stp H Hs M H3 Hs2 (fun b => B b + M2 b) /\ RepS X.K H3 Hs2 σ3 δ2 M2 /\ Held X.K H3 Hs2 σ3 hh.2 B /\ Pp H3 Hs2 /\ forL (asgT lk' tgt) cb (items.drop (i + 1)) δ2 = .ok (f, δ4),
    fun σ3 H3 ⟨k3, z⟩ => ⟨items.length - (i + 1), by omega, rfl, hlt, k3, z⟩, fun x H' y => ?_⟩
   obtain ⟨Hs3, gr, rv⟩ := wk.yld g2.sub pp2 hd y
   obtain ⟨sm, fr, _⟩ := gr.same g2.sub
   have pp2 := wk.stay pp2 sm fun b _ n => fr b n
   have s2 := RepS.frame sm (fun b _ n => fr b n) s2
   have held2 := held2.frame sm fun b _ n => fr b n
   have st2 := gr.stp g2 st2
   have g2 := gr.good g2
   clear gr sm fr y
   generalize Hs3 = Hs2 at *
   refine ZhN (Hs := Hs2) g2.sub e8 rv s2 fun σ3 k3 s3 => ?_
   refine ⟨δ5', Hs2, M2, fl, δ6, g2.re, s3, e10, ?_⟩
   have held3 : Held X.K H' Hs2 σ3 hh.2 B := held2.keeps k3 locked
   have nxt : ∀ {σ4 : St} {H4 Hs4 : Hp} {M4 : Bud}, Keeps lk' σ3 σ4 -> Good H4 Hs4 M4 -> Stp H' Hs2 M2 H4 Hs4 M4 ->
    Keeps lk' σ σ4 /\ Good H4 Hs4 (fun b => B b + M4 b) /\ Stp H Hs M H4 Hs4 (fun b => B b + M4 b) /\ Held X.K H4 Hs4 σ4 hh.2 B /\ Pp H4 Hs4 := fun {σ4 H4 Hs4 M4} k4 g4 st4 => by
    obtain ⟨G, S, kk⟩ := Z1 g g2 st2 g4 st4
    exact ⟨k2.trans (k3.trans k4), G, S, (held3.keeps k4 locked).frame st4.grow kk, wk.stay pp2 st4.grow kk⟩
   cases fl with
   | nx =>
    refine fun σ4 H4 Hs4 M4 k4 g4 st4 s4 => ?_
    obtain ⟨a1, a2, a3, a4, a6⟩ := nxt k4 g4 st4
    exact ⟨a1, δ6, Hs4, M4, a2, a3, s4, a4, a6, e11⟩
   | ct =>
    refine fun σ4 H4 Hs4 M4 k4 g4 st4 s4 => ?_
    obtain ⟨a1, a2, a3, a4, a6⟩ := nxt k4 g4 st4
    exact ⟨a1, δ6, Hs4, M4, a2, a3, s4, a4, a6, e11⟩
   | bk =>
    refine fun σ4 H4 Hs4 M4 k4 g4 st4 s4 => ?_
    obtain ⟨a1, a2, a3, a4, a6⟩ := nxt k4 g4 st4
    have := Zi e11
    cases this
    exact fin_nx rfl a1 a2 a3 s4 a4
   | rt d =>
    refine fun v σ4 H4 Hs4 m4 M4 k4 g4 st4 rd s4 => ?_
    obtain ⟨a1, a2, a3, a4, a6⟩ := nxt k4 g4 st4
    have := Zi e11
    cases this
    exact q v σ4 H4 Hs4 m4 (fun b => B b + M4 b) (kl a1) (a2.re fun b => by (try dsimp only); omega) (a3.drop (fun b => by (try dsimp only); omega) a2.le) rd (Zco e5 a4 s4)
 . left
   have e0 : items.drop i = [] := List.drop_of_length_le (by omega)
   rw [e0] at e7
   have := Zi e7
   cases this
   exact ⟨wk.stop g2.sub pp2 (by omega), fin_nx rfl k2 g2 st2 s2 held2⟩
end
theorem RepS.toL {K : Fg} {H Hs : Hp} : ∀ {vs : List V} {ds : List D} {m : Bud}, RepS K H Hs (vs.map some) ds m -> RepL K H Hs vs ds m
 | [], _, _, h => by cases h; exact .nil _
 | v :: vs, _, _, h => by
  cases h with
  | cons x y l =>
   refine .cons ?_ (RepS.toL y) l
   rcases x with rfl | ⟨w, e, r⟩
   . exact .hole _ _
   . cases e
     exact r
end T
namespace T
open PySem PySem.Spec L2
section
variable {P : Program} {w : World} {K : Fg} {mg : Str -> Option Value} {base : Heap}
theorem Zhp {N : List Str} {vs : List V} {σ' : St} {n : Nat} (hn : vs.length = n) (k : Keeps (fun i => decide (i < n)) (L2.start N vs) σ') : σ'.take n = vs.map some := by
 apply List.ext_getElem?
 intro i
 by_cases hi : i < n
 . rw [List.getElem?_take_of_lt hi, k i (by simpa using hi)]
   unfold L2.start
   rw [List.getElem?_append_left (by rw [List.length_map]; omega)]
 . rw [List.getElem?_eq_none (by rw [List.length_take]; omega), List.getElem?_eq_none (by rw [List.length_map]; omega)]
theorem Ziz {N : List Str} {vs : List V} {ds : List D} {H Hs : Hp} {m : Bud} (r : RepL K H Hs vs ds m) : RepS K H Hs (L2.start N vs) (ds ++ List.replicate (N.length - ds.length) .hole) m := by
 unfold L2.start
 rw [r.len]
 have z := Sep.append (RepL.slots r) (holes (K := K) (H := H) (Hs := Hs) (fun _ => none) (N.length - ds.length) (fun _ => 0) (List.replicate (N.length - ds.length) none) (by simp))
 exact z.mono fun b => by simp
theorem Zqw {x qual : Str} {st : Stmt} {f : Addr} {fd : FuncData} {N ps : List Str} {k : Nat} {C : Ctx} {body : List S} (F : Fun K x qual st f fd) (Sc : FnScope N ps (Za st))
 (hb : ∀ (cdv : Value) (A : Around) (outer : List Env) (s : Shared) (H : Hp) (E : XK), Room k (A.deeper (PyProof.Rows.envOfC qual (Za st) s.heap.objs.size f cdv)) ->
  PSs (cxOf CX0 P w K mg base N qual (Za st) f cdv A outer s H E).nox (Z2 st) (tS K (fun i => decide (i < ps.length)) (exs { C with lock := fun i => decide (i < ps.length) } body))) :
 FnOk P w K mg base CX0 (k + 1) f fd ps (spF K (Zg C ps.length N.length body)) := by
 refine F.ok Sc (fun vs H Q E h => ?_) (fun cdv A outer s H vs Q E hr h => ⟨_, hb cdv A outer s H E hr, ?_⟩)
 . obtain ⟨ds, Hs, m, d, ds', g, r, e, q⟩ := h
   unfold Zg at e
   split at e
   . rename_i hl
     rw [r.len]
     exact hl
   . cases e
 . obtain ⟨ds, Hs, m, d, ds', g, r, e, q⟩ := h
   unfold Zg at e
   split at e
   . rename_i hl
     have hv : vs.length = ps.length := by rw [r.len]; exact hl
     have hr0 := Ziz (N := N) r
     rw [hl] at hr0
     cases he : exs { C with lock := fun i => decide (i < ps.length) } body (ds ++ List.replicate (N.length - ps.length) .hole) with
     | ok z =>
      obtain ⟨fl, δ'⟩ := z
      rw [he] at e
      refine ⟨_, Hs, m, fl, δ', g, hr0, he, ?_⟩
      have back : ∀ {σ' : St} {H' Hs' : Hp} {M' : Bud}, Keeps (fun i => decide (i < ps.length)) (L2.start N vs) σ' -> RepS K H' Hs' σ' δ' M' -> RepL K H' Hs' vs (δ'.take ps.length) M' := fun k' s' => by
       have z := s'.take ps.length
       rw [Zhp hv k'] at z
       exact RepS.toL z
      cases fl with
      | nx =>
       cases e
       exact fun σ' H' Hs' M' k' g' st' s' => q .non H' Hs' (fun _ => 0) M' (Zc3 g') (st'.drop (fun b => by simp) g'.le) (.sc _ _) (back k' s')
      | rt dd =>
       cases e
       exact fun v σ' H' Hs' m1 M' k' g' st' rv s' => q v H' Hs' m1 M' g' st' rv (back k' s')
      | bk => cases e
      | ct => cases e
     | exc x y => rw [he] at e; cases e
     | stuck => rw [he] at e; cases e
   . cases e
theorem Zap {x qual : Str} {st : Stmt} {f : Addr} {fd : FuncData} {N ps : List Str} {k n nN : Nat} {C : Ctx} {body : List S} (F : Fun K x qual st f fd) (Sc : FnScope N ps (Za st)) (hn : ps.length = n) (hN : N.length = nN)
 (hb : ∀ (cdv : Value) (A : Around) (outer : List Env) (s : Shared) (H : Hp) (E : XK), Room k (A.deeper (PyProof.Rows.envOfC qual (Za st) s.heap.objs.size f cdv)) ->
  PSs (cxOf CX0 P w K mg base N qual (Za st) f cdv A outer s H E).nox (Z2 st) (tS K (fun i => decide (i < n)) (exs { C with lock := fun i => decide (i < n) } body))) :
 FnOk P w K mg base CX0 (k + 1) f fd ps (spF K (Zg C n nN body)) := by
 subst hn hN
 exact Zqw F Sc hb
end
end T
namespace T
open PySem PySem.Spec L2
theorem Zhq {K : Fg} {H Hs : Hp} {σ : St} : ∀ {js : List Nat} {δ δ' : List D} {caps : List D} {M : Bud}, ZdL js δ = .ok (caps, δ') -> RepS K H Hs σ δ M -> ∃ mc M', RepS K H Hs (Zdk js σ) caps mc /\ RepS K H Hs σ δ' M' /\ (∀ b, mc b + M' b <= M b) /\ ∀ j ∈ js, j < σ.length
 | [], δ, δ', caps, M, e, s => by
  have := Zi e
  cases this
  exact ⟨fun _ => 0, M, .nil _, s, fun b => by simp, fun j hj => by simp at hj⟩
 | j :: js, δ, δ', caps, M, e, s => by
  unfold ZdL at e
  split at e
  . rename_i d hd
    obtain ⟨ds, δ1, e1, e2⟩ := Zc e
    have := Zi e2
    cases this
    obtain ⟨o, m1, m2, q1, q2, l, f⟩ := s.focus hd
    have z := f (RepO K H Hs) o .hole (fun _ => 0) (fun a d m' _ q => q) (.inl rfl)
    rw [ZaU q1] at z
    obtain ⟨mc, M', h1, h2, h3, h4⟩ := Zhq e1 z
    refine ⟨fun b => m1 b + mc b, M', ?_, h2, fun b => by have := l b; have := h3 b; dsimp only at *; omega, fun i hi => ?_⟩
    . rw [ZgF]
      have ho : (σ[j]?).join = o := by rw [q1]; rfl
      rw [ho]
      exact .cons q2 h1 fun b => Nat.le_refl _
    . rcases List.mem_cons.mp hi with rfl | hi
      . exact (List.getElem?_eq_some_iff.mp q1).1
      . exact h4 i hi
  . cases e
theorem Zb6 (caps : List D) : Zc2 [] caps = M.ret () := by cases caps <;> rfl
theorem Zjo (j : Nat) (js : List Nat) (d : D) (ds δ : List D) : Zc2 (j :: js) (d :: ds) δ = Zc2 js ds (δ.set j d) := rfl
theorem Zlm {K : Fg} {H Hs : Hp} {σ : St} (js : List Nat) : ∀ (caps δ δ' : List D) (mc M : Bud) (u : Unit), (∀ j ∈ js, j < σ.length) -> Zc2 js caps δ = .ok (u, δ') -> RepS K H Hs (Zdk js σ) caps mc -> RepS K H Hs σ δ M -> RepS K H Hs σ δ' (fun b => mc b + M b) := by
 induction js with
 | nil =>
  intro caps δ δ' mc M u hj e c s
  rw [Zb6] at e
  have := Zi e
  cases this
  exact s.mono fun b => by omega
 | cons j js ih =>
  intro caps δ δ' mc M u hj e c s
  rw [ZgF] at c
  cases c with
  | @cons _ d _ ds m1 m2 _ x y l =>
   rw [Zjo] at e
   have hlt := hj j List.mem_cons_self
   have hlt2 : j < δ.length := by rw [<- s.length]; exact hlt
   obtain ⟨o, n1, n2, q1, q2, l2, f⟩ := s.focus (List.getElem?_eq_getElem hlt2)
   have ho : (σ[j]?).join = o := by rw [q1]; rfl
   rw [ho] at x
   have z := f (RepO K H Hs) o d m1 (fun a d m' _ q => q) x
   rw [ZaU q1] at z
   have fin := ih ds (δ.set j d) δ' m2 _ u (fun i hi => hj i (List.mem_cons_of_mem _ hi)) e y z
   exact fin.mono fun b => by have := l b; have := l2 b; (try dsimp only); omega
theorem ZmX {H Hs H0 Hs0 : Hp} {M0 N : Bud} {A : Addr} {o : HO} (hA0 : H0 A = none) (hA : Hs A = none) (g : Good H Hs (fun b => one A b + N b)) (st : Stp H0 Hs0 M0 H Hs (fun b => one A b + N b)) : Good (upd H A o) Hs (fun b => one A b + N b) /\ Stp H0 Hs0 M0 (upd H A o) Hs (fun b => one A b + N b) /\ ∀ b, N b ≥ 1 -> upd H A o b = H b := by
 have hn : N A = 0 := by have : one A A + N A <= 1 := g.le A; simp [one] at this; omega
 have ne : ∀ b, b ≠ A -> upd H A o b = H b := fun b hb => Zt hb
 refine ⟨⟨fun b u e => ?_, g.le, g.ne, fun b h => ?_⟩, ⟨fun b u e z => ?_, st.own, st.grow, st.shr, fun b h => ?_⟩, fun b hb => ne b fun q => by subst q; omega⟩
 . have hb : b ≠ A := fun q => by subst q; rw [hA] at e; cases e
   rw [ne b hb]
   exact g.sub b u e
 . by_cases hb : b = A
   . subst hb; rw [Zv]; simp
   . rw [ne b hb]; exact g.has b h
 . have hb : b ≠ A := fun q => by subst q; rw [hA0] at e; cases e
   rw [ne b hb]
   exact st.keep b u e z
 . by_cases hb : b = A
   . subst hb; rw [Zv]; simp
   . rw [ne b hb]; exact st.stay b h
theorem Zk9 {K : Fg} {k : Nat} {js : List Nat} {ik : IK} {cs : M (List Op)} {tgt : Tg} {cc : M Bool} {celt : M D} {σ : St} {H : Hp} {Q : VK}
 (h : tM K (cs.bnd fun ps => (ZD ps).bnd fun h => (lift (itW ik h.1)).bnd fun items => (ZbD k js (ZaR (asgT (fun i => decide (k <= i)) tgt) cc celt items [])).bnd fun d => (Zan h.2).bnd fun _ => M.ret d) σ H Q) :
 ZiN k js (tI K ik cs) (gT K tgt) (tT K cc) (tM K celt) σ H Q := by
 obtain ⟨δ, Hs, M, d, δ', g, s, ea, q⟩ := h
 obtain ⟨ps, δ1, e1, eb⟩ := Zc ea
 obtain ⟨hh, δ2, e2, ec⟩ := Zc eb
 obtain ⟨items, δ3, e3, ed⟩ := Zc ec
 obtain ⟨e3', rfl⟩ := Za8 e3
 obtain ⟨dd, δ4, e4, ee⟩ := Zc ed
 obtain ⟨u, δ5, e5, e6⟩ := Zc ee
 have := Zi e6
 cases this
 have e12 : (cs.bnd ZD) δ = .ok (hh, δ3) := by
  show T.M.bnd cs ZD δ = _
  unfold T.M.bnd
  rw [e1]
  exact e2
 refine ⟨δ, Hs, M, hh, items, δ3, g, s, e12, e3', fun J Pp H1 Hs1 B M1 g1 st1 s1 held wk pp A hA => ?_⟩
 unfold ZbD at e4
 obtain ⟨caps, δ6, e7, e8⟩ := Zc e4
 obtain ⟨mc, M2, c1, c2, c3, c4⟩ := Zhq e7 s1
 have hA0 : H A = none := by
  cases q : H A with
  | none => rfl
  | some o => exact absurd hA (st1.stay A (by rw [q]; simp))
 cases hL : ZaR (asgT (fun i => decide (k <= i)) tgt) cc celt items [] (List.replicate k .hole ++ caps) with
 | exc x y => rw [hL] at e8; cases e8
 | stuck => rw [hL] at e8; cases e8
 | ok r =>
 obtain ⟨accF, δF⟩ := r
 rw [hL] at e8
 obtain ⟨u2, δ7, e9, e10⟩ := Zc e8
 obtain ⟨e11, rfl⟩ := Za8 e10
 have hs1A : Hs1 A = none := by
  cases q : Hs1 A with
  | none => rfl
  | some o => rw [g1.sub A o q] at hA; cases hA
 have zA : B A = 0 /\ M1 A = 0 := by
  have l : B A + M1 A <= 1 := g1.le A
  have : B A + M1 A ≠ 1 := fun e => g1.has A e hA
  omega
 have z2 : mc A = 0 /\ M2 A = 0 := by have := c3 A; omega
 have fr : ∀ b, b ≠ A -> upd H1 A (.lst []) b = H1 b := fun b hb => Zt hb
 have g2 : Good (upd H1 A (.lst [])) Hs1 (fun b => (one A b + (B b + M2 b)) + mc b) := by
  refine ⟨fun b o e => ?_, fun b => ?_, fun b hb => ?_, fun b hb => ?_⟩
  . have hb : b ≠ A := fun q => by subst q; rw [hs1A] at e; cases e
    rw [fr b hb]; exact g1.sub b o e
  . have l : B b + M1 b <= 1 := g1.le b
    have := c3 b
    unfold one
    (try dsimp only)
    split
    . rename_i e; subst e; omega
    . omega
  . by_cases e : b = A
    . subst e; exact hs1A
    . have hb : (one A b + (B b + M2 b)) + mc b = 1 := hb
      simp only [one, if_neg e] at hb
      have l : B b + M1 b <= 1 := g1.le b
      have := c3 b
      exact g1.ne b (by show B b + M1 b = 1; omega)
  . by_cases e : b = A
    . subst e; rw [Zv]; simp
    . rw [fr b e]
      have hb : (one A b + (B b + M2 b)) + mc b = 1 := hb
      simp only [one, if_neg e] at hb
      have l : B b + M1 b <= 1 := g1.le b
      have := c3 b
      exact g1.has b (by show B b + M1 b = 1; omega)
 have st2 : Stp H Hs M (upd H1 A (.lst [])) Hs1 (fun b => (one A b + (B b + M2 b)) + mc b) := by
  refine ⟨fun b o e z => ?_, fun b hb => ?_, st1.grow, st1.shr, fun b hb => ?_⟩
  . have hb : b ≠ A := fun q => by subst q; rw [hA0] at e; cases e
    rw [fr b hb]; exact st1.keep b o e z
  . by_cases e : b = A
    . subst e; exact .inr hA0
    . have hb : (one A b + (B b + M2 b)) + mc b = 1 := hb
      simp only [one, if_neg e] at hb
      have l : B b + M1 b <= 1 := g1.le b
      have := c3 b
      exact st1.own b (by show B b + M1 b = 1; omega)
  . by_cases e : b = A
    . subst e; rw [Zv]; simp
    . rw [fr b e]; exact st1.stay b hb
 have keepA : ∀ (N : Bud), N A = 0 -> ∀ b, N b ≥ 1 -> H1 b ≠ none -> upd H1 A (.lst []) b = H1 b := fun N hN b hb _ => fr b fun q => by subst q; omega
 refine ⟨fun i m σ2 ys H2 => m = items.length - i /\ i <= items.length /\ Keeps (fun i => decide (k <= i)) (ZcB k js σ) σ2 /\ ∃ (δ2 : List D) (Hs2 : Hp) (N ma : Bud) (acc : List D), Good H2 Hs2 (fun b => (one A b + (B b + M2 b + ma b)) + N b) /\ Stp H Hs M H2 Hs2 (fun b => (one A b + (B b + M2 b + ma b)) + N b) /\ RepS K H2 Hs2 σ2 δ2 N /\
  RepL K H2 Hs2 ys acc ma /\ RepS K H2 Hs2 σ δ6 M2 /\ Held K H2 Hs2 σ hh.2 B /\ Pp H2 Hs2 /\ ZaR (asgT (fun i => decide (k <= i)) tgt) cc celt (items.drop i) acc δ2 = .ok (accF, δF),
  ⟨items.length, by simp, Nat.zero_le _, Keeps.refl _ _, List.replicate k .hole ++ caps, Hs1, mc, fun _ => 0, [], g2.re fun b => by (try dsimp only); omega, st2.drop (fun b => by (try dsimp only); omega) g2.le, ?_, .nil _, c2.frame (Same.refl _) (keepA M2 z2.2), held.frame (Same.refl _) (keepA B zA.1), wk.stay pp (Same.refl _) (keepA B zA.1), by rw [List.drop_zero]; exact hL⟩, ?_⟩
 . have z := Sep.append (holes (K := K) (H := H1) (Hs := Hs1) (fun _ => none) k (fun _ => 0) (List.replicate k none) (by simp)) c1
   exact RepS.frame (Same.refl _) (keepA mc z2.1) (z.mono fun b => by simp)
 rintro i m σ2 ys H2 ⟨rfl, hle, k2, δ2, Hs2, N, ma, acc, g3, st3, s3, ra, so, held2, pp2, e13⟩ hD
 have hsA : Hs2 A = none := g3.ne A (by have := g3.le A; (try dsimp only at this ⊢); simp only [one, if_pos] at this ⊢; omega)
 by_cases hlt : i < items.length
 . right
   have hd : items[i]? = some (items[i]'(by omega)) := List.getElem?_eq_getElem (by omega)
   have hdrop : items.drop i = items[i]'(by omega) :: items.drop (i + 1) := List.drop_eq_getElem_cons (by omega)
   rw [hdrop] at e13
   obtain ⟨u3, δ8, e14, e15⟩ := Zc e13
   obtain ⟨t, δ9, e16, e17⟩ := Zc e15
   refine ⟨wk.go g3.sub pp2 hlt, fun x H' y => ?_⟩
   obtain ⟨Hs3, gr, rv⟩ := wk.yld g3.sub pp2 hd y
   obtain ⟨sm, fr, _⟩ := gr.same g3.sub
   have pp2 := wk.stay pp2 sm fun b _ n => fr b n
   have s3 := RepS.frame sm (fun b _ n => fr b n) s3
   have so := RepS.frame sm (fun b _ n => fr b n) so
   have ra := ra.frame sm fun b _ n => fr b n
   have held2 := held2.frame sm fun b _ n => fr b n
   have hD : H' A = some (.lst ys) := (fr A (by rw [hD]; simp)).trans hD
   have st3 := gr.stp g3 st3
   have g3 := gr.good g3
   clear gr sm fr y hsA
   generalize Hs3 = Hs2 at *
   generalize H' = H2 at *
   refine ZhN (Hs := Hs2) g3.sub e14 rv s3 fun σ3 k3 s4 => ?_
   refine ⟨δ8, Hs2, N, t, δ9, g3.re fun b => by (try dsimp only); omega, s4, e16, fun H4 Hs4 M4 g4 st4 s5 => ?_⟩
   obtain ⟨G, S, kk⟩ := Z1 (m1 := fun b => one A b + (B b + M2 b + ma b)) g g3 st3 g4 st4
   have kA : H4 A = some (.lst ys) := by rw [<- hD]; exact kk A (by simp [one]) (by rw [hD]; simp)
   have ra4 := ra.frame st4.grow fun b hb => kk b (by (try dsimp only); omega)
   have so4 := RepS.frame st4.grow (fun b hb => kk b (by (try dsimp only); omega)) so
   have held4 := held2.frame st4.grow fun b hb => kk b (by (try dsimp only); omega)
   have pp4 := wk.stay pp2 st4.grow fun b hb => kk b (by (try dsimp only); omega)
   have lmeas : items.length - (i + 1) < items.length - i := by omega
   cases t with
   | false =>
    dsimp only
    rw [if_neg Bool.false_ne_true]
    exact ⟨kA, _, lmeas, rfl, hlt, k2.trans k3, δ9, Hs4, M4, ma, acc, G, S, s5, ra4, so4, held4, pp4, e17⟩
   | true =>
    dsimp only
    rw [if_pos rfl]
    rw [if_pos rfl] at e17
    obtain ⟨xd, δ10, e18, e19⟩ := Zc e17
    refine ⟨δ9, Hs4, M4, xd, δ10, g4, s5, e18, fun yv H5 Hs5 m5 M5 g5 st5 r5 s6 => ?_⟩
    obtain ⟨G5, S5, kk5⟩ := Z1 (m1 := fun b => one A b + (B b + M2 b + ma b)) g G S g5 st5
    have kA5 : H5 A = some (.lst ys) := by rw [<- kA]; exact kk5 A (by simp [one]) (by rw [kA]; simp)
    have hsz : ys.length < sizeLine := by
     have e20 : accF.length <= sizeLine := by
      unfold newL at e11
      split at e11
      . rename_i hz; exact hz
      . cases e11
     have grow : ∀ (its acc : List D) (δ : List D) (r : List D × List D), ZaR (asgT (fun i => decide (k <= i)) tgt) cc celt its acc δ = .ok r -> acc.length <= r.1.length := by
      intro its
      induction its with
      | nil => intro acc δ r e; have := Zi e; subst this; exact Nat.le_refl _
      | cons a its ih =>
       intro acc δ r e
       obtain ⟨_, _, _, f1⟩ := Zc e
       obtain ⟨tt, _, _, f2⟩ := Zc f1
       cases tt with
       | false => exact ih _ _ _ f2
       | true =>
        rw [if_pos rfl] at f2
        obtain ⟨_, _, _, f3⟩ := Zc f2
        have := ih _ _ _ f3
        rw [List.length_append, List.length_singleton] at this
        omega
     have := grow _ _ _ _ e19
     dsimp only at this
     rw [List.length_append, List.length_singleton] at this
     have := ra.len
     omega
    have hsA5 : Hs5 A = none := G5.ne A (by have := G5.le A; (try dsimp only at this ⊢); simp only [one, if_pos] at this ⊢; omega)
    have G5' : Good H5 Hs5 (fun b => one A b + (B b + M2 b + ma b + (m5 b + M5 b))) := G5.re fun b => by (try dsimp only); omega
    obtain ⟨G6, S6, k6⟩ := ZmX (o := .lst (ys ++ [yv])) hA0 hsA5 G5' (S5.drop (fun b => by (try dsimp only); omega) G5.le)
    have fr6 : ∀ (R : Bud), (∀ b, R b <= B b + M2 b + ma b + (m5 b + M5 b)) -> ∀ b, R b ≥ 1 -> H5 b ≠ none -> upd H5 A (.lst (ys ++ [yv])) b = H5 b := fun R hR b hb _ => k6 b (by have := hR b; omega)
    refine ⟨kA5, hsz, _, lmeas, rfl, hlt, k2.trans k3, δ10, Hs5, M5, fun b => ma b + m5 b, acc ++ [xd], G6.re fun b => by (try dsimp only); omega, S6.drop (fun b => by (try dsimp only); omega) G6.le, RepS.frame (Same.refl _) (fr6 M5 fun b => by omega) s6, ?_, ?_, ?_, ?_, e19⟩
    . exact RepL.frame (Same.refl _) (fr6 _ fun b => by (try dsimp only); omega) ((ra4.frame st5.grow fun b hb => kk5 b (by (try dsimp only); omega)).app (.cons r5 (.nil (fun _ => 0)) fun b => by simp))
    . exact RepS.frame (Same.refl _) (fr6 M2 fun b => by omega) (RepS.frame st5.grow (fun b hb => kk5 b (by (try dsimp only); omega)) so4)
    . exact (held4.frame st5.grow fun b hb => kk5 b (by (try dsimp only); omega)).frame (Same.refl _) (fr6 B fun b => by omega)
    . exact wk.stay (wk.stay pp4 st5.grow fun b hb => kk5 b (by (try dsimp only); omega)) (Same.refl _) (fr6 B fun b => by omega)
 . left
   have e0 : items.drop i = [] := List.drop_of_length_le (by omega)
   rw [e0] at e13
   have := Zi e13
   cases this
   refine ⟨wk.stop g3.sub pp2 (by omega), ?_⟩
   have hdrop : σ2.drop k = Zdk js σ := by
    have hl2 : σ2.length = δF.length := s3.length
    apply List.ext_getElem?
    intro j
    rw [List.getElem?_drop, k2 (k + j) (by simp)]
    unfold ZcB
    rw [List.getElem?_append_right (by simp)]
    simp
   have sd := s3.drop k
   rw [hdrop] at sd
   have so' := Zlm js _ _ _ _ _ _ c4 e9 sd so
   unfold newL at e11
   split at e11
   . cases e11
     have rD : Rep K H2 Hs2 (.ref A) (.node .lst true accF) (fun b => one A b + ma b) := .own hD ra fun b => Nat.le_refl _
     exact q _ H2 Hs2 (fun b => one A b + ma b) (fun b => B b + (N b + M2 b)) (g3.re fun b => by (try dsimp only); omega) (st3.drop (fun b => by (try dsimp only); omega) g3.le) rD (Zco e5 held2 so')
   . cases e11
section
variable {X : Cx} {elt tg iter : Expr} {ifs : List Expr} {scope : Scope} {pos spos pos' : Pos} {k : Nat} {js : List Nat} {N' : List Str} {ik : IK} {cs : M (List Op)} {tgt : Tg} {cc : M Bool} {celt : M D} {lk : Nat -> Bool} {i : Nat} {x : Str} {sc : Scope} {N : List Str}
theorem PIf.imp {t t' : TT} (h : PIf X ifs t) (w : ∀ σ H Q, t' σ H Q -> t σ H Q) : PIf X ifs t' := fun pins s σ H Q I q => h pins s σ H Q I (w σ H Q q)
theorem Zjp : PIf X [] (tT X.K (M.ret true)) := PIf.imp Zor fun σ H Q h => Zhj h
theorem Zjq {c : Expr} {ct : M Bool} (h : PT X c (tT X.K ct)) : PIf X [c] (tT X.K (ct.bnd fun b => if b then M.ret true else M.ret false)) := PIf.imp (Zos h) fun σ H Q h => by
 obtain ⟨δ, Hs, M, b, δ', g, s, e, q⟩ := h
 obtain ⟨t, δ1, e1, e2⟩ := Zc e
 refine ⟨δ, Hs, M, t, δ1, g, s, e1, fun H' Hs' M' g' st s' => ?_⟩
 cases t with
 | true => have := Zi e2; cases this; exact q H' Hs' M' g' st s'
 | false => have := Zi e2; cases this; exact q H' Hs' M' g' st s'
theorem ZhO (hc : X.calm = true) (S : CompScope X k js N' scope) (hi : PI X tg iter (tI X.K ik cs))
 (hin : ∀ (cl : List (Str × Addr)) (C : Addr) (s₀ : Shared) (H₀ : Hp) (ex : List Addr), PG (cxC X N' scope cl C s₀ H₀ ex) tg (gT X.K tgt) /\ PIf (cxC X N' scope cl C s₀ H₀ ex) ifs (tT X.K cc) /\ PE (cxC X N' scope cl C s₀ H₀ ex) elt (tM X.K celt))
 (hs : ∀ x, foldedSetIterable iter X.env x = pure x := by intro _; rfl) :
 PE X (.ListComp elt [⟨tg, iter, ifs, 0⟩] scope pos) (tM X.K (cs.bnd fun ps => (ZD ps).bnd fun h => (lift (itW ik h.1)).bnd fun items => (ZbD k js (ZaR (asgT (fun i => decide (k <= i)) tgt) cc celt items [])).bnd fun d => (Zan h.2).bnd fun _ => M.ret d)) :=
 PE.imp (Zot hc S hi hin hs) fun σ H Q h => Zk9 h
theorem ZhP (h : Zd sc N i x false = true) (nd : N.Nodup) (hw : ZeN sc scope x = true) (hc : X.calm = true) (S : CompScope X k js N' scope) (hi : PI X tg iter (tI X.K ik cs))
 (hin : ∀ (cl : List (Str × Addr)) (C : Addr) (s₀ : Shared) (H₀ : Hp) (ex : List Addr), PG (cxC X N' scope cl C s₀ H₀ ex) tg (gT X.K tgt) /\ PIf (cxC X N' scope cl C s₀ H₀ ex) ifs (tT X.K cc) /\ PE (cxC X N' scope cl C s₀ H₀ ex) elt (tM X.K celt))
 (hl : (pos'.line == pos.line) = true := by rfl) (e1 : X.env.scope = sc := by rfl) (e2 : X.N = N := by rfl) (hs : ∀ x, foldedSetIterable iter X.env x = pure x := by intro _; rfl) :
 PS X (.Assign [.Name x pos'] (.ListComp elt [⟨tg, iter, ifs, 0⟩] scope pos) spos) (tS X.K lk ((cs.bnd fun ps => (ZD ps).bnd fun h => (lift (itW ik h.1)).bnd fun items => (ZbD k js (ZaR (asgT (fun i => decide (k <= i)) tgt) cc celt items [])).bnd fun d => (Zan h.2).bnd fun _ => M.ret d).bnd fun d => (asgN lk i d).bnd fun _ => M.ret .nx)) :=
 PS.imp (ZmR h nd hw hc S hi hin hl e1 e2 hs) fun E σ H hh => by
 obtain ⟨δ, Hs, M, f, δ', g, s, e, q⟩ := hh
 obtain ⟨d, δ1, e1, e2⟩ := Zc e
 obtain ⟨u, δ2, e3, e4⟩ := Zc e2
 have := Zi e4
 cases this
 obtain ⟨h1, h2, rfl⟩ := Zfr e3
 exact Zk9 ⟨δ, Hs, M, d, δ1, g, s, e1, fun v H' Hs' m M' g' st' r s' => q _ H' Hs' _ (Zcn h2) g' st' (ZcT s' h1 r)⟩
theorem ZX {e : Expr} {c : M D} {b : Bool} (h : Zd sc N i x b = true) (nd : N.Nodup) (he : PE X e (tM X.K c)) (hs : swapsWith e (some (.Name x pos')) pos.line X.env = pure false := by rfl) (e1 : X.env.scope = sc := by rfl) (e2 : X.N = N := by rfl)
 (hf : X.fn x = true \/ b = false := by first | exact .inl rfl | exact .inr rfl) : PS X (.Assign [.Name x pos'] e pos) (tS X.K lk (c.bnd fun d => (asgN lk i d).bnd fun _ => M.ret .nx)) := by
 obtain ⟨h1, h2, h3, h4⟩ := Zd.at h
 have l := Zd.loc h
 subst e1 e2
 refine Zqt nd h1 l he hs ?_
 rcases hf with q | q
 . exact .inl q
 . subst q
   exact .inr h2
theorem Zdq {es : List Expr} {is : List Nat} {b : Bool} (h : Zd sc N i x b = true) (nd : N.Nodup) (hr : PGs X es (gNs is)) (e1 : X.env.scope = sc := by rfl) (e2 : X.N = N := by rfl) (hf : X.fn x = true \/ b = false := by first | exact .inl rfl | exact .inr rfl)
 (hs : (assignEach (.Name x pos :: es) X.env).map (·.2) = assign (.Name x pos) X.env :: (assignEach es X.env).map (·.2) := by rfl) : PGs X (.Name x pos :: es) (gNs (i :: is)) := by
 obtain ⟨h1, h2, h3, h4⟩ := Zd.at h
 have l := Zd.loc h
 subst e1 e2
 refine ok_g nd h1 l hr ?_ hs
 rcases hf with q | q
 . exact .inl q
 . subst q
   exact .inr h2
theorem Zf7 {b : Bool} (h : Zd sc N i x b = true) (nd : N.Nodup) (e1 : X.env.scope = sc := by rfl) (e2 : X.N = N := by rfl) (hf : X.fn x = true \/ b = false := by first | exact .inl rfl | exact .inr rfl) : PG X (.Name x pos) (gT X.K (.name i)) := ZmQ h nd e1 e2 hf
end
end T
namespace T
open PySem PySem.Spec L2
def ZeH (ca : M Op) (lk : Nat -> Bool) : Prop := ∀ δ p δ', ca δ = .ok (p, δ') -> ∀ i, p = .late i -> lk i = true
theorem ZhQ {i : Nat} {lk : Nat -> Bool} (h : lk i = true) : ZeH (ZaG i) lk := fun δ p δ' e j hj => by
 unfold ZaG at e
 split at e <;> cases e <;> cases hj <;> exact h
theorem Zqx {c : M D} {lk : Nat -> Bool} : ZeH (c.bnd fun d => M.ret (.tmp d)) lk := fun δ p δ' e j hj => by
 obtain ⟨d, δ1, e1, e2⟩ := Zc e
 have := Zi e2
 cases this
 cases hj
theorem Zma {p : Op} {δ δ' : List D} {w : W × Option (Nat × D)} (e : holdV p δ = .ok (w, δ')) : ∀ q ∈ w.2.toList, p = .late q.1 := fun q hq => by
 cases p with
 | tmp d => cases d <;> cases e <;> simp at hq
 | late i =>
  unfold holdV at e
  dsimp only at e
  split at e <;> cases e <;> simp at hq
  subst hq
  rfl
theorem hw_1 {ca : M Op} {lk : Nat -> Bool} (h : ZeH ca lk) : HWs (ca.bnd fun p => (M.ret ([] : List Op)).bnd fun ps => M.ret (p :: ps)) lk := fun δ w δ' e q hq => by
 obtain ⟨p, δ1, w1, e1, e2, rfl⟩ := Zll e
 exact h _ _ _ e1 _ (Zma e2 q hq)
theorem hw_2 {ca cb : M Op} {lk : Nat -> Bool} (h1 : ZeH ca lk) (h2 : ZeH cb lk) : HWs (ca.bnd fun p => (cb.bnd fun p => (M.ret ([] : List Op)).bnd fun ps => M.ret (p :: ps)).bnd fun ps => M.ret (p :: ps)) lk := fun δ w δ' e q hq => by
 obtain ⟨ps, δ1, e1, e2⟩ := Zc e
 obtain ⟨p1, δ2, e3, e4⟩ := Zc e1
 obtain ⟨qs, δ3, e5, e6⟩ := Zc e4
 obtain ⟨p2, δ4, e7, e8⟩ := Zc e5
 obtain ⟨z, δ5, e9, e10⟩ := Zc e8
 have := Zi e9
 cases this
 have := Zi e10
 cases this
 have := Zi e6
 cases this
 have := ZgG e2 q hq
 rcases List.mem_cons.mp this with z | z
 . exact h1 _ _ _ e3 _ z.symm
 . exact h2 _ _ _ e7 _ (List.mem_singleton.mp z).symm
section
variable {X : Cx} {e a b c : Expr} {pos p : Pos} {ca cb cc : M Op} {x : Str} {j n : Nat} {fi : FI} {ps : List Str}
theorem ZoB {K : Fg} {H Hs : Hp} {x : V} {w : W} {m : Bud} (h : View K H Hs x w m) : isNW true w = .sc (.bl (decide (x = .non))) /\ isNW false w = .sc (.bl (!decide (x = .non))) := by
 cases h with
 | sc v m => constructor <;> simp only [isNW] <;> cases decide (x = V.non) <;> rfl
 | nd n r => constructor <;> simp [isNW]
end
noncomputable def ZhR : Expr -> Option V
 | .Constant (.int n) _ _ => some (.int n)
 | .Constant (.str z) _ _ => some (.str z)
 | .Constant (.bool b) _ _ => some (.bl b)
 | .Constant .none _ _ => some .non
 | _ => none
noncomputable def ZeQ : List Expr -> Option (List V)
 | [] => some []
 | e :: es => (ZhR e).bind fun v => (ZeQ es).map (v :: ·)
theorem ZmY {X : Cx} {e : Expr} {v : V} (h : ZhR e = some v) : PE X e (tC v) /\ ∀ es : List Expr, starEach (e :: es) X.env = (false, eval e X.env) :: starEach es X.env := by
 unfold ZhR at h
 split at h
 . cases h; exact ⟨ZaN, fun es => rfl⟩
 . cases h; exact ⟨ZiS, fun es => rfl⟩
 . cases h; exact ⟨ZiL, fun es => rfl⟩
 . cases h; exact ⟨Zdh, fun es => rfl⟩
 . cases h
theorem Zi0 {X : Cx} : ∀ {es : List Expr} {vs : List V}, ZeQ es = some vs -> PA X es (fun _ H Q => Q vs H)
 | [], vs, h => by
  simp only [ZeQ, Option.some.injEq] at h
  subst h
  exact ZcA
 | e :: es, vs, h => by
  simp only [ZeQ, Option.bind_eq_some_iff, Option.map_eq_some_iff] at h
  obtain ⟨v, h1, ws, h2, rfl⟩ := h
  obtain ⟨c1, c2⟩ := ZmY (X := X) h1
  exact Zbg c1 (Zi0 h2) (c2 es)
theorem ZkA {K : Fg} {H Hs : Hp} : ∀ (vs : List V), RepL K H Hs vs (vs.map D.sc) (fun _ => 0)
 | [] => .nil _
 | v :: vs => .cons (m1 := fun _ => 0) (m2 := fun _ => 0) (.sc v _) (ZkA vs) fun b => by simp
theorem ZnL {X : Cx} {es : List Expr} {vs : List V} {pos : Pos} (h : ZeQ es = some vs) : PE X (.List es pos) (tM X.K (lift (newL (vs.map D.sc)))) := PE.imp (ZlB (Zi0 h)) fun σ H Q hq => by
 obtain ⟨δ, Hs, M, d, δ', g, s, e, q⟩ := hq
 obtain ⟨e1, rfl⟩ := Za8 e
 unfold newL at e1
 split at e1
 . rename_i hl
   cases e1
   have o : Outs X.K H Hs (fun _ => 0) _ Q := ZeF (B := fun _ => 0) (M := M) (stp0 H Hs M) (Zc3 g) s q
   exact ⟨by simpa using hl, fun p hp => o.new (fun b => by simp) (fun b hb => by simp at hb) hp (vs := vs) Zv (ZkA vs)⟩
 . cases e1
theorem Zej : bootBuiltins "len" = some (.builtin "len") := by decide +kernel
theorem Zqy : bootBuiltins "abs" = some (.builtin "abs") := by decide +kernel
theorem Zmb : bootBuiltins "sum" = some (.builtin "sum") := by decide +kernel
theorem Zmc : bootBuiltins "min" = some (.builtin "min") := by decide +kernel
theorem ZhS : bootBuiltins "list" = some (.type "list") := by decide +kernel
noncomputable def C0 : Ctx := { lock := fun _ => false, fok := fun _ _ => false, fuel := 0 }
end T
namespace T
open PySem PySem.Spec L2
section
variable {X : Cx} {o e a : Expr} {es : List Expr} {cpos apos pos p : Pos} {ca : M Op} {cs : M (List Op)} {i : Nat} {name m x f : Str} {A : Addr} {fi : FI} {j n : Nat} {ps : List Str}
theorem Zjr (f : Str) (v : V) : ∀ (fs : List Str) (vs : List V), fs.length = vs.length -> putF f v (fs.zip vs) = (putN f fs).zip (putV f v fs vs) /\ (putN f fs).length = (putV f v fs vs).length
 | [], [], _ => ⟨rfl, rfl⟩
 | g :: fs, x :: vs, h => by
  obtain ⟨i1, i2⟩ := Zjr f v fs vs (by simpa using h)
  rw [List.zip_cons_cons]
  show (if g = f then (g, v) :: fs.zip vs else (g, x) :: putF f v (fs.zip vs)) = _ /\ _
  simp only [putN, putV]
  split
  . exact ⟨rfl, by simpa using h⟩
  . rw [i1]
    exact ⟨rfl, by rw [List.length_cons, List.length_cons, i2]⟩
 | [], _ :: _, h => by simp at h
 | _ :: _, [], h => by simp at h
theorem RepL.putV {K : Fg} {H Hs : Hp} {v : V} {d : D} {m1 : Bud} (f : Str) (x : Rep K H Hs v d m1) : ∀ {fs : List Str} {vs : List V} {ds : List D} {m : Bud}, fs.length = vs.length -> RepL K H Hs vs ds m -> RepL K H Hs (T.putV f v fs vs) (T.putV f d fs ds) (fun b => m b + m1 b)
 | [], _, _, m, h, .nil _ => .cons x (.nil (fun _ => 0)) fun b => by (try dsimp only); omega
 | [], _, _, m, h, .cons _ _ _ => by simp at h
 | _ :: _, _, _, m, h, .nil _ => by simp at h
 | g :: fs, _, _, m, h, .cons (m1 := a1) (m2 := a2) y z l => by
  simp only [T.putV]
  split
  . exact .cons x z fun b => by have := l b; (try dsimp only); omega
  . exact .cons y (RepL.putV f x (by simpa using h) z) fun b => by have := l b; (try dsimp only); omega
end
end T
namespace T
open PySem PySem.Spec L2 PySem.W
noncomputable def scr (ns : List Int) : D := .node .frl false (ns.map fun i => .sc (.int i))
theorem Zqz {K : Fg} {H : Hp} {a : Addr} {ns : List Int} {F : List D -> Rs (D × List D)} {E : XK} (hS : SqL K H a (ns.map V.int)) (e : ∃ ds', F [scr ns] = .ok (.sc (.bl true), ds')) : spF K F [.ref a] H (fun v _ => v = .bl true) E := by
 obtain ⟨ds', e⟩ := e
 refine ⟨[scr ns], H, fun _ => 0, _, ds', ⟨Same.refl _, fun b => Nat.zero_le _, fun b h => by simp at h, fun b h => by simp at h⟩, .cons (m1 := fun _ => 0) (m2 := fun _ => 0) (.shd (vs := ns.map V.int) hS (Zga ns)) (.nil _) fun b => by simp, e, fun v H' Hs' m1 m' g st r _ => ?_⟩
 cases r
 rfl
theorem ZmZ {l : PySem.W.OpenLaw} {q : Program} {loose : List Str} {XP : (Str -> Option Value) -> Heap -> Prop} {YP : World -> Heap -> Prop} {d : DefRec} {K : Params -> Fg} {k : Nat} {x : Str} {R : Fg -> List D -> Rs (D × List D)} (hn : l.most = some 63) (hdf : d.params.defaults = []) (hr : Room k callerA)
 (hY : ∀ (w : World) (h : Heap), YP w h -> (K w.params).In h)
 (F : ∀ (w : World) (mg : Str -> Option Value) (fa : Addr) (h : Heap), (K w.params).In h -> h.Ns mainGlobals mg -> mg d.name = some (.ref fa) ->
  ∃ fd : FuncData, (∀ (s : Shared) (u : Value), BindsTo s fd ⟨[u], []⟩ [(x, u)]) /\ ∀ base : Heap, (K w.params).In base -> base.Ns mainGlobals mg -> FnOk l.prog w (K w.params) mg base CX0 k fa fd [x] (spF (K w.params) (R (K w.params))))
 (hL : ∀ (K : Fg) (ns : List Int), ns.length <= 63 -> ∃ ds', R K [scr ns] = .ok (.sc (.bl true), ds')) :
 PySem.W.WalkO q loose XP YP l.row.toRowW d [] (fun f vs => PySem.call f vs) :=
 L2.ZmE (n := 63) (k := k) (x := x) (CX := CX0) (sp := fun K => spF K (R K)) hn (by decide) hdf hr hY F (fun K H a ns hl _ hS => Zqz hS (hL K ns hl)) fun _ _ _ _ z => z
end T
namespace T
open PySem PySem.Spec L2 PySem.W
theorem Zmd {α β : Type} {c : M α} {f : α -> M β} {δ δ' : List D} {a : α} (h : c δ = .ok (a, δ')) : c.bnd f δ = f a δ' := by
 unfold M.bnd
 rw [h]
theorem runA {C : Ctx} {n N : Nat} {body : List S} {ds : List D} (h : ds.length = n) : Zg C n N body ds = Zjd n (exs { C with lock := fun i => decide (i < n) } body (ds ++ List.replicate (N - n) .hole)) := if_pos h
theorem szl : sizeLine = 16777216 := by rw [sizeLine_eq]
section
variable {α β : Type} {C : Ctx} {δ δ' : List D} {a : α} {i j : Nat} {x y : Int} {v w : V} {k : Kd} {ds es : List D} {d : D}
noncomputable def bndR (f : α -> M β) : Rs (α × List D) -> Rs (β × List D)
 | .ok (a, δ) => f a δ
 | .exc x δ => .exc x δ
 | .stuck => .stuck
theorem bndA (c : M α) (f : α -> M β) (δ : List D) : c.bnd f δ = bndR f (c δ) := by
 unfold M.bnd bndR
 cases c δ <;> rfl
theorem ZoC (f : α -> M β) : bndR f (.ok (a, δ)) = f a δ := (rfl)
theorem retA : M.ret a δ = .ok (a, δ) := (rfl)
theorem Zsx : lift (some a) δ = .ok (a, δ) := (rfl)
theorem ZoD (c : Prop) [Decidable c] (f g : M α) (δ : List D) : (if c then f else g) δ = if c then f δ else g δ := by split <;> rfl
theorem Zsy (c : M D) : Zs (.v i) c = ZaG i := (rfl)
noncomputable def atR (i : Nat) (δ : List D) : Option D -> Rs (Op × List D)
 | some (.sc _) => .ok (.late i, δ)
 | some (.node _ _ _) => .ok (.late i, δ)
 | _ => .stuck
theorem Zsz : ZaG i δ = atR i δ δ[i]? := by unfold ZaG atR; cases δ[i]? with | none => rfl | some d => cases d <;> rfl
theorem Zq0 : atR i δ (some (.sc v)) = .ok (.late i, δ) := (rfl)
theorem Zq1 {o : Bool} : atR i δ (some (.node k o ds)) = .ok (.late i, δ) := (rfl)
noncomputable def vwR (i : Nat) (δ : List D) : Option D -> Rs (W × List D)
 | some (.sc v) => .ok (.sc v, δ)
 | some (.node k false ds) => .ok (.nd k ds, δ)
 | some (.node k true ds) => .ok (.nd k (shrL ds), δ.set i (.node k true (shrL ds)))
 | _ => .stuck
theorem Zs0 : view (.late i) δ = vwR i δ δ[i]? := by
 unfold view vwR
 (try dsimp only)
 all_goals
  cases δ[i]? with
  | none => rfl
  | some d => cases d with
   | node k o ds => cases o <;> rfl
   | _ => rfl
theorem Zq2 : vwR i δ (some (.sc v)) = .ok (.sc v, δ) := (rfl)
theorem Zs1 : vwR i δ (some (.node k false ds)) = .ok (.nd k ds, δ) := (rfl)
theorem Zs2 : vwR i δ (some (.node k true ds)) = .ok (.nd k (shrL ds), δ.set i (.node k true (shrL ds))) := (rfl)
theorem ZoE : view (.tmp (.sc v)) = M.ret (.sc v) := (rfl)
theorem ZoF {o : Bool} : view (.tmp (.node k o ds)) = M.ret (.nd k ds) := (rfl)
noncomputable def vlR (i : Nat) (δ : List D) : Option D -> Rs (D × List D)
 | some (.sc v) => .ok (.sc v, δ)
 | some (.node k false ds) => .ok (.node k false ds, δ)
 | some (.node k true ds) => .ok (.node k false (shrL ds), δ.set i (.node k false (shrL ds)))
 | _ => .stuck
theorem valA : T.valV i δ = vlR i δ δ[i]? := by
 unfold T.valV vlR
 cases δ[i]? with
 | none => rfl
 | some d => cases d with
  | node k o ds => cases o <;> rfl
  | _ => rfl
theorem Zq3 : vlR i δ (some (.sc v)) = .ok (.sc v, δ) := (rfl)
theorem Zs3 : vlR i δ (some (.node k false ds)) = .ok (.node k false ds, δ) := (rfl)
theorem Zs4 : vlR i δ (some (.node k true ds)) = .ok (.node k false (shrL ds), δ.set i (.node k false (shrL ds))) := (rfl)
noncomputable def mvR (i : Nat) (δ : List D) : Option D -> Rs (D × List D)
 | some (.sc v) => .ok (.sc v, δ)
 | some (.node k o ds) => .ok (.node k o ds, δ.set i .hole)
 | _ => .stuck
theorem movA : movV i δ = mvR i δ δ[i]? := by unfold movV mvR; cases δ[i]? with | none => rfl | some d => cases d <;> rfl
theorem Zq4 : mvR i δ (some (.sc v)) = .ok (.sc v, δ) := (rfl)
theorem Zq5 {o : Bool} : mvR i δ (some (.node k o ds)) = .ok (.node k o ds, δ.set i .hole) := (rfl)
noncomputable def tkR (lend : Bool) (i : Nat) (δ : List D) : Option D -> Rs (D × List D)
 | some (.sc v) => .ok (.sc v, δ)
 | some (.node k false ds) => .ok (.node k false ds, δ)
 | some (.node k true ds) => if lend then .ok (.node k true ds, δ.set i .hole) else .ok (.node k false (shrL ds), δ.set i (.node k false (shrL ds)))
 | _ => .stuck
theorem Zs5 {lend : Bool} : takeA lend (.late i) δ = tkR lend i δ δ[i]? := by
 unfold takeA tkR
 (try dsimp only)
 all_goals
  cases δ[i]? with
  | none => rfl
  | some d => cases d with
   | node k o ds => cases o <;> rfl
   | _ => rfl
theorem Zs6 {lend : Bool} : takeA lend (.tmp d) = M.ret d := (rfl)
theorem Zq6 {lend : Bool} : tkR lend i δ (some (.sc v)) = .ok (.sc v, δ) := (rfl)
theorem Zs7 {lend : Bool} : tkR lend i δ (some (.node k false ds)) = .ok (.node k false ds, δ) := (rfl)
theorem Zs8 : tkR true i δ (some (.node k true ds)) = .ok (.node k true ds, δ.set i .hole) := (rfl)
theorem Zs9 : tkR false i δ (some (.node k true ds)) = .ok (.node k false (shrL ds), δ.set i (.node k false (shrL ds))) := (rfl)
theorem Zq7 {lend : Bool} : Zbj lend [] = M.ret [] := (rfl)
theorem Zq8 {lend : Bool} {p : Op} {ps : List Op} : Zbj lend (p :: ps) = (takeA lend p).bnd fun d => (Zbj lend ps).bnd fun ds => M.ret (d :: ds) := (rfl)
noncomputable def gvR (i : Nat) (δ : List D) (d : D) : Option D -> Rs (Unit × List D)
 | some .hole => .ok ((), δ.set i d)
 | _ => .ok ((), δ)
theorem ZsA : giveA (.late i) d δ = gvR i δ d δ[i]? := by unfold giveA gvR; (try dsimp only); all_goals (cases δ[i]? with | none => rfl | some d => cases d <;> rfl)
theorem ZsB {d' : D} : giveA (.tmp d') d = M.ret () := (rfl)
theorem Zq9 : gvR i δ d (some (.sc v)) = .ok ((), δ) := (rfl)
theorem ZqA {o : Bool} : gvR i δ d (some (.node k o ds)) = .ok ((), δ) := (rfl)
theorem ZsC : gvR i δ d (some .hole) = .ok ((), δ.set i d) := (rfl)
theorem ZqB {ds : List D} : ZW [] ds = M.ret () := by cases ds <;> rfl
theorem ZqC {p : Op} {ps : List Op} : ZW (p :: ps) (d :: ds) = (giveA p d).bnd fun _ => ZW ps ds := (rfl)
theorem ZqD : views [] = M.ret [] := (rfl)
theorem ZqE {p : Op} {ps : List Op} : views (p :: ps) = (view p).bnd fun w => (views ps).bnd fun ws => M.ret (w :: ws) := (rfl)
noncomputable def cfR (ps : List Op) (δ : List D) : Rs (D × List D) -> Rs (D × List D)
 | .ok (d, ds') => ((ZW ps ds').bnd fun _ => M.ret d) δ
 | .exc _ _ => .stuck
 | .stuck => .stuck
theorem ZsD {fi : FI} {ps : List Op} : ZdW fi ps = (Zbj fi.lend ps).bnd fun ds δ => cfR ps δ (fi.run ds) := by
 unfold ZdW cfR
 congr 1
 funext ds δ
 cases fi.run ds with
 | ok r => obtain ⟨d, ds'⟩ := r; rfl
 | exc x y => rfl
 | stuck => rfl
theorem ZqF {ps : List Op} {ds' : List D} : cfR ps δ (.ok (d, ds')) = ((ZW ps ds').bnd fun _ => M.ret d) δ := (rfl)
noncomputable def seqR (r : M Fl) : Rs (Fl × List D) -> Rs (Fl × List D)
 | .ok (.nx, δ) => r δ
 | .ok (f, δ) => .ok (f, δ)
 | .exc x δ => .exc x δ
 | .stuck => .stuck
theorem exs1 {s : S} {r : List S} : exs C (s :: r) δ = seqR (exs C r) (ex C s δ) := by
 show seqL (ex C s) (exs C r) δ = _
 unfold seqL M.bnd seqR
 cases ex C s δ with
 | ok z => obtain ⟨f, δ1⟩ := z; cases f <;> rfl
 | exc x y => rfl
 | stuck => rfl
noncomputable def forR (asg : D -> M Unit) (body : M Fl) (ds : List D) : Rs (Fl × List D) -> Rs (Fl × List D)
 | .ok (.nx, δ) => forL asg body ds δ
 | .ok (.ct, δ) => forL asg body ds δ
 | .ok (.bk, δ) => .ok (.nx, δ)
 | .ok (.rt x, δ) => .ok (.rt x, δ)
 | .exc x δ => .exc x δ
 | .stuck => .stuck
theorem Ze6 {asg : D -> M Unit} {body : M Fl} : forL asg body (d :: ds) δ = forR asg body ds (((asg d).bnd fun _ => body) δ) := by
 show ((asg d).bnd fun _ => body.bnd fun f => match f with | .nx => forL asg body ds | .ct => forL asg body ds | .bk => M.ret .nx | .rt x => M.ret (.rt x)) δ = _
 unfold forR M.bnd
 cases asg d δ with
 | ok r =>
  dsimp only
  cases body r.2 with
  | ok z => obtain ⟨f, δ1⟩ := z; cases f <;> rfl
  | exc x y => rfl
  | stuck => rfl
 | exc x y => rfl
 | stuck => rfl
theorem ZnM {asg : D -> M Unit} {body : M Fl} : forL asg body [] δ = .ok (.nx, δ) := (rfl)
theorem ZoG {asg : D -> M Unit} {body : M Fl} : forR asg body ds (.ok (.nx, δ)) = forL asg body ds δ := (rfl)
theorem ZoH {asg : D -> M Unit} {body : M Fl} : forR asg body ds (.ok (.rt d, δ)) = .ok (.rt d, δ) := (rfl)
theorem exs0 : exs C [] δ = .ok (.nx, δ) := (rfl)
theorem ZoI (r : M Fl) : seqR r (.ok (.nx, δ)) = r δ := (rfl)
theorem ZoJ (r : M Fl) : seqR r (.ok (.rt d, δ)) = .ok (.rt d, δ) := (rfl)
end
end T
namespace T
open PySem PySem.Spec L2 PySem.W
theorem e_k (C : Ctx) (v : V) : (evb C (.k v)).1 = (M.ret (.sc v)) := (rfl)
theorem o_k (v : V) (z : M D) : Zs (.k v) z = z.bnd fun d => M.ret (.tmp d) := (rfl)
theorem ZsE (C : Ctx) (op : Operator) (a : E) (b : E) : (evb C (.bin op a b)).1 = ((Zs a (evb C a).1).bnd fun p => (Zs b (evb C b).1).bnd fun q => (view p).bnd fun x => (view q).bnd fun y => lift (binW op x y)) := (rfl)
theorem ZsF (op : Operator) (a : E) (b : E) (z : M D) : Zs (.bin op a b) z = z.bnd fun d => M.ret (.tmp d) := (rfl)
theorem ZsG (C : Ctx) (a : E) : (evb C (.neg a)).1 = (((Zs a (evb C a).1).bnd view).bnd fun x => lift (negW x)) := (rfl)
theorem ZsH (a : E) (z : M D) : Zs (.neg a) z = z.bnd fun d => M.ret (.tmp d) := (rfl)
theorem ZsI (C : Ctx) (op : CmpOp) (a : E) (b : E) : (evb C (.cmp op a b)).1 = ((Zs a (evb C a).1).bnd fun p => (Zs b (evb C b).1).bnd fun q => (view p).bnd fun x => (view q).bnd fun y => lift ((ZaX op x y).map fun t => .sc (.bl t))) := (rfl)
theorem ZsJ (C : Ctx) (op : CmpOp) (a : E) (b : E) : (evb C (.cmp op a b)).2 = ZcP (evb C (.cmp op a b)).1 := (rfl)
theorem ZsK (op : CmpOp) (a : E) (b : E) (z : M D) : Zs (.cmp op a b) z = z.bnd fun d => M.ret (.tmp d) := (rfl)
theorem ZoK (C : Ctx) (op : CmpOp) (op' : CmpOp) (a : E) (b : E) (c : E) : (evb C (.chain op op' a b c)).2 = ZcP (evb C (.chain op op' a b c)).1 := (rfl)
theorem ZsL (C : Ctx) (p : Bool) (a : E) : (evb C (.isN p a)).1 = (((Zs a (evb C a).1).bnd view).bnd fun x => M.ret (isNW p x)) := (rfl)
theorem ZsM (C : Ctx) (p : Bool) (a : E) : (evb C (.isN p a)).2 = ((Zs (.isN p a) (evb C (.isN p a)).1).bnd fun p => (view p).bnd fun w => lift (truW w)) := (rfl)
theorem ZsN (p : Bool) (a : E) (z : M D) : Zs (.isN p a) z = z.bnd fun d => M.ret (.tmp d) := (rfl)
theorem e_nt (C : Ctx) (a : E) : (evb C (.nt a)).1 = (((Zs a (evb C a).1).bnd view).bnd fun w => lift (notW w)) := (rfl)
theorem t_nt (C : Ctx) (a : E) : (evb C (.nt a)).2 = ((evb C a).2.bnd fun b => M.ret (!b)) := (rfl)
theorem ZsO (C : Ctx) (a : E) (b : E) : (evb C (.and a b)).1 = (((Zs a (evb C a).1).bnd view).bnd (andM (evb C b).1)) := (rfl)
theorem ZsP (C : Ctx) (a : E) (b : E) : (evb C (.and a b)).2 = ((evb C a).2.bnd fun t => if t then (evb C b).2 else M.ret false) := (rfl)
theorem e_or (C : Ctx) (a : E) (b : E) : (evb C (.or a b)).1 = (((Zs a (evb C a).1).bnd view).bnd (T.orM (evb C b).1)) := (rfl)
theorem t_or (C : Ctx) (a : E) (b : E) : (evb C (.or a b)).2 = ((evb C a).2.bnd fun t => if t then M.ret true else (evb C b).2) := (rfl)
theorem ZsQ (C : Ctx) (c : E) (a : E) (b : E) : (evb C (.ife c a b)).1 = ((evb C c).2.bnd fun t => if t then (evb C a).1 else (evb C b).1) := (rfl)
theorem e_ix (C : Ctx) (a : E) (b : E) : (evb C (.ix a b)).1 = ((Zs a (evb C a).1).bnd fun p => (Zs b (evb C b).1).bnd fun q => (view p).bnd fun x => (view q).bnd fun y => lift (ixW2 x y)) := (rfl)
theorem t_ix (C : Ctx) (a : E) (b : E) : (evb C (.ix a b)).2 = ((Zs (.ix a b) (evb C (.ix a b)).1).bnd fun p => (view p).bnd fun w => lift (truW w)) := (rfl)
theorem o_ix (a : E) (b : E) (z : M D) : Zs (.ix a b) z = z.bnd fun d => M.ret (.tmp d) := (rfl)
theorem e_sl (C : Ctx) (a : E) (b : E) (c : E) : (evb C (.sl a b c)).1 = ((Zs a (evb C a).1).bnd fun p => (Zff b (Zs b (evb C b).1)).bnd fun l => (Zff c (Zs c (evb C c).1)).bnd fun h => (view p).bnd fun x => lift (slD x l h)) := (rfl)
theorem o_sl (a : E) (b : E) (c : E) (z : M D) : Zs (.sl a b c) z = z.bnd fun d => M.ret (.tmp d) := (rfl)
theorem ZsR (C : Ctx) (es : List E) : (evb C (.lst es)).1 = ((evs C es).bnd fun ds => lift (newL ds)) := (rfl)
theorem ZsS (es : List E) (z : M D) : Zs (.lst es) z = z.bnd fun d => M.ret (.tmp d) := (rfl)
theorem ZsT (C : Ctx) (es : List E) : (evb C (.tup es)).1 = ((evs C es).bnd fun ds => lift (newT ds)) := (rfl)
theorem ZsU (es : List E) (z : M D) : Zs (.tup es) z = z.bnd fun d => M.ret (.tmp d) := (rfl)
theorem e_kl (C : Ctx) (vs : List V) : (evb C (.kl vs)).1 = (lift (newL (vs.map D.sc))) := (rfl)
theorem o_kl (vs : List V) (z : M D) : Zs (.kl vs) z = z.bnd fun d => M.ret (.tmp d) := (rfl)
theorem ZqG (C : Ctx) (fi : FI) (es : List E) : (evb C (.call fi es)).1 = ((opds C es).bnd fun ps => ZdW fi ps) := (rfl)
theorem ZqH (C : Ctx) (fi : FI) (es : List E) : (evb C (.call fi es)).2 = ((Zs (.call fi es) (evb C (.call fi es)).1).bnd fun p => (view p).bnd fun w => lift (truW w)) := (rfl)
theorem ZqI (fi : FI) (es : List E) (z : M D) : Zs (.call fi es) z = z.bnd fun d => M.ret (.tmp d) := (rfl)
theorem e_bf (C : Ctx) (f : BF) (es : List E) : (evb C (.bf f es)).1 = ((opds C es).bnd fun ps => (views ps).bnd fun ws => lift (bfW f ws)) := (rfl)
theorem t_bf (C : Ctx) (f : BF) (es : List E) : (evb C (.bf f es)).2 = ((Zs (.bf f es) (evb C (.bf f es)).1).bnd fun p => (view p).bnd fun w => lift (truW w)) := (rfl)
theorem o_bf (f : BF) (es : List E) (z : M D) : Zs (.bf f es) z = z.bnd fun d => M.ret (.tmp d) := (rfl)
theorem ZqJ (k : Nat) (js : List Nat) (tg : Tg) (ik : IK) (es : List E) (es' : List E) (a : E) (z : M D) : Zs (.comp k js tg ik es es' a) z = z.bnd fun d => M.ret (.tmp d) := (rfl)
theorem e_fs (C : Ctx) (es : List E) : (evb C (.fs es)).1 = fss C es Str.empty := (rfl)
theorem ZoL (C : Ctx) (acc : Str) : fss C [] acc = M.ret (.sc (.str acc)) := (rfl)
theorem Zna (C : Ctx) (e : E) (es : List E) (acc : Str) : fss C (e :: es) acc = ((Zs e (evb C e).1).bnd view).bnd fun w => (lift (fmtW acc w)).bnd fun acc' => fss C es acc' := (rfl)
theorem o_fs (es : List E) (z : M D) : Zs (.fs es) z = z.bnd fun d => M.ret (.tmp d) := (rfl)
theorem e_v (C : Ctx) (i : Nat) : (evb C (.v i)).1 = T.valV i := (rfl)
theorem Znb (C : Ctx) (i : Nat) (es : List E) : (evb C (.mut .append i [] es)).1 = ((chkL i).bnd fun _ => (evs C es).bnd fun ds => appM i ds) := (rfl)
theorem ZsV (C : Ctx) : opds C [] = M.ret [] := (rfl)
theorem ZsW (C : Ctx) (e : E) (es : List E) : opds C (e :: es) = ((Zs e (evb C e).1).bnd fun p => (opds C es).bnd fun ps => M.ret (p :: ps)) := (rfl)
theorem evs0 (C : Ctx) : evs C [] = M.ret [] := (rfl)
theorem evs1 (C : Ctx) (e : E) (es : List E) : evs C (e :: es) = ((evb C e).1.bnd fun p => (evs C es).bnd fun ps => M.ret (p :: ps)) := (rfl)
theorem ZsX (C : Ctx) : tsts C [] = M.ret true := (rfl)
theorem ZsY (C : Ctx) (e : E) (es : List E) : tsts C (e :: es) = ((evb C e).2.bnd fun b => if b then tsts C es else M.ret false) := (rfl)
theorem ZsZ (C : Ctx) (i : Nat) (e : E) : ex C (.asg i e) = ((evb C e).1.bnd fun d => (asgN C.lock i d).bnd fun _ => M.ret .nx) := (rfl)
theorem Zta (C : Ctx) (is : List Nat) (e : E) : ex C (.unp is e) = (((Zs e (evb C e).1).bnd view).bnd fun w => (unpM C.lock is w).bnd fun _ => M.ret .nx) := (rfl)
theorem Ztb (C : Ctx) (i : Nat) (x e : E) : ex C (.sub i [] x e) = ((evb C e).1.bnd fun d => (ZaG i).bnd fun _ => ((Zs x (evb C x).1).bnd view).bnd fun w => (modS i (Zch w d)).bnd fun _ => M.ret .nx) := (rfl)
theorem x_ex (C : Ctx) (e : E) : ex C (.ex e) = ((evb C e).1.bnd fun _ => M.ret .nx) := (rfl)
theorem Ztc (C : Ctx) (e : E) : ex C (.ret e) = ((retV C e).bnd fun d => M.ret (.rt d)) := (rfl)
theorem Ztd (C : Ctx) (c : E) (a b : List S) : ex C (.iff c a b) = ((evb C c).2.bnd fun t => if t then exs C a else exs C b) := (rfl)
theorem ZqK (C : Ctx) (tg : Tg) (ik : IK) (ies : List E) (body : List S) : ex C (.for_ tg ik ies body) = ((opds C ies).bnd fun ps => (ZD ps).bnd fun h => (lift (itW ik h.1)).bnd fun items => (forL (asgT (fun j => C.lock j || walked ies j) tg) (exs { C with lock := fun j => C.lock j || walked ies j } body) items).bnd fun f => (Zan h.2).bnd fun _ => M.ret f) := (rfl)
theorem Zte (C : Ctx) (i : Nat) : retV C (.v i) = if C.lock i then T.valV i else movV i := (rfl)
theorem r_k (C : Ctx) (v : V) : retV C (.k v) = (evb C (.k v)).1 := (rfl)
theorem Ztf (C : Ctx) (op : Operator) (a : E) (b : E) : retV C (.bin op a b) = (evb C (.bin op a b)).1 := (rfl)
theorem Ztg (C : Ctx) (a : E) (b : E) : retV C (.and a b) = (evb C (.and a b)).1 := (rfl)
theorem r_or (C : Ctx) (a : E) (b : E) : retV C (.or a b) = (evb C (.or a b)).1 := (rfl)
theorem r_ix (C : Ctx) (a : E) (b : E) : retV C (.ix a b) = (evb C (.ix a b)).1 := (rfl)
theorem Zth (C : Ctx) (es : List E) : retV C (.lst es) = (evb C (.lst es)).1 := (rfl)
theorem Zti (C : Ctx) (es : List E) : retV C (.tup es) = (evb C (.tup es)).1 := (rfl)
theorem ZqL (C : Ctx) (fi : FI) (es : List E) : retV C (.call fi es) = (evb C (.call fi es)).1 := (rfl)
theorem Ztj (i j : Int) : binW .Add (.sc (.int i)) (.sc (.int j)) = some (.sc (.int (i + j))) := (rfl)
theorem Ztk (i j : Int) : binW .Sub (.sc (.int i)) (.sc (.int j)) = some (.sc (.int (i - j))) := (rfl)
theorem Ze7 (i j : Int) (h : (-(2 ^ 64) < i /\ i < 2 ^ 64) \/ (-(2 ^ 64) < j /\ j < 2 ^ 64)) : binW .Mult (.sc (.int i)) (.sc (.int j)) = some (.sc (.int (i * j))) := if_pos h
theorem Zhr (i j : Int) (h : 0 < j /\ j < 18446744073709551616) : binW .FloorDiv (.sc (.int i)) (.sc (.int j)) = some (.sc (.int (i / j))) := if_pos h
theorem Za4 (i j : Int) (h : 0 < j) : binW .Mod (.sc (.int i)) (.sc (.int j)) = some (.sc (.int (i % j))) := if_pos h
theorem ZaS (ds : List D) (h : ds.length <= sizeLine) : newL ds = some (.node .lst true ds) := if_pos h
theorem c_lt (i j : Int) : cmpW .Lt (.sc (.int i)) (.sc (.int j)) = some (decide (i < j)) := (rfl)
theorem Ztl (i j : Int) : ZaX .Lt (.sc (.int i)) (.sc (.int j)) = some (decide (i < j)) := (rfl)
theorem c_le (i j : Int) : cmpW .LtE (.sc (.int i)) (.sc (.int j)) = some (decide (i <= j)) := (rfl)
theorem Ztm (i j : Int) : ZaX .Gt (.sc (.int i)) (.sc (.int j)) = some (decide (j < i)) := (rfl)
theorem ZqM (i j : Int) : ZaX .Eq (.sc (.int i)) (.sc (.int j)) = some (decide (V.int i = V.int j)) := (rfl)
theorem ZqN (i j : Int) : ZaX .NotEq (.sc (.int i)) (.sc (.int j)) = some (!decide (V.int i = V.int j)) := (rfl)
theorem Ztn (c : M D) (δ : List D) : ZcP c δ = bndR (fun d => lift (match d with | .sc (.bl b) => some b | _ => none)) (c δ) := bndA _ _ _
theorem Zto (b : M D) : andM b (.sc (.bl true)) = b := (rfl)
theorem Ztp (b : M D) : andM b (.sc (.bl false)) = M.ret (.sc (.bl false)) := (rfl)
theorem or_f (b : M D) : T.orM b (.sc (.bl false)) = b := (rfl)
theorem or_t (b : M D) : T.orM b (.sc (.bl true)) = M.ret (.sc (.bl true)) := (rfl)
theorem Ztq (b : Bool) : notW (.sc (.bl b)) = some (.sc (.bl (!b))) := (rfl)
theorem Ztr (i : Int) : negW (.sc (.int i)) = some (.sc (.int (-i))) := (rfl)
theorem Zts (b : Bool) : truW (.sc (.bl b)) = some b := (rfl)
theorem Ztt (ds : List D) : bfW .len [.nd .lst ds] = some (.sc (.int ds.length)) := (rfl)
theorem Ztu (i : Int) : bfW .abs [.sc (.int i)] = some (.sc (.int (if i < 0 then -i else i))) := (rfl)
theorem ZqO (ds : List D) : bfW .list [.nd .lst ds] = some (.node .lst true ds) := (rfl)
theorem ZqP (i : Nat) (c : M Op) : Zff (.v i) c = ((c.bnd view).bnd fun w => lift (intP w)) := (rfl)
theorem ZqQ (op : Operator) (a b : E) (c : M Op) : Zff (.bin op a b) c = ((c.bnd view).bnd fun w => lift (intP w)) := (rfl)
theorem intp (i : Int) : intP (.sc (.int i)) = some (some i) := (rfl)
theorem sl_f (ds : List D) (l h : Option Int) : slD (.nd .frl ds) l h = some (.node .lst true (cutD ds l h)) := (rfl)
theorem Ztv (lk : Nat -> Bool) (is : List Nat) (ds : List D) : unpM lk is (.nd .lst ds) = ZcO lk is ds := (rfl)
theorem Ztw (lk : Nat -> Bool) : ZcO lk [] [] = M.ret () := (rfl)
theorem Ztx (lk : Nat -> Bool) (i : Nat) (is : List Nat) (d : D) (ds : List D) : ZcO lk (i :: is) (d :: ds) = ((asgN lk i d).bnd fun _ => ZcO lk is ds) := (rfl)
theorem ZqR (lk : Nat -> Bool) (i : Nat) (d : D) : asgT lk (.name i) d = asgN lk i d := (rfl)
theorem asgn (lk : Nat -> Bool) (i : Nat) (d : D) (δ : List D) : asgN lk i d δ = if (decide (i < δ.length) && !lk i) = true then .ok ((), δ.set i d) else .stuck := (rfl)
theorem ZqS : ZD [] = M.ret ([], []) := (rfl)
theorem ZqT (p : Op) (ps : List Op) : ZD (p :: ps) = ((holdV p).bnd fun w => (ZD ps).bnd fun ws => M.ret (w.1 :: ws.1, w.2.toList ++ ws.2)) := (rfl)
noncomputable def hdR (i : Nat) (δ : List D) : Option D -> Rs ((W × Option (Nat × D)) × List D)
 | some (.sc v) => .ok ((.sc v, none), δ)
 | some (.node k false ds) => .ok ((.nd k ds, none), δ)
 | some (.node k true ds) => .ok ((.nd k (shrL ds), some (i, .node k true (shrL ds))), δ.set i .hole)
 | _ => .stuck
theorem ZqU (i : Nat) (δ : List D) : holdV (.late i) δ = hdR i δ δ[i]? := by
 unfold holdV hdR
 (try dsimp only)
 all_goals
  cases δ[i]? with
  | none => rfl
  | some d => cases d with
   | node k o ds => cases o <;> rfl
   | _ => rfl
theorem ZqV (i : Nat) (δ : List D) (v : V) : hdR i δ (some (.sc v)) = .ok ((.sc v, none), δ) := (rfl)
theorem Zty (i : Nat) (δ : List D) (k : Kd) (ds : List D) : hdR i δ (some (.node k false ds)) = .ok ((.nd k ds, none), δ) := (rfl)
theorem Ztz (i : Nat) (δ : List D) (k : Kd) (ds : List D) : hdR i δ (some (.node k true ds)) = .ok ((.nd k (shrL ds), some (i, .node k true (shrL ds))), δ.set i .hole) := (rfl)
theorem ZqW (v : V) : holdV (.tmp (.sc v)) = M.ret (.sc v, none) := (rfl)
theorem ZqX (k : Kd) (o : Bool) (ds : List D) : holdV (.tmp (.node k o ds)) = M.ret (.nd k (shrL ds), none) := (rfl)
theorem ZqY : Zan [] = M.ret () := (rfl)
theorem ZqZ (i : Nat) (d : D) (r : List (Nat × D)) (δ : List D) : Zan ((i, d) :: r) δ = Zan r (δ.set i d) := (rfl)
theorem it_l (ds : List D) : itW .val [.nd .lst ds] = some ds := (rfl)
theorem it_1 (n : Int) (h : okR n = true) : itW .rng1 [.sc (.int n)] = some (rng 0 n) := if_pos h
noncomputable def mdR (i : Nat) (δ : List D) (f : Kd -> List D -> Option (D × Kd × List D)) : Option D -> Rs (D × List D)
 | some (.node k true ds) => match f k ds with
  | some (r, k', ds') => .ok (r, δ.set i (.node k' true ds'))
  | none => .stuck
 | _ => .stuck
theorem modA (i : Nat) (f : Kd -> List D -> Option (D × Kd × List D)) (δ : List D) : modS i f δ = mdR i δ f δ[i]? := by
 unfold modS mdR
 cases δ[i]? with
 | none => rfl
 | some d => cases d with
  | node k o ds => cases o <;> rfl
  | _ => rfl
theorem Zra (i : Nat) (δ : List D) (d : D) (ds : List D) (h : ds.length < sizeLine) : mdR i δ (appD d) (some (.node .lst true ds)) = .ok (.sc .non, δ.set i (.node .lst true (ds ++ [d]))) := by
 show (match (if ds.length < sizeLine then some (D.sc .non, Kd.lst, ds ++ [d]) else none) with | some (r, k', ds') => Rs.ok (r, δ.set i (.node k' true ds')) | none => .stuck) = _
 rw [if_pos h]
theorem Zft (i : Nat) (δ : List D) (d : D) (ds : List D) (n : Int) (j : Nat) (h : ixN' ds.length n = some j) : mdR i δ (Zch (.sc (.int n)) d) (some (.node .lst true ds)) = .ok (.sc .non, δ.set i (.node .lst true (ds.set j d))) := by
 show (match ((ixN' ds.length n).map fun j => (D.sc .non, Kd.lst, ds.set j d)) with | some (r, k', ds') => Rs.ok (r, δ.set i (.node k' true ds')) | none => .stuck) = _
 rw [h]
 rfl
theorem Zt0 (i : Nat) (d : D) : appM i [d] = modS i (appD d) := (rfl)
noncomputable def ckR (δ : List D) : Option D -> Rs (Unit × List D)
 | some (.node .lst _ _) => .ok ((), δ)
 | _ => .stuck
theorem chkA (i : Nat) (δ : List D) : chkL i δ = ckR δ δ[i]? := by
 unfold chkL ckR
 cases δ[i]? with
 | none => rfl
 | some d => cases d with
  | node k o ds => cases k <;> rfl
  | _ => rfl
theorem Zt1 (δ : List D) (o : Bool) (ds : List D) : ckR δ (some (.node .lst o ds)) = .ok ((), δ) := (rfl)
theorem ix_l (ds : List D) (i : Int) : ixW2 (.nd .lst ds) (.sc (.int i)) = (ixN' ds.length i).bind fun j => ds[j]? := (rfl)
theorem ix_t (ds : List D) (i : Int) : ixW2 (.nd .tup ds) (.sc (.int i)) = (ixN' ds.length i).bind fun j => ds[j]? := (rfl)
theorem ZeI (n j : Nat) (h : j < n) : ixN' n (j : Int) = some j := by
 unfold ixN'
 rw [if_pos (Int.natCast_nonneg j), if_pos (by omega)]
 simp
end T
namespace T
open PySem PySem.Spec L2
section
variable {X : Cx} {a b c : Expr} {pos : Pos}
def r2C (K : Fg) (f : W -> W -> Option Bool) : R2 := fun x y H Q => ∃ (Hs : Hp) (w1 w2 : W) (m1 m2 : Bud) (t : Bool), Same Hs H /\ View K H Hs x w1 m1 /\ View K H Hs y w2 m2 /\ f w1 w2 = some t /\ Q (.bl t) H
theorem Zg3 (op : CmpOp) (hu : X.A.units + 64 < cLine) : OpR X (compareOp op) (r2C X.K (cmpW op)) := by
 intro pins s σ H x y v u Q I rx ry h
 obtain ⟨Hs, w1, w2, m1, m2, t, hs, v1, v2, e, q⟩ := h
 unfold cmpW at e
 split at e
 . rcases Zhi hs v1 v2 e with ⟨h3, rfl⟩ | ⟨d, f, h3, h4, h5, h6, rfl⟩
   . exact Zn6 pins s σ H _ _ v u Q I rx ry ⟨h3, q⟩
   . exact ZlN hu pins s σ H _ _ v u Q I rx ry ⟨d, f, h3, h4, h5, h6, q⟩
 . simp only [Option.map_eq_some_iff] at e
   obtain ⟨t, e, rfl⟩ := e
   rcases Zhi hs v1 v2 e with ⟨h3, rfl⟩ | ⟨d, f, h3, h4, h5, h6, rfl⟩
   . exact Zn7 pins s σ H _ _ v u Q I rx ry ⟨h3, q⟩
   . exact ZlO hu pins s σ H _ _ v u Q I rx ry ⟨d, f, h3, h4, h5, h6, q⟩
 . simp only [Option.map_eq_some_iff] at e
   obtain ⟨is, e, rfl⟩ := e
   cases v1
   cases v2 with
   | nd n r =>
    have ei := ZeO r e
    subst ei
    exact Zis pins s σ H _ _ v u Q I rx ry ⟨_, _, rfl, .inl (.inl (.inl n)), rfl, ZfZ _, by rw [if_neg Bool.false_ne_true, ZgO]; exact q⟩
 . rename_i i j _ _
   cases v1; cases v2
   cases op with
   | Lt => cases e; exact Zn8 pins s σ H _ _ v u Q I rx ry ⟨_, _, rfl, rfl, q⟩
   | LtE => cases e; exact Zn9 pins s σ H _ _ v u Q I rx ry ⟨_, _, rfl, rfl, q⟩
   | Gt => cases e; exact ZnA pins s σ H _ _ v u Q I rx ry ⟨_, _, rfl, rfl, q⟩
   | GtE => cases e; exact ZnB pins s σ H _ _ v u Q I rx ry ⟨_, _, rfl, rfl, q⟩
   | _ => cases e
 . cases e
noncomputable def Zjs (op op' : CmpOp) (ca cb cc : M Op) : M D := ca.bnd fun p => cb.bnd fun q => (view p).bnd fun x => (view q).bnd fun y => (lift (cmpW op x y)).bnd fun t => if t then cc.bnd fun r => (view q).bnd fun y => (view r).bnd fun z => lift ((cmpW op' y z).map fun t => .sc (.bl t)) else M.ret (.sc (.bl false))
theorem Zi1 {op op' : CmpOp} {K : Fg} {ca cb cc : M Op} {σ : St} {H : Hp} {Q : VK} (h : tM K (Zjs op op' ca cb cc) σ H Q) :
 ZiT (r2C K (cmpW op)) (r2C K (cmpW op')) (tP K ca) (tP K cb) (tP K cc) σ H Q := by
 obtain ⟨δ, Hs, M, d, δ', g, s, e, q⟩ := h
 obtain ⟨p, δ1, e1, e⟩ := Zc e
 obtain ⟨p2, δ2, e2, e⟩ := Zc e
 obtain ⟨w1, δ3, e3, e⟩ := Zc e
 obtain ⟨w2, δ4, e4, e⟩ := Zc e
 obtain ⟨t, δ5, e5, e⟩ := Zc e
 obtain ⟨e5', rfl⟩ := Za8 e5
 refine seq2 g s e1 e2 fun x y H2 Hs2 m1 m2 M2 g2 st2 r1 r2 s2 => ?_
 obtain ⟨Hs3, M3, g3, st3, v1, v2, s3⟩ := Zlj g2 s2 r1 r2 e3 e4
 have z := Z1 (m1 := fun _ => 0) g (g2.re fun b => by simp) (st2.drop (fun b => by simp) g2.le) g3 st3
 have st : Stp H Hs M H2 Hs3 (fun b => (m1 b + m2 b) + M3 b) := z.2.1.drop (fun b => by simp) z.1.le
 refine ⟨Hs3, w1, w2, m1, m2, t, g3.sub, v1, v2, e5', t, rfl, ?_⟩
 cases t with
 | false =>
  rw [if_neg (by simp)]
  have := Zi (show T.M.ret (D.sc (.bl false)) _ = _ from e)
  cases this
  have G : Good H2 Hs3 (fun b => (fun _ => 0) b + M3 b) := g3.re fun b => by simp
  exact q _ _ Hs3 (fun _ => 0) M3 G (st.drop (fun b => by simp) g3.le) (.sc _ _) s3
 | true =>
  rw [if_pos rfl]
  rw [if_pos rfl] at e
  obtain ⟨p3, δ6, e6, e⟩ := Zc e
  obtain ⟨y2, δ7, e7, e⟩ := Zc e
  obtain ⟨z3, δ8, e8, e⟩ := Zc e
  obtain ⟨e9, rfl⟩ := Za8 e
  simp only [Option.map_eq_some_iff] at e9
  obtain ⟨t2, e9, rfl⟩ := e9
  have G2 : Good H2 Hs3 (fun b => m2 b + M3 b) := g3.re fun b => by omega
  have st2' : Stp H Hs M H2 Hs3 (fun b => m2 b + M3 b) := st.drop (fun b => by omega) g3.le
  refine ⟨_, Hs3, M3, p3, δ6, G2.re (fun b => by omega), s3, e6, fun z' H4 Hs4 m3 M4 g4 st4 r4 s4 => ?_⟩
  obtain ⟨G, S, k⟩ := Z1 g G2 st2' g4 st4
  have ry : RepP K H4 Hs4 σ y p2 m2 := (r2.frame st3.grow fun _ _ _ => rfl).frame st4.grow k
  have G' : Good H4 Hs4 (fun b => (m2 b + m3 b) + M4 b) := G.re fun b => by omega
  have S' : Stp H Hs M H4 Hs4 (fun b => (m2 b + m3 b) + M4 b) := S.drop (fun b => by omega) G.le
  obtain ⟨Hs5, M5, g5, st5, v5, v6, s5⟩ := Zlj G' s4 ry r4 e7 e8
  have z5 := Z1 (m1 := fun _ => 0) g (G'.re fun b => by simp) (S'.drop (fun b => by simp) G'.le) g5 st5
  have S5 : Stp H Hs M H4 Hs5 (fun b => (m2 b + m3 b) + M5 b) := z5.2.1.drop (fun b => by simp) z5.1.le
  refine ⟨Hs5, y2, z3, m2, m3, t2, g5.sub, v5, v6, e9, ?_⟩
  have G6 : Good H4 Hs5 (fun b => (fun _ => 0) b + M5 b) := g5.re fun b => by simp
  exact q _ _ Hs5 (fun _ => 0) M5 G6 (S5.drop (fun b => by simp) g5.le) (.sc _ _) s5
theorem Znc {op op' : CmpOp} {ca cb cc : M Op} (hu : X.A.units + 64 < cLine) (ha : PE X a (tP X.K ca)) (hb : PE X b (tP X.K cb)) (hc : PE X c (tP X.K cc)) (hm : lastMarks [op, op'] [b, c] = false := by with_unfolding_all rfl) :
 PE X (.Compare a [op, op'] [b, c] pos) (tM X.K (Zjs op op' ca cb cc)) := PE.imp (Zm7 (Zg3 op hu) (Zg3 op' hu) ha hb hc hm) fun σ H Q h => Zi1 h
theorem Zme {op op' : CmpOp} {ca cb cc : M Op} (hu : X.A.units + 64 < cLine) (ha : PE X a (tP X.K ca)) (hb : PE X b (tP X.K cb)) (hc : PE X c (tP X.K cc)) (hm : lastMarks [op, op'] [b, c] = false := by with_unfolding_all rfl) :
 PT X (.Compare a [op, op'] [b, c] pos) (tT X.K (ZcP (Zjs op op' ca cb cc))) := PT.imp (Zm8 (Zg3 op hu) (Zg3 op' hu) ha hb hc hm) fun σ H Q h => Zi1 (ZhH h)
end
section
variable {X : Cx} {e a b : Expr} {es : List Expr} {pos : Pos} {K : Fg}
theorem Zt2 {c : M Op} {f : W -> M D} {σ : St} {H : Hp} {Q : VK} (h : tM K ((c.bnd view).bnd f) σ H Q) : tP K c σ H fun x H1 => ∃ (Hs : Hp) (w : W) (m : Bud), View K H1 Hs x w m /\ tM K (f w) σ H1 Q := by
 obtain ⟨δ, Hs, M, d, δ', g, s, e, q⟩ := h
 obtain ⟨w, δ2, e, e5⟩ := Zc e
 obtain ⟨p, δ1, e1, e3⟩ := Zc e
 refine ⟨δ, Hs, M, p, δ1, g, s, e1, fun x H2 Hs2 m1 M2 g2 st2 r1 s2 => ?_⟩
 obtain ⟨Hs3, M3, g3, st3, v1, s3⟩ := ZbH (B := m1) g2 s2 r1 e3
 have z := Z1 (m1 := fun _ => 0) g (g2.re fun b => by simp) (st2.drop (fun b => by simp) g2.le) g3 st3
 have st : Stp H Hs M H2 Hs3 (fun b => m1 b + M3 b) := z.2.1.drop (fun b => by simp) z.1.le
 have G : Good H2 Hs3 (fun b => (fun _ => 0) b + M3 b) := g3.re fun b => by simp
 have st' : Stp H Hs M H2 Hs3 (fun b => (fun _ => 0) b + M3 b) := st.drop (fun b => by simp) g3.le
 refine ⟨Hs3, w, m1, v1, δ2, Hs3, M3, d, δ', g3.re, s3, e5, fun v H' Hs' m M' g' sx r s' => q v H' Hs' m M' g' ?_ r s'⟩
 have z2 := Z1 (m1 := fun _ => 0) g G st' g' sx
 exact z2.2.1.drop (fun b => by simp) z2.1.le
def PF (X : Cx) (es : List Expr) (f : Str -> M D) : Prop := ∃ ts, PEs X es ts /\ ∀ acc σ H Q, tM X.K (f acc) σ H Q -> ZiO ts acc σ H Q
theorem ZnN : PF X [] fun acc => M.ret (.sc (.str acc)) := ⟨[], .nil, fun acc σ H Q ⟨δ, Hs, M, d, δ', g, s, e, q⟩ => by
 have := Zi e
 cases this
 exact q _ H Hs (fun _ => 0) M (Zc3 g) (stp0 H Hs M) (.sc _ _) s⟩
theorem Zjt {α : Type} {o : Option α} {f : α -> M D} {σ : St} {H : Hp} {Q : VK} (h : tM K ((lift o).bnd f) σ H Q) : ∃ a, o = some a /\ tM K (f a) σ H Q := by
 obtain ⟨δ, Hs, M, d, δ', g, s, e, q⟩ := h
 obtain ⟨a, δ1, e1, e2⟩ := Zc e
 obtain ⟨e3, rfl⟩ := Za8 e1
 exact ⟨a, e3, δ1, Hs, M, d, δ', g, s, e2, q⟩
theorem ZkB {H Hs : Hp} {x : V} {w : W} {m : Bud} {acc z : Str} (v : View K H Hs x w m) (h : fmtW acc w = some z) : ∃ y, fmtV x = some y /\ y.length <= sizeLine /\ (acc ++ y).length <= sizeLine /\ z = acc ++ y := by
 cases v with
 | sc v m =>
  have h : ((fmtD x).bind fun z => if z.length <= sizeLine /\ (acc ++ z).length <= sizeLine then some (acc ++ z) else none) = some z := h
  simp only [Option.bind_eq_some_iff] at h
  obtain ⟨y, h1, h2⟩ := h
  split at h2
  . rename_i hl
    cases h2
    exact ⟨y, h1, hl.1, hl.2, rfl⟩
  . cases h2
 | nd n r => cases h
theorem ZnO {ca : M Op} {f : Str -> M D} (ha : PE X e (tP X.K ca)) (hr : PF X es f) : PF X (.FormattedValue e (-1) none pos :: es) fun acc => (ca.bnd view).bnd fun w => (lift (fmtW acc w)).bnd f := by
 obtain ⟨ts, h1, h2⟩ := hr
 refine ⟨_ :: ts, .cons (Zqg ha) h1, fun acc σ H Q h => ?_⟩
 obtain ⟨δ, Hs, M, p, δ1, g, s, e1, q⟩ := Zt2 h
 refine ⟨δ, Hs, M, p, δ1, g, s, e1, fun x H1 Hs1 m M1 g1 st1 r1 s1 => ?_⟩
 obtain ⟨Hs2, w, m2, v, h3⟩ := q x H1 Hs1 m M1 g1 st1 r1 s1
 obtain ⟨z, h4, h5⟩ := Zjt h3
 obtain ⟨y, a1, a2, a3, rfl⟩ := ZkB v h4
 exact ⟨y, a1, a2, y, rfl, a3, h2 _ _ _ _ h5⟩
theorem ZnP {z : Str} {f : Str -> M D} {j pos'} (hr : PF X es f) : PF X (.Constant (.str z) j pos' :: es) fun acc => (((M.ret (D.sc (.str z))).bnd fun d => M.ret (Op.tmp d)).bnd view).bnd fun w => (lift (fmtW acc w)).bnd f := by
 obtain ⟨ts, h1, h2⟩ := hr
 refine ⟨_ :: ts, .cons ZiS h1, fun acc σ H Q h => ?_⟩
 have h' : tM X.K ((lift (fmtW acc (.sc (.str z)))).bnd f) σ H Q := h
 obtain ⟨y, h4, h5⟩ := Zjt h'
 obtain ⟨y, a1, a2, a3, rfl⟩ := ZkB (K := X.K) (H := H) (Hs := H) (View.sc (V.str z) (fun _ => 0)) h4
 cases a1
 exact ⟨_, rfl, a3, h2 _ _ _ _ h5⟩
theorem ZnQ {f : Str -> M D} (h : PF X (a :: b :: es) f) : PE X (.JoinedStr (a :: b :: es) pos) (tM X.K (f Str.empty)) := by
 obtain ⟨ts, h1, h2⟩ := h
 exact PE.imp (Zow h1) fun σ H Q h => h2 _ _ _ _ h
end
end T
namespace T
open PySem PySem.Spec L2
section
variable {X : Cx} {a b o e k : Expr} {pos pos' : Pos} {i : Nat} {lk : Nat -> Bool}
theorem Zbw {ca cb : M Op} (hu : X.A.units + 64 < cLine) (ha : PE X a (tP X.K ca)) (hb : PE X b (tP X.K cb)) (hs : ZhC b := by intro _ _; rfl) :
 PE X (.Subscript a b pos) (tM X.K (ca.bnd fun p => cb.bnd fun q => (view p).bnd fun x => (view q).bnd fun y => lift (ixW2 x y))) := ZrP ha hb hs
theorem ZeJ {op : CmpOp} {ca cb : M Op} (hu : X.A.units + 64 < cLine) (ha : PE X a (tP X.K ca)) (hb : PE X b (tP X.K cb)) (hm : behindInMarks op b = false := by first | exact nomark _ | with_unfolding_all rfl) :
 PE X (.Compare a [op] [b] pos) (tM X.K (ca.bnd fun p => cb.bnd fun q => (view p).bnd fun x => (view q).bnd fun y => lift ((ZaX op x y).map fun t => .sc (.bl t)))) := Zqm hu ha hb hm
theorem ZZ {op : CmpOp} {ca cb : M Op} (hu : X.A.units + 64 < cLine) (ha : PE X a (tP X.K ca)) (hb : PE X b (tP X.K cb)) (hm : behindInMarks op b = false := by first | exact nomark _ | with_unfolding_all rfl) :
 PT X (.Compare a [op] [b] pos) (tT X.K (ZcP (ca.bnd fun p => cb.bnd fun q => (view p).bnd fun x => (view q).bnd fun y => lift ((ZaX op x y).map fun t => .sc (.bl t))))) := Zo3 hu ha hb hm
theorem ZcW {c : M D} {ck : M Op} (hu : X.A.units + 64 < cLine) (ho : PE X o (tVar i)) (hk : PE X k (tP X.K ck)) (he : PE X e (tM X.K c))
 (ha : ∀ v, assign (.Subscript o k pos') X.env v = (do
  let ov <- holding [v] (eval o X.env)
  let iv <- holding [v, ov] (eval k X.env)
  standAt pos'
  holding [v, ov, iv] (setItem ov iv v)
  release [v, ov, iv] []) := by intro _; rfl)
 (hs : swapsWithSole [.Subscript o k pos'] e pos.line X.env = pure false := by rfl) (hw : swappedStores [.Subscript o k pos'] e X.env = pure none := by rfl)
 (h1 : (assignEach [.Subscript o k pos'] X.env).map (·.2) = [assign (.Subscript o k pos') X.env] := by rfl) :
 PS X (.Assign [.Subscript o k pos'] e pos) (tS X.K lk (c.bnd fun d => (ZaG i).bnd fun _ => (ck.bnd view).bnd fun w => (modS i (Zch w d)).bnd fun _ => M.ret .nx)) := Zqv ho hk he ha hs hw h1
end
end T
namespace T
open PySem PySem.Spec L2
theorem Zgb : ∀ (c : Int) (ds : List D), (Zah c ds).length = ds.length
 | _, [] => rfl
 | c, d :: ds => by rw [Zah, List.length_cons, List.length_cons, Zgb]
theorem Zju : ∀ (c : Int) (ds : List D) (i : Nat) {d : D}, (Zah c ds)[i]? = some d -> ∃ x, ds[i]? = some x /\ d = .node .tup false [.sc (.int (c + i)), x]
 | _, [], i, _, h => by simp [Zah] at h
 | c, x :: ds, 0, d, h => by
  rw [Zah, List.getElem?_cons_zero] at h
  cases h
  exact ⟨x, rfl, by simp⟩
 | c, x :: ds, i + 1, d, h => by
  rw [Zah, List.getElem?_cons_succ] at h
  obtain ⟨y, e1, e2⟩ := Zju (c + 1) ds i h
  refine ⟨y, by rw [List.getElem?_cons_succ]; exact e1, ?_⟩
  have z : c + 1 + (i : Int) = c + ((i + 1 : Nat) : Int) := by omega
  rw [e2, z]
theorem Zmf {K : Fg} {a : Addr} {vs : List V} {ds : List D} {B : Bud} {c : Int} : Walk K (Ite K a c) (Zah c ds) B (fun H Hs => (SqL K Hs a vs \/ (H a = some (.lst vs) /\ B a ≥ 1)) /\ RepL K H Hs vs ds (fun _ => 0)) := by
 have sq : ∀ {H Hs : Hp}, Same Hs H -> (SqL K Hs a vs \/ (H a = some (.lst vs) /\ B a ≥ 1)) -> SqL K H a vs := fun g h => h.elim (fun h => g.seq h) fun h => .inl (.inl h.1)
 refine ⟨fun h g k => ⟨?_, h.2.frame g fun b hb => absurd hb (by simp)⟩, fun {H Hs i} g h l => ?_, fun {H Hs H' i x d} g h e y => ?_, fun {H Hs i} g h l => ?_⟩
 . rcases h.1 with h | ⟨h, hb⟩
   . exact .inl (g.seq h)
   . exact .inr ⟨(k a hb (by rw [h]; simp)).trans h, hb⟩
 . have e := h.2.len
   rw [Zgb] at l
   exact ⟨vs, _, sq g h.1, List.getElem?_eq_getElem (show i < vs.length by omega)⟩
 . obtain ⟨x1, e1, e2⟩ := Zju c ds i e
   subst e2
   obtain ⟨A, y1, rfl, hA, rfl, hy⟩ := y
   obtain ⟨v, m1, ev, rv, lv⟩ := h.2.at e1
   have hv := hy vs (sq g h.1)
   rw [ev] at hv
   cases hv
   have gr : Grow H Hs (upd H A (.tup [.int (c + i), y1])) (upd Hs A (.tup [.int (c + i), y1])) := .inr ⟨A, _, hA, rfl, rfl⟩
   obtain ⟨sm, fr, _⟩ := gr.same g
   refine ⟨_, gr, .shd (k := .tup) (vs := [.int (c + i), y1]) (show _ = some _ from Zv) (.cons (m1 := fun _ => 0) (m2 := fun _ => 0) (.sc _ _) (.cons (m1 := fun _ => 0) (m2 := fun _ => 0) ((rv.mono lv).frame sm fun b _ n => fr b n) (.nil _) fun b => by simp) fun b => by simp)⟩
 . have e := h.2.len
   rw [Zgb] at l
   exact ⟨vs, sq g h.1, by omega⟩
theorem Zrb {c cb : M Op} {n : Int} {δ δ' : List D} {h : List W × List (Nat × D)} (hcb : ∀ δ, cb δ = .ok (.tmp (.sc (.int n)), δ)) (e : ((c.bnd fun p => (cb.bnd fun p => (M.ret ([] : List Op)).bnd fun ps => M.ret (p :: ps)).bnd fun ps => M.ret (p :: ps)).bnd ZD) δ = .ok (h, δ')) :
 ∃ p δ1 w, c δ = .ok (p, δ1) /\ holdV p δ1 = .ok (w, δ') /\ h = ([w.1, .sc (.int n)], w.2.toList) := by
 obtain ⟨ps, δ1, e1, e2⟩ := Zc e
 obtain ⟨p, δ2, e3, e4⟩ := Zc e1
 obtain ⟨qs, δ3, e5, e6⟩ := Zc e4
 obtain ⟨p2, δ4, e7, e8⟩ := Zc e5
 rw [hcb] at e7
 cases e7
 obtain ⟨z, δ5, e9, e10⟩ := Zc e8
 have := Zi e9
 cases this
 have := Zi e10
 cases this
 have := Zi e6
 cases this
 obtain ⟨w, δ6, e11, e12⟩ := Zc e2
 obtain ⟨ws, δ7, e13, e14⟩ := Zc e12
 obtain ⟨w2, δ8, e15, e16⟩ := Zc e13
 have := Zi e15
 cases this
 obtain ⟨z, δ9, e17, e18⟩ := Zc e16
 have := Zi e17
 cases this
 have := Zi e18
 cases this
 have := Zi e14
 cases this
 exact ⟨p, _, w, e3, e11, by simp⟩
theorem Zt3 {X : Cx} {x : Str} {i : Int} {p : Pos} (hg : Gl X x) (h : ∃ t, X.mg x = some (.int i t)) (hd : (x == ("__debug__" : Str)) = false) : PE X (.Name x p) (tM X.K (M.ret (.sc (.int i)))) := by
 obtain ⟨t, h⟩ := h
 exact ok_k (ZaQ hg h ⟨t, rfl⟩ hd)
theorem ZiP {X : Cx} {es : List Expr} {k1 : Nat} {q : Pos} {is : List Nat} (hc : X.calm = true) (hg : PGs X es (gNs is)) (hn : (assignEach es X.env).length = is.length := by rfl) (hst : (assignEach es X.env).findIdx? (·.1) = none := by rfl) : PG X (.Tuple es k1 q) (gT X.K (.tup is)) := ZlY hc hg hn hst
section
variable {X : Cx} {es : List Expr} {k1 : Nat} {l ke : Expr} {ca cb : M Op} {p pos q kp : Pos} {c : Int}
theorem ZkC (hl : PE X l (tP X.K ca)) (hcb : ∀ δ, cb δ = .ok (.tmp (.sc (.int c)), δ)) (σ : St) (H : Hp) (R : It -> Hp -> Prop) (h : tI X.K .enum (ca.bnd fun p => (cb.bnd fun p => (M.ret ([] : List Op)).bnd fun ps => M.ret (p :: ps)).bnd fun ps => M.ret (p :: ps)) σ H R) : Zlb X.K c (ZkS (tP X.K ca) tNil) σ H R /\ Builtin.SmallTypes.fitsIndex c = true := by
 obtain ⟨δ, Hs, M, h, items, δ', g, s, e, ei, z⟩ := h
 obtain ⟨p, δ1, w, e1, e2, rfl⟩ := Zrb hcb e
 obtain ⟨w1, w2⟩ := w
 have core : ∀ (x : V) (H2 Hs2 : Hp) (m1 M2 : Bud), Good H2 Hs2 (fun b => m1 b + M2 b) -> Stp H Hs M H2 Hs2 (fun b => m1 b + M2 b) -> RepP X.K H2 Hs2 σ x p m1 -> RepS X.K H2 Hs2 σ δ1 M2 ->
  ∃ Hs3 B M3, Good H2 Hs3 (fun b => B b + M3 b) /\ Stp H Hs M H2 Hs3 (fun b => B b + M3 b) /\ RepS X.K H2 Hs3 σ δ' M3 /\ Held X.K H2 Hs3 σ w2.toList B /\ HW X.K H2 Hs3 B x w1 := fun x H2 Hs2 m1 M2 g2 st2 r1 s2 => by
  obtain ⟨Hs3, B, M3, g3, st3, s3, hh, hw⟩ := ZhM g2 s2 r1 e2
  have z := Z1 (m1 := fun _ => 0) g (g2.re fun b => by simp) (st2.drop (fun b => by simp) g2.le) g3 st3
  exact ⟨Hs3, B, M3, g3, z.2.1.drop (fun b => by simp) z.1.le, s3, hh, hw⟩
 have fit : okR c = true -> Builtin.SmallTypes.fitsIndex c = true := fun h => by
  simp only [okR, Bool.and_eq_true, decide_eq_true_eq] at h
  simp only [Builtin.SmallTypes.fitsIndex, Bool.and_eq_true, decide_eq_true_eq]
  omega
 cases w1 with
 | sc u => cases ei
 | nd k ds =>
  have hkk : (k = .lst \/ k = .frl) /\ okR c = true /\ items = Zah c ds := by
   simp only [itW, ZnJ] at ei
   split at ei
   . rename_i hk; cases ei; exact ⟨hk.1, hk.2, rfl⟩
   . cases ei
  obtain ⟨hk, hc, rfl⟩ := hkk
  refine ⟨⟨δ, Hs, M, p, δ1, g, s, e1, fun x H2 Hs2 m1 M2 g2 st2 r1 s2 => ?_⟩, fit hc⟩
  obtain ⟨Hs3, B, M3, g3, st3, s3, hh, a, vs, hx, hr, hn⟩ := core x H2 Hs2 m1 M2 g2 st2 r1 s2
  have hp : SqL X.K Hs3 a vs \/ (H2 a = some (.lst vs) /\ B a ≥ 1) := by
   rcases hk with rfl | rfl
   . exact hn.elim (fun n => .inl (.inl (.inl n))) fun n => .inr n
   . exact hn.elim (fun n => .inl n) fun n => n.1.elim
  refine ⟨a, by rw [hx], ⟨vs, ?_⟩, z _ _ H2 Hs3 B M3 g3 st3 s3 hh Zmf ⟨hp, hr⟩⟩
  rcases hp with hp | hp
  . exact g3.sub.seq hp
  . exact .inl (.inl hp.1)
theorem ZgP (hg : Gl X "enumerate") (hm : X.mg "enumerate" = none) (hl : PE X l (tP X.K ca)) (hcb : ∀ δ, cb δ = .ok (.tmp (.sc (.int 0)), δ) := by intro _; rfl) (hs : starEach [l] X.env = [(false, eval l X.env)] := by rfl) :
 PI X (.Tuple es k1 q) (.Call (.Name "enumerate" p) [l] [] pos) (tI X.K .enum (ca.bnd fun p => (cb.bnd fun p => (M.ret ([] : List Op)).bnd fun ps => M.ret (p :: ps)).bnd fun ps => M.ret (p :: ps))) := PI.imp (Zo1 hg hm (Zbg hl ZcA (by rw [hs]; rfl)) hs) fun σ H R h => (ZkC hl hcb σ H R h).1
theorem Znd (hg : Gl X "enumerate") (hm : X.mg "enumerate" = none) (hl : PE X l (tP X.K ca)) (hke : PE X ke (tC (.int c))) (hcb : ∀ δ, cb δ = .ok (.tmp (.sc (.int c)), δ) := by intro _; rfl) (hs : starEach [l] X.env = [(false, eval l X.env)] := by rfl) :
 PI X (.Tuple es k1 q) (.Call (.Name "enumerate" p) [l] [⟨some "start", ke, kp⟩] pos) (tI X.K .enum (ca.bnd fun p => (cb.bnd fun p => (M.ret ([] : List Op)).bnd fun ps => M.ret (p :: ps)).bnd fun ps => M.ret (p :: ps))) := fun pins s σ H R I h => by
 obtain ⟨h1, h2⟩ := ZkC hl hcb σ H R h
 exact ZmS hg hm (Zbg hl ZcA (by rw [hs]; rfl)) hke h2 hs pins s σ H R I h1
end
end T
namespace T
open PySem PySem.Spec L2 PySem.W
noncomputable abbrev dI (xs : List Int) : List D := xs.map fun i => D.sc (.int i)
theorem ZaC (x : Int) (xs : List Int) : dI (x :: xs) = .sc (.int x) :: dI xs := (rfl)
theorem Zek : dI [] = [] := (rfl)
theorem Zdr (xs ys : List Int) : dI (xs ++ ys) = dI xs ++ dI ys := List.map_append
theorem Zbx (xs : List Int) : (dI xs).length = xs.length := List.length_map _
theorem Zw (xs : List Int) : shrL (dI xs) = dI xs := by
 induction xs with
 | nil => rfl
 | cons x xs ih => simp only [List.map_cons, shrL, shr] at ih ⊢; rw [ih]
theorem ZdX (xs : List Int) : Zbu (dI xs) = some xs := by
 induction xs with
 | nil => rfl
 | cons x xs ih => simp only [List.map_cons, Zbu] at ih ⊢; rw [ih]; rfl
theorem Zt4 (ds : List D) : bfW .sum [.nd .lst ds] = (Zbu ds).map fun is => .sc (.int is.sum) := (rfl)
theorem ZgQ (xs : List Int) : bfW .sum [.nd .lst (dI xs)] = some (.sc (.int xs.sum)) := by rw [Zt4, ZdX]; rfl
theorem ZdY (w : W) : bfW (.isi .bool) [w] = (tyW .bool w).map fun b => .sc (.bl b) := (rfl)
theorem Zne (xs : List Int) : pyL (dI xs) = some (xs.map PyData.int) := by
 induction xs with
 | nil => rfl
 | cons x xs ih => simp only [List.map_cons, pyL, py] at ih ⊢; rw [ih]; rfl
theorem Znf (xs : List Int) : PyData.canLayAll0 (xs.map PyData.int) = true := by
 induction xs with
 | nil => rfl
 | cons x xs ih => simp only [List.map_cons, PyData.canLayAll0, PyData.canLay0, ih, Bool.and_self]
theorem Zmg (xs : List Int) : PyData.depthAll (xs.map PyData.int) = 0 := by
 induction xs with
 | nil => rfl
 | cons x xs ih => simp only [List.map_cons, PyData.depthAll, PyData.depth, ih, Nat.max_self]
theorem ZgH (xs : List Int) : SeqAt.shaped (.list (xs.map PyData.int)) = true := by
 simp only [SeqAt.shaped, PyData.canLay0, PyData.depth, Znf, Zmg]
 decide
theorem Zjv : ∀ xs ys : List Int, PyData.eqvAll (xs.map PyData.int) (ys.map PyData.int) = decide (xs = ys)
 | [], [] => by simp only [List.map_nil, PyData.eqvAll, decide_true]
 | [], y :: ys => by simp [PyData.eqvAll]
 | x :: xs, [] => by simp [PyData.eqvAll]
 | x :: xs, y :: ys => by
  simp only [List.map_cons, PyData.eqvAll, PyData.eqv, Zjv xs ys]
  (by_cases h1 : x = y <;> by_cases h2 : xs = ys <;> simp [h1, h2])
theorem ZnR (xs ys : List Int) : ZaX .Eq (.nd .lst (dI xs)) (.nd .lst (dI ys)) = some (decide (xs = ys)) := by
 show (py (.node .lst false (dI xs))).bind (fun a => (py (.node .lst false (dI ys))).bind fun b => eqPy a b) = _
 simp only [py, Zne, Option.map_some, Option.bind_some]
 unfold eqPy
 rw [if_pos ⟨ZgH xs, ZgH ys⟩]
 simp only [PyData.eqv, Zjv]
noncomputable def cutI (xs : List Int) (lo hi : Option Int) : List Int := (xs.drop (HT.sIx xs.length 0 lo)).take (HT.sIx xs.length xs.length hi - HT.sIx xs.length 0 lo)
theorem Zng (xs : List Int) (lo hi : Option Int) : cutD (dI xs) lo hi = dI (cutI xs lo hi) := by
 unfold cutD cutI
 simp only [List.length_map, List.map_take, List.map_drop]
theorem Znh (xs : List Int) (k : Nat) : cutI xs (some (k : Int)) (some ((k : Int) + 1)) = (xs[k]?).toList := by
 unfold cutI
 have e1 : ((k : Int) + 1) = ((k + 1 : Nat) : Int) := by omega
 rw [e1, HT.Zkw, HT.Zkw]
 by_cases h : k < xs.length
 . rw [Nat.min_eq_left (by omega), Nat.min_eq_left (by omega), List.getElem?_eq_getElem h, List.drop_eq_getElem_cons h]
   have : k + 1 - k = 1 := by omega
   rw [this]
   rfl
 . rw [Nat.min_eq_right (by omega), Nat.min_eq_right (by omega), List.getElem?_eq_none (by omega)]
   simp
noncomputable def rngI : Int -> Nat -> List Int
 | _, 0 => []
 | a, n + 1 => a :: rngI (a + 1) n
theorem ZoM (a : Int) : ∀ (n : Nat) (f : Nat -> Int), (∀ k, f k = a + k) -> (List.range n).map (fun k => D.sc (.int (f k))) = dI (rngI a n) := by
 intro n
 induction n generalizing a with
 | zero => intro f _; rfl
 | succ n ih =>
  intro f hf
  (rw [List.range_succ_eq_map, List.map_cons, List.map_map])
  show _ = D.sc (.int a) :: dI (rngI (a + 1) n)
  have h0 : f 0 = a := by rw [hf]; simp
  rw [h0]
  congr 1
  exact ih (a + 1) (fun k => f (k + 1)) fun k => by rw [hf]; omega
theorem Zni (a b : Int) : rng a b = dI (rngI a (b - a).toNat) := ZoM a _ (fun k => a + k) fun k => rfl
theorem Znj (a : Int) : ∀ n, (rngI a n).length = n := by
 intro n
 induction n generalizing a with
 | zero => rfl
 | succ n ih => rw [rngI, List.length_cons, ih]
theorem Zjw (a : Int) : ∀ n x, x ∈ rngI a n ↔ a <= x /\ x < a + n := by
 intro n
 induction n generalizing a with
 | zero => intro x; simp only [rngI, List.not_mem_nil, false_iff]; omega
 | succ n ih => intro x; rw [rngI, List.mem_cons, ih]; omega
theorem ZiQ (n : Int) (h : -(2 ^ 62) <= n /\ n < 2 ^ 62) : itW .rng1 [.sc (.int n)] = some (dI (rngI 0 n.toNat)) := by
 rw [it_1 n (by simp only [okR, Bool.and_eq_true, decide_eq_true_eq]; exact h), Zni]
 have : n - 0 = n := by omega
 rw [this]
theorem it_e (ds : List D) (c : Int) (h : -(2 ^ 62) <= c /\ c < 2 ^ 62) : itW .enum [.nd .lst ds, .sc (.int c)] = some (Zah c ds) := by
 show (if _ then _ else _) = _
 rw [if_pos ⟨.inl rfl, by simp only [okR, Bool.and_eq_true, decide_eq_true_eq]; exact h⟩]
theorem Zcp (lk : Nat -> Bool) (is : List Nat) (o : Bool) (ds : List D) : asgT lk (.tup is) (.node .tup o ds) = ZcO lk is ds := (rfl)
theorem ixI (xs : List Int) (k : Int) (h0 : 0 <= k) (h : k < xs.length) : ((ixN' (dI xs).length k).bind fun j => (dI xs)[j]?) = some (.sc (.int (xs.getD k.toNat 0))) := by
 rw [List.length_map]
 unfold ixN'
 rw [if_pos h0, if_pos h]
 (have hk : k.toNat < xs.length := by omega)
 show (dI xs)[k.toNat]? = _
 rw [List.getElem?_map, List.getElem?_eq_getElem hk, List.getD_eq_getElem?_getD, List.getElem?_eq_getElem hk]
 rfl
noncomputable def notV : E -> Bool
 | .v _ => false
 | _ => true
theorem Zhs {e : E} {c : M D} {lk : Nat -> Bool} (h : notV e = true) : ZeH (Zs e c) lk := by
 rw [ZoA fun j z => by subst z; cases h]
 exact Zqx
section
variable {asg : D -> M Unit} {cond : M Bool} {elt : M D} {d : D} {ds acc δ δ' δ1 caps : List D} {k : Nat} {js : List Nat} {loop : M (List D)}
theorem ZcE : ZaR asg cond elt (d :: ds) acc δ = ((asg d).bnd fun _ => cond.bnd fun b => if b then elt.bnd fun x => ZaR asg cond elt ds (acc ++ [x]) else ZaR asg cond elt ds acc) δ := (rfl)
noncomputable def ZbE (fok : Addr -> Str -> Bool) (fuel k : Nat) (tg : Tg) (cond : List E) (elt : E) (items acc : List D) : M (List D) := ZaR (asgT (fun i => decide (k <= i)) tg) (tsts ⟨fun i => decide (k <= i), fok, fuel⟩ cond) (evb ⟨fun i => decide (k <= i), fok, fuel⟩ elt).1 items acc
theorem ZoN (C : Ctx) (k : Nat) (js : List Nat) (tg : Tg) (ik : IK) (es es' : List E) (a : E) : (evb C (.comp k js tg ik es es' a)).1 = ((opds C es).bnd fun ps => (ZD ps).bnd fun h => (lift (itW ik h.1)).bnd fun items => (ZbD k js (ZbE C.fok C.fuel k tg es' a items [])).bnd fun d => (Zan h.2).bnd fun _ => M.ret d) := (rfl)
theorem ZbP (h1 : ZdL js δ = .ok (caps, δ1)) (h2 : loop (List.replicate k .hole ++ caps) = .ok (acc, δ')) (h3 : acc.length <= sizeLine) : ZbD k js loop δ = ((Zc2 js (δ'.drop k)).bnd fun _ => M.ret (.node .lst true acc)) δ1 := by
 unfold ZbD
 rw [Zmd h1, h2]
 show ((Zc2 js (δ'.drop k)).bnd fun _ => lift (newL acc)) δ1 = _
 rw [ZaS _ h3]
 rfl
end
end T
namespace T
open PySem PySem.Spec L2
theorem ZoO {K : Fg} {ca : M Op} {p : Bool} {σ : St} {H : Hp} {Q : Bool -> Hp -> Prop} (h : tT K ((((ca.bnd view).bnd fun x => M.ret (isNW p x)).bnd fun d => M.ret (.tmp d)).bnd fun q => (view q).bnd fun w => lift (truW w)) σ H Q) :
 tM K ((ca.bnd view).bnd fun x => M.ret (isNW p x)) σ H (fun x H' => ∃ k, x = .bl k /\ Q k H') := by
 obtain ⟨δ, Hs, M, b, δ', g, s, e, q⟩ := h
 obtain ⟨op, δ1, e1, e2⟩ := Zc e
 obtain ⟨d, δ2, e3, e4⟩ := Zc e1
 have := Zi e4
 cases this
 have hb : ∃ t, d = .sc (.bl t) := by
  obtain ⟨x, δ3, e5, e6⟩ := Zc e3
  have := Zi e6
  cases this
  cases x <;> exact ⟨_, rfl⟩
 obtain ⟨t, rfl⟩ := hb
 obtain ⟨w, δ4, e7, e8⟩ := Zc e2
 have := Zi (show T.M.ret (W.sc (.bl t)) δ1 = .ok (w, δ4) from e7)
 cases this
 obtain ⟨e9, rfl⟩ := Za8 e8
 cases e9
 refine ZhH (c := (ca.bnd view).bnd fun x => T.M.ret (isNW p x)) ⟨δ, Hs, M, _, _, g, s, ?_, q⟩
 unfold ZcP
 rw [Zmd e3]
 rfl
theorem Zbh (C : T.Ctx) (op op' : CmpOp) (a b e : E) : (evb C (.chain op op' a b e)).1 = ((Zs a (evb C a).1).bnd fun p => (Zs b (evb C b).1).bnd fun q => (view p).bnd fun x => (view q).bnd fun y => (lift (cmpW op x y)).bnd fun t => if t then (Zs e (evb C e).1).bnd fun r => (view q).bnd fun y => (view r).bnd fun z => lift ((cmpW op' y z).map fun t => .sc (.bl t)) else M.ret (.sc (.bl false))) := (rfl)
section
variable {X : Cx} {a : Expr} {pos pos' : Pos} {ca : M Op}
theorem Zfu (ha : PE X a (tP X.K ca)) {j} : PT X (.Compare a [.Is] [.Constant .none j pos'] pos) (tT X.K ((((ca.bnd view).bnd fun x => M.ret (isNW true x)).bnd fun d => M.ret (.tmp d)).bnd fun q => (view q).bnd fun w => lift (truW w))) := PT.imp (Zp5 (Zp4 ha)) fun σ H Q h => by
 have h2 : tM X.K ((ca.bnd view).bnd fun x => lift (some (isNW true x))) σ H _ := ZoO h
 exact op1 (r := fun x H1 Q => Q (.bl (decide (x = .non))) H1) h2 fun x H Hs w m d g h1 h2 v e o => by
  cases e
  rw [(ZoB v).1] at o
  exact o.sc
end
end T
namespace T
open PySem PySem.Spec L2
def NX {α : Type} (c : M α) : Prop := ∀ δ x δ', c δ ≠ .exc x δ'
section
variable {α β : Type}
theorem Zp (a : α) : NX (M.ret a) := fun δ x δ' h => by cases h
theorem Zat : NX (stk (α := α)) := fun δ x δ' h => by cases h
theorem Zf {c : M α} {f : α -> M β} (h : NX c) (k : ∀ a, NX (f a)) : NX (c.bnd f) := fun δ x δ' e => by
 unfold M.bnd at e
 split at e
 . exact k _ _ _ _ e
 . rename_i y z q; exact h _ _ _ q
 . cases e
theorem ZK (o : Option α) : NX (lift o) := by cases o <;> first | exact Zp _ | exact Zat
theorem Zgc {p : Prop} [Decidable p] {a b : M α} (h : NX a) (k : NX b) : NX (if p then a else b) := by split <;> assumption
end
theorem Zg4 (i : Nat) : NX (ZaG i) := fun δ x δ' h => by unfold ZaG at h; split at h <;> cases h
theorem ZaV {e : E} {c : M D} (h : NX c) : NX (Zs e c) := by
 cases e <;> first | exact Zg4 _ | exact Zf h fun _ => Zp _
theorem ZaD (p : Op) : NX (view p) := by
 cases p with
 | tmp d => cases d <;> first | exact Zp _ | exact Zat
 | late i => intro δ x δ' h; unfold view at h; dsimp only at h; split at h <;> cases h
theorem Zf8 : ∀ ps, NX (views ps)
 | [] => Zp _
 | p :: ps => Zf (ZaD p) fun _ => Zf (Zf8 ps) fun _ => Zp _
theorem ZhT (i : Nat) : NX (valV i) := fun δ x δ' h => by unfold valV at h; split at h <;> cases h
theorem ZoP (i : Nat) : NX (movV i) := fun δ x δ' h => by unfold movV at h; split at h <;> cases h
theorem Znk (l : Bool) (p : Op) : NX (takeA l p) := by
 cases p with
 | tmp d => exact Zp _
 | late i => intro δ x δ' h; unfold takeA at h; dsimp only at h; split at h <;> (first | cases h | (split at h <;> cases h))
theorem Zel (l : Bool) : ∀ ps, NX (Zbj l ps)
 | [] => Zp _
 | p :: ps => Zf (Znk l p) fun _ => Zf (Zel l ps) fun _ => Zp _
theorem Znl (p : Op) (d : D) : NX (giveA p d) := by
 cases p with
 | tmp d => exact Zp _
 | late i => intro δ x δ' h; unfold giveA at h; dsimp only at h; split at h <;> cases h
theorem Zgd : ∀ ps ds, NX (ZW ps ds)
 | p :: ps, d :: ds => Zf (Znl p d) fun _ => Zgd ps ds
 | [], _ => Zp _
 | _ :: _, [] => Zp _
theorem Zjx (f : FI) (ps : List Op) : NX (ZdW f ps) := Zf (Zel _ _) fun ds => by
 cases f.run ds with
 | ok r => exact Zf (Zgd _ _) fun _ => Zp _
 | exc x y => exact Zat
 | stuck => exact Zat
theorem ZoQ (A : Addr) (m : Str) (p : Op) : NX (chkI A m p) := by
 cases p with
 | late i => intro δ x δ' h; unfold chkI at h; dsimp only at h; split at h <;> (first | cases h | (split at h <;> cases h))
 | tmp d =>
  cases d with
  | node k o ds =>
   cases k with
   | ins B fs => intro δ x δ' h; unfold chkI at h; dsimp only at h; split at h <;> cases h
   | _ => exact Zat
  | _ => exact Zat
theorem ZoR (C : Addr) (f : FI) (ps : List Op) : NX (newF C f ps) := Zf (Zel _ _) fun ds => by
 cases f.run (.node (.ins C []) true [] :: ds) with
 | ok r =>
  obtain ⟨d, l⟩ := r
  cases d with
  | sc v =>
   cases v with
   | non =>
    cases l with
    | nil => exact Zat
    | cons d ds => exact Zf (Zgd _ _) fun _ => Zp _
   | _ => exact Zat
  | _ => exact Zat
 | exc x y => exact Zat
 | stuck => exact Zat
theorem Zg5 (lk : Nat -> Bool) (i : Nat) (d : D) : NX (asgN lk i d) := fun δ x δ' h => by unfold asgN at h; split at h <;> cases h
theorem Zf9 (lk : Nat -> Bool) : ∀ is ds, NX (ZcO lk is ds)
 | [], [] => Zp _
 | i :: is, d :: ds => Zf (Zg5 lk i d) fun _ => Zf9 lk is ds
 | [], _ :: _ => Zat
 | _ :: _, [] => Zat
theorem ZoS (lk : Nat -> Bool) (t : Tg) (d : D) : NX (asgT lk t d) := by
 cases t with
 | name i => exact Zg5 _ _ _
 | tup is =>
  cases d with
  | node k o ds => cases k <;> first | exact Zf9 _ _ _ | exact Zat
  | _ => exact Zat
theorem Zfv (i : Nat) (f : Kd -> List D -> Option (D × Kd × List D)) : NX (modS i f) := fun δ x δ' h => by
 unfold modS at h
 split at h
 . split at h <;> cases h
 . cases h
theorem ZoT (i : Nat) (ds : List D) : NX (appM i ds) := by
 unfold appM
 split
 . exact Zfv _ _
 . exact Zat
theorem ZkD (i : Nat) : NX (chkL i) := fun δ x δ' h => by unfold chkL at h; split at h <;> cases h
theorem Znm (p : Op) : NX (holdV p) := by
 cases p with
 | tmp d => cases d <;> first | exact Zp _ | exact Zat
 | late i => intro δ x δ' h; unfold holdV at h; dsimp only at h; split at h <;> cases h
theorem Zge : ∀ ps, NX (ZD ps)
 | [] => Zp _
 | p :: ps => Zf (Znm p) fun _ => Zf (Zge ps) fun _ => Zp _
theorem Zjy : ∀ h, NX (Zan h)
 | [] => Zp _
 | (i, d) :: r => fun δ x δ' e => Zjy r _ _ _ e
theorem Zht : ∀ js, NX (ZdL js)
 | [] => Zp _
 | j :: js => fun δ x δ' e => by
  unfold ZdL at e
  split at e
  . exact Zf (Zht js) (fun _ => Zp _) _ _ _ e
  . cases e
theorem Zhu : ∀ js ds, NX (Zc2 js ds)
 | j :: js, d :: ds => fun δ x δ' e => Zhu js ds _ _ _ e
 | [], _ => Zp _
 | _ :: _, [] => Zp _
theorem Znn (k : Nat) (js : List Nat) (l : M (List D)) : NX (ZbD k js l) := Zf (Zht js) fun caps δ x δ' e => by
 split at e
 . exact Zf (Zhu _ _) (fun _ => ZK _) _ _ _ e
 . cases e
 . cases e
theorem Zjz {e : E} {c : M Op} (h : NX c) : NX (Zff e c) := by
 unfold Zff
 split
 . exact Zp _
 . exact Zf (Zf h fun p => ZaD p) fun _ => ZK _
theorem ZoU {b : M D} (h : NX b) (w : W) : NX (andM b w) := by
 unfold andM
 split
 . exact h
 . exact Zp _
 . exact Zat
theorem Zrc {b : M D} (h : NX b) (w : W) : NX (T.orM b w) := by
 unfold T.orM
 split
 . exact h
 . exact Zp _
 . exact Zat
theorem Zj0 {c : M D} (h : NX c) : NX (ZcP c) := Zf h fun _ => ZK _
theorem ZT {e : E} {c : M D} (h : NX c) : NX (tdef e c) := Zf (ZaV h) fun p => Zf (ZaD p) fun _ => ZK _
theorem ZbJ {e : E} {c : M D} (h : NX c) : NX (vdef e c) := Zf (ZaV h) fun p => ZaD p
theorem ZoV (lk : Nat -> Bool) (is : List Nat) (w : W) : NX (unpM lk is w) := by
 unfold unpM
 split
 . exact Zf9 _ _ _
 . exact Zf9 _ _ _
 . exact Zat
mutual
theorem Zy (C : Ctx) : ∀ e : E, NX (evb C e).1 /\ NX (evb C e).2
 | .k v => ⟨Zp _, ZT (e := .k v) (c := M.ret (D.sc v)) (Zp _)⟩
 | .g d => ⟨Zp _, ZT (e := .g d) (Zp d)⟩
 | .v i => ⟨ZhT i, ZT (ZhT i)⟩
 | .bin op a b => by
  have h : NX (evb C (.bin op a b)).1 := Zf (ZaV (Zy C a).1) fun p => Zf (ZaV (Zy C b).1) fun q => Zf (ZaD p) fun x => Zf (ZaD q) fun y => ZK _
  exact ⟨h, ZT h⟩
 | .neg a => by
  have h : NX (evb C (.neg a)).1 := Zf (ZbJ (Zy C a).1) fun x => ZK _
  exact ⟨h, ZT h⟩
 | .cmp op a b => by
  have h : NX (evb C (.cmp op a b)).1 := Zf (ZaV (Zy C a).1) fun p => Zf (ZaV (Zy C b).1) fun q => Zf (ZaD p) fun x => Zf (ZaD q) fun y => ZK _
  exact ⟨h, Zj0 h⟩
 | .chain op op' a b e => by
  have h : NX (evb C (.chain op op' a b e)).1 := Zf (ZaV (Zy C a).1) fun p => Zf (ZaV (Zy C b).1) fun q => Zf (ZaD p) fun x => Zf (ZaD q) fun y => Zf (ZK _) fun t =>
   Zgc (Zf (ZaV (Zy C e).1) fun r => Zf (ZaD q) fun y => Zf (ZaD r) fun z => ZK _) (Zp _)
  exact ⟨h, Zj0 h⟩
 | .isN p a => by
  have h : NX (evb C (.isN p a)).1 := Zf (ZbJ (Zy C a).1) fun x => Zp _
  exact ⟨h, ZT h⟩
 | .isB c p a => by
  have h : NX (evb C (.isB c p a)).1 := Zf (ZbJ (Zy C a).1) fun x => ZK _
  exact ⟨h, ZT h⟩
 | .nt a => ⟨Zf (ZbJ (Zy C a).1) fun w => ZK _, Zf (Zy C a).2 fun b => Zp _⟩
 | .and a b => ⟨Zf (ZbJ (Zy C a).1) (ZoU (Zy C b).1), Zf (Zy C a).2 fun t => Zgc (Zy C b).2 (Zp _)⟩
 | .or a b => ⟨Zf (ZbJ (Zy C a).1) (Zrc (Zy C b).1), Zf (Zy C a).2 fun t => Zgc (Zp _) (Zy C b).2⟩
 | .ife c a b => by
  have h : NX (evb C (.ife c a b)).1 := Zf (Zy C c).2 fun t => Zgc (Zy C a).1 (Zy C b).1
  exact ⟨h, ZT h⟩
 | .ix a i => by
  have h : NX (evb C (.ix a i)).1 := Zf (ZaV (Zy C a).1) fun p => Zf (ZaV (Zy C i).1) fun q => Zf (ZaD p) fun x => Zf (ZaD q) fun y => ZK _
  exact ⟨h, ZT h⟩
 | .sl a lo hi => by
  have h : NX (evb C (.sl a lo hi)).1 := Zf (ZaV (Zy C a).1) fun p => Zf (Zjz (ZaV (Zy C lo).1)) fun q => Zf (Zjz (ZaV (Zy C hi).1)) fun x => Zf (ZaD p) fun y => ZK _
  exact ⟨h, ZT h⟩
 | .fld a f => by
  have h : NX (evb C (.fld a f)).1 := Zf (ZbJ (Zy C a).1) fun x => ZK _
  exact ⟨h, ZT h⟩
 | .lst es => by
  have h : NX (evb C (.lst es)).1 := Zf (Zhv C es) fun x => ZK _
  exact ⟨h, ZT h⟩
 | .tup es => by
  have h : NX (evb C (.tup es)).1 := Zf (Zhv C es) fun x => ZK _
  exact ⟨h, ZT h⟩
 | .kl vs => ⟨ZK _, ZT (ZK _)⟩
 | .kt vs => ⟨ZK _, ZT (ZK _)⟩
 | .dct0 => ⟨Zp _, ZT (e := .dct0) (c := M.ret (D.node (.dic []) true [])) (Zp _)⟩
 | .call f es => by
  have h : NX (evb C (.call f es)).1 := Zf (Zaz C es) fun x => Zjx _ _
  exact ⟨h, ZT h⟩
 | .bf f es => by
  have h : NX (evb C (.bf f es)).1 := Zf (Zaz C es) fun x => Zf (Zf8 _) fun _ => ZK _
  exact ⟨h, ZT h⟩
 | .bm m o es => by
  have h : NX (evb C (.bm m o es)).1 := Zf (ZbJ (Zy C o).1) fun w => Zf (ZK _) fun z => Zf (Zaz C es) fun x => Zf (Zf8 _) fun _ => ZK _
  exact ⟨h, ZT h⟩
 | .mut m i ps es => by
  have h1 : NX ((chkL i).bnd fun _ => (evs C es).bnd fun ds => appM i ds) := Zf (ZkD i) fun _ => Zf (Zhv C es) fun _ => ZoT _ _
  have h2 : ∀ m, NX ((chkL i).bnd fun _ => (opds C es).bnd fun ps => (views ps).bnd fun ws => modS i (mutD m ws)) := fun m => Zf (ZkD i) fun _ => Zf (Zaz C es) fun _ => Zf (Zf8 _) fun _ => Zfv _ _
  have h : NX (evb C (.mut m i ps es)).1 := by
   cases ps with
   | nil => cases m <;> first | exact h1 | exact h2 _
   | cons p ps => cases m <;> exact Zat
  exact ⟨h, ZT h⟩
 | .meth A m f o es => by
  have h : NX (evb C (.meth A m f o es)).1 := Zf (ZaV (Zy C o).1) fun p => Zf (ZoQ _ _ _) fun _ => Zf (Zaz C es) fun x => Zjx _ _
  exact ⟨h, ZT h⟩
 | .new A f es => by
  have h : NX (evb C (.new A f es)).1 := Zf (Zaz C es) fun x => ZoR _ _ _
  exact ⟨h, ZT h⟩
 | .comp k js tg ik ies cond elt => by
  have h : NX (evb C (.comp k js tg ik ies cond elt)).1 := Zf (Zaz C ies) fun ps => Zf (Zge _) fun h => Zf (ZK _) fun items => Zf (Znn _ _ _) fun d => Zf (Zjy _) fun _ => Zp _
  exact ⟨h, ZT h⟩
 | .fs es => by
  have h : NX (evb C (.fs es)).1 := Zmh C es _
  exact ⟨h, ZT h⟩
theorem Zmh (C : Ctx) : ∀ (es : List E) (acc : Str), NX (fss C es acc)
 | [], acc => Zp _
 | e :: es, acc => Zf (ZbJ (Zy C e).1) fun w => Zf (ZK _) fun acc' => Zmh C es acc'
theorem Zaz (C : Ctx) : ∀ es : List E, NX (opds C es)
 | [] => Zp _
 | e :: es => Zf (ZaV (Zy C e).1) fun p => Zf (Zaz C es) fun ps => Zp _
theorem Zhv (C : Ctx) : ∀ es : List E, NX (evs C es)
 | [] => Zp _
 | e :: es => Zf (Zy C e).1 fun p => Zf (Zhv C es) fun ps => Zp _
end
theorem ZoW (C : Ctx) (e : E) : NX (retV C e) := by
 unfold retV
 split
 . exact Zgc (ZhT _) (ZoP _)
 . exact (Zy C _).1
noncomputable def leaf : S -> Bool
 | .asg _ _ => true | .unp _ _ => true | .sub _ [] _ _ => true | .attr _ _ _ => true | .attrX _ _ _ => true | .ex _ => true | .ret _ => true | .retN => true | .pass => true | .brk => true | .cnt => true
 | _ => false
theorem ZoX (C : Ctx) (s : S) (h : leaf s = true) : NX (ex C s) := by
 cases s with
 | asg i e => exact Zf (Zy C e).1 fun d => Zf (Zg5 _ _ _) fun _ => Zp _
 | unp is e => exact Zf (ZbJ (Zy C e).1) fun w => Zf (ZoV _ _ _) fun _ => Zp _
 | sub i ps x e =>
  cases ps with
  | nil => exact Zf (Zy C e).1 fun d => Zf (Zg4 i) fun _ => Zf (ZbJ (Zy C x).1) fun w => Zf (Zfv _ _) fun _ => Zp _
  | cons p ps => cases h
 | attr i f e => exact Zf (Zy C e).1 fun d => Zf (Zg4 i) fun _ => Zf (Zfv _ _) fun _ => Zp _
 | attrX i f e => exact Zf (Zy C e).1 fun d => Zf (Zg4 i) fun _ => Zf (Zfv _ _) fun _ => Zp _
 | ex e => exact Zf (Zy C e).1 fun _ => Zp _
 | ret e => exact Zf (ZoW C e) fun _ => Zp _
 | retN => exact Zp _
 | pass => exact Zp _
 | brk => exact Zp _
 | cnt => exact Zp _
 | _ => cases h
end T
namespace T
open PySem PySem.Spec L2
def Zg6 (K : Fg) (lk : Nat -> Bool) (xc : Addr -> St -> Hp -> Prop) (σ : St) (H Hs : Hp) (M : Bud) (x : D) (δ' : List D) : Prop :=
 ∀ (ea : Addr) (σ' : St) (H' Hs' : Hp) (m M' : Bud), Keeps lk σ σ' -> Good H' Hs' (fun b => m b + M' b) -> Stp H Hs M H' Hs' (fun b => m b + M' b) -> Rep K H' Hs' (.ref ea) x m -> RepS K H' Hs' σ' δ' M' -> xc ea σ' H'
def Zby (K : Fg) (lk : Nat -> Bool) (E : EndX) (σ : St) (H Hs : Hp) (M : Bud) : Rs (Fl × List D) -> Prop
 | .ok (f, δ') => Post K lk E.toEnds σ H Hs M f δ'
 | .exc x δ' => Zg6 K lk E.xc σ H Hs M x δ'
 | .stuck => False
def tX (K : Fg) (lk : Nat -> Bool) (c : M Fl) : TX := fun E σ H => ∃ (δ : List D) (Hs : Hp) (M : Bud), Good H Hs M /\ RepS K H Hs σ δ M /\ Zby K lk E σ H Hs M (c δ)
section
variable {K : Fg} {H H' Hs H0 Hs0 : Hp} {M M0 : Bud}
theorem Good.up (g : Good H Hs M) (k : Same H H') : Good H' Hs M := ⟨fun b o e => k b o (g.sub b o e), g.le, g.ne, fun b h => by
 have := g.has b h
 cases e : H b with
 | none => exact absurd e this
 | some o => rw [k b o e]; simp⟩
theorem Stp.up (s : Stp H0 Hs0 M0 H Hs M) (k : Same H H') : Stp H0 Hs0 M0 H' Hs M := ⟨fun b o e z => k b o (s.keep b o e z), s.own, s.grow, s.shr, fun b h => by
 have := s.stay b h
 cases e : H b with
 | none => exact absurd e this
 | some o => rw [k b o e]; simp⟩
theorem ZdN (k : Same H H') : ∀ b, H b ≠ none -> H' b = H b := fun b h => by
 cases e : H b with
 | none => exact absurd e h
 | some o => exact k b o e
theorem Zg6.ahead {lk : Nat -> Bool} {xc : Addr -> St -> Hp -> Prop} {σ σ1 : St} {H1 Hs1 : Hp} {M1 : Bud} {x : D} {δ' : List D} (k : Keeps lk σ σ1) (g : Good H Hs M) (g1 : Good H1 Hs1 M1) (st : Stp H Hs M H1 Hs1 M1) (h : Zg6 K lk xc σ H Hs M x δ') : Zg6 K lk xc σ1 H1 Hs1 M1 x δ' :=
 fun ea σ' H' Hs' m M' k' g' st' rv r => h ea σ' H' Hs' m M' (k.trans k') g' (by
  have z := Z1 (m1 := fun _ => 0) g (g1.re fun b => by simp) (st.drop (fun b => by simp) g1.le) g' st'
  exact z.2.1.drop (fun b => by simp) z.1.le) rv r
theorem Zby.ahead {lk : Nat -> Bool} {E : EndX} {σ σ1 : St} {H1 Hs1 : Hp} {M1 : Bud} {r : Rs (Fl × List D)} (k : Keeps lk σ σ1) (g : Good H Hs M) (g1 : Good H1 Hs1 M1) (st : Stp H Hs M H1 Hs1 M1) (h : Zby K lk E σ H Hs M r) : Zby K lk E σ1 H1 Hs1 M1 r := by
 cases r with
 | ok z => exact Post.ahead k g g1 st h
 | exc x δ' => exact Zg6.ahead k g g1 st h
 | stuck => exact h
end
section
variable {X : Cx} {e a b c o : Expr} {st : Stmt} {rest : List Stmt} {pos pos' : Pos} {lk : Nat -> Bool} {i : Nat} {x : Str}
theorem Zmi {c : M Fl} (h : PS X st (tS X.K lk c)) (n : NX c) : PX X st (tX X.K lk c) := PX.imp (PS.x h) fun E σ H ⟨δ, Hs, M, g, s, q⟩ => by
 cases e : c δ with
 | ok z => rw [e] at q; exact ⟨δ, Hs, M, z.1, z.2, g, s, e, q⟩
 | exc x δ' => exact absurd e (n _ _ _)
 | stuck => rw [e] at q; exact q.elim
theorem Zac {C : Ctx} {s : S} (h : PS X st (tS X.K lk (ex C s))) (n : leaf s = true := by rfl) : PX X st (tX X.K lk (ex C s)) := Zmi h (ZoX C s n)
theorem Zfg : PX X st (tX X.K lk stk) := fun pins s σ H E I ⟨δ, Hs, M, g, _, q⟩ => q.elim
theorem Z3 : PXs X [] (tX X.K lk (M.ret .nx)) := PXs.imp Zoj fun E σ H ⟨δ, Hs, M, g, s, q⟩ => q σ H Hs M (Keeps.refl _ _) g (Stp.refl _ _ _) s
theorem Zq {c r : M Fl} (h1 : PX X st (tX X.K lk c)) (h2 : PXs X rest (tX X.K lk r)) : PXs X (st :: rest) (tX X.K lk (seqL c r)) := PXs.imp (ZmG h1 h2) fun E σ H ⟨δ, Hs, M, g, s, q⟩ => by
 refine ⟨δ, Hs, M, g, s, ?_⟩
 unfold seqL T.M.bnd at q
 cases e : c δ with
 | ok z =>
  obtain ⟨f, δ1⟩ := z
  rw [e] at q
  cases f with
  | nx => exact fun σ' H' Hs' M' k g' st' r => ⟨δ1, Hs', M', g', r, Zby.ahead k g g' st' q⟩
  | bk => exact q
  | ct => exact q
  | rt d => exact q
 | exc x δ' => rw [e] at q; exact q
 | stuck => rw [e] at q; exact q
theorem ZoY {cc : M Bool} {ca cb : M Fl} {A B : List Stmt} (n : NX cc) (hc : PT X c (tT X.K cc)) (ha : PXs X A (tX X.K lk ca)) (hb : PXs X B (tX X.K lk cb)) : PX X (.If c A B pos) (tX X.K lk (cc.bnd fun t => if t then ca else cb)) := PX.imp (ZrH hc ha hb) fun E σ H ⟨δ, Hs, M, g, s, q⟩ => by
 unfold T.M.bnd at q
 cases e : cc δ with
 | ok z =>
  obtain ⟨t, δ1⟩ := z
  rw [e] at q
  refine ⟨δ, Hs, M, t, δ1, g, s, e, fun H' Hs' M' g' st' s' => ?_⟩
  cases t with
  | true => exact ⟨δ1, Hs', M', g', s', Zby.ahead (Keeps.refl _ _) g g' st' q⟩
  | false => exact ⟨δ1, Hs', M', g', s', Zby.ahead (Keeps.refl _ _) g g' st' q⟩
 | exc x δ' => exact absurd e (n _ _ _)
 | stuck => rw [e] at q; exact q.elim
theorem ZbZ {C : Ctx} {ce : E} {sa sb : List S} {A B : List Stmt} (hc : PT X c (tT X.K (evb C ce).2)) (ha : PXs X A (tX X.K lk (exs C sa))) (hb : PXs X B (tX X.K lk (exs C sb))) : PX X (.If c A B pos) (tX X.K lk (ex C (.iff ce sa sb))) := ZoY (Zy C ce).2 hc ha hb
end
end T
namespace T
open PySem PySem.Spec L2
section
variable {X : Cx} {tg iter : Expr} {body : List Stmt} {pos : Pos} {lk lk' : Nat -> Bool} {ik : IK} {cs : M (List Op)} {tgt : Tg} {cb : M Fl}
theorem Zem : ∀ (h : List (Nat × D)) (δ : List D), ∃ δ', Zan h δ = .ok ((), δ')
 | [], δ => ⟨δ, rfl⟩
 | (i, d) :: r, δ => Zem r (δ.set i d)
theorem Zj1 (nx : NX cs) (F : Fr0 X X.A) (hx : ∀ e s, ¬ X.xe e s) (hc : X.calm = true) (hl : LkLe lk lk') (hw : HWs cs lk')
 (hi : PI X tg iter (tI X.K ik cs)) (hg : PG X tg (gT X.K tgt)) (hb : PXs X body (tX X.K lk' cb)) (hs : ∀ x, foldedSetIterable iter X.env x = pure x := by intro _; rfl) :
 PX X (.For tg iter body [] pos) (tX X.K lk (cs.bnd fun ps => (ZD ps).bnd fun h => (lift (itW ik h.1)).bnd fun items δ => finB h.2 (forL (asgT lk' tgt) cb items δ))) :=
 PX.imp (ZpW F hx hc hi hg hb hs) fun E σ H ⟨δ, Hs, M, g, s, q⟩ => by
 have nx2 : NX (cs.bnd ZD) := Zf nx fun p => Zge p
 have hbb : (cs.bnd fun ps => (ZD ps).bnd fun h => (lift (itW ik h.1)).bnd fun items δ => finB h.2 (forL (asgT lk' tgt) cb items δ)) δ = ((cs.bnd ZD).bnd fun h => (lift (itW ik h.1)).bnd fun items δ => finB h.2 (forL (asgT lk' tgt) cb items δ)) δ := by
  unfold T.M.bnd
  cases cs δ <;> rfl
 rw [hbb] at q
 cases e12 : (cs.bnd ZD) δ with
 | exc x δ' => exact absurd e12 (nx2 _ _ _)
 | stuck => unfold T.M.bnd at e12 q; rw [e12] at q; exact q.elim
 | ok z =>
  obtain ⟨hh, δ3⟩ := z
  have q : Zby X.K lk E σ H Hs M (((lift (itW ik hh.1)).bnd fun items δ => finB hh.2 (forL (asgT lk' tgt) cb items δ)) δ3) := by
   have : ((cs.bnd ZD).bnd fun h => (lift (itW ik h.1)).bnd fun items δ => finB h.2 (forL (asgT lk' tgt) cb items δ)) δ = ((lift (itW ik hh.1)).bnd fun items δ => finB hh.2 (forL (asgT lk' tgt) cb items δ)) δ3 := by
    show T.M.bnd (cs.bnd ZD) _ δ = _
    unfold T.M.bnd at e12 ⊢
    rw [e12]
   rw [this] at q
   exact q
  cases e3' : itW ik hh.1 with
  | none => rw [e3'] at q; exact q.elim
  | some items =>
   rw [e3'] at q
   have q : Zby X.K lk E σ H Hs M (finB hh.2 (forL (asgT lk' tgt) cb items δ3)) := q
   have locked := hw _ _ _ e12
   refine ⟨δ, Hs, M, hh, items, δ3, g, s, e12, e3', fun J Pp H1 Hs1 B M1 g1 st1 s1 held wk pp => ?_⟩
   have kl : ∀ {σ1 σ2 : St}, Keeps lk' σ1 σ2 -> Keeps lk σ1 σ2 := fun k i h => k i (hl i h)
   refine ⟨fun i m σ2 H2 => m = items.length - i /\ i <= items.length /\ Keeps lk' σ σ2 /\ ∃ (δ2 : List D) (Hs2 : Hp) (M2 : Bud), Good H2 Hs2 (fun b => B b + M2 b) /\ Stp H Hs M H2 Hs2 (fun b => B b + M2 b) /\ RepS X.K H2 Hs2 σ2 δ2 M2 /\ Held X.K H2 Hs2 σ2 hh.2 B /\ Pp H2 Hs2 /\ Zby X.K lk E σ H Hs M (finB hh.2 (forL (asgT lk' tgt) cb (items.drop i) δ2)),
    ⟨items.length, by simp, Nat.zero_le _, Keeps.refl _ _, δ3, Hs1, M1, g1, st1, s1, held, pp, by rw [List.drop_zero]; exact q⟩, ?_⟩
   rintro i m σ2 H2 ⟨rfl, hle, k2, δ2, Hs2, M2, g2, st2, s2, held2, pp2, q7⟩
   by_cases hlt : i < items.length
   . right
     have hd : items[i]? = some (items[i]'(by omega)) := List.getElem?_eq_getElem (by omega)
     have hdrop : items.drop i = items[i]'(by omega) :: items.drop (i + 1) := List.drop_eq_getElem_cons (by omega)
     rw [hdrop, Ze6] at q7
     refine ⟨wk.go g2.sub pp2 hlt, fun σ3 H3 => Keeps lk' σ σ3 /\ ∃ (δ2 : List D) (Hs2 : Hp) (M2 : Bud), Good H3 Hs2 (fun b => B b + M2 b) /\ Stp H Hs M H3 Hs2 (fun b => B b + M2 b) /\ RepS X.K H3 Hs2 σ3 δ2 M2 /\ Held X.K H3 Hs2 σ3 hh.2 B /\ Pp H3 Hs2 /\ Zby X.K lk E σ H Hs M (finB hh.2 (forL (asgT lk' tgt) cb (items.drop (i + 1)) δ2)),
      fun σ3 H3 ⟨k3, z⟩ => ⟨items.length - (i + 1), by omega, rfl, hlt, k3, z⟩, fun x H' y => ?_⟩
     obtain ⟨Hs3, gr, rv⟩ := wk.yld g2.sub pp2 hd y
     obtain ⟨sm, fr, _⟩ := gr.same g2.sub
     have pp2 := wk.stay pp2 sm fun b _ n => fr b n
     have s2 := RepS.frame sm (fun b _ n => fr b n) s2
     have held2 := held2.frame sm fun b _ n => fr b n
     have st2 := gr.stp g2 st2
     have g2 := gr.good g2
     clear gr sm fr y
     generalize Hs3 = Hs2 at *
     cases e8 : asgT lk' tgt (items[i]'(by omega)) δ2 with
     | exc x δ' => exact absurd e8 (ZoS _ _ _ _ _ _)
     | stuck => rw [show ((asgT lk' tgt (items[i]'(by omega))).bnd fun _ => cb) δ2 = .stuck by show T.M.bnd _ _ δ2 = _; unfold T.M.bnd; rw [e8]] at q7; exact q7.elim
     | ok z =>
      obtain ⟨u1, δ5'⟩ := z
      rw [show ((asgT lk' tgt (items[i]'(by omega))).bnd fun _ => cb) δ2 = cb δ5' by show T.M.bnd _ _ δ2 = _; unfold T.M.bnd; rw [e8]] at q7
      refine ZhN (Hs := Hs2) g2.sub e8 rv s2 fun σ3 k3 s3 => ?_
      refine ⟨δ5', Hs2, M2, g2.re, s3, ?_⟩
      have held3 : Held X.K H' Hs2 σ3 hh.2 B := held2.keeps k3 locked
      have nxt : ∀ {σ4 : St} {H4 Hs4 : Hp} {M4 : Bud}, Keeps lk' σ3 σ4 -> Good H4 Hs4 M4 -> Stp H' Hs2 M2 H4 Hs4 M4 ->
       Keeps lk' σ σ4 /\ Good H4 Hs4 (fun b => B b + M4 b) /\ Stp H Hs M H4 Hs4 (fun b => B b + M4 b) /\ Held X.K H4 Hs4 σ4 hh.2 B /\ Pp H4 Hs4 := fun {σ4 H4 Hs4 M4} k4 g4 st4 => by
       obtain ⟨G, S, kk⟩ := Z1 g g2 st2 g4 st4
       exact ⟨k2.trans (k3.trans k4), G, S, (held3.keeps k4 locked).frame st4.grow kk, wk.stay pp2 st4.grow kk⟩
      cases e10 : cb δ5' with
      | stuck => rw [e10] at q7; exact q7.elim
      | exc x δ6 =>
       rw [e10] at q7
       obtain ⟨δ7, e11⟩ := Zem hh.2 δ6
       have q8 : Zg6 X.K lk E.xc σ H Hs M x δ7 := by
        have : Zby X.K lk E σ H Hs M (match Zan hh.2 δ6 with | .ok (_, δ') => .exc x δ' | _ => .stuck) := q7
        rw [e11] at this
        exact this
       refine fun ea σ4 H4 Hs4 m4 M4 k4 g4 st4 rd s4 => ?_
       obtain ⟨a1, a2, a3, a4, a6⟩ := nxt k4 g4 st4
       exact q8 ea σ4 H4 Hs4 m4 (fun b => B b + M4 b) (kl a1) (a2.re fun b => by (try dsimp only); omega) (a3.drop (fun b => by (try dsimp only); omega) a2.le) rd (Zco e11 a4 s4)
      | ok z =>
       obtain ⟨fl, δ6⟩ := z
       rw [e10] at q7
       cases fl with
       | nx =>
        refine fun σ4 H4 Hs4 M4 k4 g4 st4 s4 => ?_
        obtain ⟨a1, a2, a3, a4, a6⟩ := nxt k4 g4 st4
        exact ⟨a1, δ6, Hs4, M4, a2, a3, s4, a4, a6, q7⟩
       | ct =>
        refine fun σ4 H4 Hs4 M4 k4 g4 st4 s4 => ?_
        obtain ⟨a1, a2, a3, a4, a6⟩ := nxt k4 g4 st4
        exact ⟨a1, δ6, Hs4, M4, a2, a3, s4, a4, a6, q7⟩
       | bk =>
        obtain ⟨δ7, e11⟩ := Zem hh.2 δ6
        have q8 : Post X.K lk E.toEnds σ H Hs M .nx δ7 := by
         have : Zby X.K lk E σ H Hs M (((Zan hh.2).bnd fun _ => T.M.ret Fl.nx) δ6) := q7
         rw [show ((Zan hh.2).bnd fun _ => T.M.ret Fl.nx) δ6 = .ok (.nx, δ7) by show T.M.bnd _ _ δ6 = _; unfold T.M.bnd; rw [e11]; rfl] at this
         exact this
        refine fun σ4 H4 Hs4 M4 k4 g4 st4 s4 => ?_
        obtain ⟨a1, a2, a3, a4, a6⟩ := nxt k4 g4 st4
        exact q8 σ4 H4 Hs4 _ (kl a1) a2 a3 (Zco e11 a4 s4)
       | rt d =>
        obtain ⟨δ7, e11⟩ := Zem hh.2 δ6
        have q8 : Post X.K lk E.toEnds σ H Hs M (.rt d) δ7 := by
         have : Zby X.K lk E σ H Hs M (((Zan hh.2).bnd fun _ => T.M.ret (Fl.rt d)) δ6) := q7
         rw [show ((Zan hh.2).bnd fun _ => T.M.ret (Fl.rt d)) δ6 = .ok (.rt d, δ7) by show T.M.bnd _ _ δ6 = _; unfold T.M.bnd; rw [e11]; rfl] at this
         exact this
        refine fun v σ4 H4 Hs4 m4 M4 k4 g4 st4 rd s4 => ?_
        obtain ⟨a1, a2, a3, a4, a6⟩ := nxt k4 g4 st4
        exact q8 v σ4 H4 Hs4 m4 (fun b => B b + M4 b) (kl a1) (a2.re fun b => by (try dsimp only); omega) (a3.drop (fun b => by (try dsimp only); omega) a2.le) rd (Zco e11 a4 s4)
   . left
     have hi : i = items.length := by omega
     have hd0 : items.drop i = [] := by rw [hi]; simp
     rw [hd0, ZnM] at q7
     obtain ⟨δ7, e11⟩ := Zem hh.2 δ2
     have q8 : Post X.K lk E.toEnds σ H Hs M .nx δ7 := by
      have : Zby X.K lk E σ H Hs M (((Zan hh.2).bnd fun _ => T.M.ret Fl.nx) δ2) := q7
      rw [show ((Zan hh.2).bnd fun _ => T.M.ret Fl.nx) δ2 = .ok (.nx, δ7) by show T.M.bnd _ _ δ2 = _; unfold T.M.bnd; rw [e11]; rfl] at this
      exact this
     exact ⟨wk.stop g2.sub pp2 (by omega), q8 σ2 H2 Hs2 _ (kl k2) g2 st2 (Zco e11 held2 s2)⟩
end
def spX (K : Fg) (F : List D -> Rs (D × List D)) : Sp := fun vs H Q E => ∃ (ds : List D) (Hs : Hp) (m : Bud), Good H Hs m /\ RepL K H Hs vs ds m /\ match F ds with
 | .ok (d, ds') => ∀ (v : V) (H' Hs' : Hp) (m1 m' : Bud), Good H' Hs' (fun b => m1 b + m' b) -> Stp H Hs m H' Hs' (fun b => m1 b + m' b) -> Rep K H' Hs' v d m1 -> RepL K H' Hs' vs ds' m' -> Q v H'
 | .exc x ds' => ∀ (ea : Addr) (H' Hs' : Hp) (m1 m' : Bud), Good H' Hs' (fun b => m1 b + m' b) -> Stp H Hs m H' Hs' (fun b => m1 b + m' b) -> Rep K H' Hs' (.ref ea) x m1 -> RepL K H' Hs' vs ds' m' -> E (.ref ea) none H'
 | .stuck => False
section
variable {P : Program} {w : World} {K : Fg} {mg : Str -> Option Value} {base : Heap}
theorem Zfw {x qual : Str} {st : Stmt} {f : Addr} {fd : FuncData} {N ps : List Str} {k n nN : Nat} {C : Ctx} {body : List S} (F : Fun K x qual st f fd) (Sc : FnScope N ps (Za st)) (hn : ps.length = n) (hN : N.length = nN)
 (hb : ∀ (cdv : Value) (A : Around) (outer : List Env) (s : Shared) (H : Hp) (E : XK), Fr0 (cxOf CX0 P w K mg base N qual (Za st) f cdv A outer s H E).nox (A.deeper (PyProof.Rows.envOfC qual (Za st) s.heap.objs.size f cdv)) -> Room k (A.deeper (PyProof.Rows.envOfC qual (Za st) s.heap.objs.size f cdv)) ->
  PXs (cxOf CX0 P w K mg base N qual (Za st) f cdv A outer s H E).nox (Z2 st) (tX K (fun i => decide (i < n)) (exs { C with lock := fun i => decide (i < n) } body))) :
 FnOk P w K mg base (CXx P w) (k + 1) f fd ps (spX K (Zg C n nN body)) := by
 subst hn hN
 obtain ⟨oc, od, kV, doc, pm, an, cdv, ct, osl, rfl, lk, hcd⟩ := F.ex
 refine ZpX lk hcd Sc (fun vs H Q E h => ?_) fun A outer s H vs Q E hr h => ⟨_, fun hfr => hb cdv A outer s H E ⟨rfl, rfl, Around.frames_deeper hfr⟩ hr, ?_⟩
 . obtain ⟨ds, Hs, m, g, r, q⟩ := h
   unfold Zg at q
   rw [r.len]
   split at q
   . rename_i hl
     split at hl
     . assumption
     . cases hl
   . rename_i hl
     split at hl
     . assumption
     . cases hl
   . exact q.elim
 . obtain ⟨ds, Hs, m, g, r, q⟩ := h
   unfold Zg at q
   by_cases hl : ds.length = ps.length
   . rw [if_pos hl] at q
     have hv : vs.length = ps.length := by rw [r.len]; exact hl
     have hr0 := Ziz (N := N) r
     rw [hl] at hr0
     refine ⟨_, Hs, m, g, hr0, ?_⟩
     have back : ∀ {δ' : List D} {σ' : St} {H' Hs' : Hp} {M' : Bud}, Keeps (fun i => decide (i < ps.length)) (L2.start N vs) σ' -> RepS K H' Hs' σ' δ' M' -> RepL K H' Hs' vs (δ'.take ps.length) M' := fun k' s' => by
      have z := s'.take ps.length
      rw [Zhp hv k'] at z
      exact RepS.toL z
     cases he : exs { C with lock := fun i => decide (i < ps.length) } body (ds ++ List.replicate (N.length - ps.length) .hole) with
     | ok z =>
      obtain ⟨fl, δ'⟩ := z
      rw [he] at q
      cases fl with
      | nx => exact fun σ' H' Hs' M' k' g' st' s' => q .non H' Hs' (fun _ => 0) M' (Zc3 g') (st'.drop (fun b => by simp) g'.le) (.sc _ _) (back k' s')
      | rt dd => exact fun v σ' H' Hs' m1 M' k' g' st' rv s' => q v H' Hs' m1 M' g' st' rv (back k' s')
      | bk => exact q.elim
      | ct => exact q.elim
     | exc x y =>
      rw [he] at q
      exact fun ea σ' H' Hs' m1 M' k' g' st' rv s' => q ea H' Hs' m1 M' g' st' rv (back k' s')
     | stuck => rw [he] at q; exact q.elim
   . rw [if_neg hl] at q
     exact q.elim
theorem FnOk.calm {k : Nat} {f : Addr} {fd : FuncData} {ps : List Str} {R : List D -> Rs (D × List D)} (F : FnOk P w K mg base (CXx P w) k f fd ps (spX K R)) : FnOk P w K mg base CX0 k f fd ps (spF K R) := by
 have im : ∀ {vs : List V} {H : Hp} {Q : VK} {E : XK}, spF K R vs H Q E -> spX K R vs H Q E0 := fun {vs H Q E} h => by
  obtain ⟨ds, Hs, m, d, ds', g, r, e, q⟩ := h
  refine ⟨ds, Hs, m, g, r, ?_⟩
  rw [e]
  exact q
 refine ⟨fun vs H Q E h => F.len vs H Q E0 (im h), fun A outer s H args us vs Q E hr e0 hb hv hs => codeAny_mono (F.run A outer s H args us vs Q E0 hr e0 hb hv (im hs)) fun r s' h => ?_⟩
 cases r with
 | error e =>
  obtain ⟨ea, H', rfl, os, bare, un, hok, fl, q⟩ := h
  exact q H' (Same.refl _)
 | ok fl => cases fl <;> exact h
end
structure FnAtX (P : Program) (w : World) (K : Fg) (mg : Str -> Option Value) (base : Heap) (x : Str) (k : Nat) (ps : List Str) (sp : Sp) : Prop where
 ex : ∃ (f : Addr) (fd : FuncData), FnOk P w K mg base (CXx P w) k f fd ps sp /\ mg x = some (.ref f) /\ PySem.W.keepIn K (.ref f) = true /\ Binds K fd ps []
theorem FnAtX.calm {P : Program} {w : World} {K : Fg} {mg : Str -> Option Value} {base : Heap} {x : Str} {k : Nat} {ps : List Str} {R : List D -> Rs (D × List D)} (G : FnAtX P w K mg base x k ps (spX K R)) : FnAt P w K mg base x k ps (spF K R) := by
 obtain ⟨f, fd, F, h⟩ := G.ex
 exact ⟨f, fd, FnOk.calm F, h⟩
noncomputable def tMX (K : Fg) (c : M D) : TEX := fun σ H Q Ex => ∃ (δ : List D) (Hs : Hp) (M : Bud), Good H Hs M /\ RepS K H Hs σ δ M /\ match c δ with
 | .ok (d, δ') => ∀ (v : V) (H' Hs' : Hp) (m M' : Bud), Good H' Hs' (fun b => m b + M' b) -> Stp H Hs M H' Hs' (fun b => m b + M' b) -> Rep K H' Hs' v d m -> RepS K H' Hs' σ δ' M' -> Q v H'
 | .exc x δ' => ∀ (ea : Addr) (H' Hs' : Hp) (m M' : Bud), Good H' Hs' (fun b => m b + M' b) -> Stp H Hs M H' Hs' (fun b => m b + M' b) -> Rep K H' Hs' (.ref ea) x m -> RepS K H' Hs' σ δ' M' -> Ex ea H'
 | .stuck => False
theorem Ze8 : ∀ (ps : List Op) (ds : List D) (δ : List D), ∃ δ', ZW ps ds δ = .ok ((), δ')
 | [], ds, δ => ⟨δ, by unfold ZW; rfl⟩
 | _ :: _, [], δ => ⟨δ, by unfold ZW; rfl⟩
 | p :: ps, d :: ds, δ => by
  have : ∃ δ1, giveA p d δ = .ok ((), δ1) := by
   cases p with
   | tmp d' => exact ⟨δ, rfl⟩
   | late i =>
    unfold giveA
    dsimp only
    split
    . exact ⟨_, rfl⟩
    . exact ⟨_, rfl⟩
  obtain ⟨δ1, e1⟩ := this
  obtain ⟨δ2, e2⟩ := Ze8 ps ds δ1
  refine ⟨δ2, ?_⟩
  show T.M.bnd _ _ δ = _
  unfold T.M.bnd
  rw [e1]
  exact e2
theorem Zmj {K : Fg} {fi : FI} {σ : St} {H H1 Hs Hs1 : Hp} {M m1 M1 : Bud} {δ1 : List D} {ps : List Op} {vs : List V} {Q : VK} {Ex : Addr -> Hp -> Prop} (g : Good H Hs M) (g1 : Good H1 Hs1 (fun b => m1 b + M1 b)) (st1 : Stp H Hs M H1 Hs1 (fun b => m1 b + M1 b))
 (r1 : Zdo K H1 Hs1 σ vs ps m1) (s1 : RepS K H1 Hs1 σ δ1 M1)
 (q : match Zdm fi ps δ1 with
  | .ok (d, δ') => ∀ (v : V) (H' Hs' : Hp) (m M' : Bud), Good H' Hs' (fun b => m b + M' b) -> Stp H Hs M H' Hs' (fun b => m b + M' b) -> Rep K H' Hs' v d m -> RepS K H' Hs' σ δ' M' -> Q v H'
  | .exc x δ' => ∀ (ea : Addr) (H' Hs' : Hp) (m M' : Bud), Good H' Hs' (fun b => m b + M' b) -> Stp H Hs M H' Hs' (fun b => m b + M' b) -> Rep K H' Hs' (.ref ea) x m -> RepS K H' Hs' σ δ' M' -> Ex ea H'
  | .stuck => False) : spX K fi.run vs H1 Q (fun v _ H' => ∃ ea, v = .ref ea /\ Ex ea H') := by
 unfold Zdm T.M.bnd at q
 cases e2 : Zbj fi.lend ps δ1 with
 | exc x y => exact absurd e2 (Zel _ _ _ _ _)
 | stuck => rw [e2] at q; exact q.elim
 | ok z =>
  obtain ⟨ds, δ2⟩ := z
  rw [e2] at q
  dsimp only at q
  obtain ⟨Hs2, m2, M2, g2, st2, q2, s2⟩ := Zf5 (B := fun _ => 0) (g1.re fun b => by simp) s1 r1 e2
  have z0 := Z1 (m1 := fun _ => 0) g (g1.re fun b => by simp) (st1.drop (fun b => by simp) g1.le) (g2.re fun b => by simp) (M1 := fun b => m1 b + M1 b) (M2 := fun b => m2 b + M2 b) (by
   have := st2
   exact ⟨fun b o h z => this.keep b o h (by simpa using z), fun b h => by have := this.own b (by simpa using h); simpa using this, this.grow, fun b h h' => by have := this.shr b h h'; simpa using this, this.stay⟩)
  have G2 : Good H1 Hs2 (fun b => M2 b + m2 b) := g2.re fun b => by simp; omega
  have S2 : Stp H Hs M H1 Hs2 (fun b => M2 b + m2 b) := z0.2.1.drop (fun b => by simp; omega) z0.1.le
  refine ⟨ds, Hs2, m2, G2.re fun b => by omega, q2, ?_⟩
  cases hF : fi.run ds with
  | stuck => rw [hF] at q; exact q.elim
  | ok r =>
   obtain ⟨d', ds'⟩ := r
   rw [hF] at q
   obtain ⟨δ3, e3⟩ := Ze8 ps ds' δ2
   dsimp only at q
   rw [e3] at q
   intro v H3 Hs3 n1 n2 g3 st3 r3 r4
   obtain ⟨G, S, k⟩ := Z1 g G2 S2 g3 st3
   have s3 := RepS.frame st3.grow k s2
   have fin := ZeP s3 r4 (lates r1) e3
   exact q v H3 Hs3 n1 (fun b => n2 b + M2 b) (G.re fun b => by (try dsimp only); omega) (S.drop (fun b => by (try dsimp only); omega) G.le) r3 fin
  | exc x ds' =>
   rw [hF] at q
   obtain ⟨δ3, e3⟩ := Ze8 ps ds' δ2
   dsimp only at q
   rw [e3] at q
   intro ea H3 Hs3 n1 n2 g3 st3 r3 r4
   obtain ⟨G, S, k⟩ := Z1 g G2 S2 g3 st3
   have s3 := RepS.frame st3.grow k s2
   have fin := ZeP s3 r4 (lates r1) e3
   exact ⟨ea, rfl, q ea H3 Hs3 n1 (fun b => n2 b + M2 b) (G.re fun b => by (try dsimp only); omega) (S.drop (fun b => by (try dsimp only); omega) G.le) r3 fin⟩
section
variable {X : Cx} {a e c : Expr} {es : List Expr} {pos p : Pos} {x : Str} {j n : Nat} {fi : FI} {ps : List Str} {cs : M (List Op)}
theorem Zgf (nx : NX cs) (G : FnAtX X.prog X.w X.K X.mg X.base x j ps (spX X.K fi.run)) (hr : Room n X.A) (ha : PA X (e :: es) (tPs X.K cs)) (hj : j <= n := by decide) (hg : Gl X x := by rfl) (hdb : (x == ("__debug__" : Str)) = false := by decide)
 (he : starEach (e :: es) X.env = (false, eval e X.env) :: starEach es X.env := by rfl) (hpl : (backTo pos (starEach es X.env)).any (·.1) = false := by rfl) :
 PEx X (.Call (.Name x p) (e :: es) [] pos) (tMX X.K (cs.bnd fun ps => Zdm fi ps)) := by
 obtain ⟨f, fd, F, hm, hk, hb⟩ := G.ex
 refine PEx.imp (ZmH F (hr.mono hj) hg hm hk hb .nil ha hdb he hpl) fun σ H Q Ex ⟨δ, Hs, M, g, s, q⟩ => ?_
 unfold T.M.bnd at q
 cases e1 : cs δ with
 | exc x y => exact absurd e1 (nx _ _ _)
 | stuck => rw [e1] at q; exact q.elim
 | ok z =>
  obtain ⟨ps, δ1⟩ := z
  rw [e1] at q
  refine ⟨δ, Hs, M, ps, δ1, g, s, e1, fun vs H1 Hs1 m1 M1 g1 st1 r1 s1 => ?_⟩
  show spX X.K fi.run (vs ++ []) H1 Q _
  rw [List.append_nil]
  exact Zmj g g1 st1 r1 s1 q
end
section
variable {X : Cx} {e : Expr} {pos pos' : Pos} {lk : Nat -> Bool} {i : Nat} {x : Str} {c : M D}
theorem Zno (hN : X.N.Nodup) (hi : X.N[i]? = some x) (hx : Loc X.env.scope x) (he : PEx X e (tMX X.K c)) (hs : swapsWith e (some (.Name x pos')) pos.line X.env = pure false := by rfl)
 (hf : X.fn x = true \/ X.env.scope.names.lookup x = some .local := by first | exact .inl rfl | exact .inr rfl | assumption) :
 PX X (.Assign [.Name x pos'] e pos) (tX X.K lk (c.bnd fun d => (asgN lk i d).bnd fun _ => M.ret .nx)) := PX.imp (Zqa hN hi hx he hs hf) fun E σ H ⟨δ, Hs, M, g, s, q⟩ => by
 refine ⟨δ, Hs, M, g, s, ?_⟩
 unfold T.M.bnd at q
 cases e1 : c δ with
 | stuck => rw [e1] at q; exact q.elim
 | exc x δ' => rw [e1] at q; exact fun ea H' Hs' m M' g' st' r s' => q ea σ H' Hs' m M' (Keeps.refl _ _) g' st' r s'
 | ok z =>
  obtain ⟨d, δ1⟩ := z
  rw [e1] at q
  dsimp only at q ⊢
  cases e3 : asgN lk i d δ1 with
  | exc x y => exact absurd e3 (Zg5 _ _ _ _ _ _)
  | stuck => rw [e3] at q; exact q.elim
  | ok z =>
   obtain ⟨u, δ2⟩ := z
   rw [e3] at q
   obtain ⟨h1, h2, rfl⟩ := Zfr e3
   exact fun v H' Hs' m M' g' st' r s' => q _ H' Hs' _ (Zcn h2) g' st' (ZcT s' h1 r)
theorem Zi2 (he : PEx X e (tMX X.K c)) (hs : swapsWith e none pos.line X.env = pure false := by rfl) : PX X (.Expr e pos) (tX X.K lk (c.bnd fun _ => M.ret .nx)) := PX.imp (Zol he hs) fun E σ H ⟨δ, Hs, M, g, s, q⟩ => by
 refine ⟨δ, Hs, M, g, s, ?_⟩
 unfold T.M.bnd at q
 cases e1 : c δ with
 | stuck => rw [e1] at q; exact q.elim
 | exc x δ' => rw [e1] at q; exact fun ea H' Hs' m M' g' st' r s' => q ea σ H' Hs' m M' (Keeps.refl _ _) g' st' r s'
 | ok z =>
  obtain ⟨d, δ1⟩ := z
  rw [e1] at q
  exact fun v H' Hs' m M' g' st' r s' => q σ H' Hs' M' (Keeps.refl _ _) g'.re (st'.drop (fun b => by omega) g'.le) s'
theorem Znp (he : PEx X e (tMX X.K c)) : PX X (.Return (some e) pos) (tX X.K lk (c.bnd fun d => M.ret (.rt d))) := PX.imp (ZpZ he) fun E σ H ⟨δ, Hs, M, g, s, q⟩ => by
 refine ⟨δ, Hs, M, g, s, ?_⟩
 unfold T.M.bnd at q
 cases e1 : c δ with
 | stuck => rw [e1] at q; exact q.elim
 | exc x δ' => rw [e1] at q; exact fun ea H' Hs' m M' g' st' r s' => q ea σ H' Hs' m M' (Keeps.refl _ _) g' st' r s'
 | ok z =>
  obtain ⟨d, δ1⟩ := z
  rw [e1] at q
  exact fun v H' Hs' m M' g' st' r s' => q v σ H' Hs' m M' (Keeps.refl _ _) g' st' r s'
end
end T
namespace T
open PySem PySem.Spec L2
section
variable {X : Cx} {e : Expr} {es : List Expr} {pos pos' p : Pos} {lk : Nat -> Bool} {i n j : Nat} {x : Str} {ns : List Str} {C f : Addr} {fi : FI} {ps : List Str} {cs : M (List Op)}
theorem Zmk {K : Fg} {H Hs H'' : Hp} {M : Bud} {σ : St} {δ : List D} {a : Addr} {o : HO} (ha : H a = none) (g : Good H Hs M) (s : RepS K H Hs σ δ M) (k : Same (upd H a o) H'') :
 Good H'' Hs (fun b => one a b + M b) /\ Stp H Hs M H'' Hs (fun b => one a b + M b) /\ RepS K H'' Hs σ δ M /\ H'' a = some o /\ Same H H'' := by
 have k1 : Same H H'' := fun b u e => k b u (by rw [Zt (ZaF e ha)]; exact e)
 have ka : H'' a = some o := k a o Zv
 have m0 : M a = 0 := by
  have := g.le a
  by_cases q : M a = 1
  . exact absurd ha (g.has a q)
  . omega
 have hs0 : Hs a = none := by
  cases e : Hs a with
  | none => rfl
  | some u => rw [g.sub a u e] at ha; cases ha
 have cs1 : ∀ b, one a b + M b = 1 -> b = a \/ M b = 1 := fun b h => by
  by_cases q : b = a
  . exact .inl q
  . simp only [one, if_neg q] at h; exact .inr (by omega)
 refine ⟨⟨fun b u e => k1 b u (g.sub b u e), fun b => ?_, fun b h => ?_, fun b h => ?_⟩, ⟨fun b u e _ => k1 b u e, fun b h => ?_, Same.refl _, fun b h h' => absurd h h', fun b h => ?_⟩, s.frame (Same.refl _) fun b _ hn => ZdN k1 b hn, ka, k1⟩
 . have := g.le b
   unfold one
   split
   . rename_i q; subst q; omega
   . omega
 . rcases cs1 b h with q | q
   . rw [q]; exact hs0
   . exact g.ne b q
 . rcases cs1 b h with q | q
   . rw [q, ka]; simp
   . rw [ZdN k1 b (g.has b q)]; exact g.has b q
 . rcases cs1 b h with q | q
   . exact .inr (by rw [q]; exact ha)
   . exact .inl q
 . rw [ZdN k1 b h]; exact h
theorem Zhw (hc : X.calm = true) (xn : XN X.K ns C) (hi : PySem.W.findIn X.K (.ref C) (Str.ofString "__init__") = some (some (.builtin "ValueError.__init__"))) (hg : Gl X x) (hm : X.mg x = some (.ref C)) (hdb : (x == ("__debug__" : Str)) = false := by decide) :
 PX X (.Raise (some (.Call (.Name x p) [] [] pos')) none pos) (tX X.K lk (Zdn (.node (.exc ns true []) true []))) :=
 PX.imp (Zja hc (Zoo xn.toXC hi hg hm hdb)) fun E σ H ⟨δ, Hs, M, g, s, q⟩ => by
  intro a ha
  refine ⟨a, C, none, [], rfl, xn.toXC, Zv, fun H'' k => ?_⟩
  rw [Zkq] at k
  obtain ⟨G, S, R, ka, _⟩ := Zmk ha g s k
  exact q a σ H'' Hs (one a) M (Keeps.refl _ _) G S (.own (vs := []) (m' := fun _ => 0) ⟨rfl, C, none, xn, ka⟩ (.nil _) fun b => by simp) R
theorem ZoZ {K : Fg} {σ : St} {H : Hp} {Q : VK} (xn : XN K ns C) (nx : NX cs) {E : EndX} (h : ∃ (δ : List D) (Hs : Hp) (M : Bud), Good H Hs M /\ RepS K H Hs σ δ M /\ Zby K lk E σ H Hs M (((cs.bnd fun ps => newX ns fi ps).bnd Zdn) δ)) :
 tPs K cs σ H fun vs H1 => vs.length <= sizeLine /\ ∀ x, H1 x = none -> spF K fi.run (.ref x :: vs) (upd H1 x (.exc C none true [])) (fun v H2 => v = .non /\ ∃ a C dx fs, V.ref x = .ref a /\ XC K C /\ H2 a = some (.exc C dx true fs) /\ ∀ H'', Same (upd H2 a (.exc C dx false fs)) H'' -> E.xc a σ H'') E0 := by
 obtain ⟨δ, Hs, M, g, s, q⟩ := h
 unfold T.M.bnd at q
 cases e1 : cs δ with
 | exc x y => exact absurd e1 (nx _ _ _)
 | stuck => rw [e1] at q; exact q.elim
 | ok z =>
  obtain ⟨ps, δ1⟩ := z
  rw [e1] at q
  dsimp only at q
  unfold newX at q
  by_cases hlen : 1000 < ps.length
  . rw [if_pos hlen] at q; exact q.elim
  rw [if_neg hlen] at q
  unfold T.M.bnd at q
  refine ⟨δ, Hs, M, ps, δ1, g, s, e1, fun vs H1 Hs1 m1 M1 g1 st1 r1 s1 => ?_⟩
  have hlv : vs.length = ps.length := by
   have : ∀ {vs : List V} {ps : List Op} {m : Bud}, Zdo K H1 Hs1 σ vs ps m -> vs.length = ps.length := by
    intro vs
    induction vs with
    | nil => intro ps m h; cases ps with
     | nil => rfl
     | cons _ _ => exact h.elim
    | cons v vs ih => intro ps m h; cases ps with
     | nil => exact h.elim
     | cons p ps => obtain ⟨a, b, c, d, _⟩ := h; rw [List.length_cons, List.length_cons, ih d]
   exact this r1
  refine ⟨by rw [hlv, sizeLine_eq]; omega, fun x hx => ?_⟩
  cases e2 : Zbj fi.lend ps δ1 with
  | exc x y => exact absurd e2 (Zel _ _ _ _ _)
  | stuck => rw [e2] at q; exact q.elim
  | ok z =>
   obtain ⟨ds, δ2⟩ := z
   rw [e2] at q
   dsimp only at q
   obtain ⟨Hs2, m2, M2, g2, st2, q2, s2⟩ := Zf5 (B := fun _ => 0) (g1.re fun b => by simp) s1 r1 e2
   have z0 := Z1 (m1 := fun _ => 0) g (g1.re fun b => by simp) (st1.drop (fun b => by simp) g1.le) (g2.re fun b => by simp) (M1 := fun b => m1 b + M1 b) (M2 := fun b => m2 b + M2 b) (by
    have := st2
    exact ⟨fun b o h z => this.keep b o h (by simpa using z), fun b h => by have := this.own b (by simpa using h); simpa using this, this.grow, fun b h h' => by have := this.shr b h h'; simpa using this, this.stay⟩)
   have G2 : Good H1 Hs2 (fun b => m2 b + M2 b) := g2.re fun b => by simp
   have S2 : Stp H Hs M H1 Hs2 (fun b => m2 b + M2 b) := z0.2.1.drop (fun b => by simp) z0.1.le
   have full : RepS K H1 Hs2 (vs.map some ++ σ) (ds ++ δ2) (fun b => m2 b + M2 b) := Sep.append (RepL.slots q2) s2
   obtain ⟨G3, S3, R3, ka, k1⟩ := Zmk (o := .exc C none true []) hx G2 full (Same.refl _)
   have q3 := q2.frame (H' := upd H1 x (.exc C none true [])) (Same.refl _) fun b _ hn => ZdN k1 b hn
   have s3 := s2.frame (H' := upd H1 x (.exc C none true [])) (Same.refl _) fun b _ hn => ZdN k1 b hn
   have S3' := Z1 (m1 := fun _ => 0) g (G2.re fun b => by simp) (S2.drop (fun b => by simp) G2.le) G3 S3
   have SA : Stp H Hs M (upd H1 x (.exc C none true [])) Hs2 (fun b => M2 b + (one x b + m2 b)) := S3'.2.1.drop (fun b => by simp; omega) S3'.1.le
   have GA : Good (upd H1 x (.exc C none true [])) Hs2 (fun b => M2 b + (one x b + m2 b)) := G3.re fun b => by omega
   cases hF : fi.run (.node (.exc ns true []) true [] :: ds) with
   | exc x y => rw [hF] at q; exact q.elim
   | stuck => rw [hF] at q; exact q.elim
   | ok r =>
    obtain ⟨d', ds'⟩ := r
    rw [hF] at q
    match d', ds', q, hF with
    | .sc .non, dI :: ds', q, hF =>
     dsimp only at q
     obtain ⟨δ3, e3⟩ := Ze8 ps ds' δ2
     rw [e3] at q
     have q : Zby K lk E σ H Hs M (Zdn dI δ3) := q
     refine ⟨.node (.exc ns true []) true [] :: ds, Hs2, fun b => one x b + m2 b, .sc .non, dI :: ds', GA.re fun b => by omega, .cons (m1 := one x) (m2 := m2) (.own (vs := []) (m' := fun _ => 0) ⟨rfl, C, none, xn, ka⟩ (.nil _) fun b => by simp) q3 fun b => Nat.le_refl _, hF, fun v H4 Hs4 n1 n2 g4 st4 r4 r5 => ?_⟩
     cases r4
     refine ⟨rfl, ?_⟩
     obtain ⟨G, S, kk⟩ := Z1 g GA SA g4 st4
     have s4 := RepS.frame st4.grow kk s3
     cases r5 with
     | @cons _ _ _ _ n3 n4 _ rI rd l5 =>
      have fin := ZeP s4 rd (lates r1) e3
      unfold Zdn at q
      split at q
      . rename_i nsI fsI dsI hqI
        cases rI with
        | @own a _ vsI _ _ mI n r lI =>
         obtain ⟨hl, C', dx', xn', hH⟩ := n
         refine ⟨x, C', dx', _, rfl, xn'.toXC, hH, fun H'' k => ?_⟩
         have hx4 : H4 x ≠ none := by rw [hH]; simp
         have k1' : ∀ b, b ≠ x -> H4 b ≠ none -> H'' b = H4 b := fun b hb hn => by
          have := ZdN k b (by rw [Zt hb]; exact hn)
          rw [this, Zt hb]
         have kx : H'' x = some (.exc C' dx' false (fsI.zip vsI)) := k x _ Zv
         have one_x : one x x = 1 := by simp [one]
         have le5 : ∀ b, (one x b + mI b) + (n4 b + M2 b) <= n1 b + (n2 b) + M2 b := fun b => by have := lI b; have := l5 b; omega
         have GG : Good H4 Hs4 (fun b => M2 b + (n1 b + n2 b)) := G
         have G5 : Good H4 Hs4 (fun b => (one x b + mI b) + (n4 b + M2 b)) := GG.re fun b => by have := le5 b; omega
         have S5 : Stp H Hs M H4 Hs4 (fun b => (one x b + mI b) + (n4 b + M2 b)) := S.drop (fun b => by have := le5 b; omega) GG.le
         have zx : mI x = 0 /\ n4 x = 0 /\ M2 x = 0 := by
          have : (one x x + mI x) + (n4 x + M2 x) <= 1 := G5.le x
          omega
         have up : ∀ b, H4 b ≠ none -> H'' b ≠ none := fun b hn => by
          by_cases hb : b = x
          . rw [hb, kx]; simp
          . rw [k1' b hb hn]; exact hn
         have hsx : Hs4 x = none := G5.ne x (by show (one x x + mI x) + (n4 x + M2 x) = 1; omega)
         have G6 : Good H'' Hs4 (fun b => (one x b + mI b) + (n4 b + M2 b)) := ⟨fun b o e => by
          have hb : b ≠ x := fun z => by rw [z, hsx] at e; cases e
          have e4 := G5.sub b o e
          rw [k1' b hb (by rw [e4]; simp)]; exact e4, G5.le, G5.ne, fun b h => up b (G5.has b h)⟩
         have S6 : Stp H Hs M H'' Hs4 (fun b => (one x b + mI b) + (n4 b + M2 b)) := ⟨fun b o e z => by
          have e4 := S5.keep b o e z
          have hb : b ≠ x := fun w => by
           rw [w] at e z
           rcases S5.own x (by show (one x x + mI x) + (n4 x + M2 x) = 1; omega) with t | t
           . omega
           . rw [e] at t; cases t
          rw [k1' b hb (by rw [e4]; simp)]; exact e4, S5.own, S5.grow, S5.shr, fun b h => up b (S5.stay b h)⟩
         refine q x σ H'' Hs4 (fun b => one x b + mI b) (fun b => n4 b + M2 b) (Keeps.refl _ _) G6 S6 (.own (vs := vsI) (m' := mI) ⟨hl, C', dx', xn', kx⟩ (r.frame (Same.refl _) fun b hb hn => k1' b (fun w => by rw [w] at hb; omega) hn) fun b => Nat.le_refl _) (fin.frame (Same.refl _) fun b hb hn => k1' b (fun w => by rw [w] at hb; (try dsimp only at hb); omega) hn)
      . exact q.elim
    | .sc .non, [], q, hF => exact q.elim
    | .sc (.bl _), _, q, hF => exact q.elim
    | .sc (.int _), _, q, hF => exact q.elim
    | .sc (.str _), _, q, hF => exact q.elim
    | .sc (.byt _), _, q, hF => exact q.elim
    | .sc (.flt _), _, q, hF => exact q.elim
    | .sc (.ref _), _, q, hF => exact q.elim
    | .sc (.ty _), _, q, hF => exact q.elim
    | .hole, _, q, hF => exact q.elim
    | .node _ _ _, _, q, hF => exact q.elim
structure XMk (P : Program) (w : World) (K : Fg) (mg : Str -> Option Value) (base : Heap) (x : Str) (ns : List Str) (k : Nat) (ps : List Str) (sp : Sp) : Prop where
 ex : ∃ (C f : Addr) (fd : FuncData), XN K ns C /\ PySem.W.findIn K (.ref C) (Str.ofString "__init__") = some (some (.ref f)) /\ PySem.W.typeIn K (.ref f) = some (.type "function") /\ FnOk P w K mg base CX0 k f fd ps sp /\ mg x = some (.ref C) /\ Binds K fd ps []
theorem Zhx (hc : X.calm = true) (nx : NX cs) (G : XMk X.prog X.w X.K X.mg X.base x ns j ps (spF X.K fi.run)) (hr : Room n X.A) (ha : PA X (e :: es) (tPs X.K cs)) (hj : j + 1 <= n := by decide) (hg : Gl X x := by rfl) (hdb : (x == ("__debug__" : Str)) = false := by decide)
 (he : starEach (e :: es) X.env = (false, eval e X.env) :: starEach es X.env := by rfl) (hpl : (backTo pos' (starEach es X.env)).any (·.1) = false := by rfl) :
 PX X (.Raise (some (.Call (.Name x p) (e :: es) [] pos')) none pos) (tX X.K lk ((cs.bnd fun ps => newX ns fi ps).bnd Zdn)) := by
 obtain ⟨C, f, fd, xn, hi, hf, F, hm, hb⟩ := G.ex
 refine PX.imp (Zja hc (Zon xn.toXC hi hf F (hr.mono hj) hg hm hb .nil ha hdb he hpl)) fun E σ H h => ?_
 obtain ⟨δ, Hs, M, aa, δ', g, s, e, q⟩ := ZoZ (Q := fun _ _ => True) xn nx h
 refine ⟨δ, Hs, M, aa, δ', g, s, e, fun vs H' Hs' m M' g' st r s' => ?_⟩
 obtain ⟨l, q⟩ := q vs H' Hs' m M' g' st r s'
 refine ⟨l, fun x hx => ?_⟩
 have := q x hx
 rw [List.append_nil]
 exact this
end
end T
namespace L2
open PySem PySem.Spec PyProof.Rows
section
variable {X : Cx} {e o value : Expr} {ta tv : TE} {f : Str} {pos pos' : Pos}
def Zt5 (K : Fg) (ta : TE) (f : Str) : TE := fun σ H Q => ta σ H fun x H1 => ∃ a C dx fr fs v, x = .ref a /\ H1 a = some (.exc C dx fr fs) /\ XD K C /\ Zee K C f /\ fs.lookup f = some v /\ Q v H1
theorem Zpa (he : PE X e ta) (hb : attributeBase e f X.env (eval e X.env) = eval e X.env) : PE X (.Attribute e f pos) (Zt5 X.K ta f) := by
 intro pins s σ H Q I h
 refine Zod hb (thn (he pins s σ H _ I h) fun u s1 ⟨x, H1, I1, rx, a, C, dx, fr, fs, v, ex, ea, c, n, l, q⟩ => ?_)
 subst ex
 obtain rfl : u = Value.ref a := rx
 exact ZjV I1 ea c n l fun u' s2 I2 ru => ⟨v, H1, I2, ru, q⟩
def Zt6 (K : Fg) (ta tv : TE) (f : Str) : TS := fun D σ H => tv σ H fun y H1 => ta σ H1 fun x H2 => ∃ a C dx fr fs, x = .ref a /\ H2 a = some (.exc C dx fr fs) /\ XC K C /\ Zee K C f /\ fs.length < 1000 /\
 ∀ H' d', H' a = some (.exc C (some d') fr (putF f y fs)) -> (∀ b o, b ≠ a -> H2 b = some o -> H' b = some o) -> D.nx σ H'
theorem Zpb (ha : PE X o ta) (hv : PE X value tv) (hs : swapsWith value (some (.Attribute o f pos')) pos.line X.env = pure false) : PS X (.Assign [.Attribute o f pos'] value pos) (Zt6 X.K ta tv f) := by
 intro pins s σ H D I h
 refine plainObj_wpAny_Assign_Attribute (thn (hv pins s σ H _ I h) fun u s1 ⟨y, H1, I1, ry, q⟩ => thn (ha pins s1 σ H1 _ I1 q) fun ov s2 ⟨x, H2, I2, rx, a, C, dx, fr, fs, ex, ea, c, n, l, q2⟩ => ?_) hs
 subst ex
 obtain rfl : ov = Value.ref a := rx
 exact ZjW I2 ea c n l ry fun s3 H' d' h1 h2 I3 => ⟨σ, _, I3, q2 H' d' h1 h2⟩
theorem Zi3 (cv : V) (cu : Value) (rc : RelV cv cu) (huniq : ∀ u, RelV cv u -> u = cu) : Zbm X (.builtin "isinstance") (fun xs H Q => ∃ a C dx fr fs b, xs = [.ref a, cv] /\ XD X.K C /\ H a = some (.exc C dx fr fs) /\ PySem.W.kitOne X.K (.ref C) cu = some b /\ Q (.bl b) H) := by
 intro pins s σ H xs us Q I r h
 obtain ⟨a, C, dx, fr, fs, b, ex, xd, ea, k, q⟩ := h
 subst ex
 cases r with
 | @cons _ u1 _ _ r1 r2 =>
  cases r2 with
  | @cons _ u2 _ _ r2 r3 =>
   cases r3
   obtain rfl := huniq _ r2
   obtain rfl : u1 = Value.ref a := r1
   exact ZkU I ea xd k fun tk => ⟨.bl b, H, I.tok tk, rfl, q⟩
end
end L2
namespace T
open PySem PySem.Spec L2
section
variable {X : Cx} {a o e c : Expr} {es : List Expr} {body suite : List Stmt} {b₀ : Stmt} {pos pos' p apos np hp : Pos} {lk : Nat -> Bool} {i j n : Nat} {x nm cn f : Str} {ca : M Op} {cs : M (List Op)}
theorem Zpc {cb csu : M Fl} {D' : Addr} (F : Fr0 X X.A) (hx : ∀ e s, ¬ X.xe e s) (hb : PXs X body (tX X.K lk cb)) (hs : ∀ v, PSs (X.inH v) (b₀ :: suite) (tS X.K lk csu)) (hg : Gl X cn) (hm : X.mg cn = some (.ref D')) (xc : XC X.K D') (gx : GX X.K cn D') (hdb : (cn == ("__debug__" : Str)) = false)
 (hN : X.N.Nodup) (hi : X.N[i]? = some nm) (hl : X.env.scope.names.lookup nm = some .local) :
 PX X (.Try body [.ExceptHandler (some (.Name cn np)) (some nm) (b₀ :: suite) hp] [] [] pos) (tX X.K lk (tryM lk cb cn (some i) csu)) :=
 PX.imp (Zqe F hx hb (.cons (.as_ hg hm xc gx hdb hN hi hl hs) .nil)) fun E σ H ⟨δ, Hs, M, g, s, q⟩ => by
 refine ⟨δ, Hs, M, g, s, ?_⟩
 unfold tryM at q
 cases e1 : cb δ with
 | ok z => rw [e1] at q; exact q
 | stuck => rw [e1] at q; exact q.elim
 | exc xd δ' =>
  rw [e1] at q
  dsimp only at q
  intro ea σ' H' Hs' m M' k' g' st' r s'
  by_cases hh : hits cn xd = true
  . rw [if_pos hh] at q
    unfold hits at hh
    split at hh
    . rename_i ns fs ds
      have hc : cn ∈ ns := of_decide_eq_true hh
      cases r with
      | @own _ _ vs _ _ m' nd rl lm =>
       obtain ⟨hl', C, dx, xn, hH⟩ := nd
       refine ⟨C, dx, _, ns, xn, hH, ?_⟩
       unfold Zfe
       rw [if_pos hc]
       by_cases hi' : (decide (i < δ'.length) && !lk i) = true
       . rw [if_pos hi'] at q
         simp only [Bool.and_eq_true, decide_eq_true_eq, Bool.not_eq_true'] at hi'
         have rx : Rep X.K H' Hs' (.ref ea) (.node (.exc ns false fs) true ds) m := .own ⟨hl', C, dx, xn, hH⟩ rl lm
         have s2 := ZcT s' hi'.1 rx
         cases e2 : csu (δ'.set i (.node (.exc ns false fs) true ds)) with
         | exc y z => rw [e2] at q; exact q.elim
         | stuck => rw [e2] at q; exact q.elim
         | ok z =>
          obtain ⟨fl, δ2⟩ := z
          rw [e2] at q
          have q : Post X.K lk E.toEnds σ H Hs M fl (δ2.set i .hole) := q
          have q2 := Post.ahead k' g g' st' q
          refine ⟨_, Hs', _, fl, δ2, g', s2, e2, ?_⟩
          have hole : ∀ {σ2 : St} {H2 Hs2 : Hp} {M2 : Bud}, RepS X.K H2 Hs2 σ2 δ2 M2 -> RepS X.K H2 Hs2 (σ2.set i none) (δ2.set i .hole) M2 := fun {σ2 H2 Hs2 M2} r2 => by
           by_cases hlt : i < δ2.length
           . obtain ⟨o, m1, m2, z1, z2, z3, ff⟩ := r2.focus (List.getElem?_eq_getElem hlt)
             exact (ff (RepO X.K H2 Hs2) none .hole (fun _ => 0) (fun a d m' _ q => q) (.inl rfl)).mono fun b => by have := z3 b; (try dsimp only); omega
           . have hlσ := r2.length
             rw [List.set_eq_of_length_le (by omega), List.set_eq_of_length_le (by omega)]
             exact r2
          have kp : ∀ {σ2 : St}, Keeps lk (σ'.set i (some (.ref ea))) σ2 -> Keeps lk σ' (σ2.set i none) := fun k2 => (Zcn hi'.2).trans (k2.trans (Zcn hi'.2))
          cases fl with
          | nx => exact fun σ2 H2 Hs2 M2 k2 g2 st2 r2 => q2 _ H2 Hs2 M2 (kp k2) g2 st2 (hole r2)
          | bk => exact fun σ2 H2 Hs2 M2 k2 g2 st2 r2 => q2 _ H2 Hs2 M2 (kp k2) g2 st2 (hole r2)
          | ct => exact fun σ2 H2 Hs2 M2 k2 g2 st2 r2 => q2 _ H2 Hs2 M2 (kp k2) g2 st2 (hole r2)
          | rt d => exact fun v σ2 H2 Hs2 m2 M2 k2 g2 st2 rv r2 => q2 v _ H2 Hs2 m2 M2 (kp k2) g2 st2 rv (hole r2)
       . rw [if_neg hi'] at q; exact q.elim
    . cases hh
  . rw [if_neg hh] at q; exact q.elim
theorem Zj2 {cv : M D} {value : Expr} (ho : PE X o (tVar i)) (hv : PE X value (tM X.K cv)) (hs : swapsWith value (some (.Attribute o f pos')) pos.line X.env = pure false := by rfl) :
 PS X (.Assign [.Attribute o f pos'] value pos) (tS X.K lk (cv.bnd fun d => (ZaG i).bnd fun _ => (modS i (putX f d)).bnd fun _ => M.ret .nx)) := PS.imp (Zpb ho hv hs) fun E σ H h => by
 obtain ⟨δ, Hs, M, fl, δ', g, s, ea, q⟩ := h
 obtain ⟨d, δ1, e1, eb⟩ := Zc ea
 obtain ⟨p0, δ2, e2, ec⟩ := Zc eb
 obtain ⟨r0, δ3, e3, ed⟩ := Zc ec
 have := Zi ed
 cases this
 obtain ⟨kk, ds0, k', ds', hi, hff, rfl⟩ := ZhK e3
 refine ⟨δ, Hs, M, d, δ1, g, s, e1, fun v H1 Hs1 m1 M1 g1 st1 r1 s1 => ?_⟩
 obtain ⟨rfl, vo, hvo⟩ := Zk8 s1 e2
 obtain ⟨p1, us, m', n2, e8, nn, rl, le, fin⟩ := modL g1 s1 hi
 rw [hvo] at e8
 cases e8
 refine ⟨_, hvo, ?_⟩
 unfold putX at hff
 split at hff
 . rename_i ds ns fr fs
   split at hff
   . rename_i hc
     cases hff
     obtain ⟨hl, C, dx, xn, hH⟩ := nn
     obtain ⟨z1, z2⟩ := Zjr f v fs us hl
     refine ⟨p1, C, dx, fr, fs.zip us, rfl, hH, xn.toXC, xn.nof f hc.2, ?_, fun H' d' h1 h2 => ?_⟩
     . rw [List.length_zip, hl, Nat.min_self]
       rw [<- hl]
       exact hc.1
     . obtain ⟨G, S, R, SS⟩ := fin (.exc C (some d') fr (putF f v (fs.zip us))) (.exc ns fr (putN f fs)) (T.putV f v fs us) (T.putV f d fs ds0) (fun b => m' b + m1 b) (fun _ => 0) .non (.sc .non) (fun b => by (try dsimp only); omega) ⟨z2, C, some d', xn, by rw [Zv, z1]⟩ (rl.putV f r1 hl) (.sc _ _)
       have z := Z1 (m1 := fun _ => 0) g (g1.re fun b => by simp) (st1.drop (fun b => by simp) g1.le) G S
       have k : Same (upd H1 p1 (.exc C (some d') fr (putF f v (fs.zip us)))) H' := fun b o eb => by
        by_cases hb : b = p1
        . subst hb
          rw [Zv] at eb
          cases eb
          exact h1
        . rw [Zt hb] at eb
          exact h2 b o hb eb
       exact q σ _ Hs1 _ (Keeps.refl _ _) ((G.re fun b => by (try dsimp only); omega).up k) (((z.2.1.drop (fun b => by simp) z.1.le).drop (fun b => by (try dsimp only); omega) G.le).up k) (SS.frame (Same.refl _) fun b _ hn => ZdN k b hn)
   . cases hff
 . cases hff
theorem arg1 {K : Fg} {f : BF} {σ : St} {H : Hp} {Q : VK} (h : tM K ((ca.bnd fun p => (M.ret ([] : List Op)).bnd fun ps => M.ret (p :: ps)).bnd fun ps => (views ps).bnd fun ws => lift (bfW f ws)) σ H Q) : tM K ((ca.bnd view).bnd fun w => lift (bfW f [w])) σ H Q := by
 obtain ⟨δ, Hs, M, d, δ', g, s, e, q⟩ := h
 refine ⟨δ, Hs, M, d, δ', g, s, ?_, q⟩
 obtain ⟨ps, δ1, e1, e⟩ := Zc e
 obtain ⟨pp, δ2, e2, e3⟩ := Zc e1
 obtain ⟨z, δ3, e4, e5⟩ := Zc e3
 have := Zi e4
 cases this
 have := Zi e5
 cases this
 obtain ⟨ws, δ4, e6, e⟩ := Zc e
 obtain ⟨w, δ5, e7, e8⟩ := Zc e6
 obtain ⟨z, δ6, e9, e10⟩ := Zc e8
 have := Zi e9
 cases this
 have := Zi e10
 cases this
 show T.M.bnd (ca.bnd view) _ δ = _
 unfold T.M.bnd
 rw [e2]
 dsimp only
 rw [e7]
 exact e
theorem ZkE (ha : PE X a (tP X.K ca)) (hb : attributeBase a f X.env (eval a X.env) = eval a X.env := by rfl) :
 PE X (.Attribute a f pos) (tM X.K ((ca.bnd fun p => (M.ret ([] : List Op)).bnd fun ps => M.ret (p :: ps)).bnd fun ps => (views ps).bnd fun ws => lift (bfW (.xfld f) ws))) :=
 PE.imp (Zpa ha hb) fun σ H Q h => by
  have h2 := arg1 h
  refine op1 (r := fun x H1 Q => ∃ a C dx fr fs v, x = .ref a /\ H1 a = some (.exc C dx fr fs) /\ XD X.K C /\ Zee X.K C f /\ fs.lookup f = some v /\ Q v H1) h2 fun x H Hs w m d g h1 h2 v e o => ?_
  replace e : Zlf f [w] = some d := e
  unfold Zlf at e
  split at e
  . rename_i ns fr fs ds hw
    cases hw
    split at e
    . rename_i hf
      cases v with
      | nd n r =>
       obtain ⟨hl, C, dx, xn, n⟩ := n
       obtain ⟨z, m1, e1, rz, l⟩ := Zk6 r hl e
       exact ⟨_, C, dx, _, _, z, rfl, n, xn.toXD, xn.nof f hf, e1, o.part h1 h2 l rz⟩
    . cases e
  . cases e
end
end T
namespace L2
open PySem PySem.Spec PyProof.Rows
section
variable {X : Cx}
theorem Zi4 {x : V} : ∀ {xs : List V} {us : List Value}, Vals xs us -> xs.all Zbt = true -> us.countP (eqU x) = xs.countP fun y => eqV y x
 | _, _, .nil, _ => rfl
 | y :: xs, u :: us, .cons r t, f => by
  rw [List.all_cons, Bool.and_eq_true] at f
  rw [List.countP_cons, List.countP_cons, ZiW r f.1, Zi4 t f.2]
def Zml (K : Fg) : V -> List V -> Hp -> VK -> Prop := fun x ys H Q => ∃ p xs y, x = .ref p /\ ys = [y] /\ H p = some (.lst xs) /\ Zbt y = true /\ xs.all Zbt = true /\ Q (.int (xs.countP fun u => eqV u y : Nat)) H
theorem Znq : MtR X "list.count" (Zml X.K) := by
 intro pins s σ H x ys v us Q I rx rs h
 obtain ⟨p, xs, y, rfl, rfl, hq, fy, fs, q⟩ := h
 cases rx
 obtain ⟨u, rfl, ry⟩ := Vals.one rs
 obtain ⟨z, its, n, r, e⟩ := (show Zag X.prog X.w H s.heap p (.lst xs) from I.hok p _ hq)
 refine wpAny_call (codeAny_call_builtin F.slot_list_count.plain F.entry_list_count ?_)
 refine F.slot_list_count.check _ _ _ _ _ _ _ _ ⟨_, e, rfl⟩ (F.args_list_count_2 _ _) ?_
 refine SeqAt.list_countAt p its.toArray n none #[] u (eqU y) _ _ _ _ _ ⟨e, fun w hw => Zf3 ry fy r fs w (by simpa using hw), ?_⟩
 refine ⟨.int _, H, I.tok _, ⟨_, rfl⟩, ?_⟩
 rw [show its.toArray.toList = its from rfl, Zi4 r fs]
 exact q
end
end L2
namespace T
open PySem PySem.Spec L2
section
variable {X : Cx} {a c o e : Expr} {es : List Expr} {pos p apos cpos : Pos} {x : Str} {n : String} {ca : M Op} {cs : M (List Op)} {ns : List Str}
theorem Zbi {cn : Str} {D' : Addr} (gx : GX X.K cn D') (ht : PySem.W.typeIn X.K (.ref D') = some (.type "type")) (hg : Gl X "isinstance") (hm : X.mg "isinstance" = none) (ha : PE X a (tP X.K ca)) (hc : PE X c (tC (.ref D'))) (hs : starEach [a, c] X.env = [(false, eval a X.env), (false, eval c X.env)] := by rfl)
 (hs1 : starEach [c] X.env = [(false, eval c X.env)] := by rfl) :
 PE X (.Call (.Name "isinstance" p) [a, c] [] pos) (tM X.K ((ca.bnd fun p => (M.ret ([] : List Op)).bnd fun ps => M.ret (p :: ps)).bnd fun ps => (views ps).bnd fun ws => lift (bfW (.isiX cn) ws))) :=
 PE.imp (Zf2 (Zi3 (.ref D') (.ref D') rfl fun u h => h) hg hm ZeM (Zbg ha (Zbg hc ZcA (by rw [hs1]; rfl)) (by rw [hs, hs1])) (by decide) (by decide) (by rw [hs, hs1]) (by rw [hs1]; rfl)) fun σ H Q h => by
  refine op1 (r := fun x H1 Q => ∃ a C dx fr fs b, [x, V.ref D'] = [V.ref a, V.ref D'] /\ XD X.K C /\ H1 a = some (.exc C dx fr fs) /\ PySem.W.kitOne X.K (.ref C) (.ref D') = some b /\ Q (.bl b) H1) (arg1 h) fun x H Hs w m d g h1 h2 v e o => ?_
  replace e : Zld cn [w] = some d := e
  unfold Zld at e
  split at e
  . rename_i ns fr fs ds hw
    cases hw
    cases e
    cases v with
    | nd n r =>
     obtain ⟨hl, C, dx, xn, n⟩ := n
     exact ⟨_, C, dx, _, _, _, rfl, xn.toXD, n, xn.isa gx ht, o.sc⟩
  . cases e
theorem Zpd : PySem.W.kitMeta "ValueError" = true := by decide +kernel
theorem Zrd : bmV.contains (.type "ValueError") = true := by decide +kernel
theorem Zpe (hg : Gl X "isinstance") (hm : X.mg "isinstance" = none) (ha : PE X a (tP X.K ca)) (hc : PE X c (tC (.ty "ValueError"))) (hs : starEach [a, c] X.env = [(false, eval a X.env), (false, eval c X.env)] := by rfl)
 (hs1 : starEach [c] X.env = [(false, eval c X.env)] := by rfl) :
 PE X (.Call (.Name "isinstance" p) [a, c] [] pos) (tM X.K ((ca.bnd fun p => (M.ret ([] : List Op)).bnd fun ps => M.ret (p :: ps)).bnd fun ps => (views ps).bnd fun ws => lift (bfW .isiV ws))) :=
 PE.imp (Zf2 (Zi3 (.ty "ValueError") (.type "ValueError") rfl fun u h => h) hg hm ZeM (Zbg ha (Zbg hc ZcA (by rw [hs1]; rfl)) (by rw [hs, hs1])) (by decide) (by decide) (by rw [hs, hs1]) (by rw [hs1]; rfl)) fun σ H Q h => by
  refine op1 (r := fun x H1 Q => ∃ a C dx fr fs b, [x, V.ty "ValueError"] = [V.ref a, V.ty "ValueError"] /\ XD X.K C /\ H1 a = some (.exc C dx fr fs) /\ PySem.W.kitOne X.K (.ref C) (.type "ValueError") = some b /\ Q (.bl b) H1) (arg1 h) fun x H Hs w m d g h1 h2 v e o => ?_
  replace e : Zle [w] = some d := e
  unfold Zle at e
  split at e
  . rename_i ns fr fs ds hw
    cases hw
    cases e
    cases v with
    | nd n r =>
     obtain ⟨hl, C, dx, xn, n⟩ := n
     exact ⟨_, C, dx, _, _, _, rfl, xn.toXD, n, xn.isaB Zrd Zpd, o.sc⟩
  . cases e
theorem Zj3 {L : Addr} (M1 : XI X.K L) (hg : Gl X x) (hm : X.mg x = some (.ref L)) (ha : PA X (e :: es) (tPs X.K cs)) (hdb : (x == ("__debug__" : Str)) = false := by decide)
 (hst : starEach (e :: es) X.env = (false, eval e X.env) :: starEach es X.env := by rfl) (hpl : (backTo pos (starEach es X.env)).any (·.1) = false := by rfl)
 {pl : Sem Bool} (ht : eval (.Call (.Attribute (.Name x p) "__init__" apos) (e :: es) [] pos) X.env = (do
  let ov <- eval (.Name x p) X.env
  standAt apos.atName
  let (f, first) <- holding [ov] (getMethod ov "__init__" pl)
  callWith pos f first (backTo pos (starEach (e :: es) X.env)) (backToKw pos (keywordEach [] X.env))) := by rfl) :
 PE X (.Call (.Attribute (.Name x p) "__init__" apos) (e :: es) [] pos) (tM X.K (cs.bnd fun ps => (views ps).bnd fun ws => lift (bfW .xinit ws))) :=
 PE.imp (ZmM (pl := pl) M1 hg hm ha hdb hst hpl ht) fun σ H Q h => by
  obtain ⟨δ, Hs, M, ps, δ', g, s, e, q⟩ := opN h
  refine ⟨δ, Hs, M, ps, δ', g, s, e, fun vs H' Hs' m M' g' st r s' => ?_⟩
  obtain ⟨Hs2, ws, m2, d, hs, h1, h2, v, e2, o⟩ := q vs H' Hs' m M' g' st r s'
  replace e2 : Zjb ws = some d := e2
  unfold Zjb at e2
  split at e2
  . rename_i ns fr fs ds u
    cases e2
    obtain ⟨y, y', m1, m3, rfl, v1, v2, l⟩ := v.two
    cases v1 with
    | nd n r =>
     obtain ⟨hl, C, dx, xn, n⟩ := n
     exact ⟨_, y', C, dx, _, _, rfl, xn.toXC, n, o.sc⟩
  . cases e2
theorem Zj4 : ∀ {ds : List D} {us : List V}, ZdV ds = some us -> us.all Zbt = true
 | [], us, h => by cases h; rfl
 | .sc u :: r, us, h => by
  simp only [ZdV] at h
  split at h
  . rename_i hf
    obtain ⟨w, h1, rfl⟩ := Option.map_eq_some_iff.mp h
    rw [List.all_cons, hf, Zj4 h1]
    rfl
  . cases h
 | .hole :: _, _, h => by cases h
 | .node _ _ _ :: _, _, h => by cases h
theorem Zj5 {K : Fg} {H Hs : Hp} : ∀ {ds : List D} {us vs : List V} {m : Bud}, ZdV ds = some us -> RepL K H Hs vs ds m -> vs = us
 | [], us, _, m, h, .nil _ => by cases h; rfl
 | .sc u :: r, us, _, m, h, .cons x y l => by
  simp only [ZdV] at h
  split at h
  . obtain ⟨w, h1, rfl⟩ := Option.map_eq_some_iff.mp h
    cases x
    rw [Zj5 h1 y]
  . cases h
 | .hole :: _, _, _, _, h, _ => by cases h
 | .node _ _ _ :: _, _, _, _, h, _ => by cases h
theorem Zj6 {v : V} (fv : Zbt v = true) (ho : PE X o (tP X.K ca)) (he : PE X e (tC v))
 (hbase : attributeBase o "count" X.env (eval o X.env) = eval o X.env := by rfl)
 (hfew : ((backTo cpos (starEach [e] X.env)).all (fun x => !x.1) && (backToKw cpos (keywordEach [] X.env)).all (fun x => x.1.isSome)
  && decide ([e].length + ([] : List Keyword).length + (if ([] : List Keyword).isEmpty then 0 else 1) < 30)) = true := by rfl)
 (hline : (apos.endLine == cpos.line) = true := by rfl) (hs : starEach [e] X.env = (false, eval e X.env) :: starEach [] X.env := by rfl) (hplain : (backTo cpos (starEach [] X.env)).any (·.1) = false := by rfl) :
 PE X (.Call (.Attribute o "count" apos) [e] [] cpos) (tM X.K ((ca.bnd fun p => (M.ret ([] : List Op)).bnd fun ps => M.ret (p :: ps)).bnd fun ps => (views ps).bnd fun ws => lift (bfW (.cnt v) ws))) :=
 PE.imp (ZnE PySem.F.plainAttrs_list PySem.F.slot_list_count PySem.F.type_list_count Znq ho (Zbg he ZcA hs) hbase hfew hline hs hplain) fun σ H Q h => by
  refine op1 (r := fun x H1 Q => tyV X.K "list" x H1 /\ Zml X.K x [v] H1 Q) (arg1 h) fun x H Hs w m d g h1 h2 vw e o => ?_
  replace e : cntB v [w] = some d := e
  unfold cntB at e
  split at e
  . rename_i ds hw
    cases hw
    obtain ⟨us, e1, e2⟩ := Option.map_eq_some_iff.mp e
    subst e2
    cases vw with
    | nd n r =>
     have hv := Zj5 e1 r
     subst hv
     exact ⟨.inl ⟨rfl, _, .inl (.inl n)⟩, _, _, v, rfl, rfl, n, fv, Zj4 e1, o.sc⟩
  . cases e
end
end T
namespace L2
open PySem PySem.Spec PyProof.Rows
section
variable {K : Fg} {n : Str} {C L : Addr} {q qL : Str} {N NL : Addr} {bs bsL : List Value} {sn snL : List Str} {sub subL : List Value} {ab abL : Bool} {col colL : Option Bool} {dd ddL : Option Addr} {k0 k1 k2 k3 k5 l0 l1 l2 l3 l5 : Option Value}
theorem ZbQ {bm : List Value} (lk : K.lookup C = some (excClassObj n q C N bs bm true sn sub ab col dd k0 k1 k2 k3 k5 "ValueError.__new__")) (tl : PySem.W.tailIn K bmV bm = true) (tv : Za2 bm = true)
 (sa : PySem.W.findIn K (.ref C) (Str.ofString "__setattr__") = some (some (.builtin "object.__setattr__"))) (ga : PySem.W.findIn K (.ref C) (Str.ofString "__getattribute__") = some (some (.builtin "BaseException.__getattribute__"))) (kp : PySem.W.keepIn K (.ref C) = true) : XC K C :=
 ⟨⟨n, q, N, bs, bm, sn, sub, ab, col, dd, k0, k1, k2, k3, k5, lk, tl, tv⟩, sa, ga, kp⟩
noncomputable def Zj7 (e : DictEntry) : Bool := match e.key with
 | .str _ _ => true
 | _ => false
theorem ZnS : PySem.W.tailIn K bmV bmV = true := by
 unfold PySem.W.tailIn bmV
 simp
theorem ZbF {oc : Value} {od : Option Addr} {es : Array DictEntry} {ep : Nat} {sl : Array (Option Value)} (lL : K.lookup L = some (excClassObj "LabelError" qL L NL bsL bmV true snL subL abL colL ddL l0 l1 l2 l3 l5 "ValueError.__new__")) (ln : K.lookup NL = some ⟨oc, od, .dict es ep, sl⟩) (he : es.all Zj7 = true)
 (hi : PySem.W.nsIn K NL (Str.ofString "__init__") = some none) : PySem.W.tailIn K bmV (.ref L :: bmV) = true := by
 unfold PySem.W.tailIn
 dsimp only
 rw [lL]
 have ok : PySem.W.nsOkIn K NL = true := by
  unfold PySem.W.nsOkIn
  rw [ln]
  exact he
 show ((_ :: _ == bmV) || (PySem.W.nsOkIn K NL && PySem.W.nsIn K NL (Str.ofString "__init__") == some none && PySem.W.tailIn K bmV bmV)) = true
 rw [ok, hi, ZnS]
 simp
theorem Zbn {bm : List Value} (x : PySem.W.nsIn K mainGlobals n = some (some (.ref C))) (lk : K.lookup C = some (excClassObj n q C N bs bm true sn sub ab col dd k0 k1 k2 k3 k5 "ValueError.__new__")) : GX K n C := ⟨x, by unfold PySem.W.clsIn; rw [lk]; rfl⟩
theorem Zci {bm : List Value} (lk : K.lookup C = some (excClassObj n q C N bs bm true sn sub ab col dd k0 k1 k2 k3 k5 "ValueError.__new__")) : PySem.W.typeIn K (.ref C) = some (.type "type") := by
 show Option.map (fun x => x.cls) (List.lookup C K) = _
 rw [lk]
 rfl
theorem Zln (x : PySem.W.nsIn K mainGlobals n = some (some (.ref C))) (lk : K.lookup C = some (excClassObj n q C N bs (.ref L :: bmV) true sn sub ab col dd k0 k1 k2 k3 k5 "ValueError.__new__"))
 (gL : GX K "LabelError" L) (tl : PySem.W.tailIn K bmV (.ref L :: bmV) = true)
 (sa : PySem.W.findIn K (.ref C) (Str.ofString "__setattr__") = some (some (.builtin "object.__setattr__"))) (ga : PySem.W.findIn K (.ref C) (Str.ofString "__getattribute__") = some (some (.builtin "BaseException.__getattribute__"))) (kp : PySem.W.keepIn K (.ref C) = true)
 (hk : PySem.W.findIn K (.ref C) (Str.ofString "__getattr__") = some none) (hc : PySem.W.findIn K (.ref C) "__class__" = some (some (.builtin "object.__class__")))
 (hn : PySem.W.specialIn K (.builtin "object.__class__") "__get__" = some (some (.builtin "getset_descriptor.__get__"))) (ht : PySem.W.takesIn K (.builtin "object.__class__") = some true)
 (n1 : PySem.W.findIn K (.ref C) "row" = some none) (n2 : PySem.W.findIn K (.ref C) "number" = some none) (n3 : PySem.W.findIn K (.ref C) "length" = some none) (n4 : PySem.W.findIn K (.ref C) "numbers" = some none) : XN K [n, "LabelError"] C :=
 ⟨⟨ZbQ lk tl (show Za2 bmV = true by decide +kernel) sa ga kp, hk, hc, hn, ht⟩, ⟨_, by unfold PySem.W.clsIn; rw [lk], C, _, rfl, Zbn x lk, L, _, rfl, gL, rfl⟩, fun f hf => by
   simp only [Zg0, List.mem_cons, List.not_mem_nil, or_false] at hf
   rcases hf with rfl | rfl | rfl | rfl
   . exact n1
   . exact n2
   . exact n3
   . exact n4⟩
end
end L2
namespace T
open PySem PySem.Spec L2
section
variable {X : Cx} {e o value : Expr} {es : List Expr} {body suite : List Stmt} {b₀ : Stmt} {sc : Scope} {N : List Str} {i : Nat} {x cn : Str} {pos pos' np hp : Pos} {lk : Nat -> Bool} {c : M D}
theorem Zj8 {b : Bool} (h : Zd sc N i x b = true) (nd : N.Nodup) (he : PEx X e (tMX X.K c)) (hs : swapsWith e (some (.Name x pos')) pos.line X.env = pure false := by rfl) (e1 : X.env.scope = sc := by rfl) (e2 : X.N = N := by rfl)
 (hf : X.fn x = true \/ b = false := by first | exact .inl rfl | exact .inr rfl) : PX X (.Assign [.Name x pos'] e pos) (tX X.K lk (c.bnd fun d => (asgN lk i d).bnd fun _ => M.ret .nx)) := by
 obtain ⟨h1, h2, h3, h4⟩ := Zd.at h
 have l := Zd.loc h
 subst e1 e2
 refine Zno nd h1 l he hs ?_
 rcases hf with q | q
 . exact .inl q
 . subst q
   exact .inr h2
theorem Znr {cb csu : M Fl} {D' : Addr} (F : Fr0 X X.A) (hx : ∀ e s, ¬ X.xe e s) (h : Zd sc N i x false = true) (nd : N.Nodup) (hb : PXs X body (tX X.K lk cb)) (hs : ∀ v, PSs (X.inH v) (b₀ :: suite) (tS X.K lk csu)) (hg : Gl X cn) (hm : X.mg cn = some (.ref D')) (xc : XC X.K D') (gx : GX X.K cn D') (hdb : (cn == ("__debug__" : Str)) = false)
 (e1 : X.env.scope = sc := by rfl) (e2 : X.N = N := by rfl) :
 PX X (.Try body [.ExceptHandler (some (.Name cn np)) (some x) (b₀ :: suite) hp] [] [] pos) (tX X.K lk (tryM lk cb cn (some i) csu)) := by
 obtain ⟨h1, h2, h3, h4⟩ := Zd.at h
 subst e1 e2
 exact Zpc F hx hb hs hg hm xc gx hdb nd h1 h2
theorem Zj9 : bootBuiltins "ValueError" = some (.type "ValueError") := by decide +kernel
end
section
variable {C : Ctx} {δ δ' : List D} {d : D} {ds : List D} {ns : List Str} {fs : List Str}
theorem Zre (C : Ctx) (i : Nat) (f : FI) (es : List E) : ex C (.asgX i f es) = (((opds C es).bnd fun ps => Zdm f ps).bnd fun d => (asgN C.lock i d).bnd fun _ => M.ret .nx) := (rfl)
theorem Zt7 (C : Ctx) (f : FI) (es : List E) : ex C (.exX f es) = (((opds C es).bnd fun ps => Zdm f ps).bnd fun _ => M.ret .nx) := (rfl)
theorem Zrf (C : Ctx) (f : FI) (es : List E) : ex C (.retX f es) = (((opds C es).bnd fun ps => Zdm f ps).bnd fun d => M.ret (.rt d)) := (rfl)
theorem Zns (C : Ctx) (ns : List Str) (δ : List D) : ex C (.raise0 ns) δ = .exc (.node (.exc ns false []) true []) δ := (rfl)
theorem Znt (C : Ctx) (ns : List Str) (f : FI) (es : List E) : ex C (.raiseI ns f es) = (((opds C es).bnd fun ps => newX ns f ps).bnd Zdn) := (rfl)
theorem Zrg (ns : List Str) (fs : List Str) (ds δ : List D) : Zdn (α := Fl) (.node (.exc ns true fs) true ds) δ = .exc (.node (.exc ns false fs) true ds) δ := (rfl)
theorem Zpf (C : Ctx) (i : Nat) (f : Str) (e : E) : ex C (.attrX i f e) = ((evb C e).1.bnd fun d => (ZaG i).bnd fun _ => (modS i (putX f d)).bnd fun _ => M.ret .nx) := (rfl)
theorem Zrh (C : Ctx) (tg : Tg) (ik : IK) (ies : List E) (body : List S) : ex C (.forX tg ik ies body) = ((opds C ies).bnd fun ps => (ZD ps).bnd fun h => (lift (itW ik h.1)).bnd fun items δ => finB h.2 (forL (asgT (fun j => C.lock j || walked ies j) tg) (exs { C with lock := fun j => C.lock j || walked ies j } body) items δ)) := (rfl)
noncomputable def cxR (ps : List Op) (δ : List D) : Rs (D × List D) -> Rs (D × List D)
 | .ok (d, ds') => ((ZW ps ds').bnd fun _ => M.ret d) δ
 | .exc x ds' => (match ZW ps ds' δ with
  | .ok (_, δ') => .exc x δ'
  | _ => .stuck)
 | .stuck => .stuck
theorem Zri {fi : FI} {ps : List Op} : Zdm fi ps = (Zbj fi.lend ps).bnd fun ds δ => cxR ps δ (fi.run ds) := by
 unfold Zdm cxR
 congr 1
 funext ds δ
 cases fi.run ds with
 | ok r => obtain ⟨d, ds'⟩ := r; rfl
 | exc x y => rfl
 | stuck => rfl
theorem Zrj {ps : List Op} {ds' : List D} : cxR ps δ (.ok (d, ds')) = ((ZW ps ds').bnd fun _ => M.ret d) δ := (rfl)
theorem Znu {α β : Type} (f : α -> M β) (x : D) (δ : List D) : bndR f (.exc x δ) = .exc x δ := (rfl)
theorem Znv (r : M Fl) (x : D) (δ : List D) : seqR r (.exc x δ) = .exc x δ := (rfl)
theorem Znw (asg : D -> M Unit) (body : M Fl) (ds : List D) (x : D) (δ : List D) : forR asg body ds (.exc x δ) = .exc x δ := (rfl)
theorem endX {n : Nat} {δ : List D} {x : D} : Zjd n (.exc x δ) = .exc x (δ.take n) := (rfl)
noncomputable def nxR (ps : List Op) (δ : List D) : Rs (D × List D) -> Rs (D × List D)
 | .ok (.sc .non, d :: ds') => ((ZW ps ds').bnd fun _ => M.ret d) δ
 | _ => .stuck
theorem ZiR {fi : FI} {ps : List Op} (h : ¬ 1000 < ps.length) : newX ns fi ps = (Zbj fi.lend ps).bnd fun ds δ => nxR ps δ (fi.run (.node (.exc ns true []) true [] :: ds)) := by
 unfold newX nxR
 rw [if_neg h]
 congr 1
 funext ds δ
 cases fi.run (.node (.exc ns true []) true [] :: ds) with
 | ok r =>
  obtain ⟨d, ds'⟩ := r
  cases d with
  | sc v => cases v <;> cases ds' <;> rfl
  | _ => rfl
 | exc x y => rfl
 | stuck => rfl
theorem Zrk {ps : List Op} {ds' : List D} : nxR ps δ (.ok (.sc .non, d :: ds')) = ((ZW ps ds').bnd fun _ => M.ret d) δ := (rfl)
theorem Zpg (h : List (Nat × D)) (f : Fl) (δ : List D) : finB h (.ok (f, δ)) = ((Zan h).bnd fun _ => M.ret f) δ := (rfl)
theorem Zmm (i : Nat) (d x : D) (δ : List D) : finB [(i, d)] (.exc x δ) = .exc x (δ.set i d) := (rfl)
theorem Zt8 (ns : List Str) (fr : Bool) (fs : List Str) (ds : List D) (v : V) : bfW .xinit [.nd (.exc ns fr fs) ds, .sc v] = some (.sc .non) := (rfl)
theorem Zph (c : Str) (ns : List Str) (fr : Bool) (fs : List Str) (ds : List D) : bfW (.isiX c) [.nd (.exc ns fr fs) ds] = some (.sc (.bl (decide (c ∈ ns)))) := (rfl)
end
end T
namespace T
open PySem PySem.Spec L2 PyProof.Rows
theorem us1 {P : List Value -> Prop} (h : ∀ a, P [a]) : ∀ us : List Value, us.length = 1 -> P us
 | [a], _ => h a
theorem us2 {P : List Value -> Prop} (h : ∀ a b, P [a, b]) : ∀ us : List Value, us.length = 2 -> P us
 | [a, b], _ => h a b
theorem us3 {P : List Value -> Prop} (h : ∀ a b c, P [a, b, c]) : ∀ us : List Value, us.length = 3 -> P us
 | [a, b, c], _ => h a b c
theorem us4 {P : List Value -> Prop} (h : ∀ a b c d, P [a, b, c, d]) : ∀ us : List Value, us.length = 4 -> P us
 | [a, b, c, d], _ => h a b c d
noncomputable def ZbK (i : Int) (is : List Int) : Int := is.foldl (fun a b => if b < a then b else a) i
theorem ZgI : ∀ (is : List Int) (i : Int), ZbK i is ∈ i :: is /\ ∀ a ∈ i :: is, ZbK i is <= a
 | [], i => ⟨List.mem_cons_self, fun a h => by rw [List.mem_singleton.mp h]; exact Int.le_refl _⟩
 | j :: is, i => by
  obtain ⟨h1, h2⟩ := ZgI is (if j < i then j else i)
  have e : ZbK i (j :: is) = ZbK (if j < i then j else i) is := rfl
  rw [e]
  refine ⟨?_, fun a ha => ?_⟩
  . rcases List.mem_cons.mp h1 with h | h
    . rw [h]
      split <;> simp
    . exact List.mem_cons_of_mem _ (List.mem_cons_of_mem _ h)
  . have h0 := h2 _ List.mem_cons_self
    have hm : (if j < i then j else i) <= i /\ (if j < i then j else i) <= j := by split <;> omega
    (rcases List.mem_cons.mp ha with rfl | ha)
    . exact Int.le_trans h0 hm.1
    . (rcases List.mem_cons.mp ha with rfl | ha)
      . exact Int.le_trans h0 hm.2
      . exact h2 a (List.mem_cons_of_mem _ ha)
theorem Zgg {i M : Int} {is : List Int} (h1 : M ∈ i :: is) (h2 : ∀ a ∈ i :: is, M <= a) : M = ZbK i is := by
 obtain ⟨g1, g2⟩ := ZgI is i
 have := h2 _ g1
 have := g2 _ h1
 omega
section
variable {X : Cx}
theorem Zhy : ∀ (is : List Int) (us : List Value), Vals (is.map V.int) us -> ∃ ts : List (Int × Tok), us = ts.map (fun p => Value.int p.1 p.2) /\ ts.map (·.1) = is
 | [], us, r => by cases r; exact ⟨[], rfl, rfl⟩
 | n :: is, us, r => by
  cases r with
  | cons r rr =>
   obtain ⟨t, rfl⟩ := r
   obtain ⟨ts, e1, e2⟩ := Zhy is _ rr
   exact ⟨(n, t) :: ts, by rw [e1]; rfl, by rw [List.map_cons, e2]⟩
theorem ZiA (hc : X.calm = true) : Zbm X (.builtin "min") (fun xs H Q => ∃ (l : Addr) (i : Int) (is : List Int), xs = [.ref l] /\ SqL X.K H l ((i :: is).map V.int) /\ Q (.int (ZbK i is)) H) := by
 intro pins s σ H xs us Q I r h
 obtain ⟨l, i, is, rfl, hl, q⟩ := h
 obtain ⟨u, rfl, ru⟩ := r.one
 cases (show u = Value.ref l from ru)
 obtain ⟨its, rv, p, hz⟩ := I.list hl
 obtain ⟨ts, e1, e2⟩ := Zhy (i :: is) its rv
 have e3 : its.toArray = intItems ts.toArray := by rw [e1]; unfold intItems; simp
 have hl' := p.isList
 rw [e3] at hl'
 have hn : ts.length = is.length + 1 := by have := congrArg List.length e2; rwa [List.length_map, List.length_cons] at this
 have hsz : 0 < ts.toArray.size := by rw [List.size_toArray]; omega
 refine min_intList (I.ok.hd hc) hl' hsz fun v h' tk hv hk => ?_
 (obtain ⟨t, rfl⟩ := intItems_at hv)
 obtain ⟨h1, h2⟩ := argBest_lt (numAt ts.toArray) (ts.toArray.size - 1)
 have e4 : numAt ts.toArray (argBest (fun i j => decide (numAt ts.toArray i < numAt ts.toArray j)) (ts.toArray.size - 1)) = ZbK i is := by
  apply Zgg
  . rw [numAt_eq, <- e2]
    exact getD_mem (by rw [List.length_map]; rw [List.size_toArray] at h1 ⊢; omega)
  . intro a ha
    rw [<- e2] at ha
    (obtain ⟨j, hj, rfl⟩ := mem_getD ha)
    rw [List.length_map] at hj
    have := h2 j (by rw [List.size_toArray]; omega)
    rw [numAt_eq (j := j)] at this
    exact this
 rw [e4]
 exact ⟨.int _, H, I.kept hk, ⟨_, rfl⟩, q⟩
theorem ZkF (hc : X.calm = true) : Zbm X (.builtin "min") (rNW X.K (bfW .minL)) := by
 intro pins s σ H xs us Q I r h
 obtain ⟨Hs, ws, m, d, hs, h1, h2, v, e, o⟩ := h
 replace e : Zlg _ = _ := e
 unfold Zlg at e
 split at e <;> first | (rename_i z; cases z; done) | skip
 all_goals first
  | (obtain ⟨y, m1, rfl, v, l⟩ := v.one
     cases v with
     | nd n r' =>
      rw [Option.bind_eq_some_iff] at e
      obtain ⟨is, e, e'⟩ := e
      have ei := ZeO r' e
      subst ei
      cases is with
      | nil => cases e'
      | cons i is =>
       cases e'
       exact ZiA hc pins s σ H _ us Q I r ⟨_, _, _, rfl, .inl (.inl n), o.sc⟩)
  | cases e
end
end T
namespace T
open PySem PySem.Spec L2
theorem Zm {X : Cx} {i : Int} {j} {pos : Pos} : PE X (.Constant (.int i) j pos) (tP X.K ((M.ret (.sc (.int i))).bnd fun d => M.ret (.tmp d))) := Ze (ok_k ZaN)
theorem Zb {X : Cx} {sc : Scope} {N} {i : Nat} {x : Str} {b : Bool} {pos : Pos} (h : Zd sc N i x b = true) (e1 : X.env.scope = sc := by rfl) (e2 : X.N = N := by rfl) : PE X (.Name x pos) (tP X.K (ZaG i)) := ZcV (pvs h e1 e2)
end T
namespace My
open PySem PySem.Spec L2 T
local macro_rules | `(tactic| walk_at "d") => `(tactic| decide +kernel)
section
seal L2.PE L2.PS L2.PSs L2.PT L2.PI L2.PA L2.PG L2.PGs L2.PX L2.PXs L2.PEx
noncomputable def top (i : Nat) : Stmt := PySem.Challenge.pw_barlabel_k26_scanned_rows_refused.main.body.getD i (.Pass ⟨0, 0, 0, 0⟩)
noncomputable def ZhE (s : Stmt) (i : Nat) : Stmt := match s with
 | .ClassDef (body := b) .. => b.getD i (.Pass ⟨0, 0, 0, 0⟩)
 | _ => .Pass ⟨0, 0, 0, 0⟩
structure Txt (K : Fg) (mg : Str -> Option Value) (Kaa Kab Kac Kad Kae Kaf Kag Kah Kai Kaj Kak Kal Kam Kan : Addr) : Prop where
 ValueError_ : mg "ValueError" = none
 abs_ : mg "abs" = none
 bool_ : mg "bool" = none
 enumerate_ : mg "enumerate" = none
 int_ : mg "int" = none
 isinstance_ : mg "isinstance" = none
 len_ : mg "len" = none
 list_ : mg "list" = none
 min_ : mg "min" = none
 range_ : mg "range" = none
 sum_ : mg "sum" = none
 CHECK_SYMBOLS_ : ∃ t, mg "CHECK_SYMBOLS" = some (.int 2 t)
 m_a : mg "LabelError" = some (.ref Kaa)
 g_a : GX K "LabelError" Kaa
 t_a : PySem.W.typeIn K (.ref Kaa) = some (.type "type")
 c_a : XC K Kaa
 I_a : XI K Kaa
 m_b : mg "Lost" = some (.ref Kab)
 g_b : GX K "Lost" Kab
 t_b : PySem.W.typeIn K (.ref Kab) = some (.type "type")
 c_b : XC K Kab
 m_c : mg "Mixed" = some (.ref Kac)
 g_c : GX K "Mixed" Kac
 t_c : PySem.W.typeIn K (.ref Kac) = some (.type "type")
 c_c : XC K Kac
 m_d : mg "NoForm" = some (.ref Kad)
 g_d : GX K "NoForm" Kad
 t_d : PySem.W.typeIn K (.ref Kad) = some (.type "type")
 c_d : XC K Kad
 m_e : mg "NoFount" = some (.ref Kae)
 g_e : GX K "NoFount" Kae
 t_e : PySem.W.typeIn K (.ref Kae) = some (.type "type")
 c_e : XC K Kae
 m_f : mg "NoLabel" = some (.ref Kaf)
 g_f : GX K "NoLabel" Kaf
 t_f : PySem.W.typeIn K (.ref Kaf) = some (.type "type")
 c_f : XC K Kaf
 m_g : mg "NoName" = some (.ref Kag)
 g_g : GX K "NoName" Kag
 t_g : PySem.W.typeIn K (.ref Kag) = some (.type "type")
 c_g : XC K Kag
 m_h : mg "NoReading" = some (.ref Kah)
 g_h : GX K "NoReading" Kah
 t_h : PySem.W.typeIn K (.ref Kah) = some (.type "type")
 c_h : XC K Kah
 m_i : mg "NoRoom" = some (.ref Kai)
 g_i : GX K "NoRoom" Kai
 t_i : PySem.W.typeIn K (.ref Kai) = some (.type "type")
 c_i : XC K Kai
 m_j : mg "NoSymbol" = some (.ref Kaj)
 g_j : GX K "NoSymbol" Kaj
 t_j : PySem.W.typeIn K (.ref Kaj) = some (.type "type")
 c_j : XC K Kaj
 X_j : XN K ["NoSymbol", "LabelError"] Kaj
 m_k : mg "NoTable" = some (.ref Kak)
 g_k : GX K "NoTable" Kak
 t_k : PySem.W.typeIn K (.ref Kak) = some (.type "type")
 c_k : XC K Kak
 m_l : mg "NoWriting" = some (.ref Kal)
 g_l : GX K "NoWriting" Kal
 t_l : PySem.W.typeIn K (.ref Kal) = some (.type "type")
 c_l : XC K Kal
 m_m : mg "Spoilt" = some (.ref Kam)
 g_m : GX K "Spoilt" Kam
 t_m : PySem.W.typeIn K (.ref Kam) = some (.type "type")
 c_m : XC K Kam
 X_m : XN K ["Spoilt", "LabelError"] Kam
 i_m : PySem.W.findIn K (.ref Kam) (Str.ofString "__init__") = some (some (.builtin "ValueError.__init__"))
 m_n : mg "TooLong" = some (.ref Kan)
 g_n : GX K "TooLong" Kan
 t_n : PySem.W.typeIn K (.ref Kan) = some (.type "type")
 c_n : XC K Kan
 X_n : XN K ["TooLong", "LabelError"] Kan
noncomputable abbrev ZF : Stmt := ZhE (top 3) 0
noncomputable abbrev Zbo : List Str := ["self", "number"]
theorem ZfA : FnScope Zbo ["self", "number"] (Za ZF) := ⟨rfl, rfl, rfl, by walk_at "d", rfl, by walk_at "d", by walk_at "d"⟩
theorem Zbz : glOk (Za ZF) "LabelError" = true := by walk_at "d"
theorem ZcX : Zd (Za ZF) Zbo 0 "self" false = true := by walk_at "d"
theorem ZcY : Zd (Za ZF) Zbo 1 "number" false = true := by walk_at "d"
noncomputable def Za5 : List T.S := [.ex (.bf .xinit [.v 0, .fs [.k (.str "no symbol: number "), .v 1]]), .attrX 0 "number" (.v 1)]
noncomputable def Z8 : T.FI := ⟨true, T.Zg C0 2 2 Za5⟩
variable {P : Program} {w : World} {K : Fg} {mg : Str -> Option Value} {base : Heap} {f : Addr} {fd : FuncData} {Kaa Kab Kac Kad Kae Kaf Kag Kah Kai Kaj Kak Kal Kam Kan : Addr}
theorem ZfB (F : Fun K "__init__" "NoSymbol.__init__" ZF f fd) (Z : Txt K mg Kaa Kab Kac Kad Kae Kaf Kag Kah Kai Kaj Kak Kal Kam Kan)  : FnOk P w K mg base CX0 (0 + 1) f fd ["self", "number"] (T.spF K (T.Zg C0 2 2 Za5)) :=
 T.Zap (C := C0) (body := Za5) (k := 0) (N := Zbo) F ZfA rfl rfl fun cdv A outer s H E hr =>
 have hu := hr.units
 (Zj (ZhL (Zj3 Z.I_a (glk Zbz) Z.m_a (Zh (Zb ZcX) (Zh (Ze (ZnQ (ZnP (ZnO (Zb ZcY) ZnN)))) Zk)) (dbk Zbz)))
  (Zj (Zj2 (pvs ZcX) (ok_v (pvs ZcY)))
  Zx))
noncomputable abbrev ZN : Stmt := ZhE (top 6) 0
noncomputable abbrev Zb0 : List Str := ["self", "length"]
theorem ZfQ : FnScope Zb0 ["self", "length"] (Za ZN) := ⟨rfl, rfl, rfl, by walk_at "d", rfl, by walk_at "d", by walk_at "d"⟩
theorem ZbB : glOk (Za ZN) "LabelError" = true := by walk_at "d"
theorem Zds : Zd (Za ZN) Zb0 0 "self" false = true := by walk_at "d"
theorem Zdt : Zd (Za ZN) Zb0 1 "length" false = true := by walk_at "d"
noncomputable def ZaA : List T.S := [.ex (.bf .xinit [.v 0, .fs [.k (.str "a length that does not fit: "), .v 1]]), .attrX 0 "length" (.v 1)]
noncomputable def ZY : T.FI := ⟨true, T.Zg C0 2 2 ZaA⟩
theorem ZfR (F : Fun K "__init__" "TooLong.__init__" ZN f fd) (Z : Txt K mg Kaa Kab Kac Kad Kae Kaf Kag Kah Kai Kaj Kak Kal Kam Kan)  : FnOk P w K mg base CX0 (0 + 1) f fd ["self", "length"] (T.spF K (T.Zg C0 2 2 ZaA)) :=
 T.Zap (C := C0) (body := ZaA) (k := 0) (N := Zb0) F ZfQ rfl rfl fun cdv A outer s H E hr =>
 have hu := hr.units
 (Zj (ZhL (Zj3 Z.I_a (glk ZbB) Z.m_a (Zh (Zb Zds) (Zh (Ze (ZnQ (ZnP (ZnO (Zb Zdt) ZnN)))) Zk)) (dbk ZbB)))
  (Zj (Zj2 (pvs Zds) (ok_v (pvs Zdt)))
  Zx))
noncomputable abbrev ZaH : Stmt := top 16
noncomputable abbrev ZfC : List Str := ["thing"]
theorem ZjZ : FnScope ZfC ["thing"] (Za ZaH) := ⟨rfl, rfl, rfl, by walk_at "d", rfl, by walk_at "d", by walk_at "d"⟩
theorem ZcZ : glOk (Za ZaH) "isinstance" = true := by walk_at "d"
theorem Zgh : Zd (Za ZaH) ZfC 0 "thing" false = true := by walk_at "d"
theorem Zdu : glOk (Za ZaH) "bool" = true := by walk_at "d"
theorem ZdO : glOk (Za ZaH) "int" = true := by walk_at "d"
noncomputable def ZR : List T.S := [.ret (.and (.bf (.isi .int) [.v 0]) (.nt (.bf (.isi .bool) [.v 0])))]
noncomputable def Zai : T.FI := ⟨true, T.Zg C0 1 1 ZR⟩
theorem Zka (F : Fun K "is_whole" "is_whole" ZaH f fd) (Z : Txt K mg Kaa Kab Kac Kad Kae Kaf Kag Kah Kai Kaj Kak Kal Kam Kan)  : FnOk P w K mg base CX0 (0 + 1) f fd ["thing"] (T.spF K (T.Zg C0 1 1 ZR)) :=
 T.Zap (C := C0) (body := ZR) (k := 0) (N := ZfC) F ZjZ rfl rfl fun cdv A outer s H E hr =>
 have hu := hr.units
 (Zj (ZM (ZhI (Ze (Zjl (t := .int) (n := "int") rfl (glk ZcZ) Z.isinstance_ (Zb Zgh) (Zgz (v := .ty "int") (glk ZdO) Z.int_ ZrL rfl (nmk ZdO) (dbk ZdO)))) (Zfq (Zk4 (Ze (Zjl (t := .bool) (n := "bool") rfl (glk ZcZ) Z.isinstance_ (Zb Zgh) (Zgz (v := .ty "bool") (glk Zdu) Z.bool_ ZlP rfl (nmk Zdu) (dbk Zdu))))))))
  Zx)
noncomputable abbrev ZaI : Stmt := top 17
noncomputable abbrev ZdZ : List Str := ["count", "thing"]
theorem ZjA : FnScope ZdZ ["count", "thing"] (Za ZaI) := ⟨rfl, rfl, rfl, by walk_at "d", rfl, by walk_at "d", by walk_at "d"⟩
theorem ZfI : Zd (Za ZaI) ZdZ 1 "thing" false = true := by walk_at "d"
theorem ZiB : Zd (Za ZaI) ZdZ 0 "count" false = true := by walk_at "d"
theorem Zdv : glOk (Za ZaI) "is_whole" = true := by walk_at "d"
noncomputable def Za6 : List T.S := [.ret (.and (.call Zai [.v 1]) (.chain .LtE .Lt (.k (.int 0)) (.v 1) (.v 0)))]
noncomputable def Zau : T.FI := ⟨true, T.Zg C0 2 2 Za6⟩
theorem ZjB (F : Fun K "is_symbol" "is_symbol" ZaI f fd) (Z : Txt K mg Kaa Kab Kac Kad Kae Kaf Kag Kah Kai Kaj Kak Kal Kam Kan) (G_is_whole : FnAt P w K mg base "is_whole" 1 ["thing"] (T.spF K Zai.run)) : FnOk P w K mg base CX0 (1 + 1) f fd ["count", "thing"] (T.spF K (T.Zg C0 2 2 Za6)) :=
 T.Zap (C := C0) (body := Za6) (k := 1) (N := ZdZ) F ZjA rfl rfl fun cdv A outer s H E hr =>
 have hu := hr.units
 (Zj (ZM (ZhI (Ze (ZJ G_is_whole hr (Zh (Zb ZfI) Zk) (hg := glk Zdv) (hdb := dbk Zdv))) (Zfq (Znc hu Zm (Zb ZfI) (Zb ZiB)))))
  Zx)
noncomputable abbrev Z7 : Stmt := top 18
noncomputable abbrev ZaT : List Str := ["count", "row", "number", "thing"]
theorem ZcU : FnScope ZaT ["count", "row"] (Za Z7) := ⟨rfl, rfl, rfl, by walk_at "d", rfl, by walk_at "d", by walk_at "d"⟩
theorem ZgB : Zd (Za Z7) ZaT 1 "row" false = true := by walk_at "d"
theorem Ze9 : glOk (Za Z7) "enumerate" = true := by walk_at "d"
theorem Ze2 : Zd (Za Z7) ZaT 3 "thing" false = true := by walk_at "d"
theorem Ze3 : Zd (Za Z7) ZaT 2 "number" false = true := by walk_at "d"
theorem Zcj : glOk (Za Z7) "is_symbol" = true := by walk_at "d"
theorem ZgC : Zd (Za Z7) ZaT 0 "count" false = true := by walk_at "d"
theorem Zcq : glOk (Za Z7) "NoSymbol" = true := by walk_at "d"
noncomputable def Zax : List T.S := [.forX (.tup [2, 3]) .enum [.v 1, .k (.int 0)] [.iff (.nt (.call Zau [.v 0, .v 3])) [.raiseI ["NoSymbol", "LabelError"] Z8 [.v 2]] []]]
noncomputable def ZC : T.FI := ⟨true, T.Zg C0 2 4 Zax⟩
theorem ZgR (F : Fun K "check_symbols" "check_symbols" Z7 f fd) (Z : Txt K mg Kaa Kab Kac Kad Kae Kaf Kag Kah Kai Kaj Kak Kal Kam Kan) (G_is_symbol : FnAt P w K mg base "is_symbol" 2 ["count", "thing"] (T.spF K Zau.run)) (G_NoSymbol___init__ : XMk P w K mg base "NoSymbol" ["NoSymbol", "LabelError"] 1 ["self", "number"] (T.spF K Z8.run)) : FnOk P w K mg base (CXx P w) (2 + 1) f fd ["count", "row"] (T.spX K (T.Zg C0 2 4 Zax)) :=
 T.Zfw (C := C0) (body := Zax) (k := 2) (N := ZaT) F ZcU rfl rfl fun cdv A outer s H E hF hr =>
 have hu := hr.units
 (Zq (Zj1 (Zaz _ _) hF (fun _ _ h => h) rfl (Zho _ _) (hw_2 (ZhQ rfl) (Zhs rfl)) (ZgP (glk Ze9) Z.enumerate_ (Zb ZgB)) (ZiP rfl (Zdq Ze3 ZcU.nd (Zdq Ze2 ZcU.nd Zhm)))
  (Zq (ZbZ (Zk3 (Zbv (Ze (ZJ G_is_symbol hr (Zh (Zb ZgC) (Zh (Zb Ze2) Zk)) (hg := glk Zcj) (hdb := dbk Zcj))))) (Zq (Zhx rfl (Zaz _ _) G_NoSymbol___init__ hr (Zh (Zb Ze3) Zk) (hg := glk Zcq) (hdb := dbk Zcq))
  Z3) Z3)
  Z3))
  Z3)
noncomputable abbrev ZaJ : Stmt := top 21
noncomputable abbrev Zea : List Str := ["prime", "row"]
theorem ZjC : FnScope Zea ["prime", "row"] (Za ZaJ) := ⟨rfl, rfl, rfl, by walk_at "d", rfl, by walk_at "d", by walk_at "d"⟩
theorem Zdw : glOk (Za ZaJ) "sum" = true := by walk_at "d"
theorem ZiC : Zd (Za ZaJ) Zea 1 "row" false = true := by walk_at "d"
theorem ZiD : Zd (Za ZaJ) Zea 0 "prime" false = true := by walk_at "d"
noncomputable def Zcr : List T.S := [.ret (.bin .Mod (.bf .sum [.v 1]) (.v 0))]
noncomputable def ZH : T.FI := ⟨true, T.Zg C0 2 2 Zcr⟩
theorem ZjD (F : Fun K "plain_sum" "plain_sum" ZaJ f fd) (Z : Txt K mg Kaa Kab Kac Kad Kae Kaf Kag Kah Kai Kaj Kak Kal Kam Kan)  : FnOk P w K mg base CX0 (0 + 1) f fd ["prime", "row"] (T.spF K (T.Zg C0 2 2 Zcr)) :=
 T.Zap (C := C0) (body := Zcr) (k := 0) (N := Zea) F ZjC rfl rfl fun cdv A outer s H E hr =>
 have hu := hr.units
 (Zj (ZM (Zn (Zo _) (Ze (ZbI (ZlW rfl) (glk Zdw) Z.sum_ Zmb (Zh (Zb ZiC) Zk) (nmk Zdw) (dbk Zdw))) (Zb ZiD)))
  Zx)
noncomputable abbrev ZL : Stmt := top 22
noncomputable abbrev Zca : List Str := ["prime", "row"]
theorem ZhU : FnScope Zca ["prime", "row"] (Za ZL) := ⟨rfl, rfl, rfl, by walk_at "d", rfl, by walk_at "d", by walk_at "d"⟩
theorem Zc7 : glOk (Za ZL) "sum" = true := by walk_at "d"
theorem Zhz : Zd (Za ZL) Zca 1 "row" false = true := by walk_at "d"
theorem Zfb : glOk (Za ZL) "enumerate" = true := by walk_at "d"
noncomputable abbrev Zc8 : Scope := { kind := .function, names := [(Str.ofString ".0", NameKind.local), (Str.ofString "place", NameKind.local), (Str.ofString "symbol", NameKind.local)], isGenerator := false, isCoroutine := false, more := [] }
noncomputable abbrev ZbR : List Str := ["place", "symbol"]
theorem Zgi : Zeg (Za ZL) Zca 2 [] ZbR Zc8 = true := by walk_at "d"
theorem ZdD : ZbR.Nodup := by walk_at "d"
theorem Zen : Zd (Zal Zc8 (Za ZL)) ZbR 1 "symbol" false = true := by walk_at "d"
theorem Zeo : Zd (Zal Zc8 (Za ZL)) ZbR 0 "place" false = true := by walk_at "d"
theorem Zh0 : Zd (Za ZL) Zca 0 "prime" false = true := by walk_at "d"
noncomputable def ZbL : List T.S := [.ret (.bin .Mod (.bf .sum [.comp 2 [] (.tup [0, 1]) .enum [.v 1, .k (.int 1)] [] (.bin .Mult (.v 0) (.v 1))]) (.v 0))]
noncomputable def ZV : T.FI := ⟨true, T.Zg C0 2 2 ZbL⟩
theorem ZhV (F : Fun K "weighed_sum" "weighed_sum" ZL f fd) (Z : Txt K mg Kaa Kab Kac Kad Kae Kaf Kag Kah Kai Kaj Kak Kal Kam Kan)  : FnOk P w K mg base CX0 (0 + 1) f fd ["prime", "row"] (T.spF K (T.Zg C0 2 2 ZbL)) :=
 T.Zap (C := C0) (body := ZbL) (k := 0) (N := Zca) F ZhU rfl rfl fun cdv A outer s H E hr =>
 have hu := hr.units
 (Zj (ZM (Zn (Zo _) (Ze (ZbI (ZlW rfl) (glk Zc7) Z.sum_ Zmb (Zh (Ze (ZhO rfl (CompScope.of Zgi rfl rfl) (Znd (glk Zfb) Z.enumerate_ (Zb Zhz) ZaN) (fun cl C s₀ H₀ ex => ⟨(ZiP rfl (Zdq Zeo ZdD (Zdq Zen ZdD Zhm))), Zjp, (Zn (Zo _) (Zb Zeo) (Zb Zen))⟩))) Zk) (nmk Zc7) (dbk Zc7))) (Zb Zh0)))
  Zx)
noncomputable abbrev Zbf : Stmt := top 23
noncomputable abbrev Zfh : List Str := ["prime", "row"]
theorem Zlo : FnScope Zfh ["prime", "row"] (Za Zbf) := ⟨rfl, rfl, rfl, by walk_at "d", rfl, by walk_at "d", by walk_at "d"⟩
theorem Zda : glOk (Za Zbf) "weighed_sum" = true := by walk_at "d"
theorem ZgJ : Zd (Za Zbf) Zfh 0 "prime" false = true := by walk_at "d"
theorem ZgK : Zd (Za Zbf) Zfh 1 "row" false = true := by walk_at "d"
theorem ZdE : glOk (Za Zbf) "plain_sum" = true := by walk_at "d"
noncomputable def Zdx : List T.S := [.ret (.and (.cmp .Eq (.call ZH [.v 0, .v 1]) (.k (.int 0))) (.cmp .Eq (.call ZV [.v 0, .v 1]) (.k (.int 0))))]
noncomputable def Zdb : T.FI := ⟨true, T.Zg C0 2 2 Zdx⟩
theorem Zlp (F : Fun K "is_good" "is_good" Zbf f fd) (Z : Txt K mg Kaa Kab Kac Kad Kae Kaf Kag Kah Kai Kaj Kak Kal Kam Kan) (G_weighed_sum : FnAt P w K mg base "weighed_sum" 1 ["prime", "row"] (T.spF K ZV.run)) (G_plain_sum : FnAt P w K mg base "plain_sum" 1 ["prime", "row"] (T.spF K ZH.run)) : FnOk P w K mg base CX0 (1 + 1) f fd ["prime", "row"] (T.spF K (T.Zg C0 2 2 Zdx)) :=
 T.Zap (C := C0) (body := Zdx) (k := 1) (N := Zfh) F Zlo rfl rfl fun cdv A outer s H E hr =>
 have hu := hr.units
 (Zj (ZM (ZhI (Ze (ZeJ hu (Ze (ZJ G_plain_sum hr (Zh (Zb ZgJ) (Zh (Zb ZgK) Zk)) (hg := glk ZdE) (hdb := dbk ZdE))) Zm)) (Zfq (ZeJ hu (Ze (ZJ G_weighed_sum hr (Zh (Zb ZgJ) (Zh (Zb ZgK) Zk)) (hg := glk Zda) (hdb := dbk Zda))) Zm))))
  Zx)
noncomputable abbrev Zaj : Stmt := top 24
noncomputable abbrev ZeA : List Str := ["prime", "rest", "divisor"]
theorem Zkb : FnScope ZeA ["prime", "rest", "divisor"] (Za Zaj) := ⟨rfl, rfl, rfl, by walk_at "d", rfl, by walk_at "d", by walk_at "d"⟩
theorem ZjE : Zd (Za Zaj) ZeA 0 "prime" true = true := by walk_at "d"
theorem ZgS : glOk (Za Zaj) "range" = true := by walk_at "d"
noncomputable abbrev ZbM : Scope := { kind := .function, names := [(Str.ofString ".0", NameKind.local), (Str.ofString "symbol", NameKind.local), (Str.ofString "divisor", NameKind.free), (Str.ofString "prime", NameKind.free), (Str.ofString "rest", NameKind.free)], isGenerator := false, isCoroutine := false, more := [] }
noncomputable abbrev Zbq : List Str := ["symbol", "rest", "prime", "divisor"]
theorem Zh1 : Zeg (Za Zaj) ZeA 1 [1, 0, 2] Zbq ZbM = true := by walk_at "d"
theorem ZgT : Zbq.Nodup := by walk_at "d"
theorem Zdy : Zd (Zal ZbM (Za Zaj)) Zbq 0 "symbol" false = true := by walk_at "d"
theorem Zh2 : Zdl (Zal ZbM (Za Zaj)) Zbq 3 "divisor" = true := by walk_at "d"
theorem Zh3 : Zdl (Zal ZbM (Za Zaj)) Zbq 2 "prime" = true := by walk_at "d"
theorem Zh4 : Zdl (Zal ZbM (Za Zaj)) Zbq 1 "rest" = true := by walk_at "d"
noncomputable def ZcF : List T.S := [.ret (.ix (.comp 1 [1, 0, 2] (.name 0) .rng1 [.v 0] [.cmp .Eq (.bin .Mod (.bin .Mult (.v 0) (.v 3)) (.v 2)) (.v 1)] (.v 0)) (.k (.int 0)))]
noncomputable def Zdz : T.FI := ⟨true, T.Zg C0 3 3 ZcF⟩
theorem Zkc (F : Fun K "quotient" "quotient" Zaj f fd) (Z : Txt K mg Kaa Kab Kac Kad Kae Kaf Kag Kah Kai Kaj Kak Kal Kam Kan)  : FnOk P w K mg base CX0 (0 + 1) f fd ["prime", "rest", "divisor"] (T.spF K (T.Zg C0 3 3 ZcF)) :=
 T.Zap (C := C0) (body := ZcF) (k := 0) (N := ZeA) F Zkb rfl rfl fun cdv A outer s H E hr =>
 have hu := hr.units
 (Zj (ZM (Zbw hu (Ze (ZhO rfl (CompScope.of Zh1 rfl rfl) (Zfs (glk ZgS) Z.range_ (Zb ZjE)) (fun cl C s₀ H₀ ex => ⟨(Zf7 Zdy ZgT), (Zjq (ZZ hu (Ze (Zn (Zo _) (Ze (Zn (Zo _) (Zb Zdy) (ZcV (pvf Zh2)))) (ZcV (pvf Zh3)))) (ZcV (pvf Zh4)))), (ok_v (pvs Zdy))⟩))) Zm))
  Zx)
noncomputable abbrev Zr : Stmt := top 25
noncomputable abbrev ZU : List Str := ["prime", "row", "earlier", "later", "place", "rest", "filled"]
theorem Zb1 : FnScope ZU ["prime", "row", "earlier", "later"] (Za Zr) := ⟨rfl, rfl, rfl, by walk_at "d", rfl, by walk_at "d", by walk_at "d"⟩
theorem ZdF : Zd (Za Zr) ZU 4 "place" false = true := by walk_at "d"
theorem Zcf : Zd (Za Zr) ZU 2 "earlier" false = true := by walk_at "d"
theorem ZdG : Zd (Za Zr) ZU 5 "rest" false = true := by walk_at "d"
theorem Zao : glOk (Za Zr) "plain_sum" = true := by walk_at "d"
theorem Zaq : Zd (Za Zr) ZU 0 "prime" false = true := by walk_at "d"
theorem Zcg : Zd (Za Zr) ZU 1 "row" false = true := by walk_at "d"
theorem ZbC : glOk (Za Zr) "weighed_sum" = true := by walk_at "d"
theorem ZaB : Zd (Za Zr) ZU 6 "filled" false = true := by walk_at "d"
theorem Zb7 : glOk (Za Zr) "list" = true := by walk_at "d"
theorem ZdH : Zd (Za Zr) ZU 3 "later" false = true := by walk_at "d"
theorem Zcb : glOk (Za Zr) "quotient" = true := by walk_at "d"
noncomputable def ZaO : List T.S := [.asg 4 (.bin .Add (.v 2) (.k (.int 1))), .asg 5 (.bin .Mod (.bin .Sub (.bin .Mult (.v 4) (.call ZH [.v 0, .v 1])) (.call ZV [.v 0, .v 1])) (.v 0)), .asg 6 (.bf .list [.v 1]), .sub 6 [] (.v 3) (.call Zdz [.v 0, .v 5, .bin .Sub (.v 3) (.v 2)]), .sub 6 [] (.v 2) (.bin .Mod (.neg (.call ZH [.v 0, .v 6])) (.v 0)), .ret (.v 6)]
noncomputable def Zam : T.FI := ⟨true, T.Zg C0 4 7 ZaO⟩
theorem Zgj (F : Fun K "with_two_filled" "with_two_filled" Zr f fd) (Z : Txt K mg Kaa Kab Kac Kad Kae Kaf Kag Kah Kai Kaj Kak Kal Kam Kan) (G_plain_sum : FnAt P w K mg base "plain_sum" 1 ["prime", "row"] (T.spF K ZH.run)) (G_weighed_sum : FnAt P w K mg base "weighed_sum" 1 ["prime", "row"] (T.spF K ZV.run)) (G_quotient : FnAt P w K mg base "quotient" 1 ["prime", "rest", "divisor"] (T.spF K Zdz.run)) : FnOk P w K mg base CX0 (1 + 1) f fd ["prime", "row", "earlier", "later"] (T.spF K (T.Zg C0 4 7 ZaO)) :=
 T.Zap (C := C0) (body := ZaO) (k := 1) (N := ZU) F Zb1 rfl rfl fun cdv A outer s H E hr =>
 have hu := hr.units
 (Zj (ZX ZdF Zb1.nd (Zn (Zo _) (Zb Zcf) Zm))
  (Zj (ZX ZdG Zb1.nd (Zn (Zo _) (Ze (Zn (Zo _) (Ze (Zn (Zo _) (Zb ZdF) (Ze (ZJ G_plain_sum hr (Zh (Zb Zaq) (Zh (Zb Zcg) Zk)) (hg := glk Zao) (hdb := dbk Zao))))) (Ze (ZJ G_weighed_sum hr (Zh (Zb Zaq) (Zh (Zb Zcg) Zk)) (hg := glk ZbC) (hdb := dbk ZbC))))) (Zb Zaq)))
  (Zj (ZX ZaB Zb1.nd (Zjk ZhJ (glk Zb7) Z.list_ ZhS (Zh (Zb Zcg) Zk) (nmk Zb7) (dbk Zb7)))
  (Zj (ZcW hu (pvs ZaB) (Zb ZdH) (ZJ G_quotient hr (Zh (Zb Zaq) (Zh (Zb ZdG) (Zh (Ze (Zn (Zo _) (Zb ZdH) (Zb Zcf))) Zk))) (hg := glk Zcb) (hdb := dbk Zcb)))
  (Zj (ZcW hu (pvs ZaB) (Zb Zcf) (Zn (Zo _) (Ze (Zjf (Ze (ZJ G_plain_sum hr (Zh (Zb Zaq) (Zh (Zb ZaB) Zk)) (hg := glk Zao) (hdb := dbk Zao))))) (Zb Zaq)))
  (Zj (ZM (Zhl (pvs ZaB)))
  Zx))))))
noncomputable abbrev Zl : Stmt := top 26
noncomputable abbrev ZO : List Str := ["prime", "row", "excess", "weight", "number", "symbol", "righted"]
theorem Zar : FnScope ZO ["prime", "row"] (Za Zl) := ⟨rfl, rfl, rfl, by walk_at "d", rfl, by walk_at "d", by walk_at "d"⟩
theorem ZbS : Zd (Za Zl) ZO 2 "excess" false = true := by walk_at "d"
theorem ZbN : glOk (Za Zl) "plain_sum" = true := by walk_at "d"
theorem ZaY : Zd (Za Zl) ZO 0 "prime" false = true := by walk_at "d"
theorem ZaZ : Zd (Za Zl) ZO 1 "row" false = true := by walk_at "d"
theorem Zd0 : Zd (Za Zl) ZO 3 "weight" false = true := by walk_at "d"
theorem Zb2 : glOk (Za Zl) "weighed_sum" = true := by walk_at "d"
theorem ZdP : glOk (Za Zl) "enumerate" = true := by walk_at "d"
theorem Zd1 : Zd (Za Zl) ZO 5 "symbol" false = true := by walk_at "d"
theorem ZbT : Zd (Za Zl) ZO 4 "number" false = true := by walk_at "d"
theorem ZbU : Zd (Za Zl) ZO 6 "righted" false = true := by walk_at "d"
theorem Zbp : glOk (Za Zl) "list" = true := by walk_at "d"
theorem Zck : glOk (Za Zl) "Spoilt" = true := by walk_at "d"
noncomputable def Zaa : List T.S := [.asg 2 (.call ZH [.v 0, .v 1]), .asg 3 (.call ZV [.v 0, .v 1]), .forX (.tup [4, 5]) .enum [.v 1, .k (.int 0)] [.iff (.cmp .Eq (.bin .Mod (.bin .Mult (.bin .Add (.v 4) (.k (.int 1))) (.v 2)) (.v 0)) (.v 3)) [.asg 6 (.bf .list [.v 1]), .sub 6 [] (.v 4) (.bin .Mod (.bin .Sub (.v 5) (.v 2)) (.v 0)), .ret (.v 6)] []], .raise0 ["Spoilt", "LabelError"]]
noncomputable def ZP : T.FI := ⟨false, T.Zg C0 2 7 Zaa⟩
theorem ZfS (F : Fun K "with_one_righted" "with_one_righted" Zl f fd) (Z : Txt K mg Kaa Kab Kac Kad Kae Kaf Kag Kah Kai Kaj Kak Kal Kam Kan) (G_plain_sum : FnAt P w K mg base "plain_sum" 1 ["prime", "row"] (T.spF K ZH.run)) (G_weighed_sum : FnAt P w K mg base "weighed_sum" 1 ["prime", "row"] (T.spF K ZV.run)) : FnOk P w K mg base (CXx P w) (1 + 1) f fd ["prime", "row"] (T.spX K (T.Zg C0 2 7 Zaa)) :=
 T.Zfw (C := C0) (body := Zaa) (k := 1) (N := ZO) F Zar rfl rfl fun cdv A outer s H E hF hr =>
 have hu := hr.units
 (Zq (Zac (ZX ZbS Zar.nd (ZJ G_plain_sum hr (Zh (Zb ZaY) (Zh (Zb ZaZ) Zk)) (hg := glk ZbN) (hdb := dbk ZbN))))
  (Zq (Zac (ZX Zd0 Zar.nd (ZJ G_weighed_sum hr (Zh (Zb ZaY) (Zh (Zb ZaZ) Zk)) (hg := glk Zb2) (hdb := dbk Zb2))))
  (Zq (Zj1 (Zaz _ _) hF (fun _ _ h => h) rfl (Zho _ _) (hw_2 (ZhQ rfl) (Zhs rfl)) (ZgP (glk ZdP) Z.enumerate_ (Zb ZaZ)) (ZiP rfl (Zdq ZbT Zar.nd (Zdq Zd1 Zar.nd Zhm)))
  (Zq (ZbZ (ZZ hu (Ze (Zn (Zo _) (Ze (Zn (Zo _) (Ze (Zn (Zo _) (Zb ZbT) Zm)) (Zb ZbS))) (Zb ZaY))) (Zb Zd0)) (Zq (Zac (ZX ZbU Zar.nd (Zjk ZhJ (glk Zbp) Z.list_ ZhS (Zh (Zb ZaZ) Zk) (nmk Zbp) (dbk Zbp))))
  (Zq (Zac (ZcW hu (pvs ZbU) (Zb ZbT) (Zn (Zo _) (Ze (Zn (Zo _) (Zb Zd1) (Zb ZbS))) (Zb ZaY))))
  (Zq (Zac (ZM (Zhl (pvs ZbU))))
  Z3))) Z3)
  Z3))
  (Zq (Zhw rfl Z.X_m Z.i_m (glk Zck) Z.m_m (dbk Zck))
  Z3))))
noncomputable abbrev Zba : Stmt := top 27
noncomputable abbrev ZeB : List Str := ["prime", "row", "length"]
theorem Zkd : FnScope ZeB ["prime", "row"] (Za Zba) := ⟨rfl, rfl, rfl, by walk_at "d", rfl, by walk_at "d", by walk_at "d"⟩
theorem Zcs : glOk (Za Zba) "check_symbols" = true := by walk_at "d"
theorem ZjF : Zd (Za Zba) ZeB 0 "prime" false = true := by walk_at "d"
theorem ZjG : Zd (Za Zba) ZeB 1 "row" false = true := by walk_at "d"
noncomputable def ZcG : List T.S := [.exX ZC [.v 0, .v 1], .raise (.k .non), .raise (.k .non), .raise (.k .non)]
noncomputable def Zbb : T.FI := ⟨true, T.Zg C0 2 3 ZcG⟩
theorem Zke (F : Fun K "labelled" "labelled" Zba f fd) (Z : Txt K mg Kaa Kab Kac Kad Kae Kaf Kag Kah Kai Kaj Kak Kal Kam Kan) (GX_check_symbols : FnAtX P w K mg base "check_symbols" 3 ["count", "row"] (T.spX K ZC.run)) : FnOk P w K mg base (CXx P w) (3 + 1) f fd ["prime", "row"] (T.spX K (T.Zg C0 2 3 ZcG)) :=
 have G_check_symbols := GX_check_symbols
 T.Zfw (C := C0) (body := ZcG) (k := 3) (N := ZeB) F Zkd rfl rfl fun cdv A outer s H E hF hr =>
 have hu := hr.units
 (Zq (Zi2 (Zgf (Zaz _ _) G_check_symbols hr (Zh (Zb ZjF) (Zh (Zb ZjG) Zk)) (hg := glk Zcs) (hdb := dbk Zcs)))
  (Zq Zfg
  (Zq Zfg
  (Zq Zfg
  Z3))))
noncomputable abbrev Z6 : Stmt := top 28
noncomputable abbrev Zct : List Str := ["prime", "things", "row", "unreadable"]
theorem Zgk : FnScope Zct ["prime", "things"] (Za Z6) := ⟨rfl, rfl, rfl, by walk_at "d", rfl, by walk_at "d", by walk_at "d"⟩
theorem ZaK : Zd (Za Z6) Zct 2 "row" false = true := by walk_at "d"
theorem Zh5 : Zd (Za Z6) Zct 1 "things" false = true := by walk_at "d"
noncomputable abbrev ZeR : Scope := { kind := .function, names := [(Str.ofString ".0", NameKind.local), (Str.ofString "thing", NameKind.local)], isGenerator := false, isCoroutine := false, more := [] }
noncomputable abbrev Zfl : List Str := ["thing"]
theorem ZiE : Zeg (Za Z6) Zct 1 [] Zfl ZeR = true := by walk_at "d"
theorem ZhW : Zfl.Nodup := by walk_at "d"
theorem Zev : Zd (Zal ZeR (Za Z6)) Zfl 0 "thing" false = true := by walk_at "d"
theorem ZhX : ZeN (Za Z6) ZeR "row" = true := by walk_at "d"
theorem ZcH : glOk (Za Z6) "check_symbols" = true := by walk_at "d"
theorem ZbV : Zd (Za Z6) Zct 0 "prime" false = true := by walk_at "d"
theorem ZcI : glOk (Za Z6) "CHECK_SYMBOLS" = true := by walk_at "d"
theorem ZE : glOk (Za Z6) "len" = true := by walk_at "d"
theorem ZeS : glOk (Za Z6) "TooLong" = true := by walk_at "d"
theorem ZbW : Zd (Za Z6) Zct 3 "unreadable" false = true := by walk_at "d"
theorem Zgl : glOk (Za Z6) "enumerate" = true := by walk_at "d"
noncomputable abbrev Zd2 : Scope := { kind := .function, names := [(Str.ofString ".0", NameKind.local), (Str.ofString "number", NameKind.local), (Str.ofString "thing", NameKind.local)], isGenerator := false, isCoroutine := false, more := [] }
noncomputable abbrev Zeb : List Str := ["number", "thing"]
theorem ZiF : Zeg (Za Z6) Zct 2 [] Zeb Zd2 = true := by walk_at "d"
theorem Zfx : Zeb.Nodup := by walk_at "d"
theorem ZfJ : Zd (Zal Zd2 (Za Z6)) Zeb 1 "thing" false = true := by walk_at "d"
theorem ZfK : Zd (Zal Zd2 (Za Z6)) Zeb 0 "number" false = true := by walk_at "d"
theorem ZhY : ZeN (Za Z6) Zd2 "unreadable" = true := by walk_at "d"
theorem Zfi : glOk (Za Z6) "Spoilt" = true := by walk_at "d"
theorem Zcu : glOk (Za Z6) "with_two_filled" = true := by walk_at "d"
theorem Zep : glOk (Za Z6) "plain_sum" = true := by walk_at "d"
theorem ZeT : glOk (Za Z6) "is_good" = true := by walk_at "d"
theorem Zcl : glOk (Za Z6) "with_one_righted" = true := by walk_at "d"
noncomputable def Zb3 : List T.S := [.asg 2 (.comp 1 [] (.name 0) .val [.v 1] [] (.ife (.isN true (.v 0)) (.k (.int 0)) (.v 0))), .exX ZC [.v 0, .v 2], .iff (.nt (.chain .LtE .LtE (.k (.int 2)) (.bf .len [.v 2]) (.v 0))) [.raiseI ["TooLong", "LabelError"] ZY [.bf .len [.v 2]]] [], .asg 3 (.comp 2 [] (.tup [0, 1]) .enum [.v 1, .k (.int 0)] [.isN true (.v 1)] (.v 0)), .iff (.cmp .Gt (.bf .len [.v 3]) (.k (.int 2))) [.raise0 ["Spoilt", "LabelError"]] [], .iff (.cmp .Eq (.bf .len [.v 3]) (.k (.int 2))) [.ret (.call Zam [.v 0, .v 2, .ix (.v 3) (.k (.int 0)), .ix (.v 3) (.k (.int 1))])] [], .iff (.cmp .Eq (.bf .len [.v 3]) (.k (.int 1))) [.sub 2 [] (.ix (.v 3) (.k (.int 0))) (.bin .Mod (.neg (.call ZH [.v 0, .v 2])) (.v 0))] [], .iff (.call Zdb [.v 0, .v 2]) [.ret (.v 2)] [], .retX ZP [.v 0, .v 2]]
noncomputable def Zad : T.FI := ⟨true, T.Zg C0 2 4 Zb3⟩
theorem Zmn (F : Fun K "mended" "mended" Z6 f fd) (Z : Txt K mg Kaa Kab Kac Kad Kae Kaf Kag Kah Kai Kaj Kak Kal Kam Kan) (GX_check_symbols : FnAtX P w K mg base "check_symbols" 3 ["count", "row"] (T.spX K ZC.run)) (G_TooLong___init__ : XMk P w K mg base "TooLong" ["TooLong", "LabelError"] 1 ["self", "length"] (T.spF K ZY.run)) (G_with_two_filled : FnAt P w K mg base "with_two_filled" 2 ["prime", "row", "earlier", "later"] (T.spF K Zam.run)) (G_plain_sum : FnAt P w K mg base "plain_sum" 1 ["prime", "row"] (T.spF K ZH.run)) (G_is_good : FnAt P w K mg base "is_good" 2 ["prime", "row"] (T.spF K Zdb.run)) (GX_with_one_righted : FnAtX P w K mg base "with_one_righted" 2 ["prime", "row"] (T.spX K ZP.run)) : FnOk P w K mg base (CXx P w) (3 + 1) f fd ["prime", "things"] (T.spX K (T.Zg C0 2 4 Zb3)) :=
 have G_check_symbols := GX_check_symbols
 have G_with_one_righted := GX_with_one_righted
 T.Zfw (C := C0) (body := Zb3) (k := 3) (N := Zct) F Zgk rfl rfl fun cdv A outer s H E hF hr =>
 have hu := hr.units
 (Zq (Zac (ZhP ZaK Zgk.nd ZhX rfl (CompScope.of ZiE rfl rfl) (ZlZ (Zb Zh5)) (fun cl C s₀ H₀ ex => ⟨(Zf7 Zev ZhW), Zjp, (Zqp (Zfu (Zb Zev)) (ok_k ZaN) (ok_v (pvs Zev)))⟩)))
  (Zq (Zi2 (Zgf (Zaz _ _) G_check_symbols hr (Zh (Zb ZbV) (Zh (Zb ZaK) Zk)) (hg := glk ZcH) (hdb := dbk ZcH)))
  (Zq (ZbZ (Zk3 (Zme hu (Ze (Zt3 (glk ZcI) Z.CHECK_SYMBOLS_ (dbk ZcI))) (Ze (ZbI Zei (glk ZE) Z.len_ Zej (Zh (Zb ZaK) Zk) (nmk ZE) (dbk ZE))) (Zb ZbV))) (Zq (Zhx rfl (Zaz _ _) G_TooLong___init__ hr (Zh (Ze (ZbI Zei (glk ZE) Z.len_ Zej (Zh (Zb ZaK) Zk) (nmk ZE) (dbk ZE))) Zk) (hg := glk ZeS) (hdb := dbk ZeS))
  Z3) Z3)
  (Zq (Zac (ZhP ZbW Zgk.nd ZhY rfl (CompScope.of ZiF rfl rfl) (ZgP (glk Zgl) Z.enumerate_ (Zb Zh5)) (fun cl C s₀ H₀ ex => ⟨(ZiP rfl (Zdq ZfK Zfx (Zdq ZfJ Zfx Zhm))), (Zjq (Zfu (Zb ZfJ))), (ok_v (pvs ZfK))⟩)))
  (Zq (ZbZ (ZZ hu (Ze (ZbI Zei (glk ZE) Z.len_ Zej (Zh (Zb ZbW) Zk) (nmk ZE) (dbk ZE))) Zm) (Zq (Zhw rfl Z.X_m Z.i_m (glk Zfi) Z.m_m (dbk Zfi))
  Z3) Z3)
  (Zq (ZbZ (ZZ hu (Ze (ZbI Zei (glk ZE) Z.len_ Zej (Zh (Zb ZbW) Zk) (nmk ZE) (dbk ZE))) Zm) (Zq (Zac (ZM (ZJ G_with_two_filled hr (Zh (Zb ZbV) (Zh (Zb ZaK) (Zh (Ze (Zbw hu (Zb ZbW) Zm)) (Zh (Ze (Zbw hu (Zb ZbW) Zm)) Zk)))) (hg := glk Zcu) (hdb := dbk Zcu))))
  Z3) Z3)
  (Zq (ZbZ (ZZ hu (Ze (ZbI Zei (glk ZE) Z.len_ Zej (Zh (Zb ZbW) Zk) (nmk ZE) (dbk ZE))) Zm) (Zq (Zac (ZcW hu (pvs ZaK) (Ze (Zbw hu (Zb ZbW) Zm)) (Zn (Zo _) (Ze (Zjf (Ze (ZJ G_plain_sum hr (Zh (Zb ZbV) (Zh (Zb ZaK) Zk)) (hg := glk Zep) (hdb := dbk Zep))))) (Zb ZbV))))
  Z3) Z3)
  (Zq (ZbZ (Zbv (Ze (ZJ G_is_good hr (Zh (Zb ZbV) (Zh (Zb ZaK) Zk)) (hg := glk ZeT) (hdb := dbk ZeT)))) (Zq (Zac (ZM (Zhl (pvs ZaK))))
  Z3) Z3)
  (Zq (Znp (Zgf (Zaz _ _) G_with_one_righted hr (Zh (Zb ZbV) (Zh (Zb ZaK) Zk)) (hg := glk Zcl) (hdb := dbk Zcl)))
  Z3)))))))))
noncomputable abbrev Zbc : Stmt := top 30
noncomputable abbrev Zd3 : List Str := ["_law_script", "_law_k", "_law_cell"]
theorem ZgL : FnScope Zd3 ["_law_script", "_law_k"] (Za Zbc) := ⟨rfl, rfl, rfl, by walk_at "d", rfl, by walk_at "d", by walk_at "d"⟩
theorem ZjH : Zd (Za Zbc) Zd3 0 "_law_script" false = true := by walk_at "d"
theorem Zgm : Zd (Za Zbc) Zd3 1 "_law_k" false = true := by walk_at "d"
theorem Zgn : Zd (Za Zbc) Zd3 2 "_law_cell" false = true := by walk_at "d"
noncomputable def ZcJ : List T.S := [.for_ (.name 2) .val [.sl (.v 0) (.v 1) (.bin .Add (.v 1) (.k (.int 1)))] [.ret (.v 2)], .ret (.k (.int 0))]
noncomputable def ZG : T.FI := ⟨true, T.Zg C0 2 3 ZcJ⟩
theorem Zkf (F : Fun K "_law_nth" "_law_nth" Zbc f fd) (Z : Txt K mg Kaa Kab Kac Kad Kae Kaf Kag Kah Kai Kaj Kak Kal Kam Kan)  : FnOk P w K mg base CX0 (0 + 1) f fd ["_law_script", "_law_k"] (T.spF K (T.Zg C0 2 3 ZcJ)) :=
 T.Zap (C := C0) (body := ZcJ) (k := 0) (N := Zd3) F ZgL rfl rfl fun cdv A outer s H E hr =>
 have hu := hr.units
 (Zj (Zjn PassesOwn.never rfl (Zho _ _) (hw_1 (Zhs rfl)) (ZlZ (Ze (ZrR (Zb ZjH) (Zk5 (Zb Zgm)) (Zk5 (Ze (Zn (Zo _) (Zb Zgm) Zm)))))) (Zf7 Zgn ZgL.nd)
  (Zj (ZM (Zhl (pvs Zgn)))
  Zx))
  (Zj (ZM (ok_k ZaN))
  Zx))
noncomputable abbrev Za1 : Stmt := top 31
noncomputable abbrev Zcd : List Str := ["_law_cell", "_law_turn", "_law_many", "_law_number"]
theorem ZeU : FnScope Zcd ["_law_cell", "_law_turn", "_law_many"] (Za Za1) := ⟨rfl, rfl, rfl, by walk_at "d", rfl, by walk_at "d", by walk_at "d"⟩
theorem Zbr : Zd (Za Za1) Zcd 3 "_law_number" false = true := by walk_at "d"
theorem ZiG : Zd (Za Za1) Zcd 0 "_law_cell" false = true := by walk_at "d"
theorem ZfL : Zd (Za Za1) Zcd 1 "_law_turn" false = true := by walk_at "d"
theorem ZiH : Zd (Za Za1) Zcd 2 "_law_many" false = true := by walk_at "d"
noncomputable def Zcv : List T.S := [.asg 3 (.bin .Mod (.bin .Mult (.bin .Add (.bin .Mod (.v 0) (.k (.int 2305843009213693951))) (.k (.int 977))) (.bin .Add (.bin .Mult (.k (.int 2)) (.v 1)) (.k (.int 30011)))) (.k (.int 2305843009213693951))), .asg 3 (.bin .Add (.bin .FloorDiv (.v 3) (.k (.int 65537))) (.bin .Mult (.bin .Mod (.v 3) (.k (.int 65537))) (.bin .Add (.v 1) (.k (.int 5))))), .ret (.bin .Mod (.bin .Add (.bin .Mult (.bin .Mod (.v 3) (.k (.int 1000003))) (.k (.int 1000003))) (.bin .Mod (.bin .FloorDiv (.v 3) (.k (.int 97))) (.k (.int 1000003)))) (.v 2))]
noncomputable def ZcK : T.FI := ⟨true, T.Zg C0 3 4 Zcv⟩
theorem ZjI (F : Fun K "_law_spun" "_law_spun" Za1 f fd) (Z : Txt K mg Kaa Kab Kac Kad Kae Kaf Kag Kah Kai Kaj Kak Kal Kam Kan)  : FnOk P w K mg base CX0 (0 + 1) f fd ["_law_cell", "_law_turn", "_law_many"] (T.spF K (T.Zg C0 3 4 Zcv)) :=
 T.Zap (C := C0) (body := Zcv) (k := 0) (N := Zcd) F ZeU rfl rfl fun cdv A outer s H E hr =>
 have hu := hr.units
 (Zj (ZX Zbr ZeU.nd (Zn (Zo _) (Ze (Zn (Zo _) (Ze (Zn (Zo _) (Ze (Zn (Zo _) (Zb ZiG) Zm)) Zm)) (Ze (Zn (Zo _) (Ze (Zn (Zo _) Zm (Zb ZfL))) Zm)))) Zm))
  (Zj (ZX Zbr ZeU.nd (Zn (Zo _) (Ze (Zn (Zo _) (Zb Zbr) Zm)) (Ze (Zn (Zo _) (Ze (Zn (Zo _) (Zb Zbr) Zm)) (Ze (Zn (Zo _) (Zb ZfL) Zm))))))
  (Zj (ZM (Zn (Zo _) (Ze (Zn (Zo _) (Ze (Zn (Zo _) (Ze (Zn (Zo _) (Zb Zbr) Zm)) Zm)) (Ze (Zn (Zo _) (Ze (Zn (Zo _) (Zb Zbr) Zm)) Zm)))) (Zb ZiH)))
  Zx)))
noncomputable abbrev Za9 : Stmt := top 32
noncomputable abbrev Zew : List Str := ["_law_cell"]
theorem ZhZ : FnScope Zew ["_law_cell"] (Za Za9) := ⟨rfl, rfl, rfl, by walk_at "d", rfl, by walk_at "d", by walk_at "d"⟩
theorem Zfj : Zd (Za Za9) Zew 0 "_law_cell" false = true := by walk_at "d"
theorem Zc9 : glOk (Za Za9) "abs" = true := by walk_at "d"
noncomputable def ZbO : List T.S := [.ret (.lst [.v 0, .bin .FloorDiv (.bf .abs [.v 0]) (.k (.int 2)), .k (.int 0)])]
noncomputable def Zbs : T.FI := ⟨true, T.Zg C0 1 1 ZbO⟩
theorem Zia (F : Fun K "_law_source" "_law_source" Za9 f fd) (Z : Txt K mg Kaa Kab Kac Kad Kae Kaf Kag Kah Kai Kaj Kak Kal Kam Kan)  : FnOk P w K mg base CX0 (0 + 1) f fd ["_law_cell"] (T.spF K (T.Zg C0 1 1 ZbO)) :=
 T.Zap (C := C0) (body := ZbO) (k := 0) (N := Zew) F ZhZ rfl rfl fun cdv A outer s H E hr =>
 have hu := hr.units
 (Zj (ZM (Zeh (ZB (ok_v (pvs Zfj)) (ZB (Zn (Zo _) (Ze (ZbI Zqr (glk Zc9) Z.abs_ Zqy (Zh (Zb Zfj) Zk) (nmk Zc9) (dbk Zc9))) Zm) (ZB (ok_k ZaN) Za3)))))
  Zx)
noncomputable abbrev Zaf : Stmt := top 33
noncomputable abbrev Zb8 : List Str := ["_law_source_here", "_law_many", "_law_cell", "_law_number", "_law_turn"]
theorem Zd4 : FnScope Zb8 ["_law_source_here", "_law_many"] (Za Zaf) := ⟨rfl, rfl, rfl, by walk_at "d", rfl, by walk_at "d", by walk_at "d"⟩
theorem Zex : Zd (Za Zaf) Zb8 0 "_law_source_here" false = true := by walk_at "d"
theorem Zey : Zd (Za Zaf) Zb8 4 "_law_turn" false = true := by walk_at "d"
theorem ZcQ : Zd (Za Zaf) Zb8 3 "_law_number" false = true := by walk_at "d"
theorem Zez : Zd (Za Zaf) Zb8 2 "_law_cell" false = true := by walk_at "d"
theorem Ze0 : Zd (Za Zaf) Zb8 1 "_law_many" false = true := by walk_at "d"
theorem Zdc : glOk (Za Zaf) "_law_spun" = true := by walk_at "d"
noncomputable def Zcw : List T.S := [.unp [2, 3, 4] (.v 0), .sub 0 [] (.k (.int 1)) (.bin .FloorDiv (.v 3) (.v 1)), .sub 0 [] (.k (.int 2)) (.bin .Add (.v 4) (.k (.int 1))), .iff (.and (.cmp .Eq (.bin .Mod (.v 2) (.k (.int 2))) (.k (.int 1))) (.cmp .Gt (.v 3) (.k (.int 0)))) [.ret (.bin .Mod (.v 3) (.v 1))] [], .ret (.call ZcK [.v 2, .v 4, .v 1])]
noncomputable def Z9 : T.FI := ⟨true, T.Zg C0 2 5 Zcw⟩
theorem ZjJ (F : Fun K "_law_next" "_law_next" Zaf f fd) (Z : Txt K mg Kaa Kab Kac Kad Kae Kaf Kag Kah Kai Kaj Kak Kal Kam Kan) (G__law_spun : FnAt P w K mg base "_law_spun" 1 ["_law_cell", "_law_turn", "_law_many"] (T.spF K ZcK.run)) : FnOk P w K mg base CX0 (1 + 1) f fd ["_law_source_here", "_law_many"] (T.spF K (T.Zg C0 2 5 Zcw)) :=
 T.Zap (C := C0) (body := Zcw) (k := 1) (N := Zb8) F Zd4 rfl rfl fun cdv A outer s H E hr =>
 have hu := hr.units
 (Zj (Zqu rfl (Zb Zex) (Zdq Zez Zd4.nd (Zdq ZcQ Zd4.nd (Zdq Zey Zd4.nd Zhm))))
  (Zj (ZcW hu (pvs Zex) Zm (Zn (Zo _) (Zb ZcQ) (Zb Ze0)))
  (Zj (ZcW hu (pvs Zex) Zm (Zn (Zo _) (Zb Zey) Zm))
  (Zj (Zdp (PW.pt (Zk2 (ZZ hu (Ze (Zn (Zo _) (Zb Zez) Zm)) Zm) (Zk1 (ZZ hu (Zb ZcQ) Zm)))) (Zj (ZM (Zn (Zo _) (Zb ZcQ) (Zb Ze0)))
  Zx) Zx)
  (Zj (ZM (ZJ G__law_spun hr (Zh (Zb Zez) (Zh (Zb Zey) (Zh (Zb Ze0) Zk))) (hg := glk Zdc) (hdb := dbk Zdc)))
  Zx)))))
noncomputable abbrev Zbk : Stmt := top 34
noncomputable abbrev ZeV : List Str := ["_law_cell"]
theorem ZiI : FnScope ZeV ["_law_cell"] (Za Zbk) := ⟨rfl, rfl, rfl, by walk_at "d", rfl, by walk_at "d", by walk_at "d"⟩
theorem Zib : Zd (Za Zbk) ZeV 0 "_law_cell" false = true := by walk_at "d"
noncomputable def Zcc : List T.S := [.ret (.ix (.kl [(.int 5), (.int 7), (.int 11), (.int 13), (.int 17), (.int 19), (.int 23), (.int 29), (.int 31), (.int 37), (.int 41), (.int 43), (.int 47)]) (.bin .Mod (.v 0) (.k (.int 13))))]
noncomputable def Zcx : T.FI := ⟨true, T.Zg C0 1 1 Zcc⟩
theorem ZiJ (F : Fun K "_law_prime" "_law_prime" Zbk f fd) (Z : Txt K mg Kaa Kab Kac Kad Kae Kaf Kag Kah Kai Kaj Kak Kal Kam Kan)  : FnOk P w K mg base CX0 (0 + 1) f fd ["_law_cell"] (T.spF K (T.Zg C0 1 1 Zcc)) :=
 T.Zap (C := C0) (body := Zcc) (k := 0) (N := ZeV) F ZiI rfl rfl fun cdv A outer s H E hr =>
 have hu := hr.units
 (Zj (ZM (Zbw hu (Ze (ZnL (vs := [(.int 5), (.int 7), (.int 11), (.int 13), (.int 17), (.int 19), (.int 23), (.int 29), (.int 31), (.int 37), (.int 41), (.int 43), (.int 47)]) (by kernel_rfl))) (Ze (Zn (Zo _) (Zb Zib) Zm))))
  Zx)
noncomputable abbrev Zz : Stmt := top 35
noncomputable abbrev Ze1 : List Str := ["_law_e"]
theorem Zic : FnScope Ze1 ["_law_e"] (Za Zz) := ⟨rfl, rfl, rfl, by walk_at "d", rfl, by walk_at "d", by walk_at "d"⟩
theorem Zu : glOk (Za Zz) "isinstance" = true := by walk_at "d"
theorem ZQ : Zd (Za Zz) Ze1 0 "_law_e" false = true := by walk_at "d"
theorem Zdd : glOk (Za Zz) "NoLabel" = true := by walk_at "d"
theorem Zde : glOk (Za Zz) "NoFount" = true := by walk_at "d"
theorem ZdI : glOk (Za Zz) "Mixed" = true := by walk_at "d"
theorem Zeq : glOk (Za Zz) "Lost" = true := by walk_at "d"
theorem Zc4 : glOk (Za Zz) "NoWriting" = true := by walk_at "d"
theorem Zdf : glOk (Za Zz) "NoTable" = true := by walk_at "d"
theorem Zd5 : glOk (Za Zz) "NoName" = true := by walk_at "d"
theorem Zd6 : glOk (Za Zz) "NoForm" = true := by walk_at "d"
theorem Zbl : glOk (Za Zz) "ValueError" = true := by walk_at "d"
theorem Zd7 : glOk (Za Zz) "NoRoom" = true := by walk_at "d"
theorem Zc5 : glOk (Za Zz) "NoReading" = true := by walk_at "d"
noncomputable def ZdQ : List T.S := [.iff (.or (.bf (.isiX "Lost") [.v 0]) (.or (.bf (.isiX "Mixed") [.v 0]) (.or (.bf (.isiX "NoFount") [.v 0]) (.bf (.isiX "NoLabel") [.v 0])))) [.raise (.k .non)] [], .iff (.or (.bf (.isiX "NoForm") [.v 0]) (.or (.bf (.isiX "NoName") [.v 0]) (.or (.bf (.isiX "NoTable") [.v 0]) (.bf (.isiX "NoWriting") [.v 0])))) [.raise (.k .non)] [], .ret (.or (.bf (.isiX "NoReading") [.v 0]) (.or (.bf (.isiX "NoRoom") [.v 0]) (.nt (.bf .isiV [.v 0]))))]
noncomputable def Zav : T.FI := ⟨true, T.Zg C0 1 1 ZdQ⟩
theorem Zid (F : Fun K "_law_others" "_law_others" Zz f fd) (Z : Txt K mg Kaa Kab Kac Kad Kae Kaf Kag Kah Kai Kaj Kak Kal Kam Kan)  : FnOk P w K mg base CX0 (0 + 1) f fd ["_law_e"] (T.spF K (T.Zg C0 1 1 ZdQ)) :=
 T.Zap (C := C0) (body := ZdQ) (k := 0) (N := Ze1) F Zic rfl rfl fun cdv A outer s H E hr =>
 have hu := hr.units
 (Zj (Zdp (PW.pt (ZcC (Zbv (Ze (Zbi Z.g_b Z.t_b (glk Zu) Z.isinstance_ (Zb ZQ) (ZaQ (v := .ref Kab) (glk Zeq) Z.m_b rfl (dbk Zeq))))) (ZcC (Zbv (Ze (Zbi Z.g_c Z.t_c (glk Zu) Z.isinstance_ (Zb ZQ) (ZaQ (v := .ref Kac) (glk ZdI) Z.m_c rfl (dbk ZdI))))) (ZcC (Zbv (Ze (Zbi Z.g_e Z.t_e (glk Zu) Z.isinstance_ (Zb ZQ) (ZaQ (v := .ref Kae) (glk Zde) Z.m_e rfl (dbk Zde))))) (Zfo (Zbv (Ze (Zbi Z.g_f Z.t_f (glk Zu) Z.isinstance_ (Zb ZQ) (ZaQ (v := .ref Kaf) (glk Zdd) Z.m_f rfl (dbk Zdd)))))))))) (Zj Zf6
  Zx) Zx)
  (Zj (Zdp (PW.pt (ZcC (Zbv (Ze (Zbi Z.g_d Z.t_d (glk Zu) Z.isinstance_ (Zb ZQ) (ZaQ (v := .ref Kad) (glk Zd6) Z.m_d rfl (dbk Zd6))))) (ZcC (Zbv (Ze (Zbi Z.g_g Z.t_g (glk Zu) Z.isinstance_ (Zb ZQ) (ZaQ (v := .ref Kag) (glk Zd5) Z.m_g rfl (dbk Zd5))))) (ZcC (Zbv (Ze (Zbi Z.g_k Z.t_k (glk Zu) Z.isinstance_ (Zb ZQ) (ZaQ (v := .ref Kak) (glk Zdf) Z.m_k rfl (dbk Zdf))))) (Zfo (Zbv (Ze (Zbi Z.g_l Z.t_l (glk Zu) Z.isinstance_ (Zb ZQ) (ZaQ (v := .ref Kal) (glk Zc4) Z.m_l rfl (dbk Zc4)))))))))) (Zj Zf6
  Zx) Zx)
  (Zj (ZM (Zhk (Ze (Zbi Z.g_h Z.t_h (glk Zu) Z.isinstance_ (Zb ZQ) (ZaQ (v := .ref Kah) (glk Zc5) Z.m_h rfl (dbk Zc5)))) (Zhk (Ze (Zbi Z.g_i Z.t_i (glk Zu) Z.isinstance_ (Zb ZQ) (ZaQ (v := .ref Kai) (glk Zd7) Z.m_i rfl (dbk Zd7)))) (Zfq (Zk4 (Ze (Zpe (glk Zu) Z.isinstance_ (Zb ZQ) (Zgz (v := .ty "ValueError") (glk Zbl) Z.ValueError_ Zj9 rfl (nmk Zbl) (dbk Zbl)))))))))
  Zx)))
noncomputable abbrev Z0 : Stmt := top 36
noncomputable abbrev ZaL : List Str := ["_law_prime_here", "_law_things", "_law_way", "_law_caught", "_law_found", "_law_e", "_law_some"]
theorem ZaP : FnScope ZaL ["_law_prime_here", "_law_things", "_law_way"] (Za Z0) := ⟨rfl, rfl, rfl, by walk_at "d", rfl, by walk_at "d", by walk_at "d"⟩
theorem Zaw : Zd (Za Z0) ZaL 3 "_law_caught" false = true := by walk_at "d"
theorem ZcR : Zd (Za Z0) ZaL 4 "_law_found" false = true := by walk_at "d"
theorem ZcL : glOk (Za Z0) "LabelError" = true := by walk_at "d"
theorem ZfM : Zd (Za Z0) ZaL 5 "_law_e" false = true := by walk_at "d"
theorem ZiK : Zd (Za Z0) ZaL 2 "_law_way" false = true := by walk_at "d"
theorem Zd8 : glOk (Za Z0) "labelled" = true := by walk_at "d"
theorem ZfN : Zd (Za Z0) ZaL 0 "_law_prime_here" false = true := by walk_at "d"
theorem ZfO : Zd (Za Z0) ZaL 1 "_law_things" false = true := by walk_at "d"
theorem Zer : glOk (Za Z0) "mended" = true := by walk_at "d"
theorem ZcS : Zd (Za Z0) ZaL 6 "_law_some" false = true := by walk_at "d"
theorem Zb9 : glOk (Za Z0) "isinstance" = true := by walk_at "d"
theorem Zd9 : glOk (Za Z0) "NoSymbol" = true := by walk_at "d"
theorem ZdJ : glOk (Za Z0) "TooLong" = true := by walk_at "d"
theorem Zes : glOk (Za Z0) "Spoilt" = true := by walk_at "d"
theorem Zc6 : glOk (Za Z0) "_law_others" = true := by walk_at "d"
noncomputable def Zae : List T.S := [.asg 3 (.k .non), .asg 4 (.k .non), .try_ [.iff (.cmp .Eq (.v 2) (.k (.int 0))) [.asgX 4 Zbb [.v 0, .v 1]] [.asgX 4 Zad [.v 0, .v 1]]] "LabelError" (some 5) [.asg 3 (.v 5)], .iff (.isN true (.v 3)) [.ret (.tup [.k (.int 0), .v 4])] [], .asg 6 (.lst [.bf (.isiX "NoSymbol") [.v 3], .bf (.isiX "TooLong") [.v 3], .bf (.isiX "Spoilt") [.v 3]]), .iff (.or (.call Zav [.v 3]) (.cmp .NotEq (.bf (.cnt (.bl true)) [.v 6]) (.k (.int 1)))) [.raise (.k .non)] [], .iff (.ix (.v 6) (.k (.int 0))) [.ret (.tup [.k (.int 1), .bf (.xfld "number") [.v 3]])] [], .iff (.ix (.v 6) (.k (.int 1))) [.ret (.tup [.k (.int 2), .bf (.xfld "length") [.v 3]])] [], .ret (.tup [.k (.int 3), .k .non])]
noncomputable def ZS : T.FI := ⟨true, T.Zg C0 3 7 Zae⟩
theorem ZjK (F : Fun K "_law_told" "_law_told" Z0 f fd) (Z : Txt K mg Kaa Kab Kac Kad Kae Kaf Kag Kah Kai Kaj Kak Kal Kam Kan) (GX_labelled : FnAtX P w K mg base "labelled" 4 ["prime", "row"] (T.spX K Zbb.run)) (GX_mended : FnAtX P w K mg base "mended" 4 ["prime", "things"] (T.spX K Zad.run)) (G__law_others : FnAt P w K mg base "_law_others" 1 ["_law_e"] (T.spF K Zav.run)) : FnOk P w K mg base (CXx P w) (4 + 1) f fd ["_law_prime_here", "_law_things", "_law_way"] (T.spX K (T.Zg C0 3 7 Zae)) :=
 have G_labelled := GX_labelled
 have G_mended := GX_mended
 T.Zfw (C := C0) (body := Zae) (k := 4) (N := ZaL) F ZaP rfl rfl fun cdv A outer s H E hF hr =>
 have hu := hr.units
 (Zq (Zac (ZX Zaw ZaP.nd (ok_k Zdh)))
  (Zq (Zac (ZX ZcR ZaP.nd (ok_k Zdh)))
  (Zq (Znr hF (fun _ _ h => h) ZfM ZaP.nd (Zq (ZbZ (ZZ hu (Zb ZiK) Zm) (Zq (Zj8 ZcR ZaP.nd (Zgf (Zaz _ _) G_labelled hr (Zh (Zb ZfN) (Zh (Zb ZfO) Zk)) (hg := glk Zd8) (hdb := dbk Zd8)))
  Z3) (Zq (Zj8 ZcR ZaP.nd (Zgf (Zaz _ _) G_mended hr (Zh (Zb ZfN) (Zh (Zb ZfO) Zk)) (hg := glk Zer) (hdb := dbk Zer)))
  Z3))
  Z3) (fun _ => (Zj (ZX Zaw ZaP.nd (ok_v (pvs ZfM)))
  Zx)) (glk ZcL) Z.m_a Z.c_a Z.g_a (dbk ZcL))
  (Zq (ZbZ (Zfu (Zb Zaw)) (Zq (Zac (ZM (ZcD (ZB (ok_k ZaN) (ZB (ok_v (pvs ZcR)) Za3)))))
  Z3) Z3)
  (Zq (Zac (ZX ZcS ZaP.nd (Zeh (ZB (Zbi Z.g_j Z.t_j (glk Zb9) Z.isinstance_ (Zb Zaw) (ZaQ (v := .ref Kaj) (glk Zd9) Z.m_j rfl (dbk Zd9))) (ZB (Zbi Z.g_n Z.t_n (glk Zb9) Z.isinstance_ (Zb Zaw) (ZaQ (v := .ref Kan) (glk ZdJ) Z.m_n rfl (dbk ZdJ))) (ZB (Zbi Z.g_m Z.t_m (glk Zb9) Z.isinstance_ (Zb Zaw) (ZaQ (v := .ref Kam) (glk Zes) Z.m_m rfl (dbk Zes))) Za3))))))
  (Zq (ZbZ (PW.pt (ZcC (Zbv (Ze (ZJ G__law_others hr (Zh (Zb Zaw) Zk) (hg := glk Zc6) (hdb := dbk Zc6)))) (Zfo (ZZ hu (Ze (Zj6 (v := (.bl true)) rfl (Zb ZcS) ZiL)) Zm)))) (Zq Zfg
  Z3) Z3)
  (Zq (ZbZ (Zbv (Ze (Zbw hu (Zb ZcS) Zm))) (Zq (Zac (ZM (ZcD (ZB (ok_k ZaN) (ZB (ZkE (Zb Zaw)) Za3)))))
  Z3) Z3)
  (Zq (ZbZ (Zbv (Ze (Zbw hu (Zb ZcS) Zm))) (Zq (Zac (ZM (ZcD (ZB (ok_k ZaN) (ZB (ZkE (Zb Zaw)) Za3)))))
  Z3) Z3)
  (Zq (Zac (ZM (ZcD (ZB (ok_k ZaN) (ZB (ok_k Zdh) Za3)))))
  Z3)))))))))
noncomputable abbrev ZaM : Stmt := top 37
noncomputable abbrev ZdA : List Str := ["_law_source_here", "_law_prime_here", "_law_some"]
theorem ZgM : FnScope ZdA ["_law_source_here", "_law_prime_here"] (Za ZaM) := ⟨rfl, rfl, rfl, by walk_at "d", rfl, by walk_at "d", by walk_at "d"⟩
theorem Zgo : Zd (Za ZaM) ZdA 2 "_law_some" false = true := by walk_at "d"
theorem Zgp : Zd (Za ZaM) ZdA 1 "_law_prime_here" false = true := by walk_at "d"
theorem Zbd : glOk (Za ZaM) "_law_next" = true := by walk_at "d"
theorem Zgq : Zd (Za ZaM) ZdA 0 "_law_source_here" false = true := by walk_at "d"
noncomputable def ZcM : List T.S := [.asg 2 (.lst [.v 1, .bin .Add (.bin .Add (.v 1) (.k (.int 1))) (.call Z9 [.v 0, .bin .Pow (.k (.int 10)) (.k (.int 12))]), .neg (.k (.int 1)), .k (.bl true), .k (.str "1"), .tup [.k (.int 1)], .lst [.k (.int 1)], .k (.bl false)]), .ret (.ix (.v 2) (.call Z9 [.v 0, .k (.int 8)]))]
noncomputable def ZbX : T.FI := ⟨true, T.Zg C0 2 3 ZcM⟩
theorem Zkg (F : Fun K "_law_odd" "_law_odd" ZaM f fd) (Z : Txt K mg Kaa Kab Kac Kad Kae Kaf Kag Kah Kai Kaj Kak Kal Kam Kan) (G__law_next : FnAt P w K mg base "_law_next" 2 ["_law_source_here", "_law_many"] (T.spF K Z9.run)) : FnOk P w K mg base CX0 (2 + 1) f fd ["_law_source_here", "_law_prime_here"] (T.spF K (T.Zg C0 2 3 ZcM)) :=
 T.Zap (C := C0) (body := ZcM) (k := 2) (N := ZdA) F ZgM rfl rfl fun cdv A outer s H E hr =>
 have hu := hr.units
 (Zj (ZX Zgo ZgM.nd (Zeh (ZB (ok_v (pvs Zgp)) (ZB (Zn (Zo _) (Ze (Zn (Zo _) (Zb Zgp) Zm)) (Ze (ZJ G__law_next hr (Zh (Zb Zgq) (Zh (Ze (Zn (Zo _) Zm Zm)) Zk)) (hg := glk Zbd) (hdb := dbk Zbd)))) (ZB (Zjf Zm) (ZB (ok_k ZiL) (ZB (ok_k ZiS) (ZB (ZcD (ZB (ok_k ZaN) Za3)) (ZB (Zeh (ZB (ok_k ZaN) Za3)) (ZB (ok_k ZiL) Za3))))))))))
  (Zj (ZM (Zbw hu (Zb Zgo) (Ze (ZJ G__law_next hr (Zh (Zb Zgq) (Zh Zm Zk)) (hg := glk Zbd) (hdb := dbk Zbd)))))
  Zx))
noncomputable abbrev Za7 : Stmt := top 38
noncomputable abbrev ZdB : List Str := ["_law_prime_here", "_law_things", "_law_odd_here"]
theorem Zkh : FnScope ZdB ["_law_prime_here", "_law_things", "_law_odd_here"] (Za Za7) := ⟨rfl, rfl, rfl, by walk_at "d", rfl, by walk_at "d", by walk_at "d"⟩
theorem Zgr : Zd (Za Za7) ZdB 2 "_law_odd_here" false = true := by walk_at "d"
theorem ZdR : glOk (Za Za7) "min" = true := by walk_at "d"
theorem Zak : glOk (Za Za7) "len" = true := by walk_at "d"
theorem ZdC : Zd (Za Za7) ZdB 1 "_law_things" false = true := by walk_at "d"
theorem ZjL : Zd (Za Za7) ZdB 0 "_law_prime_here" false = true := by walk_at "d"
noncomputable def ZbA : List T.S := [.iff (.cmp .NotEq (.v 2) (.lst [])) [.ret (.tup [.k (.int 1), .bf .minL [.v 2]])] [], .iff (.or (.cmp .Lt (.bf .len [.v 1]) (.k (.int 2))) (.cmp .Gt (.bf .len [.v 1]) (.v 0))) [.ret (.tup [.k (.int 2), .bf .len [.v 1]])] [], .iff (.cmp .Gt (.bf (.cnt .non) [.v 1]) (.k (.int 2))) [.ret (.tup [.k (.int 3), .k .non])] [], .ret (.k .non)]
noncomputable def Zbe : T.FI := ⟨true, T.Zg C0 3 3 ZbA⟩
theorem Zki (F : Fun K "_law_due" "_law_due" Za7 f fd) (Z : Txt K mg Kaa Kab Kac Kad Kae Kaf Kag Kah Kai Kaj Kak Kal Kam Kan)  : FnOk P w K mg base CX0 (0 + 1) f fd ["_law_prime_here", "_law_things", "_law_odd_here"] (T.spF K (T.Zg C0 3 3 ZbA)) :=
 T.Zap (C := C0) (body := ZbA) (k := 0) (N := ZdB) F Zkh rfl rfl fun cdv A outer s H E hr =>
 have hu := hr.units
 (Zj (Zdp (ZZ hu (Zb Zgr) (Ze (Zeh Za3))) (Zj (ZM (ZcD (ZB (ok_k ZaN) (ZB (ZbI (ZkF rfl) (glk ZdR) Z.min_ Zmc (Zh (Zb Zgr) Zk) (nmk ZdR) (dbk ZdR)) Za3))))
  Zx) Zx)
  (Zj (Zdp (PW.pt (ZcC (ZZ hu (Ze (ZbI Zei (glk Zak) Z.len_ Zej (Zh (Zb ZdC) Zk) (nmk Zak) (dbk Zak))) Zm) (Zfo (ZZ hu (Ze (ZbI Zei (glk Zak) Z.len_ Zej (Zh (Zb ZdC) Zk) (nmk Zak) (dbk Zak))) (Zb ZjL))))) (Zj (ZM (ZcD (ZB (ok_k ZaN) (ZB (ZbI Zei (glk Zak) Z.len_ Zej (Zh (Zb ZdC) Zk) (nmk Zak) (dbk Zak)) Za3))))
  Zx) Zx)
  (Zj (Zdp (ZZ hu (Ze (Zj6 (v := .non) rfl (Zb ZdC) Zdh)) Zm) (Zj (ZM (ZcD (ZB (ok_k ZaN) (ZB (ok_k Zdh) Za3))))
  Zx) Zx)
  (Zj (ZM (ok_k Zdh))
  Zx))))
noncomputable abbrev Z4 : Stmt := top 39
noncomputable abbrev Zb4 : List Str := ["_law_script", "_law_prime_here", "_law_source_here", "_law_size", "_law_things", "_law_often", "_law_k", "_law_odd_here", "_law_turn", "_law_handed", "_law_due_here", "_law_told_here", "_law_bad"]
theorem Zb5 : FnScope Zb4 ["_law_script"] (Za Z4) := ⟨rfl, rfl, rfl, by walk_at "d", rfl, by walk_at "d", by walk_at "d"⟩
theorem Zdg : Zd (Za Z4) Zb4 1 "_law_prime_here" true = true := by walk_at "d"
theorem ZeW : glOk (Za Z4) "_law_prime" = true := by walk_at "d"
theorem Za0 : glOk (Za Z4) "_law_nth" = true := by walk_at "d"
theorem Zg7 : Zd (Za Z4) Zb4 0 "_law_script" true = true := by walk_at "d"
theorem Zce : Zd (Za Z4) Zb4 2 "_law_source_here" false = true := by walk_at "d"
theorem ZbG : glOk (Za Z4) "_law_source" = true := by walk_at "d"
theorem ZeK : Zd (Za Z4) Zb4 3 "_law_size" false = true := by walk_at "d"
theorem Z5 : glOk (Za Z4) "_law_next" = true := by walk_at "d"
theorem ZdS : Zd (Za Z4) Zb4 4 "_law_things" true = true := by walk_at "d"
theorem Zec : glOk (Za Z4) "range" = true := by walk_at "d"
noncomputable abbrev Zet : Scope := { kind := .function, names := [(Str.ofString ".0", NameKind.local), (Str.ofString "_law_k", NameKind.local), (Str.ofString "_law_nth", NameKind.globalImplicit), (Str.ofString "_law_prime_here", NameKind.free), (Str.ofString "_law_script", NameKind.free)], isGenerator := false, isCoroutine := false, more := [] }
noncomputable abbrev ZeX : List Str := ["_law_k", "_law_prime_here", "_law_script"]
theorem Zlq : Zeg (Za Z4) Zb4 1 [1, 0] ZeX Zet = true := by walk_at "d"
theorem Zkj : ZeX.Nodup := by walk_at "d"
theorem Zh6 : Zd (Zal Zet (Za Z4)) ZeX 0 "_law_k" false = true := by walk_at "d"
theorem Ze4 : glOk (Zal Zet (Za Z4)) "_law_nth" = true := by walk_at "d"
theorem Zlr : Zdl (Zal Zet (Za Z4)) ZeX 2 "_law_script" = true := by walk_at "d"
theorem Zls : Zdl (Zal Zet (Za Z4)) ZeX 1 "_law_prime_here" = true := by walk_at "d"
theorem Zgs : ((Za Z4).names.lookup ("_law_things" : Str) == some NameKind.cell) = true := by walk_at "d"
theorem ZkG : Zd (Za Z4) Zb4 5 "_law_often" false = true := by walk_at "d"
theorem Zie : Zd (Za Z4) Zb4 6 "_law_k" false = true := by walk_at "d"
theorem Zg8 : Zd (Za Z4) Zb4 7 "_law_odd_here" true = true := by walk_at "d"
theorem ZkH : Zd (Za Z4) Zb4 8 "_law_turn" false = true := by walk_at "d"
theorem Zfy : glOk (Za Z4) "_law_odd" = true := by walk_at "d"
theorem Zif : Zd (Za Z4) Zb4 9 "_law_handed" false = true := by walk_at "d"
theorem ZfD : glOk (Za Z4) "list" = true := by walk_at "d"
theorem ZgU : Zd (Za Z4) Zb4 10 "_law_due_here" false = true := by walk_at "d"
theorem Zfz : glOk (Za Z4) "_law_due" = true := by walk_at "d"
theorem ZeY : Zd (Za Z4) Zb4 11 "_law_told_here" false = true := by walk_at "d"
theorem Zcm : glOk (Za Z4) "_law_told" = true := by walk_at "d"
theorem ZgV : glOk (Za Z4) "isinstance" = true := by walk_at "d"
theorem ZfE : glOk (Za Z4) "bool" = true := by walk_at "d"
theorem ZgW : Zd (Za Z4) Zb4 12 "_law_bad" false = true := by walk_at "d"
noncomputable abbrev Zeu : Scope := { kind := .function, names := [(Str.ofString ".0", NameKind.local), (Str.ofString "_law_k", NameKind.local), (Str.ofString "_law_odd_here", NameKind.free), (Str.ofString "_law_things", NameKind.free)], isGenerator := false, isCoroutine := false, more := [] }
noncomputable abbrev ZeZ : List Str := ["_law_k", "_law_odd_here", "_law_things"]
theorem Zlt : Zeg (Za Z4) Zb4 1 [7, 4] ZeZ Zeu = true := by walk_at "d"
theorem Zkk : ZeZ.Nodup := by walk_at "d"
theorem ZeC : Zd (Zal Zeu (Za Z4)) ZeZ 0 "_law_k" false = true := by walk_at "d"
theorem Zlu : Zdl (Zal Zeu (Za Z4)) ZeZ 1 "_law_odd_here" = true := by walk_at "d"
theorem Zlv : Zdl (Zal Zeu (Za Z4)) ZeZ 2 "_law_things" = true := by walk_at "d"
theorem Zkl : ZeN (Za Z4) Zeu "_law_bad" = true := by walk_at "d"
theorem Zgt : glOk (Za Z4) "min" = true := by walk_at "d"
noncomputable def ZcN : List T.S := [.asg 1 (.call Zcx [.call ZG [.v 0, .k (.int 0)]]), .asg 2 (.call Zbs [.call ZG [.v 0, .k (.int 1)]]), .asg 3 (.ix (.lst [.call Z9 [.v 2, .bin .Add (.v 1) (.k (.int 4))], .bin .Add (.v 1) (.k (.int 1)), .call Z9 [.v 2, .k (.int 2)]]) (.ix (.kl [(.int 0), (.int 0), (.int 1), (.int 2)]) (.call Z9 [.v 2, .k (.int 4)]))), .asg 4 (.comp 1 [1, 0] (.name 0) .rng1 [.v 3] [] (.bin .Mod (.call ZG [.v 2, .bin .Add (.k (.int 3)) (.v 0)]) (.v 1))), .asg 5 (.bin .Add (.k (.int 2)) (.call Z9 [.v 2, .k (.int 20)])), .for_ (.name 6) .rng1 [.v 3] [.iff (.cmp .Eq (.bin .Mod (.bin .FloorDiv (.call ZG [.v 0, .bin .Add (.k (.int 3)) (.v 6)]) (.v 1)) (.v 5)) (.k (.int 1))) [.sub 4 [] (.v 6) (.k .non)] []], .asg 7 (.lst []), .asg 2 (.call Zbs [.call ZG [.v 0, .k (.int 2)]]), .iff (.and (.cmp .Gt (.call Z9 [.v 2, .k (.int 3)]) (.k (.int 0))) (.cmp .Gt (.v 3) (.k (.int 0)))) [.for_ (.name 8) .rng1 [.bin .Add (.k (.int 1)) (.call Z9 [.v 2, .k (.int 2)])] [.ex (.mut .append 7 [] [.call Z9 [.v 2, .v 3]]), .sub 4 [] (.ix (.v 7) (.v 8)) (.call ZbX [.v 2, .v 1])]] [], .asg 9 (.bf .list [.v 4]), .asg 10 (.call Zbe [.v 1, .v 4, .v 7]), .asg 11 (.call ZS [.v 1, .v 9, .k (.int 1)]), .iff (.or (.cmp .NotEq (.v 9) (.v 4)) (.bf (.isi .bool) [.ix (.v 11) (.k (.int 1))])) [.raise (.k .non)] [], .iff (.isN true (.v 10)) [.ret (.or (.cmp .Eq (.ix (.v 11) (.k (.int 0))) (.k (.int 0))) (.cmp .Eq (.v 11) (.tup [.k (.int 3), .k .non])))] [], .iff (.cmp .NotEq (.v 11) (.v 10)) [.raise (.k .non)] [], .asg 12 (.comp 1 [7, 4] (.name 0) .rng1 [.v 3] [.or (.isN true (.ix (.v 2) (.v 0))) (.cmp .In (.v 0) (.v 1))] (.v 0)), .ret (.or (.cmp .Eq (.v 12) (.lst [])) (.cmp .Eq (.call ZS [.v 1, .v 4, .k (.int 0)]) (.tup [.k (.int 1), .bf .minL [.v 12]])))]
noncomputable def Zlw : T.FI := ⟨true, T.Zg C0 1 13 ZcN⟩
theorem Zrl (F : Fun K "law" "law" Z4 f fd) (Z : Txt K mg Kaa Kab Kac Kad Kae Kaf Kag Kah Kai Kaj Kak Kal Kam Kan) (G__law_prime : FnAt P w K mg base "_law_prime" 1 ["_law_cell"] (T.spF K Zcx.run)) (G__law_nth : FnAt P w K mg base "_law_nth" 1 ["_law_script", "_law_k"] (T.spF K ZG.run)) (G__law_source : FnAt P w K mg base "_law_source" 1 ["_law_cell"] (T.spF K Zbs.run)) (G__law_next : FnAt P w K mg base "_law_next" 2 ["_law_source_here", "_law_many"] (T.spF K Z9.run)) (G__law_odd : FnAt P w K mg base "_law_odd" 3 ["_law_source_here", "_law_prime_here"] (T.spF K ZbX.run)) (G__law_due : FnAt P w K mg base "_law_due" 1 ["_law_prime_here", "_law_things", "_law_odd_here"] (T.spF K Zbe.run)) (GX__law_told : FnAtX P w K mg base "_law_told" 5 ["_law_prime_here", "_law_things", "_law_way"] (T.spX K ZS.run)) : FnOk P w K mg base CX0 (5 + 1) f fd ["_law_script"] (T.spF K (T.Zg C0 1 13 ZcN)) :=
 have G__law_told := GX__law_told.calm
 T.Zap (C := C0) (body := ZcN) (k := 5) (N := Zb4) F Zb5 rfl rfl fun cdv A outer s H E hr =>
 have hu := hr.units
 (Zj (ZX Zdg Zb5.nd (ZJ G__law_prime hr (Zh (Ze (ZJ G__law_nth hr (Zh (Zb Zg7) (Zh Zm Zk)) (hg := glk Za0) (hdb := dbk Za0))) Zk) (hg := glk ZeW) (hdb := dbk ZeW)))
  (Zj (ZX Zce Zb5.nd (ZJ G__law_source hr (Zh (Ze (ZJ G__law_nth hr (Zh (Zb Zg7) (Zh Zm Zk)) (hg := glk Za0) (hdb := dbk Za0))) Zk) (hg := glk ZbG) (hdb := dbk ZbG)))
  (Zj (ZX ZeK Zb5.nd (Zbw hu (Ze (Zeh (ZB (ZJ G__law_next hr (Zh (Zb Zce) (Zh (Ze (Zn (Zo _) (Zb Zdg) Zm)) Zk)) (hg := glk Z5) (hdb := dbk Z5)) (ZB (Zn (Zo _) (Zb Zdg) Zm) (ZB (ZJ G__law_next hr (Zh (Zb Zce) (Zh Zm Zk)) (hg := glk Z5) (hdb := dbk Z5)) Za3))))) (Ze (Zbw hu (Ze (ZnL (vs := [(.int 0), (.int 0), (.int 1), (.int 2)]) (by kernel_rfl))) (Ze (ZJ G__law_next hr (Zh (Zb Zce) (Zh Zm Zk)) (hg := glk Z5) (hdb := dbk Z5)))))))
  (Zj (ZX ZdS Zb5.nd (ZhO rfl (CompScope.of Zlq rfl rfl) (Zfs (glk Zec) Z.range_ (Zb ZeK)) (fun cl C s₀ H₀ ex => ⟨(Zf7 Zh6 Zkj), Zjp, (Zn (Zo _) (Ze (ZJ G__law_nth hr (Zh (ZcV (pvf Zlr)) (Zh (Ze (Zn (Zo _) Zm (Zb Zh6))) Zk)) (hg := glk Ze4) (hdb := dbk Ze4))) (ZcV (pvf Zls)))⟩)) (ZkZ Zgs rfl))
  (Zj (ZX ZkG Zb5.nd (Zn (Zo _) Zm (Ze (ZJ G__law_next hr (Zh (Zb Zce) (Zh Zm Zk)) (hg := glk Z5) (hdb := dbk Z5)))))
  (Zj (Zjn PassesOwn.never rfl (Zho _ _) (hw_1 (ZhQ rfl)) (Zfs (glk Zec) Z.range_ (Zb ZeK)) (Zf7 Zie Zb5.nd)
  (Zj (Zdp (ZZ hu (Ze (Zn (Zo _) (Ze (Zn (Zo _) (Ze (ZJ G__law_nth hr (Zh (Zb Zg7) (Zh (Ze (Zn (Zo _) Zm (Zb Zie))) Zk)) (hg := glk Za0) (hdb := dbk Za0))) (Zb Zdg))) (Zb ZkG))) Zm) (Zj (ZcW hu (pvs ZdS) (Zb Zie) (ok_k Zdh))
  Zx) Zx)
  Zx))
  (Zj (ZX Zg8 Zb5.nd (Zeh Za3))
  (Zj (ZX Zce Zb5.nd (ZJ G__law_source hr (Zh (Ze (ZJ G__law_nth hr (Zh (Zb Zg7) (Zh Zm Zk)) (hg := glk Za0) (hdb := dbk Za0))) Zk) (hg := glk ZbG) (hdb := dbk ZbG)))
  (Zj (Zdp (PW.pt (Zk2 (ZZ hu (Ze (ZJ G__law_next hr (Zh (Zb Zce) (Zh Zm Zk)) (hg := glk Z5) (hdb := dbk Z5))) Zm) (Zk1 (ZZ hu (Zb ZeK) Zm)))) (Zj (Zjn PassesOwn.never rfl (Zho _ _) (hw_1 (Zhs rfl)) (Zfs (glk Zec) Z.range_ (Ze (Zn (Zo _) Zm (Ze (ZJ G__law_next hr (Zh (Zb Zce) (Zh Zm Zk)) (hg := glk Z5) (hdb := dbk Z5)))))) (Zf7 ZkH Zb5.nd)
  (Zj (ZhL (ZlX (pvs Zg8) (ZB (ZJ G__law_next hr (Zh (Zb Zce) (Zh (Zb ZeK) Zk)) (hg := glk Z5) (hdb := dbk Z5)) Za3)))
  (Zj (ZcW hu (pvs ZdS) (Ze (Zbw hu (Zb Zg8) (Zb ZkH))) (ZJ G__law_odd hr (Zh (Zb Zce) (Zh (Zb Zdg) Zk)) (hg := glk Zfy) (hdb := dbk Zfy)))
  Zx)))
  Zx) Zx)
  (Zj (ZX Zif Zb5.nd (Zjk ZhJ (glk ZfD) Z.list_ ZhS (Zh (Zb ZdS) Zk) (nmk ZfD) (dbk ZfD)))
  (Zj (ZX ZgU Zb5.nd (ZJ G__law_due hr (Zh (Zb Zdg) (Zh (Zb ZdS) (Zh (Zb Zg8) Zk))) (hg := glk Zfz) (hdb := dbk Zfz)))
  (Zj (ZX ZeY Zb5.nd (ZJ G__law_told hr (Zh (Zb Zdg) (Zh (Zb Zif) (Zh Zm Zk))) (hg := glk Zcm) (hdb := dbk Zcm)))
  (Zj (Zdp (PW.pt (ZcC (ZZ hu (Zb Zif) (Zb ZdS)) (Zfo (Zbv (Ze (Zjl (t := .bool) (n := "bool") rfl (glk ZgV) Z.isinstance_ (Ze (Zbw hu (Zb ZeY) Zm)) (Zgz (v := .ty "bool") (glk ZfE) Z.bool_ ZlP rfl (nmk ZfE) (dbk ZfE)))))))) (Zj Zf6
  Zx) Zx)
  (Zj (Zdp (Zfu (Zb ZgU)) (Zj (ZM (Zhk (Ze (ZeJ hu (Ze (Zbw hu (Zb ZeY) Zm)) Zm)) (Zfq (ZeJ hu (Zb ZeY) (Ze (ZcD (ZB (ok_k ZaN) (ZB (ok_k Zdh) Za3))))))))
  Zx) Zx)
  (Zj (Zdp (ZZ hu (Zb ZeY) (Zb ZgU)) (Zj Zf6
  Zx) Zx)
  (Zj (ZhP ZgW Zb5.nd Zkl rfl (CompScope.of Zlt rfl rfl) (Zfs (glk Zec) Z.range_ (Zb ZeK)) (fun cl C s₀ H₀ ex => ⟨(Zf7 ZeC Zkk), (Zjq (PW.pt (ZcC (Zfu (Ze (Zbw hu (ZcV (pvf Zlv)) (Zb ZeC)))) (Zfo (ZZ hu (Zb ZeC) (ZcV (pvf Zlu))))))), (ok_v (pvs ZeC))⟩))
  (Zj (ZM (Zhk (Ze (ZeJ hu (Zb ZgW) (Ze (Zeh Za3)))) (Zfq (ZeJ hu (Ze (ZJ G__law_told hr (Zh (Zb Zdg) (Zh (Zb ZdS) (Zh Zm Zk))) (hg := glk Zcm) (hdb := dbk Zcm))) (Ze (ZcD (ZB (ok_k ZaN) (ZB (ZbI (ZkF rfl) (glk Zgt) Z.min_ Zmc (Zh (Zb ZgW) Zk) (nmk Zgt) (dbk Zgt)) Za3))))))))
  Zx)))))))))))))))))
theorem Zrm {l : PySem.W.OpenLaw} {w : World} {K : Fg} {h : Heap} {mg : Str -> Option Value} {fa a0 a1 a2 a3 a4 a5 a6 a7 a8 a9 a10 a11 a12 a13 a14 a15 a16 a17 a18 a19 a20 a21 a22 Kaa Kab Kac Kad Kae Kaf Kag Kah Kai Kaj Kak Kal Kam Kan : Addr} (X : K.In h) (G : h.Ns mainGlobals mg) (hfa : mg "law" = some (.ref fa))
 {od0 an0 od1 an1 od2 an2 od3 an3 od4 an4 od5 an5 od6 an6 od7 an7 od8 an8 od9 an9 od10 an10 od11 an11 od12 an12 od13 an13 od14 an14 od15 an15 od16 an16 od17 an17 od18 an18 od19 an19 od20 an20 od21 an21 od22 an22 : Option Addr} {sl0 sl1 sl2 sl3 sl4 sl5 sl6 sl7 sl8 sl9 sl10 sl11 sl12 sl13 sl14 sl15 sl16 sl17 sl18 sl19 sl20 sl21 sl22 : Array (Option Value)} {oc0 kV0 dc0 pm0 cd0 ct0 oc1 kV1 dc1 pm1 cd1 ct1 oc2 kV2 dc2 pm2 cd2 ct2 oc3 kV3 dc3 pm3 cd3 ct3 oc4 kV4 dc4 pm4 cd4 ct4 oc5 kV5 dc5 pm5 cd5 ct5 oc6 kV6 dc6 pm6 cd6 ct6 oc7 kV7 dc7 pm7 cd7 ct7 oc8 kV8 dc8 pm8 cd8 ct8 oc9 kV9 dc9 pm9 cd9 ct9 oc10 kV10 dc10 pm10 cd10 ct10 oc11 kV11 dc11 pm11 cd11 ct11 oc12 kV12 dc12 pm12 cd12 ct12 oc13 kV13 dc13 pm13 cd13 ct13 oc14 kV14 dc14 pm14 cd14 ct14 oc15 kV15 dc15 pm15 cd15 ct15 oc16 kV16 dc16 pm16 cd16 ct16 oc17 kV17 dc17 pm17 cd17 ct17 oc18 kV18 dc18 pm18 cd18 ct18 oc19 kV19 dc19 pm19 cd19 ct19 oc20 kV20 dc20 pm20 cd20 ct20 oc21 kV21 dc21 pm21 cd21 ct21 oc22 kV22 dc22 pm22 cd22 ct22 : Value}
 {q_a : Str} {N_a : Addr} {bs_a su_a : List Value} {sn_a : List Str} {ab_a : Bool} {co_a : Option Bool} {dd_a : Option Addr} {k0_a k1_a k2_a k3_a k5_a : Option Value}
 (xx_a : PySem.W.nsIn K mainGlobals "LabelError" = some (some (.ref Kaa))) (xl_a : K.lookup Kaa = some (excClassObj "LabelError" q_a Kaa N_a bs_a bmV true sn_a su_a ab_a co_a dd_a k0_a k1_a k2_a k3_a k5_a "ValueError.__new__"))
 (xs_a : PySem.W.findIn K (.ref Kaa) (Str.ofString "__setattr__") = some (some (.builtin "object.__setattr__"))) (xg_a : PySem.W.findIn K (.ref Kaa) (Str.ofString "__getattribute__") = some (some (.builtin "BaseException.__getattribute__"))) (xk_a : PySem.W.keepIn K (.ref Kaa) = true)
 {nc_L : Value} {nd_L : Option Addr} {ne_L : Array DictEntry} {np_L : Nat} {ns_L : Array (Option Value)} (xn_a : K.lookup N_a = some ⟨nc_L, nd_L, .dict ne_L np_L, ns_L⟩) (xe_a : ne_L.all Zj7 = true) (xj_a : PySem.W.nsIn K N_a (Str.ofString "__init__") = some none)
 (xp_a : PySem.W.specialIn K (.ref Kaa) (Str.ofString "__getattribute__") = some (some (.builtin "type.__getattribute__"))) (xr_a : PySem.W.readsIn K Kaa (.type "type") = true) (xf_a : PySem.W.findCls K (.ref Kaa) (.type "type") (Str.ofString "__init__") = some (.val (.builtin "ValueError.__init__")))
 {q_b : Str} {N_b : Addr} {bs_b su_b : List Value} {sn_b : List Str} {ab_b : Bool} {co_b : Option Bool} {dd_b : Option Addr} {k0_b k1_b k2_b k3_b k5_b : Option Value}
 (xx_b : PySem.W.nsIn K mainGlobals "Lost" = some (some (.ref Kab))) (xl_b : K.lookup Kab = some (excClassObj "Lost" q_b Kab N_b bs_b (.ref Kaa :: bmV) true sn_b su_b ab_b co_b dd_b k0_b k1_b k2_b k3_b k5_b "ValueError.__new__"))
 (xs_b : PySem.W.findIn K (.ref Kab) (Str.ofString "__setattr__") = some (some (.builtin "object.__setattr__"))) (xg_b : PySem.W.findIn K (.ref Kab) (Str.ofString "__getattribute__") = some (some (.builtin "BaseException.__getattribute__"))) (xk_b : PySem.W.keepIn K (.ref Kab) = true)
 {q_c : Str} {N_c : Addr} {bs_c su_c : List Value} {sn_c : List Str} {ab_c : Bool} {co_c : Option Bool} {dd_c : Option Addr} {k0_c k1_c k2_c k3_c k5_c : Option Value}
 (xx_c : PySem.W.nsIn K mainGlobals "Mixed" = some (some (.ref Kac))) (xl_c : K.lookup Kac = some (excClassObj "Mixed" q_c Kac N_c bs_c (.ref Kaa :: bmV) true sn_c su_c ab_c co_c dd_c k0_c k1_c k2_c k3_c k5_c "ValueError.__new__"))
 (xs_c : PySem.W.findIn K (.ref Kac) (Str.ofString "__setattr__") = some (some (.builtin "object.__setattr__"))) (xg_c : PySem.W.findIn K (.ref Kac) (Str.ofString "__getattribute__") = some (some (.builtin "BaseException.__getattribute__"))) (xk_c : PySem.W.keepIn K (.ref Kac) = true)
 {q_d : Str} {N_d : Addr} {bs_d su_d : List Value} {sn_d : List Str} {ab_d : Bool} {co_d : Option Bool} {dd_d : Option Addr} {k0_d k1_d k2_d k3_d k5_d : Option Value}
 (xx_d : PySem.W.nsIn K mainGlobals "NoForm" = some (some (.ref Kad))) (xl_d : K.lookup Kad = some (excClassObj "NoForm" q_d Kad N_d bs_d (.ref Kaa :: bmV) true sn_d su_d ab_d co_d dd_d k0_d k1_d k2_d k3_d k5_d "ValueError.__new__"))
 (xs_d : PySem.W.findIn K (.ref Kad) (Str.ofString "__setattr__") = some (some (.builtin "object.__setattr__"))) (xg_d : PySem.W.findIn K (.ref Kad) (Str.ofString "__getattribute__") = some (some (.builtin "BaseException.__getattribute__"))) (xk_d : PySem.W.keepIn K (.ref Kad) = true)
 {q_e : Str} {N_e : Addr} {bs_e su_e : List Value} {sn_e : List Str} {ab_e : Bool} {co_e : Option Bool} {dd_e : Option Addr} {k0_e k1_e k2_e k3_e k5_e : Option Value}
 (xx_e : PySem.W.nsIn K mainGlobals "NoFount" = some (some (.ref Kae))) (xl_e : K.lookup Kae = some (excClassObj "NoFount" q_e Kae N_e bs_e (.ref Kaa :: bmV) true sn_e su_e ab_e co_e dd_e k0_e k1_e k2_e k3_e k5_e "ValueError.__new__"))
 (xs_e : PySem.W.findIn K (.ref Kae) (Str.ofString "__setattr__") = some (some (.builtin "object.__setattr__"))) (xg_e : PySem.W.findIn K (.ref Kae) (Str.ofString "__getattribute__") = some (some (.builtin "BaseException.__getattribute__"))) (xk_e : PySem.W.keepIn K (.ref Kae) = true)
 {q_f : Str} {N_f : Addr} {bs_f su_f : List Value} {sn_f : List Str} {ab_f : Bool} {co_f : Option Bool} {dd_f : Option Addr} {k0_f k1_f k2_f k3_f k5_f : Option Value}
 (xx_f : PySem.W.nsIn K mainGlobals "NoLabel" = some (some (.ref Kaf))) (xl_f : K.lookup Kaf = some (excClassObj "NoLabel" q_f Kaf N_f bs_f (.ref Kaa :: bmV) true sn_f su_f ab_f co_f dd_f k0_f k1_f k2_f k3_f k5_f "ValueError.__new__"))
 (xs_f : PySem.W.findIn K (.ref Kaf) (Str.ofString "__setattr__") = some (some (.builtin "object.__setattr__"))) (xg_f : PySem.W.findIn K (.ref Kaf) (Str.ofString "__getattribute__") = some (some (.builtin "BaseException.__getattribute__"))) (xk_f : PySem.W.keepIn K (.ref Kaf) = true)
 {q_g : Str} {N_g : Addr} {bs_g su_g : List Value} {sn_g : List Str} {ab_g : Bool} {co_g : Option Bool} {dd_g : Option Addr} {k0_g k1_g k2_g k3_g k5_g : Option Value}
 (xx_g : PySem.W.nsIn K mainGlobals "NoName" = some (some (.ref Kag))) (xl_g : K.lookup Kag = some (excClassObj "NoName" q_g Kag N_g bs_g (.ref Kaa :: bmV) true sn_g su_g ab_g co_g dd_g k0_g k1_g k2_g k3_g k5_g "ValueError.__new__"))
 (xs_g : PySem.W.findIn K (.ref Kag) (Str.ofString "__setattr__") = some (some (.builtin "object.__setattr__"))) (xg_g : PySem.W.findIn K (.ref Kag) (Str.ofString "__getattribute__") = some (some (.builtin "BaseException.__getattribute__"))) (xk_g : PySem.W.keepIn K (.ref Kag) = true)
 {q_h : Str} {N_h : Addr} {bs_h su_h : List Value} {sn_h : List Str} {ab_h : Bool} {co_h : Option Bool} {dd_h : Option Addr} {k0_h k1_h k2_h k3_h k5_h : Option Value}
 (xx_h : PySem.W.nsIn K mainGlobals "NoReading" = some (some (.ref Kah))) (xl_h : K.lookup Kah = some (excClassObj "NoReading" q_h Kah N_h bs_h (.ref Kaa :: bmV) true sn_h su_h ab_h co_h dd_h k0_h k1_h k2_h k3_h k5_h "ValueError.__new__"))
 (xs_h : PySem.W.findIn K (.ref Kah) (Str.ofString "__setattr__") = some (some (.builtin "object.__setattr__"))) (xg_h : PySem.W.findIn K (.ref Kah) (Str.ofString "__getattribute__") = some (some (.builtin "BaseException.__getattribute__"))) (xk_h : PySem.W.keepIn K (.ref Kah) = true)
 {q_i : Str} {N_i : Addr} {bs_i su_i : List Value} {sn_i : List Str} {ab_i : Bool} {co_i : Option Bool} {dd_i : Option Addr} {k0_i k1_i k2_i k3_i k5_i : Option Value}
 (xx_i : PySem.W.nsIn K mainGlobals "NoRoom" = some (some (.ref Kai))) (xl_i : K.lookup Kai = some (excClassObj "NoRoom" q_i Kai N_i bs_i (.ref Kaa :: bmV) true sn_i su_i ab_i co_i dd_i k0_i k1_i k2_i k3_i k5_i "ValueError.__new__"))
 (xs_i : PySem.W.findIn K (.ref Kai) (Str.ofString "__setattr__") = some (some (.builtin "object.__setattr__"))) (xg_i : PySem.W.findIn K (.ref Kai) (Str.ofString "__getattribute__") = some (some (.builtin "BaseException.__getattribute__"))) (xk_i : PySem.W.keepIn K (.ref Kai) = true)
 {q_j : Str} {N_j : Addr} {bs_j su_j : List Value} {sn_j : List Str} {ab_j : Bool} {co_j : Option Bool} {dd_j : Option Addr} {k0_j k1_j k2_j k3_j k5_j : Option Value}
 (xx_j : PySem.W.nsIn K mainGlobals "NoSymbol" = some (some (.ref Kaj))) (xl_j : K.lookup Kaj = some (excClassObj "NoSymbol" q_j Kaj N_j bs_j (.ref Kaa :: bmV) true sn_j su_j ab_j co_j dd_j k0_j k1_j k2_j k3_j k5_j "ValueError.__new__"))
 (xs_j : PySem.W.findIn K (.ref Kaj) (Str.ofString "__setattr__") = some (some (.builtin "object.__setattr__"))) (xg_j : PySem.W.findIn K (.ref Kaj) (Str.ofString "__getattribute__") = some (some (.builtin "BaseException.__getattribute__"))) (xk_j : PySem.W.keepIn K (.ref Kaj) = true)
 (xh_j : PySem.W.findIn K (.ref Kaj) (Str.ofString "__getattr__") = some none) (xc_j : PySem.W.findIn K (.ref Kaj) "__class__" = some (some (.builtin "object.__class__"))) (x0_j : PySem.W.findIn K (.ref Kaj) "row" = some none) (x1_j : PySem.W.findIn K (.ref Kaj) "number" = some none) (x2_j : PySem.W.findIn K (.ref Kaj) "length" = some none) (x3_j : PySem.W.findIn K (.ref Kaj) "numbers" = some none)
 {q_k : Str} {N_k : Addr} {bs_k su_k : List Value} {sn_k : List Str} {ab_k : Bool} {co_k : Option Bool} {dd_k : Option Addr} {k0_k k1_k k2_k k3_k k5_k : Option Value}
 (xx_k : PySem.W.nsIn K mainGlobals "NoTable" = some (some (.ref Kak))) (xl_k : K.lookup Kak = some (excClassObj "NoTable" q_k Kak N_k bs_k (.ref Kaa :: bmV) true sn_k su_k ab_k co_k dd_k k0_k k1_k k2_k k3_k k5_k "ValueError.__new__"))
 (xs_k : PySem.W.findIn K (.ref Kak) (Str.ofString "__setattr__") = some (some (.builtin "object.__setattr__"))) (xg_k : PySem.W.findIn K (.ref Kak) (Str.ofString "__getattribute__") = some (some (.builtin "BaseException.__getattribute__"))) (xk_k : PySem.W.keepIn K (.ref Kak) = true)
 {q_l : Str} {N_l : Addr} {bs_l su_l : List Value} {sn_l : List Str} {ab_l : Bool} {co_l : Option Bool} {dd_l : Option Addr} {k0_l k1_l k2_l k3_l k5_l : Option Value}
 (xx_l : PySem.W.nsIn K mainGlobals "NoWriting" = some (some (.ref Kal))) (xl_l : K.lookup Kal = some (excClassObj "NoWriting" q_l Kal N_l bs_l (.ref Kaa :: bmV) true sn_l su_l ab_l co_l dd_l k0_l k1_l k2_l k3_l k5_l "ValueError.__new__"))
 (xs_l : PySem.W.findIn K (.ref Kal) (Str.ofString "__setattr__") = some (some (.builtin "object.__setattr__"))) (xg_l : PySem.W.findIn K (.ref Kal) (Str.ofString "__getattribute__") = some (some (.builtin "BaseException.__getattribute__"))) (xk_l : PySem.W.keepIn K (.ref Kal) = true)
 {q_m : Str} {N_m : Addr} {bs_m su_m : List Value} {sn_m : List Str} {ab_m : Bool} {co_m : Option Bool} {dd_m : Option Addr} {k0_m k1_m k2_m k3_m k5_m : Option Value}
 (xx_m : PySem.W.nsIn K mainGlobals "Spoilt" = some (some (.ref Kam))) (xl_m : K.lookup Kam = some (excClassObj "Spoilt" q_m Kam N_m bs_m (.ref Kaa :: bmV) true sn_m su_m ab_m co_m dd_m k0_m k1_m k2_m k3_m k5_m "ValueError.__new__"))
 (xs_m : PySem.W.findIn K (.ref Kam) (Str.ofString "__setattr__") = some (some (.builtin "object.__setattr__"))) (xg_m : PySem.W.findIn K (.ref Kam) (Str.ofString "__getattribute__") = some (some (.builtin "BaseException.__getattribute__"))) (xk_m : PySem.W.keepIn K (.ref Kam) = true)
 (xh_m : PySem.W.findIn K (.ref Kam) (Str.ofString "__getattr__") = some none) (xc_m : PySem.W.findIn K (.ref Kam) "__class__" = some (some (.builtin "object.__class__"))) (x0_m : PySem.W.findIn K (.ref Kam) "row" = some none) (x1_m : PySem.W.findIn K (.ref Kam) "number" = some none) (x2_m : PySem.W.findIn K (.ref Kam) "length" = some none) (x3_m : PySem.W.findIn K (.ref Kam) "numbers" = some none)
 (xi_m : PySem.W.findIn K (.ref Kam) (Str.ofString "__init__") = some (some (.builtin "ValueError.__init__")))
 {q_n : Str} {N_n : Addr} {bs_n su_n : List Value} {sn_n : List Str} {ab_n : Bool} {co_n : Option Bool} {dd_n : Option Addr} {k0_n k1_n k2_n k3_n k5_n : Option Value}
 (xx_n : PySem.W.nsIn K mainGlobals "TooLong" = some (some (.ref Kan))) (xl_n : K.lookup Kan = some (excClassObj "TooLong" q_n Kan N_n bs_n (.ref Kaa :: bmV) true sn_n su_n ab_n co_n dd_n k0_n k1_n k2_n k3_n k5_n "ValueError.__new__"))
 (xs_n : PySem.W.findIn K (.ref Kan) (Str.ofString "__setattr__") = some (some (.builtin "object.__setattr__"))) (xg_n : PySem.W.findIn K (.ref Kan) (Str.ofString "__getattribute__") = some (some (.builtin "BaseException.__getattribute__"))) (xk_n : PySem.W.keepIn K (.ref Kan) = true)
 (xh_n : PySem.W.findIn K (.ref Kan) (Str.ofString "__getattr__") = some none) (xc_n : PySem.W.findIn K (.ref Kan) "__class__" = some (some (.builtin "object.__class__"))) (x0_n : PySem.W.findIn K (.ref Kan) "row" = some none) (x1_n : PySem.W.findIn K (.ref Kan) "number" = some none) (x2_n : PySem.W.findIn K (.ref Kan) "length" = some none) (x3_n : PySem.W.findIn K (.ref Kan) "numbers" = some none)
 (xo1 : PySem.W.specialIn K (.builtin "object.__class__") "__get__" = some (some (.builtin "getset_descriptor.__get__"))) (xo2 : PySem.W.takesIn K (.builtin "object.__class__") = some true)
 (x0 : PySem.W.findIn K (.ref Kaj) (Str.ofString "__init__") = some (some (.ref a0))) (y0 : PySem.W.typeIn K (.ref a0) = some (.type "function")) (l0 : K.lookup a0 = some ⟨oc0, od0, .func (PySem.W.fnOf "__init__" "NoSymbol.__init__" (ZA ZF) (Z2 ZF) (Za ZF) .none kV0 dc0 pm0 an0 cd0 ct0), sl0⟩) (c0 : PySem.W.codeIn K cd0 "NoSymbol.__init__" = true) (k0 : PySem.W.keepIn K (.ref a0) = true)
 (x1 : PySem.W.findIn K (.ref Kan) (Str.ofString "__init__") = some (some (.ref a1))) (y1 : PySem.W.typeIn K (.ref a1) = some (.type "function")) (l1 : K.lookup a1 = some ⟨oc1, od1, .func (PySem.W.fnOf "__init__" "TooLong.__init__" (ZA ZN) (Z2 ZN) (Za ZN) .none kV1 dc1 pm1 an1 cd1 ct1), sl1⟩) (c1 : PySem.W.codeIn K cd1 "TooLong.__init__" = true) (k1 : PySem.W.keepIn K (.ref a1) = true)
 (x2 : PySem.W.nsIn K mainGlobals "is_whole" = some (some (.ref a2))) (l2 : K.lookup a2 = some ⟨oc2, od2, .func (PySem.W.fnOf "is_whole" "is_whole" (ZA ZaH) (Z2 ZaH) (Za ZaH) .none kV2 dc2 pm2 an2 cd2 ct2), sl2⟩) (c2 : PySem.W.codeIn K cd2 "is_whole" = true) (k2 : PySem.W.keepIn K (.ref a2) = true)
 (x3 : PySem.W.nsIn K mainGlobals "is_symbol" = some (some (.ref a3))) (l3 : K.lookup a3 = some ⟨oc3, od3, .func (PySem.W.fnOf "is_symbol" "is_symbol" (ZA ZaI) (Z2 ZaI) (Za ZaI) .none kV3 dc3 pm3 an3 cd3 ct3), sl3⟩) (c3 : PySem.W.codeIn K cd3 "is_symbol" = true) (k3 : PySem.W.keepIn K (.ref a3) = true)
 (x4 : PySem.W.nsIn K mainGlobals "check_symbols" = some (some (.ref a4))) (l4 : K.lookup a4 = some ⟨oc4, od4, .func (PySem.W.fnOf "check_symbols" "check_symbols" (ZA Z7) (Z2 Z7) (Za Z7) .none kV4 dc4 pm4 an4 cd4 ct4), sl4⟩) (c4 : PySem.W.codeIn K cd4 "check_symbols" = true) (k4 : PySem.W.keepIn K (.ref a4) = true)
 (x5 : PySem.W.nsIn K mainGlobals "plain_sum" = some (some (.ref a5))) (l5 : K.lookup a5 = some ⟨oc5, od5, .func (PySem.W.fnOf "plain_sum" "plain_sum" (ZA ZaJ) (Z2 ZaJ) (Za ZaJ) .none kV5 dc5 pm5 an5 cd5 ct5), sl5⟩) (c5 : PySem.W.codeIn K cd5 "plain_sum" = true) (k5 : PySem.W.keepIn K (.ref a5) = true)
 (x6 : PySem.W.nsIn K mainGlobals "weighed_sum" = some (some (.ref a6))) (l6 : K.lookup a6 = some ⟨oc6, od6, .func (PySem.W.fnOf "weighed_sum" "weighed_sum" (ZA ZL) (Z2 ZL) (Za ZL) .none kV6 dc6 pm6 an6 cd6 ct6), sl6⟩) (c6 : PySem.W.codeIn K cd6 "weighed_sum" = true) (k6 : PySem.W.keepIn K (.ref a6) = true)
 (x7 : PySem.W.nsIn K mainGlobals "is_good" = some (some (.ref a7))) (l7 : K.lookup a7 = some ⟨oc7, od7, .func (PySem.W.fnOf "is_good" "is_good" (ZA Zbf) (Z2 Zbf) (Za Zbf) .none kV7 dc7 pm7 an7 cd7 ct7), sl7⟩) (c7 : PySem.W.codeIn K cd7 "is_good" = true) (k7 : PySem.W.keepIn K (.ref a7) = true)
 (x8 : PySem.W.nsIn K mainGlobals "quotient" = some (some (.ref a8))) (l8 : K.lookup a8 = some ⟨oc8, od8, .func (PySem.W.fnOf "quotient" "quotient" (ZA Zaj) (Z2 Zaj) (Za Zaj) .none kV8 dc8 pm8 an8 cd8 ct8), sl8⟩) (c8 : PySem.W.codeIn K cd8 "quotient" = true) (k8 : PySem.W.keepIn K (.ref a8) = true)
 (x9 : PySem.W.nsIn K mainGlobals "with_two_filled" = some (some (.ref a9))) (l9 : K.lookup a9 = some ⟨oc9, od9, .func (PySem.W.fnOf "with_two_filled" "with_two_filled" (ZA Zr) (Z2 Zr) (Za Zr) .none kV9 dc9 pm9 an9 cd9 ct9), sl9⟩) (c9 : PySem.W.codeIn K cd9 "with_two_filled" = true) (k9 : PySem.W.keepIn K (.ref a9) = true)
 (x10 : PySem.W.nsIn K mainGlobals "with_one_righted" = some (some (.ref a10))) (l10 : K.lookup a10 = some ⟨oc10, od10, .func (PySem.W.fnOf "with_one_righted" "with_one_righted" (ZA Zl) (Z2 Zl) (Za Zl) .none kV10 dc10 pm10 an10 cd10 ct10), sl10⟩) (c10 : PySem.W.codeIn K cd10 "with_one_righted" = true) (k10 : PySem.W.keepIn K (.ref a10) = true)
 (x11 : PySem.W.nsIn K mainGlobals "labelled" = some (some (.ref a11))) (l11 : K.lookup a11 = some ⟨oc11, od11, .func (PySem.W.fnOf "labelled" "labelled" (ZA Zba) (Z2 Zba) (Za Zba) .none kV11 dc11 pm11 an11 cd11 ct11), sl11⟩) (c11 : PySem.W.codeIn K cd11 "labelled" = true) (k11 : PySem.W.keepIn K (.ref a11) = true)
 (x12 : PySem.W.nsIn K mainGlobals "mended" = some (some (.ref a12))) (l12 : K.lookup a12 = some ⟨oc12, od12, .func (PySem.W.fnOf "mended" "mended" (ZA Z6) (Z2 Z6) (Za Z6) .none kV12 dc12 pm12 an12 cd12 ct12), sl12⟩) (c12 : PySem.W.codeIn K cd12 "mended" = true) (k12 : PySem.W.keepIn K (.ref a12) = true)
 (x13 : PySem.W.nsIn K mainGlobals "_law_nth" = some (some (.ref a13))) (l13 : K.lookup a13 = some ⟨oc13, od13, .func (PySem.W.fnOf "_law_nth" "_law_nth" (ZA Zbc) (Z2 Zbc) (Za Zbc) .none kV13 dc13 pm13 an13 cd13 ct13), sl13⟩) (c13 : PySem.W.codeIn K cd13 "_law_nth" = true) (k13 : PySem.W.keepIn K (.ref a13) = true)
 (x14 : PySem.W.nsIn K mainGlobals "_law_spun" = some (some (.ref a14))) (l14 : K.lookup a14 = some ⟨oc14, od14, .func (PySem.W.fnOf "_law_spun" "_law_spun" (ZA Za1) (Z2 Za1) (Za Za1) .none kV14 dc14 pm14 an14 cd14 ct14), sl14⟩) (c14 : PySem.W.codeIn K cd14 "_law_spun" = true) (k14 : PySem.W.keepIn K (.ref a14) = true)
 (x15 : PySem.W.nsIn K mainGlobals "_law_source" = some (some (.ref a15))) (l15 : K.lookup a15 = some ⟨oc15, od15, .func (PySem.W.fnOf "_law_source" "_law_source" (ZA Za9) (Z2 Za9) (Za Za9) .none kV15 dc15 pm15 an15 cd15 ct15), sl15⟩) (c15 : PySem.W.codeIn K cd15 "_law_source" = true) (k15 : PySem.W.keepIn K (.ref a15) = true)
 (x16 : PySem.W.nsIn K mainGlobals "_law_next" = some (some (.ref a16))) (l16 : K.lookup a16 = some ⟨oc16, od16, .func (PySem.W.fnOf "_law_next" "_law_next" (ZA Zaf) (Z2 Zaf) (Za Zaf) .none kV16 dc16 pm16 an16 cd16 ct16), sl16⟩) (c16 : PySem.W.codeIn K cd16 "_law_next" = true) (k16 : PySem.W.keepIn K (.ref a16) = true)
 (x17 : PySem.W.nsIn K mainGlobals "_law_prime" = some (some (.ref a17))) (l17 : K.lookup a17 = some ⟨oc17, od17, .func (PySem.W.fnOf "_law_prime" "_law_prime" (ZA Zbk) (Z2 Zbk) (Za Zbk) .none kV17 dc17 pm17 an17 cd17 ct17), sl17⟩) (c17 : PySem.W.codeIn K cd17 "_law_prime" = true) (k17 : PySem.W.keepIn K (.ref a17) = true)
 (x18 : PySem.W.nsIn K mainGlobals "_law_others" = some (some (.ref a18))) (l18 : K.lookup a18 = some ⟨oc18, od18, .func (PySem.W.fnOf "_law_others" "_law_others" (ZA Zz) (Z2 Zz) (Za Zz) .none kV18 dc18 pm18 an18 cd18 ct18), sl18⟩) (c18 : PySem.W.codeIn K cd18 "_law_others" = true) (k18 : PySem.W.keepIn K (.ref a18) = true)
 (x19 : PySem.W.nsIn K mainGlobals "_law_told" = some (some (.ref a19))) (l19 : K.lookup a19 = some ⟨oc19, od19, .func (PySem.W.fnOf "_law_told" "_law_told" (ZA Z0) (Z2 Z0) (Za Z0) .none kV19 dc19 pm19 an19 cd19 ct19), sl19⟩) (c19 : PySem.W.codeIn K cd19 "_law_told" = true) (k19 : PySem.W.keepIn K (.ref a19) = true)
 (x20 : PySem.W.nsIn K mainGlobals "_law_odd" = some (some (.ref a20))) (l20 : K.lookup a20 = some ⟨oc20, od20, .func (PySem.W.fnOf "_law_odd" "_law_odd" (ZA ZaM) (Z2 ZaM) (Za ZaM) .none kV20 dc20 pm20 an20 cd20 ct20), sl20⟩) (c20 : PySem.W.codeIn K cd20 "_law_odd" = true) (k20 : PySem.W.keepIn K (.ref a20) = true)
 (x21 : PySem.W.nsIn K mainGlobals "_law_due" = some (some (.ref a21))) (l21 : K.lookup a21 = some ⟨oc21, od21, .func (PySem.W.fnOf "_law_due" "_law_due" (ZA Za7) (Z2 Za7) (Za Za7) .none kV21 dc21 pm21 an21 cd21 ct21), sl21⟩) (c21 : PySem.W.codeIn K cd21 "_law_due" = true) (k21 : PySem.W.keepIn K (.ref a21) = true)
 (x22 : PySem.W.nsIn K mainGlobals "law" = some (some (.ref a22))) (l22 : K.lookup a22 = some ⟨oc22, od22, .func (PySem.W.fnOf "law" "law" (ZA Z4) (Z2 Z4) (Za Z4) .none kV22 dc22 pm22 an22 cd22 ct22), sl22⟩) (c22 : PySem.W.codeIn K cd22 "law" = true) (k22 : PySem.W.keepIn K (.ref a22) = true)
 (z0 : PySem.W.nsIn K mainGlobals "ValueError" = some none)
 (z1 : PySem.W.nsIn K mainGlobals "abs" = some none)
 (z2 : PySem.W.nsIn K mainGlobals "bool" = some none)
 (z3 : PySem.W.nsIn K mainGlobals "enumerate" = some none)
 (z4 : PySem.W.nsIn K mainGlobals "int" = some none)
 (z5 : PySem.W.nsIn K mainGlobals "isinstance" = some none)
 (z6 : PySem.W.nsIn K mainGlobals "len" = some none)
 (z7 : PySem.W.nsIn K mainGlobals "list" = some none)
 (z8 : PySem.W.nsIn K mainGlobals "min" = some none)
 (z9 : PySem.W.nsIn K mainGlobals "range" = some none)
 (z10 : PySem.W.nsIn K mainGlobals "sum" = some none)
 {tc0 : Tok} (zc0 : PySem.W.nsIn K mainGlobals "CHECK_SYMBOLS" = some (some (.int 2 tc0)))
 : ∃ fd : FuncData, (∀ (s : Shared) (v : Value), BindsTo s fd ⟨[v], []⟩ [("_law_script", v)]) /\ ∀ base : Heap, K.In base -> base.Ns mainGlobals mg -> FnOk l.prog w K mg base CX0 6 fa fd ["_law_script"] (T.spF K Zlw.run) := by
 have e := hfa.symm.trans (PySem.W.mg_of X G x22)
 cases e
 have Z : Txt K mg Kaa Kab Kac Kad Kae Kaf Kag Kah Kai Kaj Kak Kal Kam Kan := ⟨PySem.W.mg_none_of X G z0, PySem.W.mg_none_of X G z1, PySem.W.mg_none_of X G z2, PySem.W.mg_none_of X G z3, PySem.W.mg_none_of X G z4, PySem.W.mg_none_of X G z5, PySem.W.mg_none_of X G z6, PySem.W.mg_none_of X G z7, PySem.W.mg_none_of X G z8, PySem.W.mg_none_of X G z9, PySem.W.mg_none_of X G z10, ⟨tc0, PySem.W.mg_of X G zc0⟩, PySem.W.mg_of X G xx_a, Zbn xx_a xl_a, Zci xl_a, ZbQ xl_a ZnS (show Za2 bmV = true by walk_at "d") xs_a xg_a xk_a, ⟨xp_a, xr_a, xf_a⟩, PySem.W.mg_of X G xx_b, Zbn xx_b xl_b, Zci xl_b, ZbQ xl_b (ZbF xl_a xn_a xe_a xj_a) (show Za2 bmV = true by walk_at "d") xs_b xg_b xk_b, PySem.W.mg_of X G xx_c, Zbn xx_c xl_c, Zci xl_c, ZbQ xl_c (ZbF xl_a xn_a xe_a xj_a) (show Za2 bmV = true by walk_at "d") xs_c xg_c xk_c, PySem.W.mg_of X G xx_d, Zbn xx_d xl_d, Zci xl_d, ZbQ xl_d (ZbF xl_a xn_a xe_a xj_a) (show Za2 bmV = true by walk_at "d") xs_d xg_d xk_d, PySem.W.mg_of X G xx_e, Zbn xx_e xl_e, Zci xl_e, ZbQ xl_e (ZbF xl_a xn_a xe_a xj_a) (show Za2 bmV = true by walk_at "d") xs_e xg_e xk_e, PySem.W.mg_of X G xx_f, Zbn xx_f xl_f, Zci xl_f, ZbQ xl_f (ZbF xl_a xn_a xe_a xj_a) (show Za2 bmV = true by walk_at "d") xs_f xg_f xk_f, PySem.W.mg_of X G xx_g, Zbn xx_g xl_g, Zci xl_g, ZbQ xl_g (ZbF xl_a xn_a xe_a xj_a) (show Za2 bmV = true by walk_at "d") xs_g xg_g xk_g, PySem.W.mg_of X G xx_h, Zbn xx_h xl_h, Zci xl_h, ZbQ xl_h (ZbF xl_a xn_a xe_a xj_a) (show Za2 bmV = true by walk_at "d") xs_h xg_h xk_h, PySem.W.mg_of X G xx_i, Zbn xx_i xl_i, Zci xl_i, ZbQ xl_i (ZbF xl_a xn_a xe_a xj_a) (show Za2 bmV = true by walk_at "d") xs_i xg_i xk_i, PySem.W.mg_of X G xx_j, Zbn xx_j xl_j, Zci xl_j, ZbQ xl_j (ZbF xl_a xn_a xe_a xj_a) (show Za2 bmV = true by walk_at "d") xs_j xg_j xk_j, Zln xx_j xl_j (Zbn xx_a xl_a) (ZbF xl_a xn_a xe_a xj_a) xs_j xg_j xk_j xh_j xc_j xo1 xo2 x0_j x1_j x2_j x3_j, PySem.W.mg_of X G xx_k, Zbn xx_k xl_k, Zci xl_k, ZbQ xl_k (ZbF xl_a xn_a xe_a xj_a) (show Za2 bmV = true by walk_at "d") xs_k xg_k xk_k, PySem.W.mg_of X G xx_l, Zbn xx_l xl_l, Zci xl_l, ZbQ xl_l (ZbF xl_a xn_a xe_a xj_a) (show Za2 bmV = true by walk_at "d") xs_l xg_l xk_l, PySem.W.mg_of X G xx_m, Zbn xx_m xl_m, Zci xl_m, ZbQ xl_m (ZbF xl_a xn_a xe_a xj_a) (show Za2 bmV = true by walk_at "d") xs_m xg_m xk_m, Zln xx_m xl_m (Zbn xx_a xl_a) (ZbF xl_a xn_a xe_a xj_a) xs_m xg_m xk_m xh_m xc_m xo1 xo2 x0_m x1_m x2_m x3_m, xi_m, PySem.W.mg_of X G xx_n, Zbn xx_n xl_n, Zci xl_n, ZbQ xl_n (ZbF xl_a xn_a xe_a xj_a) (show Za2 bmV = true by walk_at "d") xs_n xg_n xk_n, Zln xx_n xl_n (Zbn xx_a xl_a) (ZbF xl_a xn_a xe_a xj_a) xs_n xg_n xk_n xh_n xc_n xo1 xo2 x0_n x1_n x2_n x3_n⟩
 have F0 := Zab (st := ZF) l0 c0 k0
 have b0 := F0.binds (ps := ["self", "number"]) fun _ _ _ _ _ _ => T.us2 fun _ _ => rfl
 have F1 := Zab (st := ZN) l1 c1 k1
 have b1 := F1.binds (ps := ["self", "length"]) fun _ _ _ _ _ _ => T.us2 fun _ _ => rfl
 have F2 := Zab (st := ZaH) l2 c2 k2
 have b2 := F2.binds (ps := ["thing"]) fun _ _ _ _ _ _ => T.us1 fun _ => rfl
 have F3 := Zab (st := ZaI) l3 c3 k3
 have b3 := F3.binds (ps := ["count", "thing"]) fun _ _ _ _ _ _ => T.us2 fun _ _ => rfl
 have F4 := Zab (st := Z7) l4 c4 k4
 have b4 := F4.binds (ps := ["count", "row"]) fun _ _ _ _ _ _ => T.us2 fun _ _ => rfl
 have F5 := Zab (st := ZaJ) l5 c5 k5
 have b5 := F5.binds (ps := ["prime", "row"]) fun _ _ _ _ _ _ => T.us2 fun _ _ => rfl
 have F6 := Zab (st := ZL) l6 c6 k6
 have b6 := F6.binds (ps := ["prime", "row"]) fun _ _ _ _ _ _ => T.us2 fun _ _ => rfl
 have F7 := Zab (st := Zbf) l7 c7 k7
 have b7 := F7.binds (ps := ["prime", "row"]) fun _ _ _ _ _ _ => T.us2 fun _ _ => rfl
 have F8 := Zab (st := Zaj) l8 c8 k8
 have b8 := F8.binds (ps := ["prime", "rest", "divisor"]) fun _ _ _ _ _ _ => T.us3 fun _ _ _ => rfl
 have F9 := Zab (st := Zr) l9 c9 k9
 have b9 := F9.binds (ps := ["prime", "row", "earlier", "later"]) fun _ _ _ _ _ _ => T.us4 fun _ _ _ _ => rfl
 have F10 := Zab (st := Zl) l10 c10 k10
 have b10 := F10.binds (ps := ["prime", "row"]) fun _ _ _ _ _ _ => T.us2 fun _ _ => rfl
 have F11 := Zab (st := Zba) l11 c11 k11
 have b11 := F11.binds (ps := ["prime", "row"]) fun _ _ _ _ _ _ => T.us2 fun _ _ => rfl
 have F12 := Zab (st := Z6) l12 c12 k12
 have b12 := F12.binds (ps := ["prime", "things"]) fun _ _ _ _ _ _ => T.us2 fun _ _ => rfl
 have F13 := Zab (st := Zbc) l13 c13 k13
 have b13 := F13.binds (ps := ["_law_script", "_law_k"]) fun _ _ _ _ _ _ => T.us2 fun _ _ => rfl
 have F14 := Zab (st := Za1) l14 c14 k14
 have b14 := F14.binds (ps := ["_law_cell", "_law_turn", "_law_many"]) fun _ _ _ _ _ _ => T.us3 fun _ _ _ => rfl
 have F15 := Zab (st := Za9) l15 c15 k15
 have b15 := F15.binds (ps := ["_law_cell"]) fun _ _ _ _ _ _ => T.us1 fun _ => rfl
 have F16 := Zab (st := Zaf) l16 c16 k16
 have b16 := F16.binds (ps := ["_law_source_here", "_law_many"]) fun _ _ _ _ _ _ => T.us2 fun _ _ => rfl
 have F17 := Zab (st := Zbk) l17 c17 k17
 have b17 := F17.binds (ps := ["_law_cell"]) fun _ _ _ _ _ _ => T.us1 fun _ => rfl
 have F18 := Zab (st := Zz) l18 c18 k18
 have b18 := F18.binds (ps := ["_law_e"]) fun _ _ _ _ _ _ => T.us1 fun _ => rfl
 have F19 := Zab (st := Z0) l19 c19 k19
 have b19 := F19.binds (ps := ["_law_prime_here", "_law_things", "_law_way"]) fun _ _ _ _ _ _ => T.us3 fun _ _ _ => rfl
 have F20 := Zab (st := ZaM) l20 c20 k20
 have b20 := F20.binds (ps := ["_law_source_here", "_law_prime_here"]) fun _ _ _ _ _ _ => T.us2 fun _ _ => rfl
 have F21 := Zab (st := Za7) l21 c21 k21
 have b21 := F21.binds (ps := ["_law_prime_here", "_law_things", "_law_odd_here"]) fun _ _ _ _ _ _ => T.us3 fun _ _ _ => rfl
 have F22 := Zab (st := Z4) l22 c22 k22
 refine ⟨PySem.W.fnOf "law" "law" (ZA Z4) (Z2 Z4) (Za Z4) .none kV22 dc22 pm22 an22 cd22 ct22, fun s v => .of_eq rfl, fun base _ _ => ?_⟩
 have G_NoSymbol___init__ : XMk l.prog w K mg base "NoSymbol" ["NoSymbol", "LabelError"] 1 ["self", "number"] (T.spF K Z8.run) := ⟨_, _, _, Z.X_j, x0, y0, ZfB F0 Z , Z.m_j, b0⟩
 have G_TooLong___init__ : XMk l.prog w K mg base "TooLong" ["TooLong", "LabelError"] 1 ["self", "length"] (T.spF K ZY.run) := ⟨_, _, _, Z.X_n, x1, y1, ZfR F1 Z , Z.m_n, b1⟩
 have G_is_whole : FnAt l.prog w K mg base "is_whole" 1 ["thing"] (T.spF K Zai.run) := ⟨_, _, Zka F2 Z , PySem.W.mg_of X G x2, k2, b2⟩
 have G_is_symbol : FnAt l.prog w K mg base "is_symbol" 2 ["count", "thing"] (T.spF K Zau.run) := ⟨_, _, ZjB F3 Z G_is_whole, PySem.W.mg_of X G x3, k3, b3⟩
 have GX_check_symbols : FnAtX l.prog w K mg base "check_symbols" 3 ["count", "row"] (T.spX K ZC.run) := ⟨_, _, ZgR F4 Z G_is_symbol G_NoSymbol___init__, PySem.W.mg_of X G x4, k4, b4⟩
 have G_plain_sum : FnAt l.prog w K mg base "plain_sum" 1 ["prime", "row"] (T.spF K ZH.run) := ⟨_, _, ZjD F5 Z , PySem.W.mg_of X G x5, k5, b5⟩
 have G_weighed_sum : FnAt l.prog w K mg base "weighed_sum" 1 ["prime", "row"] (T.spF K ZV.run) := ⟨_, _, ZhV F6 Z , PySem.W.mg_of X G x6, k6, b6⟩
 have G_is_good : FnAt l.prog w K mg base "is_good" 2 ["prime", "row"] (T.spF K Zdb.run) := ⟨_, _, Zlp F7 Z G_weighed_sum G_plain_sum, PySem.W.mg_of X G x7, k7, b7⟩
 have G_quotient : FnAt l.prog w K mg base "quotient" 1 ["prime", "rest", "divisor"] (T.spF K Zdz.run) := ⟨_, _, Zkc F8 Z , PySem.W.mg_of X G x8, k8, b8⟩
 have G_with_two_filled : FnAt l.prog w K mg base "with_two_filled" 2 ["prime", "row", "earlier", "later"] (T.spF K Zam.run) := ⟨_, _, Zgj F9 Z G_plain_sum G_weighed_sum G_quotient, PySem.W.mg_of X G x9, k9, b9⟩
 have GX_with_one_righted : FnAtX l.prog w K mg base "with_one_righted" 2 ["prime", "row"] (T.spX K ZP.run) := ⟨_, _, ZfS F10 Z G_plain_sum G_weighed_sum, PySem.W.mg_of X G x10, k10, b10⟩
 have GX_labelled : FnAtX l.prog w K mg base "labelled" 4 ["prime", "row"] (T.spX K Zbb.run) := ⟨_, _, Zke F11 Z GX_check_symbols, PySem.W.mg_of X G x11, k11, b11⟩
 have GX_mended : FnAtX l.prog w K mg base "mended" 4 ["prime", "things"] (T.spX K Zad.run) := ⟨_, _, Zmn F12 Z GX_check_symbols G_TooLong___init__ G_with_two_filled G_plain_sum G_is_good GX_with_one_righted, PySem.W.mg_of X G x12, k12, b12⟩
 have G__law_nth : FnAt l.prog w K mg base "_law_nth" 1 ["_law_script", "_law_k"] (T.spF K ZG.run) := ⟨_, _, Zkf F13 Z , PySem.W.mg_of X G x13, k13, b13⟩
 have G__law_spun : FnAt l.prog w K mg base "_law_spun" 1 ["_law_cell", "_law_turn", "_law_many"] (T.spF K ZcK.run) := ⟨_, _, ZjI F14 Z , PySem.W.mg_of X G x14, k14, b14⟩
 have G__law_source : FnAt l.prog w K mg base "_law_source" 1 ["_law_cell"] (T.spF K Zbs.run) := ⟨_, _, Zia F15 Z , PySem.W.mg_of X G x15, k15, b15⟩
 have G__law_next : FnAt l.prog w K mg base "_law_next" 2 ["_law_source_here", "_law_many"] (T.spF K Z9.run) := ⟨_, _, ZjJ F16 Z G__law_spun, PySem.W.mg_of X G x16, k16, b16⟩
 have G__law_prime : FnAt l.prog w K mg base "_law_prime" 1 ["_law_cell"] (T.spF K Zcx.run) := ⟨_, _, ZiJ F17 Z , PySem.W.mg_of X G x17, k17, b17⟩
 have G__law_others : FnAt l.prog w K mg base "_law_others" 1 ["_law_e"] (T.spF K Zav.run) := ⟨_, _, Zid F18 Z , PySem.W.mg_of X G x18, k18, b18⟩
 have GX__law_told : FnAtX l.prog w K mg base "_law_told" 5 ["_law_prime_here", "_law_things", "_law_way"] (T.spX K ZS.run) := ⟨_, _, ZjK F19 Z GX_labelled GX_mended G__law_others, PySem.W.mg_of X G x19, k19, b19⟩
 have G__law_odd : FnAt l.prog w K mg base "_law_odd" 3 ["_law_source_here", "_law_prime_here"] (T.spF K ZbX.run) := ⟨_, _, Zkg F20 Z G__law_next, PySem.W.mg_of X G x20, k20, b20⟩
 have G__law_due : FnAt l.prog w K mg base "_law_due" 1 ["_law_prime_here", "_law_things", "_law_odd_here"] (T.spF K Zbe.run) := ⟨_, _, Zki F21 Z , PySem.W.mg_of X G x21, k21, b21⟩
 exact Zrl (P := l.prog) (w := w) (base := base) F22 Z G__law_prime G__law_nth G__law_source G__law_next G__law_odd G__law_due GX__law_told
end
variable (lk : Nat -> Bool) (fok : Addr -> Str -> Bool) (fuel : Nat)
local macro_rules | `(tactic| walk_at "ev") => `(tactic| simp only [bndA, ZoC, retA, Zsx, ZoD, Zsy, Zsz, Zq0, Zq1, Zs0, Zq2, Zs1, Zs2, ZoE, ZoF, valA, Zq3, Zs3, Zs4, movA, Zq4, Zq5, Zs5, Zs6, Zq6, Zs7, Zs8, Zs9, Zq7, Zq8, ZsA, ZsB, Zq9, ZqA, ZsC, ZqB, ZqC, ZqD, ZqE, ZsD, ZqF, exs1, exs0, ZoI, ZoJ, ZoG, ZoH, Zre, Zt7, Zrf, Zns, Znt, Zrg, Zpf, Zrh, Zri, Zrj, Znu, Znv, Znw, endX, Zpg, Zmm, Zt8, Zph, Zrk, e_k, o_k, ZsE, ZsF, ZsG, ZsH, ZsI, ZsJ, ZsK, ZoK, ZsL, ZsM, ZsN, Zbh, e_nt, t_nt, ZsO, ZsP, e_or, t_or, ZsQ, e_ix, t_ix, o_ix, e_sl, o_sl, ZsR, ZsS, ZsT, ZsU, e_kl, o_kl, ZqG, ZqH, ZqI, e_bf, t_bf, o_bf, ZoN, ZqJ, e_fs, o_fs, e_v, Znb, ZsV, ZsW, evs0, evs1, ZsX, ZsY, ZsZ, Zta, Ztb, x_ex, Ztc, Ztd, ZqK, Zte, r_k, Ztf, Ztg, r_or, r_ix, Zth, Zti, ZqL, Ztj, Ztk, c_lt, c_le, Ztl, Ztm, ZqM, ZqN, ZoL, Zna, Ztn, Zto, Ztp, or_f, or_t, Ztq, Ztr, Zts, Ztt, Ztu, ZqO, ZqP, ZqQ, intp, sl_f, Ztv, Ztw, Ztx, ZqR, asgn, ZqS, ZqT, ZqU, ZqV, Zty, Ztz, ZqW, ZqX, ZqY, ZqZ, it_l, modA, Zt0, chkA, Zt1, ix_l, ix_t, shrL, shr, walked, C0, scr, List.getElem?_cons_zero, List.getElem?_cons_succ, List.set_cons_zero, List.set_cons_succ, List.length_cons, List.length_nil, Option.map_some, Option.bind_some, Option.toList_none, Option.toList_some, List.nil_append, List.append_nil, List.cons_append, List.map_cons, List.map_nil, if_true, if_false, Bool.false_eq_true, Bool.and_true, Bool.true_and, Bool.or_true, Bool.true_or, Bool.or_false, Bool.false_or, Bool.not_false, Bool.not_true, decide_true, decide_false, Nat.reduceLT, Nat.reduceAdd, Nat.reduceLeDiff, beq_self_eq_true, Nat.reduceBEq, Bool.and_false, Bool.false_and, reduceCtorEq, ite_true, ite_false])
local macro_rules | `(tactic| simp_all [$xs,*]) => `(tactic| repeat (first | walk_at "ev" | simp only [$xs,*]))
noncomputable abbrev I (i : Int) : D := .sc (.int i)
noncomputable abbrev Ls (o : Bool) (xs : List Int) : D := .node .lst o (dI xs)
noncomputable def wts : Int -> List Int -> List Int
 | _, [] => []
 | c, x :: xs => c * x :: wts (c + 1) xs
theorem Zpi (c : Int) (xs : List Int) : (wts c xs).length = xs.length := by
 induction xs generalizing c with
 | nil => rfl
 | cons x xs ih => rw [wts, List.length_cons, List.length_cons, ih]
theorem Zcy (p : Int) (xs : List Int) (o : Bool) (hp : 0 < p) : ZH.run [I p, Ls o xs] = .ok (I (xs.sum % p), [I p, Ls o xs]) := by
 show Zg C0 2 2 Zcr [I p, Ls o xs] = _
 rw [runA (show [I p, Ls o xs].length = 2 from rfl)]
 unfold Zcr
 simp only [List.replicate, Nat.reduceSub]
 cases o <;> (simp_all [Zw, ZgQ, Za4 _ _ hp]) <;> rfl
theorem wloop (h0 : lk 0 = false) (h1 : lk 1 = false) : ∀ (xs : List Int) (c : Int) (acc : List Int) (a b : D), 0 <= c -> c + xs.length < 2 ^ 64 -> ∃ a' b', ZaR (asgT lk (.tup [0, 1])) (tsts ⟨lk, fok, fuel⟩ []) (evb ⟨lk, fok, fuel⟩ (.bin .Mult (.v 0) (.v 1))).1 (Zah c (dI xs)) (dI acc) [a, b] = .ok (dI (acc ++ wts c xs), [a', b']) := by
 intro xs
 induction xs with
 | nil => exact fun c acc a b _ _ => ⟨a, b, by rw [wts, List.append_nil]; rfl⟩
 | cons x xs ih =>
  intro c acc a b hc hl
  rw [List.length_cons] at hl
  obtain ⟨a', b', ih⟩ := ih (c + 1) (acc ++ [c * x]) (I c) (I x) (by omega) (by omega)
  refine ⟨a', b', ?_⟩
  have hm : binW .Mult (.sc (.int c)) (.sc (.int x)) = some (.sc (.int (c * x))) := Ze7 c x (.inl ⟨by omega, by omega⟩)
  rw [ZaC, Zah, ZcE]
  rw [Zdr] at ih
  simp_all [h0, h1, Zcp, hm]
  rw [wts]
  have e : acc ++ c * x :: wts (c + 1) xs = acc ++ [c * x] ++ wts (c + 1) xs := by simp
  rw [e]
  exact ih
theorem Zed (p : Int) (xs : List Int) (o : Bool) (hp : 0 < p) (hl : xs.length <= 1000) : ZV.run [I p, Ls o xs] = .ok (I ((wts 1 xs).sum % p), [I p, Ls o xs]) := by
 show Zg C0 2 2 ZbL [I p, Ls o xs] = _
 rw [runA (show [I p, Ls o xs].length = 2 from rfl)]
 unfold ZbL
 simp only [List.replicate, Nat.reduceSub]
 have hz : (dI ([] ++ wts 1 xs)).length <= sizeLine := by rw [Zbx, List.nil_append, Zpi, szl]; omega
 obtain ⟨a', b', hw⟩ := wloop (fun i => decide (2 <= i)) (fun _ _ => false) 0 rfl rfl xs 1 [] .hole .hole (by decide) (by omega)
 replace hw : ZbE (fun _ _ => false) 0 2 (.tup [0, 1]) [] (.bin .Mult (.v 0) (.v 1)) (Zah 1 (dI xs)) [] [.hole, .hole] = _ := hw
 cases o
 . simp_all [Zw, it_e _ 1 (by decide)]
   rw [ZbP (js := []) (caps := []) rfl hw hz]
   simp_all [Zb6, ZgQ, Za4 _ _ hp]
   rfl
 . simp_all [Zw, it_e _ 1 (by decide)]
   rw [ZbP (js := []) (caps := []) rfl hw hz]
   simp_all [Zb6, ZgQ, Za4 _ _ hp]
   rfl
noncomputable def good (p : Int) (xs : List Int) : Bool := decide (xs.sum % p = 0) && decide ((wts 1 xs).sum % p = 0)
theorem Zfa (p : Int) (xs : List Int) (_o : Bool) (hp : 0 < p) (hl : xs.length <= 1000) : Zdb.run [I p, Ls true xs] = .ok (.sc (.bl (good p xs)), [I p, Ls true xs]) := by
 rw [show Zdb.run = Zg C0 2 2 Zdx from rfl]
 rw [runA (show [I p, Ls true xs].length = 2 from rfl)]
 unfold Zdx good
 simp only [List.replicate, Nat.reduceSub]
 have l1 : ZH.lend = true := rfl
 have l2 : ZV.lend = true := rfl
 have r1 := fun o => Zcy p xs o hp
 have r2 := fun o => Zed p xs o hp hl
 by_cases h : xs.sum % p = 0
 . (simp_all [l1, l2, r1, r2, h, V.int.injEq]) <;> rfl
 . (simp_all [l1, l2, r1, r2, h, V.int.injEq]) <;> rfl
theorem Zf0 (ns : List Int) (k : Nat) : ZG.run [scr ns, I k] = .ok (I (ns.getD k 0), [scr ns, I k]) := by
 show Zg C0 2 3 ZcJ [scr ns, I k] = _
 rw [runA (show [scr ns, I k].length = 2 from rfl)]
 unfold ZcJ
 simp only [List.replicate, Nat.reduceSub]
 have hc := Zng ns (some (k : Int)) (some ((k : Int) + 1))
 rw [Znh] at hc
 (rw [List.getD_eq_getElem?_getD])
 cases h : ns[k]? with
 | none =>
  rw [h] at hc
  simp_all [hc, ZnM]
  rfl
 | some x =>
  rw [h] at hc
  simp_all [hc, Ze6]
  rfl
theorem Znx (c t m : Int) (hm : 0 < m) : ∃ r, 0 <= r /\ r < m /\ ZcK.run [I c, I t, I m] = .ok (I r, [I c, I t, I m]) := by
 have e1 : ∀ a : Int, binW .Mod (.sc (.int a)) (.sc (.int 2305843009213693951)) = some (.sc (.int (a % 2305843009213693951))) := fun a => Za4 _ _ (by decide)
 have e2 : ∀ a : Int, binW .Mult (.sc (.int (a % 2305843009213693951 + 977))) (.sc (.int (2 * t + 30011))) = some (.sc (.int ((a % 2305843009213693951 + 977) * (2 * t + 30011)))) := fun a => Ze7 _ _ (.inl (by omega))
 have e3 : binW .Mult (.sc (.int 2)) (.sc (.int t)) = some (.sc (.int (2 * t))) := Ze7 _ _ (.inl (by decide))
 have e4 : ∀ a : Int, binW .FloorDiv (.sc (.int a)) (.sc (.int 65537)) = some (.sc (.int (a / 65537))) := fun a => Zhr _ _ (by decide)
 have e5 : ∀ a : Int, binW .Mod (.sc (.int a)) (.sc (.int 65537)) = some (.sc (.int (a % 65537))) := fun a => Za4 _ _ (by decide)
 have e6 : ∀ a : Int, binW .Mult (.sc (.int (a % 65537))) (.sc (.int (t + 5))) = some (.sc (.int (a % 65537 * (t + 5)))) := fun a => Ze7 _ _ (.inl (by omega))
 have e7 : ∀ a : Int, binW .Mod (.sc (.int a)) (.sc (.int 1000003)) = some (.sc (.int (a % 1000003))) := fun a => Za4 _ _ (by decide)
 have e8 : ∀ a : Int, binW .Mult (.sc (.int (a % 1000003))) (.sc (.int 1000003)) = some (.sc (.int (a % 1000003 * 1000003))) := fun a => Ze7 _ _ (.inr (by decide))
 have e9 : ∀ a : Int, binW .FloorDiv (.sc (.int a)) (.sc (.int 97)) = some (.sc (.int (a / 97))) := fun a => Zhr _ _ (by decide)
 show ∃ r, 0 <= r /\ r < m /\ Zg C0 3 4 Zcv [I c, I t, I m] = _
 rw [runA (show [I c, I t, I m].length = 3 from rfl)]
 unfold Zcv
 simp only [List.replicate, Nat.reduceSub]
 simp_all [e1, e2, e3, e4, e5, e6, e7, e8, e9, Za4 _ _ hm]
 exact ⟨_, Int.emod_nonneg _ (by omega), Int.emod_lt_of_pos _ hm, rfl⟩
theorem Zh7 (c : Int) : ∃ n, Zbs.run [I c] = .ok (D.node .lst true [I c, I n, I 0], [I c]) := by
 show ∃ n, Zg C0 1 1 ZbO [I c] = _
 rw [runA (show [I c].length = 1 from rfl)]
 unfold ZbO
 simp only [List.replicate, Nat.reduceSub]
 have e1 : ∀ a : Int, binW .FloorDiv (.sc (.int a)) (.sc (.int 2)) = some (.sc (.int (a / 2))) := fun a => Zhr _ _ (by decide)
 have hz : (3 : Nat) <= sizeLine := by rw [szl]; decide
 simp_all [e1]
 rw [ZaS _ (by simpa using hz)]
 walk_at "ev"
 exact ⟨_, rfl⟩
theorem ZbY (c n t m : Int) (hm : 0 < m) (h2 : m < 18446744073709551616) : ∃ r n' t', 0 <= r /\ r < m /\ Z9.run [D.node .lst true [I c, I n, I t], I m] = .ok (I r, [D.node .lst true [I c, I n', I t'], I m]) := by
 obtain ⟨r, hr1, hr2, hr⟩ := Znx c t m hm
 show ∃ r n' t', 0 <= r /\ r < m /\ Zg C0 2 5 Zcw [D.node .lst true [I c, I n, I t], I m] = _
 rw [runA (show [D.node .lst true [I c, I n, I t], I m].length = 2 from rfl)]
 unfold Zcw
 simp only [List.replicate, Nat.reduceSub]
 have l1 : ZcK.lend = true := rfl
 have e1 : ∀ a : Int, binW .FloorDiv (.sc (.int a)) (.sc (.int m)) = some (.sc (.int (a / m))) := fun a => Zhr _ _ ⟨hm, h2⟩
 have e2 : ∀ a : Int, binW .Mod (.sc (.int a)) (.sc (.int 2)) = some (.sc (.int (a % 2))) := fun a => Za4 _ _ (by decide)
 have i1 : ixN' 3 1 = some 1 := rfl
 have i2 : ixN' 3 2 = some 2 := rfl
 have s1 : ∀ (i : Nat) (δ : List D) (d a b e : D), mdR i δ (Zch (.sc (.int 1)) d) (some (.node .lst true [a, b, e])) = .ok (.sc .non, δ.set i (.node .lst true [a, d, e])) := fun i δ d a b e => Zft i δ d _ 1 1 rfl
 have s2 : ∀ (i : Nat) (δ : List D) (d a b e : D), mdR i δ (Zch (.sc (.int 2)) d) (some (.node .lst true [a, b, e])) = .ok (.sc .non, δ.set i (.node .lst true [a, b, d])) := fun i δ d a b e => Zft i δ d _ 2 2 rfl
 by_cases h : c % 2 = 1
 . by_cases hn : 0 < n
   . simp_all [e1, e2, s1, s2, h, hn, V.int.injEq, Za4 _ _ hm]
     exact ⟨_, _, _, Int.emod_nonneg _ (by omega), Int.emod_lt_of_pos _ hm, rfl⟩
   . simp_all [e1, e2, s1, s2, h, hn, V.int.injEq, Za4 _ _ hm, l1, hr]
     exact ⟨_, _, _, hr1, hr2, rfl⟩
 . simp_all [e1, e2, s1, s2, h, V.int.injEq, Za4 _ _ hm, l1, hr]
   exact ⟨_, _, _, hr1, hr2, rfl⟩
noncomputable abbrev PR : List Int := [5, 7, 11, 13, 17, 19, 23, 29, 31, 37, 41, 43, 47]
theorem Zmo (c : Int) : ∃ p, 5 <= p /\ p <= 47 /\ p ∈ PR /\ Zcx.run [I c] = .ok (I p, [I c]) := by
 show ∃ p, 5 <= p /\ p <= 47 /\ p ∈ PR /\ Zg C0 1 1 Zcc [I c] = _
 rw [runA (show [I c].length = 1 from rfl)]
 unfold Zcc
 simp only [List.replicate, Nat.reduceSub]
 have hz : (13 : Nat) <= sizeLine := by rw [szl]; decide
 have e2 : ∀ a : Int, binW .Mod (.sc (.int a)) (.sc (.int 13)) = some (.sc (.int (a % 13))) := fun a => Za4 _ _ (by decide)
 have h0 : 0 <= c % 13 := by omega
 have h1 : c % 13 < 13 := by omega
 have hi := ixI PR (c % 13) h0 (by simpa using h1)
 have hb : ∀ k : Nat, k < 13 -> 5 <= PR.getD k 0 /\ PR.getD k 0 <= 47 /\ PR.getD k 0 ∈ PR := by decide
 obtain ⟨b1, b2, b3⟩ := hb (c % 13).toNat (by omega)
 generalize PR.getD (c % 13).toNat 0 = p at hi b1 b2 b3
 refine ⟨p, b1, b2, b3, ?_⟩
 simp only [PR, ZaC, List.map_nil] at hi
 walk_at "ev"
 rw [ZaS _ (by simpa using hz)]
 simp_all [e2]
 simp only [List.length_cons, List.length_nil, Nat.reduceAdd] at hi
 rw [hi]
 rfl
theorem Zt9 (i : Int) : tyW .int (.sc (.int i)) = some true := (rfl)
theorem ZtA (i : Int) : tyW .bool (.sc (.int i)) = some false := (rfl)
theorem Zg9 (w : W) : bfW (.isi .int) [w] = (tyW .int w).map fun b => .sc (.bl b) := (rfl)
theorem ZfF : isNW true (.sc .non) = .sc (.bl true) := (rfl)
theorem Zfk (k : Kd) (ds : List D) : isNW true (.nd k ds) = .sc (.bl false) := (rfl)
theorem ZnT (i : Int) : isNW true (.sc (.int i)) = .sc (.bl false) := (rfl)
theorem Zgu (x : Int) : Zai.run [I x] = .ok (.sc (.bl true), [I x]) := by
 show Zg C0 1 1 ZR [I x] = _
 rw [runA (show [I x].length = 1 from rfl)]
 unfold ZR
 simp only [List.replicate, Nat.reduceSub]
 simp_all [Zg9, ZdY, Zt9, ZtA]
 rfl
theorem ZkI (p x : Int) (h0 : 0 <= x) (h1 : x < p) : Zau.run [I p, I x] = .ok (.sc (.bl true), [I p, I x]) := by
 show Zg C0 2 2 Za6 [I p, I x] = _
 rw [runA (show [I p, I x].length = 2 from rfl)]
 unfold Za6
 simp only [List.replicate, Nat.reduceSub]
 have l1 : Zai.lend = true := rfl
 simp_all [l1, Zgu, Zbh, h0, h1]
 rfl
theorem Zlx (h2 : lk 2 = false) (h3 : lk 3 = false) (p : Int) (X : D) : ∀ (xs : List Int) (c : Int) (a b : D), (∀ x ∈ xs, 0 <= x /\ x < p) -> ∃ a' b',
 forL (asgT lk (.tup [2, 3])) (exs ⟨lk, fok, fuel⟩ [.iff (.nt (.call Zau [.v 0, .v 3])) [.raiseI ["NoSymbol", "LabelError"] Z8 [.v 2]] []]) (Zah c (dI xs)) [I p, X, a, b] = .ok (.nx, [I p, X, a', b']) := by
 intro xs
 induction xs with
 | nil => exact fun c a b _ => ⟨a, b, rfl⟩
 | cons x xs ih =>
  intro c a b hx
  obtain ⟨a', b', ih⟩ := ih (c + 1) (I c) (I x) fun y hy => hx y (List.mem_cons_of_mem _ hy)
  refine ⟨a', b', ?_⟩
  rw [<- ih, ZaC, Zah, Ze6]
  have hr := ZkI p x (hx x List.mem_cons_self).1 (hx x List.mem_cons_self).2
  have l1 : Zau.lend = true := rfl
  simp_all [h2, h3, Zcp, l1, hr]
theorem Zi5 (p : Int) (xs : List Int) (o : Bool) (hx : ∀ x ∈ xs, 0 <= x /\ x < p) : ZC.run [I p, Ls o xs] = .ok (.sc .non, [I p, Ls o xs]) := by
 show Zg C0 2 4 Zax [I p, Ls o xs] = _
 rw [runA (show [I p, Ls o xs].length = 2 from rfl)]
 unfold Zax
 simp only [List.replicate, Nat.reduceSub]
 have hs := fun X => Zlx (fun j => decide (j < 2) || walked [.v 1, .k (.int 0)] j) (fun _ _ => false) 0 rfl rfl p X xs 0 .hole .hole hx
 simp only [walked, Bool.or_false] at hs
 cases o
 . obtain ⟨a', b', hs⟩ := hs (Ls false xs)
   simp_all [Zw, it_e _ 0 (by decide), hs]
   rfl
 . obtain ⟨a', b', hs⟩ := hs .hole
   simp_all [Zw, it_e _ 0 (by decide), hs]
   rfl
theorem Zig : ∀ (ys : List Int) (r : Nat) (v : Int), r < ys.length -> (ys.set r v).sum = ys.sum + (v - ys.getD r 0)
 | [], r, v, h => by simp at h
 | y :: ys, 0, v, _ => by simp only [List.set_cons_zero, List.sum_cons, List.getD_cons_zero]; omega
 | y :: ys, r + 1, v, h => by
  have := Zig ys r v (by simpa using h)
  simp only [List.set_cons_succ, List.sum_cons, List.getD_cons_succ]
  omega
theorem ZtB : ∀ p ∈ [5, 7, 11, 13, 17, 19, 23, 29, 31, 37, 41, 43, 47], ∀ a ∈ List.range p, ∀ b ∈ List.range p, a ≠ 0 -> b ≠ 0 -> a * b % p ≠ 0 := by walk_at "d"
theorem Zh8 (p : Int) (hp : p ∈ PR) (a b : Int) (h1 : 0 < a) (h2 : a < p) (h3 : 0 < b) (h4 : b < p) : a * b % p ≠ 0 := by
 obtain ⟨m, hm⟩ : ∃ m : Nat, p = m := ⟨p.toNat, by omega⟩
 obtain ⟨i, hi⟩ : ∃ i : Nat, a = i := ⟨a.toNat, by omega⟩
 obtain ⟨j, hj⟩ : ∃ j : Nat, b = j := ⟨b.toNat, by omega⟩
 subst hm hi hj
 have hin : m ∈ [5, 7, 11, 13, 17, 19, 23, 29, 31, 37, 41, 43, 47] := by
  simp only [PR, List.mem_cons, List.not_mem_nil, or_false] at hp ⊢
  omega
 have z := ZtB m hin i (List.mem_range.mpr (by omega)) j (List.mem_range.mpr (by omega)) (by omega) (by omega)
 intro e
 apply z
 have e2 : ((i * j % m : Nat) : Int) = 0 := by rw [Int.natCast_emod, Int.natCast_mul]; exact e
 omega
theorem Zny {p : Int} {xs : List Int} : good p xs = true ↔ xs.sum % p = 0 /\ (wts 1 xs).sum % p = 0 := by simp [good]
theorem Zmp (p : Int) (hp : p ∈ PR) (a b : Int) (h1 : a ≠ 0) (h2 : -p < a) (h3 : a < p) (h4 : b ≠ 0) (h5 : -p < b) (h6 : b < p) : a * b % p ≠ 0 := fun e => by
 have d := Int.dvd_of_emod_eq_zero e
 rcases Int.lt_or_gt_of_ne h1 with u | u <;> rcases Int.lt_or_gt_of_ne h4 with v | v
 . have := Zh8 p hp (-a) (-b) (by omega) (by omega) (by omega) (by omega)
   rw [Int.neg_mul_neg] at this
   exact this e
 . have := Zh8 p hp (-a) b (by omega) (by omega) (by omega) (by omega)
   rw [Int.neg_mul] at this
   exact this (Int.emod_eq_zero_of_dvd (Int.dvd_neg.mpr d))
 . have := Zh8 p hp a (-b) (by omega) (by omega) (by omega) (by omega)
   rw [Int.mul_neg] at this
   exact this (Int.emod_eq_zero_of_dvd (Int.dvd_neg.mpr d))
 . exact Zh8 p hp a b (by omega) (by omega) (by omega) (by omega) e
theorem ZtC (xs ys : List Int) : ZaX .NotEq (.nd .lst (dI xs)) (.nd .lst (dI ys)) = some (!decide (xs = ys)) := by
 have h2 : eqW (.nd .lst (dI xs)) (.nd .lst (dI ys)) = some (decide (xs = ys)) := ZnR xs ys
 show (eqW (.nd .lst (dI xs)) (.nd .lst (dI ys))).map (!·) = _
 rw [h2]
 rfl
noncomputable def excR (x : D) : Rs (Unit × List D) -> Rs (D × List D)
 | .ok (_, δ') => .exc x δ'
 | _ => .stuck
theorem ZfG {ps : List Op} {x : D} {ds' δ : List D} : cxR ps δ (.exc x ds') = excR x (ZW ps ds' δ) := by
 show (match ZW ps ds' δ with | .ok (_, δ') => Rs.exc x δ' | _ => .stuck) = _
 unfold excR
 cases ZW ps ds' δ <;> rfl
theorem ZdT (x : D) (u : Unit) (δ : List D) : excR x (.ok (u, δ)) = .exc x δ := (rfl)
theorem Zrn {lk : Nat -> Bool} {body suite : M Fl} {c : Str} {nm : Option Nat} {δ : List D} {r : Fl × List D} (h : body δ = .ok r) : tryM lk body c nm suite δ = .ok r := by
 unfold tryM
 rw [h]
theorem Zih {lk : Nat -> Bool} {body suite : M Fl} {c : Str} {i : Nat} {δ δ' : List D} {x : D} (h : body δ = .exc x δ') (hh : hits c x = true) (hi : i < δ'.length) (hl : lk i = false) : tryM lk body c (some i) suite δ = Zli i (suite (δ'.set i x)) := by
 unfold tryM
 rw [h]
 dsimp only
 rw [if_pos hh, if_pos (by rw [hl, decide_eq_true hi]; rfl)]
theorem ZgX (i : Nat) (f : Fl) (δ : List D) : Zli i (.ok (f, δ)) = .ok (f, δ.set i .hole) := (rfl)
theorem ZgA (i : Nat) (δ : List D) (v : Int) (zs : List Int) (r : Int) (h0 : 0 <= r) (h1 : r < zs.length) : mdR i δ (Zch (.sc (.int r)) (.sc (.int v))) (some (.node .lst true (dI zs))) = .ok (.sc .non, δ.set i (.node .lst true (dI (zs.set r.toNat v)))) := by
 rw [Zft i δ _ (dI zs) r r.toNat (by
  have := ZeI (dI zs).length r.toNat (by rw [Zbx]; omega)
  rwa [Int.toNat_of_nonneg h0] at this)]
 congr 4
 exact List.map_set.symm
theorem ZjM (h4 : lk 4 = false) (h5 : lk 5 = false) (h6 : lk 6 = false) (p ex wt : Int) (hp : 0 < p) (hp2 : p < 2 ^ 64) (hex : 0 <= ex /\ ex < p) (xs : List Int) (hl : xs.length <= 1000) (r : Nat) (hr : r < xs.length) (hkey : (((r : Int) + 1) * ex) % p = wt) (hun : ∀ i : Nat, i < r -> ((((i : Int) + 1) * ex) % p ≠ wt)) : ∀ (n i : Nat) (a b c : D), i <= r -> n = xs.length - i -> ∃ a' b' c',
 forL (asgT lk (.tup [4, 5])) (exs ⟨lk, fok, fuel⟩ [.iff (.cmp .Eq (.bin .Mod (.bin .Mult (.bin .Add (.v 4) (.k (.int 1))) (.v 2)) (.v 0)) (.v 3)) [.asg 6 (.bf .list [.v 1]), .sub 6 [] (.v 4) (.bin .Mod (.bin .Sub (.v 5) (.v 2)) (.v 0)), .ret (.v 6)] []]) (Zah i (dI (xs.drop i))) [I p, Ls false xs, I ex, I wt, a, b, c]
  = .ok (.rt (Ls true (xs.set r ((xs.getD r 0 - ex) % p))), [I p, Ls false xs, I ex, I wt, a', b', c']) := by
 intro n
 induction n with
 | zero => intro i a b c hi hn; omega
 | succ n ih =>
  intro i a b c hi hn
  (have hlt : i < xs.length := by omega)
  rw [List.drop_eq_getElem_cons hlt, ZaC, Zah, Ze6]
  have hm : ∀ u : Int, binW .Mult (.sc (.int u)) (.sc (.int ex)) = some (.sc (.int (u * ex))) := fun u => Ze7 _ _ (.inr (by omega))
  by_cases hk : ((((i : Int) + 1) * ex) % p = wt)
  . have hir : i = r := by
     rcases Nat.lt_or_ge i r with h | h
     . exact absurd hk (hun i h)
     . omega
    subst hir
    have hix : ixN' (dI xs).length (i : Int) = some i := ZeI _ _ (by rw [Zbx]; exact hlt)
    have hs : ∀ (δ : List D) (d : D), mdR 6 δ (Zch (.sc (.int (i : Int))) d) (some (.node .lst true (dI xs))) = .ok (.sc .non, δ.set 6 (.node .lst true ((dI xs).set i d))) := fun δ d => Zft 6 δ d _ _ _ hix
    have hset : ∀ v : Int, (dI xs).set i (.sc (.int v)) = dI (xs.set i v) := fun v => by exact List.map_set.symm
    have hg : xs.getD i 0 = xs[i] := by rw [List.getD_eq_getElem?_getD, List.getElem?_eq_getElem hlt]; rfl
    rw [hg]
    refine ⟨I i, I xs[i], .hole, ?_⟩
    simp_all [h4, h5, h6, Zcp, hm, Za4 _ _ hp, hk, hs, hset, Zw]
  . have hne : i ≠ r := fun h => hk (by rw [h]; exact hkey)
    obtain ⟨a', b', c', ih⟩ := ih (i + 1) (I i) (I xs[i]) c (by omega) (by omega)
    refine ⟨a', b', c', ?_⟩
    have e1 : ((i + 1 : Nat) : Int) = (i : Int) + 1 := by omega
    rw [e1] at ih
    rw [<- ih]
    simp_all [h4, h5, h6, Zcp, hm, Za4 _ _ hp, hk, V.int.injEq]
theorem Zkm (p : Int) (xs : List Int) (hp : 0 < p) (hp2 : p < 2 ^ 64) (hl : xs.length <= 1000) (r : Nat) (hr : r < xs.length) (hkey : (((r : Int) + 1) * (xs.sum % p)) % p = (wts 1 xs).sum % p) (hun : ∀ i : Nat, i < r -> ((((i : Int) + 1) * (xs.sum % p)) % p ≠ (wts 1 xs).sum % p)) :
 ZP.run [I p, Ls false xs] = .ok (Ls true (xs.set r ((xs.getD r 0 - xs.sum % p) % p)), [I p, Ls false xs]) := by
 show Zg C0 2 7 Zaa [I p, Ls false xs] = _
 rw [runA (show [I p, Ls false xs].length = 2 from rfl)]
 unfold Zaa
 simp only [List.replicate, Nat.reduceSub]
 have l1 : ZH.lend = true := rfl
 have l2 : ZV.lend = true := rfl
 have r1 := fun o => Zcy p xs o hp
 have r2 := fun o => Zed p xs o hp hl
 obtain ⟨a', b', c', hs⟩ := ZjM (fun j => decide (j < 2) || walked [.v 1, .k (.int 0)] j) (fun _ _ => false) 0 rfl rfl rfl p (xs.sum % p) ((wts 1 xs).sum % p) hp hp2 ⟨Int.emod_nonneg _ (by omega), Int.emod_lt_of_pos _ hp⟩ xs hl r hr hkey hun xs.length 0 .hole .hole .hole (by omega) (by omega)
 rw [List.drop_zero] at hs
 simp only [walked, Bool.or_false] at hs
 have e0 : ((0 : Nat) : Int) = 0 := rfl
 rw [e0] at hs
 simp_all [l1, l2, r1, r2, Zw, it_e _ 0 (by decide), hs]
 rfl
theorem Zii (h4 : lk 4 = false) (h5 : lk 5 = false) (p ex wt : Int) (hp : 0 < p) (hp2 : p < 2 ^ 64) (hex : 0 <= ex /\ ex < p) (X : D) : ∀ (xs : List Int) (i : Nat) (a b c : D), (∀ j : Nat, i <= j -> j < i + xs.length -> ((((j : Int) + 1) * ex) % p ≠ wt)) -> ∃ a' b',
 forL (asgT lk (.tup [4, 5])) (exs ⟨lk, fok, fuel⟩ [.iff (.cmp .Eq (.bin .Mod (.bin .Mult (.bin .Add (.v 4) (.k (.int 1))) (.v 2)) (.v 0)) (.v 3)) [.asg 6 (.bf .list [.v 1]), .sub 6 [] (.v 4) (.bin .Mod (.bin .Sub (.v 5) (.v 2)) (.v 0)), .ret (.v 6)] []]) (Zah i (dI xs)) [I p, X, I ex, I wt, a, b, c]
  = .ok (.nx, [I p, X, I ex, I wt, a', b', c]) := by
 intro xs
 induction xs with
 | nil => exact fun i a b c _ => ⟨a, b, rfl⟩
 | cons x xs ih =>
  intro i a b c hn
  have hm : ∀ u : Int, binW .Mult (.sc (.int u)) (.sc (.int ex)) = some (.sc (.int (u * ex))) := fun u => Ze7 _ _ (.inr (by omega))
  have hk := hn i (Nat.le_refl _) (by rw [List.length_cons]; omega)
  obtain ⟨a', b', ih⟩ := ih (i + 1) (I i) (I x) c fun j h1 h2 => hn j (by omega) (by rw [List.length_cons]; omega)
  refine ⟨a', b', ?_⟩
  have e1 : ((i + 1 : Nat) : Int) = (i : Int) + 1 := by omega
  rw [e1] at ih
  rw [<- ih, ZaC, Zah, Ze6]
  simp_all [h4, h5, Zcp, hm, Za4 _ _ hp, hk, V.int.injEq]
noncomputable abbrev SP : D := .node (.exc ["Spoilt", "LabelError"] false []) true []
theorem ZfP (p : Int) (xs : List Int) (hp : 0 < p) (hp2 : p < 2 ^ 64) (hl : xs.length <= 1000) (hun : ∀ i : Nat, i < xs.length -> ((((i : Int) + 1) * (xs.sum % p)) % p ≠ (wts 1 xs).sum % p)) :
 ZP.run [I p, Ls false xs] = .exc SP [I p, Ls false xs] := by
 show Zg C0 2 7 Zaa [I p, Ls false xs] = _
 rw [runA (show [I p, Ls false xs].length = 2 from rfl)]
 unfold Zaa
 simp only [List.replicate, Nat.reduceSub]
 have l1 : ZH.lend = true := rfl
 have l2 : ZV.lend = true := rfl
 have r1 := fun o => Zcy p xs o hp
 have r2 := fun o => Zed p xs o hp hl
 obtain ⟨a', b', hs⟩ := Zii (fun j => decide (j < 2) || walked [.v 1, .k (.int 0)] j) (fun _ _ => false) 0 rfl rfl p (xs.sum % p) ((wts 1 xs).sum % p) hp hp2 ⟨Int.emod_nonneg _ (by omega), Int.emod_lt_of_pos _ hp⟩ (Ls false xs) xs 0 .hole .hole .hole fun j _ h => hun j (by omega)
 simp only [walked, Bool.or_false] at hs
 have e0 : ((0 : Nat) : Int) = 0 := rfl
 rw [e0] at hs
 simp_all [l1, l2, r1, r2, Zw, it_e _ 0 (by decide), hs]
 rfl
noncomputable def oD : Option Int -> D
 | some x => .sc (.int x)
 | none => .sc .non
noncomputable abbrev dO (os : List (Option Int)) : List D := os.map oD
noncomputable abbrev Lo (o : Bool) (os : List (Option Int)) : D := .node .lst o (dO os)
theorem Zf1 (o : Option Int) (os : List (Option Int)) : dO (o :: os) = oD o :: dO os := (rfl)
theorem Zmq (os : List (Option Int)) : (dO os).length = os.length := List.length_map _
theorem oD_n : oD none = .sc .non := (rfl)
theorem oD_s (x : Int) : oD (some x) = .sc (.int x) := (rfl)
theorem ZaW (os : List (Option Int)) : shrL (dO os) = dO os := by
 induction os with
 | nil => rfl
 | cons o os ih => simp only [List.map_cons, shrL] at ih ⊢; rw [ih]; cases o <;> rfl
theorem Zro (os : List (Option Int)) (r : Nat) : (dO os).set r (.sc .non) = dO (os.set r none) := by
 show _ = List.map oD _
 rw [List.map_set]
 rfl
theorem Zpj (xs : List Int) : dI xs = dO (xs.map some) := by
 induction xs with
 | nil => rfl
 | cons x xs ih => rw [ZaC, ih]; rfl
theorem Zpk (o : Bool) (xs : List Int) : Lo o (xs.map some) = Ls o xs := by
 unfold Lo Ls
 rw [Zpj]
noncomputable def fill (os : List (Option Int)) : List Int := os.map fun o => o.getD 0
noncomputable def holes : Int -> List (Option Int) -> List Int
 | _, [] => []
 | c, some _ :: os => holes (c + 1) os
 | c, none :: os => c :: holes (c + 1) os
theorem Zi6 (h0 : lk 0 = false) : ∀ (os : List (Option Int)) (acc : List Int) (a : D), ∃ a',
 ZaR (asgT lk (.name 0)) (tsts ⟨lk, fok, fuel⟩ []) (evb ⟨lk, fok, fuel⟩ (.ife (.isN true (.v 0)) (.k (.int 0)) (.v 0))).1 (dO os) (dI acc) [a] = .ok (dI (acc ++ fill os), [a']) := by
 intro os
 induction os with
 | nil => exact fun acc a => ⟨a, by rw [show fill [] = [] from rfl, List.append_nil]; rfl⟩
 | cons o os ih =>
  intro acc a
  cases o with
  | none =>
   obtain ⟨a', ih⟩ := ih (acc ++ [0]) (.sc .non)
   refine ⟨a', ?_⟩
   have e : acc ++ fill (none :: os) = acc ++ [0] ++ fill os := by rw [List.append_assoc]; rfl
   rw [e, <- ih, Zf1, ZcE, Zdr, oD_n]
   simp_all [h0, ZfF]
  | some x =>
   obtain ⟨a', ih⟩ := ih (acc ++ [x]) (I x)
   refine ⟨a', ?_⟩
   have e : acc ++ fill (some x :: os) = acc ++ [x] ++ fill os := by rw [List.append_assoc]; rfl
   rw [e, <- ih, Zf1, ZcE, Zdr, oD_s]
   simp_all [h0, ZnT]
theorem Zmr (h0 : lk 0 = false) (h1 : lk 1 = false) : ∀ (os : List (Option Int)) (c : Int) (acc : List Int) (a b : D), ∃ a' b',
 ZaR (asgT lk (.tup [0, 1])) (tsts ⟨lk, fok, fuel⟩ [.isN true (.v 1)]) (evb ⟨lk, fok, fuel⟩ (.v 0)).1 (Zah c (dO os)) (dI acc) [a, b] = .ok (dI (acc ++ holes c os), [a', b']) := by
 intro os
 induction os with
 | nil => exact fun c acc a b => ⟨a, b, by rw [show holes c [] = [] from rfl, List.append_nil]; rfl⟩
 | cons o os ih =>
  intro c acc a b
  cases o with
  | none =>
   obtain ⟨a', b', ih⟩ := ih (c + 1) (acc ++ [c]) (I c) (.sc .non)
   refine ⟨a', b', ?_⟩
   have e : acc ++ holes c (none :: os) = acc ++ [c] ++ holes (c + 1) os := by rw [List.append_assoc]; rfl
   rw [e, <- ih, Zf1, Zah, ZcE, Zdr, oD_n]
   simp_all [h0, h1, Zcp, ZfF]
  | some x =>
   obtain ⟨a', b', ih⟩ := ih (c + 1) acc (I c) (I x)
   refine ⟨a', b', ?_⟩
   rw [show holes c (some x :: os) = holes (c + 1) os from rfl, <- ih, Zf1, Zah, ZcE, oD_s]
   simp_all [h0, h1, Zcp, ZnT]
theorem Zgv : ∀ (os : List (Option Int)) (c : Int), (holes c os).length <= os.length
 | [], c => Nat.le_refl _
 | some _ :: os, c => by have := Zgv os (c + 1); rw [holes, List.length_cons]; omega
 | none :: os, c => by have := Zgv os (c + 1); rw [holes, List.length_cons, List.length_cons]; omega
theorem ZdU : ∀ (os : List (Option Int)) (c x : Int), x ∈ holes c os -> c <= x /\ x < c + os.length /\ os.getD (x - c).toNat none = none
 | [], c, x, h => by simp [holes] at h
 | some y :: os, c, x, h => by
  obtain ⟨h1, h2, h3⟩ := ZdU os (c + 1) x h
  refine ⟨by omega, by rw [List.length_cons]; omega, ?_⟩
  have : (x - c).toNat = (x - (c + 1)).toNat + 1 := by omega
  rw [this]
  exact h3
 | none :: os, c, x, h => by
  rw [holes] at h
  (rcases List.mem_cons.mp h with rfl | h)
  . refine ⟨by omega, by rw [List.length_cons]; omega, ?_⟩
    have : (x - x).toNat = 0 := by omega
    rw [this]
    rfl
  . obtain ⟨h1, h2, h3⟩ := ZdU os (c + 1) x h
    refine ⟨by omega, by rw [List.length_cons]; omega, ?_⟩
    have : (x - c).toNat = (x - (c + 1)).toNat + 1 := by omega
    rw [this]
    exact h3
theorem ZgY : ∀ (os : List (Option Int)) (c : Int), (holes c os).Pairwise (· < ·)
 | [], c => List.Pairwise.nil
 | some _ :: os, c => ZgY os (c + 1)
 | none :: os, c => by
  rw [holes]
  refine List.Pairwise.cons (fun x hx => ?_) (ZgY os (c + 1))
  have := (ZdU os (c + 1) x hx).1
  omega
theorem ZgZ (os : List (Option Int)) : (fill os).length = os.length := List.length_map _
theorem ZjN (os : List (Option Int)) (k : Nat) : (fill os).getD k 0 = (os.getD k none).getD 0 := by
 rw [List.getD_eq_getElem?_getD, List.getD_eq_getElem?_getD]
 unfold fill
 rw [List.getElem?_map]
 cases os[k]? <;> rfl
theorem Zms (h0 : lk 0 = false) (p q t : Int) (hp : 0 < p) (ht : -(2 ^ 64) < t /\ t < 2 ^ 64) : ∀ (ss acc : List Int) (a : D), ∃ a',
 ZaR (asgT lk (.name 0)) (tsts ⟨lk, fok, fuel⟩ [.cmp .Eq (.bin .Mod (.bin .Mult (.v 0) (.v 3)) (.v 2)) (.v 1)]) (evb ⟨lk, fok, fuel⟩ (.v 0)).1 (dI ss) (dI acc) [a, I q, I p, I t] = .ok (dI (acc ++ ss.filter fun s => decide (s * t % p = q)), [a', I q, I p, I t]) := by
 intro ss
 induction ss with
 | nil => exact fun acc a => ⟨a, by rw [List.filter_nil, List.append_nil]; rfl⟩
 | cons s ss ih =>
  intro acc a
  have hm : binW .Mult (.sc (.int s)) (.sc (.int t)) = some (.sc (.int (s * t))) := Ze7 _ _ (.inr ht)
  rw [ZaC, ZcE]
  by_cases h : s * t % p = q
  . obtain ⟨a', ih⟩ := ih (acc ++ [s]) (I s)
    refine ⟨a', ?_⟩
    have e : acc ++ (s :: ss).filter (fun s => decide (s * t % p = q)) = acc ++ [s] ++ ss.filter (fun s => decide (s * t % p = q)) := by
     rw [List.filter_cons_of_pos (by simpa using h)]
     simp
    rw [e, <- ih, Zdr]
    simp_all [h0, hm, Za4 _ _ hp, h, V.int.injEq]
  . obtain ⟨a', ih⟩ := ih acc (I s)
    refine ⟨a', ?_⟩
    rw [List.filter_cons_of_neg (by simpa using h), <- ih]
    simp_all [h0, hm, Za4 _ _ hp, h, V.int.injEq]
theorem Znz (p q t v : Int) (hp : 0 < p) (hp2 : p <= 1000) (ht : -(2 ^ 64) < t /\ t < 2 ^ 64) (h0 : 0 <= v) (h1 : v < p) (hv : v * t % p = q) (hun : ∀ s, 0 <= s -> s < p -> s * t % p = q -> s = v) : Zdz.run [I p, I q, I t] = .ok (I v, [I p, I q, I t]) := by
 show Zg C0 3 3 ZcF [I p, I q, I t] = _
 rw [runA (show [I p, I q, I t].length = 3 from rfl)]
 unfold ZcF
 simp only [List.replicate, Nat.reduceSub]
 obtain ⟨a', hc⟩ := Zms (fun i => decide (1 <= i)) (fun _ _ => false) 0 rfl p q t hp ht (rngI 0 p.toNat) [] .hole
 rw [List.nil_append] at hc
 have hall : ∀ s ∈ (rngI 0 p.toNat).filter (fun s => decide (s * t % p = q)), s = v := fun s hs => by
  rw [List.mem_filter, Zjw] at hs
  obtain ⟨⟨b1, b2⟩, b3⟩ := hs
  exact hun s b1 (by omega) (of_decide_eq_true b3)
 have hin : v ∈ (rngI 0 p.toNat).filter (fun s => decide (s * t % p = q)) := by
  rw [List.mem_filter, Zjw, decide_eq_true_eq]
  exact ⟨⟨h0, by omega⟩, hv⟩
 have hlen : ((rngI 0 p.toNat).filter (fun s => decide (s * t % p = q))).length <= p.toNat := by
  have := List.length_filter_le (fun s => decide (s * t % p = q)) (rngI 0 p.toNat)
  rwa [Znj] at this
 generalize (rngI 0 p.toNat).filter (fun s => decide (s * t % p = q)) = L at hc hall hin hlen
 cases L with
 | nil => simp at hin
 | cons s L =>
  obtain rfl := hall s List.mem_cons_self
  replace hc : ZbE (fun _ _ => false) 0 1 (.name 0) [.cmp .Eq (.bin .Mod (.bin .Mult (.v 0) (.v 3)) (.v 2)) (.v 1)] (.v 0) (dI (rngI 0 p.toNat)) [] [.hole, I q, I p, I t] = _ := hc
  have hm : ZbD 1 [1, 0, 2] (ZbE (fun _ _ => false) 0 1 (.name 0) [.cmp .Eq (.bin .Mod (.bin .Mult (.v 0) (.v 3)) (.v 2)) (.v 1)] (.v 0) (dI (rngI 0 p.toNat)) []) [I p, I q, I t] = .ok (Ls true (s :: L), [I p, I q, I t]) := by
   rw [ZbP (js := [1, 0, 2]) (caps := [I q, I p, I t]) (δ1 := [.hole, .hole, .hole]) rfl hc (by rw [Zbx, szl]; omega)]
   rfl
  have hr := ZiQ p (by omega)
  have hi := ixI (s :: L) 0 (by decide) (by rw [List.length_cons]; omega)
  have hg : (s :: L).getD (0 : Int).toNat 0 = s := rfl
  rw [hg] at hi
  generalize s :: L = M at hm hi
  simp_all [hr, hm, hi]
  rfl
theorem Zn0 (p : Int) (xs : List Int) (i j : Int) (v w : Int) (hp : 0 < p) (hp2 : p <= 1000) (hl : xs.length <= 1000) (hi : 0 <= i) (hij : i < j) (hj : j < xs.length) (h0 : 0 <= v) (h1 : v < p)
 (hv : v * (j - i) % p = ((i + 1) * (xs.sum % p) - (wts 1 xs).sum % p) % p) (hun : ∀ s, 0 <= s -> s < p -> s * (j - i) % p = v * (j - i) % p -> s = v) (hw : -((xs.set j.toNat v).sum % p) % p = w) :
 Zam.run [I p, Ls true xs, I i, I j] = .ok (Ls true ((xs.set j.toNat v).set i.toNat w), [I p, Ls true xs, I i, I j]) := by
 rw [show Zam.run = Zg C0 4 7 ZaO from rfl]
 rw [runA (show [I p, Ls true xs, I i, I j].length = 4 from rfl)]
 unfold ZaO
 simp only [List.replicate, Nat.reduceSub]
 have l1 : ZH.lend = true := rfl
 have l2 : ZV.lend = true := rfl
 have l3 : Zdz.lend = true := rfl
 have r1 := fun o => Zcy p xs o hp
 have r2 := fun o => Zed p xs o hp hl
 have r4 := fun o => Zcy p (xs.set j.toNat v) o hp
 have r3 := Znz p (v * (j - i) % p) (j - i) v hp hp2 (by omega) h0 h1 rfl hun
 have hm : ∀ u : Int, binW .Mult (.sc (.int (i + 1))) (.sc (.int u)) = some (.sc (.int ((i + 1) * u))) := fun u => Ze7 _ _ (.inl (by omega))
 have s1 : ∀ (δ : List D) (u : Int), mdR 6 δ (Zch (.sc (.int j)) (.sc (.int u))) (some (.node .lst true (dI xs))) = .ok (.sc .non, δ.set 6 (.node .lst true (dI (xs.set j.toNat u)))) := fun δ u => ZgA 6 δ u xs j (by omega) hj
 have s2 : ∀ (δ : List D) (u u' : Int), mdR 6 δ (Zch (.sc (.int i)) (.sc (.int u))) (some (.node .lst true (dI (xs.set j.toNat u')))) = .ok (.sc .non, δ.set 6 (.node .lst true (dI ((xs.set j.toNat u').set i.toNat u)))) := fun δ u u' => ZgA 6 δ u _ i hi (by rw [List.length_set]; omega)
 rw [hv] at r3
 (simp_all [Zw, l1, l2, l3, r1, r2, r3, r4, hm, Za4 _ _ hp, hw, s1, s2]) <;> rfl
theorem ZtD : ∀ p ∈ [5, 7, 11, 13, 17, 19, 23, 29, 31, 37, 41, 43, 47], ∀ a ∈ List.range p, a ≠ 0 -> ∃ b ∈ List.range p, a * b % p = 1 := by walk_at "d"
theorem Zrp (p : Int) (hp : p ∈ PR) (a : Int) (h1 : 0 < a) (h2 : a < p) : ∃ b, 0 <= b /\ b < p /\ a * b % p = 1 := by
 obtain ⟨m, hm⟩ : ∃ m : Nat, p = m := ⟨p.toNat, by omega⟩
 obtain ⟨i, hi⟩ : ∃ i : Nat, a = i := ⟨a.toNat, by omega⟩
 subst hm hi
 have hin : m ∈ [5, 7, 11, 13, 17, 19, 23, 29, 31, 37, 41, 43, 47] := by
  simp only [PR, List.mem_cons, List.not_mem_nil, or_false] at hp ⊢
  omega
 obtain ⟨b, hb, e⟩ := ZtD m hin i (List.mem_range.mpr (by omega)) (by omega)
 refine ⟨b, by omega, by have := List.mem_range.mp hb; omega, ?_⟩
 have : ((i * b % m : Nat) : Int) = ((1 : Nat) : Int) := by rw [e]
 rw [Int.natCast_emod, Int.natCast_mul] at this
 exact this
theorem Zrq (p : Int) (hp : p ∈ PR) (hp1 : 5 <= p) (q t : Int) (h1 : 0 < t) (h2 : t < p) : ∃ v, 0 <= v /\ v < p /\ v * t % p = q % p := by
 obtain ⟨b, _, _, e⟩ := Zrp p hp t h1 h2
 refine ⟨q * b % p, Int.emod_nonneg _ (by omega), Int.emod_lt_of_pos _ (by omega), ?_⟩
 rw [Int.mul_emod, Int.emod_emod, <- Int.mul_emod, Int.mul_assoc, Int.mul_comm b t, Int.mul_emod, e, Int.mul_one, Int.emod_emod]
theorem Zij (p : Int) (hp : p ∈ PR) (s v t : Int) (h1 : 0 < t) (h2 : t < p) (s0 : 0 <= s) (s1 : s < p) (v0 : 0 <= v) (v1 : v < p) (e : p ∣ (s - v) * t) : s = v := by
 rcases Int.lt_trichotomy s v with h | h | h
 . exact absurd (Int.emod_eq_zero_of_dvd e) (Zmp p hp (s - v) t (by omega) (by omega) (by omega) (by omega) (by omega) (by omega))
 . exact h
 . exact absurd (Int.emod_eq_zero_of_dvd e) (Zmp p hp (s - v) t (by omega) (by omega) (by omega) (by omega) (by omega) (by omega))
theorem Zpl (p : Int) (hp : p ∈ PR) (hp1 : 5 <= p) (S W i j : Int) (hi : 0 <= i) (hij : i < j) (hj : j < p) : ∃ v w, 0 <= v /\ v < p /\ 0 <= w /\ w < p /\ v * (j - i) % p = ((i + 1) * (S % p) - W % p) % p /\ w = -((S + v) % p) % p /\
 ∀ a b, 0 <= a -> a < p -> 0 <= b -> b < p -> (((S + a + b) % p = 0 /\ (W + a * (i + 1) + b * (j + 1)) % p = 0) ↔ (a = w /\ b = v)) := by
 obtain ⟨v, v0, v1, hv⟩ := Zrq p hp hp1 ((i + 1) * S - W) (j - i) (by omega) (by omega)
 have q : ((i + 1) * (S % p) - W % p) % p = ((i + 1) * S - W) % p := by
  rw [Int.sub_emod, Int.mul_emod, Int.emod_emod, Int.emod_emod, <- Int.mul_emod, <- Int.sub_emod]
 have hw : (-((S + v) % p)) % p = (-(S + v)) % p := by
  rw [<- Int.zero_sub, Int.sub_emod, Int.emod_emod, <- Int.sub_emod, Int.zero_sub]
 have d0 : p ∣ v * (j - i) - ((i + 1) * S - W) := Int.dvd_of_emod_eq_zero (Int.emod_eq_emod_iff_emod_sub_eq_zero.mp hv)
 refine ⟨v, -((S + v) % p) % p, v0, v1, Int.emod_nonneg _ (by omega), Int.emod_lt_of_pos _ (by omega), hv.trans q.symm, rfl, fun a b a0 a1 b0 b1 => ?_⟩
 rw [hw]
 have w0 := Int.emod_nonneg (-(S + v)) (show p ≠ 0 by omega)
 have w1 := Int.emod_lt_of_pos (-(S + v)) (show 0 < p by omega)
 have dw : p ∣ (-(S + v)) % p + (S + v) := by
  have := Int.dvd_sub_self_of_emod_eq (rfl : (-(S + v)) % p = (-(S + v)) % p)
  have e : (-(S + v)) % p + (S + v) = (-(S + v)) % p - -(S + v) := by omega
  rw [e]
  exact this
 generalize (-(S + v)) % p = w at w0 w1 dw
 constructor
 . rintro ⟨e1, e2⟩
   have d1 := Int.dvd_of_emod_eq_zero e1
   have d2 := Int.dvd_of_emod_eq_zero e2
   have hb : b = v := by
    refine Zij p hp b v (j - i) (by omega) (by omega) b0 b1 v0 v1 ?_
    have e : (b - v) * (j - i) = ((W + a * (i + 1) + b * (j + 1)) - (i + 1) * (S + a + b)) - (v * (j - i) - ((i + 1) * S - W)) := by
     have x1 : (i + 1) * (S + a + b) = (i + 1) * S + (i + 1) * a + (i + 1) * b := by rw [Int.mul_add, Int.mul_add]
     have x2 : a * (i + 1) = (i + 1) * a := Int.mul_comm _ _
     have x3 : b * (j - i) = b * (j + 1) - (i + 1) * b := by rw [Int.mul_comm (i + 1) b, <- Int.mul_sub]; congr 1; omega
     rw [Int.sub_mul, x1, x2, x3]
     omega
    rw [e]
    exact Int.dvd_sub (Int.dvd_sub d2 (Int.dvd_mul_of_dvd_right d1)) d0
   subst hb
   refine ⟨?_, rfl⟩
   have d3 : p ∣ (a - w) * 1 := by
    have e : (a - w) * 1 = (S + a + b) - (w + (S + b)) := by omega
    rw [e]
    exact Int.dvd_sub d1 dw
   exact Zij p hp a w 1 (by decide) (by omega) a0 a1 w0 w1 d3
 . rintro ⟨rfl, rfl⟩
   refine ⟨Int.emod_eq_zero_of_dvd ?_, Int.emod_eq_zero_of_dvd ?_⟩
   . have e : S + a + b = a + (S + b) := by omega
     rw [e]
     exact dw
   . have e : W + a * (i + 1) + b * (j + 1) = (a + (S + b)) * (i + 1) + (b * (j - i) - ((i + 1) * S - W)) := by
      have x1 : (a + (S + b)) * (i + 1) = a * (i + 1) + (i + 1) * S + b * (i + 1) := by rw [Int.add_mul, Int.add_mul, Int.mul_comm S]; omega
      have x3 : b * (j - i) = b * (j + 1) - b * (i + 1) := by rw [<- Int.mul_sub]; congr 1; omega
      rw [x1, x3]
      omega
     rw [e]
     exact Int.dvd_add (Int.dvd_mul_of_dvd_left dw) d0
theorem Zpm (p S : Int) (hp : 0 < p) (a : Int) (a0 : 0 <= a) (a1 : a < p) : (S % p + a + 0) % p = 0 ↔ a = -(S % p) % p := by
 have h0 := Int.emod_nonneg S (show p ≠ 0 by omega)
 have h1 := Int.emod_lt_of_pos S hp
 generalize S % p = s at h0 h1
 rw [Int.add_zero]
 by_cases e : s = 0
 . subst e
   rw [Int.neg_zero, Int.zero_emod, Int.zero_add, Int.emod_eq_of_lt a0 a1]
 . have e2 : -s % p = p - s := by
    rw [<- Int.add_emod_right]
    rw [Int.emod_eq_of_lt (by omega) (by omega)]
    omega
   rw [e2]
   constructor
   . intro h
     by_cases q : s + a < p
     . rw [Int.emod_eq_of_lt (by omega) q] at h; omega
     . have : (s + a) % p = s + a - p := by rw [<- Int.sub_emod_right, Int.emod_eq_of_lt (by omega) (by omega)]
       omega
   . rintro rfl
     have : s + (p - s) = p := by omega
     rw [this, Int.emod_self]
theorem Zi7 (q : Nat -> Prop) [DecidablePred q] : ∀ n, (∃ r, r < n /\ q r /\ ∀ i, i < r -> ¬ q i) \/ ∀ i, i < n -> ¬ q i
 | 0 => .inr fun i h => by omega
 | n + 1 => by
  rcases Zi7 q n with ⟨r, h1, h2, h3⟩ | h
  . exact .inl ⟨r, by omega, h2, h3⟩
  . by_cases e : q n
    . exact .inl ⟨n, by omega, e, h⟩
    . refine .inr fun i hi => ?_
      by_cases x : i = n
      . rw [x]; exact e
      . exact h i (by omega)
theorem Zcz (p : Int) (os : List (Option Int)) (R : Rs (D × List D)) (hp : 0 < p) (hp2 : p < 1000) (h1 : 2 <= os.length) (h2 : (os.length : Int) <= p) (hx : ∀ x ∈ fill os, 0 <= x /\ x < p)
 (hend : (2 < (holes 0 os).length /\ R = .exc SP [I p, Lo true os]) \/
  (∃ i j ys, holes 0 os = [i, j] /\ Zam.run [I p, Ls true (fill os), I i, I j] = .ok (Ls true ys, [I p, Ls true (fill os), I i, I j]) /\ R = .ok (Ls true ys, [I p, Lo true os])) \/
  (∃ i, holes 0 os = [i] /\ 0 <= i /\ i < os.length /\ good p ((fill os).set i.toNat (-((fill os).sum % p) % p)) = true /\ R = .ok (Ls true ((fill os).set i.toNat (-((fill os).sum % p) % p)), [I p, Lo true os])) \/
  (holes 0 os = [] /\ good p (fill os) = true /\ R = .ok (Ls true (fill os), [I p, Lo true os])) \/
  (∃ i, holes 0 os = [i] /\ 0 <= i /\ i < os.length /\ good p ((fill os).set i.toNat (-((fill os).sum % p) % p)) = false /\ ZP.run [I p, Ls false ((fill os).set i.toNat (-((fill os).sum % p) % p))] = .exc SP [I p, Ls false ((fill os).set i.toNat (-((fill os).sum % p) % p))] /\ R = .exc SP [I p, Lo true os]) \/
  (holes 0 os = [] /\ good p (fill os) = false /\ ZP.run [I p, Ls false (fill os)] = .exc SP [I p, Ls false (fill os)] /\ R = .exc SP [I p, Lo true os]) \/
  (∃ ys, holes 0 os = [] /\ good p (fill os) = false /\ ZP.run [I p, Ls false (fill os)] = .ok (Ls true ys, [I p, Ls false (fill os)]) /\ R = .ok (Ls true ys, [I p, Lo true os]))) :
 Zad.run [I p, Lo true os] = R := by
 have hfl := ZgZ os
 have hl : (fill os).length <= 1000 := by omega
 rw [show Zad.run = Zg C0 2 4 Zb3 from rfl]
 rw [runA (show [I p, Lo true os].length = 2 from rfl)]
 unfold Zb3
 simp only [List.replicate, Nat.reduceSub]
 obtain ⟨a1, hc1⟩ := Zi6 (fun i => decide (1 <= i)) (fun _ _ => false) 0 rfl os [] .hole
 obtain ⟨a2, b2, hc2⟩ := Zmr (fun i => decide (2 <= i)) (fun _ _ => false) 0 rfl rfl os 0 [] .hole .hole
 rw [List.nil_append] at hc1 hc2
 have hz : (dI (fill os)).length <= sizeLine := by rw [Zbx, szl]; omega
 have hz2 : (dI (holes 0 os)).length <= sizeLine := by have := Zgv os 0; rw [Zbx, szl]; omega
 replace hc1 : ZbE (fun _ _ => false) 0 1 (.name 0) [] (.ife (.isN true (.v 0)) (.k (.int 0)) (.v 0)) (dO os) [] [.hole] = _ := hc1
 replace hc2 : ZbE (fun _ _ => false) 0 2 (.tup [0, 1]) [.isN true (.v 1)] (.v 0) (Zah 0 (dO os)) [] [.hole, .hole] = _ := hc2
 have hm1 : ∀ δ : List D, ZbD 1 [] (ZbE (fun _ _ => false) 0 1 (.name 0) [] (.ife (.isN true (.v 0)) (.k (.int 0)) (.v 0)) (dO os) []) δ = .ok (Ls true (fill os), δ) := fun δ => by
  rw [ZbP (js := []) (caps := []) rfl hc1 hz, Zb6]
  rfl
 have hm2 : ∀ δ : List D, ZbD 2 [] (ZbE (fun _ _ => false) 0 2 (.tup [0, 1]) [.isN true (.v 1)] (.v 0) (Zah 0 (dO os)) []) δ = .ok (Ls true (holes 0 os), δ) := fun δ => by
  rw [ZbP (js := []) (caps := []) rfl hc2 hz2, Zb6]
  rfl
 have l1 : ZC.lend = true := rfl
 have l2 : Zdb.lend = true := rfl
 have l3 : Zam.lend = true := rfl
 have l4 : ZH.lend = true := rfl
 have r1 := fun o => Zi5 p (fill os) o hx
 have q1 : (2 : Int) <= ((dI (fill os)).length : Int) := by rw [Zbx]; omega
 have q2 : ((dI (fill os)).length : Int) <= p := by rw [Zbx]; omega
 have c2 : ((2 : Nat) : Int) = 2 := rfl
 have c1 : ((1 : Nat) : Int) = 1 := rfl
 have c0 : ((0 : Nat) : Int) = 0 := rfl
 have z1 : ¬ (2 : Int) < 2 := by decide
 have z2 : ¬ (2 : Int) < 1 := by decide
 have z3 : ¬ (1 : Int) = 2 := by decide
 have z4 : ¬ (2 : Int) < 0 := by decide
 have z5 : ¬ (0 : Int) = 2 := by decide
 have z6 : ¬ (0 : Int) = 1 := by decide
 have i20 : ixN' 2 0 = some 0 := rfl
 have i21 : ixN' 2 1 = some 1 := rfl
 have i10 : ixN' 1 0 = some 0 := rfl
 have l5 : ZP.lend = false := rfl
 rcases hend with ⟨hh, rfl⟩ | ⟨i, j, ys, hh, r3, rfl⟩ | ⟨i, hh, hi, hi2, hg, rfl⟩ | ⟨hh, hg, rfl⟩ | ⟨i, hh, hi, hi2, hg, r5, rfl⟩ | ⟨hh, hg, r5, rfl⟩ | ⟨ys, hh, hg, r5, rfl⟩
 . have z0 : (2 : Int) < ((dI (holes 0 os)).length : Int) := by rw [Zbx]; omega
   (simp_all [Zw, ZaW, hm1, hm2, it_e _ 0 (by decide), l1, r1, Zbh, q1, q2, z0, V.int.injEq, ZfG, ZdT]) <;> rfl
 . rw [hh] at hm2
   simp only [Ls, ZaC, Zek] at hm2
   (simp_all [Zw, ZaW, hm1, hm2, it_e _ 0 (by decide), l1, l3, r1, r3, Zbh, q1, q2, c2, z1, i20, i21, V.int.injEq]) <;> rfl
 . rw [hh] at hm2
   simp only [Ls, ZaC, Zek] at hm2
   have r4 := fun o => Zcy p (fill os) o hp
   have r2 := Zfa p ((fill os).set i.toNat (-((fill os).sum % p) % p)) true hp (by rw [List.length_set]; omega)
   have s1 : ∀ (δ : List D) (u : Int), mdR 2 δ (Zch (.sc (.int i)) (.sc (.int u))) (some (.node .lst true (dI (fill os)))) = .ok (.sc .non, δ.set 2 (.node .lst true (dI ((fill os).set i.toNat u)))) := fun δ u => ZgA 2 δ u (fill os) i hi (by rw [hfl]; exact hi2)
   (simp_all [Zw, ZaW, hm1, hm2, it_e _ 0 (by decide), l1, l2, l4, r1, r2, r4, hg, s1, Zbh, q1, q2, c1, z2, z3, i10, Za4 _ _ hp, V.int.injEq]) <;> rfl
 . rw [hh] at hm2
   simp only [Ls, Zek] at hm2
   have r2 := Zfa p (fill os) true hp hl
   (simp_all [Zw, ZaW, hm1, hm2, it_e _ 0 (by decide), l1, l2, r1, r2, hg, Zbh, q1, q2, c0, z4, z5, z6, V.int.injEq]) <;> rfl
 . rw [hh] at hm2
   simp only [Ls, ZaC, Zek] at hm2
   have r4 := fun o => Zcy p (fill os) o hp
   have r2 := Zfa p ((fill os).set i.toNat (-((fill os).sum % p) % p)) true hp (by rw [List.length_set]; omega)
   have s1 : ∀ (δ : List D) (u : Int), mdR 2 δ (Zch (.sc (.int i)) (.sc (.int u))) (some (.node .lst true (dI (fill os)))) = .ok (.sc .non, δ.set 2 (.node .lst true (dI ((fill os).set i.toNat u)))) := fun δ u => ZgA 2 δ u (fill os) i hi (by rw [hfl]; exact hi2)
   (simp_all [Zw, ZaW, hm1, hm2, it_e _ 0 (by decide), l1, l2, l4, l5, r1, r2, r4, r5, hg, s1, Zbh, q1, q2, c1, z2, z3, i10, Za4 _ _ hp, V.int.injEq, ZfG, ZdT]) <;> rfl
 . rw [hh] at hm2
   simp only [Ls, Zek] at hm2
   have r2 := Zfa p (fill os) true hp hl
   (simp_all [Zw, ZaW, hm1, hm2, it_e _ 0 (by decide), l1, l2, l5, r1, r2, r5, hg, Zbh, q1, q2, c0, z4, z5, z6, V.int.injEq, ZfG, ZdT]) <;> rfl
 . rw [hh] at hm2
   simp only [Ls, Zek] at hm2
   have r2 := Zfa p (fill os) true hp hl
   (simp_all [Zw, ZaW, hm1, hm2, it_e _ 0 (by decide), l1, l2, l5, r1, r2, r5, hg, Zbh, q1, q2, c0, z4, z5, z6, V.int.injEq]) <;> rfl
theorem Zrr (os : List (Option Int)) : ZdV (dO os) = some (os.map fun o => match o with | some x => V.int x | none => V.non) := by
 induction os with
 | nil => rfl
 | cons o os ih =>
  rw [Zf1]
  cases o with
  | none => show (if Zbt .non = true then (ZdV (dO os)).map (V.non :: ·) else none) = _; rw [ih]; rfl
  | some x => show (if Zbt (.int x) = true then (ZdV (dO os)).map (V.int x :: ·) else none) = _; rw [ih]; rfl
theorem Zik : ∀ (os : List (Option Int)) (c : Int), ((os.map fun o => match o with | some x => V.int x | none => V.non).countP fun u => eqV u .non) = (holes c os).length
 | [], c => rfl
 | none :: os, c => by
  rw [List.map_cons, List.countP_cons_of_pos (by rfl), Zik os (c + 1)]
  rfl
 | some x :: os, c => by
  rw [List.map_cons, List.countP_cons_of_neg (by simp [eqV]), Zik os (c + 1)]
  rfl
theorem Zrs (os : List (Option Int)) : bfW (.cnt .non) [.nd .lst (dO os)] = some (.sc (.int ((holes 0 os).length : Nat))) := by
 show (ZdV (dO os)).map (fun us => D.sc (.int ((us.countP fun u => eqV u .non : Nat) : Int))) = _
 rw [Zrr, Option.map_some, Zik os 0]
noncomputable abbrev SPs : D := .node (.exc ["Spoilt", "LabelError"] false []) false []
set_option maxRecDepth 100000 in
theorem Zmt : Zav.run [SPs] = .ok (.sc (.bl false), [SPs]) := by kernel_rfl
noncomputable abbrev NSx (n : Int) : D := .node (.exc ["NoSymbol", "LabelError"] false ["number"]) true [I n]
noncomputable abbrev TLx (n : Int) : D := .node (.exc ["TooLong", "LabelError"] false ["length"]) true [I n]
noncomputable abbrev NSs (n : Int) : D := .node (.exc ["NoSymbol", "LabelError"] false ["number"]) false [I n]
noncomputable abbrev TLs (n : Int) : D := .node (.exc ["TooLong", "LabelError"] false ["length"]) false [I n]
theorem Zrt : ∀ k : Nat, k < 64 -> (fmtW (Str.ofString "no symbol: number ") (.sc (.int (k : Int)))).isSome = true := by walk_at "d"
theorem Zru : ∀ k : Nat, k < 64 -> (fmtW (Str.ofString "a length that does not fit: ") (.sc (.int (k : Int)))).isSome = true := by walk_at "d"
theorem Zpn : fmtW Str.empty (.sc (.str (Str.ofString "no symbol: number "))) = some (Str.ofString "no symbol: number ") := by kernel_rfl
theorem Zpo : fmtW Str.empty (.sc (.str (Str.ofString "a length that does not fit: "))) = some (Str.ofString "a length that does not fit: ") := by kernel_rfl
theorem Zpp (n : Int) (h0 : 0 <= n) (h1 : n < 64) : Z8.run [.node (.exc ["NoSymbol", "LabelError"] true []) true [], I n] = .ok (.sc .non, [.node (.exc ["NoSymbol", "LabelError"] true ["number"]) true [I n], I n]) := by
 have hf := Zrt n.toNat (by omega)
 rw [Int.toNat_of_nonneg h0] at hf
 obtain ⟨z, hz⟩ := Option.isSome_iff_exists.mp hf
 rw [show Z8.run = Zg C0 2 2 Za5 from rfl]
 rw [runA (show [D.node (.exc ["NoSymbol", "LabelError"] true []) true [], I n].length = 2 from rfl)]
 unfold Za5
 simp only [List.replicate, Nat.reduceSub]
 have f0 := Zpn
 have hp : ∀ δ : List D, mdR 0 δ (putX (Str.ofString "number") (I n)) (some (.node (.exc ["NoSymbol", "LabelError"] true []) true [])) = .ok (.sc .non, δ.set 0 (.node (.exc ["NoSymbol", "LabelError"] true ["number"]) true [I n])) := fun δ => rfl
 (simp_all [f0, hz, hp]) <;> rfl
theorem Zpq (n : Int) (h0 : 0 <= n) (h1 : n < 64) : ZY.run [.node (.exc ["TooLong", "LabelError"] true []) true [], I n] = .ok (.sc .non, [.node (.exc ["TooLong", "LabelError"] true ["length"]) true [I n], I n]) := by
 have hf := Zru n.toNat (by omega)
 rw [Int.toNat_of_nonneg h0] at hf
 obtain ⟨z, hz⟩ := Option.isSome_iff_exists.mp hf
 rw [show ZY.run = Zg C0 2 2 ZaA from rfl]
 rw [runA (show [D.node (.exc ["TooLong", "LabelError"] true []) true [], I n].length = 2 from rfl)]
 unfold ZaA
 simp only [List.replicate, Nat.reduceSub]
 have f0 := Zpo
 have hp : ∀ δ : List D, mdR 0 δ (putX (Str.ofString "length") (I n)) (some (.node (.exc ["TooLong", "LabelError"] true []) true [])) = .ok (.sc .non, δ.set 0 (.node (.exc ["TooLong", "LabelError"] true ["length"]) true [I n])) := fun δ => rfl
 (simp_all [f0, hz, hp]) <;> rfl
def Sy (p : Int) (d : D) (b : Bool) : Prop := Zau.run [I p, d] = .ok (.sc (.bl b), [I p, d]) /\ shr d = d /\ ((∃ v, d = .sc v) \/ ∃ k l, d = .node k false l)
noncomputable def ffx : Int -> List (D × Bool) -> Option Int
 | _, [] => none
 | c, (_, true) :: r => ffx (c + 1) r
 | c, (_, false) :: _ => some c
theorem Zkn (h2 : lk 2 = false) (h3 : lk 3 = false) (p : Int) (X : D) : ∀ (qs : List (D × Bool)) (c : Int) (a b : D), (∀ q ∈ qs, Sy p q.1 q.2) -> 0 <= c -> c + qs.length <= 64 -> ∃ a' b',
 forL (asgT lk (.tup [2, 3])) (exs ⟨lk, fok, fuel⟩ [.iff (.nt (.call Zau [.v 0, .v 3])) [.raiseI ["NoSymbol", "LabelError"] Z8 [.v 2]] []]) (Zah c (qs.map Prod.fst)) [I p, X, a, b] = (match ffx c qs with | none => .ok (.nx, [I p, X, a', b']) | some n => .exc (NSx n) [I p, X, a', b']) := by
 intro qs
 induction qs with
 | nil => exact fun c a b _ _ _ => ⟨a, b, rfl⟩
 | cons q qs ih =>
  intro c a b hx hc hl
  rw [List.length_cons] at hl
  obtain ⟨d, t⟩ := q
  obtain ⟨hr, hs, hd⟩ := hx (d, t) List.mem_cons_self
  have l1 : Zau.lend = true := rfl
  have l2 : Z8.lend = true := rfl
  have hi := Zpp c hc (by omega)
  have nx : ¬ 1000 < 1 := by decide
  rw [List.map_cons, Zah, Ze6]
  cases t with
  | true =>
   obtain ⟨a', b', ih⟩ := ih (c + 1) (I c) d (fun y hy => hx y (List.mem_cons_of_mem _ hy)) (by omega) (by omega)
   refine ⟨a', b', ?_⟩
   show _ = (match ffx (c + 1) qs with | none => Rs.ok (Fl.nx, [I p, X, a', b']) | some n => .exc (NSx n) [I p, X, a', b'])
   rw [<- ih]
   rcases hd with ⟨v, rfl⟩ | ⟨k, l, rfl⟩
   . simp_all [h2, h3, Zcp, l1, hr]
   . simp_all [h2, h3, Zcp, l1, hr]
  | false =>
   refine ⟨I c, d, ?_⟩
   show _ = Rs.exc (NSx c) [I p, X, I c, d]
   rcases hd with ⟨v, rfl⟩ | ⟨k, l, rfl⟩
   . (simp_all [h2, h3, Zcp, l1, l2, hr, hi, ZiR (ns := ["NoSymbol", "LabelError"]) (fi := Z8) (ps := [Op.late 2]) nx]) <;> rfl
   . (simp_all [h2, h3, Zcp, l1, l2, hr, hi, ZiR (ns := ["NoSymbol", "LabelError"]) (fi := Z8) (ps := [Op.late 2]) nx]) <;> rfl
theorem Zpr (b : Bool) : Zai.run [.sc (.bl b)] = .ok (.sc (.bl false), [.sc (.bl b)]) := by
 show Zg C0 1 1 ZR [.sc (.bl b)] = _
 rw [runA (show [D.sc (.bl b)].length = 1 from rfl)]
 unfold ZR
 simp only [List.replicate, Nat.reduceSub]
 have q1 : tyW .int (.sc (.bl b)) = some true := rfl
 have q2 : tyW .bool (.sc (.bl b)) = some true := rfl
 simp_all [Zg9, ZdY, q1, q2]
 rfl
theorem Zps (x : Str) : Zai.run [.sc (.str x)] = .ok (.sc (.bl false), [.sc (.str x)]) := by
 show Zg C0 1 1 ZR [.sc (.str x)] = _
 rw [runA (show [D.sc (.str x)].length = 1 from rfl)]
 unfold ZR
 simp only [List.replicate, Nat.reduceSub]
 have q1 : tyW .int (.sc (.str x)) = some false := rfl
 simp_all [Zg9, ZdY, q1]
 rfl
theorem Zpt : Zai.run [.sc .non] = .ok (.sc (.bl false), [.sc .non]) := by
 show Zg C0 1 1 ZR [.sc .non] = _
 rw [runA (show [D.sc .non].length = 1 from rfl)]
 unfold ZR
 simp only [List.replicate, Nat.reduceSub]
 have q1 : tyW .int (.sc .non) = some false := rfl
 simp_all [Zg9, ZdY, q1]
 rfl
theorem Zpu (ds : List D) : Zai.run [.node .lst false ds] = .ok (.sc (.bl false), [.node .lst false ds]) := by
 show Zg C0 1 1 ZR [.node .lst false ds] = _
 rw [runA (show [D.node .lst false ds].length = 1 from rfl)]
 unfold ZR
 simp only [List.replicate, Nat.reduceSub]
 have q1 : tyW .int (.nd .lst ds) = some false := rfl
 simp_all [Zg9, ZdY, q1]
 rfl
theorem Zh9 (p : Int) (d : D) (hd : (∃ v, d = .sc v) \/ ∃ k l, d = .node k false l) (h : Zai.run [d] = .ok (.sc (.bl false), [d])) : Zau.run [I p, d] = .ok (.sc (.bl false), [I p, d]) := by
 show Zg C0 2 2 Za6 [I p, d] = _
 rw [runA (show [I p, d].length = 2 from rfl)]
 unfold Za6
 simp only [List.replicate, Nat.reduceSub]
 have l1 : Zai.lend = true := rfl
 rcases hd with ⟨v, rfl⟩ | ⟨k, l, rfl⟩
 . simp_all [l1, h]
   rfl
 . simp_all [l1, h]
   rfl
theorem ZtE (p x : Int) (h : x < 0 \/ p <= x) : Zau.run [I p, I x] = .ok (.sc (.bl false), [I p, I x]) := by
 show Zg C0 2 2 Za6 [I p, I x] = _
 rw [runA (show [I p, I x].length = 2 from rfl)]
 unfold Za6
 simp only [List.replicate, Nat.reduceSub]
 have l1 : Zai.lend = true := rfl
 by_cases h0 : 0 <= x
 . have h1 : ¬ x < p := by omega
   simp_all [l1, Zgu, Zbh, h0, h1]
   rfl
 . simp_all [l1, Zgu, Zbh, h0]
   rfl
def Pd (d : D) : Prop := ∃ a, py d = some a /\ a.canLay0 = true /\ a.depth <= 1 /\ PyData.eqv a a = true
def Sz (p : Int) (q : D × Bool) : Prop := Sy p q.1 q.2 /\ Pd q.1
theorem Pd_i (x : Int) : Pd (I x) := ⟨.int x, rfl, rfl, Nat.zero_le _, by simp [PyData.eqv]⟩
theorem Sz_i (p x : Int) (h0 : 0 <= x) (h1 : x < p) : Sz p (I x, true) := ⟨⟨ZkI p x h0 h1, rfl, .inl ⟨_, rfl⟩⟩, Pd_i x⟩
theorem Sz_o (p x : Int) (h : x < 0 \/ p <= x) : Sz p (I x, false) := ⟨⟨ZtE p x h, rfl, .inl ⟨_, rfl⟩⟩, Pd_i x⟩
theorem Sz_b (p : Int) (b : Bool) : Sz p (.sc (.bl b), false) := ⟨⟨Zh9 p _ (.inl ⟨_, rfl⟩) (Zpr b), rfl, .inl ⟨_, rfl⟩⟩, .bool b, rfl, rfl, Nat.zero_le _, by cases b <;> rfl⟩
theorem Sz_s (p : Int) : Sz p (.sc (.str (Str.ofString "1")), false) := ⟨⟨Zh9 p _ (.inl ⟨_, rfl⟩) (Zps _), rfl, .inl ⟨_, rfl⟩⟩, .str (Str.ofString "1"), rfl, by walk_at "d", Nat.zero_le _, by simp [PyData.eqv]⟩
theorem Sz_n (p : Int) : Sz p (.sc .non, false) := ⟨⟨Zh9 p _ (.inl ⟨_, rfl⟩) Zpt, rfl, .inl ⟨_, rfl⟩⟩, .none, rfl, rfl, Nat.zero_le _, rfl⟩
theorem Sz_l (p : Int) : Sz p (.node .lst false [I 1], false) := ⟨⟨Zh9 p _ (.inr ⟨_, _, rfl⟩) (Zpu _), rfl, .inr ⟨_, _, rfl⟩⟩, .list [.int 1], rfl, rfl, by decide, by simp [PyData.eqv, PyData.eqvAll]⟩
theorem ZjO : ∀ qs : List D, (∀ d ∈ qs, Pd d) -> ∃ as, pyL qs = some as /\ PyData.canLayAll0 as = true /\ PyData.depthAll as <= 1 /\ PyData.eqvAll as as = true
 | [], _ => ⟨[], rfl, rfl, by decide, by simp [PyData.eqvAll]⟩
 | d :: qs, h => by
  obtain ⟨as, a1, a2, a3, a4⟩ := ZjO qs fun x hx => h x (List.mem_cons_of_mem _ hx)
  obtain ⟨a, b1, b2, b3, b4⟩ := h d List.mem_cons_self
  refine ⟨a :: as, by rw [pyL, b1, Option.bind_some, a1]; rfl, ?_, ?_, ?_⟩
  . rw [PyData.canLayAll0, b2, a2]; rfl
  . rw [PyData.depthAll]; omega
  . rw [PyData.eqvAll, b4, a4]; rfl
theorem Zrv (qs : List D) (h : ∀ d ∈ qs, Pd d) : ZaX .NotEq (.nd .lst qs) (.nd .lst qs) = some false := by
 obtain ⟨as, a1, a2, a3, a4⟩ := ZjO qs h
 show ((py (.node .lst false qs)).bind (fun a => (py (.node .lst false qs)).bind fun b => eqPy a b)).map (!·) = _
 simp only [py, a1, Option.map_some, Option.bind_some]
 unfold eqPy
 have sh : SeqAt.shaped (.list as) = true := by
  have h1 : (PyData.list as).canLay0 = true := by rw [PyData.canLay0]; exact a2
  have h2 : (PyData.list as).depth <= 64 := by rw [PyData.depth]; omega
  simp only [SeqAt.shaped, h1, h2, decide_true, Bool.and_self]
 rw [if_pos ⟨sh, sh⟩]
 simp only [PyData.eqv, a4, Option.map_some, Bool.not_true]
theorem Zgw : ∀ qs : List (D × Bool), (∀ q ∈ qs, shr q.1 = q.1) -> shrL (qs.map Prod.fst) = qs.map Prod.fst
 | [], _ => rfl
 | q :: qs, h => by rw [List.map_cons, shrL, h q List.mem_cons_self, Zgw qs fun x hx => h x (List.mem_cons_of_mem _ hx)]
theorem ZhA (p : Int) (qs : List (D × Bool)) (n : Int) (hq : ∀ q ∈ qs, Sy p q.1 q.2) (hl : qs.length <= 60) (hn : ffx 0 qs = some n) : ZC.run [I p, .node .lst true (qs.map Prod.fst)] = .exc (NSx n) [I p, .node .lst true (qs.map Prod.fst)] := by
 rw [show ZC.run = Zg C0 2 4 Zax from rfl]
 rw [runA (show [I p, D.node .lst true (qs.map Prod.fst)].length = 2 from rfl)]
 unfold Zax
 simp only [List.replicate, Nat.reduceSub]
 obtain ⟨a', b', hs⟩ := Zkn (fun j => decide (j < 2) || walked [.v 1, .k (.int 0)] j) (fun _ _ => false) 0 rfl rfl p .hole qs 0 .hole .hole hq (by decide) (by omega)
 rw [hn] at hs
 simp only [walked, Bool.or_false] at hs
 have sh := Zgw qs fun q h => (hq q h).2.1
 simp_all [sh, it_e _ 0 (by decide), hs]
 rfl
theorem Zpv (ds : List D) : Zai.run [.node .tup false ds] = .ok (.sc (.bl false), [.node .tup false ds]) := by
 show Zg C0 1 1 ZR [.node .tup false ds] = _
 rw [runA (show [D.node .tup false ds].length = 1 from rfl)]
 unfold ZR
 simp only [List.replicate, Nat.reduceSub]
 have q1 : tyW .int (.nd .tup ds) = some false := rfl
 simp_all [Zg9, ZdY, q1]
 rfl
theorem Sz_t (p : Int) : Sz p (.node .tup false [I 1], false) := ⟨⟨Zh9 p _ (.inr ⟨_, _, rfl⟩) (Zpv _), rfl, .inr ⟨_, _, rfl⟩⟩, .tuple [.int 1], rfl, rfl, by decide, by simp [PyData.eqv, PyData.eqvAll]⟩
def Sw (p : Int) (q : D × Bool) : Prop := Sz p q /\ ((∃ v, q.1 = .sc v /\ isNW true (.sc v) = .sc (.bl false)) \/ ∃ k l, q.1 = .node k false l)
noncomputable abbrev Th : Type := Option (D × Bool)
noncomputable def tD : Th -> D
 | none => .sc .non
 | some q => q.1
noncomputable def tR : Th -> D × Bool
 | none => (I 0, true)
 | some q => q
noncomputable def tB : Th -> D × Bool
 | none => (.sc .non, false)
 | some q => q
theorem tD_B (ts : List Th) : ts.map tD = (ts.map tB).map Prod.fst := by
 rw [List.map_map]
 exact List.map_congr_left fun t _ => by cases t <;> rfl
theorem ZtF {p : Int} (hp : 0 < p) {ts : List Th} (h : ∀ q, some q ∈ ts -> Sw p q) : ∀ q ∈ ts.map tR, Sy p q.1 q.2 := fun q hq => by
 obtain ⟨t, ht, rfl⟩ := List.mem_map.mp hq
 cases t with
 | none => exact (Sz_i p 0 (by omega) hp).1
 | some q => exact (h q ht).1.1
theorem Zly {p : Int} {ts : List Th} (h : ∀ q, some q ∈ ts -> Sw p q) : ∀ q ∈ ts.map tB, Sz p q := fun q hq => by
 obtain ⟨t, ht, rfl⟩ := List.mem_map.mp hq
 cases t with
 | none => exact Sz_n p
 | some q => exact (h q ht).1
theorem Zmu (h0 : lk 0 = false) (p : Int) : ∀ (ts : List Th) (acc : List D) (a : D), (∀ q, some q ∈ ts -> Sw p q) -> ∃ a',
 ZaR (asgT lk (.name 0)) (tsts ⟨lk, fok, fuel⟩ []) (evb ⟨lk, fok, fuel⟩ (.ife (.isN true (.v 0)) (.k (.int 0)) (.v 0))).1 (ts.map tD) acc [a] = .ok (acc ++ (ts.map tR).map Prod.fst, [a']) := by
 intro ts
 induction ts with
 | nil => exact fun acc a _ => ⟨a, by show Rs.ok (acc, [a]) = Rs.ok (acc ++ [], [a]); rw [List.append_nil]⟩
 | cons t ts ih =>
  intro acc a hq
  have hq' : ∀ q, some q ∈ ts -> Sw p q := fun q h => hq q (List.mem_cons_of_mem _ h)
  cases t with
  | none =>
   obtain ⟨a', ih⟩ := ih (acc ++ [I 0]) (.sc .non) hq'
   refine ⟨a', ?_⟩
   have e : acc ++ ((none :: ts : List Th).map tR).map Prod.fst = acc ++ [I 0] ++ (ts.map tR).map Prod.fst := by rw [List.append_assoc]; rfl
   rw [e, <- ih, List.map_cons, show tD none = .sc .non from rfl, ZcE]
   simp_all [h0, ZfF]
  | some q =>
   obtain ⟨d, b⟩ := q
   have hw := hq _ List.mem_cons_self
   obtain ⟨a', ih⟩ := ih (acc ++ [d]) d hq'
   refine ⟨a', ?_⟩
   have e : acc ++ ((some (d, b) :: ts : List Th).map tR).map Prod.fst = acc ++ [d] ++ (ts.map tR).map Prod.fst := by rw [List.append_assoc]; rfl
   have hs : shr d = d := hw.1.1.2.1
   rw [e, <- ih, List.map_cons, show tD (some (d, b)) = d from rfl, ZcE]
   rcases hw.2 with ⟨v, hv, hn⟩ | ⟨k, l, hv⟩
   . replace hv : d = .sc v := hv
     subst hv
     simp_all [h0, hn]
   . replace hv : d = .node k false l := hv
     subst hv
     replace hs : D.node k false (shrL l) = .node k false l := hs
     simp_all [h0, Zfk, hs]
theorem Zmv (p : Int) (hp : 0 < p) (ts : List Th) (n : Int) (hq : ∀ q, some q ∈ ts -> Sw p q) (hl : ts.length <= 60) (hn : ffx 0 (ts.map tR) = some n) : Zad.run [I p, .node .lst true (ts.map tD)] = .exc (NSx n) [I p, .node .lst true (ts.map tD)] := by
 rw [show Zad.run = Zg C0 2 4 Zb3 from rfl]
 rw [runA (show [I p, D.node .lst true (ts.map tD)].length = 2 from rfl)]
 unfold Zb3
 simp only [List.replicate, Nat.reduceSub]
 obtain ⟨a1, hc1⟩ := Zmu (fun i => decide (1 <= i)) (fun _ _ => false) 0 rfl p ts [] .hole hq
 rw [List.nil_append] at hc1
 have hz : ((ts.map tR).map Prod.fst).length <= sizeLine := by rw [List.length_map, List.length_map, szl]; omega
 replace hc1 : ZbE (fun _ _ => false) 0 1 (.name 0) [] (.ife (.isN true (.v 0)) (.k (.int 0)) (.v 0)) (ts.map tD) [] [.hole] = _ := hc1
 have hm1 : ∀ δ : List D, ZbD 1 [] (ZbE (fun _ _ => false) 0 1 (.name 0) [] (.ife (.isN true (.v 0)) (.k (.int 0)) (.v 0)) (ts.map tD) []) δ = .ok (.node .lst true ((ts.map tR).map Prod.fst), δ) := fun δ => by
  rw [ZbP (js := []) (caps := []) rfl hc1 hz, Zb6]
  rfl
 have l1 : ZC.lend = true := rfl
 have r1 := ZhA p (ts.map tR) n (ZtF hp hq) (by rw [List.length_map]; exact hl) hn
 have sh : shrL (ts.map tD) = ts.map tD := by
  rw [tD_B]
  exact Zgw _ fun q h => (Zly hq q h).1.2.1
 generalize (ts.map tR).map Prod.fst = rr at hm1 r1
 generalize ts.map tD = tt at hm1 sh
 (simp_all [sh, hm1, l1, r1, ZfG, ZdT]) <;> rfl
theorem Zmw (p : Int) (os : List (Option Int)) (hp : 0 < p) (hp2 : p < 1000) (hl : os.length <= 60) (hx : ∀ x ∈ fill os, 0 <= x /\ x < p) (hn : (os.length : Int) < 2 \/ p < (os.length : Int)) : Zad.run [I p, Lo true os] = .exc (TLx os.length) [I p, Lo true os] := by
 have hfl := ZgZ os
 rw [show Zad.run = Zg C0 2 4 Zb3 from rfl]
 rw [runA (show [I p, Lo true os].length = 2 from rfl)]
 unfold Zb3
 simp only [List.replicate, Nat.reduceSub]
 obtain ⟨a1, hc1⟩ := Zi6 (fun i => decide (1 <= i)) (fun _ _ => false) 0 rfl os [] .hole
 rw [List.nil_append] at hc1
 have hz : (dI (fill os)).length <= sizeLine := by rw [Zbx, szl]; omega
 replace hc1 : ZbE (fun _ _ => false) 0 1 (.name 0) [] (.ife (.isN true (.v 0)) (.k (.int 0)) (.v 0)) (dO os) [] [.hole] = _ := hc1
 have hm1 : ∀ δ : List D, ZbD 1 [] (ZbE (fun _ _ => false) 0 1 (.name 0) [] (.ife (.isN true (.v 0)) (.k (.int 0)) (.v 0)) (dO os) []) δ = .ok (Ls true (fill os), δ) := fun δ => by
  rw [ZbP (js := []) (caps := []) rfl hc1 hz, Zb6]
  rfl
 have l1 : ZC.lend = true := rfl
 have l2 : ZY.lend = true := rfl
 have r1 := fun o => Zi5 p (fill os) o hx
 have hi := Zpq (os.length : Int) (by omega) (by omega)
 have nx : ¬ 1000 < 1 := by decide
 have ql : ((dI (fill os)).length : Int) = (os.length : Int) := by rw [Zbx, hfl]
 by_cases c1 : (2 : Int) <= (os.length : Int)
 . have c2 : ¬ (os.length : Int) <= p := by omega
   (simp_all [Zw, ZaW, hm1, l1, l2, r1, ql, Zbh, c1, c2, hi, ZiR (ns := ["TooLong", "LabelError"]) (fi := ZY) (ps := [Op.tmp (I os.length)]) nx]) <;> rfl
 . (simp_all [Zw, ZaW, hm1, l1, l2, r1, ql, Zbh, c1, hi, ZiR (ns := ["TooLong", "LabelError"]) (fi := ZY) (ps := [Op.tmp (I os.length)]) nx]) <;> rfl
theorem Zko (p : Int) (qs : List (D × Bool)) (n : Int) (hq : ∀ q ∈ qs, Sy p q.1 q.2) (hl : qs.length <= 60) (hn : ffx 0 qs = some n) : Zbb.run [I p, .node .lst true (qs.map Prod.fst)] = .exc (NSx n) [I p, .node .lst true (qs.map Prod.fst)] := by
 rw [show Zbb.run = Zg C0 2 3 ZcG from rfl]
 rw [runA (show [I p, D.node .lst true (qs.map Prod.fst)].length = 2 from rfl)]
 unfold ZcG
 simp only [List.replicate, Nat.reduceSub]
 have l1 : ZC.lend = true := rfl
 have r1 := ZhA p qs n hq hl hn
 (simp_all [l1, r1, ZfG, ZdT]) <;> rfl
theorem Zlz (p : Int) (hpr : p ∈ PR) (hp1 : 5 <= p) (hp2 : p <= 47) (os : List (Option Int)) (h2 : 2 <= os.length) (hl : (os.length : Int) <= p) (hx : ∀ x ∈ fill os, 0 <= x /\ x < p) :
 (∃ ys, Zad.run [I p, Lo true os] = .ok (Ls true ys, [I p, Lo true os])) \/ Zad.run [I p, Lo true os] = .exc SP [I p, Lo true os] := by
 have hpp : 0 < p := by omega
 have hfl := ZgZ os
 by_cases hh : 2 < (holes 0 os).length
 . exact .inr (Zcz p os _ hpp (by omega) h2 hl hx (.inl ⟨hh, rfl⟩))
 match hq : holes 0 os with
 | [] =>
  cases hg : good p (fill os) with
  | true => exact .inl ⟨_, Zcz p os _ hpp (by omega) h2 hl hx (.inr (.inr (.inr (.inl ⟨hq, hg, rfl⟩))))⟩
  | false =>
   rcases Zi7 (fun i : Nat => (((i : Int) + 1) * ((fill os).sum % p)) % p = (wts 1 (fill os)).sum % p) (fill os).length with ⟨r, r1, r2, r3⟩ | hn
   . exact .inl ⟨_, Zcz p os _ hpp (by omega) h2 hl hx (.inr (.inr (.inr (.inr (.inr (.inr ⟨_, hq, hg, Zkm p (fill os) hpp (by omega) (by omega) r r1 r2 r3, rfl⟩))))))⟩
   . exact .inr (Zcz p os _ hpp (by omega) h2 hl hx (.inr (.inr (.inr (.inr (.inr (.inl ⟨hq, hg, ZfP p (fill os) hpp (by omega) (by omega) hn, rfl⟩)))))))
 | [i] =>
  obtain ⟨a1, a2, a3⟩ := ZdU os 0 i (by rw [hq]; exact List.mem_cons_self)
  have a2 : i < os.length := by omega
  have a3' : os.getD i.toNat none = none := by rwa [Int.sub_zero] at a3
  have gi : (fill os).getD i.toNat 0 = 0 := by rw [ZjN, a3']; rfl
  have hin : i.toNat < (fill os).length := by omega
  have w0 := Int.emod_nonneg (-((fill os).sum % p)) (show p ≠ 0 by omega)
  have w1 := Int.emod_lt_of_pos (-((fill os).sum % p)) hpp
  have e1 : ((fill os).set i.toNat (-((fill os).sum % p) % p)).sum % p = 0 := by
   rw [Zig _ _ _ hin, gi, Int.sub_zero]
   have := (Zpm p (fill os).sum hpp _ w0 w1).mpr rfl
   rw [Int.add_zero, Int.emod_add_emod] at this
   exact this
  cases hg : good p ((fill os).set i.toNat (-((fill os).sum % p) % p)) with
  | true => exact .inl ⟨_, Zcz p os _ hpp (by omega) h2 hl hx (.inr (.inr (.inl ⟨i, hq, a1, a2, hg, rfl⟩)))⟩
  | false =>
   refine .inr (Zcz p os _ hpp (by omega) h2 hl hx (.inr (.inr (.inr (.inr (.inl ⟨i, hq, a1, a2, hg, ZfP p _ hpp (by omega) (by rw [List.length_set]; omega) (fun k _ e => ?_), rfl⟩))))))
   rw [e1, Int.mul_zero, Int.zero_emod] at e
   rw [Zny.mpr ⟨e1, e.symm⟩] at hg
   cases hg
 | [i, j] =>
  obtain ⟨a1, a2, a3⟩ := ZdU os 0 i (by rw [hq]; exact List.mem_cons_self)
  obtain ⟨b1, b2, b3⟩ := ZdU os 0 j (by rw [hq]; exact List.mem_cons_of_mem _ List.mem_cons_self)
  have hij := ZgY os 0
  rw [hq] at hij
  have hij := (List.pairwise_cons.mp hij).1 j List.mem_cons_self
  have a2 : i < os.length := by omega
  have b2 : j < os.length := by omega
  have b3' : os.getD j.toNat none = none := by rwa [Int.sub_zero] at b3
  have gj : (fill os).getD j.toNat 0 = 0 := by rw [ZjN, b3']; rfl
  obtain ⟨v, w, v0, v1, w0, w1, hv, hw, hu⟩ := Zpl p hpr hp1 ((fill os).sum % p) ((wts 1 (fill os)).sum % p) i j a1 hij (by omega)
  rw [Int.emod_emod, Int.emod_emod] at hv
  rw [Int.emod_add_emod] at hw
  have r := Zn0 p (fill os) i j v w hpp (by omega) (by omega) a1 hij (by omega) v0 v1 hv (fun s s0 s1 e => Zij p hpr s v (j - i) (by omega) (by omega) s0 s1 v0 v1 (by rw [Int.sub_mul]; exact Int.dvd_of_emod_eq_zero (Int.emod_eq_emod_iff_emod_sub_eq_zero.mp e))) (by rw [Zig _ _ _ (by omega), gj, Int.sub_zero]; exact hw.symm)
  exact .inl ⟨_, Zcz p os _ hpp (by omega) h2 hl hx (.inr (.inl ⟨i, j, _, hq, r, rfl⟩))⟩
 | _ :: _ :: _ :: _ => rw [hq] at hh; simp at hh
theorem Zmx (n : Int) : Zav.run [NSs n] = .ok (.sc (.bl false), [NSs n]) := by kernel_rfl
theorem Zmy (n : Int) : Zav.run [TLs n] = .ok (.sc (.bl false), [TLs n]) := by kernel_rfl
noncomputable abbrev tbody : List S := [.iff (.cmp .Eq (.v 2) (.k (.int 0))) [.asgX 4 Zbb [.v 0, .v 1]] [.asgX 4 Zad [.v 0, .v 1]]]
theorem hx0 : ∀ δ, ex { C0 with lock := fun i => decide (i < 3) } (.try_ [.iff (.cmp .Eq (.v 2) (.k (.int 0))) [.asgX 4 Zbb [.v 0, .v 1]] [.asgX 4 Zad [.v 0, .v 1]]] "LabelError" (some 5) [.asg 3 (.v 5)]) δ = tryM (fun i => decide (i < 3)) (exs { C0 with lock := fun i => decide (i < 3) } tbody) "LabelError" (some 5) (exs { C0 with lock := fun i => decide (i < 3) } [.asg 3 (.v 5)]) δ := fun δ => rfl
def tb (p w : Int) (ds : List D) (R : Rs (Fl × List D)) : Prop := exs { C0 with lock := fun i => decide (i < 3) } tbody [I p, .node .lst true ds, I w, .sc .non, .sc .non, .hole, .hole] = R
theorem tb_m (p : Int) (ds : List D) (x : D) (h : Zad.run [I p, .node .lst true ds] = .exc x [I p, .node .lst true ds]) : tb p 1 ds (.exc x [I p, .node .lst true ds, I 1, .sc .non, .sc .non, .hole, .hole]) := by
 unfold tb tbody
 have l1 : Zad.lend = true := rfl
 have z : ¬ (1 : Int) = 0 := by decide
 simp_all [l1, h, z, V.int.injEq, ZfG, ZdT]
theorem tb_l (p : Int) (ds : List D) (x : D) (h : Zbb.run [I p, .node .lst true ds] = .exc x [I p, .node .lst true ds]) : tb p 0 ds (.exc x [I p, .node .lst true ds, I 0, .sc .non, .sc .non, .hole, .hole]) := by
 unfold tb tbody
 have l1 : Zbb.lend = true := rfl
 simp_all [l1, h, V.int.injEq, ZfG, ZdT]
theorem Zpw (p : Int) (ds : List D) (ys : List Int) (hr : Zad.run [I p, .node .lst true ds] = .ok (Ls true ys, [I p, .node .lst true ds])) : ZS.run [I p, .node .lst true ds, I 1] = .ok (.node .tup true [I 0, Ls false ys], [I p, .node .lst true ds, I 1]) := by
 rw [show ZS.run = Zg C0 3 7 Zae from rfl]
 rw [runA (show [I p, D.node .lst true ds, I 1].length = 3 from rfl)]
 unfold Zae
 simp only [List.replicate, Nat.reduceSub]
 have l1 : Zad.lend = true := rfl
 have z : ¬ (1 : Int) = 0 := by decide
 have hw : ∀ u v : D, newT [u, v] = some (.node .tup true [u, v]) := fun u v => by unfold newT; rw [if_pos (by rw [szl]; simp)]
 have hb : exs { C0 with lock := fun i => decide (i < 3) } tbody [I p, .node .lst true ds, I 1, .sc .non, .sc .non, .hole, .hole] = .ok (.nx, [I p, .node .lst true ds, I 1, .sc .non, Ls true ys, .hole, .hole]) := by
  unfold tbody
  simp_all [l1, hr, z, V.int.injEq]
 have ht := Zrn (lk := fun i => decide (i < 3)) (c := "LabelError") (nm := some 5) (suite := exs { C0 with lock := fun i => decide (i < 3) } [.asg 3 (.v 5)]) hb
 have hx := hx0
 simp only [C0] at ht hx
 (simp_all [hx, ht, Zw, ZfF, hw]) <;> rfl
theorem ZkJ (p n w : Int) (ds : List D) (hr : tb p w ds (.exc (NSx n) [I p, .node .lst true ds, I w, .sc .non, .sc .non, .hole, .hole])) : ZS.run [I p, .node .lst true ds, I w] = .ok (.node .tup true [I 1, I n], [I p, .node .lst true ds, I w]) := by
 rw [show ZS.run = Zg C0 3 7 Zae from rfl]
 rw [runA (show [I p, D.node .lst true ds, I w].length = 3 from rfl)]
 unfold Zae
 simp only [List.replicate, Nat.reduceSub]
 have l2 : Zav.lend = true := rfl
 have hw : ∀ u v : D, newT [u, v] = some (.node .tup true [u, v]) := fun u v => by unfold newT; rw [if_pos (by rw [szl]; simp)]
 have hw3 : ∀ u v w : D, newL [u, v, w] = some (.node .lst true [u, v, w]) := fun u v w => ZaS _ (by rw [szl]; simp)
 have ht := Zih (lk := fun i => decide (i < 3)) (c := "LabelError") (i := 5) (suite := exs { C0 with lock := fun i => decide (i < 3) } [.asg 3 (.v 5)]) hr (by kernel_rfl) (show 5 < 7 by decide) rfl
 have hx := hx0
 simp only [C0] at ht hx
 have m1 : decide ((Str.ofString "NoSymbol") ∈ [Str.ofString "NoSymbol", Str.ofString "LabelError"]) = true := by walk_at "d"
 have m2 : decide ((Str.ofString "TooLong") ∈ [Str.ofString "NoSymbol", Str.ofString "LabelError"]) = false := by walk_at "d"
 have m3 : decide ((Str.ofString "Spoilt") ∈ [Str.ofString "NoSymbol", Str.ofString "LabelError"]) = false := by walk_at "d"
 have hcnt : bfW (.cnt (.bl true)) [.nd .lst [.sc (.bl true), .sc (.bl false), .sc (.bl false)]] = some (.sc (.int 1)) := rfl
 have hfl : ∀ ds : List D, ds = [I n] -> bfW (.xfld (Str.ofString "number")) [.nd (.exc ["NoSymbol", "LabelError"] false ["number"]) ds] = some (I n) := fun ds e => by subst e; kernel_rfl
 have hfl := hfl _ rfl
 have i30 : ∀ u v w : D, ((ixN' 3 0).bind fun j => [u, v, w][j]?) = some u := fun u v w => rfl
 have ho := Zmx n
 (simp_all [hx, ht, ZgX, Zfk, m1, m2, m3, hw3, l2, ho, hcnt, hw, hfl, i30]) <;> rfl
theorem Zpx (p n w : Int) (ds : List D) (hr : tb p w ds (.exc (TLx n) [I p, .node .lst true ds, I w, .sc .non, .sc .non, .hole, .hole])) : ZS.run [I p, .node .lst true ds, I w] = .ok (.node .tup true [I 2, I n], [I p, .node .lst true ds, I w]) := by
 rw [show ZS.run = Zg C0 3 7 Zae from rfl]
 rw [runA (show [I p, D.node .lst true ds, I w].length = 3 from rfl)]
 unfold Zae
 simp only [List.replicate, Nat.reduceSub]
 have l2 : Zav.lend = true := rfl
 have hw : ∀ u v : D, newT [u, v] = some (.node .tup true [u, v]) := fun u v => by unfold newT; rw [if_pos (by rw [szl]; simp)]
 have hw3 : ∀ u v w : D, newL [u, v, w] = some (.node .lst true [u, v, w]) := fun u v w => ZaS _ (by rw [szl]; simp)
 have ht := Zih (lk := fun i => decide (i < 3)) (c := "LabelError") (i := 5) (suite := exs { C0 with lock := fun i => decide (i < 3) } [.asg 3 (.v 5)]) hr (by kernel_rfl) (show 5 < 7 by decide) rfl
 have hx := hx0
 simp only [C0] at ht hx
 have m1 : decide ((Str.ofString "NoSymbol") ∈ [Str.ofString "TooLong", Str.ofString "LabelError"]) = false := by walk_at "d"
 have m2 : decide ((Str.ofString "TooLong") ∈ [Str.ofString "TooLong", Str.ofString "LabelError"]) = true := by walk_at "d"
 have m3 : decide ((Str.ofString "Spoilt") ∈ [Str.ofString "TooLong", Str.ofString "LabelError"]) = false := by walk_at "d"
 have hcnt : bfW (.cnt (.bl true)) [.nd .lst [.sc (.bl false), .sc (.bl true), .sc (.bl false)]] = some (.sc (.int 1)) := rfl
 have hfl : ∀ ds : List D, ds = [I n] -> bfW (.xfld (Str.ofString "length")) [.nd (.exc ["TooLong", "LabelError"] false ["length"]) ds] = some (I n) := fun ds e => by subst e; kernel_rfl
 have hfl := hfl _ rfl
 have i30 : ∀ u v w : D, ((ixN' 3 0).bind fun j => [u, v, w][j]?) = some u := fun u v w => rfl
 have i31 : ∀ u v w : D, ((ixN' 3 1).bind fun j => [u, v, w][j]?) = some v := fun u v w => rfl
 have ho := Zmy n
 (simp_all [hx, ht, ZgX, Zfk, m1, m2, m3, hw3, l2, ho, hcnt, hw, hfl, i30, i31]) <;> rfl
theorem ZkK (p w : Int) (ds : List D) (hr : tb p w ds (.exc SP [I p, .node .lst true ds, I w, .sc .non, .sc .non, .hole, .hole])) : ZS.run [I p, .node .lst true ds, I w] = .ok (.node .tup true [I 3, .sc .non], [I p, .node .lst true ds, I w]) := by
 rw [show ZS.run = Zg C0 3 7 Zae from rfl]
 rw [runA (show [I p, D.node .lst true ds, I w].length = 3 from rfl)]
 unfold Zae
 simp only [List.replicate, Nat.reduceSub]
 have l2 : Zav.lend = true := rfl
 have hw : ∀ u v : D, newT [u, v] = some (.node .tup true [u, v]) := fun u v => by unfold newT; rw [if_pos (by rw [szl]; simp)]
 have hw3 : ∀ u v w : D, newL [u, v, w] = some (.node .lst true [u, v, w]) := fun u v w => ZaS _ (by rw [szl]; simp)
 have ht := Zih (lk := fun i => decide (i < 3)) (c := "LabelError") (i := 5) (suite := exs { C0 with lock := fun i => decide (i < 3) } [.asg 3 (.v 5)]) hr (by kernel_rfl) (show 5 < 7 by decide) rfl
 have hx := hx0
 simp only [C0] at ht hx
 have m1 : decide ((Str.ofString "NoSymbol") ∈ [Str.ofString "Spoilt", Str.ofString "LabelError"]) = false := by walk_at "d"
 have m2 : decide ((Str.ofString "TooLong") ∈ [Str.ofString "Spoilt", Str.ofString "LabelError"]) = false := by walk_at "d"
 have m3 : decide ((Str.ofString "Spoilt") ∈ [Str.ofString "Spoilt", Str.ofString "LabelError"]) = true := by walk_at "d"
 have hcnt : bfW (.cnt (.bl true)) [.nd .lst [.sc (.bl false), .sc (.bl false), .sc (.bl true)]] = some (.sc (.int 1)) := rfl
 have i30 : ∀ u v w : D, ((ixN' 3 0).bind fun j => [u, v, w][j]?) = some u := fun u v w => rfl
 have i31 : ∀ u v w : D, ((ixN' 3 1).bind fun j => [u, v, w][j]?) = some v := fun u v w => rfl
 have ho := Zmt
 (simp_all [hx, ht, ZgX, Zfk, m1, m2, m3, hw3, l2, ho, hcnt, hw, i30, i31]) <;> rfl
theorem ZjP : ∀ (qs : List (D × Bool)) (c : Int), (ffx c qs = none /\ ∀ k, (qs.getD k (.hole, true)).2 = true) \/ ∃ n, ffx c qs = some n /\ c <= n /\ n < c + qs.length /\ (qs.getD (n - c).toNat (.hole, true)).2 = false /\ ∀ k : Nat, c + k < n -> (qs.getD k (.hole, true)).2 = true
 | [], c => .inl ⟨rfl, fun k => by simp⟩
 | (d, false) :: qs, c => .inr ⟨c, rfl, by omega, by rw [List.length_cons]; omega, by rw [Int.sub_self]; rfl, fun k h => by omega⟩
 | (d, true) :: qs, c => by
  rcases ZjP qs (c + 1) with ⟨h1, h2⟩ | ⟨n, h1, h2, h3, h4, h5⟩
  . refine .inl ⟨h1, fun k => ?_⟩
    cases k with
    | zero => rfl
    | succ k => exact h2 k
  . refine .inr ⟨n, h1, by omega, by rw [List.length_cons]; omega, ?_, fun k h => ?_⟩
    . have : (n - c).toNat = (n - (c + 1)).toNat + 1 := by omega
      rw [this]
      exact h4
    . cases k with
      | zero => rfl
      | succ k => exact h5 k (by omega)
theorem Zpy (c n t p : Int) (hp : 0 < p) (hp2 : p <= 47) : ∃ d n' t', Sw p (d, false) /\ ZbX.run [.node .lst true [I c, I n, I t], I p] = .ok (d, [.node .lst true [I c, I n', I t'], I p]) := by
 obtain ⟨k, n1, t1, q1, q2, hn1⟩ := ZbY c n t (10 ^ 12) (by decide) (by decide)
 obtain ⟨r, n2, t2, q3, q4, hn2⟩ := ZbY c n1 t1 8 (by decide) (by decide)
 have l1 : Z9.lend = true := rfl
 have hpw : binW .Pow (.sc (.int 10)) (.sc (.int 12)) = some (.sc (.int (10 ^ 12))) := by kernel_rfl
 have hw1 : ∀ u : D, newL [u] = some (.node .lst true [u]) := fun u => ZaS _ (by rw [szl]; simp)
 have hwt : ∀ u : D, newT [u] = some (.node .tup true [u]) := fun u => by unfold newT; rw [if_pos (by rw [szl]; simp)]
 have hw8 : ∀ u1 u2 u3 u4 u5 u6 u7 u8 : D, newL [u1, u2, u3, u4, u5, u6, u7, u8] = some (.node .lst true [u1, u2, u3, u4, u5, u6, u7, u8]) := fun u1 u2 u3 u4 u5 u6 u7 u8 => ZaS _ (by rw [szl]; simp)
 have hix : ∀ u1 u2 u3 u4 u5 u6 u7 u8 : D, ∃ d, d ∈ [u1, u2, u3, u4, u5, u6, u7, u8] /\ ((ixN' 8 r).bind fun j => [u1, u2, u3, u4, u5, u6, u7, u8][j]?) = some d := fun u1 u2 u3 u4 u5 u6 u7 u8 => by
  have e : ixN' 8 r = some r.toNat := by
   have := ZeI 8 r.toNat (by omega)
   rwa [Int.toNat_of_nonneg q3] at this
  rw [e, Option.bind_some, List.getElem?_eq_getElem (show r.toNat < [u1, u2, u3, u4, u5, u6, u7, u8].length by show r.toNat < 8; omega)]
  exact ⟨_, List.getElem_mem _, rfl⟩
 obtain ⟨d, hd, hi⟩ := hix (I p) (I (p + 1 + k)) (I (-1)) (.sc (.bl true)) (.sc (.str (Str.ofString "1"))) (.node .tup false [I 1]) (.node .lst false [I 1]) (.sc (.bl false))
 refine ⟨d, n2, t2, ?_, ?_⟩
 . simp only [List.mem_cons, List.not_mem_nil, or_false] at hd
   rcases hd with rfl | rfl | rfl | rfl | rfl | rfl | rfl | rfl
   . exact ⟨Sz_o p p (by omega), .inl ⟨_, rfl, rfl⟩⟩
   . exact ⟨Sz_o p _ (by omega), .inl ⟨_, rfl, rfl⟩⟩
   . exact ⟨Sz_o p _ (by omega), .inl ⟨_, rfl, rfl⟩⟩
   . exact ⟨Sz_b p _, .inl ⟨_, rfl, rfl⟩⟩
   . exact ⟨Sz_s p, .inl ⟨_, rfl, rfl⟩⟩
   . exact ⟨Sz_t p, .inr ⟨_, _, rfl⟩⟩
   . exact ⟨Sz_l p, .inr ⟨_, _, rfl⟩⟩
   . exact ⟨Sz_b p _, .inl ⟨_, rfl, rfl⟩⟩
 . rw [show ZbX.run = Zg C0 2 3 ZcM from rfl]
   rw [runA (show [D.node .lst true [I c, I n, I t], I p].length = 2 from rfl)]
   unfold ZcM
   simp only [List.replicate, Nat.reduceSub]
   (simp_all [l1, hpw, hn1, hn2, hw1, hwt, hw8, hi]) <;> rfl
structure Iw (p z : Int) (hs : List Int) (ts : List Th) : Prop where
 len : (ts.length : Int) = z
 all : ∀ q, some q ∈ ts -> Sw p q
 rng : ∀ h ∈ hs, 0 <= h /\ h < z
 odd : ∀ k : Nat, (k : Int) < z -> ((tR (ts.getD k none)).2 = false ↔ (k : Int) ∈ hs)
theorem ZjQ (ts : List Th) (k : Nat) : ((ts.map tR).getD k (.hole, true)).2 = (tR (ts.getD k none)).2 := by
 (rw [List.getD_eq_getElem?_getD, List.getD_eq_getElem?_getD, List.getElem?_map])
 cases ts[k]? <;> rfl
theorem Iw.first {p z i : Int} {is : List Int} {ts : List Th} (v : Iw p z (i :: is) ts) : ffx 0 (ts.map tR) = some (ZbK i is) := by
 rcases ZjP (ts.map tR) 0 with ⟨h1, h2⟩ | ⟨n, h1, h2, h3, h4, h5⟩
 . have r := v.rng i List.mem_cons_self
   have := (v.odd i.toNat (by omega)).mpr (by rw [Int.toNat_of_nonneg r.1]; exact List.mem_cons_self)
   rw [<- ZjQ, h2] at this
   cases this
 . rw [h1]
   congr 1
   have hl := v.len
   rw [List.length_map] at h3
   apply Zgg
   . rw [ZjQ] at h4
     have := (v.odd (n - 0).toNat (by omega)).mp h4
     have e : (((n - 0).toNat : Nat) : Int) = n := by omega
     rwa [e] at this
   . intro a ha
     have r := v.rng a ha
     by_cases hc : a < n
     . have h6 := h5 a.toNat (by omega)
       have h7 := (v.odd a.toNat (by omega)).mpr (by rw [Int.toNat_of_nonneg r.1]; exact ha)
       rw [ZjQ, h7] at h6
       cases h6
     . omega
theorem Iw.put {p z : Int} {hs : List Int} {ts : List Th} (v : Iw p z hs ts) (r : Int) (r0 : 0 <= r) (r1 : r < z) (d : D) (hd : Sw p (d, false)) : Iw p z (hs ++ [r]) (ts.set r.toNat (some (d, false))) := by
 have hl := v.len
 refine ⟨by rw [List.length_set]; exact hl, fun q hq => ?_, fun h hh => ?_, fun k hk => ?_⟩
 . rcases List.mem_or_eq_of_mem_set hq with h | h
   . exact v.all q h
   . cases h; exact hd
 . rcases List.mem_append.mp hh with h | h
   . exact v.rng _ h
   . rw [List.mem_singleton.mp h]; exact ⟨r0, r1⟩
 . rw [List.mem_append, List.mem_singleton, List.getD_eq_getElem?_getD]
   by_cases e : r.toNat = k
   . subst e
     rw [List.getElem?_set_self (by omega)]
     exact ⟨fun _ => .inr (by omega), fun _ => rfl⟩
   . rw [List.getElem?_set_ne e, <- List.getD_eq_getElem?_getD, v.odd k hk]
     exact ⟨.inl, fun h => h.resolve_right (by omega)⟩
noncomputable def oT : Option Int -> Th := Option.map fun x => (I x, true)
theorem oT_D (os : List (Option Int)) : (os.map oT).map tD = dO os := by
 rw [List.map_map]
 exact List.map_congr_left fun o _ => by cases o <;> rfl
theorem Iw.start (p : Int) (os : List (Option Int)) (hx : ∀ x ∈ fill os, 0 <= x /\ x < p) : Iw p os.length [] (os.map oT) := by
 refine ⟨by rw [List.length_map], fun q hq => ?_, fun h hh => by simp at hh, fun k hk => ?_⟩
 . obtain ⟨o, h1, h2⟩ := List.mem_map.mp hq
   cases o with
   | none => cases h2
   | some x =>
    cases h2
    have := hx x (List.mem_map.mpr ⟨some x, h1, rfl⟩)
    exact ⟨Sz_i p x this.1 this.2, .inl ⟨_, rfl, rfl⟩⟩
 . have hk' : k < os.length := by omega
   rw [List.getD_eq_getElem?_getD, List.getElem?_map, List.getElem?_eq_getElem hk']
   cases os[k] <;> simp [oT, tR]
theorem Zkp (h4 : lk 4 = false) (h6 : lk 6 = false) (ns : List Int) (p q : Int) (hp : 0 < p) (hp2 : p <= 47) (hq : 0 < q) (x2 x3 x7 x8 x9 x10 x11 x12 : D) : ∀ (m j : Nat) (os : List (Option Int)) (a : D), j + m <= os.length -> (∀ x ∈ fill os, 0 <= x /\ x < p) -> ∃ (os' : List (Option Int)) (a' : D), os'.length = os.length /\ (∀ x ∈ fill os', 0 <= x /\ x < p) /\
 forL (asgT lk (.name 6)) (exs ⟨lk, fok, fuel⟩ [.iff (.cmp .Eq (.bin .Mod (.bin .FloorDiv (.call ZG [.v 0, .bin .Add (.k (.int 3)) (.v 6)]) (.v 1)) (.v 5)) (.k (.int 1))) [.sub 4 [] (.v 6) (.k .non)] []]) (dI (rngI j m)) [scr ns, I p, x2, x3, Lo true os, I q, a, x7, x8, x9, x10, x11, x12]
  = .ok (.nx, [scr ns, I p, x2, x3, Lo true os', I q, a', x7, x8, x9, x10, x11, x12]) := by
 intro m
 induction m with
 | zero => exact fun j os a _ hs => ⟨os, a, rfl, hs, rfl⟩
 | succ m ih =>
  intro j os a hj hs
  have hr := Zf0 ns (3 + j)
  have e3 : ((3 + j : Nat) : Int) = 3 + (j : Int) := by omega
  rw [e3] at hr
  have l1 : ZG.lend = true := rfl
  have ej : ((j + 1 : Nat) : Int) = (j : Int) + 1 := by omega
  have bd : ∀ u : Int, binW .FloorDiv (.sc (.int u)) (.sc (.int p)) = some (.sc (.int (u / p))) := fun u => Zhr _ _ (by omega)
  simp only [scr] at hr ih ⊢
  by_cases hc : ns.getD (3 + j) 0 / p % q = 1
  . obtain ⟨os', a', e1, e2, ih⟩ := ih (j + 1) (os.set j none) (I j) (by rw [List.length_set]; omega) (fun x h => by
     rw [show fill (os.set j none) = (fill os).set j 0 from List.map_set] at h
     rcases List.mem_or_eq_of_mem_set h with h | h
     . exact hs x h
     . rw [h]; omega)
    refine ⟨os', a', by rw [e1, List.length_set], e2, ?_⟩
    have s1 : ∀ δ : List D, mdR 4 δ (Zch (.sc (.int (j : Int))) (.sc .non)) (some (.node .lst true (dO os))) = .ok (.sc .non, δ.set 4 (.node .lst true (dO (os.set j none)))) := fun δ => by rw [Zft 4 δ _ _ (j : Int) j (ZeI (dO os).length j (by rw [Zmq]; omega)), Zro]
    rw [ej] at ih
    rw [<- ih, rngI, ZaC, Ze6]
    simp_all [h4, h6, l1, hr, bd, Za4 _ _ hq, hc, s1, V.int.injEq]
  . obtain ⟨os', a', e1, e2, ih⟩ := ih (j + 1) os (I j) (by omega) hs
    refine ⟨os', a', e1, e2, ?_⟩
    rw [ej] at ih
    rw [<- ih, rngI, ZaC, Ze6]
    simp_all [h4, h6, l1, hr, bd, Za4 _ _ hq, hc, V.int.injEq]
theorem Zn1 (h5 : lk 7 = false) (h6 : lk 2 = false) (h7 : lk 4 = false) (h8 : lk 8 = false) (s x5 x6 x9 x10 x11 x12 : D) (p z c : Int) (hp : 0 < p) (hp2 : p <= 47) (hz : 0 < z) (hz2 : z <= 60) : ∀ (m j : Nat) (hs : List Int) (ts : List Th) (n t : Int) (a : D), hs.length = j -> j + m <= 60 -> Iw p z hs ts -> ∃ (hs' : List Int) (ts' : List Th) (n' t' : Int) (a' : D), hs'.length = j + m /\ Iw p z hs' ts' /\
 forL (asgT lk (.name 8)) (exs ⟨lk, fok, fuel⟩ [.ex (.mut .append 7 [] [.call Z9 [.v 2, .v 3]]), .sub 4 [] (.ix (.v 7) (.v 8)) (.call ZbX [.v 2, .v 1])]) (dI (rngI j m)) [s, I p, .node .lst true [I c, I n, I t], I z, .node .lst true (ts.map tD), x5, x6, Ls true hs, a, x9, x10, x11, x12]
  = .ok (.nx, [s, I p, .node .lst true [I c, I n', I t'], I z, .node .lst true (ts'.map tD), x5, x6, Ls true hs', a', x9, x10, x11, x12]) := by
 intro m
 induction m with
 | zero => exact fun j hs ts n t a hj _ v => ⟨hs, ts, n, t, a, by omega, v, rfl⟩
 | succ m ih =>
  intro j hs ts n t a hj hm v
  obtain ⟨r, n1, t1, q1, q2, hn1⟩ := ZbY c n t z hz (by omega)
  obtain ⟨d, n2, t2, hd, hn2⟩ := Zpy c n1 t1 p hp hp2
  obtain ⟨hs', ts', n', t', a', e1, v', ih⟩ := ih (j + 1) (hs ++ [r]) (ts.set r.toNat (some (d, false))) n2 t2 (I j) (by rw [List.length_append, hj]; rfl) (by omega) (v.put r q1 q2 d hd)
  refine ⟨hs', ts', n', t', a', by omega, v', ?_⟩
  have ej : ((j + 1 : Nat) : Int) = (j : Int) + 1 := by omega
  rw [ej] at ih
  have k1 : Z9.lend = true := rfl
  have k2 : ZbX.lend = true := rfl
  have hl := v.len
  have ap : ∀ δ : List D, mdR 7 δ (appD (.sc (.int r))) (some (.node .lst true (dI hs))) = .ok (.sc .non, δ.set 7 (.node .lst true (dI (hs ++ [r])))) := fun δ => by
   rw [Zra 7 δ _ _ (by rw [Zbx, szl]; omega), Zdr]
   rfl
  have ix := ixI (hs ++ [r]) (j : Int) (by omega) (by rw [List.length_append, hj, List.length_singleton]; omega)
  have hg : (hs ++ [r]).getD (j : Int).toNat 0 = r := by
   rw [Int.toNat_natCast, List.getD_eq_getElem?_getD, <- hj, List.getElem?_append_right (Nat.le_refl _), Nat.sub_self]
   rfl
  rw [hg] at ix
  have st : ∀ δ : List D, mdR 4 δ (Zch (.sc (.int r)) d) (some (.node .lst true (ts.map tD))) = .ok (.sc .non, δ.set 4 (.node .lst true ((ts.set r.toNat (some (d, false))).map tD))) := fun δ => by
   rw [Zft 4 δ d _ r r.toNat (by
    have := ZeI (ts.map tD).length r.toNat (by rw [List.length_map]; omega)
    rwa [Int.toNat_of_nonneg q1] at this), List.map_set]
   rfl
  rw [<- ih, rngI, ZaC, Ze6]
  rcases hd.1.1.2.2 with ⟨v0, hv⟩ | ⟨kk, ll, hv⟩
  . replace hv : d = .sc v0 := hv
    subst hv
    simp_all [h5, h6, h7, h8, k1, k2, hn1, hn2, ap, ix, st, Zw]
  . replace hv : d = .node kk false ll := hv
    subst hv
    simp_all [h5, h6, h7, h8, k1, k2, hn1, hn2, ap, ix, st, Zw]
theorem Zpz (p : Int) (ds : List D) (i : Int) (is : List Int) : Zbe.run [I p, .node .lst true ds, Ls true (i :: is)] = .ok (.node .tup true [I 1, I (ZbK i is)], [I p, .node .lst true ds, Ls true (i :: is)]) := by
 rw [show Zbe.run = Zg C0 3 3 ZbA from rfl]
 rw [runA (show [I p, .node .lst true ds, Ls true (i :: is)].length = 3 from rfl)]
 unfold ZbA
 simp only [List.replicate, Nat.reduceSub]
 have hw : ∀ u v : D, newT [u, v] = some (.node .tup true [u, v]) := fun u v => by unfold newT; rw [if_pos (by rw [szl]; simp)]
 have hn0 : newL [] = some (.node .lst true []) := ZaS _ (by simp)
 have hq : ZaX .NotEq (.nd .lst (dI (i :: is))) (.nd .lst []) = some (!decide (i :: is = [])) := ZtC (i :: is) []
 rw [decide_eq_false (by simp)] at hq
 have hm : bfW .minL [.nd .lst (dI (i :: is))] = some (I (ZbK i is)) := by
  show (Zbu (dI (i :: is))).bind _ = _
  rw [ZdX]
  rfl
 simp only [List.map_cons] at hq hm
 (simp_all [hw, hn0, hq, hm, Zw]) <;> rfl
theorem Zrw (p : Int) (os : List (Option Int)) : Zbe.run [I p, Lo true os, .node .lst true []] = .ok (if (os.length : Int) < 2 \/ p < (os.length : Int) then .node .tup true [I 2, I os.length] else if 2 < (holes 0 os).length then .node .tup true [I 3, .sc .non] else .sc .non, [I p, Lo true os, .node .lst true []]) := by
 rw [show Zbe.run = Zg C0 3 3 ZbA from rfl]
 rw [runA (show [I p, Lo true os, .node .lst true []].length = 3 from rfl)]
 unfold ZbA
 simp only [List.replicate, Nat.reduceSub]
 have hw : ∀ u v : D, newT [u, v] = some (.node .tup true [u, v]) := fun u v => by unfold newT; rw [if_pos (by rw [szl]; simp)]
 have hn0 : newL [] = some (.node .lst true []) := ZaS _ (by simp)
 have hq : ZaX .NotEq (.nd .lst []) (.nd .lst []) = some false := by kernel_rfl
 have hc := Zrs os
 have hl : ((dO os).length : Int) = (os.length : Int) := by rw [Zmq]
 by_cases c1 : (os.length : Int) < 2
 . rw [if_pos (.inl c1)]
   (simp_all [hw, hn0, hq, hl, c1, ZaW]) <;> rfl
 . by_cases c2 : p < (os.length : Int)
   . rw [if_pos (.inr c2)]
     (simp_all [hw, hn0, hq, hl, c1, c2, ZaW]) <;> rfl
   . rw [if_neg (by omega)]
     by_cases c3 : 2 < (holes 0 os).length
     . have c3' : (2 : Int) < ((holes 0 os).length : Int) := by omega
       rw [if_pos c3]
       (simp_all [hw, hn0, hq, hl, hc, c1, c2, c3', ZaW]) <;> rfl
     . have c3' : ¬ (2 : Int) < ((holes 0 os).length : Int) := by omega
       rw [if_neg c3]
       (simp_all [hw, hn0, hq, hl, hc, c1, c2, c3', ZaW]) <;> rfl
noncomputable def bads : Int -> List (D × Bool) -> List Int
 | _, [] => []
 | c, (_, true) :: r => bads (c + 1) r
 | c, (_, false) :: r => c :: bads (c + 1) r
theorem Zil : ∀ (qs : List (D × Bool)) (c x : Int), x ∈ bads c qs -> c <= x
 | [], c, x, h => by simp [bads] at h
 | (_, true) :: qs, c, x, h => by have := Zil qs (c + 1) x h; omega
 | (_, false) :: qs, c, x, h => by
  (rcases List.mem_cons.mp h with rfl | h)
  . exact Int.le_refl _
  . have := Zil qs (c + 1) x h; omega
theorem Zha : ∀ (qs : List (D × Bool)) (c : Int), (bads c qs).length <= qs.length
 | [], c => Nat.le_refl _
 | (_, true) :: qs, c => by have := Zha qs (c + 1); rw [bads, List.length_cons]; omega
 | (_, false) :: qs, c => by have := Zha qs (c + 1); rw [bads, List.length_cons, List.length_cons]; omega
theorem ZjR : ∀ (qs : List (D × Bool)) (c : Int), bads c qs = [] \/ ∃ n r, bads c qs = n :: r /\ ffx c qs = some n /\ ZbK n r = n
 | [], c => .inl rfl
 | (_, true) :: qs, c => ZjR qs (c + 1)
 | (_, false) :: qs, c => .inr ⟨c, _, rfl, rfl, (Zgg (i := c) (M := c) List.mem_cons_self fun a ha => by
  rcases List.mem_cons.mp ha with rfl | h
  . exact Int.le_refl _
  . have := Zil qs (c + 1) a h; omega).symm⟩
theorem Zn2 (h0 : lk 0 = false) (p z : Int) (hs : List Int) (ts : List Th) (v : Iw p z hs ts) : ∀ (us : List Th) (j : Nat) (acc : List Int) (a : D), ts.drop j = us -> ∃ a',
 ZaR (asgT lk (.name 0)) (tsts ⟨lk, fok, fuel⟩ [.or (.isN true (.ix (.v 2) (.v 0))) (.cmp .In (.v 0) (.v 1))]) (evb ⟨lk, fok, fuel⟩ (.v 0)).1 (dI (rngI j us.length)) (dI acc) [a, Ls true hs, .node .lst true (ts.map tD)] = .ok (dI (acc ++ bads j (us.map tB)), [a', Ls true hs, .node .lst true (ts.map tD)]) := by
 intro us
 induction us with
 | nil => exact fun j acc a _ => ⟨a, by rw [show bads (j : Int) (List.map tB []) = [] from rfl, List.append_nil]; rfl⟩
 | cons u us ih =>
  intro j acc a hd
  have hj : ts[j]? = some u := by
   have := congrArg (fun l => l[0]?) hd
   simpa using this
  have hd' : ts.drop (j + 1) = us := by
   have := congrArg (List.drop 1) hd
   rw [List.drop_drop] at this
   simpa using this
  have hjl : j < ts.length := by
   rcases Nat.lt_or_ge j ts.length with h | h
   . exact h
   . rw [List.getElem?_eq_none h] at hj; cases hj
  have hl := v.len
  have ho := v.odd j (by omega)
  rw [List.getD_eq_getElem?_getD, hj, Option.getD_some] at ho
  have hix : ((ixN' (ts.map tD).length (j : Int)).bind fun k => (ts.map tD)[k]?) = some (tD u) := by
   rw [ZeI (ts.map tD).length j (by rw [List.length_map]; exact hjl), Option.bind_some, List.getElem?_map, hj]
   rfl
  have hin : ZaX .In (.sc (.int (j : Int))) (.nd .lst (dI hs)) = some (decide ((j : Int) ∈ hs)) := by
   show (Zbu (dI hs)).map _ = _
   rw [ZdX]
   rfl
  have ej : ((j + 1 : Nat) : Int) = (j : Int) + 1 := by omega
  have hsh : shrL (ts.map tD) = ts.map tD := by
   rw [tD_B]
   exact Zgw _ fun q h => (Zly v.all q h).1.2.1
  rw [List.length_cons, rngI, ZaC, ZcE]
  cases u with
  | none =>
   obtain ⟨a', ih⟩ := ih (j + 1) (acc ++ [(j : Int)]) (I j) hd'
   refine ⟨a', ?_⟩
   have e : acc ++ bads (j : Int) ((none :: us : List Th).map tB) = acc ++ [(j : Int)] ++ bads ((j + 1 : Nat) : Int) (us.map tB) := by rw [List.append_assoc, ej]; rfl
   rw [e, <- ih, Zdr, ej]
   simp only [tD] at hix
   simp_all [h0, hix, hsh, ZfF]
  | some q =>
   obtain ⟨d, b⟩ := q
   have hw := v.all (d, b) (List.mem_iff_getElem?.mpr ⟨j, hj⟩)
   replace ho : b = false ↔ (j : Int) ∈ hs := ho
   cases b with
   | true =>
    have hni : ¬ (j : Int) ∈ hs := fun h => by cases ho.mpr h
    rw [decide_eq_false hni] at hin
    obtain ⟨a', ih⟩ := ih (j + 1) acc (I j) hd'
    refine ⟨a', ?_⟩
    have e : bads (j : Int) ((some (d, true) :: us : List Th).map tB) = bads ((j + 1 : Nat) : Int) (us.map tB) := by rw [ej]; rfl
    rw [e, <- ih, ej]
    rcases hw.2 with ⟨v0, hv, hn⟩ | ⟨k, l, hv⟩
    . replace hv : d = .sc v0 := hv
      subst hv
      simp only [tD] at hix
      simp_all [h0, hix, hsh, hn, hin, Zw]
    . replace hv : d = .node k false l := hv
      subst hv
      simp only [tD] at hix
      simp_all [h0, hix, hsh, Zfk, hin, Zw]
   | false =>
    rw [decide_eq_true (ho.mp rfl)] at hin
    obtain ⟨a', ih⟩ := ih (j + 1) (acc ++ [(j : Int)]) (I j) hd'
    refine ⟨a', ?_⟩
    have e : acc ++ bads (j : Int) ((some (d, false) :: us : List Th).map tB) = acc ++ [(j : Int)] ++ bads ((j + 1 : Nat) : Int) (us.map tB) := by rw [List.append_assoc, ej]; rfl
    rw [e, <- ih, Zdr, ej]
    rcases hw.2 with ⟨v0, hv, hn⟩ | ⟨k, l, hv⟩
    . replace hv : d = .sc v0 := hv
      subst hv
      simp only [tD] at hix
      simp_all [h0, hix, hsh, hn, hin, Zw]
    . replace hv : d = .node k false l := hv
      subst hv
      simp only [tD] at hix
      simp_all [h0, hix, hsh, Zfk, hin, Zw]
theorem ZjS (a : Int) (d : D) (h : Pd d) : ZaX .NotEq (.nd .tup [I a, d]) (.nd .tup [I a, d]) = some false /\ ZaX .Eq (.nd .tup [I a, d]) (.nd .tup [I a, d]) = some true := by
 obtain ⟨as, a1, a2, a3, a4⟩ := ZjO [I a, d] fun x hx => by
  (simp only [List.mem_cons, List.not_mem_nil, or_false] at hx)
  rcases hx with rfl | rfl
  . exact Pd_i a
  . exact h
 have sh : SeqAt.shaped (.tuple as) = true := by
  have h1 : (PyData.tuple as).canLay0 = true := by rw [PyData.canLay0]; exact a2
  have h2 : (PyData.tuple as).depth <= 64 := by rw [PyData.depth]; omega
  simp only [SeqAt.shaped, h1, h2, decide_true, Bool.and_self]
 have e : (py (.node .tup false [I a, d])).bind (fun a' => (py (.node .tup false [I a, d])).bind fun b => eqPy a' b) = some true := by
  simp only [py, a1, Option.map_some, Option.bind_some]
  unfold eqPy
  rw [if_pos ⟨sh, sh⟩]
  simp only [PyData.eqv, a4]
 refine ⟨?_, e⟩
 show ((py (.node .tup false [I a, d])).bind (fun a' => (py (.node .tup false [I a, d])).bind fun b => eqPy a' b)).map (!·) = _
 rw [e]
 rfl
theorem ZkL {C : T.Ctx} {b : List S} {δ' : List D} : ∀ {a : List S} {δ : List D}, exs C a δ = .ok (.nx, δ') -> exs C (a ++ b) δ = exs C b δ'
 | [], δ, h => by rw [exs0] at h; cases h; rfl
 | s :: a, δ, h => by
  rw [exs1] at h
  rw [List.cons_append, exs1]
  generalize ex C s δ = r at h
  cases r with
  | ok z =>
   obtain ⟨f, δ1⟩ := z
   cases f with
   | nx => exact ZkL h
   | _ => cases h
  | exc x y => cases h
  | stuck => cases h
noncomputable abbrev Cl : T.Ctx := { C0 with lock := fun i => decide (i < 1) }
theorem Zgx (s x2 x5 x6 x8 : D) (p : Int) (z : Nat) (hz : z <= 60) (hs : List Int) (ts : List Th) (v : Iw p z hs ts) (DU TO : D)
 (hdu : Zbe.run [I p, .node .lst true (ts.map tD), Ls true hs] = .ok (DU, [I p, .node .lst true (ts.map tD), Ls true hs]))
 (hto : ZS.run [I p, .node .lst true (ts.map tD), I 1] = .ok (TO, [I p, .node .lst true (ts.map tD), I 1]))
 (hc : (DU = .sc .non /\ ((∃ ys, TO = .node .tup true [I 0, Ls false ys]) \/ TO = .node .tup true [I 3, .sc .non])) \/ ∃ c w, (w = .non \/ ∃ n, w = .int n) /\ DU = .node .tup true [I c, .sc w] /\ TO = .node .tup true [I c, .sc w]) :
 ∃ δ', exs Cl (ZcN.drop 9) [s, I p, x2, I z, .node .lst true (ts.map tD), x5, x6, Ls true hs, x8, .hole, .hole, .hole, .hole] = .ok (.rt (.sc (.bl true)), δ') := by
 have hl : ts.length = z := by have := v.len; omega
 have hq := Zly v.all
 have sh : shrL (ts.map tD) = ts.map tD := by
  rw [tD_B]
  exact Zgw _ fun q h => (hq q h).1.2.1
 have cs : ZaX .NotEq (.nd .lst (ts.map tD)) (.nd .lst (ts.map tD)) = some false := by
  refine Zrv _ fun d hd => ?_
  rw [tD_B] at hd
  obtain ⟨q, h1, rfl⟩ := List.mem_map.mp hd
  exact (hq q h1).2
 obtain ⟨a', hb⟩ := Zn2 (fun i => decide (1 <= i)) (fun _ _ => false) 0 rfl p z hs ts v ts 0 [] .hole rfl
 rw [List.nil_append, hl] at hb
 have hbl := Zha (ts.map tB) 0
 rw [List.length_map, hl] at hbl
 have hbf := ZjR (ts.map tB) 0
 have hto0 : ∀ n, ffx 0 (ts.map tB) = some n -> ZS.run [I p, .node .lst true (ts.map tD), I 0] = .ok (.node .tup true [I 1, I n], [I p, .node .lst true (ts.map tD), I 0]) := fun n hn => by
  rw [tD_B]
  exact ZkJ p n 0 _ (tb_l p _ _ (Zko p (ts.map tB) n (fun q h => (hq q h).1) (by rw [List.length_map]; omega) hn))
 generalize bads (0 : Nat) (ts.map tB) = bs at hb hbl hbf
 generalize ffx 0 (ts.map tB) = fx at hbf hto0
 generalize ts.map tD = tt at hdu hto sh cs hb hto0
 have k5 : Zbe.lend = true := rfl
 have k6 : ZS.lend = true := rfl
 have hit : itW .rng1 [.sc (.int (z : Int))] = some (dI (rngI 0 z)) := by
  have := ZiQ (z : Int) (by omega)
  rwa [Int.toNat_natCast] at this
 have ix0 : ∀ u v : D, ((ixN' 2 0).bind fun j => [u, v][j]?) = some u := fun u v => rfl
 have ix1 : ∀ u v : D, ((ixN' 2 1).bind fun j => [u, v][j]?) = some v := fun u v => rfl
 have hw : ∀ u v : D, newT [u, v] = some (.node .tup true [u, v]) := fun u v => by unfold newT; rw [if_pos (by rw [szl]; simp)]
 have hn0 : newL [] = some (.node .lst true []) := ZaS _ (by simp)
 have tyl : ∀ ds : List D, tyW .bool (.nd .lst ds) = some false := fun _ => rfl
 have tyn : tyW .bool (.sc .non) = some false := rfl
 have e30 : ¬ (3 : Int) = 0 := by decide
 unfold Cl ZcN
 simp only [List.drop_succ_cons, List.drop_zero, C0]
 rcases hc with ⟨rfl, ⟨ys, rfl⟩ | rfl⟩ | ⟨c, w, hw', rfl, rfl⟩
 . (simp_all [k5, k6, sh, hdu, hto, cs, ix0, ix1, ZdY, tyl, ZfF, Zw]) <;> exact ⟨_, rfl⟩
 . have te := (ZjS 3 (.sc .non) ⟨.none, rfl, rfl, Nat.zero_le _, rfl⟩).2
   (simp_all [k5, k6, sh, hdu, hto, cs, ix0, ix1, ZdY, tyn, ZfF, Zw, V.int.injEq, e30, hw, te]) <;> exact ⟨_, rfl⟩
 . have hpd : Pd (.sc w) := by
    rcases hw' with rfl | ⟨n, rfl⟩
    . exact ⟨.none, rfl, rfl, Nat.zero_le _, rfl⟩
    . exact Pd_i n
   have tyw : tyW .bool (.sc w) = some false := by rcases hw' with rfl | ⟨n, rfl⟩ <;> rfl
   have tn := (ZjS c (.sc w) hpd).1
   have hcm : ∀ b c e x y u o q : D, ZbD 1 [7, 4] (ZbE (fun _ _ => false) 0 1 (.name 0) [.or (.isN true (.ix (.v 2) (.v 0))) (.cmp .In (.v 0) (.v 1))] (.v 0) (dI (rngI 0 z)) []) [s, I p, x2, b, .node .lst true tt, c, e, Ls true hs, x, y, u, o, q] = .ok (Ls true bs, [s, I p, x2, b, .node .lst true tt, c, e, Ls true hs, x, y, u, o, q]) := fun b c e x y u o q => by
    replace hb : ZbE (fun _ _ => false) 0 1 (.name 0) [.or (.isN true (.ix (.v 2) (.v 0))) (.cmp .In (.v 0) (.v 1))] (.v 0) (dI (rngI 0 z)) [] [.hole, Ls true hs, .node .lst true tt] = _ := hb
    rw [ZbP (js := [7, 4]) (caps := [Ls true hs, .node .lst true tt]) (δ1 := [s, I p, x2, b, .hole, c, e, .hole, x, y, u, o, q]) rfl hb (by rw [Zbx, szl]; omega)]
    rfl
   rcases hbf with rfl | ⟨n, r, rfl, hn, hle⟩
   . have q0 : ZaX .Eq (.nd .lst []) (.nd .lst []) = some true := by kernel_rfl
     simp only [Ls, Zek] at hcm
     (simp_all [k5, k6, sh, hdu, hto, cs, ix0, ix1, ZdY, tyw, Zfk, tn, hit, hcm, hn0, q0, Zw]) <;> exact ⟨_, rfl⟩
   . have q1 : ZaX .Eq (.nd .lst (dI (n :: r))) (.nd .lst []) = some (decide (n :: r = [])) := ZnR (n :: r) []
     rw [decide_eq_false (by simp)] at q1
     have hm : bfW .minL [.nd .lst (dI (n :: r))] = some (I n) := by
      show (Zbu (dI (n :: r))).bind _ = _
      rw [ZdX]
      show some (I (ZbK n r)) = _
      rw [hle]
     have hto0 := hto0 n hn
     have te := (ZjS 1 (I n) (Pd_i n)).2
     have shb : shrL (dI (n :: r)) = dI (n :: r) := Zw _
     simp only [Ls] at hcm
     generalize dI (n :: r) = dn at hcm q1 hm shb
     (simp_all [k5, k6, sh, hdu, hto, hto0, cs, ix0, ix1, ZdY, tyw, Zfk, tn, te, hit, hcm, hn0, q1, hm, hw, shb, Zw]) <;> exact ⟨_, rfl⟩
theorem Zmz (h0 : lk 0 = false) (p : Int) (hp : 0 < p) (ns : List Int) : ∀ (n i : Nat) (acc : List Int) (a : D), (∀ y ∈ acc, 0 <= y /\ y < p) -> ∃ (ys : List Int) (a' : D), ys.length = acc.length + n /\ (∀ y ∈ ys, 0 <= y /\ y < p) /\
 ZaR (asgT lk (.name 0)) (tsts ⟨lk, fok, fuel⟩ []) (evb ⟨lk, fok, fuel⟩ (.bin .Mod (.call ZG [.v 2, .bin .Add (.k (.int 3)) (.v 0)]) (.v 1))).1 (dI (rngI i n)) (dI acc) [a, I p, scr ns] = .ok (dI ys, [a', I p, scr ns]) := by
 intro n
 induction n with
 | zero => exact fun i acc a ha => ⟨acc, a, rfl, ha, rfl⟩
 | succ n ih =>
  intro i acc a ha
  have hr := Zf0 ns (3 + i)
  have e3 : ((3 + i : Nat) : Int) = 3 + (i : Int) := by omega
  rw [e3] at hr
  obtain ⟨ys, a', hy, hs, ih⟩ := ih (i + 1) (acc ++ [ns.getD (3 + i) 0 % p]) (I i) (fun y hy => by
   rcases List.mem_append.mp hy with h | h
   . exact ha y h
   . rw [List.mem_singleton.mp h]
     exact ⟨Int.emod_nonneg _ (by omega), Int.emod_lt_of_pos _ hp⟩)
  refine ⟨ys, a', by rw [hy, List.length_append, List.length_singleton]; omega, hs, ?_⟩
  have e1 : ((i + 1 : Nat) : Int) = (i : Int) + 1 := by omega
  rw [e1, Zdr] at ih
  rw [<- ih, rngI, ZaC, ZcE]
  have l1 : ZG.lend = true := rfl
  simp only [scr] at hr
  simp_all [h0, l1, hr, Za4 _ _ hp]
theorem Zm0 (p r1 r2 r3 : Int) (hp : 5 <= p) (a1 : 0 <= r1) (a2 : r1 < p + 4) (b1 : 0 <= r2) (b2 : r2 < 2) (c1 : 0 <= r3) (c2 : r3 < 4) : ∃ (k : Int) (z : Nat), (z : Int) <= p + 3 /\ ((ixN' 4 r3).bind fun j => [D.sc (.int 0), D.sc (.int 0), D.sc (.int 1), D.sc (.int 2)][j]?) = some (.sc (.int k)) /\ ((ixN' 3 k).bind fun j => [D.sc (.int r1), D.sc (.int (p + 1)), D.sc (.int r2)][j]?) = some (.sc (.int z)) := by
 have hb : ∀ k : Nat, k < 4 -> 0 <= ([0, 0, 1, 2] : List Int).getD k 0 /\ ([0, 0, 1, 2] : List Int).getD k 0 < 3 := by decide
 obtain ⟨b1', b2'⟩ := hb r3.toNat (by omega)
 have e1 := ixI [0, 0, 1, 2] r3 c1 (by simpa using c2)
 generalize ([0, 0, 1, 2] : List Int).getD r3.toNat 0 = k at b1' b2' e1
 have e2 := ixI [r1, p + 1, r2] k b1' (by simpa using b2')
 have hg : ∃ z : Nat, [r1, p + 1, r2].getD k.toNat 0 = (z : Int) /\ (z : Int) <= p + 3 := by
  have : k.toNat = 0 \/ k.toNat = 1 \/ k.toNat = 2 := by omega
  rcases this with h | h | h <;> rw [h]
  . exact ⟨r1.toNat, (Int.toNat_of_nonneg a1).symm, by omega⟩
  . show ∃ z : Nat, p + 1 = (z : Int) /\ (z : Int) <= p + 3
    exact ⟨(p + 1).toNat, (Int.toNat_of_nonneg (by omega)).symm, by omega⟩
  . exact ⟨r2.toNat, (Int.toNat_of_nonneg b1).symm, by omega⟩
 obtain ⟨z, hz, hz2⟩ := hg
 rw [hz] at e2
 exact ⟨k, z, hz2, e1, e2⟩
theorem Zn3 (ns : List Int) (h : ns.length <= 63) : ∃ ds', Zlw.run [scr ns] = .ok (.sc (.bl true), ds') := by
 obtain ⟨p, hp1, hp2, hpr, hp⟩ := Zmo (ns.getD 0 0)
 have hpp : 0 < p := by omega
 have n0 : ZG.run [scr ns, I 0] = .ok (I (ns.getD 0 0), [scr ns, I 0]) := Zf0 ns 0
 have n1 : ZG.run [scr ns, I 1] = .ok (I (ns.getD 1 0), [scr ns, I 1]) := Zf0 ns 1
 have n2 : ZG.run [scr ns, I 2] = .ok (I (ns.getD 2 0), [scr ns, I 2]) := Zf0 ns 2
 generalize ns.getD 0 0 = w0 at n0 hp
 generalize ns.getD 1 0 = w1 at n1
 generalize ns.getD 2 0 = w2 at n2
 obtain ⟨m0, hs0⟩ := Zh7 w1
 obtain ⟨r1, m1, t1, a1, a2, hn1⟩ := ZbY w1 m0 0 (p + 4) (by omega) (by omega)
 obtain ⟨r2, m2, t2, b1, b2, hn2⟩ := ZbY w1 m1 t1 2 (by decide) (by decide)
 obtain ⟨r3, m3, t3, c1, c2, hn3⟩ := ZbY w1 m2 t2 4 (by decide) (by decide)
 obtain ⟨r4, m4, t4, d1, d2, hn4⟩ := ZbY w1 m3 t3 20 (by decide) (by decide)
 obtain ⟨m5, hs5⟩ := Zh7 w2
 obtain ⟨r5, m6, t6, g1, g2, hn6⟩ := ZbY w2 m5 0 3 (by decide) (by decide)
 obtain ⟨k, z, hz, hk, hkz⟩ := Zm0 p r1 r2 r3 hp1 a1 a2 b1 b2 c1 c2
 obtain ⟨xs, a0, hxl, hxs, hrow⟩ := Zmz (fun i => decide (1 <= i)) (fun _ _ => false) 0 rfl p hpp ns z 0 [] .hole (by simp)
 rw [List.length_nil, Nat.zero_add] at hxl
 have hit : itW .rng1 [.sc (.int (z : Int))] = some (dI (rngI 0 z)) := by
  have := ZiQ (z : Int) (by omega)
  rwa [Int.toNat_natCast] at this
 have hcm : ∀ a b c d e f g i j k o : D, ZbD 1 [1, 0] (ZbE (fun _ _ => false) 0 1 (.name 0) [] (.bin .Mod (.call ZG [.v 2, .bin .Add (.k (.int 3)) (.v 0)]) (.v 1)) (dI (rngI 0 z)) []) [scr ns, I p, a, b, c, d, e, f, g, i, j, k, o] = .ok (Ls true xs, [scr ns, I p, a, b, c, d, e, f, g, i, j, k, o]) := fun a b c d e f g i j k o => by
  replace hrow : ZbE (fun _ _ => false) 0 1 (.name 0) [] (.bin .Mod (.call ZG [.v 2, .bin .Add (.k (.int 3)) (.v 0)]) (.v 1)) (dI (rngI 0 z)) [] [.hole, I p, scr ns] = _ := hrow
  rw [ZbP (js := [1, 0]) (caps := [I p, scr ns]) (δ1 := [.hole, .hole, a, b, c, d, e, f, g, i, j, k, o]) rfl hrow (by rw [Zbx, hxl, szl]; omega)]
  rfl
 obtain ⟨os, a4, hol, hos, hnl⟩ := Zkp (fun j => decide (j < 1) || walked [.v 3] j) (fun _ _ => false) 0 rfl rfl ns p (2 + r4) hpp hp2 (by omega) (.node .lst true [I w1, I m4, I t4]) (I z) .hole .hole .hole .hole .hole .hole z 0 (xs.map some) .hole (by rw [List.length_map]; omega) (by
  rw [show fill (xs.map some) = xs from by unfold fill; rw [List.map_map]; exact List.map_id' xs]
  exact hxs)
 rw [Zpk] at hnl
 rw [List.length_map, hxl] at hol
 have ci : ((0 : Nat) : Int) = 0 := rfl
 rw [ci] at hnl
 simp only [walked, Bool.or_false] at hnl
 have k1 : ZG.lend = true := rfl
 have k2 : Zcx.lend = true := rfl
 have k3 : Zbs.lend = true := rfl
 have k4 : Z9.lend = true := rfl
 have hn0 : newL [] = some (.node .lst true []) := ZaS _ (by simp)
 have hw3 : ∀ u v w : D, newL [u, v, w] = some (.node .lst true [u, v, w]) := fun u v w => ZaS _ (by rw [szl]; simp)
 have hw4 : ∀ u v w y : D, newL [u, v, w, y] = some (.node .lst true [u, v, w, y]) := fun u v w y => ZaS _ (by rw [szl]; simp)
 have hst := Iw.start p os hos
 rw [hol] at hst
 show ∃ ds', Zg C0 1 13 ZcN [scr ns] = .ok (.sc (.bl true), ds')
 rw [runA (show [scr ns].length = 1 from rfl)]
 rw [<- List.take_append_drop 9 ZcN]
 suffices hf : ∃ (x2 x5 x6 x8 : D) (hs : List Int) (ts : List Th), Iw p z hs ts /\ (hs = [] -> ts = os.map oT) /\ exs Cl (ZcN.take 9) ([scr ns] ++ List.replicate (13 - 1) .hole) = .ok (.nx, [scr ns, I p, x2, I z, .node .lst true (ts.map tD), x5, x6, Ls true hs, x8, .hole, .hole, .hole, .hole]) by
  obtain ⟨x2, x5, x6, x8, hs, ts, v, hnil, hf⟩ := hf
  rw [ZkL hf]
  suffices ht : ∃ δ', exs Cl (ZcN.drop 9) [scr ns, I p, x2, I z, .node .lst true (ts.map tD), x5, x6, Ls true hs, x8, .hole, .hole, .hole, .hole] = .ok (.rt (.sc (.bl true)), δ') by
   obtain ⟨δ', ht⟩ := ht
   rw [ht]
   exact ⟨_, rfl⟩
  cases hs with
  | cons i is =>
   refine Zgx _ _ _ _ _ p z (by omega) _ ts v _ _ (Zpz p _ i is) (ZkJ p _ 1 _ (tb_m p _ _ (Zmv p hpp ts _ v.all (by have := v.len; omega) v.first))) (.inr ⟨1, .int (ZbK i is), .inr ⟨_, rfl⟩, rfl, rfl⟩)
  | nil =>
   have e := hnil rfl
   subst e
   have dz := Zrw p os
   have e0 : (os.map oT).map tD = dO os := oT_D os
   by_cases q1 : (os.length : Int) < 2 \/ p < (os.length : Int)
   . rw [if_pos q1] at dz
     exact Zgx _ _ _ _ _ p z (by omega) _ _ v _ _ (by rw [e0]; exact dz) (by rw [e0]; exact Zpx p _ 1 _ (tb_m p _ _ (Zmw p os hpp (by omega) (by omega) hos q1))) (.inr ⟨2, .int os.length, .inr ⟨_, rfl⟩, rfl, rfl⟩)
   . rw [if_neg q1] at dz
     by_cases q2 : 2 < (holes 0 os).length
     . rw [if_pos q2] at dz
       exact Zgx _ _ _ _ _ p z (by omega) _ _ v _ _ (by rw [e0]; exact dz) (by rw [e0]; exact ZkK p 1 _ (tb_m p _ _ (Zcz p os _ hpp (by omega) (by omega) (by omega) hos (.inl ⟨q2, rfl⟩)))) (.inr ⟨3, .non, .inl rfl, rfl, rfl⟩)
     . rw [if_neg q2] at dz
       rcases Zlz p hpr hp1 hp2 os (by omega) (by omega) hos with ⟨ys, hm⟩ | hm
       . exact Zgx _ _ _ _ _ p z (by omega) _ _ v _ _ (by rw [e0]; exact dz) (by rw [e0]; exact Zpw p _ ys hm) (.inl ⟨rfl, .inl ⟨ys, rfl⟩⟩)
       . exact Zgx _ _ _ _ _ p z (by omega) _ _ v _ _ (by rw [e0]; exact dz) (by rw [e0]; exact ZkK p 1 _ (tb_m p _ _ hm)) (.inl ⟨rfl, .inr rfl⟩)
 unfold Cl ZcN
 simp only [List.take_succ_cons, List.take_zero, List.replicate, Nat.reduceSub, C0]
 simp only [scr] at hcm n0 n1 n2 hnl ⊢
 by_cases hodd : 0 < r5 /\ 0 < (z : Int)
 . obtain ⟨hr5, hz0⟩ := hodd
   obtain ⟨r7, m7, t7, q3, q4, hn7⟩ := ZbY w2 m6 t6 2 (by decide) (by decide)
   obtain ⟨hs, ts, m8, t8, a8, hhl, hv, hlp⟩ := Zn1 (fun j => decide (j < 1) || walked [.bin .Add (.k (.int 1)) (.call Z9 [.v 2, .k (.int 2)])] j) (fun _ _ => false) 0 rfl rfl rfl rfl (D.node .frl false (ns.map fun i => D.sc (.int i))) (I (2 + r4)) a4 .hole .hole .hole .hole p z w2 hpp hp2 hz0 (by omega) (1 + r7).toNat 0 [] (os.map oT) m7 t7 .hole rfl (by omega) hst
   rw [ci, oT_D] at hlp
   simp only [walked, Bool.or_false, Ls, Zek] at hlp
   have hit2 := ZiQ (1 + r7) (by omega)
   refine ⟨.node .lst true [I w2, I m8, I t8], I (2 + r4), a4, a8, hs, ts, hv, fun e => ?_, ?_⟩
   . rw [e, List.length_nil] at hhl; omega
   . generalize ts.map tD = tt at hlp
     (simp_all [k1, k2, k3, k4, hp, n0, n1, n2, hs0, hn1, hn2, hn3, hn4, hk, hkz, hw3, hw4, hit, hcm, hnl, hs5, hn6, hn7, hr5, hz0, hn0, hit2, hlp, Zw, ZaW]) <;> rfl
 . refine ⟨.node .lst true [I w2, I m6, I t6], I (2 + r4), a4, .hole, [], os.map oT, hst, fun _ => rfl, ?_⟩
   rw [oT_D]
   by_cases hr5 : 0 < r5
   . have hz0 : ¬ 0 < (z : Int) := fun q => hodd ⟨hr5, q⟩
     (simp_all [k1, k2, k3, k4, hp, n0, n1, n2, hs0, hn1, hn2, hn3, hn4, hk, hkz, hw3, hw4, hit, hcm, hnl, hs5, hn6, hr5, hz0, hn0, Zw, ZaW]) <;> rfl
   . (simp_all [k1, k2, k3, k4, hp, n0, n1, n2, hs0, hn1, hn2, hn3, hn4, hk, hkz, hw3, hw4, hit, hcm, hnl, hs5, hn6, hr5, hn0, Zw, ZaW]) <;> rfl
end My
open PySem PySem.W PyProof.Rows
set_option maxRecDepth 100000 in
set_option maxHeartbeats 0 in
theorem PySem.Challenge.cw_barlabel_k26_scanned_rows_refused_holds : PySem.Challenge.rw_barlabel_k26_scanned_rows_refused.Holds := by
 w_on; o_law; k_head; (case hw => w_witness2)
 k_fill
 refine T.ZmZ (l := PySem.Challenge.rw_barlabel_k26_scanned_rows_refused) (k := 6) (x := "_law_script") (R := fun _ => My.Zlw.run) rfl rfl ⟨rfl, by decide, by decide⟩ (fun w h Y => PySem.W.kIn_of Y) ?F (fun _ ns hl => My.Zn3 ns hl)
 case F =>
  intro w mg fa h KX G hmg
  refine' My.Zrm KX G hmg ?xx_a ?xl_a ?xs_a ?xg_a ?xk_a ?xn_a ?xe_a ?xj_a ?xp_a ?xr_a ?xf_a ?xx_b ?xl_b ?xs_b ?xg_b ?xk_b ?xx_c ?xl_c ?xs_c ?xg_c ?xk_c ?xx_d ?xl_d ?xs_d ?xg_d ?xk_d ?xx_e ?xl_e ?xs_e ?xg_e ?xk_e ?xx_f ?xl_f ?xs_f ?xg_f ?xk_f ?xx_g ?xl_g ?xs_g ?xg_g ?xk_g ?xx_h ?xl_h ?xs_h ?xg_h ?xk_h ?xx_i ?xl_i ?xs_i ?xg_i ?xk_i ?xx_j ?xl_j ?xs_j ?xg_j ?xk_j ?xh_j ?xc_j ?x0_j ?x1_j ?x2_j ?x3_j ?xx_k ?xl_k ?xs_k ?xg_k ?xk_k ?xx_l ?xl_l ?xs_l ?xg_l ?xk_l ?xx_m ?xl_m ?xs_m ?xg_m ?xk_m ?xh_m ?xc_m ?x0_m ?x1_m ?x2_m ?x3_m ?xi_m ?xx_n ?xl_n ?xs_n ?xg_n ?xk_n ?xh_n ?xc_n ?x0_n ?x1_n ?x2_n ?x3_n ?xo1 ?xo2 ?x0 ?y0 ?l0 ?c0 ?k0 ?x1 ?y1 ?l1 ?c1 ?k1 ?x2 ?l2 ?c2 ?k2 ?x3 ?l3 ?c3 ?k3 ?x4 ?l4 ?c4 ?k4 ?x5 ?l5 ?c5 ?k5 ?x6 ?l6 ?c6 ?k6 ?x7 ?l7 ?c7 ?k7 ?x8 ?l8 ?c8 ?k8 ?x9 ?l9 ?c9 ?k9 ?x10 ?l10 ?c10 ?k10 ?x11 ?l11 ?c11 ?k11 ?x12 ?l12 ?c12 ?k12 ?x13 ?l13 ?c13 ?k13 ?x14 ?l14 ?c14 ?k14 ?x15 ?l15 ?c15 ?k15 ?x16 ?l16 ?c16 ?k16 ?x17 ?l17 ?c17 ?k17 ?x18 ?l18 ?c18 ?k18 ?x19 ?l19 ?c19 ?k19 ?x20 ?l20 ?c20 ?k20 ?x21 ?l21 ?c21 ?k21 ?x22 ?l22 ?c22 ?k22 ?z0 ?z1 ?z2 ?z3 ?z4 ?z5 ?z6 ?z7 ?z8 ?z9 ?z10 ?zc0
  (case xx_a => k_is); (case xl_a => k_is); (case xs_a => k_is); (case xg_a => k_is); (case xk_a => k_is); (case xn_a => k_is)
  (case xe_a => simp [L2.Zj7]); (case xj_a => k_is); (case xp_a => k_is); (case xr_a => k_is); (case xf_a => k_is); (case xx_b => k_is)
  (case xl_b => k_is); (case xs_b => k_is); (case xg_b => k_is); (case xk_b => k_is); (case xx_c => k_is); (case xl_c => k_is)
  (case xs_c => k_is); (case xg_c => k_is); (case xk_c => k_is); (case xx_d => k_is); (case xl_d => k_is); (case xs_d => k_is)
  (case xg_d => k_is); (case xk_d => k_is); (case xx_e => k_is); (case xl_e => k_is); (case xs_e => k_is); (case xg_e => k_is)
  (case xk_e => k_is); (case xx_f => k_is); (case xl_f => k_is); (case xs_f => k_is); (case xg_f => k_is); (case xk_f => k_is)
  (case xx_g => k_is); (case xl_g => k_is); (case xs_g => k_is); (case xg_g => k_is); (case xk_g => k_is); (case xx_h => k_is)
  (case xl_h => k_is); (case xs_h => k_is); (case xg_h => k_is); (case xk_h => k_is); (case xx_i => k_is); (case xl_i => k_is)
  (case xs_i => k_is); (case xg_i => k_is); (case xk_i => k_is); (case xx_j => k_is); (case xl_j => k_is); (case xs_j => k_is)
  (case xg_j => k_is); (case xk_j => k_is); (case xh_j => k_is); (case xc_j => k_is); (case x0_j => k_is); (case x1_j => k_is)
  (case x2_j => k_is); (case x3_j => k_is); (case xx_k => k_is); (case xl_k => k_is); (case xs_k => k_is); (case xg_k => k_is)
  (case xk_k => k_is); (case xx_l => k_is); (case xl_l => k_is); (case xs_l => k_is); (case xg_l => k_is); (case xk_l => k_is)
  (case xx_m => k_is); (case xl_m => k_is); (case xs_m => k_is); (case xg_m => k_is); (case xk_m => k_is); (case xh_m => k_is)
  (case xc_m => k_is); (case x0_m => k_is); (case x1_m => k_is); (case x2_m => k_is); (case x3_m => k_is); (case xi_m => k_is)
  (case xx_n => k_is); (case xl_n => k_is); (case xs_n => k_is); (case xg_n => k_is); (case xk_n => k_is); (case xh_n => k_is)
  (case xc_n => k_is); (case x0_n => k_is); (case x1_n => k_is); (case x2_n => k_is); (case x3_n => k_is); (case xo1 => k_is)
  (case xo2 => k_is); (case x0 => k_is); (case y0 => k_is); (case l0 => k_is); (case c0 => k_is); (case k0 => k_is)
  (case x1 => k_is); (case y1 => k_is); (case l1 => k_is); (case c1 => k_is); (case k1 => k_is); (case x2 => k_is)
  (case l2 => k_is); (case c2 => k_is); (case k2 => k_is); (case x3 => k_is); (case l3 => k_is); (case c3 => k_is)
  (case k3 => k_is); (case x4 => k_is); (case l4 => k_is); (case c4 => k_is); (case k4 => k_is); (case x5 => k_is)
  (case l5 => k_is); (case c5 => k_is); (case k5 => k_is); (case x6 => k_is); (case l6 => k_is); (case c6 => k_is)
  (case k6 => k_is); (case x7 => k_is); (case l7 => k_is); (case c7 => k_is); (case k7 => k_is); (case x8 => k_is)
  (case l8 => k_is); (case c8 => k_is); (case k8 => k_is); (case x9 => k_is); (case l9 => k_is); (case c9 => k_is)
  (case k9 => k_is); (case x10 => k_is); (case l10 => k_is); (case c10 => k_is); (case k10 => k_is); (case x11 => k_is)
  (case l11 => k_is); (case c11 => k_is); (case k11 => k_is); (case x12 => k_is); (case l12 => k_is); (case c12 => k_is)
  (case k12 => k_is); (case x13 => k_is); (case l13 => k_is); (case c13 => k_is); (case k13 => k_is); (case x14 => k_is)
  (case l14 => k_is); (case c14 => k_is); (case k14 => k_is); (case x15 => k_is); (case l15 => k_is); (case c15 => k_is)
  (case k15 => k_is); (case x16 => k_is); (case l16 => k_is); (case c16 => k_is); (case k16 => k_is); (case x17 => k_is)
  (case l17 => k_is); (case c17 => k_is); (case k17 => k_is); (case x18 => k_is); (case l18 => k_is); (case c18 => k_is)
  (case k18 => k_is); (case x19 => k_is); (case l19 => k_is); (case c19 => k_is); (case k19 => k_is); (case x20 => k_is)
  (case l20 => k_is); (case c20 => k_is); (case k20 => k_is); (case x21 => k_is); (case l21 => k_is); (case c21 => k_is)
  (case k21 => k_is); (case x22 => k_is); (case l22 => k_is); (case c22 => k_is); (case k22 => k_is); (case z0 => k_is)
  (case z1 => k_is); (case z2 => k_is); (case z3 => k_is); (case z4 => k_is); (case z5 => k_is); (case z6 => k_is)
  (case z7 => k_is); (case z8 => k_is); (case z9 => k_is); (case z10 => k_is); (case zc0 => k_is)
