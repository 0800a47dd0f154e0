import PyProof.Rows.All
import Wide.All
import OpenK.AllK
import Wide.FinOn
import Lean
import PyProof.EqAt
import PyProof.EqKinds
import PyProof.TupleCall
import PySem.Challenge.RW_barlabel_k25_whole_scanned_rows
set_option Elab.async false
set_option compiler.extract_closed false
set_option linter.all false
set_option maxRecDepth 100000
set_option maxHeartbeats 4100000
abbrev Fg := PySem.W.Frag
namespace PySem.W.Fast
def tw5900619637069552197 := ()
def tw11082277404550778627 := ()
def tw320241549128425562 := ()
def tw18207378948780732951 := ()
def tw1484038259716951166 := ()
def tw17131965104798041703 := ()
def tw17687721809872705641 := ()
def tw5385162827580687431 := ()
def tw17936640633550735440 := ()
def tw5718252507907800185 := ()
def tw7175904396306942136 := ()
def tw3240436911489237364 := ()
def tw11373313888356137260 := ()
def tw12815832226602523808 := ()
def tw4817731168562933930 := ()
def tw8761432972237099913 := ()
def tw5589190789895990874 := ()
def tw15196342312293666556 := ()
def tw18327288652136236571 := ()
def tw14045174926902826869 := ()
def tw8367100199718838734 := ()
def tw6549548736611063583 := ()
def tw3365328469958773648 := ()
def tw13113410399285318144 := ()
def tw5751362922672066526 := ()
def tw15115001507211507952 := ()
def tw7446084882463131144 := ()
def tw8386842749361489642 := ()
def tw4886025485610203358 := ()
def tw17510314455307996771 := ()
def tw16549982099779209108 := ()
def tw6341324957033815177 := ()
def tw3794857115502590899 := ()
def tw16557896386378438780 := ()
def tw4693557310552343556 := ()
def tw17453338154819962657 := ()
def tw6903792868675121122 := ()
def tw15749995159006196144 := ()
def tw7857586319657441146 := ()
def tw5471909723485446124 := ()
def tw16468593523403858150 := ()
def tw7841925652340975049 := ()
def tw10815420266091886383 := ()
def tw4248002386148050023 := ()
def tw10435825490208650718 := ()
def tw7210589540023703900 := ()
def tw1706010916054137277 := ()
def tw2046477372121022388 := ()
def tw2246560806017611259 := ()
def tw11941278867957380844 := ()
def tw13288527798196193262 := ()
def tw10572851395269164835 := ()
def tw5295614758932115408 := ()
def tw2125644113661351019 := ()
def tw13115139849833941123 := ()
def tw6177266774187964974 := ()
def tw18117939528486894004 := ()
def tw4196163408726749018 := ()
def tw326030041271530954 := ()
def tw722910815254950788 := ()
def tw17777850347587837148 := ()
def tw7128709519756002587 := ()
def tw17182089689596890763 := ()
def tw14262526648981740486 := ()
def tw2653010931700891278 := ()
def tw12923244917240011912 := ()
def tw16595589833240252001 := ()
def tw865381959719915679 := ()
def tw16389421280541493070 := ()
def tw9564623523939343884 := ()
def tw9598447669978706527 := ()
def tw13248933646940159599 := ()
def tw12503203807086751299 := ()
def tw9800194581063821701 := ()
def tw18109701571527593824 := ()
def tw16950521943078621911 := ()
def tw9160832063656163182 := ()
def tw17738774995272895849 := ()
def tw2215164605784317554 := ()
def tw6100100762092225803 := ()
def tw12998835338396312518 := ()
def tw8689519030977143831 := ()
def tw5685246498951320287 := ()
def tw15723277203365023031 := ()
def tw14807211941251061137 := ()
def tw13642105708400596085 := ()
def tw10863598261455297431 := ()
def tw11736515014190873060 := ()
end PySem.W.Fast
namespace L2
open PySem PySem.Spec PyProof.Rows
noncomputable abbrev Key := Sum Int Str
noncomputable def Zoy : Key -> Value -> Bool
  | .inl k, v => Value.isInt k v
  | .inr x, v => Value.isStrOf x v
noncomputable def keyH (w : World) : Key -> Int
  | .inl k => hashInt k
  | .inr x => hashStr w x
theorem ZaJ : ∀ {k : Key} {v : Value}, Zoy k v = true -> (∃ i t, k = Sum.inl i /\ v = Value.int i t) \/ (∃ x t, k = Sum.inr x /\ v = Value.str x t)
  | .inl i, v, h => by
    obtain ⟨t, e⟩ := Value.isInt_shape (k := i) (v := v) h
    exact .inl ⟨i, t, rfl, e⟩
  | .inr x, v, h => by
    obtain ⟨t, e⟩ := Value.isStrOf_shape (x := x) (v := v) h
    exact .inr ⟨x, t, rfl, e⟩
theorem Zqm (a b : Int) : decide ((Sum.inl a : Key) = Sum.inl b) = (a == b) := by
  by_cases e : a = b
  . subst e; simp
  . have h : ¬ (Sum.inl a : Key) = Sum.inl b := fun q => e (Sum.inl.inj q)
    rw [decide_eq_false h]
    exact (beq_eq_false_iff_ne.mpr e).symm
theorem Zqn (a b : Str) : decide ((Sum.inr a : Key) = Sum.inr b) = decide (a = b) := by
  by_cases e : a = b
  . subst e; simp
  . have h : ¬ (Sum.inr a : Key) = Sum.inr b := fun q => e (Sum.inr.inj q)
    rw [decide_eq_false h, decide_eq_false e]
theorem Zqo (a : Int) (b : Str) : decide ((Sum.inl a : Key) = Sum.inr b) = false := decide_eq_false (fun q => nomatch q)
theorem Zqp (a : Str) (b : Int) : decide ((Sum.inr a : Key) = Sum.inl b) = false := decide_eq_false (fun q => nomatch q)
noncomputable def Zh6 (prog : Program) (w : World) : PySem.KeyKind prog w Key where
  is := Zoy
  hash := keyH w
  inj := fun v a b ha hb => by
    rcases ZaJ ha with ⟨i, t, rfl, rfl⟩ | ⟨x, t, rfl, rfl⟩
    . rcases ZaJ hb with ⟨j, u, rfl, e⟩ | ⟨y, u, rfl, e⟩
      . injection e with e1 _; rw [e1]
      . exact nomatch e
    . rcases ZaJ hb with ⟨j, u, rfl, e⟩ | ⟨y, u, rfl, e⟩
      . exact nomatch e
      . injection e with e1 _; rw [e1]
  byValue := fun k v h => by
    rcases ZaJ h with ⟨i, t, rfl, rfl⟩ | ⟨x, t, rfl, rfl⟩ <;> rfl
  pyHash := fun hv h => by
    rcases ZaJ hv with ⟨i, t, rfl, rfl⟩ | ⟨x, t, rfl, rfl⟩
    . exact wpAny_pyHash_int h
    . exact wpAny_pyHash_str h
  eqBool := fun hu hv h => by
    rcases ZaJ hu with ⟨i, t, rfl, rfl⟩ | ⟨x, t, rfl, rfl⟩
    . rcases ZaJ hv with ⟨j, u, rfl, rfl⟩ | ⟨y, u, rfl, rfl⟩
      . rw [Zqm] at h; exact wpAny_eqBool_int h
      . rw [Zqo] at h; exact SeqAt.EqAt.int_str i t y u _ _ _ _ h
    . rcases ZaJ hv with ⟨j, u, rfl, rfl⟩ | ⟨y, u, rfl, rfl⟩
      . rw [Zqp] at h; exact SeqAt.EqAt.str_int x t j u _ _ _ _ h
      . rw [Zqn] at h; exact wpAny_eqBool_str h
  «strs» := fun k x t v h => by
    rcases ZaJ h with ⟨i, u, rfl, e⟩ | ⟨y, u, rfl, e⟩
    . exact nomatch e
    . injection e with e1 _
      subst e1
      cases v <;> rfl
end L2
namespace L2
open PySem PySem.Spec PyProof.Rows
inductive V where
  | non | bl (b : Bool) | int (i : Int) | str (x : Str) | byt (b : Array UInt8) | flt (b : UInt64) | ref (a : Addr) | ty (n : String)
  deriving DecidableEq
def RelV : V -> Value -> Prop
  | .non, u => u = Value.none
  | .bl b, u => u = Value.bool b
  | .int i, u => ∃ t, u = Value.int i t
  | .str x, u => ∃ t, u = Value.str x t
  | .byt b, u => ∃ t, u = Value.bytes b t
  | .flt b, u => ∃ t, u = Value.float b t
  | .ref a, u => u = Value.ref a
  | .ty n, u => u = Value.type n
abbrev Vals : List V -> List Value -> Prop := Paired RelV
theorem Vals.length {xs : List V} {us : List Value} (r : Vals xs us) : xs.length = us.length := Paired.length r
theorem Vals.get : ∀ {xs : List V} {us : List Value} {i : Nat} {x : V}, Vals xs us -> xs[i]? = some x -> ∃ u, us[i]? = some u /\ RelV x u
  | _, _, _, _, .nil, e => by simp at e
  | _, _, 0, _, .cons r _, e => by simp at e; subst e; exact ⟨_, rfl, r⟩
  | _, _, i + 1, x, .cons _ t, e => by
    obtain ⟨u, h1, h2⟩ := Vals.get (i := i) (x := x) t (by simpa using e)
    exact ⟨u, by simpa using h1, h2⟩
theorem Vals.set {x : V} {u : Value} (r : RelV x u) : ∀ {xs : List V} {us : List Value} (i : Nat), Vals xs us -> Vals (xs.set i x) (us.set i u)
  | _, _, _, .nil => .nil
  | _, _, 0, .cons _ t => .cons r t
  | _, _, i + 1, .cons q t => .cons q (Vals.set r i t)
theorem Vals.append : ∀ {xs ys : List V} {us ws : List Value}, Vals xs us -> Vals ys ws -> Vals (xs ++ ys) (us ++ ws)
  | _, _, _, _, .nil, s => s
  | _, _, _, _, .cons r t, s => .cons r (Vals.append t s)
theorem Vals.take : ∀ {xs : List V} {us : List Value} (n : Nat), Vals xs us -> Vals (xs.take n) (us.take n)
  | _, _, 0, _ => .nil
  | _, _, _ + 1, .nil => .nil
  | _, _, n + 1, .cons r t => .cons r (Vals.take n t)
theorem Vals.drop : ∀ {xs : List V} {us : List Value} (n : Nat), Vals xs us -> Vals (xs.drop n) (us.drop n)
  | _, _, 0, r => r
  | _, _, _ + 1, .nil => .nil
  | _, _, n + 1, .cons _ t => Vals.drop n t
def RelO : Option V -> Option Value -> Prop
  | some v, some u => RelV v u
  | none, none => True
  | _, _ => False
def KV {κ : Type} : List (κ × V) -> List (κ × Value) -> Prop := Paired fun (p : κ × V) (q : κ × Value) => p.1 = q.1 /\ RelV p.2 q.2
noncomputable def kV : Key -> V
  | .inl i => .int i
  | .inr x => .str x
inductive HO where
  | lst (xs : List V)
  | tup (xs : List V)
  | dK (kvs : List (Key × V)) | dT (kvs : List (List Key × V))
  | set (S : Int -> Bool) (n : Nat)
  | ins (C dx : Addr) (fs : List (Str × V))
  | own (x : Addr)
  | xd (fs : List (Str × V))
  | met (f x : Addr)
  | rng (lo hi : Int)
  | frz (o : Obj) (u : HO)
  | tbl (ps : Array Value)
  | ext (φ : Heap -> Prop)
  | exc (C : Addr) (dx : Option Addr) (fr : Bool) (fs : List (Str × V))
noncomputable abbrev Hp := Addr -> Option HO
noncomputable def upd (H : Hp) (a : Addr) (o : HO) : Hp := fun b => if b = a then some o else H b
theorem ZB {H : Hp} {a : Addr} {o : HO} : upd H a o a = some o := by unfold upd; rw [if_pos rfl]
theorem ZC {H : Hp} {a b : Addr} {o : HO} (h : b ≠ a) : upd H a o b = H b := by unfold upd; rw [if_neg h]
theorem Zlt {H : Hp} {a : Addr} {o u : HO} : upd (upd H a o) a u = upd H a u := by
  funext b; unfold upd; split <;> rfl
theorem Zbf {H : Hp} {a b : Addr} {o : HO} (h : H a = some o) (h' : H b = none) : a ≠ b := by
  intro e; subst e; rw [h] at h'; cases h'
section
variable (P : Program) (w : World)
def Zaw (H : Hp) (h : Heap) (a : Addr) : HO -> Prop
  | .lst xs => xs.length <= sizeLine /\ ∃ (its : List Value) (n : Nat), Vals xs its /\ h.get? a = some { cls := .type "list", data := .seq its.toArray n }
  | .tup xs => xs.length <= sizeLine /\ ∃ its : List Value, Vals xs its /\ IsTup h a its.toArray
  | .dK kvs => kvs.length <= sizeLine /\ (a == sysModules) = false /\ ∃ vs, KV kvs vs /\ h.DictOf (Zh6 P w) a vs
  | .dT kvs => kvs.length <= sizeLine /\ (a == sysModules) = false /\ ∃ xs : List (List Key × Addr × Value),
      Paired (fun (p : List Key × V) (q : List Key × Addr × Value) => p.1 = q.1 /\ H q.2.1 = some (.tup (p.1.map kV)) /\ RelV p.2 q.2.2) kvs xs /\
      ∃ o es ep, h.get? a = some o /\ o.ExactDict /\ o.data = .dict es ep /\ es.toList = xs.map (entryOfKey (tupleKind (Zh6 P w))) /\ (xs.map (·.1)).Nodup
  | .set S n => h.SetOf (intKind P w) a S n
  | .ins C dx fs => H dx = some (.own a) /\ fs.length <= 1000 /\ dx ≠ a /\ h.get? a = some (PySem.W.instObj C dx) /\
      ∃ mA, h.Ns1 dx mA /\ (∀ f, RelO (fs.lookup f) (mA f)) /\ PySem.Within mA (fs.map (·.1))
  | .own _ => ∃ o, h.get? a = some o
  | .xd fs => ∃ mA, h.Ns1 a mA /\ ∀ f, RelO (fs.lookup f) (mA f)
  | .rng lo hi => ∃ t u v, h.get? a = some { cls := .type "range", data := .fields #[.int lo t, .int hi u, .int 1 v] }
  | .frz o u => h.get? a = some o /\ Zaw H h a u
  | .tbl ps => h.get? a = some { cls := .none, data := .fields ps }
  | .met f x => h.get? a = some (PySem.W.methodObj (.ref f) (.ref x))
  | .exc C dx fr fs => fs.length <= 1000 /\ (∃ o vs, h.get? a = some o /\ o.cls = .ref C /\ o.dict = dx /\ o.data = .fields vs /\ vs.size = 6 /\ (fr = true -> vs[1]? = some .none)) /\
      match dx with
      | none => fs = []
      | some d => H d = some (.own a) /\ d ≠ a /\ ∃ mA, h.Ns1 d mA /\ (∀ f, RelO (fs.lookup f) (mA f)) /\ PySem.Within mA (fs.map (·.1))
  | .ext φ => φ h /\ (∃ o, h.get? a = some o) /\ ∀ h1 h2 : Heap, φ h1 -> (∀ o, h1.get? a = some o -> h2.get? a = some o) -> φ h2
def HOk (H : Hp) (h : Heap) : Prop := ∀ a o, H a = some o -> Zaw P w H h a o
end
section
variable {P : Program} {w : World} {H H' : Hp} {h h' : Heap} {a : Addr} {o : HO}
theorem Zaw.lt (x : Zaw P w H h a o) : a < h.objs.size := by
  cases o with
  | lst xs => obtain ⟨_, _, _, _, e⟩ := x; exact Heap.lt_size e
  | tup xs => obtain ⟨_, _, _, p⟩ := x; exact p.lt
  | dK kvs => obtain ⟨_, _, _, _, o, _, _, e, _⟩ := x; exact Heap.lt_size e
  | dT kvs => obtain ⟨_, _, _, _, o, _, _, e, _⟩ := x; exact Heap.lt_size e
  | set S n => obtain ⟨o, _, _, _, e, _⟩ := x; exact Heap.lt_size e
  | ins C dx fs => obtain ⟨_, _, _, e, _⟩ := x; exact Heap.lt_size e
  | own y => obtain ⟨_, e⟩ := x; exact Heap.lt_size e
  | xd fs => obtain ⟨_, ⟨_, _, _, e, _⟩, _⟩ := x; exact Heap.lt_size e
  | rng lo hi => obtain ⟨_, _, _, e⟩ := x; exact Heap.lt_size e
  | frz ob u => obtain ⟨e, _⟩ := x; exact Heap.lt_size e
  | tbl ps => exact Heap.lt_size (show h.get? a = some _ from x)
  | met f y => exact Heap.lt_size (show h.get? a = some _ from x)
  | ext φ => obtain ⟨_, ⟨_, e⟩, _⟩ := x; exact Heap.lt_size e
  | exc C dx fr fs => obtain ⟨_, ⟨_, _, e, _⟩, _⟩ := x; exact Heap.lt_size e
theorem Paired.mapP {α β : Type} {F G : α -> β -> Prop} : ∀ {l₁ : List α} {l₂ : List β}, Paired F l₁ l₂ -> (∀ a b, F a b -> G a b) -> Paired G l₁ l₂
  | _, _, .nil, _ => .nil
  | _, _, .cons r t, f => .cons (f _ _ r) (Paired.mapP t f)
theorem Zaw.stay (x : Zaw P w H h a o) (k : ∀ b u, (b = a \/ H b = some (.own a)) -> h.get? b = some u -> h'.get? b = some u)
    (ho : ∀ b, H b = some (.own a) -> H' b = some (.own a)) (ht : ∀ b xs, H b = some (.tup xs) -> H' b = some (.tup xs)) : Zaw P w H' h' a o := by
  induction o with
  | lst xs => obtain ⟨z, its, n, r, e⟩ := x; exact ⟨z, its, n, r, k _ _ (.inl rfl) e⟩
  | tup xs => obtain ⟨z, its, r, ob, e, c⟩ := x; exact ⟨z, its, r, ob, k _ _ (.inl rfl) e, c⟩
  | dK kvs => obtain ⟨z, y, vs, r, ob, es, ep, e, c⟩ := x; exact ⟨z, y, vs, r, ob, es, ep, k _ _ (.inl rfl) e, c⟩
  | dT kvs =>
    obtain ⟨z, y, xs, r, ob, es, ep, e, c⟩ := x
    exact ⟨z, y, xs, Paired.mapP r fun p q z => ⟨z.1, ht _ _ z.2.1, z.2.2⟩, ob, es, ep, k _ _ (.inl rfl) e, c⟩
  | set S n => obtain ⟨ob, es, ep, t, e, c⟩ := x; exact ⟨ob, es, ep, t, k _ _ (.inl rfl) e, c⟩
  | ins C dx fs =>
    obtain ⟨d, z, ne, e, mA, ⟨od, es, ep, e2, c⟩, r⟩ := x
    exact ⟨ho _ d, z, ne, k _ _ (.inl rfl) e, mA, ⟨od, es, ep, k _ _ (.inr d) e2, c⟩, r⟩
  | own y => obtain ⟨ob, e⟩ := x; exact ⟨ob, k _ _ (.inl rfl) e⟩
  | xd fs => obtain ⟨mA, ⟨od, es, ep, e, c⟩, r⟩ := x; exact ⟨mA, ⟨od, es, ep, k _ _ (.inl rfl) e, c⟩, r⟩
  | rng lo hi => obtain ⟨t, u, v, e⟩ := x; exact ⟨t, u, v, k _ _ (.inl rfl) e⟩
  | frz ob u ih => obtain ⟨e, q⟩ := x; exact ⟨k _ _ (.inl rfl) e, ih q⟩
  | tbl ps =>
    have e : h.get? a = some { cls := .none, data := .fields ps } := x
    show h'.get? a = some { cls := .none, data := .fields ps }
    exact k a _ (.inl rfl) e
  | met f y =>
    have e : h.get? a = some (PySem.W.methodObj (.ref f) (.ref y)) := x
    show h'.get? a = some (PySem.W.methodObj (.ref f) (.ref y))
    exact k a _ (.inl rfl) e
  | ext φ => obtain ⟨p, ⟨o, e⟩, st⟩ := x; exact ⟨st _ _ p fun o q => k _ _ (.inl rfl) q, ⟨o, k _ _ (.inl rfl) e⟩, st⟩
  | exc C dx fr fs =>
    obtain ⟨z, ⟨o, vs, e, q⟩, r⟩ := x
    refine ⟨z, ⟨o, vs, k _ _ (.inl rfl) e, q⟩, ?_⟩
    cases dx with
    | none => exact r
    | some d =>
      obtain ⟨r1, r2, mA, ⟨od, es, ep, e2, c⟩, r3⟩ := r
      exact ⟨ho _ r1, r2, mA, ⟨od, es, ep, k _ _ (.inr r1) e2, c⟩, r3⟩
theorem HOk.lt (x : HOk P w H h) (e : H a = some o) : a < h.objs.size := (x a o e).lt
theorem HOk.fresh (x : HOk P w H h) (e : h.objs.size <= a) : H a = none := by
  cases q : H a with
  | none => rfl
  | some u => exact absurd (Nat.lt_of_lt_of_le (x.lt q) e) (Nat.lt_irrefl _)
theorem HOk.kept (x : HOk P w H h) (k : ∀ b u, h.get? b = some u -> h'.get? b = some u) : HOk P w H h' := fun a o e =>
  (x a o e).stay (fun b u _ q => k b u q) (fun _ q => q) fun _ _ q => q
theorem HOk.laid (x : HOk P w H h) (k : ∀ b u, h.get? b = some u -> h'.get? b = some u) (hp : h.objs.size <= a) (new : Zaw P w (upd H a o) h' a o) : HOk P w (upd H a o) h' := fun b u e => by
  have hn := x.fresh hp
  by_cases hb : b = a
  . subst hb; rw [ZB] at e; cases e; exact new
  . rw [ZC hb] at e
    exact (x b u e).stay (fun c v _ q => k c v q) (fun c q => by rw [ZC (Zbf q hn)]; exact q) fun c xs q => by rw [ZC (Zbf q hn)]; exact q
end
def Rd (H : Hp) (a : Addr) (u : HO) : Prop := H a = some u \/ ∃ o, H a = some (.frz o u)
theorem Rd.ok {P : Program} {w : World} {H : Hp} {h : Heap} {a : Addr} {u : HO} (r : Rd H a u) (x : HOk P w H h) : Zaw P w H h a u := by
  rcases r with r | ⟨o, r⟩
  . exact x a u r
  . obtain ⟨_, q⟩ := x a _ r
    exact q
def Mut : Option HO -> Prop
  | some (.lst _) => True
  | some (.dK _) => True
  | some (.dT _) => True
  | some (.set _ _) => True
  | some (.ins _ _ _) => True
  | some (.ext _) => True
  | some (.exc _ _ _ _) => True
  | _ => False
section
variable {P : Program} {w : World} {H : Hp} {h h' : Heap} {x e : Addr} {o' : HO}
theorem HOk.write (ok : HOk P w H h) (mu : Mut (H x)) (he : e = x \/ H e = some (.own x)) (k : ∀ b u, b ≠ e -> h.get? b = some u -> h'.get? b = some u) (heo : ∃ u, h'.get? e = some u)
    (new : Zaw P w (upd H x o') h' x o') : HOk P w (upd H x o') h' := fun b u q => by
  have nown : ∀ c y, H c = some (.own y) -> c ≠ x := fun c y r z => by subst z; rw [r] at mu; exact mu
  have ntup : ∀ c xs, H c = some (.tup xs) -> c ≠ x := fun c xs r z => by subst z; rw [r] at mu; exact mu
  by_cases hb : b = x
  . subst hb; rw [ZB] at q; cases q; exact new
  . rw [ZC hb] at q
    by_cases hbe : b = e
    . have q' : H b = some (.own x) := by
        rcases he with z | z
        . exact absurd (hbe.trans z) hb
        . rw [hbe]; exact z
      rw [q] at q'; cases q'
      obtain ⟨v, hv⟩ := heo
      exact ⟨v, by rw [hbe]; exact hv⟩
    . refine (ok b u q).stay (fun c v hc r => k c v ?_ r) (fun c r => by rw [ZC (nown c b r)]; exact r) fun c xs r => by rw [ZC (ntup c xs r)]; exact r
      rcases hc with rfl | hc
      . exact hbe
      . rintro rfl
        rcases he with z | z
        . exact nown c b hc z
        . rw [hc] at z; cases z; exact hb rfl
end
structure Un (fs ex : List Addr) (H H' : Hp) (h h' : Heap) : Prop where
  keep : ∀ b o, h.get? b = some o -> H b = none -> b ∉ fs -> b ∉ ex -> h'.get? b = some o
  slot : ∀ b o, h.get? b = some o -> H b = none -> b ∈ fs -> b ∉ ex -> ∃ sl, h'.get? b = some { o with slots := sl }
  free : ∀ b o, h.get? b = some o -> H b = none -> b ∉ ex -> H' b = none
  there : ∀ b o, h.get? b = some o -> b ∉ ex -> ∃ o', h'.get? b = some o'
  tups : ∀ b xs, H b = some (.tup xs) -> H' b = some (.tup xs)
  frzs : ∀ b o u, H b = some (.frz o u) -> H' b = some (.frz o u)
  tbls : ∀ b ps, H b = some (.tbl ps) -> ∃ more, H' b = some (.tbl (ps ++ more))
section
variable {fs fs' ex ex' : List Addr} {H H1 H2 : Hp} {h h1 h2 h' : Heap} {a x e : Addr} {o : HO}
theorem Un.any (u : Un fs ex H H1 h h1) {b : Addr} {ob : Obj} (q : h.get? b = some ob) (n : H b = none) (hx : b ∉ ex) : ∃ sl, h1.get? b = some { ob with slots := sl } := by
  by_cases hb : b ∈ fs
  . exact u.slot b ob q n hb hx
  . exact ⟨ob.slots, u.keep b ob q n hb hx⟩
theorem Un.kept (k : ∀ b u, h.get? b = some u -> h'.get? b = some u) : Un fs ex H H h h' :=
  ⟨fun b ob q _ _ _ => k b ob q, fun b ob q _ _ _ => ⟨ob.slots, k b ob q⟩, fun _ _ _ n _ => n, fun b ob q _ => ⟨ob, k b ob q⟩, fun _ _ q => q, fun _ _ _ q => q, fun _ ps q => ⟨#[], by rw [q]; simp⟩⟩
theorem Un.refl : Un fs ex H H h h := Un.kept fun _ _ q => q
theorem Un.laid (k : ∀ b u, h.get? b = some u -> h'.get? b = some u) (hp : h.objs.size <= a) (hn : H a = none) : Un fs ex H (upd H a o) h h' where
  keep := fun b u q _ _ _ => k b u q
  slot := fun b u q _ _ _ => ⟨u.slots, k b u q⟩
  free := fun b u q n _ => by rw [ZC (Nat.ne_of_lt (Nat.lt_of_lt_of_le (Heap.lt_size q) hp))]; exact n
  there := fun b u q _ => ⟨u, k b u q⟩
  tups := fun b xs q => by rw [ZC (Zbf q hn)]; exact q
  frzs := fun b u xs q => by rw [ZC (Zbf q hn)]; exact q
  tbls := fun b ps q => ⟨#[], by rw [ZC (Zbf q hn), q]; simp⟩
theorem Un.write (mu : Mut (H x)) (he : e = x \/ H e = some (.own x)) (k : ∀ b u, b ≠ e -> h.get? b = some u -> h'.get? b = some u) (heo : ∃ u, h'.get? e = some u) : Un fs ex H (upd H x o) h h' := by
  have hx : ∀ b, H b = none -> b ≠ x := fun b n z => by subst z; rw [n] at mu; exact mu
  have hb : ∀ b, H b = none -> b ≠ e := fun b n z => by
    subst z
    rcases he with r | r
    . exact hx b n r
    . rw [n] at r; cases r
  have hm : ∀ b u, H b = some u -> ¬ Mut (some u) -> b ≠ x := fun b u q nm z => by subst z; rw [q] at mu; exact nm mu
  refine ⟨fun b u q n _ _ => k b u (hb b n) q, fun b u q n _ _ => ⟨u.slots, k b u (hb b n) q⟩, fun b u q n _ => by rw [ZC (hx b n)]; exact n, fun b u q _ => ?_,
    fun b xs q => by rw [ZC (hm b _ q fun z => z)]; exact q, fun b u xs q => by rw [ZC (hm b _ q fun z => z)]; exact q, fun b ps q => ⟨#[], by rw [ZC (hm b _ q fun z => z), q]; simp⟩⟩
  by_cases hbe : b = e
  . subst hbe; exact heo
  . exact ⟨u, k b u hbe q⟩
end
noncomputable def trk (h : Heap) (H : Hp) : List Addr := (List.range h.objs.size).filter fun a => (H a).isSome
noncomputable def hidT (h : Heap) (H : Hp) : Heap := PySem.W.hideAll h (trk h H)
theorem Zmw (h : Heap) (H : Hp) : (hidT h H).objs.size = h.objs.size := PySem.W.hideAll_size _ _
theorem Znu {h : Heap} {H : Hp} {b : Addr} {o : Obj} (e : h.get? b = some o) (n : H b = none) : (hidT h H).get? b = some o :=
  PySem.W.hideAll_get _ e fun hm => by
    have q : (H b).isSome = true := (List.mem_filter.mp hm).2
    rw [n] at q; simp at q
theorem ZoN {h : Heap} {H : Hp} {b : Addr} {o : Obj} (e : (hidT h H).get? b = some o) : h.get? b = some o /\ H b = none := by
  have e' : h.get? b = some o := PySem.W.of_hideAll (trk h H) e
  refine ⟨e', ?_⟩
  cases q : H b with
  | none => rfl
  | some x =>
    have hm : b ∈ trk h H := List.mem_filter.mpr ⟨List.mem_range.mpr (Heap.lt_size e'), by simp [q]⟩
    have z : (hidT h H).get? b = none := PySem.W.hideAll_none (trk h H) hm
    rw [z] at e; cases e
noncomputable def ZoO (g h : Heap) (L : Addr) : List (Addr × Obj) := (List.range h.objs.size).filterMap fun a => if a = L \/ (g.get? a).isSome = true then none else (h.get? a).map fun o => (a, o)
noncomputable def rest (g h : Heap) (L d : Addr) : List (Addr × Obj) := (ZoO g h L).filter fun p => decide (p.1 ≠ d)
end L2
namespace L2
open PySem PySem.Spec PyProof.Rows
structure Mod (K : Fg) (mg : Str -> Option Value) (base : Heap) : Prop where
  kin : K.In base
  glob : base.Ns mainGlobals mg
  blt : ∃ mb, base.Ns builtinsNs mb /\ ∀ x : Str, x ≠ "__name__" -> mb x = bootBuiltins x
  nolimit : base.NoLimit
structure Cx where
  prog : Program
  w : World
  K : Fg
  mg : Str -> Option Value
  base : Heap
  A : Around
  N : List Str
  s₀ : Shared
  H₀ : Hp
  env : Env
  outer : List Env
  stack : List Env
  ex : List Addr
  fn : Str -> Bool
  calm : Bool
  pn : List (Addr × Obj)
  xe : Value -> Shared -> Prop
noncomputable def frs (l : List Env) : List Addr := l.filterMap (·.frame)
noncomputable abbrev Cx.fs (X : Cx) : List Addr := frs X.outer
def Vis (sc : Scope) (x : Str) : Prop := sc.names.lookup x = some .local \/ sc.names.lookup x = some .cell \/ sc.names.lookup x = some .free
def Loc (sc : Scope) (x : Str) : Prop := sc.names.lookup x = some .local \/ sc.names.lookup x = some .cell
def Look (env : Env) (h : Heap) (m : Str -> Option Value) (x : Str) (u : Value) : Prop :=
  (env.kindOf x = some .local /\ m x = some u) \/ ((env.kindOf x = some .cell \/ env.kindOf x = some .free) /\ ∃ c, env.cells.lookup x = some c /\ h.IsCell c (some u))
structure Cx.Ok (X : Cx) : Prop where
  mod : Mod X.K X.mg X.base
  kind : X.env.scope.kind = .function
  glob : X.env.globals = mainGlobals
  blt : X.env.builtins = builtinsNs
  above : X.s₀.heap.objs.size <= X.env.locals
  inj : ∀ x y c, X.env.cells.lookup x = some c -> X.env.cells.lookup y = some c -> x = y
  has : ∀ x, (X.env.kindOf x = some .cell \/ X.env.kindOf x = some .free) -> ∃ c, X.env.cells.lookup x = some c
  cab : ∀ x c, X.fn x = true -> X.env.cells.lookup x = some c -> X.s₀.heap.objs.size <= c
  hd : X.calm = true -> X.A.handled = none
  frames : X.A.frames = some X.stack
  stk : X.stack = X.outer \/ (X.stack = X.env :: X.outer /\ X.env.frame = some X.env.locals)
  exf : ∀ b ∈ X.ex, b ≠ X.env.locals /\ ∀ x c, X.env.cells.lookup x = some c -> c ≠ b
  bs : ∀ b o, X.base.get? b = some o -> X.s₀.heap.get? b = some o /\ X.H₀ b = none
  bsz : X.base.objs.size <= X.s₀.heap.objs.size
  noex : ∀ b o, X.base.get? b = some o -> b ∉ X.ex
  exfs : ∀ b ∈ X.ex, b ∉ X.fs
  funs : X.s₀.heap.FunFrames X.base X.outer
  frf : ∀ b ∈ X.fs, X.H₀ b = none
structure Inv (X : Cx) (pins : List (Addr × Obj)) (σ : List (Option V)) (H : Hp) (s : Shared) : Prop where
  ok : X.Ok
  os : s.os = X.s₀.os
  bare : AllBare s.gens
  base : Un X.fs X.ex X.H₀ H X.s₀.heap s.heap
  loc : ∃ m, s.heap.Ns X.env.locals m /\ ∀ (i : Nat) (x : Str) (v : V), X.N[i]? = some x -> σ[i]? = some (some v) -> Vis X.env.scope x -> ∃ u, RelV v u /\ Look X.env s.heap m x u
  cell : ∀ x c, X.env.cells.lookup x = some c -> ∃ v, s.heap.IsCell c v
  free : H X.env.locals = none
  freeC : ∀ x c, X.env.cells.lookup x = some c -> H c = none
  pin : ∀ p ∈ X.pn ++ pins, s.heap.get? p.1 = some p.2 /\ H p.1 = none /\ p.1 ≠ X.env.locals /\ p.1 ∉ X.fs /\ ∀ v, p.2.data ≠ .cell v
  hok : HOk X.prog X.w H s.heap
  len : σ.length = X.N.length
section
variable {X : Cx} {pins : List (Addr × Obj)} {σ : List (Option V)} {H H' : Hp} {s : Shared} {h' : Heap}
theorem Cx.Ok.nofr (ok : X.Ok) {b : Addr} {o : Obj} (e : X.base.get? b = some o) : b ∉ X.fs := fun hb => by
  have := (ok.funs.mem hb).1
  rw [e] at this; cases this
theorem Inv.bs (I : Inv X pins σ H s) : ∀ b o, X.base.get? b = some o -> s.heap.get? b = some o /\ H b = none := fun b o e =>
  ⟨I.base.keep b o (I.ok.bs b o e).1 (I.ok.bs b o e).2 (I.ok.nofr e) (I.ok.noex b o e), I.base.free b o (I.ok.bs b o e).1 (I.ok.bs b o e).2 (I.ok.noex b o e)⟩
theorem Inv.bk (I : Inv X pins σ H s) : ∀ b o, X.base.get? b = some o -> s.heap.get? b = some o := fun b o e => (I.bs b o e).1
theorem Inv.mod (I : Inv X pins σ H s) : Mod X.K X.mg X.base := I.ok.mod
theorem Inv.kIn (I : Inv X pins σ H s) : X.K.In s.heap := I.ok.mod.kin.keeps I.bk
theorem Inv.lt (I : Inv X pins σ H s) : X.env.locals < s.heap.objs.size := let ⟨_, hn, _⟩ := I.loc; hn.lt
theorem Inv.sz (I : Inv X pins σ H s) : X.s₀.heap.objs.size <= s.heap.objs.size := Nat.le_trans I.ok.above (Nat.le_of_lt I.lt)
theorem Inv.nofs (I : Inv X pins σ H s) {a : Addr} (h : s.heap.objs.size <= a) : a ∉ X.fs := fun hb => by
  obtain ⟨_, o, ho, _⟩ := I.ok.funs.mem hb
  exact absurd (Nat.lt_of_lt_of_le (Heap.lt_size ho) (Nat.le_trans I.sz h)) (Nat.lt_irrefl _)
theorem Inv.cne (I : Inv X pins σ H s) : ∀ x c, X.env.cells.lookup x = some c -> c ≠ X.env.locals := fun x c e z => by
  obtain ⟨v, o, ho, hd⟩ := I.cell x c e
  obtain ⟨m, ⟨o', es, ep, ho', hd', _⟩, _⟩ := I.loc
  rw [z, ho'] at ho; cases ho; rw [hd'] at hd; cases hd
theorem Inv.funs (I : Inv X pins σ H s) : s.heap.FunFrames X.base X.outer := by
  have all : ∀ (l : List Env), (∀ b ∈ frs l, b ∈ X.fs) -> X.s₀.heap.FunFrames X.base l -> s.heap.FunFrames X.base l := by
    intro l
    induction l with
    | nil => intro _ _; trivial
    | cons env r ih =>
      intro hs hl
      obtain ⟨hk, ⟨L, o, hf, hn, ho, hd⟩, hr⟩ := hl
      have hL : L ∈ X.fs := hs L (by unfold frs; rw [List.filterMap_cons, hf]; exact List.mem_cons_self)
      obtain ⟨sl, e⟩ := I.base.slot L o ho (I.ok.frf L hL) hL fun z => I.ok.exfs L z hL
      exact ⟨hk, ⟨L, _, hf, hn, e, hd⟩, ih (fun b hb => hs b (by unfold frs; rw [List.filterMap_cons, hf]; exact List.mem_cons_of_mem _ hb)) hr⟩
  exact all X.outer (fun _ hb => hb) I.ok.funs
theorem Inv.stack (I : Inv X pins σ H s) : s.heap.FunFrames X.base X.stack := by
  rcases I.ok.stk with e | ⟨e, hf⟩
  . rw [e]; exact I.funs
  . rw [e]
    obtain ⟨m, hn, _⟩ := I.loc
    refine .cons (by rw [I.ok.kind]; decide) hf hn ?_ I.funs
    exact Heap.get?_none_of_le (Nat.le_trans I.ok.bsz I.ok.above)
theorem Inv.stkSub (I : Inv X pins σ H s) : ∀ b ∈ frs X.stack, b ∈ X.env.locals :: X.fs := fun b hb => by
  rcases I.ok.stk with e | ⟨e, hf⟩
  . rw [e] at hb; exact List.mem_cons_of_mem _ hb
  . rw [e] at hb
    unfold frs at hb
    rw [List.filterMap_cons, hf] at hb
    exact hb
theorem Inv.stkFree (I : Inv X pins σ H s) : ∀ b ∈ frs X.stack, H b = none := fun b hb => by
  rcases List.mem_cons.mp (I.stkSub b hb) with e | hb
  . rw [e]; exact I.free
  . obtain ⟨_, o, ho, _⟩ := I.ok.funs.mem hb
    exact I.base.free b o ho (I.ok.frf b hb) fun z => I.ok.exfs b z hb
theorem Inv.step {g' : Array GenState} {t' : Nat} {d' : Drawn} {ch : List Addr} (I : Inv X pins σ H s)
    (hch : ∀ b ∈ ch, (b ∈ X.ex \/ X.s₀.heap.objs.size <= b) /\ b ≠ X.env.locals /\ (∀ x c, X.env.cells.lookup x = some c -> c ≠ b) /\ ∀ p ∈ X.pn ++ pins, p.1 ≠ b)
    (keep : ∀ b o, b ≠ X.env.locals -> b ∉ X.fs -> b ∉ ch -> s.heap.get? b = some o -> H b = none -> h'.get? b = some o)
    (slot : ∀ b o, b ≠ X.env.locals -> b ∈ X.fs -> b ∉ ch -> s.heap.get? b = some o -> H b = none -> ∃ sl, h'.get? b = some { o with slots := sl }) (free : ∀ b o, b ∉ ch -> s.heap.get? b = some o -> H b = none -> H' b = none)
    (there : ∀ b o, b ∉ ch -> s.heap.get? b = some o -> ∃ o', h'.get? b = some o')
    (tups : ∀ b xs, H b = some (.tup xs) -> H' b = some (.tup xs)) (frzs : ∀ b o u, H b = some (.frz o u) -> H' b = some (.frz o u)) (tbls : ∀ b ps, H b = some (.tbl ps) -> ∃ more, H' b = some (.tbl (ps ++ more)))
    (ns : ∀ m, s.heap.Ns X.env.locals m -> h'.Ns X.env.locals m) (hok : HOk X.prog X.w H' h') (hg : AllBare g') :
    Inv X pins σ H' { s with heap := h', gens := g', drawn := d', toks := t' } := by
  have neL : ∀ b o, X.s₀.heap.get? b = some o -> b ≠ X.env.locals := fun b o e => Nat.ne_of_lt (Nat.lt_of_lt_of_le (Heap.lt_size e) I.ok.above)
  have neC : ∀ b o, X.s₀.heap.get? b = some o -> b ∉ X.ex -> b ∉ ch := fun b o e hx hb => by
    rcases (hch b hb).1 with z | z
    . exact hx z
    . exact absurd (Nat.lt_of_lt_of_le (Heap.lt_size e) z) (Nat.lt_irrefl _)
  have cellK : ∀ x c, X.env.cells.lookup x = some c -> ∀ v, s.heap.IsCell c v -> h'.IsCell c v := fun x c e v ⟨o, ho, hd⟩ => by
    have nch : c ∉ ch := fun z => (hch c z).2.2.1 x c e rfl
    by_cases hc : c ∈ X.fs
    . obtain ⟨sl, q⟩ := slot c o (I.cne x c e) hc nch ho (I.freeC x c e)
      exact ⟨_, q, hd⟩
    . exact ⟨o, keep c o (I.cne x c e) hc nch ho (I.freeC x c e), hd⟩
  refine ⟨I.ok, I.os, hg, ⟨fun b o e n hb hx => ?_, fun b o e n hb hx => ?_, fun b o e n hx => ?_, fun b o e hx => ?_, fun b xs e => tups b xs (I.base.tups b xs e), fun b o xs e => frzs b o xs (I.base.frzs b o xs e), fun b ps e => ?_⟩, ?_, fun x c e => ?_, ?_, fun x c e => ?_, fun p hp => ?_, hok, I.len⟩
  . exact keep b o (neL b o e) hb (neC b o e hx) (I.base.keep b o e n hb hx) (I.base.free b o e n hx)
  . obtain ⟨sl, e1⟩ := I.base.slot b o e n hb hx
    obtain ⟨sl', e2⟩ := slot b _ (neL b o e) hb (neC b o e hx) e1 (I.base.free b o e n hx)
    exact ⟨sl', e2⟩
  . obtain ⟨o', e1⟩ := I.base.there b o e hx
    exact free b o' (neC b o e hx) e1 (I.base.free b o e n hx)
  . obtain ⟨o', e1⟩ := I.base.there b o e hx
    exact there b o' (neC b o e hx) e1
  . obtain ⟨m1, e1⟩ := I.base.tbls b ps e
    obtain ⟨m2, e2⟩ := tbls b _ e1
    exact ⟨m1 ++ m2, by rw [e2, Array.append_assoc]⟩
  . obtain ⟨m, hn, hl⟩ := I.loc
    refine ⟨m, ns m hn, fun i x v e1 e2 e3 => ?_⟩
    obtain ⟨u, r, l⟩ := hl i x v e1 e2 e3
    refine ⟨u, r, ?_⟩
    rcases l with l | ⟨k, c, e, z⟩
    . exact .inl l
    . exact .inr ⟨k, c, e, cellK x c e _ z⟩
  . obtain ⟨v, z⟩ := I.cell x c e
    exact ⟨v, cellK x c e v z⟩
  . obtain ⟨m, ⟨o, _, _, ho, _⟩, _⟩ := I.loc
    exact free _ o (fun z => (hch _ z).2.1 rfl) ho I.free
  . obtain ⟨v, o, ho, hd⟩ := I.cell x c e
    exact free c o (fun z => (hch c z).2.2.1 x c e rfl) ho (I.freeC x c e)
  . obtain ⟨e, n, ne, nf, d⟩ := I.pin p hp
    have nch : p.1 ∉ ch := fun z => (hch p.1 z).2.2.2 p hp rfl
    exact ⟨keep p.1 p.2 ne nf nch e n, free p.1 p.2 nch e n, ne, nf, d⟩
theorem Inv.un {t' : Nat} (I : Inv X pins σ H s) (u : Un X.fs [] H H' s.heap h') (hok : HOk X.prog X.w H' h') : Inv X pins σ H' { s with heap := h', toks := t' } := by
  obtain ⟨m, ⟨o, es, ep, ho, r⟩, _⟩ := id I.loc
  obtain ⟨sl, hL⟩ := u.any ho I.free (by simp)
  exact I.step (g' := s.gens) (d' := s.drawn) (ch := []) (fun _ z => nomatch z) (fun b o _ hb _ e n => u.keep b o e n hb (by simp)) (fun b o _ hb _ e n => u.slot b o e n hb (by simp)) (fun b o _ e n => u.free b o e n (by simp)) (fun b o _ e => u.there b o e (by simp)) u.tups u.frzs u.tbls (fun m' hm => by
    obtain ⟨o', es', ep', ho', r'⟩ := hm
    rw [ho] at ho'; cases ho'
    exact ⟨_, es', ep', hL, r'⟩) hok I.bare
theorem Inv.call {g' : Array GenState} {t' : Nat} {d' : Drawn} {ch : List Addr} (I : Inv X pins σ H s) (u : Un (frs X.stack) ch H H' s.heap h') (hok : HOk X.prog X.w H' h') (hg : AllBare g')
    (hch : ∀ b ∈ ch, (b ∈ X.ex \/ X.s₀.heap.objs.size <= b) /\ b ≠ X.env.locals /\ (∀ x c, X.env.cells.lookup x = some c -> c ≠ b) /\ ∀ p ∈ X.pn ++ pins, p.1 ≠ b) :
    Inv X pins σ H' { s with heap := h', gens := g', drawn := d', toks := t' } := by
  obtain ⟨m, ⟨o, es, ep, ho, r⟩, _⟩ := id I.loc
  obtain ⟨sl, hL⟩ := u.any ho I.free fun z => (hch _ z).2.1 rfl
  exact I.step (ch := ch) hch (fun b o hL hb hc e n => u.keep b o e n (fun z => (List.mem_cons.mp (I.stkSub b z)).elim hL hb) hc) (fun b o _ _ hc e n => u.any e n hc) (fun b o hc e n => u.free b o e n hc) (fun b o hc e => u.there b o e hc) u.tups u.frzs u.tbls (fun m' hm => by
    obtain ⟨o', es', ep', ho', r'⟩ := hm
    rw [ho] at ho'; cases ho'
    exact ⟨_, es', ep', hL, r'⟩) hok hg
theorem Inv.turned {t' : Nat} {it : Addr} (I : Inv X pins σ H s) (k : ∀ b o, b ≠ it -> s.heap.get? b = some o -> h'.get? b = some o) (hn : H it = none) (hL : it ≠ X.env.locals)
    (h1 : it ∈ X.ex \/ X.s₀.heap.objs.size <= it) (h2 : ∀ x c, X.env.cells.lookup x = some c -> c ≠ it) (h3 : ∀ p ∈ X.pn ++ pins, p.1 ≠ it) : Inv X pins σ H { s with heap := h', toks := t' } := by
  have nit : ∀ b u, H b = some u -> b ≠ it := fun b u e z => by rw [z, hn] at e; cases e
  refine I.step (g' := s.gens) (d' := s.drawn) (ch := [it]) (fun b hb => ?_) (fun b o _ _ hc e _ => k b o (fun z => hc (by simp [z])) e) (fun b o _ _ hc e _ => ⟨o.slots, k b o (fun z => hc (by simp [z])) e⟩) (fun _ _ _ _ n => n)
    (fun b o hc e => ⟨o, k b o (fun z => hc (by simp [z])) e⟩) (fun _ _ e => e) (fun _ _ _ e => e) (fun b ps e => ⟨#[], by rw [e]; simp⟩) (fun m hm => ?_) (fun b u e => ?_) I.bare
  . have e : b = it := by simpa using hb
    subst e
    exact ⟨h1, hL, h2, h3⟩
  . obtain ⟨o, es, ep, ho, r⟩ := hm
    exact ⟨o, es, ep, k _ o (Ne.symm hL) ho, r⟩
  . refine (I.hok b u e).stay (fun c v hc q => k c v ?_ q) (fun _ q => q) fun _ _ q => q
    rcases hc with z | z
    . rw [z]; exact nit b u e
    . exact nit c _ z
theorem Inv.tok (I : Inv X pins σ H s) (t : Nat) : Inv X pins σ H { s with toks := t } := I.un (h' := s.heap) (t' := t) Un.refl I.hok
theorem Inv.kept {t' : Nat} (I : Inv X pins σ H s) (k : ∀ b u, s.heap.get? b = some u -> h'.get? b = some u) : Inv X pins σ H { s with heap := h', toks := t' } := I.un (Un.kept k) (I.hok.kept k)
theorem Inv.laid {a : Addr} {o : HO} {t' : Nat} (I : Inv X pins σ H s) (k : ∀ b u, s.heap.get? b = some u -> h'.get? b = some u) (hp : s.heap.objs.size <= a) (new : Zaw X.prog X.w (upd H a o) h' a o) :
    Inv X pins σ (upd H a o) { s with heap := h', toks := t' } := I.un (Un.laid k hp (I.hok.fresh hp)) (I.hok.laid k hp new)
theorem Inv.write {x e : Addr} {o : HO} {t' : Nat} (I : Inv X pins σ H s) (mu : Mut (H x)) (he : e = x \/ H e = some (.own x)) (k : ∀ b u, b ≠ e -> s.heap.get? b = some u -> h'.get? b = some u) (heo : ∃ u, h'.get? e = some u)
    (new : Zaw X.prog X.w (upd H x o) h' x o) : Inv X pins σ (upd H x o) { s with heap := h', toks := t' } := I.un (Un.write mu he k heo) (I.hok.write mu he k heo new)
theorem Inv.pins_of {pins' : List (Addr × Obj)} (I : Inv X pins σ H s) (h : ∀ p ∈ pins', s.heap.get? p.1 = some p.2 /\ H p.1 = none /\ p.1 ≠ X.env.locals /\ p.1 ∉ X.fs /\ ∀ v, p.2.data ≠ .cell v) : Inv X pins' σ H s :=
  ⟨I.ok, I.os, I.bare, I.base, I.loc, I.cell, I.free, I.freeC, fun p hp => (List.mem_append.mp hp).elim (fun z => I.pin p (List.mem_append_left _ z)) (h p), I.hok, I.len⟩
theorem Zif {N : List Str} (hN : N.Nodup) {i j : Nat} {x : Str} (a : N[i]? = some x) (b : N[j]? = some x) : i = j := by
  obtain ⟨h1, e1⟩ := List.getElem?_eq_some_iff.mp a
  obtain ⟨h2, e2⟩ := List.getElem?_eq_some_iff.mp b
  exact (List.getElem_inj hN).mp (e1.trans e2.symm)
theorem Zmx {M : Model} {A : Around} {E : Value -> Shared -> Prop} {i : Nat} {x : Str} {v : V} {u : Value} {Q : Unit -> Shared -> Prop} (I : Inv X pins σ H s) (hN : X.N.Nodup) (hi : X.N[i]? = some x) (hx : Loc X.env.scope x) (r : RelV v u)
    (h : ∀ s', Inv X pins (σ.set i (some v)) H s' -> (∃ a, Heap.SameBut a s.heap s'.heap /\ (a = X.env.locals \/ X.env.cells.lookup x = some a)) -> Q () s') (hf : X.fn x = true \/ X.env.scope.names.lookup x = some .local := by first | exact .inl rfl | exact .inr rfl | assumption) : wpAny M A (storeName X.env x u) Q E s := by
  obtain ⟨m, hn, hl⟩ := id I.loc
  have hcls : (X.env.scope.kind == .class || (X.env.scope.kind == .module && X.env.locals != X.env.globals)) = false := by rw [I.ok.kind]; rfl
  have hiσ : i < σ.length := by rw [I.len]; exact (List.getElem?_eq_some_iff.mp hi).1
  have cne := I.cne
  have tracked : ∀ {a : Addr} {h' : Heap}, (∃ o, s.heap.get? a = some o /\ H a = none) -> Heap.SameBut a s.heap h' -> HOk X.prog X.w H h' := fun {a h'} ha hs b ob e => by
    obtain ⟨_, _, hfree⟩ := ha
    refine (I.hok b ob e).stay (fun c w' hc q => (hs.2 c ?_).trans q) (fun _ q => q) fun _ _ q => q
    rintro rfl
    rcases hc with rfl | hc
    . rw [hfree] at e; cases e
    . rw [hfree] at hc; cases hc
  rcases hx with hk | hk
  . refine wpAny_storeName_local hk hn (fun h' hn' hs => ?_) hcls
    obtain ⟨oL, _, _, hoL, _⟩ := id hn
    refine h _ ⟨I.ok, I.os, I.bare, ⟨fun b o e n hb hx => ?_, fun b o e n hb hx => ?_, I.base.free, fun b o e hx => ?_, I.base.tups, I.base.frzs, I.base.tbls⟩, ⟨_, hn', fun j y v' e1 e2 e3 => ?_⟩, fun y c e => ?_, I.free, I.freeC, fun p hp => ?_, tracked ⟨oL, hoL, I.free⟩ hs, by simpa using I.len⟩ ⟨_, hs, .inl rfl⟩
    . exact (hs.2 b (Nat.ne_of_lt (Nat.lt_of_lt_of_le (Heap.lt_size e) I.ok.above))).trans (I.base.keep b o e n hb hx)
    . obtain ⟨sl, e1⟩ := I.base.slot b o e n hb hx
      exact ⟨sl, (hs.2 b (Nat.ne_of_lt (Nat.lt_of_lt_of_le (Heap.lt_size e) I.ok.above))).trans e1⟩
    . obtain ⟨o', e1⟩ := I.base.there b o e hx
      exact ⟨o', (hs.2 b (Nat.ne_of_lt (Nat.lt_of_lt_of_le (Heap.lt_size e) I.ok.above))).trans e1⟩
    . by_cases hj : j = i
      . subst hj
        rw [hi] at e1; cases e1
        rw [List.getElem?_set_self hiσ] at e2
        cases e2
        exact ⟨u, r, .inl ⟨hk, by simp⟩⟩
      . rw [List.getElem?_set_ne (Ne.symm hj)] at e2
        obtain ⟨u', r', q⟩ := hl j y v' e1 e2 e3
        refine ⟨u', r', ?_⟩
        rcases q with ⟨k, e⟩ | ⟨k, c, e, z⟩
        . refine .inl ⟨k, ?_⟩
          have : y ≠ x := fun e => hj (Zif hN e1 (e ▸ hi))
          simp [this, e]
        . exact .inr ⟨k, c, e, z.sameBut hs (cne y c e)⟩
    . obtain ⟨w', z⟩ := I.cell y c e
      exact ⟨w', z.sameBut hs (cne y c e)⟩
    . obtain ⟨e, n, ne, nf, d⟩ := I.pin p hp
      exact ⟨(hs.2 p.1 ne).trans e, n, ne, nf, d⟩
  . have hfn : X.fn x = true := by
      rcases hf with z | z
      . exact z
      . rw [z] at hk; cases hk
    obtain ⟨c, hc⟩ := I.ok.has x (.inl hk)
    obtain ⟨w', z⟩ := I.cell x c hc
    refine wpAny_storeName_cell I.ok.kind hk hc z (fun h' hc' hs => ?_)
    obtain ⟨oc, hoc, hocd⟩ := id z
    refine h { s with heap := h' } ⟨I.ok, I.os, I.bare, ⟨fun b o e n hb hx => ?_, fun b o e n hb hx => ?_, I.base.free, fun b o e hx => ?_, I.base.tups, I.base.frzs, I.base.tbls⟩, ⟨m, hn.sameBut hs (Ne.symm (cne x c hc)), fun j y v' e1 e2 e3 => ?_⟩, fun y c' e => ?_, I.free, I.freeC, fun p hp => ?_, tracked ⟨oc, hoc, I.freeC x c hc⟩ hs, by simpa using I.len⟩ ⟨c, hs, .inr hc⟩
    . exact (hs.2 b (Nat.ne_of_lt (Nat.lt_of_lt_of_le (Heap.lt_size e) (I.ok.cab x c hfn hc)))).trans (I.base.keep b o e n hb hx)
    . obtain ⟨sl, e1⟩ := I.base.slot b o e n hb hx
      exact ⟨sl, (hs.2 b (Nat.ne_of_lt (Nat.lt_of_lt_of_le (Heap.lt_size e) (I.ok.cab x c hfn hc)))).trans e1⟩
    . obtain ⟨o', e1⟩ := I.base.there b o e hx
      exact ⟨o', (hs.2 b (Nat.ne_of_lt (Nat.lt_of_lt_of_le (Heap.lt_size e) (I.ok.cab x c hfn hc)))).trans e1⟩
    . by_cases hj : j = i
      . subst hj
        rw [hi] at e1; cases e1
        rw [List.getElem?_set_self hiσ] at e2
        cases e2
        exact ⟨u, r, .inr ⟨.inl hk, c, hc, hc'⟩⟩
      . rw [List.getElem?_set_ne (Ne.symm hj)] at e2
        obtain ⟨u', r', q⟩ := hl j y v' e1 e2 e3
        refine ⟨u', r', ?_⟩
        rcases q with q | ⟨k, c', e, z'⟩
        . exact .inl q
        . refine .inr ⟨k, c', e, z'.sameBut hs ?_⟩
          rintro rfl
          exact hj (Zif hN e1 (I.ok.inj _ _ _ e hc ▸ hi))
    . by_cases hcc : c' = c
      . subst hcc; exact ⟨_, hc'⟩
      . obtain ⟨w2, z2⟩ := I.cell y c' e
        exact ⟨w2, z2.sameBut hs hcc⟩
    . obtain ⟨e, n, ne, nf, d⟩ := I.pin p hp
      refine ⟨(hs.2 p.1 ?_).trans e, n, ne, nf, d⟩
      intro q
      rw [q, hoc] at e
      have q' : oc = p.2 := Option.some.inj e
      exact d w' (by rw [<- q']; exact hocd)
theorem ZeW {M : Model} {A : Around} {E : Value -> Shared -> Prop} {i : Nat} {x : Str} {v : V} {u : Value} {Q : Unit -> Shared -> Prop} (I : Inv X pins σ H s) (hN : X.N.Nodup) (hi : X.N[i]? = some x) (hx : Loc X.env.scope x) (r : RelV v u)
    (h : ∀ s', Inv X pins (σ.set i (some v)) H s' -> Q () s') (hf : X.fn x = true \/ X.env.scope.names.lookup x = some .local := by first | exact .inl rfl | exact .inr rfl | assumption) : wpAny M A (storeName X.env x u) Q E s :=
  Zmx I hN hi hx r (fun s' I' _ => h s' I') hf
theorem Inv.call' {s' : Shared} {ch : List Addr} (I : Inv X pins σ H s) (ho : s'.os = s.os) (u : Un (frs X.stack) ch H H' s.heap s'.heap) (hok : HOk X.prog X.w H' s'.heap) (hg : AllBare s'.gens)
    (hch : ∀ b ∈ ch, (b ∈ X.ex \/ X.s₀.heap.objs.size <= b) /\ b ≠ X.env.locals /\ (∀ x c, X.env.cells.lookup x = some c -> c ≠ b) /\ ∀ p ∈ X.pn ++ pins, p.1 ≠ b) : Inv X pins σ H' s' := by
  obtain ⟨h', g', d', t', o'⟩ := s'
  have e : o' = s.os := ho
  subst e
  exact I.call (g' := g') (t' := t') (d' := d') u hok hg hch
end
abbrev XK := Value -> Option Addr -> Hp -> Prop
noncomputable abbrev St := List (Option V)
abbrev VK := V -> Hp -> Prop
abbrev TE := St -> Hp -> VK -> Prop
abbrev TT := St -> Hp -> (Bool -> Hp -> Prop) -> Prop
abbrev TA := St -> Hp -> (List V -> Hp -> Prop) -> Prop
structure Ends where
  nx : St -> Hp -> Prop
  rt : VK
  bk : St -> Hp -> Prop := fun _ _ => False
  ct : St -> Hp -> Prop := fun _ _ => False
abbrev TS := Ends -> St -> Hp -> Prop
def EP (X : Cx) (pins : List (Addr × Obj)) (σ : St) (Q : VK) (u : Value) (s' : Shared) : Prop := ∃ v H', Inv X pins σ H' s' /\ RelV v u /\ Q v H'
def TP (X : Cx) (pins : List (Addr × Obj)) (σ : St) (Q : Bool -> Hp -> Prop) (b : Bool) (s' : Shared) : Prop := ∃ H', Inv X pins σ H' s' /\ Q b H'
def AP (X : Cx) (pins : List (Addr × Obj)) (σ : St) (Q : List V -> Hp -> Prop) (us : List Value) (s' : Shared) : Prop := ∃ vs H', Inv X pins σ H' s' /\ Vals vs us /\ Q vs H'
def SP (X : Cx) (pins : List (Addr × Obj)) (D : Ends) (f : Flow) (s' : Shared) : Prop :=
  match f with
  | .next => ∃ σ' H', Inv X pins σ' H' s' /\ D.nx σ' H'
  | .brk => ∃ σ' H', Inv X pins σ' H' s' /\ D.bk σ' H'
  | .cont => ∃ σ' H', Inv X pins σ' H' s' /\ D.ct σ' H'
  | .ret u => ∃ v σ' H', Inv X pins σ' H' s' /\ RelV v u /\ D.rt v H'
def PE (X : Cx) (e : Expr) (t : TE) : Prop :=
  ∀ (pins : List (Addr × Obj)) (s : Shared) (σ : St) (H : Hp) (Q : VK), Inv X pins σ H s -> t σ H Q -> wpAny (model X.prog X.w) X.A (eval e X.env) (EP X pins σ Q) X.xe s
def PT (X : Cx) (e : Expr) (t : TT) : Prop :=
  ∀ (pins : List (Addr × Obj)) (s : Shared) (σ : St) (H : Hp) (Q : Bool -> Hp -> Prop), Inv X pins σ H s -> t σ H Q -> wpAny (model X.prog X.w) X.A (isTrue e X.env (eval e X.env)) (TP X pins σ Q) X.xe s
def PW (X : Cx) (e : Expr) (t : TT) : Prop :=
  ∀ (whole : Sem Value) (pins : List (Addr × Obj)) (s : Shared) (σ : St) (H : Hp) (Q : Bool -> Hp -> Prop), Inv X pins σ H s -> t σ H Q -> wpAny (model X.prog X.w) X.A (isTrue e X.env whole) (TP X pins σ Q) X.xe s
theorem PW.pt {X : Cx} {e : Expr} {t : TT} (h : PW X e t) : PT X e t := h _
def PA (X : Cx) (es : List Expr) (t : TA) : Prop :=
  ∀ (pos : Pos) (pins : List (Addr × Obj)) (s : Shared) (σ : St) (H : Hp) (Q : List V -> Hp -> Prop), Inv X pins σ H s -> t σ H Q -> wpAny (model X.prog X.w) X.A (spliced (backTo pos (starEach es X.env))) (AP X pins σ Q) X.xe s
def PS (X : Cx) (st : Stmt) (t : TS) : Prop :=
  ∀ (pins : List (Addr × Obj)) (s : Shared) (σ : St) (H : Hp) (D : Ends), Inv X pins σ H s -> t D σ H -> wpAny (model X.prog X.w) X.A (exec st X.env) (SP X pins D) X.xe s
def PSs (X : Cx) (st : List Stmt) (t : TS) : Prop :=
  ∀ (pins : List (Addr × Obj)) (s : Shared) (σ : St) (H : Hp) (D : Ends), Inv X pins σ H s -> t D σ H -> wpAny (model X.prog X.w) X.A (execs st X.env) (SP X pins D) X.xe s
theorem thn {α : Type} {t : Sem α} {Q Q' : α -> Shared -> Prop} {M : Model} {A : Around} {E : Value -> Shared -> Prop} {s : Shared} (h : wpAny M A t Q E s) (hQ : ∀ a s, Q a s -> Q' a s) : wpAny M A t Q' E s := wpAny_mono h hQ fun _ _ x => x
end L2
namespace L2
open PySem PySem.Spec PyProof.Rows
section
variable {X : Cx}
theorem bin {a b : Expr} {ta tb : TE} (ha : PE X a ta) (hb : PE X b tb) {pins : List (Addr × Obj)} {s : Shared} {σ : St} {H : Hp} {R : V -> V -> Hp -> Prop} (I : Inv X pins σ H s) (h : ta σ H fun x H1 => tb σ H1 fun y H2 => R x y H2)
    {α : Type} {Q : α -> Shared -> Prop} {f : Value -> Value -> Sem α}
    (hf : ∀ v u s2 x y H2, Inv X pins σ H2 s2 -> RelV x v -> RelV y u -> R x y H2 -> wpAny (model X.prog X.w) X.A (f v u) Q X.xe s2) :
    wpAny (model X.prog X.w) X.A (eval a X.env) (fun v s₁ => wpAny (model X.prog X.w) X.A (eval b X.env) (fun u s₂ => wpAny (model X.prog X.w) X.A (f v u) Q X.xe s₂) X.xe s₁) X.xe s := by
  refine thn (ha pins s σ H _ I h) fun v s1 ⟨x, H1, I1, r1, q1⟩ => ?_
  refine thn (hb pins s1 σ H1 _ I1 q1) fun u s2 ⟨y, H2, I2, r2, q2⟩ => ?_
  exact hf v u s2 x y H2 I2 r1 r2 q2
def tVar (i : Nat) : TE := fun σ H Q => ∃ v, σ[i]? = some (some v) /\ Q v H
def tC (v : V) : TE := fun _ H Q => Q v H
theorem Zmy {i : Nat} {x : Str} {pos : Pos} (hN : X.N[i]? = some x) (hv : Vis X.env.scope x) (hd : (x == ("__debug__" : Str)) = false := by decide) (hcd : (x == ("__classdict__" : Str)) = false := by decide) : PE X (.Name x pos) (tVar i) := by
  intro pins s σ H Q I h
  obtain ⟨v, e, h⟩ := h
  obtain ⟨m, hn, hl⟩ := I.loc
  obtain ⟨u, r, l⟩ := hl i x v hN e hv
  have fin : EP X pins σ Q u s := ⟨v, H, I, r, h⟩
  rcases l with ⟨hk, hm⟩ | ⟨hk, c, hc, hcell⟩
  . exact wpAny_Name (wpAny_loadName_local I.ok.kind hk hn hm fin) hd
  . rcases hk with hk | hk
    . exact wpAny_Name (wpAny_loadName_cell I.ok.kind hk hc hcell fin) hd
    . exact wpAny_Name (wpAny_loadName_free I.ok.kind hk hc hcell fin hcd) hd
theorem Za5 {i j pos} : PE X (.Constant (.int i) j pos) (tC (.int i)) := fun _ _ _ H _ I h => wpAny_Constant_int ⟨.int i, H, I.tok _, ⟨_, rfl⟩, h⟩
theorem Zgo {b j pos} : PE X (.Constant (.bool b) j pos) (tC (.bl b)) := fun _ _ _ H _ I h => Constant_bool ⟨.bl b, H, I, rfl, h⟩
theorem Zg4 {j pos} : PE X (.Constant .none j pos) (tC .non) := fun _ _ _ H _ I h => Constant_none ⟨.non, H, I, rfl, h⟩
theorem Zqq {x j pos} : PE X (.Constant (.str x) j pos) (tC (.str x)) := fun _ _ _ H _ I h => Calls.Constant_str ⟨.str x, H, I.tok _, ⟨_, rfl⟩, h⟩
def Gl (X : Cx) (x : Str) : Prop := X.env.kindOf x = some .globalImplicit
theorem Zh7 {E : Value -> Shared -> Prop} {pins : List (Addr × Obj)} {s : Shared} {σ : St} {H : Hp} {x : Str} {u : Value} {pos : Pos} {Q : Value -> Shared -> Prop} (I : Inv X pins σ H s) (hg : Gl X x) (hm : X.mg x = some u) (h : Q u s)
    (hd : (x == ("__debug__" : Str)) = false := by decide) : wpAny (model X.prog X.w) X.A (eval (.Name x pos) X.env) Q E s :=
  Calls.Name_function_global I.ok.kind hg (Calls.loadGlobal_global (by rw [I.ok.glob]; exact I.mod.glob.keeps I.bk) hm h) hd
theorem ZfT {E : Value -> Shared -> Prop} {pins : List (Addr × Obj)} {s : Shared} {σ : St} {H : Hp} {x : Str} {u : Value} {pos : Pos} {Q : Value -> Shared -> Prop} (I : Inv X pins σ H s) (hg : Gl X x) (hm : X.mg x = none) (hv : bootBuiltins x = some u) (h : Q u s)
    (hn : x ≠ "__name__" := by decide) (hd : (x == ("__debug__" : Str)) = false := by decide) : wpAny (model X.prog X.w) X.A (eval (.Name x pos) X.env) Q E s := by
  obtain ⟨mb, h1, h2⟩ := I.mod.blt
  exact Calls.Name_function_global I.ok.kind hg (Calls.loadGlobal_builtin (by rw [I.ok.glob]; exact I.mod.glob.keeps I.bk) hm (by rw [I.ok.blt]; exact h1.keeps I.bk) ((h2 x hn).trans hv) h) hd
theorem ZaT {x : Str} {v : V} {u : Value} {pos : Pos} (hg : Gl X x) (hm : X.mg x = some u) (r : RelV v u) (hd : (x == ("__debug__" : Str)) = false := by decide) : PE X (.Name x pos) (tC v) :=
  fun _ _ _ H _ I h => Zh7 I hg hm ⟨v, H, I, r, h⟩ hd
theorem ZfI {x : Str} {v : V} {u : Value} {pos : Pos} (hg : Gl X x) (hm : X.mg x = none) (hv : bootBuiltins x = some u) (r : RelV v u) (hn : x ≠ "__name__" := by decide) (hd : (x == ("__debug__" : Str)) = false := by decide) : PE X (.Name x pos) (tC v) :=
  fun _ _ _ H _ I h => ZfT I hg hm hv ⟨v, H, I, r, h⟩ hn hd
variable {a b : Expr} {ta tb : TE} {pos : Pos}
def PC (X : Cx) (op : CmpOp) (a b : Expr) (t : TE) : Prop :=
  ∀ (pins : List (Addr × Obj)) (s : Shared) (σ : St) (H : Hp) (Q : VK), Inv X pins σ H s -> t σ H Q ->
    wpAny (model X.prog X.w) X.A (eval a X.env) (fun v s₁ => wpAny (model X.prog X.w) X.A (eval b X.env) (fun u s₂ => wpAny (model X.prog X.w) X.A (compareOp op v u) (EP X pins σ Q) X.xe s₂) X.xe s₁) X.xe s
theorem Znv (b : Expr) {op : CmpOp} (h : op ≠ .In) (h2 : op ≠ .NotIn) : behindInMarks op b = false := by
  have e1 : (op == CmpOp.In) = false := by cases op <;> first | rfl | exact absurd rfl h
  have e2 : (op == CmpOp.NotIn) = false := by cases op <;> first | rfl | exact absurd rfl h2
  cases b <;> simp [behindInMarks, e1, e2]
def tIsN (ta : TE) : TE := fun σ H Q => ta σ H fun x H1 => Q (.bl (decide (x = .non))) H1
theorem RelV.none_iff {x : V} {v : Value} (r : RelV x v) : (v == Value.none) = decide (x = .non) := by
  cases x with
  | non => cases r; rfl
  | bl _ => cases r; rfl
  | int _ => obtain ⟨t, rfl⟩ := r; rfl
  | str _ => obtain ⟨t, rfl⟩ := r; rfl
  | byt _ => obtain ⟨t, rfl⟩ := r; rfl
  | flt _ => obtain ⟨t, rfl⟩ := r; rfl
  | ref _ => cases r; rfl
  | ty _ => cases r; rfl
theorem Zqr {j pos'} (ha : PE X a ta) : PC X .Is a (.Constant .none j pos') (tIsN ta) := by
  intro pins s σ H Q I h
  refine thn (ha pins s σ H _ I h) fun v s1 ⟨x, H1, I1, r1, q1⟩ => ?_
  exact Constant_none (is_none_gen ⟨.bl _, H1, I1, by rw [r1.none_iff]; rfl, q1⟩)
def tB (t : TE) : TT := fun σ H Q => t σ H fun x H1 => ∃ c, x = .bl c /\ Q c H1
theorem Zqs {op : CmpOp} {t : TE} (h : PC X op a b t) (h1 : behindInMarks op b = false := by first | exact Znv _ (by decide) (by decide) | rfl) : PT X (.Compare a [op] [b] pos) (tB t) := by
  intro pins s σ H Q I hw
  refine wpAny_isTrue_Compare1 (thn (h pins s σ H _ I hw) fun v s1 h1 => thn h1 fun u s2 h2 => thn h2 fun c s3 ⟨x, H1, I1, r1, q1⟩ => ?_) h1
  obtain ⟨d, rfl, q⟩ := q1
  cases r1
  exact wpAny_truthy_bool ⟨H1, I1, q⟩
variable {tA tB' : TT} {rest : List Expr}
def tAnd (t u : TT) : TT := fun σ H Q => t σ H fun c H1 => if c = true then u σ H1 Q else Q false H1
def tOr (t u : TT) : TT := fun σ H Q => t σ H fun c H1 => if c = true then Q true H1 else u σ H1 Q
def tNot (t : TT) : TT := fun σ H Q => t σ H fun c H1 => Q (!c) H1
theorem ZoP (ha : PT X a tA) : PW X (.BoolOp .And [a] pos) tA := by
  intro wh pins s σ H Q I h
  refine isTrue_and (thn (ha pins s σ H Q I h) fun c s1 e => ?_)
  cases c with
  | true => exact isTrue_and_nil e
  | false => exact e
theorem Zqt (ha : PT X a tA) : PW X (.BoolOp .Or [a] pos) tA := by
  intro wh pins s σ H Q I h
  refine isTrue_or (thn (ha pins s σ H Q I h) fun c s1 e => ?_)
  cases c with
  | false => exact isTrue_or_nil e
  | true => exact e
theorem Zqu (ha : PT X a tA) (hb : PW X (.BoolOp .And (b :: rest) pos) tB') : PW X (.BoolOp .And (a :: b :: rest) pos) (tAnd tA tB') := by
  intro wh pins s σ H Q I h
  refine isTrue_and (thn (ha pins s σ H _ I h) fun c s1 ⟨H1, I1, q1⟩ => ?_)
  cases c with
  | true => exact hb wh pins s1 σ H1 Q I1 q1
  | false => exact ⟨H1, I1, q1⟩
theorem Zst (ha : PT X a tA) (hb : PW X (.BoolOp .Or (b :: rest) pos) tB') : PW X (.BoolOp .Or (a :: b :: rest) pos) (tOr tA tB') := by
  intro wh pins s σ H Q I h
  refine isTrue_or (thn (ha pins s σ H _ I h) fun c s1 ⟨H1, I1, q1⟩ => ?_)
  cases c with
  | true => exact ⟨H1, I1, q1⟩
  | false => exact hb wh pins s1 σ H1 Q I1 q1
theorem Zqv (ha : PT X a tA) : PT X (.UnaryOp .Not a pos) (tNot tA) := by
  intro pins s σ H Q I h
  exact isTrue_not (ha pins s σ H (fun c H1 => Q (!c) H1) I h)
def Zsu (ta tb : TE) : TE := fun σ H Q => ta σ H fun x H1 => ∃ c, x = .bl c /\ if c = true then tb σ H1 Q else Q (.bl false) H1
def tOrV (ta tb : TE) : TE := fun σ H Q => ta σ H fun x H1 => ∃ c, x = .bl c /\ if c = true then Q (.bl true) H1 else tb σ H1 Q
def Zsv (ta : TE) : TE := fun σ H Q => ta σ H fun x H1 => ∃ c, x = .bl c /\ Q (.bl (!c)) H1
theorem Zqw {op} {t : TE} (h : PE X a t) : PE X (.BoolOp op [a] pos) t := fun pins s σ H Q I hw => BoolOp_one (h pins s σ H Q I hw)
theorem Zqx (ha : PE X a ta) (hb : PE X (.BoolOp .And (b :: rest) pos) tb) : PE X (.BoolOp .And (a :: b :: rest) pos) (Zsu ta tb) := by
  intro pins s σ H Q I h
  refine BoolOp_and (thn (ha pins s σ H _ I h) fun v s1 ⟨x, H1, I1, r1, q1⟩ => ?_)
  obtain ⟨c, rfl, q1⟩ := q1
  cases r1
  refine wpAny_truthy_bool ?_
  cases c with
  | true => exact hb pins s1 σ H1 Q I1 q1
  | false => exact ⟨.bl false, H1, I1, rfl, q1⟩
theorem Zsw (ha : PE X a ta) (hb : PE X (.BoolOp .Or (b :: rest) pos) tb) : PE X (.BoolOp .Or (a :: b :: rest) pos) (tOrV ta tb) := by
  intro pins s σ H Q I h
  refine BoolOp_or (thn (ha pins s σ H _ I h) fun v s1 ⟨x, H1, I1, r1, q1⟩ => ?_)
  obtain ⟨c, rfl, q1⟩ := q1
  cases r1
  refine wpAny_truthy_bool ?_
  cases c with
  | false => exact hb pins s1 σ H1 Q I1 q1
  | true => exact ⟨.bl true, H1, I1, rfl, q1⟩
theorem Zqy (ha : PE X a ta) : PE X (.UnaryOp .Not a pos) (Zsv ta) := by
  intro pins s σ H Q I h
  refine UnaryOp_ (thn (ha pins s σ H _ I h) fun v s1 ⟨x, H1, I1, r1, q1⟩ => ?_)
  obtain ⟨c, rfl, q1⟩ := q1
  cases r1
  exact not_of (wpAny_truthy_bool ⟨.bl (!c), H1, I1, rfl, q1⟩)
def tIf (t : TT) (ta tb : TE) : TE := fun σ H Q => t σ H fun c H1 => if c = true then ta σ H1 Q else tb σ H1 Q
theorem Znw {c : Expr} (hc : PT X c tA) (ha : PE X a ta) (hb : PE X b tb) : PE X (.IfExp c a b pos) (tIf tA ta tb) := by
  intro pins s σ H Q I h
  refine wpAny_IfExp (thn (hc pins s σ H _ I h) fun d s1 ⟨H1, I1, q1⟩ => ?_)
  cases d with
  | true => exact ha pins s1 σ H1 Q I1 q1
  | false => exact hb pins s1 σ H1 Q I1 q1
end
end L2
namespace L2
open PySem PySem.Spec PyProof.Rows
def SqL (K : Fg) (H : Hp) (a : Addr) (xs : List V) : Prop :=
  Rd H a (.lst xs) \/
    ∃ (o : Obj) (its : Array Value) (n : Nat), K.lookup a = some o /\ o.cls = .type "list" /\ o.dict = none /\ o.data = .seq its n /\ its.size <= sizeLine /\ Vals xs its.toList
def SqT (K : Fg) (H : Hp) (a : Addr) (xs : List V) : Prop :=
  Rd H a (.tup xs) \/
    ∃ (o : Obj) (its : Array Value) (n : Nat), K.lookup a = some o /\ o.cls = .type "tuple" /\ o.data = .seq its n /\ its.size <= sizeLine /\ Vals xs its.toList
noncomputable def absV : Value -> Option V
  | .none => some .non
  | .bool b => some (.bl b)
  | .int i _ => some (.int i)
  | .str x _ => some (.str x)
  | .bytes b _ => some (.byt b)
  | .float b _ => some (.flt b)
  | .ref a => some (.ref a)
  | .type n => some (.ty n)
  | _ => none
theorem RelV.abs {x : V} {u : Value} (r : RelV x u) : absV u = some x := by
  cases x with
  | non => cases r; rfl
  | bl _ => cases r; rfl
  | int _ => obtain ⟨t, rfl⟩ := r; rfl
  | str _ => obtain ⟨t, rfl⟩ := r; rfl
  | byt _ => obtain ⟨t, rfl⟩ := r; rfl
  | flt _ => obtain ⟨t, rfl⟩ := r; rfl
  | ref _ => cases r; rfl
  | ty _ => cases r; rfl
theorem RelV.inj {x y : V} {u : Value} (r : RelV x u) (q : RelV y u) : x = y := Option.some.inj (r.abs.symm.trans q.abs)
theorem Vals.inj : ∀ {xs ys : List V} {us : List Value}, Vals xs us -> Vals ys us -> xs = ys
  | _, _, _, .nil, .nil => rfl
  | _, _, _, .cons r t, .cons r' t' => by rw [r.inj r', Vals.inj t t']
section
variable {X : Cx} {pins : List (Addr × Obj)} {σ : St} {H : Hp} {s : Shared} {a : Addr} {xs ys : List V}
theorem Inv.list (I : Inv X pins σ H s) (h : SqL X.K H a xs) : ∃ its : List Value, Vals xs its /\ PlainL s.heap a its.toArray /\ xs.length <= sizeLine := by
  rcases h with h | ⟨o, its, n, hk, hc, hd, hs, hz, r⟩
  . obtain ⟨z, its, n, r, e⟩ := h.ok I.hok
    exact ⟨its, r, ⟨_, n, e, rfl, rfl, rfl⟩, z⟩
  . refine ⟨its.toList, r, ⟨o, n, I.kIn a o hk, hc, hd, by simpa using hs⟩, ?_⟩
    have e := r.length
    simp only [Array.length_toList] at e
    omega
theorem Inv.tuple (I : Inv X pins σ H s) (h : SqT X.K H a xs) : ∃ its : List Value, Vals xs its /\ IsTup s.heap a its.toArray /\ xs.length <= sizeLine := by
  rcases h with h | ⟨o, its, n, hk, hc, hs, hz, r⟩
  . obtain ⟨z, its, r, p⟩ := h.ok I.hok
    exact ⟨its, r, p, z⟩
  . refine ⟨its.toList, r, ⟨o, I.kIn a o hk, hc, n, by simpa using hs⟩, ?_⟩
    have e := r.length
    simp only [Array.length_toList] at e
    omega
theorem Inv.list_inj (I : Inv X pins σ H s) (h : SqL X.K H a xs) (h' : SqL X.K H a ys) : xs = ys := by
  obtain ⟨its, r, ⟨o, n, e, _, _, d⟩, _⟩ := I.list h
  obtain ⟨its', r', ⟨o', n', e', _, _, d'⟩, _⟩ := I.list h'
  rw [e] at e'; cases e'
  rw [d] at d'
  injection d' with d1 _
  have : its = its' := by simpa using congrArg Array.toList d1
  subst this
  exact r.inj r'
theorem Inv.tuple_inj (I : Inv X pins σ H s) (h : SqT X.K H a xs) (h' : SqT X.K H a ys) : xs = ys := by
  obtain ⟨its, r, ⟨o, e, _, n, d⟩, _⟩ := I.tuple h
  obtain ⟨its', r', ⟨o', e', _, n', d'⟩, _⟩ := I.tuple h'
  rw [e] at e'; cases e'
  rw [d] at d'
  injection d' with d1 _
  have : its = its' := by simpa using congrArg Array.toList d1
  subst this
  exact r.inj r'
end
noncomputable abbrev Cx.wish (X : Cx) (E : Value -> Shared -> Prop) : Cx := { X with xe := E }
noncomputable abbrev Cx.nox (X : Cx) : Cx := X.wish fun _ _ => False
theorem Cx.Ok.wish {X : Cx} (ok : X.Ok) (E : Value -> Shared -> Prop) : (X.wish E).Ok :=
  ⟨ok.mod, ok.kind, ok.glob, ok.blt, ok.above, ok.inj, ok.has, ok.cab, ok.hd, ok.frames, ok.stk, ok.exf, ok.bs, ok.bsz, ok.noex, ok.exfs, ok.funs, ok.frf⟩
theorem Cx.Ok.unwish {X : Cx} {E : Value -> Shared -> Prop} (ok : (X.wish E).Ok) : X.Ok :=
  ⟨ok.mod, ok.kind, ok.glob, ok.blt, ok.above, ok.inj, ok.has, ok.cab, ok.hd, ok.frames, ok.stk, ok.exf, ok.bs, ok.bsz, ok.noex, ok.exfs, ok.funs, ok.frf⟩
section
variable {X : Cx} {pins : List (Addr × Obj)} {σ : St} {H : Hp} {s : Shared} {E : Value -> Shared -> Prop}
theorem Inv.wish (I : Inv X pins σ H s) (E : Value -> Shared -> Prop) : Inv (X.wish E) pins σ H s := ⟨I.ok.wish E, I.os, I.bare, I.base, I.loc, I.cell, I.free, I.freeC, I.pin, I.hok, I.len⟩
theorem Inv.unwish (I : Inv (X.wish E) pins σ H s) : Inv X pins σ H s := ⟨I.ok.unwish, I.os, I.bare, I.base, I.loc, I.cell, I.free, I.freeC, I.pin, I.hok, I.len⟩
theorem SP.unwish {D : Ends} {f : Flow} {s' : Shared} (h : SP (X.wish E) pins D f s') : SP X pins D f s' := by
  cases f with
  | next => obtain ⟨σ', H', I, q⟩ := h; exact ⟨σ', H', I.unwish, q⟩
  | brk => obtain ⟨σ', H', I, q⟩ := h; exact ⟨σ', H', I.unwish, q⟩
  | cont => obtain ⟨σ', H', I, q⟩ := h; exact ⟨σ', H', I.unwish, q⟩
  | ret u => obtain ⟨v, σ', H', I, r, q⟩ := h; exact ⟨v, σ', H', I.unwish, r, q⟩
theorem PSs.nox {st : List Stmt} {t : TS} (h : PSs X.nox st t) : PSs X st t := fun pins s σ H D I hw =>
  wpAny_mono (h pins s σ H D (I.wish _) hw) (fun _ _ q => q.unwish) fun _ _ z => False.elim z
end
section
variable {X : Cx} {st : Stmt} {rest : List Stmt} {t u : TS} {e : Expr} {te : TE} {pos : Pos}
def Zsx : TS := fun D σ H => D.nx σ H
def tSeq (t u : TS) : TS := fun D σ H => t { D with nx := u D } σ H
theorem ZoQ : PSs X [] Zsx := fun _ _ σ H _ I h => wpAny_execs_nil ⟨σ, H, I, h⟩
theorem Znx (h1 : PS X st t) (h2 : PSs X rest u) : PSs X (st :: rest) (tSeq t u) := by
  intro pins s σ H D I h
  refine wpAny_execs_cons (thn (h1 pins s σ H { D with nx := u D } I h) fun f s1 q => ?_)
  cases f with
  | next =>
    obtain ⟨σ', H', I', q⟩ := q
    exact h2 pins s1 σ' H' D I' q
  | ret v => exact q
  | brk => exact q
  | cont => exact q
theorem Inv.quiet {pins : List (Addr × Obj)} {σ : St} {H : Hp} {s : Shared} (I : Inv X pins σ H s) : interactive X.env = false := by simp [interactive, I.ok.kind]
def Zsy (te : TE) : TS := fun D σ H => te σ H fun _ H1 => D.nx σ H1
theorem ZoR (he : PE X e te) (hs : swapsWith e none pos.line X.env = pure false := by rfl) : PS X (.Expr e pos) (Zsy te) := by
  intro pins s σ H D I h
  exact wpAny_Expr_any (thn (he pins s σ H _ I h) fun v s1 ⟨x, H1, I1, r1, q1⟩ => ⟨σ, H1, I1, q1⟩) I.quiet hs
def tRet (te : TE) : TS := fun D σ H => te σ H D.rt
theorem Zqz (he : PE X e te) : PS X (.Return (some e) pos) (tRet te) := by
  intro pins s σ H D I h
  exact wpAny_Return_some (thn (he pins s σ H _ I h) fun v s1 ⟨x, H1, I1, r1, q1⟩ => ⟨x, σ, H1, I1, r1, q1⟩)
def tIfS (c : TT) (t u : TS) : TS := fun D σ H => c σ H fun b H1 => if b = true then t D σ H1 else u D σ H1
theorem Zsz {c : Expr} {a b : List Stmt} {tc : TT} (hc : PT X c tc) (ha : PSs X a t) (hb : PSs X b u) : PS X (.If c a b pos) (tIfS tc t u) := by
  intro pins s σ H D I h
  refine wpAny_If (thn (hc pins s σ H _ I h) fun d s1 ⟨H1, I1, q1⟩ => ?_)
  cases d with
  | true => exact ha pins s1 σ H1 D I1 q1
  | false => exact hb pins s1 σ H1 D I1 q1
end
abbrev TG := V -> St -> Hp -> (St -> Hp -> Prop) -> Prop
abbrev TGs := List V -> St -> Hp -> (St -> Hp -> Prop) -> Prop
def PG (X : Cx) (target : Expr) (t : TG) : Prop :=
  ∀ (pins : List (Addr × Obj)) (s : Shared) (σ : St) (H : Hp) (v : V) (u : Value) (Q : St -> Hp -> Prop), Inv X pins σ H s -> RelV v u -> t v σ H Q ->
    wpAny (model X.prog X.w) X.A (assign target X.env u) (fun _ s' => ∃ σ' H', Inv X pins σ' H' s' /\ Q σ' H') X.xe s
def PGs (X : Cx) (ts : List Expr) (t : TGs) : Prop :=
  ∀ (pins : List (Addr × Obj)) (s : Shared) (σ : St) (H : Hp) (vs : List V) (us : List Value) (Q : St -> Hp -> Prop), Inv X pins σ H s -> Vals vs us -> t vs σ H Q ->
    wpAny (model X.prog X.w) X.A (assignInOrder ((assignEach ts X.env).map (·.2)) us) (fun _ s' => ∃ σ' H', Inv X pins σ' H' s' /\ Q σ' H') X.xe s
abbrev TSet := V -> V -> V -> Hp -> (Hp -> Prop) -> Prop
def PSet (X : Cx) (t : TSet) : Prop :=
  ∀ (pins : List (Addr × Obj)) (s : Shared) (σ : St) (H : Hp) (o i v : V) (ov iv u : Value) (Q : Hp -> Prop), Inv X pins σ H s -> RelV o ov -> RelV i iv -> RelV v u -> t o i v H Q ->
    wpAny (model X.prog X.w) X.A (setItem ov iv u) (fun _ s' => ∃ H', Inv X pins σ H' s' /\ Q H') X.xe s
section
variable {X : Cx} {pos : Pos}
noncomputable def Zgp (i : Nat) : TG := fun v σ H Q => Q (σ.set i (some v)) H
theorem Zlu {i : Nat} {x : Str} (hN : X.N.Nodup) (hi : X.N[i]? = some x) (hx : Loc X.env.scope x) (hf : X.fn x = true \/ X.env.scope.names.lookup x = some .local := by first | exact .inl rfl | exact .inr rfl | assumption) : PG X (.Name x pos) (Zgp i) := by
  intro pins s σ H v u Q I r h
  exact wpAny_assign_Name (ZeW I hN hi hx r (fun s' I' => ⟨_, H, I', h⟩) hf)
noncomputable def gNil : TGs := fun vs σ H Q => vs = [] /\ Q σ H
noncomputable def Zoz (t : TG) (u : TGs) : TGs := fun vs σ H Q => ∃ v r, vs = v :: r /\ t v σ H fun σ' H' => u r σ' H' Q
theorem ZoS : PGs X [] gNil := by
  intro pins s σ H vs us Q I r h
  obtain ⟨e, h⟩ := h
  subst e
  cases r
  exact assignInOrder_nil ⟨σ, H, I, h⟩
theorem Zny {e : Expr} {es : List Expr} {t : TG} {u : TGs} (h1 : PG X e t) (h2 : PGs X es u)
    (hs : (assignEach (e :: es) X.env).map (·.2) = assign e X.env :: (assignEach es X.env).map (·.2) := by rfl) : PGs X (e :: es) (Zoz t u) := by
  intro pins s σ H vs us Q I r h
  obtain ⟨v, vr, e1, h⟩ := h
  subst e1
  cases r with
  | cons r rr =>
    rw [hs]
    refine assignInOrder_cons (thn (h1 pins s σ H _ _ _ I r h) fun _ s1 ⟨σ1, H1, I1, q1⟩ => ?_)
    exact h2 pins s1 σ1 H1 _ _ Q I1 rr q1
noncomputable def gTup (K : Fg) (n : Nat) (t : TGs) : TG := fun v σ H Q => ∃ a xs, v = .ref a /\ SqT K H a xs /\ xs.length = n /\ t xs σ H Q
theorem Zq0 {es : List Expr} {k : Nat} {t : TGs} {n : Nat} (hc : X.calm = true) (h : PGs X es t)
    (hn : (assignEach es X.env).length = n := by rfl) (hst : (assignEach es X.env).findIdx? (·.1) = none := by rfl) : PG X (.Tuple es k pos) (gTup X.K n t) := by
  intro pins s σ H v u Q I r hw
  obtain ⟨a, xs, e1, hq, hl, hw⟩ := hw
  subst e1
  cases r
  obtain ⟨its, rv, ht, hz⟩ := I.tuple hq
  refine assign_Tuple_tuple (I.ok.hd hc) ht (by simp [hn, <- hl, rv.length]) hst fun h' hx => ?_
  have I1 : Inv X pins σ H { s with heap := h' } := I.kept (t' := s.toks) fun b o e => hx b o (Nat.ne_of_lt (Heap.lt_size e)) e
  exact h pins _ σ H xs _ Q I1 (by simpa using rv) hw
noncomputable def gSub (to ti : TE) (t : TSet) : TG := fun v σ H Q => to σ H fun o H1 => ti σ H1 fun i H2 => t o i v H2 fun H3 => Q σ H3
theorem Zq1 {o i : Expr} {to ti : TE} {t : TSet} (ho : PE X o to) (hi : PE X i ti) (hs : PSet X t)
    (ha : ∀ v, assign (.Subscript o i pos) X.env v = (do
      let ov <- holding [v] (eval o X.env)
      let iv <- holding [v, ov] (eval i X.env)
      standAt pos
      holding [v, ov, iv] (setItem ov iv v)
      release [v, ov, iv] []) := by intro _; rfl) : PG X (.Subscript o i pos) (gSub to ti t) := by
  intro pins s σ H v u Q I r h
  rw [ha]
  refine wpAny_bind (wpAny_holding (thn (ho pins s σ H _ I h) fun ov s1 ⟨x, H1, I1, r1, q1⟩ => ?_))
  refine wpAny_bind (wpAny_holding (thn (hi pins s1 σ H1 _ I1 q1) fun iv s2 ⟨y, H2, I2, r2, q2⟩ => ?_))
  refine wpAny_bind (wpAny_standAt (wpAny_bind (wpAny_holding (thn (hs pins s2 σ H2 x y v ov iv u _ I2 r1 r2 r q2) fun _ s3 ⟨H3, I3, q3⟩ => ?_))))
  exact wpAny_release ⟨σ, H3, I3, q3⟩
def tAsg (te : TE) (g : TG) : TS := fun D σ H => te σ H fun x H1 => g x σ H1 D.nx
theorem Zmz {tg e : Expr} {te : TE} {g : TG} (he : PE X e te) (hg : PG X tg g) (hs : swapsWithSole [tg] e pos.line X.env = pure false := by rfl) (hw : swappedStores [tg] e X.env = pure none := by rfl)
    (h1 : (assignEach [tg] X.env).map (·.2) = [assign tg X.env] := by rfl) : PS X (.Assign [tg] e pos) (tAsg te g) := by
  intro pins s σ H D I h
  refine wpAny_Assign_stores (thn (he pins s σ H _ I h) fun v s1 ⟨x, H1, I1, r1, q1⟩ => ?_) hs hw
  rw [h1]
  exact thn (hg pins s1 σ H1 x v _ I1 r1 q1) fun _ s2 q => q
theorem Zq2 {i : Nat} {x : Str} {e : Expr} {te : TE} {pos' : Pos} (hN : X.N.Nodup) (hi : X.N[i]? = some x) (hx : Loc X.env.scope x) (he : PE X e te) (hs : swapsWith e (some (.Name x pos')) pos.line X.env = pure false := by rfl) (hf : X.fn x = true \/ X.env.scope.names.lookup x = some .local := by first | exact .inl rfl | exact .inr rfl | assumption) :
    PS X (.Assign [.Name x pos'] e pos) (tAsg te (Zgp i)) := by
  intro pins s σ H D I h
  refine wpAny_Assign_Name (thn (he pins s σ H _ I h) fun v s1 ⟨y, H1, I1, r1, q1⟩ => ?_) hs
  exact ZeW I1 hN hi hx r1 (fun s2 I2 => ⟨_, H1, I2, q1⟩) hf
end
structure It where
  go : Nat -> Hp -> Prop
  yld : Nat -> Hp -> V -> Hp -> Prop
  stop : Nat -> Hp -> Prop
def FpOk (X : Cx) (pins : List (Addr × Obj)) (H : Hp) (b : Addr) : Prop :=
  H b = none /\ b ≠ X.env.locals /\ b ∉ X.fs /\ (b ∈ X.ex \/ X.s₀.heap.objs.size <= b) /\ (∀ x c, X.env.cells.lookup x = some c -> c ≠ b) /\ ∀ p ∈ X.pn ++ pins, p.1 ≠ b
theorem Inv.fpOk {X : Cx} {pins : List (Addr × Obj)} {σ : St} {H H' : Hp} {s : Shared} {b : Addr} (I : Inv X pins σ H s) (hb : s.heap.objs.size <= b) (hn : H' b = none) : FpOk X pins H' b := by
  refine ⟨hn, Nat.ne_of_gt (Nat.lt_of_lt_of_le I.lt hb), I.nofs hb, .inr (Nat.le_trans I.sz hb), fun x c e z => ?_, fun p hp z => ?_⟩
  . obtain ⟨v, q⟩ := I.cell x c e
    exact absurd (Nat.lt_of_lt_of_le q.lt (by rw [z]; exact hb)) (Nat.lt_irrefl _)
  . exact absurd (Nat.lt_of_lt_of_le (Heap.lt_size (I.pin p hp).1) (by rw [z]; exact hb)) (Nat.lt_irrefl _)
structure Turn (P : Program) (w : World) (K : Fg) (tg : Expr) (J : It) (fp : List Addr) (it : Addr) (tn : Nat -> Heap -> Prop) : Prop where
  mem : it ∈ fp
  obj : ∀ i h, tn i h -> ∀ b ∈ fp, ∃ o, h.get? b = some o /\ ∀ v, o.data ≠ .cell v
  keep : ∀ i h h', tn i h -> (∀ b ∈ fp, ∀ o, h.get? b = some o -> h'.get? b = some o) -> tn i h'
  item : ∀ (X : Cx), X.prog = P -> X.w = w -> X.K = K -> X.calm = true -> ∀ (i : Nat) (pins : List (Addr × Obj)) (s : Shared) (σ : St) (H : Hp) (E : Value -> Shared -> Prop), Inv X pins σ H s -> (∀ b ∈ fp, FpOk X pins H b) -> tn i s.heap -> J.go i H ->
    wpAny (model P w) X.A (pyNext (.ref it)) (fun r s1 => ∃ u, r = some u /\
      wpAny (model P w) X.A (letOwnedTupleGo tg (.ref it) u) (fun _ s2 => ∃ x H', Inv X pins σ H' s2 /\ RelV x u /\ J.yld i H x H' /\ tn (i + 1) s2.heap /\ ∀ b ∈ fp, H' b = none) E s1) E s
  done : ∀ (X : Cx), X.prog = P -> X.w = w -> X.K = K -> X.calm = true -> ∀ (i : Nat) (pins : List (Addr × Obj)) (s : Shared) (σ : St) (H : Hp) (E : Value -> Shared -> Prop), Inv X pins σ H s -> (∀ b ∈ fp, FpOk X pins H b) -> tn i s.heap -> J.stop i H ->
    wpAny (model P w) X.A (pyNext (.ref it)) (fun r s1 => r = none /\ Inv X pins σ H s1) E s
  self : ∀ (A : Around) (i : Nat) (s : Shared) (Q : Value -> Shared -> Prop) (E : Value -> Shared -> Prop), tn i s.heap -> Q (.ref it) s -> wpAny (model P w) A (pyIter (.ref it)) Q E s
abbrev TI := St -> Hp -> (It -> Hp -> Prop) -> Prop
def PIE (X : Cx) (pins : List (Addr × Obj)) (σ : St) (tg : Expr) (R : It -> Hp -> Prop) (itv : Value) (s2 : Shared) : Prop :=
  ∃ (it : Addr) (fp : List Addr) (tn : Nat -> Heap -> Prop) (J : It) (H' : Hp), itv = .ref it /\ Inv X pins σ H' s2 /\ Turn X.prog X.w X.K tg J fp it tn /\ tn 0 s2.heap /\ (∀ b ∈ fp, FpOk X pins H' b) /\ R J H'
def PI (X : Cx) (tg iter : Expr) (wi : TI) : Prop :=
  ∀ (pins : List (Addr × Obj)) (s : Shared) (σ : St) (H : Hp) (R : It -> Hp -> Prop), Inv X pins σ H s -> wi σ H R ->
    wpAny (model X.prog X.w) X.A (eval iter X.env) (fun v s1 => wpAny (model X.prog X.w) X.A (pyIter v) (PIE X pins σ tg R) X.xe s1) X.xe s
theorem Zkd {M : Model} {A : Around} {E : Value -> Shared -> Prop} {s : Shared} {tg : Expr} {it : Addr} {u : Value} {o : Obj} {n : String} {vs : Array Value} {Q : Unit -> Shared -> Prop} (ho : s.heap.get? it = some o) (hc : o.cls = .type n) (hd : o.data = .fields vs)
    (hn : ["enumerate", "zip", "dict_itemiterator", "dict_reverseitemiterator", "odict_iterator", "itertools.zip_longest", "itertools.pairwise"].contains n = false) (hQ : Q () s) : wpAny M A (letOwnedTupleGo tg (.ref it) u) Q E s := by
  unfold letOwnedTupleGo
  cases tg <;> first
    | exact wpAny_pure hQ
    | (cases u <;> first
        | exact wpAny_pure hQ
        | (refine wpAny_bind (wpAny_load ho ?_)
           rw [hc, hd]
           show wpAny M A (if (["enumerate", "zip", "dict_itemiterator", "dict_reverseitemiterator", "odict_iterator", "itertools.zip_longest", "itertools.pairwise"].contains n && vs[0]? == some (rawInt _)) = true then _ else _) Q E s
           rw [if_neg (by intro h; rw [hn, Bool.false_and] at h; cases h)]
           exact wpAny_pure hQ))
noncomputable def Itl (K : Fg) (a : Addr) : It :=
  ⟨fun i H => ∃ xs x, SqL K H a xs /\ xs[i]? = some x, fun i H x H' => H' = H /\ ∀ xs, SqL K H a xs -> xs[i]? = some x, fun i H => ∃ xs, SqL K H a xs /\ xs.length <= i⟩
noncomputable def Itt (K : Fg) (a : Addr) : It :=
  ⟨fun i H => ∃ xs x, SqT K H a xs /\ xs[i]? = some x, fun i H x H' => H' = H /\ ∀ xs, SqT K H a xs -> xs[i]? = some x, fun i H => ∃ xs, SqT K H a xs /\ xs.length <= i⟩
noncomputable def Itr (lo : Int) (n : Nat) : It := ⟨fun i _ => i < n, fun i H x H' => H' = H /\ x = .int (lo + i), fun i _ => n <= i⟩
theorem Zm0 {P : Program} {w : World} {K : Fg} {tg : Expr} (a it : Addr) : Turn P w K tg (Itl K a) [it] it (fun i h => h.IsListIter it a i) where
  mem := by simp
  obj := fun i h st b hb => by
    have e : b = it := by simpa using hb
    subst e
    obtain ⟨o, e, c, d⟩ := st
    exact ⟨o, e, fun v z => by rw [d] at z; cases z⟩
  keep := fun i h h' st k => st.at fun o e => k it (by simp) o e
  item := by
    intro X hP hw hK hc i pins s σ H E I hf st hg
    subst hP hw hK
    obtain ⟨xs, x, hq, hx⟩ := hg
    obtain ⟨its, rv, p, hz⟩ := I.list hq
    obtain ⟨u, hu, ru⟩ := rv.get hx
    obtain ⟨f0, f1, f2, f3, f4, f5⟩ := hf it (by simp)
    refine wpAny_pyNext_list_item st p.isList (x := u) (by simpa using hu) fun h' st' sb => ?_
    have I1 : Inv X pins σ H { s with heap := h' } := I.turned (t' := s.toks) (fun b o hb e => (sb.2 b hb).trans e) f0 f1 f3 f4 f5
    obtain ⟨o, e, c, d⟩ := id st'
    exact ⟨u, rfl, Zkd (s := { s with heap := h' }) e c d (by decide) ⟨x, H, I1, ru, ⟨rfl, fun ys hy => by rw [I.list_inj hy hq]; exact hx⟩, st', fun b hb => (hf b hb).1⟩⟩
  done := by
    intro X hP hw hK hc i pins s σ H E I hf st hg
    subst hP hw hK
    obtain ⟨xs, hq, hx⟩ := hg
    obtain ⟨its, rv, p, hz⟩ := I.list hq
    obtain ⟨f0, f1, f2, f3, f4, f5⟩ := hf it (by simp)
    have hl := rv.length
    exact wpAny_pyNext_list_end (I.ok.hd hc) st p.isList (by simp; omega) fun h' eb => ⟨rfl, I.turned (t' := s.toks) (fun b o hb e => eb b o hb e) f0 f1 f3 f4 f5⟩
  self := fun _ _ _ _ _ st h => wpAny_pyIter_listiter st h
theorem ZlJ {P : Program} {w : World} {K : Fg} {tg : Expr} (a it : Addr) : Turn P w K tg (Itt K a) [it] it (fun i h => h.IsTupleIter it a i) where
  mem := by simp
  obj := fun i h st b hb => by
    have e : b = it := by simpa using hb
    subst e
    obtain ⟨o, e, c, d⟩ := st
    exact ⟨o, e, fun v z => by rw [d] at z; cases z⟩
  keep := fun i h h' st k => st.at fun o e => k it (by simp) o e
  item := by
    intro X hP hw hK hc i pins s σ H E I hf st hg
    subst hP hw hK
    obtain ⟨xs, x, hq, hx⟩ := hg
    obtain ⟨its, rv, p, hz⟩ := I.tuple hq
    obtain ⟨u, hu, ru⟩ := rv.get hx
    obtain ⟨f0, f1, f2, f3, f4, f5⟩ := hf it (by simp)
    refine wpAny_pyNext_tuple_item st (show s.heap.IsTuple a its.toArray from p) (x := u) (by simpa using hu) fun h' st' sb => ?_
    have I1 : Inv X pins σ H { s with heap := h' } := I.turned (t' := s.toks) (fun b o hb e => (sb.2 b hb).trans e) f0 f1 f3 f4 f5
    obtain ⟨o, e, c, d⟩ := id st'
    exact ⟨u, rfl, Zkd (s := { s with heap := h' }) e c d (by decide) ⟨x, H, I1, ru, ⟨rfl, fun ys hy => by rw [I.tuple_inj hy hq]; exact hx⟩, st', fun b hb => (hf b hb).1⟩⟩
  done := by
    intro X hP hw hK hc i pins s σ H E I hf st hg
    subst hP hw hK
    obtain ⟨xs, hq, hx⟩ := hg
    obtain ⟨its, rv, p, hz⟩ := I.tuple hq
    obtain ⟨f0, f1, f2, f3, f4, f5⟩ := hf it (by simp)
    have hl := rv.length
    exact wpAny_pyNext_tuple_end (I.ok.hd hc) st (show s.heap.IsTuple a its.toArray from p) (by simp; omega) fun h' eb => ⟨rfl, I.turned (t' := s.toks) (fun b o hb e => eb b o hb e) f0 f1 f3 f4 f5⟩
  self := fun _ _ _ _ _ st h => wpAny_pyIter_tupleiter st h
theorem ZlK {P : Program} {w : World} {K : Fg} {tg : Expr} (it : Addr) (lo : Int) (n : Nat) : Turn P w K tg (Itr lo n) [it] it (fun i h => IsRangeIter h it (lo + (i : Nat) * 1) ((n : Int) - (i : Nat)) 1) where
  mem := by simp
  obj := fun i h st b hb => by
    have e : b = it := by simpa using hb
    subst e
    exact ⟨_, st, fun v z => by
      have z' : Data.fields _ = Data.cell v := z
      cases z'⟩
  keep := fun i h h' st k => k it (by simp) _ st
  item := by
    intro X hP hw hK hc i pins s σ H E I hf st hg
    subst hP hw hK
    obtain ⟨f0, f1, f2, f3, f4, f5⟩ := hf it (by simp)
    have W := Walks.range (prog := X.prog) (w := X.w) (I.ok.hd hc) it lo 1 n
    refine W.item i s _ _ hg st fun v h' tk hv st' kk => ?_
    obtain ⟨t, rfl⟩ := hv
    have I1 : Inv X pins σ H { s with heap := h', toks := tk } := I.turned (fun b o hb e => kk b o (by simpa using hb) e) f0 f1 f3 f4 f5
    refine ⟨_, rfl, Zkd (s := { s with heap := h', toks := tk }) (n := "range_iterator") st' rfl rfl (by decide) ⟨.int (lo + i), H, I1, ⟨t, ?_⟩, ⟨rfl, rfl⟩, st', fun b hb => (hf b hb).1⟩⟩
    rw [Int.mul_one]
  done := by
    intro X hP hw hK hc i pins s σ H E I hf st hg
    subst hP hw hK
    obtain ⟨f0, f1, f2, f3, f4, f5⟩ := hf it (by simp)
    exact wpAny_pyNext_range_end (I.ok.hd hc) st (by have : n <= i := hg; omega) fun h' eb => ⟨rfl, I.turned (t' := s.toks) (fun b o hb e => eb b o hb e) f0 f1 f3 f4 f5⟩
  self := fun _ _ _ _ _ st h => wpAny_pyIter_rangeiter st h
end L2
namespace L2
open PySem PySem.Spec PyProof.Rows
section
variable {X : Cx} {tg : Expr}
noncomputable def Zs0 (K : Fg) (tl : TE) : TI := fun σ H R => tl σ H fun x H1 => ∃ a, x = .ref a /\ (∃ xs, SqL K H1 a xs) /\ R (Itl K a) H1
noncomputable def iTup (K : Fg) (tl : TE) : TI := fun σ H R => tl σ H fun x H1 => ∃ a, x = .ref a /\ (∃ xs, SqT K H1 a xs) /\ R (Itt K a) H1
theorem Zlv {l : Expr} {tl : TE} (hl : PE X l tl) : PI X tg l (Zs0 X.K tl) := by
  intro pins s σ H R I h
  refine thn (hl pins s σ H _ I h) fun v s1 ⟨x, H1, I1, r1, q1⟩ => ?_
  obtain ⟨a, e, ⟨xs, hq⟩, q⟩ := q1
  subst e
  cases r1
  obtain ⟨its, rv, p, hz⟩ := I1.list hq
  refine wpAny_pyIter_list p.isList ?_
  refine ⟨s1.heap.objs.size, [s1.heap.objs.size], _, _, H1, rfl, I1.kept (t' := s1.toks) fun b o e => Heap.get?_push_of_some _ e, Zm0 a _, ⟨_, Heap.get?_push_size _ rfl, rfl, rfl⟩, fun b hb => ?_, q⟩
  have e : b = s1.heap.objs.size := by simpa using hb
  subst e
  exact I1.fpOk (Nat.le_refl _) (I1.hok.fresh (Nat.le_refl _))
theorem Zm1 {l : Expr} {tl : TE} (hl : PE X l tl) : PI X tg l (iTup X.K tl) := by
  intro pins s σ H R I h
  refine thn (hl pins s σ H _ I h) fun v s1 ⟨x, H1, I1, r1, q1⟩ => ?_
  obtain ⟨a, e, ⟨xs, hq⟩, q⟩ := q1
  subst e
  cases r1
  obtain ⟨its, rv, p, hz⟩ := I1.tuple hq
  refine wpAny_pyIter_tuple (show s1.heap.IsTuple a its.toArray from p) ?_
  refine ⟨s1.heap.objs.size, [s1.heap.objs.size], _, _, H1, rfl, I1.kept (t' := s1.toks) fun b o e => Heap.get?_push_of_some _ e, ZlJ a _, ⟨_, Heap.get?_push_size _ rfl, rfl, rfl⟩, fun b hb => ?_, q⟩
  have e : b = s1.heap.objs.size := by simpa using hb
  subst e
  exact I1.fpOk (Nat.le_refl _) (I1.hok.fresh (Nat.le_refl _))
theorem Zkj {pins : List (Addr × Obj)} {σ : St} {H : Hp} {s : Shared} {R : It -> Hp -> Prop} {E : Value -> Shared -> Prop} {lo hi : Int} {t u v : Tok} {tk : Nat} (I : Inv X pins σ H s) (h1 : -(2 ^ 62) <= lo) (h2 : lo < 2 ^ 62) (h3 : -(2 ^ 62) <= hi) (h4 : hi < 2 ^ 62)
    (q : R (Itr lo (hi - lo).toNat) H) : wpAny (model X.prog X.w) X.A (pyIter (.ref s.heap.objs.size)) (PIE X pins σ tg R) E { s with heap := s.heap.push { cls := .type "range", data := .fields #[.int lo t, .int hi u, .int 1 v] }, toks := tk } := by
  refine wpAny_pyIter_range (IsRange.new ..) (small_one h1 h2 h3 h4) ?_
  have I1 : Inv X pins σ H { s with heap := s.heap.push { cls := .type "range", data := .fields #[.int lo t, .int hi u, .int 1 v] }, toks := tk } := I.kept fun b o e => Heap.get?_push_of_some _ e
  refine ⟨(s.heap.push { cls := .type "range", data := .fields #[.int lo t, .int hi u, .int 1 v] }).objs.size, [(s.heap.push { cls := .type "range", data := .fields #[.int lo t, .int hi u, .int 1 v] }).objs.size], _, _, H, rfl,
    I1.kept (t' := tk) fun b o e => Heap.get?_push_of_some _ e, ZlK _ lo (hi - lo).toNat, ?_, fun b hb => ?_, q⟩
  . have e1 : lo + ((0 : Nat) : Int) * 1 = lo := by simp
    have e2 : (((hi - lo).toNat : Nat) : Int) - ((0 : Nat) : Int) = Builtin.Range.rangeSize lo hi 1 := by rw [rangeSize_one]; split <;> omega
    show IsRangeIter _ _ (lo + ((0 : Nat) : Int) * 1) ((((hi - lo).toNat : Nat) : Int) - ((0 : Nat) : Int)) 1
    rw [e1, e2]
    exact Heap.get?_push_size _ rfl
  . have e : b = (s.heap.push { cls := .type "range", data := .fields #[.int lo t, .int hi u, .int 1 v] }).objs.size := by simpa using hb
    subst e
    exact I1.fpOk (Nat.le_refl _) (I1.hok.fresh (Nat.le_refl _))
noncomputable def Zs1 (ta : TA) : TI := fun σ H R => ta σ H fun vs H1 => ∃ j : Int, vs = [.int j] /\ -(2 ^ 62) <= j /\ j < 2 ^ 62 /\ R (Itr 0 j.toNat) H1
noncomputable def Zs2 (ta : TA) : TI := fun σ H R => ta σ H fun vs H1 => ∃ i j : Int, vs = [.int i, .int j] /\ (-(2 ^ 62) <= i /\ i < 2 ^ 62 /\ -(2 ^ 62) <= j /\ j < 2 ^ 62) /\ R (Itr i (j - i).toNat) H1
theorem Zm2 {a : Expr} {ta : TA} {p pos : Pos} (hg : Gl X "range") (hm : X.mg "range" = none) (ha : PA X [a] ta) (hs : starEach [a] X.env = [(false, eval a X.env)] := by rfl) : PI X tg (.Call (.Name "range" p) [a] [] pos) (Zs1 ta) := by
  intro pins s σ H R I h
  refine Call_ (ZfT I hg hm boot_range (PyProof.Rows.callWith_type1 (thn (ha pos pins s σ H _ I h) fun us s1 ⟨vs, H1, I1, r1, q1⟩ => ?_) hs rfl))
  obtain ⟨j, e, q1, q2, q⟩ := q1
  subst e
  cases r1 with
  | cons r rr =>
    cases rr
    obtain ⟨t, rfl⟩ := r
    exact call_range_1 (Zkj I1 (by omega) (by omega) q1 q2 (by simpa using q))
theorem Zm3 {a b : Expr} {ta : TA} {p pos : Pos} (hg : Gl X "range") (hm : X.mg "range" = none) (ha : PA X [a, b] ta) (hs : starEach [a, b] X.env = [(false, eval a X.env), (false, eval b X.env)] := by rfl) (hs2 : starEach [b] X.env = [(false, eval b X.env)] := by rfl) :
    PI X tg (.Call (.Name "range" p) [a, b] [] pos) (Zs2 ta) := by
  intro pins s σ H R I h
  refine Call_ (ZfT I hg hm boot_range (PyProof.Rows.callWith_type1 (thn (ha pos pins s σ H _ I h) fun us s1 ⟨vs, H1, I1, r1, q1⟩ => ?_) (by rw [hs, hs2]) (by rw [hs2]; rfl)))
  obtain ⟨i, j, e, ⟨q1, q2, q3, q4⟩, q⟩ := q1
  subst e
  cases r1 with
  | cons r rr =>
    cases rr with
    | cons r' rr =>
      cases rr
      obtain ⟨t, rfl⟩ := r
      obtain ⟨t', rfl⟩ := r'
      exact call_range_2 (Zkj I1 q1 q2 q3 q4 q)
def tFor (wi : TI) (g : TG) (tb : TS) : TS := fun D σ H => wi σ H fun J H1 => ∃ W : Nat -> Nat -> St -> Hp -> Prop, (∃ m, W 0 m σ H1) /\ ∀ i m σ H, W i m σ H ->
  (J.stop i H /\ D.nx σ H) \/ (J.go i H /\ ∃ N : St -> Hp -> Prop, (∀ σ' H', N σ' H' -> ∃ m', m' < m /\ W (i + 1) m' σ' H') /\ ∀ x H', J.yld i H x H' -> g x σ H' fun σ2 H2 => tb { D with nx := N, ct := N, bk := D.nx } σ2 H2)
noncomputable def Zg5 (fp : List Addr) (h : Heap) : List (Addr × Obj) := fp.filterMap fun b => (h.get? b).map fun o => (b, o)
theorem Zdk {fp : List Addr} {h : Heap} {b : Addr} {o : Obj} (hb : b ∈ fp) (e : h.get? b = some o) : (b, o) ∈ Zg5 fp h := List.mem_filterMap.mpr ⟨b, hb, by rw [e]; rfl⟩
theorem Zm4 {fp : List Addr} {h : Heap} {p : Addr × Obj} (hp : p ∈ Zg5 fp h) : p.1 ∈ fp /\ h.get? p.1 = some p.2 := by
  obtain ⟨b, hb, e⟩ := List.mem_filterMap.mp hp
  cases q : h.get? b with
  | none => rw [q] at e; cases e
  | some o =>
    rw [q] at e
    have e' : (b, o) = p := Option.some.inj e
    subst e'
    exact ⟨hb, q⟩
theorem Inv.pinned {pins : List (Addr × Obj)} {σ : St} {H : Hp} {s : Shared} {fp : List Addr} (I : Inv X pins σ H s) (hf : ∀ b ∈ fp, FpOk X pins H b) (ho : ∀ b ∈ fp, ∃ o, s.heap.get? b = some o /\ ∀ v, o.data ≠ .cell v) : Inv X (pins ++ Zg5 fp s.heap) σ H s :=
  I.pins_of fun p hp => (List.mem_append.mp hp).elim (fun z => I.pin p (List.mem_append_right _ z)) fun z => by
    obtain ⟨hb, e⟩ := Zm4 z
    obtain ⟨f0, f1, f2, _⟩ := hf p.1 hb
    obtain ⟨o, e', d⟩ := ho p.1 hb
    rw [e] at e'; cases e'
    exact ⟨e, f0, f1, f2, d⟩
theorem Inv.unpinned {pins pl : List (Addr × Obj)} {σ : St} {H : Hp} {s : Shared} (I : Inv X (pins ++ pl) σ H s) : Inv X pins σ H s := I.pins_of fun p hp => I.pin p (List.mem_append_right _ (List.mem_append_left _ hp))
theorem Zq3 {iter : Expr} {body : List Stmt} {wi : TI} {g : TG} {tb : TS} {pos : Pos} (hp : PassesOwn (model X.prog X.w) X.A X.env X.xe) (hc : X.calm = true) (hi : PI X tg iter wi) (hg : PG X tg g) (hb : PSs X body tb)
    (hs : ∀ x, foldedSetIterable iter X.env x = pure x := by intro _; rfl) : PS X (.For tg iter body [] pos) (tFor wi g tb) := by
  intro pins s σ H D I h
  refine wpAny_For (thn (hi pins s σ H _ I h) fun v s1 h1 => thn h1 fun itv s2 h2 => ?_) hs
  obtain ⟨it, fp, tn, J, H2, e, I2, T, st2, f2, W, ⟨m0, w0⟩, turn⟩ := h2
  subst e
  have stat : ∀ {H' : Hp}, (∀ b ∈ fp, H' b = none) -> ∀ b ∈ fp, FpOk X pins H' b := fun hn b hb => ⟨hn b hb, (f2 b hb).2⟩
  refine codeAny_forLoop_any (fun n s' => ∃ i σ' H', Inv X pins σ' H' s' /\ tn i s'.heap /\ (∀ b ∈ fp, H' b = none) /\ W i n σ' H') ?_ m0 ⟨0, σ, H2, I2, st2, fun b hb => (f2 b hb).1, w0⟩
  rintro n s3 ⟨i, σ3, H3, I3, st3, fr3, w3⟩
  rcases turn i n σ3 H3 w3 with ⟨stop, qn⟩ | ⟨go, N, hN, step⟩
  . refine wpAny_passesOwn hp (thn (T.done X rfl rfl rfl hc i pins s3 σ3 H3 X.xe I3 (stat fr3) st3 stop) fun r s4 ⟨hr, I4⟩ => ?_)
    subst hr
    exact wpAny_execs_nil ⟨σ3, H3, I4, qn⟩
  . refine wpAny_passesOwn hp (thn (T.item X rfl rfl rfl hc i pins s3 σ3 H3 X.xe I3 (stat fr3) st3 go) fun r s4 ⟨u, hr, h4⟩ => ?_)
    subst hr
    refine wpAny_passesOwn hp (thn h4 fun _ s5 ⟨x, H5, I5, r5, y5, st5, fr5⟩ => ?_)
    have I5' := I5.pinned (stat fr5) (T.obj _ _ st5)
    refine wpAny_passesOwn hp (thn (hg _ s5 σ3 H5 x u _ I5' r5 (step x H5 y5)) fun _ s6 ⟨σ6, H6, I6, q6⟩ => ?_)
    refine wpAny_passesOwn hp (thn (hb _ s6 σ6 H6 _ I6 q6) fun f s7 q7 => ?_)
    have again : ∀ {σ7 : St} {H7 : Hp}, Inv X (pins ++ Zg5 fp s5.heap) σ7 H7 s7 -> N σ7 H7 -> ∃ m, m < n /\ ∃ i σ' H', Inv X pins σ' H' s7 /\ tn i s7.heap /\ (∀ b ∈ fp, H' b = none) /\ W i m σ' H' := fun {σ7 H7} I7 n7 => by
      obtain ⟨m', hm, w7⟩ := hN σ7 H7 n7
      refine ⟨m', hm, i + 1, σ7, H7, I7.unpinned, T.keep _ _ _ st5 fun b hb o e => (I7.pin (b, o) (List.mem_append_right _ (List.mem_append_right _ (Zdk hb e)))).1, fun b hb => ?_, w7⟩
      obtain ⟨o, e, d⟩ := T.obj _ _ st5 b hb
      exact (I7.pin (b, o) (List.mem_append_right _ (List.mem_append_right _ (Zdk hb e)))).2.1
    cases f with
    | next => obtain ⟨σ7, H7, I7, n7⟩ := q7; exact again I7 n7
    | cont => obtain ⟨σ7, H7, I7, n7⟩ := q7; exact again I7 n7
    | brk => obtain ⟨σ7, H7, I7, q7⟩ := q7; exact ⟨σ7, H7, I7.unpinned, q7⟩
    | ret v => obtain ⟨x7, σ7, H7, I7, r7, q7⟩ := q7; exact ⟨x7, σ7, H7, I7.unpinned, r7, q7⟩
end
end L2
namespace L2
open PySem PySem.Spec PyProof.Rows
abbrev R2 := V -> V -> Hp -> VK -> Prop
def OpR (X : Cx) (f : Value -> Value -> Sem Value) (r : R2) : Prop :=
  ∀ (pins : List (Addr × Obj)) (s : Shared) (σ : St) (H : Hp) (x y : V) (v u : Value) (Q : VK), Inv X pins σ H s -> RelV x v -> RelV y u -> r x y H Q ->
    wpAny (model X.prog X.w) X.A (f v u) (EP X pins σ Q) X.xe s
def UnR (X : Cx) (f : Value -> Sem Value) (r : V -> Hp -> VK -> Prop) : Prop :=
  ∀ (pins : List (Addr × Obj)) (s : Shared) (σ : St) (H : Hp) (x : V) (v : Value) (Q : VK), Inv X pins σ H s -> RelV x v -> r x H Q ->
    wpAny (model X.prog X.w) X.A (f v) (EP X pins σ Q) X.xe s
def Zbz (X : Cx) (f : Value) (r : List V -> Hp -> VK -> Prop) : Prop :=
  ∀ (pins : List (Addr × Obj)) (s : Shared) (σ : St) (H : Hp) (xs : List V) (us : List Value) (Q : VK), Inv X pins σ H s -> Vals xs us -> r xs H Q ->
    wpAny (model X.prog X.w) X.A (call f us) (EP X pins σ Q) X.xe s
def TruR (X : Cx) (r : V -> Hp -> (Bool -> Hp -> Prop) -> Prop) : Prop :=
  ∀ (pins : List (Addr × Obj)) (s : Shared) (σ : St) (H : Hp) (x : V) (v : Value) (Q : Bool -> Hp -> Prop), Inv X pins σ H s -> RelV x v -> r x H Q ->
    wpAny (model X.prog X.w) X.A (truthy v) (TP X pins σ Q) X.xe s
def tOp (r : R2) (ta tb : TE) : TE := fun σ H Q => ta σ H fun x H1 => tb σ H1 fun y H2 => r x y H2 Q
def tUn (r : V -> Hp -> VK -> Prop) (ta : TE) : TE := fun σ H Q => ta σ H fun x H1 => r x H1 Q
def rI (C : Int -> Int -> Prop) (g : Int -> Int -> V) : R2 := fun x y H Q => ∃ i j, x = .int i /\ y = .int j /\ C i j /\ Q (g i j) H
def rI0 (g : Int -> Int -> V) : R2 := fun x y H Q => ∃ i j, x = .int i /\ y = .int j /\ Q (g i j) H
def rU (g : Int -> V) : V -> Hp -> VK -> Prop := fun x H Q => ∃ i, x = .int i /\ Q (g i) H
section
variable {X : Cx} {a b c : Expr} {ta tb tc : TE} {pos : Pos}
theorem binT (ha : PE X a ta) (hb : PE X b tb) {pins : List (Addr × Obj)} {s : Shared} {σ : St} {H : Hp} {R : V -> V -> Hp -> Prop} (I : Inv X pins σ H s)
    (h : ta σ H fun x H1 => tb σ H1 fun y H2 => R x y H2) {Q : Value -> Shared -> Prop} {f : Value -> Value -> Sem Value}
    (hf : ∀ v u s2 x y H2, Inv X pins σ H2 s2 -> RelV x v -> RelV y u -> R x y H2 -> wpAny (model X.prog X.w) X.A (f v u) Q X.xe s2) :
    wpAny (model X.prog X.w) X.A (eval a X.env) (fun v s₁ => wpAny (model X.prog X.w) X.A (eval b X.env) (fun u s₂ => wpAny (model X.prog X.w) X.A (f v u) Q X.xe s₂) X.xe s₁) X.xe s := by
  refine thn (ha pins s σ H _ I h) fun v s1 ⟨x, H1, I1, r1, q1⟩ => ?_
  refine thn (hb pins s1 σ H1 _ I1 q1) fun u s2 ⟨y, H2, I2, r2, q2⟩ => ?_
  exact hf v u s2 x y H2 I2 r1 r2 q2
theorem Zs3 {op : Operator} {r : R2} (ho : OpR X (binaryOp op) r) (ha : PE X a ta) (hb : PE X b tb) : PE X (.BinOp a op b pos) (tOp r ta tb) := by
  intro pins s σ H Q I h
  exact wpAny_BinOp (binT ha hb I h fun v u s2 x y H2 I2 rx ry q => ho pins s2 σ H2 x y v u Q I2 rx ry q)
theorem Zs4 {op : UnaryOp} {r : V -> Hp -> VK -> Prop} (ho : UnR X (unaryOp op) r) (ha : PE X a ta) : PE X (.UnaryOp op a pos) (tUn r ta) := by
  intro pins s σ H Q I h
  exact UnaryOp_ (thn (ha pins s σ H _ I h) fun v s1 ⟨x, H1, I1, r1, q1⟩ => ho pins s1 σ H1 x v Q I1 r1 q1)
theorem opI {f : Value -> Value -> Sem Value} {C : Int -> Int -> Prop} {g : Int -> Int -> Int}
    (rule : ∀ (i j : Int) (t u : Tok) (s : Shared) (Q : Value -> Shared -> Prop) (E : Value -> Shared -> Prop), C i j -> Q (.int (g i j) s.toks) { s with toks := s.toks + 1 } -> wpAny (model X.prog X.w) X.A (f (.int i t) (.int j u)) Q E s) :
    OpR X f (rI C fun i j => .int (g i j)) := by
  intro pins s σ H x y v u Q I rx ry h
  obtain ⟨i, j, rfl, rfl, hc, q⟩ := h
  obtain ⟨t, rfl⟩ := rx
  obtain ⟨t', rfl⟩ := ry
  exact rule i j t t' s _ _ hc ⟨.int (g i j), H, I.tok _, ⟨_, rfl⟩, q⟩
theorem opI0 {f : Value -> Value -> Sem Value} {g : Int -> Int -> Int}
    (rule : ∀ (i j : Int) (t u : Tok) (s : Shared) (Q : Value -> Shared -> Prop) (E : Value -> Shared -> Prop), Q (.int (g i j) s.toks) { s with toks := s.toks + 1 } -> wpAny (model X.prog X.w) X.A (f (.int i t) (.int j u)) Q E s) :
    OpR X f (rI0 fun i j => .int (g i j)) := by
  intro pins s σ H x y v u Q I rx ry h
  obtain ⟨i, j, rfl, rfl, q⟩ := h
  obtain ⟨t, rfl⟩ := rx
  obtain ⟨t', rfl⟩ := ry
  exact rule i j t t' s _ _ ⟨.int (g i j), H, I.tok _, ⟨_, rfl⟩, q⟩
theorem opB0 {f : Value -> Value -> Sem Value} {g : Int -> Int -> Bool}
    (rule : ∀ (i j : Int) (t u : Tok) (s : Shared) (Q : Value -> Shared -> Prop) (E : Value -> Shared -> Prop), Q (.bool (g i j)) s -> wpAny (model X.prog X.w) X.A (f (.int i t) (.int j u)) Q E s) :
    OpR X f (rI0 fun i j => .bl (g i j)) := by
  intro pins s σ H x y v u Q I rx ry h
  obtain ⟨i, j, rfl, rfl, q⟩ := h
  obtain ⟨t, rfl⟩ := rx
  obtain ⟨t', rfl⟩ := ry
  exact rule i j t t' s _ _ ⟨.bl (g i j), H, I, rfl, q⟩
def CDiv (i j : Int) : Prop := 0 < j /\ j < 1073741824
def CPow (i j : Int) : Prop := 0 <= j /\ j <= 1000000 /\ i.natAbs < 2 ^ 64
def CMul (i j : Int) : Prop := (-(2 ^ 64) < i /\ i < 2 ^ 64) \/ (-(2 ^ 64) < j /\ j < 2 ^ 64)
theorem CMul.ok {i j : Int} (h : CMul i j) : IntMulOk i j := by
  rcases h with ⟨h1, h2⟩ | ⟨h1, h2⟩
  . exact .of_left (intBits_le_64 h1 h2)
  . exact .of_right (intBits_le_64 h1 h2)
theorem Zq4 : OpR X (binaryOp .Add) (rI0 fun i j => .int (i + j)) := opI0 fun _ _ _ _ _ _ _ q => add_int q
theorem Zq5 : OpR X (binaryOp .Sub) (rI0 fun i j => .int (i - j)) := opI0 fun _ _ _ _ _ _ _ q => sub_int q
theorem Zq6 : OpR X (binaryOp .Mult) (rI CMul fun i j => .int (i * j)) := opI fun _ _ _ _ _ _ _ hc q => mul_int q hc.ok
theorem ZoT : OpR X (binaryOp .FloorDiv) (rI CDiv fun i j => .int (i / j)) := opI fun i j _ _ _ _ _ hc q => by
  have h1 : (0 : Int) < j := hc.1
  have h2 : j < 1073741824 := hc.2
  exact floordiv_int (by omega) (by rw [Int.fdiv_eq_ediv_of_nonneg i (by omega)]; exact q) (.inl (PyProof.noPylong_small (by omega)))
theorem Zq7 : OpR X (binaryOp .Mod) (rI (fun _ j => 0 < j) fun i j => .int (i % j)) := opI fun i j _ _ _ _ _ hc q => by
  have h1 : (0 : Int) < j := hc
  exact mod_int' (by omega) (by rw [Int.fmod_eq_emod_of_nonneg i (by omega)]; exact q)
theorem Zq8 : OpR X (binaryOp .Pow) (rI CPow fun i j => .int (i ^ j.toNat)) := opI fun _ _ _ _ _ _ _ hc q => pow_int_small hc.1 hc.2.1 hc.2.2 q
theorem unI {f : Value -> Sem Value} {g : Int -> Int}
    (rule : ∀ (i : Int) (t : Tok) (s : Shared) (Q : Value -> Shared -> Prop) (E : Value -> Shared -> Prop), Q (.int (g i) s.toks) { s with toks := s.toks + 1 } -> wpAny (model X.prog X.w) X.A (f (.int i t)) Q E s) :
    UnR X f (rU fun i => .int (g i)) := by
  intro pins s σ H x v Q I rx h
  obtain ⟨i, rfl, q⟩ := h
  obtain ⟨t, rfl⟩ := rx
  exact rule i t s _ _ ⟨.int (g i), H, I.tok _, ⟨_, rfl⟩, q⟩
theorem Zq9 : UnR X (unaryOp .USub) (rU fun i => .int (-i)) := unI fun _ _ _ _ _ q => neg_int q
end
noncomputable def scal : V -> V -> Bool
  | .non, .non => true | .non, .int _ => true | .int _, .non => true | .non, .bl _ => true | .bl _, .non => true | .non, .str _ => true | .str _, .non => true
  | .int _, .int _ => true | .bl _, .bl _ => true | .str _, .str _ => true | .byt _, .byt _ => true
  | .int _, .str _ => true | .str _, .int _ => true | .bl _, .str _ => true | .str _, .bl _ => true
  | _, _ => false
def rEq : R2 := fun x y H Q => scal x y = true /\ Q (.bl (decide (x = y))) H
def rNe : R2 := fun x y H Q => scal x y = true /\ Q (.bl (!decide (x = y))) H
theorem Zlw {i j : Int} : decide (V.int i = V.int j) = (i == j) := by
  rw [Bool.eq_iff_iff]
  simp
theorem Zm5 {i j : Bool} : decide (V.bl i = V.bl j) = (i == j) := by
  rw [Bool.eq_iff_iff]
  simp
theorem Zlx {i j : Str} : decide (V.str i = V.str j) = (i == j) := by
  rw [Bool.eq_iff_iff]
  simp
theorem Zly {i j : Array UInt8} : decide (V.byt i = V.byt j) = (i.toList == j.toList) := by
  rw [Bool.eq_iff_iff]
  cases i
  cases j
  simp
section
variable {X : Cx} {a b c : Expr} {ta tb tc : TE} {pos : Pos}
theorem ZL {pins : List (Addr × Obj)} {σ : St} {H : Hp} {s : Shared} {Q : VK} {k k' : Bool} (I : Inv X pins σ H s) (q : Q (.bl k) H) (e : k = k') : EP X pins σ Q (.bool k') s := by
  subst e
  exact ⟨.bl k, H, I, rfl, q⟩
theorem Zo0 : OpR X (compareOp .Eq) rEq := by
  intro pins s σ H x y v u Q I rx ry h
  obtain ⟨hs, q⟩ := h
  cases x with
  | non =>
    cases rx
    cases y with
    | non => cases ry; exact PySem.EqNone.eq_none_none (ZL I q (by simp))
    | bl j => cases ry; exact PySem.EqNone.eq_none_bool (ZL I q (by simp))
    | int j => obtain ⟨t', rfl⟩ := ry; exact PySem.EqNone.eq_none_int (ZL I q (by simp))
    | str j => obtain ⟨t', rfl⟩ := ry; exact PySem.EqNone.eq_none_str (ZL I q (by simp))
    | _ => exact absurd (show false = true from hs) Bool.false_ne_true
  | bl i =>
    cases rx
    cases y with
    | non => cases ry; exact PySem.EqNone.eq_bool_none (ZL I q (by simp))
    | bl j => cases ry; exact eq_bool (ZL I q Zm5)
    | str j => obtain ⟨t', rfl⟩ := ry; exact PySem.EqMixed.eq_bool_str (ZL I q (by simp))
    | _ => exact absurd (show false = true from hs) Bool.false_ne_true
  | int i =>
    obtain ⟨t, rfl⟩ := rx
    cases y with
    | non => cases ry; exact PySem.EqNone.eq_int_none (ZL I q (by simp))
    | int j => obtain ⟨t', rfl⟩ := ry; exact eq_int (ZL I q Zlw)
    | str j => obtain ⟨t', rfl⟩ := ry; exact PySem.EqMixed.eq_int_str (ZL I q (by simp))
    | _ => exact absurd (show false = true from hs) Bool.false_ne_true
  | str i =>
    obtain ⟨t, rfl⟩ := rx
    cases y with
    | non => cases ry; exact PySem.EqNone.eq_str_none (ZL I q (by simp))
    | bl j => cases ry; exact PySem.EqMixed.eq_str_bool (ZL I q (by simp))
    | int j => obtain ⟨t', rfl⟩ := ry; exact PySem.EqMixed.eq_str_int (ZL I q (by simp))
    | str j => obtain ⟨t', rfl⟩ := ry; exact eq_str (ZL I q Zlx)
    | _ => exact absurd (show false = true from hs) Bool.false_ne_true
  | byt i =>
    obtain ⟨t, rfl⟩ := rx
    cases y with
    | byt j => obtain ⟨t', rfl⟩ := ry; exact PySem.W.eq_bytes (ZL I q Zly)
    | _ => exact absurd (show false = true from hs) Bool.false_ne_true
  | _ => cases y <;> exact absurd (show false = true from hs) Bool.false_ne_true
theorem Zo1 : OpR X (compareOp .NotEq) rNe := by
  intro pins s σ H x y v u Q I rx ry h
  obtain ⟨hs, q⟩ := h
  cases x with
  | non =>
    cases rx
    cases y with
    | non => cases ry; exact PySem.EqNone.ne_none_none (ZL I q (by simp))
    | bl j => cases ry; exact PySem.EqNone.ne_none_bool (ZL I q (by simp))
    | int j => obtain ⟨t', rfl⟩ := ry; exact PySem.EqNone.ne_none_int (ZL I q (by simp))
    | str j => obtain ⟨t', rfl⟩ := ry; exact PySem.EqNone.ne_none_str (ZL I q (by simp))
    | _ => exact absurd (show false = true from hs) Bool.false_ne_true
  | bl i =>
    cases rx
    cases y with
    | non => cases ry; exact PySem.EqNone.ne_bool_none (ZL I q (by simp))
    | bl j => cases ry; exact ne_bool (ZL I q (congrArg not Zm5))
    | str j => obtain ⟨t', rfl⟩ := ry; exact PySem.EqMixed.ne_bool_str (ZL I q (by simp))
    | _ => exact absurd (show false = true from hs) Bool.false_ne_true
  | int i =>
    obtain ⟨t, rfl⟩ := rx
    cases y with
    | non => cases ry; exact PySem.EqNone.ne_int_none (ZL I q (by simp))
    | int j => obtain ⟨t', rfl⟩ := ry; exact ne_int (ZL I q (congrArg not Zlw))
    | str j => obtain ⟨t', rfl⟩ := ry; exact PySem.EqMixed.ne_int_str (ZL I q (by simp))
    | _ => exact absurd (show false = true from hs) Bool.false_ne_true
  | str i =>
    obtain ⟨t, rfl⟩ := rx
    cases y with
    | non => cases ry; exact PySem.EqNone.ne_str_none (ZL I q (by simp))
    | bl j => cases ry; exact PySem.EqMixed.ne_str_bool (ZL I q (by simp))
    | int j => obtain ⟨t', rfl⟩ := ry; exact PySem.EqMixed.ne_str_int (ZL I q (by simp))
    | str j => obtain ⟨t', rfl⟩ := ry; exact ne_str (ZL I q (congrArg not Zlx))
    | _ => exact absurd (show false = true from hs) Bool.false_ne_true
  | byt i =>
    obtain ⟨t, rfl⟩ := rx
    cases y with
    | byt j => obtain ⟨t', rfl⟩ := ry; exact PySem.W.ne_bytes (ZL I q (congrArg not Zly))
    | _ => exact absurd (show false = true from hs) Bool.false_ne_true
  | _ => cases y <;> exact absurd (show false = true from hs) Bool.false_ne_true
theorem Zo2 : OpR X (compareOp .Lt) (rI0 fun i j => .bl (decide (i < j))) := opB0 fun _ _ _ _ _ _ _ q => lt_int q
theorem Zo3 : OpR X (compareOp .LtE) (rI0 fun i j => .bl (decide (i <= j))) := opB0 fun _ _ _ _ _ _ _ q => le_int q
theorem Zo4 : OpR X (compareOp .Gt) (rI0 fun i j => .bl (decide (j < i))) := opB0 fun _ _ _ _ _ _ _ q => gt_int q
theorem Zo5 : OpR X (compareOp .GtE) (rI0 fun i j => .bl (decide (j <= i))) := opB0 fun _ _ _ _ _ _ _ q => ge_int q
theorem nomark (b : Expr) {op : CmpOp} (h : op ≠ .In := by decide) (h2 : op ≠ .NotIn := by decide) : behindInMarks op b = false := by
  have e1 : (op == CmpOp.In) = false := by cases op <;> first | rfl | exact absurd rfl h
  have e2 : (op == CmpOp.NotIn) = false := by cases op <;> first | rfl | exact absurd rfl h2
  cases b <;> simp [behindInMarks, e1, e2]
theorem ZoU {op : CmpOp} {r : R2} (ho : OpR X (compareOp op) r) (ha : PE X a ta) (hb : PE X b tb) (hm : behindInMarks op b = false) : PE X (.Compare a [op] [b] pos) (tOp r ta tb) := by
  intro pins s σ H Q I h
  exact wpAny_Compare1 (binT ha hb I h fun v u s2 x y H2 I2 rx ry q => ho pins s2 σ H2 x y v u Q I2 rx ry q) hm
def Zo6 (t : TE) : TT := fun σ H Q => t σ H fun x H' => ∃ k, x = .bl k /\ Q k H'
theorem ZoV {op : CmpOp} {r : R2} (ho : OpR X (compareOp op) r) (ha : PE X a ta) (hb : PE X b tb) (hm : behindInMarks op b = false) : PT X (.Compare a [op] [b] pos) (Zo6 (tOp r ta tb)) := by
  intro pins s σ H Q I h
  refine wpAny_isTrue_Compare1 (thn (ha pins s σ H _ I h) fun v s1 ⟨x, H1, I1, r1, q1⟩ => thn (hb pins s1 σ H1 _ I1 q1) fun u s2 ⟨y, H2, I2, r2, q2⟩ =>
    thn (ho pins s2 σ H2 x y v u _ I2 r1 r2 q2) fun c s3 ⟨z, H3, I3, r3, k, e, q3⟩ => ?_) hm
  subst e
  cases r3
  exact wpAny_truthy_bool ⟨H3, I3, q3⟩
def Zkk (r r' : R2) (ta tb tc : TE) : TE := fun σ H Q => ta σ H fun x H1 => tb σ H1 fun y H2 => r x y H2 fun z H3 => ∃ k, z = .bl k /\
  (if k = true then tc σ H3 fun w' H4 => r' y w' H4 Q else Q (.bl false) H3)
theorem Znz {op op' : CmpOp} {r r' : R2} (ho : OpR X (compareOp op) r) (ho' : OpR X (compareOp op') r') (ha : PE X a ta) (hb : PE X b tb) (hc : PE X c tc)
    (hm : lastMarks [op, op'] [b, c] = false := by with_unfolding_all rfl) : PE X (.Compare a [op, op'] [b, c] pos) (Zkk r r' ta tb tc) := by
  intro pins s σ H Q I h
  refine Compare_chain (thn (ha pins s σ H _ I h) fun v s1 ⟨x, H1, I1, r1, q1⟩ => chain_link (thn (hb pins s1 σ H1 _ I1 q1) fun u s2 ⟨y, H2, I2, r2, q2⟩ =>
    thn (ho pins s2 σ H2 x y v u _ I2 r1 r2 q2) fun d s3 ⟨z, H3, I3, r3, k, e, q3⟩ => ?_)) hm
  subst e
  cases r3
  refine wpAny_truthy_bool ?_
  cases k with
  | false => exact ite_ff ⟨.bl false, H3, I3, rfl, q3⟩
  | true => exact ite_tt (chain_last (thn (hc pins s3 σ H3 _ I3 q3) fun w' s4 ⟨z', H4, I4, r4, q4⟩ => ho' pins s4 σ H4 y z' u w' Q I4 r2 r4 q4))
theorem Zn0 {op op' : CmpOp} {r r' : R2} (ho : OpR X (compareOp op) r) (ho' : OpR X (compareOp op') r') (ha : PE X a ta) (hb : PE X b tb) (hc : PE X c tc)
    (hm : lastMarks [op, op'] [b, c] = false := by with_unfolding_all rfl) : PT X (.Compare a [op, op'] [b, c] pos) (Zo6 (Zkk r r' ta tb tc)) := by
  intro pins s σ H Q I h
  refine isTrue_chain (thn (ha pins s σ H _ I h) fun v s1 ⟨x, H1, I1, r1, q1⟩ => test_link (thn (hb pins s1 σ H1 _ I1 q1) fun u s2 ⟨y, H2, I2, r2, q2⟩ =>
    thn (ho pins s2 σ H2 x y v u _ I2 r1 r2 q2) fun d s3 ⟨z, H3, I3, r3, k, e, q3⟩ => ?_)) hm
  subst e
  cases r3
  refine wpAny_truthy_bool ?_
  cases k with
  | false =>
    obtain ⟨k', e', q'⟩ := q3
    cases e'
    exact ite_ff ⟨H3, I3, q'⟩
  | true =>
    refine ite_tt (test_last (thn (hc pins s3 σ H3 _ I3 q3) fun w' s4 ⟨z', H4, I4, r4, q4⟩ => thn (ho' pins s4 σ H4 y z' u w' _ I4 r2 r4 q4) fun d' s5 ⟨z2, H5, I5, r5, k2, e2, q5⟩ => ?_))
    subst e2
    cases r5
    exact wpAny_truthy_bool ⟨H5, I5, q5⟩
def TruV (K : Fg) (x : V) (H : Hp) (k : Bool) : Prop :=
  match x with
  | .non => k = false
  | .bl b => k = b
  | .int i => k = (i != 0)
  | .str y => y.length <= sizeLine /\ k = ((y.length : Int) != 0)
  | .byt y => y.size <= sizeLine /\ k = ((y.size : Int) != 0)
  | .ref p => (∃ xs, SqL K H p xs /\ k = !xs.isEmpty) \/ (∃ xs, SqT K H p xs /\ k = !xs.isEmpty) \/ ∃ kvs, H p = some (.dK kvs) /\ k = !kvs.isEmpty
  | _ => False
theorem ZlL {κ : Type} {kvs : List (κ × V)} {vs : List (κ × Value)} (r : KV kvs vs) : (!vs.isEmpty) = !kvs.isEmpty := by
  cases r <;> rfl
theorem Zix {xs : List V} {its : List Value} (r : Vals xs its) : (!its.toArray.isEmpty) = !xs.isEmpty := by
  cases r <;> simp
theorem ZfU : (sizeLine : Nat) < 2 ^ 63 := by rw [sizeLine_eq]; decide
theorem ZqA : TruR X (fun x H Q => ∃ k, TruV X.K x H k /\ Q k H) := by
  intro pins s σ H x v Q I rx h
  obtain ⟨k, e, q⟩ := h
  have hl := ZfU
  have hs : sizeLine = 16777216 := sizeLine_eq
  cases x with
  | non =>
    cases rx
    have e' : k = false := e
    subst e'
    exact truthy_none ⟨H, I, q⟩
  | bl b =>
    cases rx
    have e' : k = b := e
    subst e'
    exact wpAny_truthy_bool ⟨H, I, q⟩
  | int i =>
    obtain ⟨t, rfl⟩ := rx
    have e' : k = (i != 0) := e
    subst e'
    exact PySem.P.truthy_int ⟨H, I, q⟩
  | str y =>
    obtain ⟨t, rfl⟩ := rx
    obtain ⟨hy, e'⟩ : y.length <= sizeLine /\ k = ((y.length : Int) != 0) := e
    subst e'
    exact PySem.P.truthy_str (by omega) ⟨H, I.tok _, q⟩
  | byt y =>
    obtain ⟨t, rfl⟩ := rx
    obtain ⟨hy, e'⟩ : y.size <= sizeLine /\ k = ((y.size : Int) != 0) := e
    subst e'
    exact PySem.W.truthy_bytes (by omega) ⟨H, I.tok _, q⟩
  | ref p =>
    cases rx
    have e' : (∃ xs, SqL X.K H p xs /\ k = !xs.isEmpty) \/ (∃ xs, SqT X.K H p xs /\ k = !xs.isEmpty) \/ ∃ kvs, H p = some (.dK kvs) /\ k = !kvs.isEmpty := e
    rcases e' with ⟨xs, hx, e'⟩ | ⟨xs, hx, e'⟩ | ⟨kvs, hx, e'⟩
    . subst e'
      obtain ⟨its, r, pl, hz⟩ := I.list hx
      have hlen := r.length
      exact wpAny_truthy_list pl.isList (by simp only [List.size_toArray]; omega) ⟨H, I.tok _, by rw [Zix r]; exact q⟩
    . subst e'
      obtain ⟨its, r, pl, hz⟩ := I.tuple hx
      have hlen := r.length
      exact truthy_tuple pl (by simp only [List.size_toArray]; omega) ⟨H, I.tok _, by rw [Zix r]; exact q⟩
    . subst e'
      obtain ⟨hz, hS, vs, r, m⟩ : kvs.length <= sizeLine /\ (p == sysModules) = false /\ ∃ vs, KV kvs vs /\ s.heap.DictOf (Zh6 X.prog X.w) p vs := I.hok p _ hx
      have hlen : kvs.length = vs.length := Paired.length r
      exact wpAny_truthy_dict hS m (by omega) ⟨H, I.tok _, by rw [ZlL r]; exact q⟩
  | _ => exact (show False from e).elim
theorem Zn1 (ha : PE X a ta) (he : ∀ whole, isTrue a X.env whole = (do let v <- whole; standAt a.pos; holding [v] (truthy v))) :
    PT X a (fun σ H Q => ta σ H fun x H' => ∃ k, TruV X.K x H' k /\ Q k H') := by
  intro pins s σ H Q I h
  exact isTrue_plain (thn (ha pins s σ H _ I h) fun v s1 ⟨x, H1, I1, r1, q1⟩ => ZqA pins s1 σ H1 x v Q I1 r1 q1) (he _)
theorem ZlM : OpR X (binaryOp .Add) (fun x y H Q => ∃ i j, x = .str i /\ y = .str j /\ i.length + j.length <= sizeLine /\ Q (.str (i ++ j)) H) := by
  intro pins s σ H x y v u Q I rx ry h
  obtain ⟨i, j, rfl, rfl, hz, q⟩ := h
  obtain ⟨t, rfl⟩ := rx
  obtain ⟨t', rfl⟩ := ry
  exact add_str (fun t' tk => ⟨.str (i ++ j), H, I.tok _, ⟨_, rfl⟩, q⟩) hz
theorem Ziy {x : V} {us : List Value} (r : Vals [x] us) : ∃ u, us = [u] /\ RelV x u := by
  cases r with
  | cons r1 r2 => cases r2; exact ⟨_, rfl, r1⟩
theorem Zn2 : Zbz X (.builtin "abs") (fun xs H Q => ∃ i, xs = [.int i] /\ Q (.int (if i < 0 then -i else i)) H) := by
  intro pins s σ H xs us Q I r h
  obtain ⟨i, rfl, q⟩ := h
  obtain ⟨u, rfl, t, rfl⟩ := Ziy r
  exact call_abs_int fun u tk => ⟨.int (if i < 0 then -i else i), H, I.tok _, ⟨_, rfl⟩, q⟩
end
end L2
namespace L2
open PySem PySem.Spec PyProof.Rows
structure ObjM (h : Heap) (x dx C : Addr) (mA : Str -> Option Value) : Prop where
  obj : h.get? x = some (PySem.W.instObj C dx)
  ns : h.Ns1 dx mA
  ne : dx ≠ x
theorem Zj2 {h : Heap} {dx : Addr} {mA : Str -> Option Value} (n : h.Ns1 dx mA) : ∃ od, h.get? dx = some od /\ ∀ name, PySem.W.lookIn name od = some (mA name) := by
  obtain ⟨o, es, ep, ho, hd, hk, _, hm⟩ := n
  refine ⟨o, ho, fun name => ?_⟩
  have e := hm name
  unfold nsFind findBy at e
  rw [<- Array.find?_toList] at e
  unfold PySem.W.lookIn
  rw [hd]
  dsimp only
  split
  . rename_i y q
    rw [q] at e
    exact congrArg some e
  . rename_i q
    rw [q] at e
    have a : es.toList.any (·.refKey) = false := by
      rw [List.any_eq_false]
      intro y hy
      obtain ⟨z, t, hkey⟩ := hk y (Array.mem_toList_iff.mp hy)
      simp [DictEntry.refKey, hkey]
    have a' : ¬ es.toList.any (·.refKey) = true := by rw [a]; exact Bool.false_ne_true
    rw [if_neg a']
    exact congrArg some e
theorem ObjM.look {h : Heap} {x dx C : Addr} {mA : Str -> Option Value} (I : ObjM h x dx C mA) : ∃ od, PySem.W.InstAt h x (PySem.W.instObj C dx) C (some od) /\ ∀ name, PySem.W.lookIn name od = some (mA name) :=
  let ⟨od, ho, hl⟩ := Zj2 I.ns
  ⟨od, ⟨I.obj, rfl, rfl, ho⟩, hl⟩
section
variable {P : Program} {w : World} {H H' : Hp} {h h' : Heap} {a C dx : Addr} {fs fs' : List (Str × V)}
theorem ZoW (hok : HOk P w H h) (e : H a = some (.ins C dx fs)) : ∃ mA, ObjM h a dx C mA /\ (∀ f, RelO (fs.lookup f) (mA f)) /\ PySem.Within mA (fs.map (·.1)) /\ fs.length <= 1000 /\ H dx = some (.own a) := by
  obtain ⟨d, z, ne, ob, mA, n, r, q⟩ := (show Zaw P w H h a (.ins C dx fs) from hok a _ e)
  exact ⟨mA, ⟨ob, n, ne⟩, r, q, z, d⟩
end
structure Cls (K : Fg) (C : Addr) : Prop where
  pg : PySem.W.plainGet K C Str.empty = true
  hd : PySem.W.hasDictIn K C = true
  po : PySem.W.plainOver K C = true
  sa : PySem.W.findIn K (.ref C) "__setattr__" = some (some (.builtin "object.__setattr__"))
theorem Cls.get {K : Fg} {C : Addr} (c : Cls K C) (f : Str) : PySem.W.plainGet K C f = true := c.pg
def ZqB (K : Fg) (C : Addr) (f : Str) : Prop := PySem.W.findIn K (.ref C) f = some none
section
variable {X : Cx} {pins : List (Addr × Obj)} {σ : St} {H : Hp} {s : Shared} {A : Around} {E : Value -> Shared -> Prop} {Q : Value -> Shared -> Prop} {c : Value} {b : Bool}
inductive TyOf (K : Fg) (H : Hp) : V -> Value -> Prop where
  | non : TyOf K H .non (.type "NoneType")
  | bl (x : Bool) : TyOf K H (.bl x) (.type "bool")
  | int (i : Int) : TyOf K H (.int i) (.type "int")
  | str (x : Str) : TyOf K H (.str x) (.type "str")
  | flt (x : UInt64) : TyOf K H (.flt x) (.type "float")
  | lst {a : Addr} {xs : List V} (e : H a = some (.lst xs)) : TyOf K H (.ref a) (.type "list")
  | frz {a : Addr} {o : Obj} {xs : List V} (e : H a = some (.frz o (.lst xs))) : TyOf K H (.ref a) (.type "list")
  | tup {a : Addr} {xs : List V} (e : H a = some (.tup xs)) : TyOf K H (.ref a) (.type "tuple")
  | dK {a : Addr} {kvs : List (Key × V)} (e : H a = some (.dK kvs)) : TyOf K H (.ref a) (.type "dict")
  | dT {a : Addr} {kvs : List (List Key × V)} (e : H a = some (.dT kvs)) : TyOf K H (.ref a) (.type "dict")
  | ins {a C dx : Addr} {fs : List (Str × V)} (e : H a = some (.ins C dx fs)) (cl : Cls K C) (ha : PySem.W.findIn K (.ref C) "__class__" = some (some (.builtin "object.__class__")))
      (hn : PySem.W.specialIn K (.builtin "object.__class__") "__get__" = some (some (.builtin "getset_descriptor.__get__"))) (htk : PySem.W.takesIn K (.builtin "object.__class__") = some true)
      (hm : PySem.W.mroIn K C (.type "object") = some true) : TyOf K H (.ref a) (.ref C)
theorem Zm6 {x : V} {u t : Value} (I : Inv X pins σ H s) (rx : RelV x u) (ty : TyOf X.K H x t) (e : PySem.W.kitOne X.K t c = some b) (h : ∀ tk, Q (.bool b) { s with toks := tk }) :
    wpAny (model X.prog X.w) A (call (.builtin "isinstance") [u, c]) Q E s := by
  cases ty with
  | non => cases (show u = Value.none from rx); exact PySem.W.kia_one PySem.W.kitx_none I.kIn True.intro e (fun z => nomatch z) h
  | bl y => cases (show u = Value.bool y from rx); exact PySem.W.kia_one PySem.W.kitx_bool I.kIn True.intro e (fun z => nomatch z) h
  | int i => obtain ⟨t, q⟩ := (show ∃ t, u = Value.int i t from rx); cases q; exact PySem.W.kia_one PySem.W.kitx_int I.kIn True.intro e (fun z => nomatch z) h
  | str y => obtain ⟨t, q⟩ := (show ∃ t, u = Value.str y t from rx); cases q; exact PySem.W.kia_one PySem.W.kitx_str I.kIn True.intro e (fun z => nomatch z) h
  | flt y => obtain ⟨t, q⟩ := (show ∃ t, u = Value.float y t from rx); cases q; exact PySem.W.kia_one PySem.W.kitx_float I.kIn True.intro e (fun z => nomatch z) h
  | @lst a xs ea =>
    cases (show u = Value.ref a from rx)
    obtain ⟨_, _, n, _, h1⟩ := (show Zaw X.prog X.w H s.heap a (.lst xs) from I.hok a _ ea)
    exact PySem.W.kia_one PySem.W.kitx_list I.kIn ⟨_, h1, rfl⟩ e (fun z => nomatch z) h
  | @frz a ob xs ea =>
    cases (show u = Value.ref a from rx)
    obtain ⟨_, _, _, n, _, h1⟩ := (show Zaw X.prog X.w H s.heap a (.frz ob (.lst xs)) from I.hok a _ ea)
    exact PySem.W.kia_one PySem.W.kitx_list I.kIn ⟨_, h1, rfl⟩ e (fun z => nomatch z) h
  | @tup a xs ea =>
    cases (show u = Value.ref a from rx)
    obtain ⟨_, _, _, p⟩ := (show Zaw X.prog X.w H s.heap a (.tup xs) from I.hok a _ ea)
    obtain ⟨o, h1, h2, _⟩ := p
    exact PySem.W.kia_one PySem.W.kitx_tuple I.kIn ⟨o, h1, h2⟩ e (fun z => nomatch z) h
  | @dK a kvs ea =>
    cases (show u = Value.ref a from rx)
    obtain ⟨_, _, vs, _, p⟩ := (show Zaw X.prog X.w H s.heap a (.dK kvs) from I.hok a _ ea)
    obtain ⟨o, es, ep, h1, h2, _⟩ := p
    exact PySem.W.kia_one PySem.W.kitx_dict I.kIn ⟨o, h1, h2.1⟩ e (fun z => nomatch z) h
  | @dT a kvs ea =>
    cases (show u = Value.ref a from rx)
    obtain ⟨_, _, xs, _, o, es, ep, h1, h2, _⟩ := (show Zaw X.prog X.w H s.heap a (.dT kvs) from I.hok a _ ea)
    exact PySem.W.kia_one PySem.W.kitx_dict I.kIn ⟨o, h1, h2.1⟩ e (fun z => nomatch z) h
  | @ins a C dx fs ea cl ha hn htk hm =>
    cases (show u = Value.ref a from rx)
    obtain ⟨mA, O, _⟩ := ZoW I.hok ea
    obtain ⟨od, J, _⟩ := O.look
    exact PySem.W.kia_one (PySem.W.kitx_own (cl.get _) cl.hd ha hn htk hm) I.kIn J e (fun z => nomatch z) h
end
end L2
namespace L2
open PySem PySem.Spec PyProof.Rows
structure Room (k : Nat) (A : Around) : Prop where
  hd : A.handled = none
  dp : A.depth + 3 * k + 5 < recursionLimit
  un : A.units + 16 * k + 200 < cLine
theorem Room.mono {j k : Nat} {A : Around} (r : Room k A) (h : j <= k) : Room j A := ⟨r.hd, by have := r.dp; omega, by have := r.un; omega⟩
theorem Room.deeper {k : Nat} {A : Around} (r : Room (k + 1) A) (env : Env) : Room k (A.deeper env) :=
  ⟨r.hd, by have := r.dp; show A.depth + 1 + 3 * k + 5 < _; omega, by have := r.un; show A.units + 3 + 16 * k + 200 < _; omega⟩
theorem Room.depth {k : Nat} {A : Around} (r : Room k A) : A.depth < recursionLimit := by have := r.dp; omega
theorem Room.units {k : Nat} {A : Around} (r : Room k A) : A.units + 64 < cLine := by have := r.un; omega
def tNil : TA := fun _ H Q => Q [] H
def ZlN (ta : TE) (tr : TA) : TA := fun σ H Q => ta σ H fun x H1 => tr σ H1 fun xs H2 => Q (x :: xs) H2
section
variable {X : Cx} {e : Expr} {es : List Expr} {te : TE} {t : TA} {pos : Pos}
theorem ZcL : PA X [] tNil := fun _ _ _ _ H Q I h => Calls.spliced_nil ⟨[], H, I, .nil, h⟩
theorem ZaG (ha : PE X e te) (hr : PA X es t) (hs : starEach (e :: es) X.env = (false, eval e X.env) :: starEach es X.env := by rfl) : PA X (e :: es) (ZlN te t) := by
  intro pos pins s σ H Q I h
  rw [hs]
  show wpAny _ _ (spliced ((false, eval e X.env) :: backTo pos (starEach es X.env))) _ _ s
  refine Calls.spliced_cons (thn (ha pins s σ H _ I h) fun u s1 ⟨x, H1, I1, r1, q1⟩ => ?_)
  exact thn (hr pos pins s1 σ H1 _ I1 q1) fun us s2 ⟨xs, H2, I2, r2, q2⟩ => ⟨x :: xs, H2, I2, .cons r1 r2, q2⟩
def tTup (t : TA) : TE := fun σ H Q => t σ H fun xs H1 => xs.length <= sizeLine /\ ∀ p, H1 p = none -> Q (.ref p) (upd H1 p (.tup xs))
def tLst (t : TA) : TE := fun σ H Q => t σ H fun xs H1 => xs.length <= sizeLine /\ ∀ p, H1 p = none -> Q (.ref p) (upd H1 p (.lst xs))
theorem ZqC {x1} (h : PA X es t) : PE X (.Tuple es x1 pos) (tTup t) := by
  intro pins s σ H Q I hq
  refine wpAny_Tuple_spliced (thn (h pos pins s σ H _ I hq) fun us s1 ⟨xs, H1, I1, r, z, q⟩ => ⟨by rw [<- r.length]; exact z, ?_⟩)
  have hf : H1 s1.heap.objs.size = none := I1.hok.fresh (Nat.le_refl _)
  refine ⟨.ref s1.heap.objs.size, upd H1 s1.heap.objs.size (.tup xs), I1.laid (t' := s1.toks) (fun b u e => Heap.get?_push_of_some _ e) (Nat.le_refl _) ?_, rfl, q _ hf⟩
  exact ⟨z, us, r, ⟨_, Heap.get?_push_size _ rfl, rfl, _, rfl⟩⟩
theorem Zm7 (h : PA X es t) : PE X (.List es pos) (tLst t) := by
  intro pins s σ H Q I hq
  refine wpAny_List_spliced (thn (h pos pins s σ H _ I hq) fun us s1 ⟨xs, H1, I1, r, z, q⟩ => ⟨by rw [<- r.length]; exact z, ?_⟩)
  have hf : H1 s1.heap.objs.size = none := I1.hok.fresh (Nat.le_refl _)
  refine ⟨.ref s1.heap.objs.size, upd H1 s1.heap.objs.size (.lst xs), I1.laid (t' := s1.toks) (fun b u e => Heap.get?_push_of_some _ e) (Nat.le_refl _) ?_, rfl, q _ hf⟩
  exact ⟨z, us, 0, r, Heap.get?_push_size _ rfl⟩
end
abbrev Sp := List V -> Hp -> VK -> XK -> Prop
abbrev CXT := List Env -> Hp -> Shared -> XK -> Value -> Shared -> Prop
structure Env0 (P : Program) (w : World) (K : Fg) (mg : Str -> Option Value) (base : Heap) (A : Around) (outer : List Env) (s : Shared) (H : Hp) : Prop where
  frames : A.frames = some outer
  mod : Mod K mg base
  bs : ∀ b o, base.get? b = some o -> s.heap.get? b = some o /\ H b = none
  bsz : base.objs.size <= s.heap.objs.size
  funs : s.heap.FunFrames base outer
  frf : ∀ b ∈ frs outer, H b = none
  hok : HOk P w H s.heap
  bare : AllBare s.gens
def CE (outer : List Env) (P : Program) (w : World) (H : Hp) (s : Shared) (Q : VK) (u : Value) (s' : Shared) : Prop :=
  ∃ v H', s'.os = s.os /\ AllBare s'.gens /\ Un (frs outer) [] H H' s.heap s'.heap /\ HOk P w H' s'.heap /\ RelV v u /\ Q v H'
def CR (CX : CXT) (outer : List Env) (P : Program) (w : World) (H : Hp) (s : Shared) (Q : VK) (E : XK) (r : Result) (s' : Shared) : Prop :=
  match r with
  | .ok (.ret u) => CE outer P w H s Q u s'
  | .ok _ => False
  | .error e => CX outer H s E e s'
structure FnOk (P : Program) (w : World) (K : Fg) (mg : Str -> Option Value) (base : Heap) (CX : CXT) (k : Nat) (f : Addr) (fd : FuncData) (ps : List Str) (sp : Sp) : Prop where
  len : ∀ vs H Q E, sp vs H Q E -> vs.length = ps.length
  run : ∀ (A : Around) (outer : List Env) (s : Shared) (H : Hp) (args : Args) (us : List Value) (vs : List V) (Q : VK) (E : XK), Room k A -> Env0 P w K mg base A outer s H -> BindsTo s fd args (ps.zip us) -> Vals vs us -> sp vs H Q E ->
    codeAny (model P w) A (.call (.ref f) args) (CR CX outer P w H s Q E) s
section
variable {X : Cx} {pins : List (Addr × Obj)} {σ : St} {H : Hp} {s s' : Shared}
theorem Inv.env0 (I : Inv X pins σ H s) : Env0 X.prog X.w X.K X.mg X.base X.A X.stack s H :=
  ⟨I.ok.frames, I.ok.mod, I.bs, Nat.le_trans I.ok.bsz I.sz, I.stack, I.stkFree, I.hok, I.bare⟩
theorem Inv.after {Q : VK} {u : Value} (I : Inv X pins σ H s) (h : CE X.stack X.prog X.w H s Q u s') : EP X pins σ Q u s' := by
  obtain ⟨v, H', os, bare, un, hok, r, q⟩ := h
  obtain ⟨hh, g, d, t, os'⟩ := s'
  obtain rfl : os' = s.os := os
  exact ⟨v, H', I.call (h' := hh) (g' := g) (d' := d) (t' := t) (ch := []) un hok bare (fun b z => absurd z (by simp)), r, q⟩
end
def Zo7 (sp : Sp) (dvs : List V) (E : XK) (t : TA) : TE := fun σ H Q => t σ H fun vs H1 => sp (vs ++ dvs) H1 Q E
def Binds (K : Fg) (fd : FuncData) (ps : List Str) (ds : List Value) : Prop :=
  ∀ (s : Shared) (us : List Value), K.In s.heap -> (us ++ ds).length = ps.length -> BindsTo s fd ⟨us, []⟩ (ps.zip (us ++ ds))
theorem Binds.all {K : Fg} {fd : FuncData} {ps : List Str} (h : ∀ us : List Value, us.length = ps.length -> bindArgs fd ⟨us, []⟩ = pure (ps.zip us)) : Binds K fd ps [] := fun s us _ hl => by
  rw [List.append_nil] at hl ⊢
  exact .of_eq (h us hl)
def Passes (CX : CXT) (X : Cx) (E : XK) : Prop := ∀ (pins : List (Addr × Obj)) (σ : St) (H : Hp) (s : Shared) (e : Value) (s' : Shared), Inv X pins σ H s -> CX X.stack H s E e s' -> X.xe e s'
section
variable {X : Cx} {CX : CXT} {k : Nat} {f C : Addr} {fd : FuncData} {ps : List Str} {sp : Sp} {dvs : List V} {ds : List Value} {E : XK} {x m : Str} {p pos apos : Pos} {e o : Expr} {es : List Expr} {ta : TE} {t : TA}
theorem ZqD {pins : List (Addr × Obj)} {σ : St} {H : Hp} {s : Shared} {Q : VK} {us : List Value} {vs : List V} (F : FnOk X.prog X.w X.K X.mg X.base CX k f fd ps sp) (hr : Room k X.A) (hb : Binds X.K fd ps ds) (hd : Vals dvs ds) (hx : Passes CX X E)
    (I : Inv X pins σ H s) (r : Vals vs us) (h : sp (vs ++ dvs) H Q E) : wpAny (model X.prog X.w) X.A (call (.ref f) us) (EP X pins σ Q) X.xe s := by
  have r2 : Vals (vs ++ dvs) (us ++ ds) := r.append hd
  have hl : (us ++ ds).length = ps.length := by rw [<- r2.length]; exact F.len _ _ _ _ h
  refine wpAny_call (codeAny_mono (F.run X.A X.stack s H ⟨us, []⟩ (us ++ ds) (vs ++ dvs) Q E hr I.env0 (hb s us I.kIn hl) r2 h) fun r s' hq => ?_)
  cases r with
  | error e => exact hx pins σ H s e s' I hq
  | ok fl =>
    cases fl with
    | ret u => exact I.after hq
    | next => exact False.elim hq
    | brk => exact False.elim hq
    | cont => exact False.elim hq
theorem ZoX (F : FnOk X.prog X.w X.K X.mg X.base CX k f fd ps sp) (hr : Room k X.A) (hg : Gl X x) (hm : X.mg x = some (.ref f)) (hk : PySem.W.keepIn X.K (.ref f) = true) (hb : Binds X.K fd ps ds) (hd : Vals dvs ds) (hx : Passes CX X E)
    (ha : PA X (e :: es) t) (hdb : (x == ("__debug__" : Str)) = false := by decide) (he : starEach (e :: es) X.env = (false, eval e X.env) :: starEach es X.env := by rfl) (hpl : (backTo pos (starEach es X.env)).any (·.1) = false := by rfl) :
    PE X (.Call (.Name x p) (e :: es) [] pos) (Zo7 sp dvs E t) := by
  intro pins s σ H Q I h
  refine wpAny_Call_Name_kw (Zh7 I hg hm ?_ hdb)
  refine PySem.W.callWith_K (h₀ := X.base) I.ok.mod.kin hk (thn (ha pos pins s σ H _ I h) fun us s1 ⟨vs, H1, I1, r, q⟩ => ⟨I1.kIn, ?_⟩) he hpl
  exact ZqD F hr hb hd hx I1 r q
end
def PK (X : Cx) (kws : List Keyword) (t : TA) : Prop :=
  ∀ (pos : Pos) (pins : List (Addr × Obj)) (s : Shared) (σ : St) (H : Hp) (Q : List V -> Hp -> Prop), Inv X pins σ H s -> t σ H Q -> wpAny (model X.prog X.w) X.A (evalAll ((backToKw pos (keywordEach kws X.env)).map (·.2))) (AP X pins σ Q) X.xe s
section
variable {X : Cx} {CX : CXT} {k : Nat} {f C : Addr} {fd : FuncData} {ps ks : List Str} {sp : Sp} {E : XK} {x m : Str} {p pos apos kpos : Pos} {e o : Expr} {es : List Expr} {kws : List Keyword} {te ta : TE} {t tk : TA} {nm : Option Str}
theorem ZqE : PK X [] tNil := fun _ _ _ _ H Q I h => wpAny_evalAll_nil ⟨[], H, I, .nil, h⟩
theorem ZoY (ha : PE X e te) (hr : PK X kws t) : PK X (⟨nm, e, kpos⟩ :: kws) (ZlN te t) := by
  intro pos pins s σ H Q I h
  show wpAny _ _ (evalAll ((do let v <- eval e X.env; standAt pos; pure v) :: (backToKw pos (keywordEach kws X.env)).map (·.2))) _ _ s
  refine wpAny_evalAll_cons (wpAny_bind (thn (ha pins s σ H _ I h) fun u s1 ⟨x, H1, I1, r1, q1⟩ => wpAny_bind (wpAny_standAt (wpAny_pure ?_))))
  exact thn (hr pos pins s1 σ H1 _ I1 q1) fun us s2 ⟨xs, H2, I2, r2, q2⟩ => ⟨x :: xs, H2, I2, .cons r1 r2, q2⟩
variable {g : List Value -> List Value -> List Value} {gV : List V -> List V -> List V}
end
structure FnScope (N P : List Str) (sc : Scope) : Prop where
  kind : sc.kind = .function
  co : sc.isCoroutine = false
  gen : sc.isGenerator = false
  nd : N.Nodup
  pre : N.take P.length = P
  par : ∀ x ∈ P, sc.names.lookup x = some .local \/ sc.names.lookup x = some .cell
  nofree : ∀ y ∈ sc.names, y.2 ≠ .free
theorem Zj3 {kindOf : Str -> Option NameKind} {x : Str} : ∀ {binds : List (Str × Value)} {m : Str -> Option Value}, (∀ v, (x, v) ∉ binds) -> bindL kindOf binds m x = m x
  | [], _, _ => rfl
  | (n, v) :: r, m, h => by
    unfold bindL
    rw [Zj3 fun w hw => h w (List.mem_cons_of_mem _ hw)]
    split
    . have : x ≠ n := by rintro rfl; exact h v List.mem_cons_self
      simp [this]
    . rfl
theorem Zj4 {kindOf : Str -> Option NameKind} {x : Str} : ∀ {binds : List (Str × Value)} {m : Str -> Option Value}, (∀ v, (x, v) ∉ binds) -> bindC kindOf binds m x = m x
  | [], _, _ => rfl
  | (n, v) :: r, m, h => by
    unfold bindC
    rw [Zj4 fun w hw => h w (List.mem_cons_of_mem _ hw)]
    split
    . rfl
    . have : x ≠ n := by rintro rfl; exact h v List.mem_cons_self
      simp [this]
theorem Zj5 {kindOf : Str -> Option NameKind} {x : Str} {v : Value} : ∀ {P : List Str} {vs : List Value} {i : Nat} {m : Str -> Option Value}, P.Nodup -> P[i]? = some x -> vs[i]? = some v -> kindOf x = some .local ->
    bindL kindOf (P.zip vs) m x = some v
  | [], _, _, _, _, h, _, _ => by simp at h
  | _ :: _, [], _, _, _, _, h, _ => by simp at h
  | p :: P, w :: vs, 0, m, nd, h1, h2, hk => by
    simp at h1 h2; subst h1; subst h2
    show bindL kindOf ((p, w) :: P.zip vs) m p = _
    unfold bindL
    rw [Zj3 fun v hv => (List.nodup_cons.mp nd).1 (List.of_mem_zip hv).1, if_pos hk]
    simp
  | p :: P, w :: vs, i + 1, m, nd, h1, h2, hk => by
    show bindL kindOf ((p, w) :: P.zip vs) m x = _
    unfold bindL
    exact Zj5 (i := i) (List.nodup_cons.mp nd).2 (by simpa using h1) (by simpa using h2) hk
theorem Zj6 {kindOf : Str -> Option NameKind} {x : Str} {v : Value} : ∀ {P : List Str} {vs : List Value} {i : Nat} {m : Str -> Option Value}, P.Nodup -> P[i]? = some x -> vs[i]? = some v -> kindOf x ≠ some .local ->
    bindC kindOf (P.zip vs) m x = some v
  | [], _, _, _, _, h, _, _ => by simp at h
  | _ :: _, [], _, _, _, _, h, _ => by simp at h
  | p :: P, w :: vs, 0, m, nd, h1, h2, hk => by
    simp at h1 h2; subst h1; subst h2
    show bindC kindOf ((p, w) :: P.zip vs) m p = _
    unfold bindC
    rw [Zj4 fun v hv => (List.nodup_cons.mp nd).1 (List.of_mem_zip hv).1, if_neg hk]
    simp
  | p :: P, w :: vs, i + 1, m, nd, h1, h2, hk => by
    show bindC kindOf ((p, w) :: P.zip vs) m x = _
    unfold bindC
    exact Zj6 (i := i) (List.nodup_cons.mp nd).2 (by simpa using h1) (by simpa using h2) hk
noncomputable def start (N : List Str) (vs : List V) : St := vs.map some ++ List.replicate (N.length - vs.length) none
noncomputable def cxOf (CX : CXT) (P : Program) (w : World) (K : Fg) (mg : Str -> Option Value) (base : Heap) (N : List Str) (qual : Str) (scope : Scope) (f : Addr) (cd : Value) (A : Around) (outer : List Env) (s : Shared) (H : Hp) (E : XK) : Cx where
  prog := P
  w := w
  K := K
  mg := mg
  base := base
  A := A.deeper (envOfC qual scope s.heap.objs.size f cd)
  N := N
  s₀ := s
  H₀ := H
  env := envOfC qual scope s.heap.objs.size f cd
  outer := outer
  stack := envOfC qual scope s.heap.objs.size f cd :: outer
  ex := []
  calm := true
  fn := fun _ => true
  pn := []
  xe := fun e s' => wpAny (model P w) (A.deeper (envOfC qual scope s.heap.objs.size f cd)) (leaving (envOfC qual scope s.heap.objs.size f cd) e) (fun _ s'' => CX outer H s E e s'') (fun e' s'' => CX outer H s E e' s'') s'
theorem Zkl {sc : Scope} {n : Nat} {x : Str} (h : sc.names.lookup x = some .cell) : ∃ c, (cellsFrom n sc.names []).lookup x = some c := by
  have q := PySem.W.cellsFrom_some sc.names n [] (.inl h)
  exact Option.isSome_iff_exists.mp q
theorem Zj7 {CX : CXT} {P : Program} {w : World} {K : Fg} {mg : Str -> Option Value} {base : Heap} {N ps : List Str} {qual : Str} {scope : Scope} {f : Addr} {cd : Value} {A : Around} {outer : List Env} {s s1 : Shared} {H : Hp} {E : XK} {us : List Value} {vs : List V}
    (S : FnScope N ps scope) (hd : A.handled = none) (e0 : Env0 P w K mg base A outer s H) (hl : vs.length = ps.length) (r : Vals vs us)
    (x : InCallC s s.heap.objs.size (bindL (envOfC qual scope s.heap.objs.size f cd).kindOf (ps.zip us) fun _ => none) (cellsFrom (s.heap.objs.size + 1) scope.names []) (bindC (envOfC qual scope s.heap.objs.size f cd).kindOf (ps.zip us) fun _ => none) s1) :
    Inv (cxOf CX P w K mg base N qual scope f cd A outer s H E) [] (start N vs) H s1 := by
  have hpl : ps.length <= N.length := by have := congrArg List.length S.pre; rw [List.length_take] at this; omega
  obtain ⟨h1, tk, rfl, hk⟩ := x.done
  have noA : ∀ b : Addr, b ∉ (cxOf CX P w K mg base N qual scope f cd A outer s H E).ex := fun b z => absurd (show b ∈ ([] : List Addr) from z) (by simp)
  refine ⟨⟨e0.mod, S.kind, rfl, rfl, Nat.le_refl _, fun y z c h1 h2 => ?_, fun y hy => ?_, fun y c _ h => ?_, fun _ => hd, Around.frames_deeper e0.frames, .inr ⟨rfl, rfl⟩, fun b z => absurd z (noA b), e0.bs, e0.bsz, fun b _ _ => noA b, fun b z => absurd z (noA b), e0.funs, e0.frf⟩,
    rfl, e0.bare, Un.kept hk, ⟨_, x.toInCall.ns, fun i y v h1 h2 h3 => ?_⟩, fun y c h => ⟨_, x.cell y c h⟩, e0.hok.fresh (Nat.le_refl _), fun y c h => ?_, fun p hp => absurd (show p ∈ ([] : List (Addr × Obj)) from hp) (by simp), e0.hok.kept hk, ?_⟩
  . exact name_of_addr x.apart (PySem.mem_of_lookup h1) (PySem.mem_of_lookup h2)
  . have hy : scope.names.lookup y = some .cell \/ scope.names.lookup y = some .free := hy
    rcases hy with hy | hy
    . exact Zkl hy
    . exact absurd rfl (S.nofree _ (PySem.mem_of_lookup hy))
  . exact Nat.le_of_lt (x.above y c (PySem.mem_of_lookup h))
  . have hi : i < vs.length := by
      unfold start at h2
      by_cases hi : i < vs.length
      . exact hi
      . rw [List.getElem?_append_right (by simpa using hi)] at h2
        rw [List.getElem?_replicate] at h2
        split at h2 <;> cases h2
    have ha : vs[i]? = some v := by
      unfold start at h2
      rw [List.getElem?_append_left (by simpa using hi), List.getElem?_map] at h2
      cases e : vs[i]? with
      | none => rw [e] at h2; cases h2
      | some a => rw [e] at h2; cases h2; rfl
    obtain ⟨u, hu, rv⟩ := r.get ha
    have hp : ps[i]? = some y := by
      rw [<- S.pre, List.getElem?_take_of_lt (by omega)]; exact h1
    have ndP : ps.Nodup := by rw [<- S.pre]; exact S.nd.sublist (List.take_sublist _ _)
    refine ⟨u, rv, ?_⟩
    rcases S.par y (List.mem_of_getElem? hp) with k | k
    . exact .inl ⟨k, Zj5 ndP hp hu k⟩
    . obtain ⟨c, e⟩ := Zkl (n := s.heap.objs.size + 1) k
      refine .inr ⟨.inl k, c, e, ?_⟩
      have q := x.cell y c e
      rw [Zj6 ndP hp hu (by show scope.names.lookup y ≠ _; rw [k]; decide)] at q
      exact q
  . exact e0.hok.fresh (Nat.le_of_lt (x.above y c (PySem.mem_of_lookup h)))
  . unfold start
    show _ = N.length
    rw [List.length_append, List.length_map, List.length_replicate]
    omega
theorem Zs5 {CX : CXT} {P : Program} {w : World} {K : Fg} {mg : Str -> Option Value} {base : Heap} {k : Nat} {f : Addr} {name qual : Str} {params : Arguments} {body : List Stmt} {scope : Scope} {dV kV doc pm cdv ct oc : Value} {an od : Option Addr}
    {osl : Array (Option Value)} {N ps : List Str} {sp : Sp} (lk : K.lookup f = some ⟨oc, od, .func (PySem.W.fnOf name qual params body scope dV kV doc pm an cdv ct), osl⟩) (hcd : PySem.W.codeIn K cdv qual = true) (S : FnScope N ps scope)
    (len : ∀ vs H Q E, sp vs H Q E -> vs.length = ps.length)
    (hbody : ∀ (A : Around) (outer : List Env) (s : Shared) (H : Hp) (vs : List V) (Q : VK) (E : XK), Room k (A.deeper (envOfC qual scope s.heap.objs.size f cdv)) -> sp vs H Q E ->
      ∃ t, PSs (cxOf CX P w K mg base N qual scope f cdv A outer s H E) body t /\ t { nx := fun _ H' => Q .non H', rt := Q } (start N vs) H) :
    FnOk P w K mg base CX (k + 1) f (PySem.W.fnOf name qual params body scope dV kV doc pm an cdv ct) ps sp := by
  refine ⟨len, fun A outer s H args us vs Q E hr e0 hb r hsp => ?_⟩
  have hl := len _ _ _ _ hsp
  have KX : K.In s.heap := e0.mod.kin.keeps fun b o e => (e0.bs b o e).1
  have lim : s.heap.NoLimit := e0.mod.nolimit.keeps fun b o e => (e0.bs b o e).1
  have hkind : ∀ y ∈ ps.zip us, scope.names.lookup y.1 = some .local \/ (scope.names.lookup y.1 = some .cell /\ ((cellsFrom (s.heap.objs.size + 1) scope.names []).lookup y.1).isSome = true) := fun ⟨n, v⟩ hy => by
    rcases S.par n (List.of_mem_zip hy).1 with q | q
    . exact .inl q
    . exact .inr ⟨q, PySem.W.cellsFrom_some _ _ _ (.inl q)⟩
  refine codeAny_call_function hr.depth (KX _ _ lk) rfl S.co S.gen rfl (PySem.W.codeRec_of KX hcd) (hb _ _ _ _ ?_)
  refine wpAny_newFunctionEnv_cells S.kind hkind fun env he s1 x => ?_
  subst he
  refine ⟨lim.keeps x.toInCall.keep, codeAny_func ?_⟩
  obtain ⟨t, ht, hq⟩ := hbody A outer s H vs Q E (hr.deeper _) hsp
  have I : Inv (cxOf CX P w K mg base N qual scope f cdv A outer s H E) [] (start N vs) H s1 := Zj7 S hr.hd e0 hl r x
  refine wpAny_mono (ht [] s1 (start N vs) H _ I hq) (fun fl s' hs => ?_) fun e s' hs => hs
  have fin : ∀ {σ' : St} {H' : Hp} {v : V} {u : Value}, Inv (cxOf CX P w K mg base N qual scope f cdv A outer s H E) [] σ' H' s' -> RelV v u -> Q v H' -> CE outer P w H s Q u s' :=
    fun {σ' H' v u} J rv q => ⟨v, H', J.os, J.bare, J.base, J.hok, rv, q⟩
  cases fl with
  | ret u =>
    obtain ⟨v, σ', H', J, rv, q⟩ := hs
    exact fin J rv q
  | next =>
    obtain ⟨σ', H', J, q⟩ := hs
    exact fin (v := V.non) (u := Value.none) J rfl q
  | brk =>
    obtain ⟨_, _, _, q⟩ := hs
    exact False.elim q
  | cont =>
    obtain ⟨_, _, _, q⟩ := hs
    exact False.elim q
end L2
namespace L2
open PySem PySem.Spec PyProof.Rows
section
variable {X : Cx} {x : Str} {p pos : Pos} {e : Expr} {es : List Expr} {t : TA} {id T : String} {r : List V -> Hp -> VK -> Prop}
def tCB (r : List V -> Hp -> VK -> Prop) (t : TA) : TE := fun σ H Q => t σ H fun vs H1 => r vs H1 Q
theorem ZgM (hc : Zbz X (.builtin id) r) (hg : Gl X x) (hm : X.mg x = none) (hv : bootBuiltins x = some (.builtin id)) (ha : PA X (e :: es) t) (hn : x ≠ "__name__" := by decide) (hdb : (x == ("__debug__" : Str)) = false := by decide)
    (he : starEach (e :: es) X.env = (false, eval e X.env) :: starEach es X.env := by rfl) (hpl : (backTo pos (starEach es X.env)).any (·.1) = false := by rfl) : PE X (.Call (.Name x p) (e :: es) [] pos) (tCB r t) := by
  intro pins s σ H Q I h
  refine wpAny_Call_Name_kw (ZfT I hg hm hv ?_ hn hdb)
  exact PyProof.Rows.callWith_builtin1 (thn (ha pos pins s σ H _ I h) fun us s1 ⟨vs, H1, I1, r1, q1⟩ => hc pins s1 σ H1 vs us Q I1 r1 q1) he hpl
theorem Zm8 (hc : Zbz X (.type T) r) (hg : Gl X x) (hm : X.mg x = none) (hv : bootBuiltins x = some (.type T)) (ha : PA X (e :: es) t) (hn : x ≠ "__name__" := by decide) (hdb : (x == ("__debug__" : Str)) = false := by decide)
    (he : starEach (e :: es) X.env = (false, eval e X.env) :: starEach es X.env := by rfl) (hpl : (backTo pos (starEach es X.env)).any (·.1) = false := by rfl) : PE X (.Call (.Name x p) (e :: es) [] pos) (tCB r t) := by
  intro pins s σ H Q I h
  refine wpAny_Call_Name_kw (ZfT I hg hm hv ?_ hn hdb)
  exact PyProof.Rows.callWith_type1 (thn (ha pos pins s σ H _ I h) fun us s1 ⟨vs, H1, I1, r1, q1⟩ => hc pins s1 σ H1 vs us Q I1 r1 q1) he hpl
end
end L2
namespace HT
open PySem PyProof.Rows
section
variable {prog : Program} {w : World} {A : Around} {E : Value -> Shared -> Prop} {s : Shared}
noncomputable def sIx (n d : Nat) : Option Int -> Nat
  | none => d
  | some v => if v < 0 then (v + (n : Int)).toNat else min v.toNat n
theorem Zlz (n d k : Nat) : sIx n d (some (k : Int)) = min k n := by
  show (if (k : Int) < 0 then ((k : Int) + (n : Int)).toNat else min (k : Int).toNat n) = min k n
  rw [if_neg (by omega), Int.toNat_natCast]
end
end HT
namespace L2
open PySem PySem.Spec PyProof.Rows
abbrev TO := St -> Hp -> (Option Int -> Hp -> Prop) -> Prop
def PO (X : Cx) (e : Option Expr) (t : TO) : Prop :=
  ∀ (pins : List (Addr × Obj)) (s : Shared) (σ : St) (H : Hp) (Q : Option Int -> Hp -> Prop), Inv X pins σ H s -> t σ H Q ->
    wpAny (model X.prog X.w) X.A (evalPart e X.env) (fun u s' => ∃ o H', Inv X pins σ H' s' /\ IsPart u o /\ Q o H') X.xe s
noncomputable def ZoZ : TO := fun _ H Q => Q none H
noncomputable def Zs6 (t : TE) : TO := fun σ H Q => t σ H fun x H1 => ∃ i, x = .int i /\ Q (some i) H1
section
variable {X : Cx} {e : Expr} {te : TE} {lo hi : Option Expr} {tl th : TO} {pos p2 : Pos}
theorem Zpa : PO X none ZoZ := by
  intro pins s σ H Q I h
  rw [evalPart_none]
  exact wpAny_pure ⟨none, H, I, .none, h⟩
theorem Zpb (h : PE X e te) : PO X (some e) (Zs6 te) := by
  intro pins s σ H Q I hw
  rw [evalPart_some]
  refine thn (h pins s σ H _ I hw) fun u s1 ⟨x, H1, I1, r1, q1⟩ => ?_
  obtain ⟨i, rfl, q⟩ := q1
  obtain ⟨t, rfl⟩ := r1
  exact ⟨some i, H1, I1, .int i t, q⟩
def SlR (X : Cx) (r : V -> Option Int -> Option Int -> Hp -> VK -> Prop) : Prop :=
  ∀ (pins : List (Addr × Obj)) (s : Shared) (σ : St) (H : Hp) (x : V) (v vl vu : Value) (lo hi : Option Int) (sl : Addr) (Q : VK), Inv X pins σ H s -> RelV x v -> s.heap.IsSliceOf sl vl vu .none -> IsPart vl lo -> IsPart vu hi -> r x lo hi H Q ->
    ∃ T id, typeLookup (.type T) "__getitem__" = pure (some (.builtin id)) /\ s.TypeIs v T /\ wpAny (model X.prog X.w) X.A (getItem v (.ref sl)) (EP X pins σ Q) X.xe s
def tSl (r : V -> Option Int -> Option Int -> Hp -> VK -> Prop) (te : TE) (tl th : TO) : TE := fun σ H Q => te σ H fun x H1 => tl σ H1 fun l H2 => th σ H2 fun u H3 => r x l u H3 Q
theorem Zn3 {r : V -> Option Int -> Option Int -> Hp -> VK -> Prop} (hr : SlR X r) (he : PE X e te) (hl : PO X lo tl) (hu : PO X hi th) : PE X (.Subscript e (.Slice lo hi none p2) pos) (tSl r te tl th) := by
  intro pins s σ H Q I h
  refine Subscript_ (thn (he pins s σ H _ I h) fun v s1 ⟨x, H1, I1, r1, q1⟩ => ?_)
  refine wpAny_Slice (thn (hl pins s1 σ H1 _ I1 q1) fun vl s2 ⟨l, H2, I2, pl, q2⟩ => thn (hu pins s2 σ H2 _ I2 q2) fun vu s3 ⟨u, H3, I3, pu, q3⟩ => ?_)
  rw [evalPart_none]
  refine wpAny_pure ?_
  have I4 : Inv X pins σ H3 { s3 with heap := s3.heap.push { cls := .type "slice", data := .fields #[vl, vu, .none] } } := I3.kept (t' := s3.toks) fun b ob q => Heap.get?_push_of_some _ q
  obtain ⟨T, id, hT, ht, hg⟩ := hr pins { s3 with heap := s3.heap.push { cls := .type "slice", data := .fields #[vl, vu, .none] } } σ H3 x v vl vu l u s3.heap.objs.size Q I4 r1 (Heap.IsSliceOf.new ..) pl pu q3
  show wpAny (model X.prog X.w) X.A (subscriptTail e (.Slice lo hi none p2) v (.ref s3.heap.objs.size)) (EP X pins σ Q) X.xe { s3 with heap := s3.heap.push { cls := .type "slice", data := .fields #[vl, vu, .none] } }
  exact tail_any (ops := [.ref s3.heap.objs.size, v]) ht hT hg (by with_unfolding_all rfl)
noncomputable def cutV (xs : List V) (lo hi : Option Int) : List V := (xs.drop (HT.sIx xs.length 0 lo)).take (HT.sIx xs.length xs.length hi - HT.sIx xs.length 0 lo)
theorem ZkZ (xs : List V) (lo hi : Option Int) : (cutV xs lo hi).length <= xs.length := by
  unfold cutV
  rw [List.length_take, List.length_drop]
  omega
end
end L2
namespace L2
open PySem PySem.Spec PyProof.Rows
noncomputable def ixN (n : Nat) (i : Int) : Option Nat := if 0 <= i then (if i < n then some i.toNat else none) else if -(n : Int) <= i then some (i + n).toNat else none
noncomputable def atI {α : Type} (xs : List α) (i : Int) : Option α := (ixN xs.length i).bind fun j => xs[j]?
theorem Zl0 {n : Nat} {i : Int} {j : Nat} (h : ixN n i = some j) : seqIndex? i n = some j /\ j < n /\ -(n : Int) <= i /\ i < n := by
  unfold ixN at h
  by_cases h0 : 0 <= i
  . rw [if_pos h0] at h
    by_cases h1 : i < n
    . rw [if_pos h1] at h
      have e : i.toNat = j := Option.some.inj h
      exact ⟨by rw [seqIndex_of h0 h1, e], by omega, by omega, h1⟩
    . rw [if_neg h1] at h; cases h
  . rw [if_neg h0] at h
    by_cases h1 : -(n : Int) <= i
    . rw [if_pos h1] at h
      have e : (i + n).toNat = j := Option.some.inj h
      exact ⟨by rw [seqIndex_neg (by omega) h1, e], by omega, h1, by omega⟩
    . rw [if_neg h1] at h; cases h
theorem ZiZ {α : Type} {xs : List α} {i : Int} {v : α} (h : atI xs i = some v) : ∃ j, seqIndex? i xs.length = some j /\ xs[j]? = some v /\ j < xs.length /\ -(xs.length : Int) <= i /\ i < xs.length := by
  unfold atI at h
  cases e : ixN xs.length i with
  | none => rw [e] at h; cases h
  | some j =>
    rw [e] at h
    obtain ⟨h1, h2, h3, h4⟩ := Zl0 e
    exact ⟨j, h1, h, h2, h3, h4⟩
def Zja (b : Expr) : Prop := ∀ o i, subscripted b false o i = operate [o, i] (getItem o i)
def IxR (X : Cx) (r : R2) : Prop :=
  ∀ (value slice : Expr) (pins : List (Addr × Obj)) (s : Shared) (σ : St) (H : Hp) (x y : V) (v u : Value) (Q : VK), Inv X pins σ H s -> RelV x v -> RelV y u -> r x y H Q ->
    subscripted slice false v u = operate [v, u] (getItem v u) -> wpAny (model X.prog X.w) X.A (subscriptTail value slice v u) (EP X pins σ Q) X.xe s
def MtR (X : Cx) (id : String) (r : V -> List V -> Hp -> VK -> Prop) : Prop :=
  ∀ (pins : List (Addr × Obj)) (s : Shared) (σ : St) (H : Hp) (x : V) (xs : List V) (v : Value) (us : List Value) (Q : VK), Inv X pins σ H s -> RelV x v -> Vals xs us -> r x xs H Q ->
    wpAny (model X.prog X.w) X.A (call (.builtin id) (v :: us)) (EP X pins σ Q) X.xe s
section
variable {X : Cx} {a b : Expr} {ta tb : TE} {pos : Pos}
theorem Zs7 {r : R2} (hr : IxR X r) (ha : PE X a ta) (hb : PE X b tb) (hs : Zja b) : PE X (.Subscript a b pos) (tOp r ta tb) := by
  intro pins s σ H Q I h
  exact Subscript_ (binT ha hb I h fun v u s2 x y H2 I2 rx ry q => hr a b pins s2 σ H2 x y v u Q I2 rx ry q (hs _ _))
def rIxL (K : Fg) : R2 := fun x y H Q => ∃ p xs i v, x = .ref p /\ y = .int i /\ SqL K H p xs /\ atI xs i = some v /\ Q v H
def rIxT (K : Fg) : R2 := fun x y H Q => ∃ p xs i v, x = .ref p /\ y = .int i /\ SqT K H p xs /\ atI xs i = some v /\ Q v H
def rIxS : R2 := fun x y H Q => ∃ z i c, x = .str z /\ y = .int i /\ z.length <= sizeLine /\ atI z.cps.toList i = some c /\ Q (.str ⟨#[c]⟩) H
theorem Zl1 : IxR X (rIxL X.K) := by
  intro value slice pins s σ H x y v u Q I rx ry h hs
  obtain ⟨p, xs, i, z, rfl, rfl, hq, he, q⟩ := h
  cases rx
  obtain ⟨t, rfl⟩ := ry
  obtain ⟨its, r, pl, hz⟩ := I.list hq
  obtain ⟨j, h1, h2, h3, h4, h5⟩ := ZiZ he
  obtain ⟨w, ew, rw'⟩ := r.get h2
  have hl := r.length
  have hn := ZfU
  have fin : EP X pins σ Q w s := ⟨z, H, I, rw', q⟩
  by_cases h0 : 0 <= i
  . have hj : i.toNat = j := by
      rw [seqIndex_of h0 h5] at h1
      exact Option.some.inj h1
    exact item_listR pl.isList h0 (by omega) (by rw [hj]; simpa using ew) fin hs
  . have hj : (i + (its.toArray.size : Int)).toNat = j := by
      rw [seqIndex_neg (by omega) h4] at h1
      rw [List.size_toArray, <- hl]
      exact Option.some.inj h1
    exact subscriptTail_builtinR (x := w) pl.isList.typeIs slot_list_getitem.lookup
      (wpAny_getItem_list_neg (Q := fun r s' => r = w /\ EP X pins σ Q r s') pl.isList (by omega) (by rw [List.size_toArray] <;> omega) (by omega) (by rw [hj]; simpa using ew) ⟨rfl, fin⟩) hs
theorem Zm9 : IxR X (rIxT X.K) := by
  intro value slice pins s σ H x y v u Q I rx ry h hs
  obtain ⟨p, xs, i, z, rfl, rfl, hq, he, q⟩ := h
  cases rx
  obtain ⟨t, rfl⟩ := ry
  obtain ⟨its, r, pl, hz⟩ := I.tuple hq
  obtain ⟨j, h1, h2, h3, h4, h5⟩ := ZiZ he
  obtain ⟨w, ew, rw'⟩ := r.get h2
  have hl := r.length
  have hn := ZfU
  have fin : EP X pins σ Q w s := ⟨z, H, I, rw', q⟩
  exact subscriptTail_builtinR (x := w) pl.typeIs slot_tuple_getitem.lookup
    (getItem_tuple (j := j) (Q := fun r s' => r = w /\ EP X pins σ Q r s') pl (by omega) (by omega) (by rw [List.size_toArray, <- hl]; exact h1) (by simpa using ew) ⟨rfl, fin⟩) hs
theorem ZqF : IxR X rIxS := by
  intro value slice pins s σ H x y v u Q I rx ry h hs
  obtain ⟨z, i, c, rfl, rfl, hz, he, q⟩ := h
  obtain ⟨t, rfl⟩ := rx
  obtain ⟨t', rfl⟩ := ry
  obtain ⟨j, h1, h2, h3, h4, h5⟩ := ZiZ he
  have hl : z.cps.toList.length = z.length := by simp [Str.length]
  rw [hl] at h1 h4 h5
  have hn := ZfU
  exact tail_any (typeIs_str s z t) slot_str_getitem.lookup (getItem_str (c := c) (by
    have e1 : decide (i < -(2 ^ 63 : Int)) = false := decide_eq_false (by omega)
    have e2 : decide (i ≥ 2 ^ 63) = false := decide_eq_false (by omega)
    rw [e1, e2, Bool.or_false]) (by rw [h1]; simpa using h2) ⟨.str ⟨#[c]⟩, H, I.tok _, ⟨_, rfl⟩, q⟩) hs
theorem ZlO (its : List Value) (n j : Nat) (u : Value) : Obj.mapSeq (·.setIfInBounds j u) { cls := .type "list", data := .seq its.toArray n } = { cls := .type "list", data := .seq (its.set j u).toArray n } := by
  simp [Obj.mapSeq]
theorem Inv.lst {pins : List (Addr × Obj)} {σ : St} {H : Hp} {s : Shared} {p : Addr} {xs : List V} (I : Inv X pins σ H s) (h : H p = some (.lst xs)) :
    ∃ (its : List Value) (n : Nat), Vals xs its /\ s.heap.get? p = some { cls := .type "list", data := .seq its.toArray n } /\ xs.length <= sizeLine := by
  obtain ⟨z, its, n, r, e⟩ := I.hok p _ h
  exact ⟨its, n, r, e, z⟩
theorem Inv.lstUpd {pins : List (Addr × Obj)} {σ : St} {H : Hp} {s : Shared} {p : Addr} {xs ys : List V} {its its' : List Value} {n n' : Nat} {f : Obj -> Obj} (I : Inv X pins σ H s) (h : H p = some (.lst xs))
    (ho : s.heap.get? p = some { cls := .type "list", data := .seq its.toArray n }) (hf : f { cls := .type "list", data := .seq its.toArray n } = { cls := .type "list", data := .seq its'.toArray n' }) (r : Vals ys its') (hz : ys.length <= sizeLine) (t : Nat) :
    Inv X pins σ (upd H p (.lst ys)) { s with heap := s.heap.update p f, toks := t } := by
  have e : (s.heap.update p f).get? p = some { cls := .type "list", data := .seq its'.toArray n' } := by
    rw [Heap.get?_update_self f ho (by rw [hf] <;> rfl), hf]
  refine I.write (x := p) (e := p) (by rw [h]; trivial) (.inl rfl) (fun b u hb q => (Heap.get?_update_other _ _ (Ne.symm hb)).trans q) ⟨_, e⟩ ?_
  exact ⟨hz, its', n', r, e⟩
def Zs8 : V -> V -> V -> Hp -> (Hp -> Prop) -> Prop := fun o i v H Q => ∃ p xs k j, o = .ref p /\ i = .int k /\ H p = some (.lst xs) /\ ixN xs.length k = some j /\ Q (upd H p (.lst (xs.set j v)))
theorem Zn4 : PSet X Zs8 := by
  intro pins s σ H o i v ov iv u Q I ro ri rv h
  obtain ⟨p, xs, k, j, rfl, rfl, hp, hj, q⟩ := h
  cases ro
  obtain ⟨t, rfl⟩ := ri
  obtain ⟨its, n, r, ho, hz⟩ := I.lst hp
  obtain ⟨h1, h2, h3, h4⟩ := Zl0 hj
  have hl := r.length
  have hn := ZfU
  have I' : Inv X pins σ (upd H p (.lst (xs.set j v))) { s with heap := s.heap.update p (Obj.mapSeq (·.setIfInBounds j u)) } :=
    I.lstUpd hp ho (ZlO its n j u) (r.set rv j) (by rw [List.length_set]; exact hz) s.toks
  by_cases h0 : 0 <= k
  . have hk : k.toNat = j := by
      rw [seqIndex_of h0 h4] at h1
      exact Option.some.inj h1
    exact PySem.W.ki_setAt ho h0 (by omega) (by rw [List.size_toArray, <- hl]; exact h4) (by rw [hk]; exact ⟨_, I', q⟩)
  . have hk : (k + (its.toArray.size : Int)).toNat = j := by
      rw [seqIndex_neg (by omega) h3] at h1
      rw [List.size_toArray, <- hl]
      exact Option.some.inj h1
    exact PySem.W.ki_setBack ho (by omega) (by rw [List.size_toArray, <- hl]; exact h3) (by omega) (by rw [hk]; exact ⟨_, I', q⟩)
theorem Zkm (lo hi : Option Int) (n : Nat) : (sliceBounds lo hi none n).1 = ((HT.sIx n 0 lo : Nat) : Int) /\ (sliceBounds lo hi none n).2.1 = ((HT.sIx n n hi : Nat) : Int) /\ (sliceBounds lo hi none n).2.2 = 1 := by
  refine ⟨?_, ?_, rfl⟩
  . cases lo with
    | none => simp [sliceBounds, HT.sIx]
    | some i =>
      simp only [sliceBounds, HT.sIx, Option.getD_none, show (1 : Int) > 0 by decide, if_true]
      by_cases h : i < 0
      . simp only [h, if_true] <;> omega
      . simp only [h, if_false] <;> omega
  . cases hi with
    | none => simp [sliceBounds, HT.sIx]
    | some i =>
      simp only [sliceBounds, HT.sIx, Option.getD_none, show (1 : Int) > 0 by decide, if_true]
      by_cases h : i < 0
      . simp only [h, if_true] <;> omega
      . simp only [h, if_false] <;> omega
theorem ZjQ (its : List Value) (lo hi : Option Int) : slicePick its.toArray lo hi none = ((its.drop (HT.sIx its.length 0 lo)).take (HT.sIx its.length its.length hi - HT.sIx its.length 0 lo)).toArray := by
  obtain ⟨h1, h2, h3⟩ := Zkm lo hi its.toArray.size
  unfold slicePick
  rw [h1, h2, h3]
  simp only [sliceRange_one, pick_run, List.size_toArray] <;> rfl
def rSlL (K : Fg) : V -> Option Int -> Option Int -> Hp -> VK -> Prop := fun x lo hi H Q => ∃ a xs, x = .ref a /\ SqL K H a xs /\ ∀ p, H p = none -> Q (.ref p) (upd H p (.lst (cutV xs lo hi)))
theorem Zl2 : SlR X (rSlL X.K) := by
  intro pins s σ H x v vl vu lo hi sl Q I rx hs pl pu h
  obtain ⟨a, xs, rfl, hx, q⟩ := h
  cases rx
  obtain ⟨its, r, ht, hz⟩ := I.list hx
  have hlen := r.length
  refine ⟨"list", _, slot_list_getitem.lookup, ht.isList.typeIs, ?_⟩
  refine wpAny_getItem_list_slice ht.isList hs pl pu .none (by simp) ?_ (by rw [List.size_toArray] <;> omega)
  rw [ZjQ, <- hlen]
  refine ⟨.ref s.heap.objs.size, _, I.laid (t' := s.toks) (o := .lst (cutV xs lo hi)) (fun b ob q => Heap.get?_push_of_some _ q) (Nat.le_refl _) ?_, rfl, q _ (I.hok.fresh (Nat.le_refl _))⟩
  exact ⟨Nat.le_trans (ZkZ xs lo hi) hz, _, 0, (r.drop (HT.sIx xs.length 0 lo)).take (HT.sIx xs.length xs.length hi - HT.sIx xs.length 0 lo), Heap.get?_push_size _ rfl⟩
noncomputable def Zen : V -> Bool
  | .non => true
  | .bl _ => true
  | .int _ => true
  | .str _ => true
  | _ => false
noncomputable def eqV : V -> V -> Bool
  | .non, .non => true
  | .bl a, .bl b => a == b
  | .bl a, .int b => (if a then 1 else 0) == b
  | .int a, .bl b => a == (if b then 1 else 0)
  | .int a, .int b => a == b
  | .str a, .str b => a == b
  | _, _ => false
theorem ZqG {A : Around} {s : Shared} {y x : V} {u v : Value} (ry : RelV y u) (rx : RelV x v) (fy : Zen y = true) (fx : Zen x = true) : SeqAt.EqAt A s u v (eqV y x) := by
  cases y with
  | non =>
    cases ry
    cases x with
    | non => cases rx; exact SeqAt.EqAt.same _
    | bl b => cases rx; exact SeqAt.EqAt.none_bool b
    | int b => obtain ⟨t, rfl⟩ := rx; exact SeqAt.EqAt.none_int b t
    | str b => obtain ⟨t, rfl⟩ := rx; exact SeqAt.EqAt.none_str b t
    | _ => exact absurd (show false = true from fx) Bool.false_ne_true
  | bl a =>
    cases ry
    cases x with
    | non => cases rx; exact SeqAt.EqAt.bool_none a
    | bl b => cases rx; exact SeqAt.EqAt.bool_bool a b
    | int b => obtain ⟨t, rfl⟩ := rx; exact SeqAt.EqAt.bool_int a b t
    | str b => obtain ⟨t, rfl⟩ := rx; exact SeqAt.EqAt.bool_str a b t
    | _ => exact absurd (show false = true from fx) Bool.false_ne_true
  | int a =>
    obtain ⟨t', rfl⟩ := ry
    cases x with
    | non => cases rx; exact SeqAt.EqAt.int_none a t'
    | bl b => cases rx; exact SeqAt.EqAt.int_bool a t' b
    | int b => obtain ⟨t, rfl⟩ := rx; exact SeqAt.EqAt.int_int a t' b t
    | str b => obtain ⟨t, rfl⟩ := rx; exact SeqAt.EqAt.int_str a t' b t
    | _ => exact absurd (show false = true from fx) Bool.false_ne_true
  | str a =>
    obtain ⟨t', rfl⟩ := ry
    cases x with
    | non => cases rx; exact SeqAt.EqAt.str_none a t'
    | bl b => cases rx; exact SeqAt.EqAt.str_bool a t' b
    | int b => obtain ⟨t, rfl⟩ := rx; exact SeqAt.EqAt.str_int a t' b t
    | str b => obtain ⟨t, rfl⟩ := rx; exact SeqAt.EqAt.str_str a t' b t
    | _ => exact absurd (show false = true from fx) Bool.false_ne_true
  | _ => exact absurd (show false = true from fy) Bool.false_ne_true
noncomputable def eqU (x : V) (u : Value) : Bool := match u with
  | .none => eqV .non x
  | .bool b => eqV (.bl b) x
  | .int i _ => eqV (.int i) x
  | .str z _ => eqV (.str z) x
  | _ => false
theorem ZmA {x y : V} {u : Value} (r : RelV y u) (f : Zen y = true) : eqU x u = eqV y x := by
  cases y with
  | non => cases r; rfl
  | bl b => cases r; rfl
  | int i => obtain ⟨t, rfl⟩ := r; rfl
  | str z => obtain ⟨t, rfl⟩ := r; rfl
  | _ => exact absurd (show false = true from f) Bool.false_ne_true
theorem Zkn {A : Around} {s : Shared} {x : V} {v : Value} (rx : RelV x v) (fx : Zen x = true) : ∀ {xs : List V} {us : List Value}, Vals xs us -> xs.all Zen = true -> ∀ u ∈ us, SeqAt.EqAt A s u v (eqU x u)
  | _, _, .nil, _ => fun u hu => by cases hu
  | y :: xs, u :: us, .cons r t, f => fun u' hu => by
    rw [List.all_cons, Bool.and_eq_true] at f
    rcases List.mem_cons.mp hu with rfl | hu
    . rw [ZmA r f.1]; exact ZqG r rx f.1 fx
    . exact Zkn rx fx t f.2 u' hu
theorem Zeo : Zbz X (.builtin "len") (fun xs H Q => ∃ p ys, xs = [.ref p] /\ (SqL X.K H p ys \/ SqT X.K H p ys) /\ Q (.int ys.length) H) := by
  intro pins s σ H xs us Q I r h
  obtain ⟨p, ys, rfl, hq, q⟩ := h
  obtain ⟨u, rfl, rx⟩ := Ziy r
  cases rx
  have hn := ZfU
  rcases hq with hq | hq
  . obtain ⟨its, r', pl, hz⟩ := I.list hq
    have hlen := r'.length
    exact Calls.call_len_list pl.isList (by simp only [List.size_toArray] <;> omega) ⟨.int ys.length, H, I.tok _, ⟨s.toks + 1, by rw [List.size_toArray, hlen]⟩, q⟩
  . obtain ⟨its, r', pl, hz⟩ := I.tuple hq
    have hlen := r'.length
    exact len_tuple pl (by simp only [List.size_toArray] <;> omega) ⟨.int ys.length, H, I.tok _, ⟨s.toks + 1, by rw [List.size_toArray, hlen]⟩, q⟩
theorem Zko : Zbz X (.builtin "len") (fun xs H Q => ∃ z, xs = [.str z] /\ z.length <= sizeLine /\ Q (.int z.length) H) := by
  intro pins s σ H xs us Q I r h
  obtain ⟨z, rfl, hz, q⟩ := h
  obtain ⟨u, rfl, t, rfl⟩ := Ziy r
  have hn := ZfU
  exact len_str (by omega) ⟨.int z.length, H, I.tok _, ⟨_, rfl⟩, q⟩
theorem Zep : Zbz X (.type "list") (fun xs H Q => ∃ p ys, xs = [.ref p] /\ (SqL X.K H p ys \/ SqT X.K H p ys) /\ ∀ l, H l = none -> Q (.ref l) (upd H l (.lst ys))) := by
  intro pins s σ H xs us Q I r h
  obtain ⟨p, ys, rfl, hq, q⟩ := h
  obtain ⟨u, rfl, rx⟩ := Ziy r
  cases rx
  have fin : ∀ (its : List Value), Vals ys its -> ys.length <= sizeLine -> ∀ (h' : Heap) (c' : Nat), (∀ b o', s.heap.get? b = some o' -> h'.get? b = some o') ->
      h'.get? s.heap.objs.size = some { cls := .type "list", dict := none, data := .seq its.toArray c', slots := #[] } -> EP X pins σ Q (.ref s.heap.objs.size) { s with heap := h' } := fun its r' hz h' c' kp e =>
    ⟨.ref s.heap.objs.size, _, I.laid (t' := s.toks) kp (Nat.le_refl _) (show Zaw X.prog X.w _ h' _ (.lst ys) from ⟨hz, its, c', r', e⟩), rfl, q _ (I.hok.fresh (Nat.le_refl _))⟩
  rcases hq with hq | hq
  . obtain ⟨its, r', pl, hz⟩ := I.list hq
    have hlen := r'.length
    obtain ⟨o, ho, hc, n, hd⟩ := pl.isList
    exact call_list_seq p (.inl rfl) ho hc hd (fun h' c' kp e => fin its r' hz h' c' kp e) (by simp only [List.size_toArray] <;> omega)
  . obtain ⟨its, r', pl, hz⟩ := I.tuple hq
    have hlen := r'.length
    obtain ⟨o, ho, hc, n, hd⟩ := pl
    exact call_list_seq p (.inr rfl) ho hc hd (fun h' c' kp e => fin its r' hz h' c' kp e) (by simp only [List.size_toArray] <;> omega)
def tyV (K : Fg) (T : String) (x : V) (H : Hp) : Prop := match x with
  | .str _ => T = "str"
  | .int _ => T = "int"
  | .ref p => (T = "list" /\ ∃ xs, SqL K H p xs) \/ (T = "tuple" /\ ∃ o, K.lookup p = some o /\ o.cls = .type "tuple" /\ o.dict = none) \/
      (T = "dict" /\ ((∃ kvs, H p = some (.dK kvs)) \/ ∃ kvs, H p = some (.dT kvs))) \/ (T = "set" /\ ∃ S n, H p = some (.set S n))
  | _ => False
theorem ZqH {pins : List (Addr × Obj)} {σ : St} {H : Hp} {s : Shared} {T : String} {x : V} {v : Value} (I : Inv X pins σ H s) (r : RelV x v) (ty : tyV X.K T x H) :
    s.TypeIs v T /\ ∀ a, v = .ref a -> ∃ ob, s.heap.get? a = some ob /\ ob.dict = none := by
  cases x with
  | str z =>
    obtain ⟨t, rfl⟩ := r
    cases (show T = "str" from ty)
    exact ⟨typeIs_str s z t, fun _ e => nomatch e⟩
  | int i =>
    obtain ⟨t, rfl⟩ := r
    cases (show T = "int" from ty)
    exact ⟨typeIs_int s i t, fun _ e => nomatch e⟩
  | ref p =>
    cases r
    rcases ty with ⟨rfl, xs, hq⟩ | ⟨rfl, o, hk, hc, hd⟩ | ⟨rfl, hk⟩ | ⟨rfl, S, n, hk⟩
    . obtain ⟨its, _, pl, _⟩ := I.list hq
      refine ⟨pl.isList.typeIs, fun a e => ?_⟩
      cases e
      obtain ⟨o, n, e, c, hd, _⟩ := pl
      exact ⟨o, e, hd⟩
    . refine ⟨⟨o, I.kIn p o hk, hc⟩, fun a e => ?_⟩
      cases e
      exact ⟨o, I.kIn _ o hk, hd⟩
    . have z : ∃ o, s.heap.get? p = some o /\ o.ExactDict := by
        rcases hk with ⟨kvs, hk⟩ | ⟨kvs, hk⟩
        . obtain ⟨_, _, _, _, o, _, _, e, ex, _⟩ := I.hok p _ hk
          exact ⟨o, e, ex⟩
        . obtain ⟨_, _, _, _, o, _, _, e, ex, _⟩ := I.hok p _ hk
          exact ⟨o, e, ex⟩
      obtain ⟨o, e, ex⟩ := z
      refine ⟨⟨o, e, ex.1⟩, fun a e2 => ?_⟩
      cases e2
      exact ⟨o, e, ex.2.1⟩
    . obtain ⟨o, _, _, _, e, ex, _⟩ := I.hok p _ hk
      refine ⟨⟨o, e, ex.1⟩, fun a e2 => ?_⟩
      cases e2
      exact ⟨o, e, ex.2.1⟩
  | _ => exact False.elim ty
def tBM (K : Fg) (T : String) (r : V -> List V -> Hp -> VK -> Prop) (to : TE) (t : TA) : TE := fun σ H Q => to σ H fun x H1 => tyV K T x H1 /\ t σ H1 fun xs H2 => r x xs H2 Q
variable {o e : Expr} {es : List Expr} {to : TE} {t : TA} {name : Str} {apos cpos : Pos} {T id : String} {r : V -> List V -> Hp -> VK -> Prop}
theorem Zo8 (pa : PlainAttrs T) (slot : Slot T name id) (hty : typeOf (.builtin id) = pure (.type "method_descriptor")) (hm : MtR X id r) (ho : PE X o to) (ha : PA X (e :: es) t)
    (hbase : attributeBase o name X.env (eval o X.env) = eval o X.env := by rfl)
    (hfew : ((backTo cpos (starEach (e :: es) X.env)).all (fun x => !x.1) && (backToKw cpos (keywordEach [] X.env)).all (fun x => x.1.isSome)
      && decide ((e :: es).length + ([] : List Keyword).length + (if ([] : List Keyword).isEmpty then 0 else 1) < 30)) = true := by rfl)
    (hline : (apos.endLine == cpos.line) = true := by rfl) (hs : starEach (e :: es) X.env = (false, eval e X.env) :: starEach es X.env := by rfl) (hplain : (backTo cpos (starEach es X.env)).any (·.1) = false := by rfl) :
    PE X (.Call (.Attribute o name apos) (e :: es) [] cpos) (tBM X.K T r to t) := by
  intro pins s σ H Q I h
  refine wpAny_Call_method_late hbase hfew hline rfl (thn (ho pins s σ H _ I h) fun v s1 ⟨x, H1, I1, r1, ty, q1⟩ => ?_)
  obtain ⟨h1, h2⟩ := ZqH I1 r1 ty
  refine ⟨T, id, pa, slot, hty, h1, h2, ?_⟩
  have hA := ha cpos pins s1 σ H1 _ I1 q1
  rw [hs] at hA ⊢
  refine Calls.callWith_builtin (by show (false || (backTo cpos (starEach es X.env)).any (·.1)) = false; rw [hplain] <;> rfl) (Calls.evalArgs_plain ?_)
  exact thn hA fun us s2 ⟨vs, H2, I2, r2, q2⟩ => hm pins s2 σ H2 x vs v us Q I2 r1 r2 q2
end
end L2
namespace L2
open PySem PySem.Spec PyProof.Rows
def MtM (X : Cx) (id : String) (r : V -> List V -> Hp -> VK -> Prop) : Prop :=
  ∀ (pins : List (Addr × Obj)) (s : Shared) (σ : St) (H : Hp) (x : V) (xs : List V) (v : Value) (us : List Value) (Q : VK), Inv X pins σ H s -> RelV x v -> Vals xs us -> r x xs H Q ->
    wpAny (model X.prog X.w) X.A (call (.builtin id) (v :: us)) (EP X pins σ Q) X.xe s
theorem Vals.one : ∀ {x : V} {us : List Value}, Vals [x] us -> ∃ u, us = [u] /\ RelV x u
  | _, _, .cons r .nil => ⟨_, rfl, r⟩
theorem Vals.two : ∀ {x y : V} {us : List Value}, Vals [x, y] us -> ∃ u v, us = [u, v] /\ RelV x u /\ RelV y v
  | _, _, _, .cons r (.cons q .nil) => ⟨_, _, rfl, r, q⟩
section
variable {X : Cx} {pins : List (Addr × Obj)} {σ : St} {H : Hp} {s : Shared} {l b : Addr} {xs ys zs : List V}
theorem Inv.lset {its its' : List Value} {n : Nat} {f : Array Value -> Array Value} {t' : Nat} (I : Inv X pins σ H s) (hH : H l = some (.lst xs))
    (e : s.heap.get? l = some { cls := .type "list", data := .seq its.toArray n }) (hf : f its.toArray = its'.toArray) (hv : Vals ys its') (hz : ys.length <= sizeLine) :
    Inv X pins σ (upd H l (.lst ys)) { s with heap := s.heap.update l (Obj.mapSeq f), toks := t' } := by
  have q := PySem.IsL.update e f
  rw [hf] at q
  refine I.write (x := l) (e := l) (by rw [hH]; exact trivial) (.inl rfl) (fun b' u hb hu => (Heap.get?_update_other s.heap (Obj.mapSeq f) (Ne.symm hb)).trans hu) ⟨_, q⟩ ?_
  exact ⟨hz, its', _, hv, q⟩
theorem Inv.lnew {its : List Value} {t' : Nat} (I : Inv X pins σ H s) (hv : Vals ys its) (hz : ys.length <= sizeLine) :
    Inv X pins σ (upd H s.heap.objs.size (.lst ys)) { s with heap := s.heap.push { cls := .type "list", data := .seq its.toArray }, toks := t' } :=
  I.laid (fun _ _ q => Heap.get?_push_of_some _ q) (Nat.le_refl _) ⟨hz, its, 0, hv, Heap.get?_push_size _ rfl⟩
theorem Inv.fresh (I : Inv X pins σ H s) : H s.heap.objs.size = none := I.hok.fresh (Nat.le_refl _)
theorem Inv.lstM (I : Inv X pins σ H s) (hH : H l = some (.lst xs)) : xs.length <= sizeLine /\ ∃ (its : List Value) (n : Nat), Vals xs its /\ xs.length = its.length /\ s.heap.get? l = some { cls := .type "list", data := .seq its.toArray n } := by
  obtain ⟨z, its, n, r, e⟩ := I.hok l _ hH
  exact ⟨z, its, n, r, r.length, e⟩
end
section
variable {X : Cx}
def Zpc : V -> List V -> Hp -> VK -> Prop := fun x vs H Q => ∃ l xs y, x = .ref l /\ vs = [y] /\ H l = some (.lst xs) /\ xs.length < sizeLine /\ Q .non (upd H l (.lst (xs ++ [y])))
theorem Zj8 : MtM X "list.append" Zpc := by
  intro pins s σ H x vs v us Q I rx rv h
  obtain ⟨l, xs, y, rfl, rfl, hH, hz, q⟩ := h
  cases rx
  obtain ⟨u, rfl, ru⟩ := rv.one
  obtain ⟨z, its, n, r, hl, e⟩ := I.lstM hH
  refine call_meets F.slot_list_append ⟨_, e, rfl⟩ F.entry_list_append (F.args_list_append_2 _ _) (PySem.list_append l its.toArray n u (by rw [List.size_toArray]; omega)) ⟨e, ?_⟩
  refine ⟨.non, _, I.lset (its' := its ++ [u]) hH e (by simp) (r.append (.cons ru .nil)) ?_, rfl, q⟩
  rw [List.length_append, List.length_singleton]
  omega
def rCat : R2 := fun x y H Q => ∃ l b xs zs, x = .ref l /\ y = .ref b /\ H l = some (.lst xs) /\ H b = some (.lst zs) /\ xs.length + zs.length <= sizeLine /\ ∀ p, H p = none -> Q (.ref p) (upd H p (.lst (xs ++ zs)))
theorem ZqI : OpR X (binaryOp .Add) rCat := by
  intro pins s σ H x y v u Q I rx ry h
  obtain ⟨l, b, xs, zs, rfl, rfl, hH, hB, hz, q⟩ := h
  cases rx
  cases ry
  obtain ⟨z, its, n, r, hl, e⟩ := I.lstM hH
  obtain ⟨z2, its2, n2, r2, hl2, e2⟩ := I.lstM hB
  refine PySem.P.add_list e e2 ?_ (by rw [List.size_toArray, List.size_toArray]; omega)
  have ea : its.toArray ++ its2.toArray = (its ++ its2).toArray := by simp
  rw [ea]
  exact ⟨.ref _, _, I.lnew (t' := s.toks) (r.append r2) (by rw [List.length_append]; omega), rfl, q _ I.fresh⟩
end
end L2
namespace L2
open PySem PySem.Spec PyProof.Rows
section
variable {κ : Type} [DecidableEq κ]
noncomputable def valV (kvs : List (κ × V)) (k : κ) : Option V := (kvs.find? fun kv => decide (kv.1 = k)).map (·.2)
theorem KV.length {kvs : List (κ × V)} {vs : List (κ × Value)} (r : KV kvs vs) : kvs.length = vs.length := Paired.length r
end
section
variable {P : Program} {w : World} {H : Hp} {h : Heap} {a : Addr}
theorem Zs9 {u : HO} (ok : HOk P w H h) (e : Rd H a u) : Zaw P w H h a u := e.ok ok
theorem ZsA {kvs : List (Key × V)} (ok : HOk P w H h) (e : Rd H a (.dK kvs)) : kvs.length <= sizeLine /\ (a == sysModules) = false /\ ∃ vs, KV kvs vs /\ h.DictOf (Zh6 P w) a vs :=
  show Zaw P w H h a (.dK kvs) from Zs9 ok e
end
section
variable {X : Cx} {pins : List (Addr × Obj)} {σ : St} {H : Hp} {s : Shared} {a : Addr} {kvs : List (Key × V)} {k : Key} {u : Value} {A : Around} {E : Value -> Shared -> Prop}
theorem ZsB {Q : Value -> Shared -> Prop} (I : Inv X pins σ H s) (e : Rd H a (.dK kvs)) (h : ∀ t s', Inv X pins σ H s' -> Q (.int kvs.length t) s') : wpAny (model X.prog X.w) A (call (.builtin "len") [.ref a]) Q E s := by
  obtain ⟨z, hd, vs, rel, dd⟩ := ZsA I.hok e
  refine call_len_dict hd dd (by rw [<- rel.length]; rw [sizeLine_eq] at z; omega) ?_
  rw [<- rel.length]
  exact h _ _ (I.tok _)
end
structure M1 (X : Cx) (o : Expr) (m : Str) (apos : Pos) (e : Expr) (cpos : Pos) : Prop where
  base : attributeBase o m X.env (eval o X.env) = eval o X.env
  few : ((backTo cpos (starEach [e] X.env)).all (fun x => !x.1) && (backToKw cpos (keywordEach [] X.env)).all (fun x => x.1.isSome)
    && decide (([e] : List Expr).length + ([] : List Keyword).length + (if ([] : List Keyword).isEmpty then 0 else 1) < 30)) = true
  line : (apos.endLine == cpos.line) = true
  trees : backTo cpos (starEach [e] X.env) = [(false, eval e X.env)]
structure M2 (X : Cx) (o : Expr) (m : Str) (apos : Pos) (e f : Expr) (cpos : Pos) : Prop where
  base : attributeBase o m X.env (eval o X.env) = eval o X.env
  few : ((backTo cpos (starEach [e, f] X.env)).all (fun x => !x.1) && (backToKw cpos (keywordEach [] X.env)).all (fun x => x.1.isSome)
    && decide (([e, f] : List Expr).length + ([] : List Keyword).length + (if ([] : List Keyword).isEmpty then 0 else 1) < 30)) = true
  line : (apos.endLine == cpos.line) = true
  trees : backTo cpos (starEach [e, f] X.env) = [(false, eval e X.env), (false, eval f X.env)]
end L2
namespace Att
open PySem PySem.W PySem.Calls PyProof.Rows
theorem Ziz {P : Params} {h : Heap} : ∀ (ns : List Int) (vs : List Value), WellAll P h vs (ns.map WData.int) -> IntsAre vs ns := by
  intro ns
  induction ns with
  | nil =>
    intro vs w
    rw [List.map_nil] at w
    cases w
    exact .nil
  | cons n ns ih =>
    intro vs w
    rw [List.map_cons] at w
    cases w with
    | cons a b =>
      cases a
      exact .cons _ _ (ih _ b)
theorem ZmB {l : OpenLaw} {n : Nat} (hn : l.most = some n) {P : Params} {h : Heap} {args : List WData} {vals : List Value}
    (hpre : l.row.toRowW.claim.pre args = true) (hwl : WellAll P h vals args) :
    ∃ a vs ns, vals = [Value.ref a] /\ args = [WData.list (ns.map WData.int)] /\ h.get? a = some { cls := .type "list", data := .seq vs.toArray } /\ IntsAre vs ns /\ ns.length <= n := by
  have hsh : WShape.hasAll [] args [.list .int] = true := (pre_splitW hpre).1
  have hc : l.pre.holds [] { args := args } = true := (pre_splitW hpre).2
  obtain ⟨d, r, rfl, h1, h2⟩ := hasAllW_cons hsh
  obtain rfl := hasAllW_nil h2
  obtain ⟨xs, rfl, h3⟩ := hasW_list h1
  obtain ⟨ns, rfl⟩ := items_int h3
  have hlen : ns.length <= n := by
    unfold OpenLaw.pre at hc
    have h4 : (WTm.not (.lt (.lit (.int (n : Int))) (.len (.arg 0)))).holds [] { args := [.list (ns.map .int)] } = true := by
      have h4 := (holds_andW hc).1
      rw [hn] at h4
      exact h4
    have h5 := condW_of h4 (w_not (w_lt w_lit (w_len_list (w_arg rfl))))
    rw [List.length_map] at h5
    refine Nat.le_of_not_lt fun q => ?_
    have q' : (n : Int) < ((ns.length : Nat) : Int) := by omega
    first
      | (rw [decide_eq_true q'] at h5; exact absurd h5 (by decide))
      | (simp at h5; omega)
  cases hwl with
  | cons w1 w2 =>
    cases w2
    cases w1 with
    | list ho hall => exact ⟨_, _, ns, rfl, rfl, ho, Ziz ns _ hall, hlen⟩
theorem ZmC (l : OpenLaw) (args : List WData) : l.row.toRowW.claim.post args (.bool true) args = true :=
  postW_of (r := l.row.toRowW) (X := (true == true))
    (show WShape.has [] (.bool true) .bool = true by first | rfl | decide | simp [WShape.has, WShape.arms, WShape.armsAll])
    (show (WTm.eq .res (.lit (.bool true))).value [] { args := args, res := some (.bool true), after := args } = some (.bool (true == true)) from w_eq_bool (w_res rfl) w_lit) rfl
theorem Zla {l : OpenLaw} {n : Nat} {q : Program} {loose : List Str} {XP : (Str -> Option Value) -> Heap -> Prop} {YP : World -> Heap -> Prop} {d : DefRec}
    (hn : l.most = some n) (hdf : d.params.defaults = [])
    (call : ∀ (w : World) (s₀ s₁ : Shared) (mg mb : Str -> Option Value) (fa : Addr) (o : Obj) (pm cd doc : Value) (a : Addr) (vs : List Value) (ns : List Int),
      Ground q loose [] XP w s₀ mg mb s₁.heap -> YP w s₁.heap ->
      s₁.heap.get? fa = some o -> o.data = .func (docDef d.name d.params d.body d.scope pm cd doc) -> s₁.heap.CodeRec cd d.name -> mg d.name = some (.ref fa) ->
      s₁.heap.get? a = some { cls := .type "list", data := .seq vs.toArray } -> IntsAre vs ns -> ns.length <= n -> s₁.gens = #[] ->
      codeAny (model l.prog w) callerA (.call (.ref fa) ⟨[.ref a], []⟩) (fun r s' => r = .ok (.ret (.bool true)) /\ OldK s₁.heap s'.heap /\ s'.os = s₁.os /\ AllBare s'.gens) s₁) :
    WalkO q loose XP YP l.row.toRowW d [] (fun f vs => PySem.call f vs) := by
  intro w s₀ s₁ mg mb G Y fa o pm cd doc dV kV ho hd hcd hD hmg hg args vals as hpre hlay hrd hwl hlo
  obtain rfl : dV = .none := Dflts.none hD hdf
  obtain rfl : kV = .none := Dflts.noKw hD
  obtain ⟨a, vs, ns, rfl, rfl, hobj, hints, hlen⟩ := ZmB hn hpre hwl
  refine enter_call (codeAny_mono (call w s₀ s₁ mg mb fa o pm cd doc a vs ns G Y ho (fd_plain hd) hcd hmg hobj hints hlen hg) fun r s' hq => ?_)
  obtain ⟨rfl, h2, h3, h4⟩ := hq
  exact ⟨.inl ⟨.bool true, .bool true, [], rfl, fun _ => rfl, .bool true, ZmC l _, fun _ => ⟨List.Pairwise.nil, fun _ hm => (nomatch hm)⟩⟩, h2, h3, h4⟩
end Att
namespace L2
open PySem PySem.Spec PyProof.Rows
theorem Zj9 : ∀ {vs : List Value} {ns : List Int}, IntsAre vs ns -> Vals (ns.map V.int) vs
  | _, _, .nil => .nil
  | _, _, .cons n t h => .cons ⟨t, rfl⟩ (Zj9 h)
def Only (H : Hp) : Prop := ∀ b, H b = none \/ ∃ o xs, H b = some (.frz o (.lst xs))
theorem Zn5 {P : Program} {w : World} {K : Fg} {mg mb : Str -> Option Value} {CX : CXT} {k : Nat} {fa a : Addr} {fd : FuncData} {x : Str} {sp : Sp} {s₁ : Shared} {vs : List Value} {ns : List Int}
    (KX : K.In s₁.heap) (hns : s₁.heap.Ns mainGlobals mg) (hb : s₁.heap.Ns builtinsNs mb) (hbb : ∀ x : Str, x ≠ "__name__" -> mb x = bootBuiltins x) (hlim : s₁.heap.NoLimit) (hg : s₁.gens = #[])
    (ha : s₁.heap.get? a = some { cls := .type "list", data := .seq vs.toArray }) (hi : IntsAre vs ns) (hl : ns.length <= sizeLine) (hr : Room k callerA)
    (F : ∀ base : Heap, K.In base -> base.Ns mainGlobals mg -> FnOk P w K mg base CX k fa fd [x] sp) (hbind : ∀ (s : Shared) (u : Value), BindsTo s fd ⟨[u], []⟩ [(x, u)])
    (hsp : ∀ H : Hp, Only H -> SqL K H a (ns.map V.int) -> sp [.ref a] H (fun v _ => v = .bl true) fun _ _ _ => False)
    (hCX : ∀ H e s', CX [] H s₁ (fun _ _ _ => False) e s' -> False) :
    codeAny (model P w) callerA (.call (.ref fa) ⟨[.ref a], []⟩) (fun r s' => r = .ok (.ret (.bool true)) /\ OldK s₁.heap s'.heap /\ s'.os = s₁.os /\ AllBare s'.gens) s₁ := by
  have rv := Zj9 hi
  have lenV := hi.length
  have core : ∀ H : Hp, Only H -> SqL K H a (ns.map V.int) -> HOk P w H s₁.heap -> (∀ b, H b ≠ none -> b = a) -> (H a ≠ none -> K.lookup a = none) ->
      codeAny (model P w) callerA (.call (.ref fa) ⟨[.ref a], []⟩) (fun r s' => r = .ok (.ret (.bool true)) /\ OldK s₁.heap s'.heap /\ s'.os = s₁.os /\ AllBare s'.gens) s₁ := by
    intro H hO hS hok hA hK
    have base_of : ∀ {b : Addr} {o : Obj}, s₁.heap.get? b = some o -> H b = none -> (hidT s₁.heap H).get? b = some o := fun e n => Znu e n
    have noA : ∀ {b : Addr} {o : Obj} {es : Array DictEntry} {ep : Nat}, s₁.heap.get? b = some o -> o.data = .dict es ep -> H b = none := fun {b o es ep} e d => by
      cases q : H b with
      | none => rfl
      | some u =>
        have e' : b = a := hA b (by rw [q]; simp)
        subst e'
        rw [ha] at e; cases e
        have d' : Data.seq vs.toArray _ = Data.dict es ep := d
        cases d'
    have nsK : ∀ {b : Addr} {m : Str -> Option Value}, s₁.heap.Ns b m -> (hidT s₁.heap H).Ns b m := fun {b m} ⟨o, es, ep, e, d, r⟩ => ⟨o, es, ep, base_of e (noA e d), d, r⟩
    have hKb : K.In (hidT s₁.heap H) := fun b o e => base_of (KX b o e) (by
      cases q : H b with
      | none => rfl
      | some u =>
        have e' : b = a := hA b (by rw [q]; simp)
        subst e'
        rw [hK (by rw [q]; simp)] at e; cases e)
    have hM : Mod K mg (hidT s₁.heap H) := ⟨hKb, nsK hns, ⟨mb, nsK hb, hbb⟩, let ⟨mc, h1, h2⟩ := hlim; ⟨mc, nsK h1, h2⟩⟩
    have e0 : Env0 P w K mg (hidT s₁.heap H) callerA [] s₁ H := ⟨rfl, hM, fun b o e => ZoN e, Nat.le_of_eq (Zmw _ _), trivial, fun b hb => absurd (show b ∈ ([] : List Addr) from hb) (by simp), hok, .of_eq hg⟩
    refine codeAny_mono ((F _ hKb (nsK hns)).run callerA [] s₁ H ⟨[.ref a], []⟩ [.ref a] [.ref a] _ _ hr e0 (hbind s₁ (.ref a)) (.cons rfl .nil) (hsp H hO hS)) fun r s' h => ?_
    cases r with
    | error e => exact (hCX H e s' h).elim
    | ok fl =>
      cases fl with
      | next => exact False.elim h
      | brk => exact False.elim h
      | cont => exact False.elim h
      | ret u =>
        obtain ⟨v, H', os, bare, un, hok', r', q⟩ := h
        have q' : v = .bl true := q
        subst q'
        obtain rfl : u = Value.bool true := r'
        refine ⟨rfl, OldK.of_keep fun b o e => ?_, os, bare⟩
        cases q : H b with
        | none => exact un.keep b o e q (by intro z; exact absurd (show b ∈ ([] : List Addr) from z) (by simp)) (by simp)
        | some u =>
          rcases hO b with z | ⟨ob, xs, z⟩
          . rw [q] at z; cases z
          . have z2 := un.frzs b ob _ z
            obtain ⟨e1, _⟩ := hok b _ z
            obtain ⟨e2, _⟩ := hok' b _ z2
            rw [e] at e1; cases e1
            exact e2
  cases hk : K.lookup a with
  | some o =>
    have e := KX a o hk
    rw [ha] at e
    cases e
    refine core (fun _ => none) (fun _ => .inl rfl) (.inr ⟨_, vs.toArray, _, hk, rfl, rfl, rfl, by rw [List.size_toArray, lenV]; exact hl, by simpa using rv⟩) (fun b u z => by have z' : (none : Option HO) = some u := z; cases z') (fun b z => absurd rfl z) fun z => absurd rfl z
  | none =>
    refine core (fun b => if b = a then some (.frz { cls := .type "list", data := .seq vs.toArray } (.lst (ns.map V.int))) else none) (fun b => ?_) (.inl (.inr ⟨{ cls := .type "list", data := .seq vs.toArray }, if_pos rfl⟩)) (fun b u z => ?_) (fun b z => ?_) fun _ => hk
    . by_cases hb : b = a
      . exact .inr ⟨_, _, if_pos hb⟩
      . exact .inl (if_neg hb)
    . by_cases hb : b = a
      . have z' := (if_pos hb).symm.trans z
        cases z'
        subst hb
        exact ⟨ha, by rw [List.length_map]; exact hl, vs, _, rv, ha⟩
      . have z' := (if_neg hb).symm.trans z
        cases z'
    . by_cases hb : b = a
      . exact hb
      . exact absurd (if_neg hb) z
end L2
namespace L2
open PySem PySem.Spec PyProof.Rows
theorem Zpd {l : PySem.W.OpenLaw} {n k : Nat} {q : Program} {loose : List Str} {XP : (Str -> Option Value) -> Heap -> Prop} {YP : World -> Heap -> Prop} {d : DefRec} {K : Params -> Fg} {CX : World -> CXT} {sp : World -> Sp} {x : Str}
    (hn : l.most = some n) (hn2 : n <= sizeLine) (hdf : d.params.defaults = []) (hr : Room k callerA)
    (hY : ∀ (w : World) (h : Heap), YP w h -> (K w.params).In h)
    (F : ∀ (w : World) (mg : Str -> Option Value) (fa : Addr) (h : Heap), (K w.params).In h -> h.Ns mainGlobals mg -> mg d.name = some (.ref fa) ->
      ∃ fd : FuncData, (∀ (s : Shared) (u : Value), BindsTo s fd ⟨[u], []⟩ [(x, u)]) /\
        ∀ base : Heap, (K w.params).In base -> base.Ns mainGlobals mg -> FnOk l.prog w (K w.params) mg base (CX w) k fa fd [x] (sp w))
    (hsp : ∀ (w : World) (H : Hp) (a : Addr) (ns : List Int), ns.length <= n -> Only H -> SqL (K w.params) H a (ns.map V.int) -> sp w [.ref a] H (fun v _ => v = .bl true) fun _ _ _ => False)
    (hCX : ∀ (w : World) (H : Hp) (s : Shared) (e : Value) (s' : Shared), CX w [] H s (fun _ _ _ => False) e s' -> False) :
    PySem.W.WalkO q loose XP YP l.row.toRowW d [] (fun f vs => PySem.call f vs) := by
  refine Att.Zla hn hdf fun w s₀ s₁ mg mb fa o pm cd doc a vs ns G Y ho hd hcd hmg hobj hints hlen hg => ?_
  have KX := hY w _ Y
  obtain ⟨fd, hb, hF⟩ := F w mg fa _ KX G.T.g hmg
  exact Zn5 KX G.T.g G.T.b G.T.builtins G.T.nolimit hg hobj hints (Nat.le_trans hlen hn2) hr hF hb (fun H hO hS => hsp w H a ns hlen hO hS) fun H e s' => hCX w H s₁ e s'
theorem Zn6 {l : PySem.W.OpenLaw} {n k : Nat} {q : Program} {loose : List Str} {XP : (Str -> Option Value) -> Heap -> Prop} {YP : World -> Heap -> Prop} {d : DefRec} {K : Params -> Fg} {CX : CXT} {sp : Fg -> Sp} {x : Str}
    (hn : l.most = some n) (hn2 : n <= sizeLine) (hdf : d.params.defaults = []) (hr : Room k callerA)
    (hY : ∀ (w : World) (h : Heap), YP w h -> (K w.params).In h)
    (F : ∀ (w : World) (mg : Str -> Option Value) (fa : Addr) (h : Heap), (K w.params).In h -> h.Ns mainGlobals mg -> mg d.name = some (.ref fa) ->
      ∃ fd : FuncData, (∀ (s : Shared) (u : Value), BindsTo s fd ⟨[u], []⟩ [(x, u)]) /\
        ∀ base : Heap, (K w.params).In base -> base.Ns mainGlobals mg -> FnOk l.prog w (K w.params) mg base CX k fa fd [x] (sp (K w.params)))
    (hsp : ∀ (K : Fg) (H : Hp) (a : Addr) (ns : List Int), ns.length <= n -> Only H -> SqL K H a (ns.map V.int) -> sp K [.ref a] H (fun v _ => v = .bl true) fun _ _ _ => False)
    (hCX : ∀ (H : Hp) (s : Shared) (e : Value) (s' : Shared), CX [] H s (fun _ _ _ => False) e s' -> False) :
    PySem.W.WalkO q loose XP YP l.row.toRowW d [] (fun f vs => PySem.call f vs) :=
  Zpd (K := K) (CX := fun _ => CX) (sp := fun w => sp (K w.params)) hn hn2 hdf hr hY F (fun w H a ns h1 h2 h3 => hsp (K w.params) H a ns h1 h2 h3) fun _ H s e s' => hCX H s e s'
end L2
namespace L2
open PySem PySem.Spec PyProof.Rows
noncomputable def Z7 (s : Stmt) : Arguments := match s with
  | .FunctionDef _ a _ _ _ _ _ _ _ _ => a
  | _ => { posonlyargs := [], args := [], vararg := none, kwonlyargs := [], kw_defaults := [], kwarg := none, defaults := [] }
noncomputable def Z1 (s : Stmt) : List Stmt := match s with
  | .FunctionDef _ _ b _ _ _ _ _ _ _ => b
  | _ => []
noncomputable def Za (s : Stmt) : Scope := match s with
  | .FunctionDef _ _ _ _ _ _ sc _ _ _ => sc
  | _ => { kind := .function, names := [], isGenerator := false, isCoroutine := false }
noncomputable abbrev CX0 : CXT := fun _ _ _ _ _ _ => False
noncomputable abbrev E0 : XK := fun _ _ _ => False
theorem ZsC {X : Cx} : Passes CX0 X E0 := fun _ _ _ _ _ _ _ h => h.elim
structure Fun (K : Fg) (x qual : Str) (st : Stmt) (f : Addr) (fd : FuncData) : Prop where
  ex : ∃ (oc : Value) (od : Option Addr) (kV doc pm : Value) (an : Option Addr) (cdv ct : Value) (osl : Array (Option Value)),
    fd = PySem.W.fnOf x qual (Z7 st) (Z1 st) (Za st) .none kV doc pm an cdv ct /\ K.lookup f = some ⟨oc, od, .func fd, osl⟩ /\ PySem.W.codeIn K cdv qual = true
  kp : PySem.W.keepIn K (.ref f) = true
section
variable {P : Program} {w : World} {K : Fg} {mg : Str -> Option Value} {base : Heap}
theorem Fun.ok {x qual : Str} {st : Stmt} {f : Addr} {fd : FuncData} {N ps : List Str} {k : Nat} {sp : Sp} (F : Fun K x qual st f fd) (S : FnScope N ps (Za st)) (len : ∀ vs H Q E, sp vs H Q E -> vs.length = ps.length)
    (hbody : ∀ (cdv : Value) (A : Around) (outer : List Env) (s : Shared) (H : Hp) (vs : List V) (Q : VK) (E : XK), Room k (A.deeper (envOfC qual (Za st) s.heap.objs.size f cdv)) -> sp vs H Q E ->
      ∃ t, PSs (cxOf CX0 P w K mg base N qual (Za st) f cdv A outer s H E).nox (Z1 st) t /\ t { nx := fun _ H' => Q .non H', rt := Q } (start N vs) H) : FnOk P w K mg base CX0 (k + 1) f fd ps sp := by
  obtain ⟨oc, od, kV, doc, pm, an, cdv, ct, osl, rfl, lk, hcd⟩ := F.ex
  refine Zs5 lk hcd S len fun A outer s H vs Q E hr hsp => ?_
  obtain ⟨t, h, q⟩ := hbody cdv A outer s H vs Q E hr hsp
  exact ⟨t, h.nox, q⟩
theorem Fun.binds {x qual : Str} {st : Stmt} {f : Addr} {fd : FuncData} {ps : List Str} (F : Fun K x qual st f fd)
    (h : ∀ (kV doc pm : Value) (an : Option Addr) (cdv ct : Value) (us : List Value), us.length = ps.length -> bindArgs (PySem.W.fnOf x qual (Z7 st) (Z1 st) (Za st) .none kV doc pm an cdv ct) ⟨us, []⟩ = pure (ps.zip us)) : Binds K fd ps [] := by
  obtain ⟨oc, od, kV, doc, pm, an, cdv, ct, osl, rfl, lk, hcd⟩ := F.ex
  exact .all (h kV doc pm an cdv ct)
theorem Zaf {x qual : Str} {st : Stmt} {f : Addr} {oc : Value} {od an : Option Addr} {osl : Array (Option Value)} {kV doc pm cdv ct : Value} (l : K.lookup f = some ⟨oc, od, .func (PySem.W.fnOf x qual (Z7 st) (Z1 st) (Za st) .none kV doc pm an cdv ct), osl⟩)
    (c : PySem.W.codeIn K cdv qual = true) (k : PySem.W.keepIn K (.ref f) = true) : Fun K x qual st f (PySem.W.fnOf x qual (Z7 st) (Z1 st) (Za st) .none kV doc pm an cdv ct) := ⟨⟨oc, od, kV, doc, pm, an, cdv, ct, osl, rfl, l, c⟩, k⟩
end
def Same (H H' : Hp) : Prop := ∀ b o, H b = some o -> H' b = some o
theorem Same.refl (H : Hp) : Same H H := fun _ _ h => h
theorem Same.trans {H H1 H2 : Hp} (a : Same H H1) (b : Same H1 H2) : Same H H2 := fun c o h => b c o (a c o h)
theorem Same.seq {K : Fg} {H H' : Hp} {a : Addr} {xs : List V} (e : Same H H') (h : SqL K H a xs) : SqL K H' a xs := by
  rcases h with (h | ⟨o, h⟩) | h
  . exact .inl (.inl (e _ _ h))
  . exact .inl (.inr ⟨o, e _ _ h⟩)
  . exact .inr h
section
variable {X : Cx}
theorem ZmD : Zbz X (.builtin "len") (fun xs H Q => ∃ a kvs, xs = [V.ref a] /\ H a = some (.dK kvs) /\ Q (.int kvs.length) H) := by
  intro pins s σ H xs us Q I r h
  obtain ⟨a, kvs, rfl, ha, q⟩ := h
  obtain ⟨u, rfl, ru⟩ := Ziy r
  cases ru
  exact ZsB I (.inl ha) fun t s' I' => ⟨.int kvs.length, H, I', ⟨t, rfl⟩, q⟩
end
end L2
namespace L2
open PySem PySem.Spec PyProof.Rows
noncomputable def TB (T : Addr) : HO := .ext fun h => ∃ o ts, h.get? T = some o /\ o.data = .fields ts /\ 3 < ts.size
theorem Zo9 {P : Program} {w : World} {H : Hp} {h : Heap} {T : Addr} {o : Obj} {ts : Array Value} (e : h.get? T = some o) (d : o.data = .fields ts) (z : 3 < ts.size) : Zaw P w H h T (TB T) :=
  ⟨⟨o, ts, e, d, z⟩, ⟨o, e⟩, fun h1 h2 ⟨o, ts, e, d, z⟩ k => ⟨o, ts, k o e, d, z⟩⟩
structure FlyT (φ : Value -> Prop) (H : Hp) (h : Heap) (ea : Addr) : Prop where
  ex : ∃ (C : Addr) (dx : Option Addr) (fs : List (Str × V)) (oe : Obj) (vs : Array Value) (T : Addr) (oT : Obj) (ts : Array Value) (fl : Value), H ea = some (.exc C dx false fs) /\ h.get? ea = some oe /\ oe.data = .fields vs /\ vs.size = 6 /\ vs[1]? = some (.ref T) /\
    H T = some (TB T) /\ h.get? T = some oT /\ oT.data = .fields ts /\ ts[3]? = some fl /\ φ fl
structure FlyN (H : Hp) (h : Heap) (ea : Addr) : Prop where
  ex : ∃ (C : Addr) (dx : Option Addr) (fs : List (Str × V)) (oe : Obj) (vs : Array Value), H ea = some (.exc C dx false fs) /\ h.get? ea = some oe /\ oe.data = .fields vs /\ vs.size = 6 /\ vs[1]? = some .none
theorem FlyT.mono {φ ψ : Value -> Prop} {H : Hp} {h : Heap} {ea : Addr} (f : FlyT φ H h ea) (k : ∀ v, φ v -> ψ v) : FlyT ψ H h ea := by
  obtain ⟨C, dx, fs, oe, vs, T, oT, ts, fl, a1, a2, a3, a4, a5, a6, a7, a8, a9, a10⟩ := f.ex
  exact ⟨C, dx, fs, oe, vs, T, oT, ts, fl, a1, a2, a3, a4, a5, a6, a7, a8, a9, k _ a10⟩
def Fly (X : Cx) (H : Hp) (h : Heap) (ea : Addr) : Prop := FlyN H h ea \/ FlyT (fun fl => fl = .none \/ fl = rawInt X.env.locals) H h ea
structure Fr0 (X : Cx) (A : Around) : Prop where
  stk : X.stack = X.env :: X.outer
  frm : X.env.frame = some X.env.locals
  fms : A.frames = some X.stack
section
variable {X : Cx} {A : Around} {M : Model} {E : Value -> Shared -> Prop} {pins : List (Addr × Obj)} {σ : St} {H : Hp} {s : Shared} {ea : Addr}
theorem ZfE {h : Heap} {a : Addr} {o : Obj} {vs : Array Value} (f : Array Value -> Array Value) (e : h.get? a = some o) (d : o.data = .fields vs) : (h.update a (Obj.mapFields f)).get? a = some { o with data := .fields (f vs) } := by
  have q : Obj.mapFields f o = { o with data := .fields (f vs) } := by
    obtain ⟨c, di, da, sl⟩ := o
    cases d
    rfl
  rw [<- q]
  exact Heap.get?_update_self (Obj.mapFields f) e (Obj.isFreed_of_fields (vs := f vs) (by rw [q]))
theorem Inv.excSet {C : Addr} {dx : Option Addr} {fr fr' : Bool} {fs : List (Str × V)} {oe : Obj} {vs : Array Value} {f : Array Value -> Array Value} (I : Inv X pins σ H s) (e1 : H ea = some (.exc C dx fr fs)) (e2 : s.heap.get? ea = some oe) (e3 : oe.data = .fields vs) (z : (f vs).size = 6)
    (hf : fr' = true -> (f vs)[1]? = some .none) : Inv X pins σ (upd H ea (.exc C dx fr' fs)) { s with heap := s.heap.update ea (Obj.mapFields f) } := by
  have g := ZfE f e2 e3
  refine I.write (t' := s.toks) (x := ea) (e := ea) (by rw [e1]; trivial) (.inl rfl) (fun b u hb q => by rw [Heap.get?_update_other _ _ (Ne.symm hb)]; exact q) ⟨_, g⟩ ?_
  obtain ⟨l, ⟨o, vs', q1, q2, q3, q4, q5, q6⟩, r⟩ := (show Zaw X.prog X.w H s.heap ea (.exc C dx fr fs) from I.hok ea _ e1)
  rw [e2] at q1
  cases q1
  refine ⟨l, ⟨_, f vs, g, q2, q3, rfl, z, hf⟩, ?_⟩
  cases dx with
  | none => exact r
  | some d =>
    obtain ⟨r1, r2, mA, ⟨od, es, ep, e4, c⟩, r3⟩ := r
    refine ⟨by rw [ZC r2]; exact r1, r2, mA, ⟨od, es, ep, by rw [Heap.get?_update_other _ _ (Ne.symm r2)]; exact e4, c⟩, r3⟩
theorem ZmE {H : Hp} {a : Addr} {o : HO} (e : H a = some o) : upd H a o = H := by
  funext b
  unfold upd
  split
  . rename_i q; subst q; exact e.symm
  . rfl
theorem Inv.tbSet {T : Addr} {oT : Obj} {ts : Array Value} {f : Array Value -> Array Value} (I : Inv X pins σ H s) (e1 : H T = some (TB T)) (e2 : s.heap.get? T = some oT) (e3 : oT.data = .fields ts) (z : 3 < (f ts).size) :
    Inv X pins σ H { s with heap := s.heap.update T (Obj.mapFields f) } := by
  have g := ZfE f e2 e3
  have J : Inv X pins σ (upd H T (TB T)) { s with heap := s.heap.update T (Obj.mapFields f) } :=
    I.write (t' := s.toks) (x := T) (e := T) (by rw [e1]; exact trivial) (.inl rfl) (fun b u hb q => by rw [Heap.get?_update_other _ _ (Ne.symm hb)]; exact q) ⟨_, g⟩ (Zo9 g rfl z)
  rw [ZmE e1] at J
  exact J
theorem ZoA {C : Addr} {dx : Option Addr} {fr : Bool} {fs : List (Str × V)} {T : Addr} (e1 : H ea = some (.exc C dx fr fs)) (e2 : H T = some (TB T)) : T ≠ ea := fun q => by
  subst q
  rw [e1] at e2
  cases e2
theorem set6 {vs : Array Value} {v : Value} {i : Nat} : (vs.setIfInBounds i v).size = vs.size := Array.size_setIfInBounds
theorem Zkp {C : Addr} {dx : Option Addr} {fs : List (Str × V)} {oe : Obj} {vs : Array Value} {head : Value} {hadNext : Bool} (F : Fr0 X A) (I : Inv X pins σ H s) (e1 : H ea = some (.exc C dx false fs)) (e2 : s.heap.get? ea = some oe) (e3 : oe.data = .fields vs) (e4 : vs.size = 6) :
    wpAny M A (do
      let a <- frameOf X.env
      let pl <- entryPlaceOf X.env.locals hadNext
      let b <- EntryCells.newEntry head a Value.none (rawInt ↑X.env.locals) Value.none pl
      setField (Value.ref ea) 1 b) (fun _ s' => ∃ H', Inv X pins σ H' s' /\ Same H H' /\ FlyT (fun fl => fl = rawInt X.env.locals) H' s'.heap ea) E s := by
  have hfr : A.frames = some (X.env :: X.outer) := by rw [F.fms, F.stk]
  have hl : s.heap.FunFrames X.base (X.env :: X.outer) := by rw [<- F.stk]; exact I.stack
  refine wpAny_bind (wpAny_frameOf_fun hfr hl F.frm fun h₁ hs₁ => ?_)
  have hfs : List.filterMap (fun x => x.frame) (X.env :: X.outer) = frs X.stack := by rw [F.stk]; rfl
  rw [hfs] at hs₁
  obtain ⟨_, k1, k2⟩ := hs₁
  have nfr : ∀ b o, H b = some o -> b ∉ frs X.stack := fun b o e z => by rw [I.stkFree b z] at e; cases e
  have un : Un (frs X.stack) [] H H s.heap h₁ :=
    ⟨fun b o e n hb _ => by rw [k1 b hb]; exact e, fun b o e n hb _ => k2 b o e, fun b o e n _ => n, fun b o e _ => let ⟨sl, q⟩ := k2 b o e; ⟨_, q⟩, fun _ _ e => e, fun _ _ _ e => e, fun b ps e => ⟨#[], by rw [e]; simp⟩⟩
  have hok1 : HOk X.prog X.w H h₁ := fun a o e => (I.hok a o e).stay (fun b u hb q => by
    rw [k1 b]
    . exact q
    . rcases hb with z | z
      . rw [z]; exact nfr a o e
      . exact nfr b _ z) (fun _ q => q) fun _ _ q => q
  have I1 : Inv X pins σ H { s with heap := h₁ } := I.call (g' := s.gens) (d' := s.drawn) (t' := s.toks) un hok1 I.bare fun b z => absurd z (by simp)
  have e2' : h₁.get? ea = some oe := by rw [k1 ea (nfr ea _ e1)]; exact e2
  (refine wpAny_bind (wpAny_entryPlaceOf fun pl hpl => ?_))
  refine wpAny_bind ?_
  (unfold EntryCells.newEntry newFields)
  refine wpAny_newObj_type ?_ (IsPlace.sizeOk5 hpl _ _ _ _ _)
  have z4 : 3 < (([head, Value.ref X.env.locals, Value.none, rawInt ↑X.env.locals, Value.none] ++ if pl.isEmpty = true then List.replicate 6 Value.none else pl).toArray).size := by simp
  have hg := Heap.get?_push_size h₁ (o := { cls := Value.type "traceback", data := .fields ([head, Value.ref X.env.locals, Value.none, rawInt ↑X.env.locals, Value.none] ++ if pl.isEmpty = true then List.replicate 6 Value.none else pl).toArray }) rfl
  have I2 := I1.laid (a := h₁.objs.size) (o := TB h₁.objs.size) (t' := s.toks) (h' := h₁.push { cls := Value.type "traceback", data := .fields ([head, Value.ref X.env.locals, Value.none, rawInt ↑X.env.locals, Value.none] ++ if pl.isEmpty = true then List.replicate 6 Value.none else pl).toArray })
    (fun b u q => Heap.get?_push_of_some _ q) (Nat.le_refl _) (Zo9 hg rfl z4)
  have hn : H h₁.objs.size = none := I1.hok.fresh (Nat.le_refl _)
  have ne : ea ≠ h₁.objs.size := Zbf e1 hn
  have e1' : upd H h₁.objs.size (TB h₁.objs.size) ea = some (.exc C dx false fs) := by rw [ZC ne]; exact e1
  have e2'' := Heap.get?_push_of_some { cls := Value.type "traceback", data := .fields ([head, Value.ref X.env.locals, Value.none, rawInt ↑X.env.locals, Value.none] ++ if pl.isEmpty = true then List.replicate 6 Value.none else pl).toArray } e2'
  refine wpAny_setField e2'' e3 (by omega) ?_
  have I3 := Inv.excSet (fr' := false) (f := fun x => x.setIfInBounds 1 (Value.ref h₁.objs.size)) I2 e1' e2'' e3 (by rw [set6]; exact e4) (by simp)
  rw [ZmE e1'] at I3
  refine ⟨_, I3, fun b o q => by rw [ZC (Zbf q hn)]; exact q, ⟨C, dx, fs, _, _, h₁.objs.size, _, _, rawInt X.env.locals, e1', ZfE _ e2'' e3, rfl, by rw [set6]; exact e4, ?_, ZB, (Heap.get?_update_other _ _ ne).trans hg, rfl, ?_, rfl⟩⟩
  . rw [Array.getElem?_setIfInBounds]
    simp [e4]
  . simp
theorem Zjb (F : Fr0 X A) (I : Inv X pins σ H s) (f : Fly X H s.heap ea) :
    wpAny M A (noteFrame (.ref ea) X.env) (fun _ s' => ∃ H', Inv X pins σ H' s' /\ Same H H' /\ FlyT (fun fl => fl = rawInt X.env.locals) H' s'.heap ea) E s := by
  unfold noteFrame
  rw [F.frm]
  dsimp only
  rcases f with ⟨C, dx, fs, oe, vs, e1, e2, e3, e4, e5⟩ | ⟨C, dx, fs, oe, vs, T, oT, ts, fl, e1, e2, e3, e4, e5, e6, e7, e8, e9, e10⟩
  . refine wpAny_bind (wpAny_field e2 e3 e5 ?_)
    rw [if_neg (by decide)]
    exact Zkp F I e1 e2 e3 e4
  . refine wpAny_bind (wpAny_field e2 e3 e5 ?_)
    rw [if_pos (show (Value.ref T != Value.none) = true from rfl)]
    refine wpAny_bind (wpAny_field e7 e8 e9 ?_)
    have hz : 3 < ts.size := (Array.getElem?_eq_some_iff.mp e9).1
    rcases e10 with rfl | rfl
    . rw [if_neg (by simp [rawInt])]
      refine wpAny_bind (wpAny_setField e7 e8 hz ?_)
      have I1 := I.tbSet (f := fun x => x.setIfInBounds 3 Value.none) e6 e7 e8 (by rw [set6]; exact hz)
      refine Zkp F I1 e1 ?_ e3 e4
      show (Heap.update _ _ _).get? _ = _
      rw [Heap.get?_update_other _ _ (ZoA e1 e6)]
      exact e2
    . rw [if_pos (by simp)]
      exact wpAny_pure ⟨H, I, Same.refl _, C, dx, fs, oe, vs, T, oT, ts, _, e1, e2, e3, e4, e5, e6, e7, e8, e9, rfl⟩
theorem Zfo {φ : Value -> Prop} {o : Option Addr} (I : Inv X pins σ H s) (f : FlyT φ H s.heap ea) :
    wpAny M A (setFlight (.ref ea) o) (fun _ s' => Inv X pins σ H s' /\ FlyT (fun fl => fl = o.elim Value.none fun f => rawInt f) H s'.heap ea) E s := by
  obtain ⟨C, dx, fs, oe, vs, T, oT, ts, fl, e1, e2, e3, e4, e5, e6, e7, e8, e9, e10⟩ := f.ex
  unfold setFlight
  have hz : 3 < ts.size := (Array.getElem?_eq_some_iff.mp e9).1
  refine wpAny_bind (wpAny_field e2 e3 e5 ?_)
  rw [if_pos (show (Value.ref T != Value.none) = true from rfl)]
  refine wpAny_setField e7 e8 hz ?_
  have I1 := I.tbSet (f := fun x => x.setIfInBounds 3 (o.elim Value.none fun f => rawInt f)) e6 e7 e8 (by rw [set6]; exact hz)
  refine ⟨I1, C, dx, fs, oe, vs, T, _, _, _, e1, ?_, e3, e4, e5, e6, ZfE _ e7 e8, rfl, ?_, rfl⟩
  . show (Heap.update _ _ _).get? _ = _
    rw [Heap.get?_update_other _ _ (ZoA e1 e6)]
    exact e2
  . rw [Array.getElem?_setIfInBounds]
    simp [hz]
theorem Zn7 (F : Fr0 X A) (I : Inv X pins σ H s) (f : Fly X H s.heap ea) :
    wpAny M A (leaving X.env (.ref ea)) (fun _ s' => ∃ H', Inv X pins σ H' s' /\ Same H H' /\ FlyT (fun fl => fl = Value.none) H' s'.heap ea) E s := by
  unfold leaving
  refine wpAny_bind (thn (Zjb F I f) fun _ s1 ⟨H1, I1, k1, f1⟩ => ?_)
  exact thn (Zfo (o := none) I1 f1) fun _ s2 ⟨I2, f2⟩ => ⟨H1, I2, k1, f2⟩
structure EndX extends Ends where
  xc : Addr -> St -> Hp -> Prop
abbrev TX := EndX -> St -> Hp -> Prop
def XP (X : Cx) (pins : List (Addr × Obj)) (xc : Addr -> St -> Hp -> Prop) (e : Value) (s' : Shared) : Prop :=
  X.xe e s' \/ ∃ ea σ' H', e = .ref ea /\ Inv X pins σ' H' s' /\ Fly X H' s'.heap ea /\ ∀ H'', Same H' H'' -> xc ea σ' H''
def PX (X : Cx) (st : Stmt) (t : TX) : Prop :=
  ∀ (pins : List (Addr × Obj)) (s : Shared) (σ : St) (H : Hp) (D : EndX), Inv X pins σ H s -> t D σ H -> wpAny (model X.prog X.w) X.A (exec st X.env) (SP X pins D.toEnds) (XP X pins D.xc) s
def PXs (X : Cx) (st : List Stmt) (t : TX) : Prop :=
  ∀ (pins : List (Addr × Obj)) (s : Shared) (σ : St) (H : Hp) (D : EndX), Inv X pins σ H s -> t D σ H -> wpAny (model X.prog X.w) X.A (execs st X.env) (SP X pins D.toEnds) (XP X pins D.xc) s
theorem PX.imp {st : Stmt} {t u : TX} (h : PX X st t) (k : ∀ D σ H, u D σ H -> t D σ H) : PX X st u := fun pins s σ H D I w => h pins s σ H D I (k D σ H w)
theorem PXs.imp {st : List Stmt} {t u : TX} (h : PXs X st t) (k : ∀ D σ H, u D σ H -> t D σ H) : PXs X st u := fun pins s σ H D I w => h pins s σ H D I (k D σ H w)
theorem PS.x {st : Stmt} {t : TS} (h : PS X st t) : PX X st fun D => t D.toEnds := fun pins s σ H D I w => wpAny_mono (h pins s σ H D.toEnds I w) (fun _ _ q => q) fun _ _ q => .inl q
theorem ZqJ {P : Program} {w : World} {xc : Addr -> St -> Hp -> Prop} (F : Fr0 X A) (hx : ∀ e s, ¬ X.xe e s) : PassesOwn (model P w) A X.env (XP X pins xc) := fun e s' h => by
  rcases h with h | ⟨ea, σ', H', rfl, I, f, q⟩
  . exact absurd h (hx _ _)
  . refine wpAny_mono (Zjb F I f) (fun _ s1 ⟨H1, I1, k1, f1⟩ => ?_) fun _ _ z => z
    obtain ⟨C, dx, fs, oe, vs, T, oT, ts, fl, e1, e2, e3, e4, e5, e6, e7, e8, e9, e10⟩ := f1.ex
    show wpAny _ _ _ _ _ _
    refine wpAny_bind (wpAny_field e2 e3 e5 ?_)
    rw [if_neg (show ¬ (Value.ref T == Value.none) = true from Bool.false_ne_true)]
    refine thn (Zfo (o := X.env.frame) I1 f1) fun _ s2 ⟨I2, f2⟩ => .inr ⟨ea, σ', H1, rfl, I2, .inr (f2.mono fun v hv => .inr ?_), fun H2 k2 => q H2 (k1.trans k2)⟩
    rw [hv, F.frm]
    rfl
end
end L2
namespace L2
open PySem PySem.Spec PyProof.Rows
section
variable {X : Cx} {A : Around} {pins : List (Addr × Obj)} {σ : St} {H : Hp} {s : Shared} {pos : Pos}
theorem thnx {α : Type} {t : Sem α} {Q Q' : α -> Shared -> Prop} {M : Model} {A : Around} {xc : Addr -> St -> Hp -> Prop} {s : Shared} (h : wpAny M A t Q X.xe s) (hQ : ∀ a s, Q a s -> Q' a s) : wpAny M A t Q' (XP X pins xc) s := wpAny_mono h hQ fun _ _ x => .inl x
def ZsD (t u : TX) : TX := fun D σ H => t { D with nx := u D } σ H
theorem Zpe : PXs X [] fun D σ H => D.nx σ H := fun _ _ σ H _ I h => wpAny_execs_nil ⟨σ, H, I, h⟩
theorem Zn8 {st : Stmt} {rest : List Stmt} {t u : TX} (h1 : PX X st t) (h2 : PXs X rest u) : PXs X (st :: rest) (ZsD t u) := by
  intro pins s σ H D I h
  refine wpAny_execs_cons (thn (h1 pins s σ H { D with nx := u D } I h) fun f s1 q => ?_)
  cases f with
  | next =>
    obtain ⟨σ', H', I', q⟩ := q
    exact h2 pins s1 σ' H' D I' q
  | ret v => exact q
  | brk => exact q
  | cont => exact q
def tIfX (c : TT) (t u : TX) : TX := fun D σ H => c σ H fun b H1 => if b = true then t D σ H1 else u D σ H1
theorem ZsE {c : Expr} {a b : List Stmt} {tc : TT} {t u : TX} (hc : PT X c tc) (ha : PXs X a t) (hb : PXs X b u) : PX X (.If c a b pos) (tIfX tc t u) := by
  intro pins s σ H D I h
  refine wpAny_If (thnx (hc pins s σ H _ I h) fun d s1 ⟨H1, I1, q1⟩ => ?_)
  cases d with
  | true => exact ha pins s1 σ H1 D I1 q1
  | false => exact hb pins s1 σ H1 D I1 q1
theorem XP.unpinned {pl : List (Addr × Obj)} {xc : Addr -> St -> Hp -> Prop} {e : Value} (h : XP X (pins ++ pl) xc e s) : XP X pins xc e s := by
  rcases h with h | ⟨ea, σ', H', e, I, f, q⟩
  . exact .inl h
  . exact .inr ⟨ea, σ', H', e, I.unpinned, f, q⟩
def ZsF (wi : TI) (g : TG) (tb : TX) : TX := fun D σ H => wi σ H fun J H1 => ∃ W : Nat -> Nat -> St -> Hp -> Prop, (∃ m, W 0 m σ H1) /\ ∀ i m σ H, W i m σ H ->
  (J.stop i H /\ D.nx σ H) \/ (J.go i H /\ ∃ N : St -> Hp -> Prop, (∀ σ' H', N σ' H' -> ∃ m', m' < m /\ W (i + 1) m' σ' H') /\ ∀ x H', J.yld i H x H' -> g x σ H' fun σ2 H2 => tb { D with nx := N, ct := N, bk := D.nx } σ2 H2)
theorem ZqK {tg iter : Expr} {body : List Stmt} {wi : TI} {g : TG} {tb : TX} (F : Fr0 X X.A) (hx : ∀ e s, ¬ X.xe e s) (hc : X.calm = true) (hi : PI X tg iter wi) (hg : PG X tg g) (hb : PXs X body tb)
    (hs : ∀ x, foldedSetIterable iter X.env x = pure x := by intro _; rfl) : PX X (.For tg iter body [] pos) (ZsF wi g tb) := by
  intro pins s σ H D I h
  have hp : PassesOwn (model X.prog X.w) X.A X.env (XP X pins D.xc) := ZqJ F hx
  refine wpAny_For (thnx (hi pins s σ H _ I h) fun v s1 h1 => thnx h1 fun itv s2 h2 => ?_) hs
  obtain ⟨it, fp, tn, J, H2, e, I2, T, st2, f2, W, ⟨m0, w0⟩, turn⟩ := h2
  subst e
  have stat : ∀ {H' : Hp}, (∀ b ∈ fp, H' b = none) -> ∀ b ∈ fp, FpOk X pins H' b := fun hn b hb => ⟨hn b hb, (f2 b hb).2⟩
  refine codeAny_forLoop_any (fun n s' => ∃ i σ' H', Inv X pins σ' H' s' /\ tn i s'.heap /\ (∀ b ∈ fp, H' b = none) /\ W i n σ' H') ?_ m0 ⟨0, σ, H2, I2, st2, fun b hb => (f2 b hb).1, w0⟩
  rintro n s3 ⟨i, σ3, H3, I3, st3, fr3, w3⟩
  rcases turn i n σ3 H3 w3 with ⟨stop, qn⟩ | ⟨go, N, hN, step⟩
  . refine wpAny_passesOwn hp (thnx (T.done X rfl rfl rfl hc i pins s3 σ3 H3 X.xe I3 (stat fr3) st3 stop) fun r s4 ⟨hr, I4⟩ => ?_)
    subst hr
    exact wpAny_execs_nil ⟨σ3, H3, I4, qn⟩
  . refine wpAny_passesOwn hp (thnx (T.item X rfl rfl rfl hc i pins s3 σ3 H3 X.xe I3 (stat fr3) st3 go) fun r s4 ⟨u, hr, h4⟩ => ?_)
    subst hr
    refine wpAny_passesOwn hp (thnx h4 fun _ s5 ⟨x, H5, I5, r5, y5, st5, fr5⟩ => ?_)
    have I5' := I5.pinned (stat fr5) (T.obj _ _ st5)
    refine wpAny_passesOwn hp (thnx (hg _ s5 σ3 H5 x u _ I5' r5 (step x H5 y5)) fun _ s6 ⟨σ6, H6, I6, q6⟩ => ?_)
    refine wpAny_passesOwn hp (wpAny_mono (hb _ s6 σ6 H6 { D with nx := N, ct := N, bk := D.nx } I6 q6) (fun f s7 q7 => ?_) fun _ _ z => z.unpinned)
    have again : ∀ {σ7 : St} {H7 : Hp}, Inv X (pins ++ Zg5 fp s5.heap) σ7 H7 s7 -> N σ7 H7 -> ∃ m, m < n /\ ∃ i σ' H', Inv X pins σ' H' s7 /\ tn i s7.heap /\ (∀ b ∈ fp, H' b = none) /\ W i m σ' H' := fun {σ7 H7} I7 n7 => by
      obtain ⟨m', hm, w7⟩ := hN σ7 H7 n7
      refine ⟨m', hm, i + 1, σ7, H7, I7.unpinned, T.keep _ _ _ st5 fun b hb o e => (I7.pin (b, o) (List.mem_append_right _ (List.mem_append_right _ (Zdk hb e)))).1, fun b hb => ?_, w7⟩
      obtain ⟨o, e, d⟩ := T.obj _ _ st5 b hb
      exact (I7.pin (b, o) (List.mem_append_right _ (List.mem_append_right _ (Zdk hb e)))).2.1
    cases f with
    | next => obtain ⟨σ7, H7, I7, n7⟩ := q7; exact again I7 n7
    | cont => obtain ⟨σ7, H7, I7, n7⟩ := q7; exact again I7 n7
    | brk => obtain ⟨σ7, H7, I7, q7⟩ := q7; exact ⟨σ7, H7, I7.unpinned, q7⟩
    | ret v => obtain ⟨x7, σ7, H7, I7, r7, q7⟩ := q7; exact ⟨x7, σ7, H7, I7.unpinned, r7, q7⟩
noncomputable def CXx (P : Program) (w : World) : CXT := fun outer H s E e s' => ∃ ea H', e = .ref ea /\ s'.os = s.os /\ AllBare s'.gens /\ Un (frs outer) [] H H' s.heap s'.heap /\ HOk P w H' s'.heap /\ FlyT (fun fl => fl = Value.none) H' s'.heap ea /\
  ∀ H'', Same H' H'' -> E (.ref ea) none H''
theorem ZqL {P : Program} {w : World} {K : Fg} {mg : Str -> Option Value} {base : Heap} {k : Nat} {f : Addr} {name qual : Str} {params : Arguments} {body : List Stmt} {scope : Scope} {dV kV doc pm cdv ct oc : Value} {an od : Option Addr}
    {osl : Array (Option Value)} {N ps : List Str} {sp : Sp} (lk : K.lookup f = some ⟨oc, od, .func (PySem.W.fnOf name qual params body scope dV kV doc pm an cdv ct), osl⟩) (hcd : PySem.W.codeIn K cdv qual = true) (S : FnScope N ps scope)
    (len : ∀ vs H Q E, sp vs H Q E -> vs.length = ps.length)
    (hbody : ∀ (A : Around) (outer : List Env) (s : Shared) (H : Hp) (vs : List V) (Q : VK) (E : XK), Room k (A.deeper (envOfC qual scope s.heap.objs.size f cdv)) -> sp vs H Q E ->
      ∃ t, (A.frames = some outer -> PXs (cxOf CX0 P w K mg base N qual scope f cdv A outer s H E).nox body t) /\ t { nx := fun _ H' => Q .non H', rt := Q, xc := fun ea _ H' => E (.ref ea) none H' } (start N vs) H) :
    FnOk P w K mg base (CXx P w) (k + 1) f (PySem.W.fnOf name qual params body scope dV kV doc pm an cdv ct) ps sp := by
  refine ⟨len, fun A outer s H args us vs Q E hr e0 hb r hsp => ?_⟩
  have hl := len _ _ _ _ hsp
  have KX : K.In s.heap := e0.mod.kin.keeps fun b o e => (e0.bs b o e).1
  have lim : s.heap.NoLimit := e0.mod.nolimit.keeps fun b o e => (e0.bs b o e).1
  have hkind : ∀ y ∈ ps.zip us, scope.names.lookup y.1 = some .local \/ (scope.names.lookup y.1 = some .cell /\ ((cellsFrom (s.heap.objs.size + 1) scope.names []).lookup y.1).isSome = true) := fun ⟨n, v⟩ hy => by
    rcases S.par n (List.of_mem_zip hy).1 with q | q
    . exact .inl q
    . exact .inr ⟨q, PySem.W.cellsFrom_some _ _ _ (.inl q)⟩
  refine codeAny_call_function hr.depth (KX _ _ lk) rfl S.co S.gen rfl (PySem.W.codeRec_of KX hcd) (hb _ _ _ _ ?_)
  refine wpAny_newFunctionEnv_cells S.kind hkind fun env he s1 x => ?_
  subst he
  refine ⟨lim.keeps x.toInCall.keep, codeAny_func ?_⟩
  obtain ⟨t, ht, hq⟩ := hbody A outer s H vs Q E (hr.deeper _) hsp
  have I : Inv (cxOf CX0 P w K mg base N qual scope f cdv A outer s H E) [] (start N vs) H s1 := Zj7 S hr.hd e0 hl r x
  refine wpAny_mono (ht e0.frames [] s1 (start N vs) H _ (I.wish _) hq) (fun fl s' hs => ?_) fun e s' hs => ?_
  . have fin : ∀ {σ' : St} {H' : Hp} {v : V} {u : Value}, Inv (cxOf CX0 P w K mg base N qual scope f cdv A outer s H E).nox [] σ' H' s' -> RelV v u -> Q v H' -> CE outer P w H s Q u s' :=
      fun {σ' H' v u} J rv q => ⟨v, H', J.os, J.bare, J.base, J.hok, rv, q⟩
    cases fl with
    | ret u =>
      obtain ⟨v, σ', H', J, rv, q⟩ := hs
      exact fin J rv q
    | next =>
      obtain ⟨σ', H', J, q⟩ := hs
      exact fin (v := V.non) (u := Value.none) J rfl q
    | brk =>
      obtain ⟨_, _, _, q⟩ := hs
      exact False.elim q
    | cont =>
      obtain ⟨_, _, _, q⟩ := hs
      exact False.elim q
  . rcases hs with hs | ⟨ea, σ', H', rfl, J, fl, q⟩
    . exact False.elim hs
    . have F : Fr0 (cxOf CX0 P w K mg base N qual scope f cdv A outer s H E).nox (A.deeper (envOfC qual scope s.heap.objs.size f cdv)) := ⟨rfl, rfl, Around.frames_deeper e0.frames⟩
      refine wpAny_mono (Zn7 (M := model P w) (E := fun _ _ => False) F J fl) (fun _ s2 ⟨H2, J2, k2, f2⟩ => ?_) fun _ _ z => z.elim
      exact ⟨ea, H2, rfl, J2.os, J2.bare, J2.base, J2.hok, f2, fun H'' k3 => q H'' (k2.trans k3)⟩
def EXP (X : Cx) (pins : List (Addr × Obj)) (σ : St) (Ex : Addr -> Hp -> Prop) (e : Value) (s' : Shared) : Prop :=
  X.xe e s' \/ ∃ ea H', e = .ref ea /\ Inv X pins σ H' s' /\ Fly X H' s'.heap ea /\ ∀ H'', Same H' H'' -> Ex ea H''
abbrev TEX := St -> Hp -> VK -> (Addr -> Hp -> Prop) -> Prop
def PEx (X : Cx) (e : Expr) (t : TEX) : Prop :=
  ∀ (pins : List (Addr × Obj)) (s : Shared) (σ : St) (H : Hp) (Q : VK) (Ex : Addr -> Hp -> Prop), Inv X pins σ H s -> t σ H Q Ex -> wpAny (model X.prog X.w) X.A (eval e X.env) (EP X pins σ Q) (EXP X pins σ Ex) s
theorem PEx.imp {e : Expr} {t u : TEX} (h : PEx X e t) (k : ∀ σ H Q Ex, u σ H Q Ex -> t σ H Q Ex) : PEx X e u := fun pins s σ H Q Ex I w => h pins s σ H Q Ex I (k σ H Q Ex w)
theorem thne {α : Type} {t : Sem α} {Q Q' : α -> Shared -> Prop} {M : Model} {A : Around} {Ex : Addr -> Hp -> Prop} {s : Shared} (h : wpAny M A t Q X.xe s) (hQ : ∀ a s, Q a s -> Q' a s) : wpAny M A t Q' (EXP X pins σ Ex) s := wpAny_mono h hQ fun _ _ x => .inl x
theorem EXP.xp {Ex : Addr -> Hp -> Prop} {e : Value} {xc : Addr -> St -> Hp -> Prop} (h : EXP X pins σ Ex e s) (k : ∀ ea H', Ex ea H' -> xc ea σ H') : XP X pins xc e s := by
  rcases h with h | ⟨ea, H', e, I, f, q⟩
  . exact .inl h
  . exact .inr ⟨ea, σ, H', e, I, f, fun H'' z => k ea H'' (q H'' z)⟩
theorem Zpf {k : Nat} {f : Addr} {fd : FuncData} {ps : List Str} {sp : Sp} {dvs : List V} {ds : List Value} {Q : VK} {Ex : Addr -> Hp -> Prop} {us : List Value} {vs : List V} (F : FnOk X.prog X.w X.K X.mg X.base (CXx X.prog X.w) k f fd ps sp) (hr : Room k X.A) (hb : Binds X.K fd ps ds) (hd : Vals dvs ds)
    (I : Inv X pins σ H s) (r : Vals vs us) (h : sp (vs ++ dvs) H Q (fun v _ H' => ∃ ea, v = .ref ea /\ Ex ea H')) : wpAny (model X.prog X.w) X.A (call (.ref f) us) (EP X pins σ Q) (EXP X pins σ Ex) s := by
  have r2 : Vals (vs ++ dvs) (us ++ ds) := r.append hd
  have hl : (us ++ ds).length = ps.length := by rw [<- r2.length]; exact F.len _ _ _ _ h
  refine wpAny_call (codeAny_mono (F.run X.A X.stack s H ⟨us, []⟩ (us ++ ds) (vs ++ dvs) Q _ hr I.env0 (hb s us I.kIn hl) r2 h) fun r s' hq => ?_)
  cases r with
  | error e =>
    obtain ⟨ea, H', rfl, os, bare, un, hok, fl, q⟩ := hq
    refine .inr ⟨ea, H', rfl, I.call' (ch := []) os un hok bare fun b z => absurd z (by simp), .inr (fl.mono fun v z => .inl z), fun H'' z => ?_⟩
    obtain ⟨ea', e, q⟩ := q H'' z
    cases e
    exact q
  | ok fl =>
    cases fl with
    | ret u => exact I.after hq
    | next => exact False.elim hq
    | brk => exact False.elim hq
    | cont => exact False.elim hq
noncomputable def ZqM (sp : Sp) (dvs : List V) (t : TA) : TEX := fun σ H Q Ex => t σ H fun vs H1 => sp (vs ++ dvs) H1 Q (fun v _ H' => ∃ ea, v = .ref ea /\ Ex ea H')
theorem Zn9 {k : Nat} {f : Addr} {fd : FuncData} {ps : List Str} {sp : Sp} {dvs : List V} {ds : List Value} {x : Str} {p : Pos} {e : Expr} {es : List Expr} {t : TA} (F : FnOk X.prog X.w X.K X.mg X.base (CXx X.prog X.w) k f fd ps sp) (hr : Room k X.A) (hg : Gl X x) (hm : X.mg x = some (.ref f)) (hk : PySem.W.keepIn X.K (.ref f) = true) (hb : Binds X.K fd ps ds) (hd : Vals dvs ds)
    (ha : PA X (e :: es) t) (hdb : (x == ("__debug__" : Str)) = false := by decide) (he : starEach (e :: es) X.env = (false, eval e X.env) :: starEach es X.env := by rfl) (hpl : (backTo pos (starEach es X.env)).any (·.1) = false := by rfl) :
    PEx X (.Call (.Name x p) (e :: es) [] pos) (ZqM sp dvs t) := by
  intro pins s σ H Q Ex I h
  refine wpAny_Call_Name_kw (Zh7 I hg hm ?_ hdb)
  refine PySem.W.callWith_K (h₀ := X.base) I.ok.mod.kin hk (thne (ha pos pins s σ H _ I h) fun us s1 ⟨vs, H1, I1, r, q⟩ => ⟨I1.kIn, ?_⟩) he hpl
  exact Zpf F hr hb hd I1 r q
theorem ZqN {e : Expr} {te : TEX} (he : PEx X e te) : PX X (.Return (some e) pos) fun D σ H => te σ H D.rt (fun ea H1 => D.xc ea σ H1) := by
  intro pins s σ H D I h
  exact wpAny_Return_some (wpAny_mono (he pins s σ H _ _ I h) (fun v s1 ⟨x, H1, I1, r1, q1⟩ => ⟨x, σ, H1, I1, r1, q1⟩) fun _ _ z => z.xp fun _ _ q => q)
theorem ZqO {i : Nat} {x : Str} {e : Expr} {te : TEX} {pos' : Pos} (hN : X.N.Nodup) (hi : X.N[i]? = some x) (hx : Loc X.env.scope x) (he : PEx X e te) (hs : swapsWith e (some (.Name x pos')) pos.line X.env = pure false := by rfl) (hf : X.fn x = true \/ X.env.scope.names.lookup x = some .local := by first | exact .inl rfl | exact .inr rfl | assumption) :
    PX X (.Assign [.Name x pos'] e pos) fun D σ H => te σ H (fun v H1 => D.nx (σ.set i (some v)) H1) (fun ea H1 => D.xc ea σ H1) := by
  intro pins s σ H D I h
  refine wpAny_Assign_Name (wpAny_mono (he pins s σ H _ _ I h) (fun v s1 ⟨y, H1, I1, r1, q1⟩ => ?_) fun _ _ z => z.xp fun _ _ q => q) hs
  exact ZeW I1 hN hi hx r1 (fun s2 I2 => ⟨_, H1, I2, q1⟩) hf
end
end L2
namespace L2
open PySem PySem.Spec PyProof.Rows
noncomputable def bmV : List Value := [.type "ValueError", .type "Exception", .type "BaseException", .type "object"]
noncomputable def ZaK : List Value -> Bool
  | .ref _ :: l => ZaK l
  | l => l == bmV
theorem Zhf {v : Value} (hv : bmV.contains v = true) : ∀ {l : List Value}, ZaK l = true -> l.contains v = true
  | [], h => by unfold ZaK at h; exact absurd h (by decide)
  | x :: l, h => by
    cases x with
    | ref a =>
      rw [List.contains_cons, Zhf (l := l) hv h, Bool.or_true]
    | _ => rw [beq_iff_eq.mp (show (_ :: l == bmV) = true from h)]; exact hv
structure XC (K : Fg) (C : Addr) : Prop where
  obj : ∃ (nm q : Str) (N : Addr) (bs bm : List Value) (sn : List Str) (sub : List Value) (ab : Bool) (col : Option Bool) (dd : Option Addr) (k0 k1 k2 k3 k5 : Option Value),
    K.lookup C = some (excClassObj nm q C N bs bm true sn sub ab col dd k0 k1 k2 k3 k5 "ValueError.__new__") /\ PySem.W.tailIn K bmV bm = true /\ ZaK bm = true
  sa : PySem.W.findIn K (.ref C) (Str.ofString "__setattr__") = some (some (.builtin "object.__setattr__"))
  ga : PySem.W.findIn K (.ref C) (Str.ofString "__getattribute__") = some (some (.builtin "BaseException.__getattribute__"))
  kp : PySem.W.keepIn K (.ref C) = true
section
variable {prog : Program} {w : World} {A : Around} {E : Value -> Shared -> Prop} {K : Fg} {C f x : Addr} {h : Heap} {g : Array GenState} {d : Drawn} {t : Nat} {os : OsState} {rest : List Value}
noncomputable abbrev Zb4 (C t : Addr) : Obj := { cls := .ref C, data := .fields #[.ref t, .none, .none, .none, .bool false, .none] }
noncomputable abbrev Zbc (vs : List Value) : Obj := { cls := .type "tuple", data := .seq vs.toArray }
theorem ZlP {e : Addr} {oe : Obj} {vs : Array Value} {Q : Value -> Shared -> Prop} (X : XC K C) (hK : K.In h) (he : h.get? e = some oe) (hc : oe.cls = .ref C) (hd : oe.data = .fields vs) (hz : vs.size = 6) (hr : rest.length <= sizeLine)
    (hq : Q .none ⟨(h.push (Zbc rest)).update e (Obj.mapFields fun x => x.setIfInBounds 0 (.ref h.objs.size)), g, d, t, os⟩) :
    wpAny (model prog w) A (call (.builtin "ValueError.__init__") (.ref e :: rest)) Q E ⟨h, g, d, t, os⟩ := by
  obtain ⟨nm, q, N, bs, bm, sn, sub, ab, col, dd, k0, k1, k2, k3, k5, lk, tl, tv⟩ := X.obj
  have hC : h.get? C = some (excClassObj nm q C N bs bm true sn sub ab col dd k0 k1 k2 k3 k5 "ValueError.__new__") := hK _ _ lk
  have T : OwnTail h bmV bm := PySem.W.tail_of_in hK tl
  have F := F.excBase_ValueError
  have he' := Heap.get?_push_of_some (Zbc rest) he
  refine wpAny_call (codeAny_call_builtin F.init.plain F.initEntry (wpAny_check_init_subU F T hC he hc ?_))
  (unfold Builtin.«BaseException.__init__»)
  refine wpAny_ite_false rfl (wpAny_bind (wpAny_newTuple ?_ hr))
  refine wpAny_bind ?_
  unfold Builtin.BaseException.bexcPut
  obtain ⟨v0, h0⟩ : ∃ v0, vs[0]? = some v0 := ⟨_, Array.getElem?_eq_getElem (by omega)⟩
  refine wpAny_bind (wpAny_field he' hd h0 (wpAny_bind (wpAny_setField he' hd (by omega) ?_)))
  cases v0 <;> first
    | exact wpAny_letGo (wpAny_pure hq)
    | exact wpAny_pure (wpAny_pure hq)
theorem ZmF {Q : Value -> Shared -> Prop} (X : XC K C) (hK : K.In h) (hi : PySem.W.findIn K (.ref C) (Str.ofString "__init__") = some (some (.builtin "ValueError.__init__"))) (hr : rest.length <= sizeLine)
    (hq : Q (.ref (h.objs.size + 1)) ⟨(((h.push (Zbc rest)).push (Zb4 C h.objs.size)).push (Zbc rest)).update (h.objs.size + 1) (Obj.mapFields fun x => x.setIfInBounds 0 (.ref (h.objs.size + 2))), g, d, t, os⟩) : wpAny (model prog w) A (call (.ref C) rest) Q E ⟨h, g, d, t, os⟩ := by
  obtain ⟨nm, q, N, bs, bm, sn, sub, ab, col, dd, k0, k1, k2, k3, k5, lk, tl, tv⟩ := X.obj
  have hC : h.get? C = some (excClassObj nm q C N bs bm true sn sub ab col dd k0 k1 k2 k3 k5 "ValueError.__new__") := hK _ _ lk
  have T : OwnTail h bmV bm := PySem.W.tail_of_in hK tl
  have f1 := tc_lookup
  have f2 := tc_bind (.ref C)
  have hT : Shared.TypeIs ⟨h, g, d, t, os⟩ (.ref C) "type" := ⟨_, hC, rfl⟩
  (refine wpAny_call (codeAny_of_tree ?_))
  refine wpAny_bind (wpAny_load' hC ?_)
  refine wpAny_bind (wpAny_specialOf hT f1 (wpAny_bind (wpAny_of_eq f2 (wpAny_bind (wpAny_pure (wpAny_ite_true rfl (wpAny_pure ⟨rfl, ?_⟩)))))))
  refine codeAny_call_builtin_at (Code.quiet_builtin _ (by decide +kernel)) entry_typeCall (wpAny_check_type_call_sub hC ?_)
  show wpAny _ _ (Builtin.«type.__call__» ⟨Value.ref C :: rest, []⟩) _ _ _
  (unfold Builtin.«type.__call__»)
  refine wpAny_ite_false rfl ?_
  refine wpAny_bind (wpAny_bind (wpAny_bind (wpAny_load' hC (wpAny_pure (wpAny_pure (wpAny_ite_false rfl (wpAny_bind (wpAny_madeBy_exc hC (wpAny_bind (wpAny_pure (wpAny_bind (wpAny_holding (wpAny_call ?_)))))))))))))
  have F := F.excBase_ValueError
  have hB : bmV.contains (Value.type "ValueError") = true := by decide +kernel
  refine codeAny_call_builtin_code (Code.quiet_builtin _ F.quiet) (wpAny_check_new_subU F hB T hC (codeAny_exc_new_subU F hB F T hC ?_ hr))
  have kk : ∀ b o, h.get? b = some o -> ((h.push (Zbc rest)).push (Zb4 C h.objs.size)).get? b = some o := fun b o e => Heap.get?_push_of_some _ (Heap.get?_push_of_some _ e)
  have hC₁ := kk _ _ hC
  have hget : ((h.push (Zbc rest)).push (Zb4 C h.objs.size)).get? (h.objs.size + 1) = some (Zb4 C h.objs.size) := Heap.get?_push_at (by simp) rfl
  have J : PySem.W.InstAt ((h.push (Zbc rest)).push (Zb4 C h.objs.size)) (h.objs.size + 1) (Zb4 C h.objs.size) C none := ⟨hget, rfl, rfl, trivial⟩
  show wpAny _ _ _ _ _ _
  refine wpAny_bind (wpAny_bind (wpAny_bind (wpAny_loadPart_at hget (wpAny_pure (wpAny_isSubtype_exc hC₁ ?_)))))
  rw [show (Value.ref C :: bm).contains (Value.ref C) = true by simp]
  refine wpAny_ite_false rfl (wpAny_bind (wpAny_holding ?_))
  refine wpAny_bind (wpAny_bind (PySem.W.Looks.here J.type (PySem.W.Looks.here (PySem.W.looks_findIn (hK.keeps kk) hi) (wpAny_holding (wpAny_bind (wpAny_of_eq (F.init.bind _) (wpAny_bind ?_)))))))
  refine ZlP (vs := #[.ref h.objs.size, .none, .none, .none, .bool false, .none]) X (hK.keeps kk) hget rfl rfl rfl hr ?_
  refine wpAny_pure (wpAny_ite_false rfl (wpAny_pure ?_))
  have z : ((h.push (Zbc rest)).push (Zb4 C h.objs.size)).objs.size = h.objs.size + 2 := by simp
  rw [z]
  exact hq
theorem ZmG {M : Model} {s : Shared} {env : Env} {y : Sem Value} {Q : Flow -> Shared -> Prop} (hh : A.handled = none)
    (hx : wpAny M A y (fun v s₁ => ∃ (K : Fg) (C e : Addr) (oe : Obj) (vs : Array Value), XC K C /\ K.In s₁.heap /\ v = .ref e /\ s₁.heap.get? e = some oe /\ oe.cls = .ref C /\ oe.data = .fields vs /\ vs[1]? = some .none /\ E (.ref e) s₁) E s) :
    wpAny M A (raiseStmt env (some y) none) Q E s := by
  unfold raiseStmt
  refine wpAny_bind (thn hx fun v s₁ ⟨K, C, e, oe, vs, X, hK, hv, he, hc, hd, h1, q⟩ => ?_)
  subst hv
  obtain ⟨nm, q', N, bs, bm, sn, sub, ab, col, dd, k0, k1, k2, k3, k5, lk, tl, tv⟩ := X.obj
  have hC := hK _ _ lk
  have hbe : (Value.ref C :: bm).contains (.type "BaseException") = true := by rw [List.contains_cons, Zhf (by decide +kernel) tv, Bool.or_true]
  (obtain ⟨hp, g, d, tk, os⟩ := s₁)
  obtain ⟨oc, odx, oda, osl⟩ := oe
  have hc : oc = .ref C := hc
  have hd : oda = .fields vs := hd
  subst hc hd
  refine wpAny_bind (wpAny_pure (wpAny_bind (wpAny_holding ?_)))
  unfold excFromValue
  refine wpAny_bind ?_
  unfold isExcClass
  refine wpAny_bind ?_
  refine wpAny_bind (wpAny_loadPart_at he (wpAny_pure (wpAny_ite_false rfl (wpAny_pure (wpAny_ite_false rfl (wpAny_bind ?_))))))
  refine wpAny_bind (wpAny_bind (wpAny_loadPart_at he (wpAny_pure (wpAny_isSubtype_exc hC ?_))))
  rw [hbe]
  refine wpAny_ite_true rfl (wpAny_pure (wpAny_bind (wpAny_bind (wpAny_loadPart_at he (wpAny_pure (wpAny_ite_false rfl (wpAny_bind ?_)))))))
  unfold raisedInstance
  refine wpAny_bind (wpAny_bind (wpAny_loadPart_at he (wpAny_pure (wpAny_bind (wpAny_bind (wpAny_loadPart_at hC (wpAny_pure ?_)))))))
  refine wpAny_ite_true rfl (wpAny_pure (wpAny_bind ?_))
  unfold setFlight
  refine wpAny_bind (wpAny_field he rfl h1 (wpAny_ite_false rfl (wpAny_pure ?_)))
  exact wpAny_raiseNew_none hh q
end
end L2
namespace L2
open PySem PySem.Spec PyProof.Rows
section
variable {prog : Program} {w : World} {A : Around} {E : Value -> Shared -> Prop} {K : Fg} {C f a : Addr} {h : Heap} {g : Array GenState} {d : Drawn} {t : Nat} {os : OsState} {rest : List Value} {oe : Obj} {od : Option Obj} {name : Str} {v : Value}
theorem Zl3 : bmV.contains (.type "BaseException") = true := by decide +kernel
theorem ZqP : bmV.contains (.type "object") = true := by decide +kernel
theorem ZnA : builtinKind "BaseException.__getattribute__" = some Manifest.AttrKind.slot := by decide +kernel
theorem ZmH : splitId "BaseException.__getattribute__" = some ("BaseException", "__getattribute__") := by decide +kernel
theorem ZmI {M : Model} {s : Shared} {nv : Value} {Q : Unit -> Shared -> Prop} (sub : PySem.W.Looks M s.heap (isInstance (.ref a) (.type "BaseException")) true) (hq : Q () s) : wpAny M A (checkBuiltinCall "BaseException.__getattribute__" ⟨[.ref a, nv], []⟩) Q E s :=
  (@PySem.W.check_slot M A E s "BaseException.__getattribute__" "BaseException" "__getattribute__" (.ref a) [nv] [] Q ZnA ZmH sub) (F.args_bexc_ga (.ref a) nv) hq
theorem XC.cls (X : XC K C) : ∃ cd bm, PySem.W.clsIn K C = some cd /\ cd.mro = .ref C :: bm /\ ZaK bm = true /\ cd.hasDict = true := by
  obtain ⟨nm, q, N, bs, bm, sn, sub, ab, col, dd, k0, k1, k2, k3, k5, lk, tl, tv⟩ := X.obj
  exact ⟨_, bm, by unfold PySem.W.clsIn; rw [lk], rfl, tv, rfl⟩
theorem XC.sub (X : XC K C) {n : String} (hn : bmV.contains (.type n) = true) : PySem.W.mroIn K C (.type n) = some true := by
  obtain ⟨cd, bm, h1, h2, h3, _⟩ := X.cls
  unfold PySem.W.mroIn
  rw [h1]
  show (if cd.mro.isEmpty = true then none else some (cd.mro.contains (.type n))) = _
  rw [h2, if_neg (by simp), List.contains_cons, Zhf hn h3, Bool.or_true]
theorem ZqQ {tk : Tok} {R : Result -> Shared -> Prop} (X : XC K C) (hK : K.In h) (J : PySem.W.InstAt h a oe C od) (ha : PySem.W.findIn K (.ref C) "__class__" = some (some (.builtin "object.__class__")))
    (hn : PySem.W.specialIn K (.builtin "object.__class__") "__get__" = some (some (.builtin "getset_descriptor.__get__"))) (htk : PySem.W.takesIn K (.builtin "object.__class__") = some true) (hr : R (.ok (.ret (.ref C))) ⟨h, g, d, t, os⟩) :
    codeAny (model prog w) A (.call (.builtin "BaseException.__getattribute__") ⟨[.ref a, .str (Str.ofString "__class__") tk], []⟩) R ⟨h, g, d, t, os⟩ := by
  have FA := F.attrBase_ValueError
  obtain ⟨cd, bm, h1, h2, h3, _⟩ := X.cls
  have hf : PySem.W.findObj K C od "__class__" = some (.bind (.builtin "getset_descriptor.__get__") (.builtin "object.__class__")) := by
    unfold PySem.W.findObj
    rw [h1, ha]
    simp only [Option.bind_some]
    rw [hn]
    simp only [Option.bind_some]
    rw [htk]
    rfl
  have sub : PySem.W.Looks (model prog w) h (isInstance (.ref a) (.type "BaseException")) true := PySem.W.Looks.andThen J.type (PySem.W.looks_mroIn hK (X.sub Zl3))
  refine codeAny_call_builtin FA.ga.plain F.entry_bexc_ga ?_
  refine ZmI sub ?_
  (unfold Builtin.«object.__getattribute__»)
  refine wpAny_bind (wpAny_of_eq (a := (Value.ref a, [Value.str (Str.ofString "__class__") tk])) rfl ?_)
  refine wpAny_bind (wpAny_pure (wpAny_bind (PySem.W.Looks.at J.type (wpAny_bind (PySem.W.Looks.at (PySem.W.looks_find hK J hf) ?_)))))
  exact wpAny_bind (wpAny_holding (wpAny_call (PySem.W.class_get hK J (X.sub ZqP) (wpAny_pure hr))))
theorem ZsG {tk : Tok} {fill expr : Bool} {Q : Value -> Shared -> Prop} (X : XC K C) (hK : K.In h) (J : PySem.W.InstAt h a oe C od) (hg : PySem.W.findIn K (.ref C) (Str.ofString "__getattr__") = some none) (hv : PySem.W.handedIn v = true)
    (hr : ∀ R : Result -> Shared -> Prop, R (.ok (.ret v)) ⟨h, g, d, t, os⟩ -> codeAny (model prog w) A (.call (.builtin "BaseException.__getattribute__") ⟨[.ref a, .str name tk], []⟩) R ⟨h, g, d, t, os⟩) (hq : Q v ⟨h, g, d, t, os⟩) :
    wpAny (model prog w) A (getAttrBy (.ref a) (.str name tk) fill expr) Q E ⟨h, g, d, t, os⟩ := by
  have FA := F.attrBase_ValueError
  (have hx0 : (expr && onTheHeap (Value.builtin "BaseException.__getattribute__")) = false := by cases expr <;> rfl)
  unfold getAttrBy
  refine wpAny_holding (wpAny_bind (PySem.W.Looks.at J.type (wpAny_bind (PySem.W.Looks.at (PySem.W.looks_findIn hK X.ga) (wpAny_ite_false (by show decide ((true && (Value.builtin "BaseException.__getattribute__" == Value.builtin "object.__getattribute__")) = true) = false; decide +kernel) ?_)))))
  unfold getAttrByItsOwn
  refine wpAny_bind (?_ : wpAny _ _ (hookBefore _) _ _ _)
  unfold hookBefore
  refine wpAny_ite_true rfl (PySem.W.Looks.at (PySem.W.looks_findIn hK hg) (wpAny_bind (wpAny_attempt (wpAny_holding ?_))))
  unfold callGetattribute
  rw [hx0]
  refine wpAny_ite_false rfl ?_
  unfold boundAndCalled
  refine wpAny_bind (wpAny_of_eq (FA.ga.bind _) (wpAny_call (hr _ ?_)))
  exact PySem.W.handed_on hv hq
theorem ZnB {Q : Option Value -> Shared -> Prop} {s : Shared} (X : XC K C) (hK : K.In s.heap) (J : PySem.W.InstAt s.heap a oe C od) (hg : PySem.W.findIn K (.ref C) (Str.ofString "__getattr__") = some none) (ha : PySem.W.findIn K (.ref C) "__class__" = some (some (.builtin "object.__class__")))
    (hn : PySem.W.specialIn K (.builtin "object.__class__") "__get__" = some (some (.builtin "getset_descriptor.__get__"))) (htk : PySem.W.takesIn K (.builtin "object.__class__") = some true) (hq : Q (some (.ref C)) { s with toks := s.toks + 1 }) :
    wpAny (model prog w) A (getAttr? (.ref a) (Str.ofString "__class__")) Q E s := by
  obtain ⟨h, g, d, t, os⟩ := s
  unfold getAttr?
  (refine wpAny_bind (wpAny_mkText ?_))
  unfold getAttrBy?
  exact wpAny_bind (wpAny_attempt (ZsG (v := .ref C) X hK J hg rfl (fun R hr => ZqQ X hK J ha hn htk hr) (wpAny_pure hq)))
structure XD (K : Fg) (C : Addr) : Prop extends XC K C where
  hk : PySem.W.findIn K (.ref C) (Str.ofString "__getattr__") = some none
  hc : PySem.W.findIn K (.ref C) "__class__" = some (some (.builtin "object.__class__"))
  hn : PySem.W.specialIn K (.builtin "object.__class__") "__get__" = some (some (.builtin "getset_descriptor.__get__"))
  ht : PySem.W.takesIn K (.builtin "object.__class__") = some true
theorem ZnC (X : XD K C) : PySem.W.KitX K (.ref a) (.ref C) fun h => PySem.W.InstAt h a oe C od where
  ty := fun M h hK J => J.type
  it := fun M h hK J => by
    obtain ⟨nm, q, N, bs, bm, sn, sub, ab, col, dd, k0, k1, k2, k3, k5, lk, tl, tv⟩ := X.obj
    exact fun A Q E s k hq => wpAny_bind (wpAny_loadPart (k _ _ (hK _ _ lk)) (wpAny_pure hq))
  ne := fun h tp dd its n sl hK e => by
    obtain ⟨nm, q, N, bs, bm, sn, sub, ab, col, dd, k0, k1, k2, k3, k5, lk, tl, tv⟩ := X.obj
    refine Bool.eq_false_iff.mpr fun z => ?_
    have := Value.ref.inj (beq_iff_eq.mp z)
    subst this
    have := congrArg (fun o => match o with | some (Obj.mk _ _ (.cls _) _) => true | _ => false) ((hK _ _ lk).symm.trans e)
    exact absurd this (by simp)
  ca := fun hK J hq => ZnB X.toXC hK J X.hk X.hc X.hn X.ht hq
end
end L2
namespace L2
open PySem PySem.Spec PyProof.Rows
def GX (K : Fg) (n : Str) (C : Addr) : Prop := PySem.W.nsIn K mainGlobals n = some (some (.ref C)) /\ (PySem.W.clsIn K C).map (·.name) = some n
def bmOf (K : Fg) : List Str -> List Value -> Prop
  | [], bm => bm = bmV
  | n :: ns, bm => ∃ L bm', bm = .ref L :: bm' /\ GX K n L /\ bmOf K ns bm'
noncomputable def Zh8 : List Str := ["row", "number", "length", "numbers"]
structure XN (K : Fg) (ns : List Str) (C : Addr) : Prop extends XD K C where
  nms : ∃ cd, PySem.W.clsIn K C = some cd /\ bmOf K ns cd.mro
  nof : ∀ f ∈ Zh8, ZqB K C f
theorem GX.ne {K : Fg} {n c : Str} {C D : Addr} (h : GX K n C) (h' : GX K c D) : (Value.ref D == Value.ref C) = decide (c = n) := by
  by_cases e : c = n
  . subst e
    have := h.1.symm.trans h'.1
    cases this
    simp
  . rw [decide_eq_false e]
    refine Bool.eq_false_iff.mpr fun z => e ?_
    have z := Value.ref.inj (beq_iff_eq.mp z)
    subst z
    have := h'.2.symm.trans h.2
    exact Option.some.inj this
theorem bmOf.has {K : Fg} {c : Str} {D : Addr} (h' : GX K c D) : ∀ {ns : List Str} {bm : List Value}, bmOf K ns bm -> bm.contains (.ref D) = decide (c ∈ ns)
  | [], bm, h => by
    rw [show bm = bmV from h]
    rfl
  | n :: ns, bm, h => by
    obtain ⟨L, bm', rfl, g, r⟩ := h
    rw [List.contains_cons, bmOf.has h' r, GX.ne g h']
    by_cases e : c = n
    . simp [e]
    . simp [e]
theorem XN.isa {K : Fg} {ns : List Str} {c : Str} {C D : Addr} (h : XN K ns C) (h' : GX K c D) (ht : PySem.W.typeIn K (.ref D) = some (.type "type")) : PySem.W.kitOne K (.ref C) (.ref D) = some (decide (c ∈ ns)) := by
  obtain ⟨cd, h1, h2⟩ := h.nms
  obtain ⟨cd', bm, q1, q2, q3, _⟩ := h.toXC.cls
  rw [h1] at q1
  cases q1
  have hm : PySem.W.mroIn K C (.ref D) = some (decide (c ∈ ns)) := by
    unfold PySem.W.mroIn
    rw [h1]
    show (if cd.mro.isEmpty = true then none else some (cd.mro.contains (.ref D))) = _
    rw [if_neg (by rw [q2]; simp), bmOf.has h' h2]
  unfold PySem.W.kitOne
  have hs : (PySem.W.clsIn K D).isSome = true := by
    cases e : PySem.W.clsIn K D with
    | none => have := h'.2; rw [e] at this; cases this
    | some x => rfl
  split
  . rename_i e
    have := Value.ref.inj (beq_iff_eq.mp e)
    subst this
    have : cd.mro.contains (.ref C) = true := by rw [q2]; simp
    rw [bmOf.has h' h2] at this
    rw [this]
  . unfold PySem.W.kitCls
    dsimp only
    rw [if_pos (by rw [hs, ht]; simp)]
    exact hm
theorem XN.isaB {K : Fg} {ns : List Str} {n : String} {C : Addr} (h : XN K ns C) (hb : bmV.contains (.type n) = true) (hm : PySem.W.kitMeta n = true) : PySem.W.kitOne K (.ref C) (.type n) = some true := by
  unfold PySem.W.kitOne
  rw [if_neg (by simp)]
  unfold PySem.W.kitCls
  dsimp only
  rw [if_pos hm]
  exact h.toXC.sub hb
section
variable {X : Cx} {pins : List (Addr × Obj)} {σ : St} {H : Hp} {s : Shared} {a C : Addr} {dx : Option Addr} {fr : Bool} {fs : List (Str × V)} {f : Str} {v : V} {A : Around} {E : Value -> Shared -> Prop}
theorem Zjc (I : Inv X pins σ H s) (e : H a = some (.exc C dx fr fs)) : ∃ (oe : Obj) (vs : Array Value) (od : Option Obj), s.heap.get? a = some oe /\ oe.cls = .ref C /\ oe.dict = dx /\ oe.data = .fields vs /\ vs.size = 6 /\ (fr = true -> vs[1]? = some .none) /\ PySem.W.InstAt s.heap a oe C od /\
    ∃ mA : Str -> Option Value, (∀ f, RelO (fs.lookup f) (mA f)) /\ PySem.Within mA (fs.map (·.1)) /\ (∀ name, (match od with | some o => PySem.W.lookIn name o | none => some none) = some (mA name)) /\
      ∀ d, dx = some d -> H d = some (.own a) /\ d ≠ a /\ s.heap.Ns1 d mA := by
  obtain ⟨l, ⟨oe, vs, e1, e2, e3, e4, e5, e6⟩, r⟩ := (show Zaw X.prog X.w H s.heap a (.exc C dx fr fs) from I.hok a _ e)
  have nc : PySem.W.notCls oe = true := by unfold PySem.W.notCls; rw [e4]
  cases dx with
  | none =>
    have r : fs = [] := r
    subst r
    exact ⟨oe, vs, none, e1, e2, e3, e4, e5, e6, ⟨e1, e2, nc, by rw [e3]; trivial⟩, fun _ => none, fun _ => trivial, fun y h => absurd rfl h, fun _ => rfl, fun d h => nomatch h⟩
  | some d =>
    obtain ⟨r1, r2, mA, r3, r4, r5⟩ := r
    obtain ⟨od, ho, hl⟩ := Zj2 r3
    exact ⟨oe, vs, some od, e1, e2, e3, e4, e5, e6, ⟨e1, e2, nc, by rw [e3]; exact ho⟩, mA, r4, r5, hl, fun d' h => by cases h; exact ⟨r1, r2, r3⟩⟩
theorem ZlQ {c : Value} {b : Bool} {Q : Value -> Shared -> Prop} (I : Inv X pins σ H s) (e : H a = some (.exc C dx fr fs)) (x : XD X.K C) (k : PySem.W.kitOne X.K (.ref C) c = some b) (h : ∀ tk, Q (.bool b) { s with toks := tk }) :
    wpAny (model X.prog X.w) A (call (.builtin "isinstance") [.ref a, c]) Q E s := by
  obtain ⟨oe, vs, od, e1, e2, e3, e4, e5, e6, J, _⟩ := Zjc I e
  exact PySem.W.kia_one (ZnC x) I.kIn J k (fun z => nomatch z) h
end
end L2
namespace L2
open PySem PySem.Spec PyProof.Rows
section
variable {X : Cx} {pins : List (Addr × Obj)} {σ : St} {H : Hp} {s : Shared} {a C f : Addr} {k : Nat} {fd : FuncData} {ps : List Str} {sp : Sp} {x : Str} {p pos apos : Pos} {e o : Expr} {es : List Expr} {t : TA}
theorem Inv.madeX {us : List Value} (I : Inv X pins σ H s) : Inv X pins σ (upd H (s.heap.objs.size + 1) (.exc C none true [])) { s with heap := (s.heap.push (Zbc us)).push (Zb4 C s.heap.objs.size) } := by
  have I1 : Inv X pins σ H { s with heap := s.heap.push (Zbc us) } := I.kept (t' := s.toks) fun b u e => Heap.get?_push_of_some _ e
  have hget : ((s.heap.push (Zbc us)).push (Zb4 C s.heap.objs.size)).get? (s.heap.objs.size + 1) = some (Zb4 C s.heap.objs.size) := Heap.get?_push_at (by simp) rfl
  exact I1.laid (a := s.heap.objs.size + 1) (o := .exc C none true []) (t' := s.toks) (h' := (s.heap.push (Zbc us)).push (Zb4 C s.heap.objs.size)) (fun b u e => Heap.get?_push_of_some _ e) (by simp) ⟨by simp, ⟨_, _, hget, rfl, rfl, rfl, rfl, fun _ => rfl⟩, rfl⟩
theorem Zpg (M : XC X.K C) (hi : PySem.W.findIn X.K (.ref C) (Str.ofString "__init__") = some (some (.builtin "ValueError.__init__"))) (hg : Gl X x) (hm : X.mg x = some (.ref C)) (hdb : (x == ("__debug__" : Str)) = false := by decide) :
    PE X (.Call (.Name x p) [] [] pos) (fun σ H Q => ∀ a, H a = none -> Q (.ref a) (upd H a (.exc C none true []))) := by
  intro pins s σ H Q I h
  refine wpAny_Call_Name_kw (Zh7 I hg hm ?_ hdb)
  refine PySem.W.callWith_K0 I.kIn M.kp ?_
  refine ZmF (h := s.heap) (g := s.gens) (d := s.drawn) (t := s.toks) (os := s.os) M I.kIn hi (by simp) ?_
  have I2 := Inv.madeX (C := C) (us := []) I
  have I3 : Inv X pins σ (upd H (s.heap.objs.size + 1) (.exc C none true [])) { s with heap := ((s.heap.push (Zbc [])).push (Zb4 C s.heap.objs.size)).push (Zbc []) } := I2.kept (t' := s.toks) fun b u e => Heap.get?_push_of_some _ e
  have hget : (((s.heap.push (Zbc [])).push (Zb4 C s.heap.objs.size)).push (Zbc [])).get? (s.heap.objs.size + 1) = some (Zb4 C s.heap.objs.size) := Heap.get?_push_of_some _ (Heap.get?_push_at (by simp) rfl)
  have I4 := I3.excSet (fr' := true) (f := fun x => x.setIfInBounds 0 (.ref (s.heap.objs.size + 2))) ZB hget rfl rfl (fun _ => rfl)
  rw [Zlt] at I4
  exact ⟨.ref (s.heap.objs.size + 1), _, I4, rfl, h _ (I.hok.fresh (Nat.le_succ _))⟩
theorem ZnD {te : TE} (hc : X.calm = true) (he : PE X e te) : PX X (.Raise (some e) none pos) fun D σ H => te σ H fun v H1 => ∃ a C dx fs, v = .ref a /\ XC X.K C /\ H1 a = some (.exc C dx true fs) /\ ∀ H'', Same (upd H1 a (.exc C dx false fs)) H'' -> D.xc a σ H'' := by
  intro pins s σ H D I h
  rw [arm_exec_Raise]
  refine wpAny_bind (wpAny_standAt (ZmG (I.ok.hd hc) (wpAny_bind (thnx (he pins s σ H _ I h) fun u s1 ⟨v, H1, I1, r1, a, C, dx, fs, ev, M, ea, q⟩ => wpAny_bind (wpAny_standAt (wpAny_pure ?_))))))
  subst ev
  obtain rfl : u = Value.ref a := r1
  obtain ⟨oe, ws, od, e1, e2, e3, e4, e5, e6, J, mA, r2, r3, r4, r5⟩ := Zjc I1 ea
  have I2 : Inv X pins σ (upd H1 a (.exc C dx false fs)) s1 := by
    have := I1.write (t' := s1.toks) (x := a) (e := a) (o := .exc C dx false fs) (h' := s1.heap) (by rw [ea]; exact True.intro) (.inl rfl) (fun _ _ _ z => z) ⟨_, e1⟩ (by
      obtain ⟨l, ⟨o, vs', q1, q2, q3, q4, q5, q6⟩, r⟩ := (show Zaw X.prog X.w H1 s1.heap a (.exc C dx true fs) from I1.hok a _ ea)
      refine ⟨l, ⟨o, vs', q1, q2, q3, q4, q5, fun z => nomatch z⟩, ?_⟩
      cases dx with
      | none => exact r
      | some d => obtain ⟨t1, t2, t3⟩ := r; exact ⟨by rw [ZC t2]; exact t1, t2, t3⟩)
    exact this
  exact ⟨X.K, C, a, oe, ws, M, I1.kIn, rfl, e1, e2, e4, e6 rfl, .inr ⟨a, σ, _, rfl, I2, .inl ⟨C, dx, fs, oe, ws, ZB, e1, e4, e5, e6 rfl⟩, q⟩⟩
end
end L2
namespace L2
open PySem PySem.Spec PyProof.Rows
section
variable {X : Cx} {pins : List (Addr × Obj)} {σ : St} {H : Hp} {s : Shared} {A : Around} {M : Model} {E : Value -> Shared -> Prop} {i : Nat} {x : Str}
theorem Zgq {v : V} {pos : Pos} {Q : Unit -> Shared -> Prop} (I : Inv X pins σ H s) (hN : X.N.Nodup) (hi : X.N[i]? = some x) (hx : X.env.scope.names.lookup x = some .local)
    (h : ∀ s', Inv X pins (σ.set i none) H s' -> Q () s') : wpAny M A (do bindName X.env x Value.none; unbindBehindTheSuite X.env x pos) Q E s := by
  have hcls : (X.env.scope.kind == .class || (X.env.scope.kind == .module && X.env.locals != X.env.globals)) = false := by rw [I.ok.kind]; rfl
  refine wpAny_bind (wpAny_bindName (ZeW (v := V.non) I hN hi (.inl hx) rfl (fun s1 I1 => ?_) (.inr hx)))
  have hiσ : i < σ.length := by rw [I.len]; exact (List.getElem?_eq_some_iff.mp hi).1
  obtain ⟨m, hn, hl⟩ := id I1.loc
  obtain ⟨u, hu, lk⟩ := hl i x V.non hi (by rw [List.getElem?_set_self hiσ]) (.inl hx)
  have hm : m x = some u := by
    rcases lk with ⟨_, e⟩ | ⟨k, _⟩
    . exact e
    . rcases k with k | k
      . have : some NameKind.local = some NameKind.cell := hx.symm.trans k
        cases this
      . have : some NameKind.local = some NameKind.free := hx.symm.trans k
        cases this
  unfold unbindBehindTheSuite
  refine wpAny_onRaise (wpAny_unbindName_local hx hn hm hcls fun h' u' hn' hs => h _ ?_)
  have tracked : HOk X.prog X.w H h' := fun b ob e => by
    obtain ⟨oL, _, _, hoL, _⟩ := id hn
    refine (I1.hok b ob e).stay (fun c w' hc q => (hs.2 c ?_).trans q) (fun _ q => q) fun _ _ q => q
    rintro rfl
    rcases hc with rfl | hc
    . rw [I1.free] at e; cases e
    . rw [I1.free] at hc; cases hc
  refine ⟨I1.ok, I1.os, I1.bare, ⟨fun b o e n hb hx => ?_, fun b o e n hb hx => ?_, I1.base.free, fun b o e hx => ?_, I1.base.tups, I1.base.frzs, I1.base.tbls⟩, ⟨_, hn', fun j y v' e1 e2 e3 => ?_⟩, fun y c e => ?_, I1.free, I1.freeC, fun p hp => ?_, tracked, by simpa using I.len⟩
  . exact (hs.2 b (Nat.ne_of_lt (Nat.lt_of_lt_of_le (Heap.lt_size e) I1.ok.above))).trans (I1.base.keep b o e n hb hx)
  . obtain ⟨sl, e1⟩ := I1.base.slot b o e n hb hx
    exact ⟨sl, (hs.2 b (Nat.ne_of_lt (Nat.lt_of_lt_of_le (Heap.lt_size e) I1.ok.above))).trans e1⟩
  . obtain ⟨o', e1⟩ := I1.base.there b o e hx
    exact ⟨o', (hs.2 b (Nat.ne_of_lt (Nat.lt_of_lt_of_le (Heap.lt_size e) I1.ok.above))).trans e1⟩
  . by_cases hj : j = i
    . subst hj
      rw [List.getElem?_set_self hiσ] at e2
      cases e2
    . rw [List.getElem?_set_ne (Ne.symm hj)] at e2
      obtain ⟨u', r', q⟩ := hl j y v' e1 (by rw [List.getElem?_set_ne (Ne.symm hj)]; exact e2) e3
      refine ⟨u', r', ?_⟩
      rcases q with ⟨k, e⟩ | ⟨k, c, e, z⟩
      . refine .inl ⟨k, ?_⟩
        have : y ≠ x := fun e => hj (Zif hN e1 (e ▸ hi))
        simp [this, e]
      . exact .inr ⟨k, c, e, z.sameBut hs (I1.cne y c e)⟩
  . obtain ⟨w', z⟩ := I1.cell y c e
    exact ⟨w', z.sameBut hs (I1.cne y c e)⟩
  . obtain ⟨e, n, ne, nf, d⟩ := I1.pin p hp
    exact ⟨(hs.2 p.1 ne).trans e, n, ne, nf, d⟩
theorem ZlR {K : Fg} {ns : List Str} {c : Str} {C D ea : Addr} {oe : Obj} {od : Option Obj} {Q : Bool -> Shared -> Prop} (h : XN K ns C) (h' : XC K D) (g : GX K c D) (hK : K.In s.heap) (J : PySem.W.InstAt s.heap ea oe C od) (hq : Q (decide (c ∈ ns)) s) : wpAny M A (excMatches (.ref ea) (.ref D)) Q E s := by
  obtain ⟨nm, q, N, bs, bm, sn, sub, ab, col, dd, k0, k1, k2, k3, k5, lk, tl, tv⟩ := h'.obj
  have hD := hK _ _ lk
  obtain ⟨cd, h1, h2⟩ := h.nms
  obtain ⟨cd', bm', q1, q2, q3, _⟩ := h.toXC.cls
  rw [h1] at q1
  cases q1
  have hm : PySem.W.mroIn K C (.ref D) = some (decide (c ∈ ns)) := by
    unfold PySem.W.mroIn
    rw [h1]
    show (if cd.mro.isEmpty = true then none else some (cd.mro.contains (.ref D))) = _
    rw [if_neg (by rw [q2]; simp), bmOf.has g h2]
  (obtain ⟨hp, gg, d, tk, os⟩ := s)
  unfold excMatches
  refine wpAny_bind (wpAny_bind (wpAny_bind (wpAny_loadPart_at hD (wpAny_pure (wpAny_of_eq tc_notTuple ?_)))))
  refine wpAny_ite_false rfl (wpAny_bind (wpAny_pure (wpAny_bind ?_)))
  (simp only [List.forIn_cons, List.forIn_nil])
  (refine wpAny_bind (wpAny_bind ?_))
  unfold isExcClass
  refine wpAny_bind (wpAny_bind (wpAny_loadPart_at hD (wpAny_pure (wpAny_ite_true rfl (PySem.W.Looks.at (PySem.W.looks_mroIn hK (h'.sub Zl3)) ?_)))))
  refine wpAny_ite_false rfl (wpAny_pure (wpAny_pure (wpAny_bind (PySem.W.Looks.at J.type (wpAny_bind (wpAny_bind (wpAny_bind (PySem.W.Looks.at (PySem.W.looks_mroIn hK hm) ?_))))))))
  cases e : decide (c ∈ ns) with
  | true => rw [e] at hq; exact wpAny_ite_true rfl (wpAny_pure (wpAny_pure (wpAny_pure hq)))
  | false => rw [e] at hq; exact wpAny_ite_false rfl (wpAny_pure (wpAny_pure (wpAny_pure hq)))
noncomputable abbrev Cx.inH (X : Cx) (v : Value) : Cx := { X with A := X.A.mark (some v), calm := false, xe := fun _ _ => False }
theorem Inv.inH (I : Inv X pins σ H s) (v : Value) : Inv (X.inH v) pins σ H s := ⟨⟨I.ok.mod, I.ok.kind, I.ok.glob, I.ok.blt, I.ok.above, I.ok.inj, I.ok.has, I.ok.cab, (fun z => Bool.noConfusion z), I.ok.frames, I.ok.stk, I.ok.exf, I.ok.bs, I.ok.bsz, I.ok.noex, I.ok.exfs, I.ok.funs, I.ok.frf⟩, I.os, I.bare, I.base, I.loc, I.cell, I.free, I.freeC, I.pin, I.hok, I.len⟩
theorem Inv.outH {v : Value} (I : Inv (X.inH v) pins σ H s) (hh : X.calm = true -> X.A.handled = none) : Inv X pins σ H s := ⟨⟨I.ok.mod, I.ok.kind, I.ok.glob, I.ok.blt, I.ok.above, I.ok.inj, I.ok.has, I.ok.cab, hh, I.ok.frames, I.ok.stk, I.ok.exf, I.ok.bs, I.ok.bsz, I.ok.noex, I.ok.exfs, I.ok.funs, I.ok.frf⟩, I.os, I.bare, I.base, I.loc, I.cell, I.free, I.freeC, I.pin, I.hok, I.len⟩
structure HS where
  c : Str
  nm : Option Nat
  ts : TS
noncomputable def HS.ends (h : HS) (D : Ends) : Ends := match h.nm with
  | none => D
  | some i => { nx := fun σ H => D.nx (σ.set i none) H, rt := D.rt, bk := fun σ H => D.bk (σ.set i none) H, ct := fun σ H => D.ct (σ.set i none) H }
noncomputable def HS.put (h : HS) (ea : Addr) (σ : St) : St := match h.nm with
  | none => σ
  | some i => σ.set i (some (.ref ea))
inductive PH (X : Cx) : ExceptHandler -> HS -> Prop
  | plain {c : Str} {D : Addr} {b₀ : Stmt} {body : List Stmt} {pos np : Pos} {ts : TS} (hg : Gl X c) (hm : X.mg c = some (.ref D)) (xc : XC X.K D) (gx : GX X.K c D) (hdb : (c == ("__debug__" : Str)) = false) (hs : ∀ v, PSs (X.inH v) (b₀ :: body) ts) :
      PH X (.ExceptHandler (some (.Name c np)) none (b₀ :: body) pos) ⟨c, none, ts⟩
  | as_ {c n : Str} {D : Addr} {i : Nat} {b₀ : Stmt} {body : List Stmt} {pos np : Pos} {ts : TS} (hg : Gl X c) (hm : X.mg c = some (.ref D)) (xc : XC X.K D) (gx : GX X.K c D) (hdb : (c == ("__debug__" : Str)) = false) (hN : X.N.Nodup) (hi : X.N[i]? = some n) (hl : X.env.scope.names.lookup n = some .local) (hs : ∀ v, PSs (X.inH v) (b₀ :: body) ts) :
      PH X (.ExceptHandler (some (.Name c np)) (some n) (b₀ :: body) pos) ⟨c, some i, ts⟩
inductive PHs (X : Cx) : List ExceptHandler -> List HS -> Prop
  | nil : PHs X [] []
  | cons {h : ExceptHandler} {hs : List ExceptHandler} {g : HS} {gs : List HS} : PH X h g -> PHs X hs gs -> PHs X (h :: hs) (g :: gs)
def Zgr (ns : List Str) (D : Ends) (ea : Addr) (σ : St) (H : Hp) : List HS -> Prop
  | [] => False
  | h :: hs => if h.c ∈ ns then h.ts (h.ends D) (h.put ea σ) H else Zgr ns D ea σ H hs
theorem SP.inH {v : Value} {D : Ends} {f : Flow} {s' : Shared} (hh : X.calm = true -> X.A.handled = none) (h : SP (X.inH v) pins D f s') : SP X pins D f s' := by
  cases f with
  | next => obtain ⟨σ', H', I, q⟩ := h; exact ⟨σ', H', I.outH hh, q⟩
  | brk => obtain ⟨σ', H', I, q⟩ := h; exact ⟨σ', H', I.outH hh, q⟩
  | cont => obtain ⟨σ', H', I, q⟩ := h; exact ⟨σ', H', I.outH hh, q⟩
  | ret u => obtain ⟨v, σ', H', I, r, q⟩ := h; exact ⟨v, σ', H', I.outH hh, r, q⟩
theorem ZjA {ns : List Str} {C ea : Addr} {dx : Option Addr} {fs : List (Str × V)} {c : Str} {D' : Addr} {np pos : Pos} {R : Result -> Shared -> Prop} (XNh : XN X.K ns C) (I : Inv X pins σ H s) (e : H ea = some (.exc C dx false fs)) (hg : Gl X c) (hm : X.mg c = some (.ref D')) (xc : XC X.K D') (gx : GX X.K c D') (hdb : (c == ("__debug__" : Str)) = false)
    (hR : R (.ok (if decide (c ∈ ns) = true then Flow.brk else Flow.next)) s) : codeAny (model X.prog X.w) (X.A.mark (some (.ref ea))) (.handlers (.ref ea) [.ExceptHandler (some (.Name c np)) none [] pos] X.env) R s := by
  obtain ⟨oe, vs, od, e1, e2, e3, e4, e5, e6, J, _⟩ := Zjc I e
  exact codeAny_handlers_test (Calls.Name_function_global I.ok.kind hg (Calls.loadGlobal_global (by rw [I.ok.glob]; exact I.mod.glob.keeps I.bk) hm (ZlR XNh xc gx I.kIn J hR)) hdb)
theorem ZgU {a : Addr} : Value.ref a ≠ byPass := fun z => by cases z
theorem ZlS {ns : List Str} {C ea : Addr} {dx : Option Addr} {fs : List (Str × V)} {D : Ends} {c : Str} {D' : Addr} {b₀ : Stmt} {body : List Stmt} {pos np : Pos} {ts : TS} {rest : List ExceptHandler} (XNh : XN X.K ns C) (I : Inv X pins σ H s) (e : H ea = some (.exc C dx false fs)) (f : FlyT (fun fl => fl = Value.none) H s.heap ea)
    (hg : Gl X c) (hm : X.mg c = some (.ref D')) (xc : XC X.K D') (gx : GX X.K c D') (hdb : (c == ("__debug__" : Str)) = false) (hs : ∀ v, PSs (X.inH v) (b₀ :: body) ts) (h1 : c ∈ ns -> ts D σ H) (h2 : c ∉ ns -> wpAny (model X.prog X.w) X.A (handleBy (.ref ea) X.env rest) (SP X pins D) E s) :
    wpAny (model X.prog X.w) X.A (handleBy (.ref ea) X.env (.ExceptHandler (some (.Name c np)) none (b₀ :: body) pos :: rest)) (SP X pins D) E s := by
  refine wpAny_handleBy_cons (ZjA XNh I e hg hm xc gx hdb ?_) ZgU
  by_cases z : c ∈ ns
  . rw [decide_eq_true z, if_pos rfl]
    refine codeAny_handlers_suite (thn (Zfo (o := none) I f) fun _ s1 ⟨I1, f1⟩ => ?_)
    exact wpAny_mono (hs (.ref ea) pins s1 σ H D (I1.inH _) (h1 z)) (fun fl s2 q => q.inH I.ok.hd) fun _ _ z => z.elim
  . rw [decide_eq_false z, if_neg Bool.false_ne_true]
    exact h2 z
theorem Zph {ns : List Str} {C ea : Addr} {dx : Option Addr} {fs : List (Str × V)} {D : Ends} {c n : Str} {D' : Addr} {b₀ : Stmt} {body : List Stmt} {pos np : Pos} {ts : TS} {rest : List ExceptHandler} (XNh : XN X.K ns C) (I : Inv X pins σ H s) (e : H ea = some (.exc C dx false fs)) (f : FlyT (fun fl => fl = Value.none) H s.heap ea)
    (hg : Gl X c) (hm : X.mg c = some (.ref D')) (xc : XC X.K D') (gx : GX X.K c D') (hdb : (c == ("__debug__" : Str)) = false) (hN : X.N.Nodup) (hi : X.N[i]? = some n) (hl : X.env.scope.names.lookup n = some .local) (hs : ∀ v, PSs (X.inH v) (b₀ :: body) ts)
    (h1 : c ∈ ns -> ts { nx := fun σ H => D.nx (σ.set i none) H, rt := D.rt, bk := fun σ H => D.bk (σ.set i none) H, ct := fun σ H => D.ct (σ.set i none) H } (σ.set i (some (.ref ea))) H) (h2 : c ∉ ns -> wpAny (model X.prog X.w) X.A (handleBy (.ref ea) X.env rest) (SP X pins D) E s) :
    wpAny (model X.prog X.w) X.A (handleBy (.ref ea) X.env (.ExceptHandler (some (.Name c np)) (some n) (b₀ :: body) pos :: rest)) (SP X pins D) E s := by
  refine wpAny_handleBy_cons (ZjA XNh I e hg hm xc gx hdb ?_) ZgU
  by_cases z : c ∈ ns
  . rw [decide_eq_true z, if_pos rfl]
    refine codeAny_handlers_suite_as (thn (Zfo (o := none) I f) fun _ s1 ⟨I1, f1⟩ => ?_)
    refine ZeW (v := .ref ea) I1 hN hi (.inl hl) rfl (fun s2 I2 => ?_) (.inr hl)
    refine wpAny_mono (hs (.ref ea) pins s2 _ H _ (I2.inH _) (h1 z)) (fun fl s3 q => ?_) fun _ _ z => z.elim
    cases fl with
    | next => obtain ⟨σ', H', I3, q⟩ := q; exact Zgq (v := .non) (I3.outH I.ok.hd) hN hi hl fun s4 I4 => ⟨_, _, I4, q⟩
    | brk => obtain ⟨σ', H', I3, q⟩ := q; exact Zgq (v := .non) (I3.outH I.ok.hd) hN hi hl fun s4 I4 => ⟨_, _, I4, q⟩
    | cont => obtain ⟨σ', H', I3, q⟩ := q; exact Zgq (v := .non) (I3.outH I.ok.hd) hN hi hl fun s4 I4 => ⟨_, _, I4, q⟩
    | ret u => obtain ⟨v, σ', H', I3, r, q⟩ := q; exact Zgq (v := .non) (I3.outH I.ok.hd) hN hi hl fun s4 I4 => ⟨v, _, _, I4, r, q⟩
  . rw [decide_eq_false z, if_neg Bool.false_ne_true]
    exact h2 z
theorem Zpi {ns : List Str} {C ea : Addr} {dx : Option Addr} {fs : List (Str × V)} {D : Ends} (XNh : XN X.K ns C) {hs : List ExceptHandler} {gs : List HS} (hh : PHs X hs gs) (I : Inv X pins σ H s) (e : H ea = some (.exc C dx false fs)) (f : FlyT (fun fl => fl = Value.none) H s.heap ea) (h : Zgr ns D ea σ H gs) :
    wpAny (model X.prog X.w) X.A (handleBy (.ref ea) X.env hs) (SP X pins D) E s := by
  induction hh with
  | nil => exact h.elim
  | cons p ps ih =>
    cases p with
    | plain hg hm xc gx hdb hs' =>
      refine ZlS XNh I e f hg hm xc gx hdb hs' (fun z => ?_) fun z => ih ?_
      . unfold Zgr at h; rw [if_pos z] at h; exact h
      . unfold Zgr at h; rw [if_neg z] at h; exact h
    | as_ hg hm xc gx hdb hN hi hl hs' =>
      refine Zph XNh I e f hg hm xc gx hdb hN hi hl hs' (fun z => ?_) fun z => ih ?_
      . unfold Zgr at h; rw [if_pos z] at h; exact h
      . unfold Zgr at h; rw [if_neg z] at h; exact h
def tTry (K : Fg) (tb : TX) (gs : List HS) : TX := fun D σ H => tb { D with xc := fun ea σ' H' => ∃ C dx fs ns, XN K ns C /\ H' ea = some (.exc C dx false fs) /\ Zgr ns D.toEnds ea σ' H' gs } σ H
theorem ZqR {body : List Stmt} {h₀ : ExceptHandler} {hs : List ExceptHandler} {gs : List HS} {tb : TX} {pos : Pos} (F : Fr0 X X.A) (hx : ∀ e s, ¬ X.xe e s) (hb : PXs X body tb) (hh : PHs X (h₀ :: hs) gs) : PX X (.Try body (h₀ :: hs) [] [] pos) (tTry X.K tb gs) := by
  intro pins s σ H D I h
  refine wpAny_Try_except (wpAny_mono (hb pins s σ H _ I h) (fun fl s1 q => ?_) fun e s1 q => ?_)
  . cases fl with
    | next => exact wpAny_execs_nil q
    | ret v => exact q
    | brk => exact q
    | cont => exact q
  . rcases q with q | ⟨ea, σ', H', rfl, I1, f1, q⟩
    . exact absurd q (hx _ _)
    . refine thn (Zjb F I1 f1) fun _ s2 ⟨H2, I2, k2, f2⟩ => thn (Zfo (o := none) I2 f2) fun _ s3 ⟨I3, f3⟩ => ?_
      obtain ⟨C, dx, fs, ns, xn, e, th⟩ := q H2 k2
      exact Zpi xn hh I3 e f3 th
end
end L2
namespace L2
open PySem PySem.Spec PyProof.Rows
noncomputable def cxC (X : Cx) (N' : List Str) (scope : Scope) (cl : List (Str × Addr)) (C : Addr) (s₀ : Shared) (H₀ : Hp) (ex : List Addr) : Cx where
  prog := X.prog
  w := X.w
  K := X.K
  mg := X.mg
  base := X.base
  A := X.A
  N := N'
  s₀ := s₀
  H₀ := H₀
  env := compEnvC scope cl C X.env
  outer := X.stack
  stack := X.stack
  ex := ex
  fn := fun _ => false
  calm := X.calm
  pn := []
  xe := fun _ _ => False
theorem Zi0 {scope : Scope} {env : Env} (h : ∀ y ∈ scope.names, y.2 = .free -> ∃ c, env.cells.lookup y.1 = some c) :
    ∃ cl, closureFor scope env = pure cl /\ (∀ y c, cl.lookup y = some c -> env.cells.lookup y = some c) /\ ∀ y ∈ scope.names, y.2 = .free -> ∃ c, cl.lookup y.1 = some c := by
  have go : ∀ (names : List (Str × NameKind)) (acc : List (Str × Addr)), (∀ y ∈ names, y.2 = .free -> ∃ c, env.cells.lookup y.1 = some c) -> (∀ y c, acc.lookup y = some c -> env.cells.lookup y = some c) ->
      ∃ cl, (forIn names acc fun x r => if (x.2 == NameKind.free) = true then do let c <- cellOf env x.1; pure (ForInStep.yield ((x.1, c) :: r)) else pure (ForInStep.yield r) : Sem _) = pure cl /\
        (∀ y c, cl.lookup y = some c -> env.cells.lookup y = some c) /\ (∀ y c, acc.lookup y = some c -> ∃ c, cl.lookup y = some c) /\ ∀ y ∈ names, y.2 = .free -> ∃ c, cl.lookup y.1 = some c := by
    intro names
    induction names with
    | nil => intro acc _ h2; exact ⟨acc, rfl, h2, fun y c e => ⟨c, e⟩, fun y hy => nomatch hy⟩
    | cons z r ih =>
      intro acc h1 h2
      obtain ⟨n, k⟩ := z
      rw [List.forIn_cons]
      by_cases hk : k = .free
      . subst hk
        obtain ⟨c, hc⟩ := h1 (n, .free) List.mem_cons_self rfl
        obtain ⟨cl, e, a1, a2, a3⟩ := ih ((n, c) :: acc) (fun y hy => h1 y (List.mem_cons_of_mem _ hy)) (fun y d hd => by
          rw [List.lookup_cons] at hd
          cases hb : y == n with
          | true => rw [hb] at hd; simp only at hd; cases hd; rw [eq_of_beq hb]; exact hc
          | false => rw [hb] at hd; exact h2 y d hd)
        refine ⟨cl, ?_, a1, fun y d hd => ?_, fun y hy hf => ?_⟩
        . rw [<- e]
          have e1 : cellOf env n = pure c := by
            unfold cellOf
            rw [hc]
          simp only [beq_self_eq_true, if_true, e1, pure_bind]
        . by_cases hyn : y = n
          . exact a2 y c (by rw [hyn, List.lookup_cons, beq_self_eq_true])
          . exact a2 y d (by rw [List.lookup_cons, show (y == n) = false by simpa using hyn]; exact hd)
        . (rcases List.mem_cons.mp hy with rfl | hy)
          . exact a2 n c (by rw [List.lookup_cons, beq_self_eq_true])
          . exact a3 y hy hf
      . have hb : (k == NameKind.free) = false := by simpa using hk
        obtain ⟨cl, e, a1, a2, a3⟩ := ih acc (fun y hy => h1 y (List.mem_cons_of_mem _ hy)) h2
        refine ⟨cl, ?_, a1, a2, fun y hy hf => ?_⟩
        . rw [<- e]
          simp only [hb, Bool.false_eq_true, if_false, pure_bind]
        . (rcases List.mem_cons.mp hy with rfl | hy)
          . exact absurd hf hk
          . exact a3 y hy hf
  obtain ⟨cl, e, a1, _, a3⟩ := go scope.names [] h (fun y c e => nomatch e)
  refine ⟨cl, ?_, a1, a3⟩
  unfold closureFor
  simp only [] at e ⊢
  rw [e]
  rfl
theorem Zhg {env : Env} : ∀ {names : List (Str × NameKind)} {x : Str}, names.lookup x = some .free ->
    (names.map fun (n, k) => if (k == NameKind.free && env.scope.kind == .function && env.kindOf n == some .cell) then (n, NameKind.cell) else (n, k)).lookup x = some .cell \/
    (names.map fun (n, k) => if (k == NameKind.free && env.scope.kind == .function && env.kindOf n == some .cell) then (n, NameKind.cell) else (n, k)).lookup x = some .free
  | [], _, h => by simp at h
  | (n, k) :: r, x, h => by
    have ih := @Zhg env r x
    show List.lookup x ((if (k == NameKind.free && env.scope.kind == .function && env.kindOf n == some .cell) = true then (n, NameKind.cell) else (n, k)) :: _) = _ \/ List.lookup x ((if (k == NameKind.free && env.scope.kind == .function && env.kindOf n == some .cell) = true then (n, NameKind.cell) else (n, k)) :: _) = _
    cases hx : x == n with
    | true =>
      (simp only [List.lookup_cons, hx] at h)
      cases h
      by_cases hc : (NameKind.free == NameKind.free && env.scope.kind == .function && env.kindOf n == some .cell) = true
      . rw [if_pos hc]; left; simp only [List.lookup_cons, hx]
      . rw [if_neg hc]; right; simp only [List.lookup_cons, hx]
    | false =>
      (simp only [List.lookup_cons, hx] at h)
      (by_cases hc : (k == NameKind.free && env.scope.kind == .function && env.kindOf n == some .cell) = true)
      . (rw [if_pos hc]; simp only [List.lookup_cons, hx]; exact ih h)
      . (rw [if_neg hc]; simp only [List.lookup_cons, hx]; exact ih h)
noncomputable def Zd0 (osc : Scope) (oN : List Str) (k : Nat) (js : List Nat) (N' : List Str) (scope : Scope) : Bool :=
  scope.kind == .function && scope.names.all (fun y => y.2 != .cell) && scope.names.all (fun y => y.2 != .local || scope.names.lookup y.1 == some .local) &&
  scope.names.all (fun y => y.2 != .free || osc.names.lookup y.1 == some .cell || osc.names.lookup y.1 == some .free) &&
  N'.length == k + js.length && decide N'.Nodup &&
  (List.range js.length).all fun i => match js[i]? with
    | none => false
    | some j => match oN[j]? with
      | none => false
      | some y => N'[k + i]? == some y && scope.names.lookup y == some .free
structure CompScope (X : Cx) (k : Nat) (js : List Nat) (N' : List Str) (scope : Scope) : Prop where
  kind : scope.kind = .function
  nocell : ∀ y ∈ scope.names, y.2 ≠ .cell
  names : ∀ y ∈ scope.names, y.2 = .local -> scope.names.lookup y.1 = some .local
  free : ∀ y ∈ scope.names, y.2 = .free -> X.env.kindOf y.1 = some .cell \/ X.env.kindOf y.1 = some .free
  len : N'.length = k + js.length
  nd : N'.Nodup
  idx : ∀ i j : Nat, js[i]? = some j -> ∃ y, X.N[j]? = some y /\ N'[k + i]? = some y /\ scope.names.lookup y = some .free
theorem CompScope.of {X : Cx} {osc : Scope} {oN : List Str} {k : Nat} {js : List Nat} {N' : List Str} {scope : Scope} (h : Zd0 osc oN k js N' scope = true) (e : X.env.scope = osc) (eN : X.N = oN) : CompScope X k js N' scope := by
  subst e eN
  unfold Zd0 at h
  (simp only [Bool.and_eq_true] at h)
  obtain ⟨⟨⟨⟨⟨⟨h1, h2⟩, h3⟩, h4⟩, h5⟩, h6⟩, h7⟩ := h
  refine ⟨eq_of_beq h1, fun y hy => by simpa using List.all_eq_true.mp h2 y hy, fun y hy hl => ?_, fun y hy hf => ?_, eq_of_beq h5, of_decide_eq_true h6, fun i j hj => ?_⟩
  . have q := List.all_eq_true.mp h3 y hy
    rw [hl] at q
    simpa using q
  . have q := List.all_eq_true.mp h4 y hy
    rw [hf] at q
    simp at q
    exact q
  . have hi : i < js.length := (List.getElem?_eq_some_iff.mp hj).1
    have q := List.all_eq_true.mp h7 i (List.mem_range.mpr hi)
    rw [hj] at q
    simp only at q
    cases hN : X.N[j]? with
    | none => rw [hN] at q; cases q
    | some y =>
      rw [hN] at q
      simp only [Bool.and_eq_true] at q
      exact ⟨y, rfl, eq_of_beq q.1, eq_of_beq q.2⟩
noncomputable def Zeq (js : List Nat) (σ : St) : St := js.map fun j => (σ[j]?).join
noncomputable def Zd1 (k : Nat) (js : List Nat) (σ : St) : St := List.replicate k none ++ Zeq js σ
section
variable {X : Cx}
theorem ZnE {pins : List (Addr × Obj)} {σ : St} {H : Hp} {s : Shared} {k : Nat} {js : List Nat} {N' : List Str} {scope : Scope} {cl : List (Str × Addr)} {fp : List Addr} {h1 : Heap} {tk : Nat}
    (I : Inv X pins σ H s) (S : CompScope X k js N' scope) (hf : ∀ b ∈ fp, FpOk X pins H b) (hfo : ∀ b ∈ fp, b < s.heap.objs.size)
    (c1 : ∀ y c, cl.lookup y = some c -> X.env.cells.lookup y = some c) (c2 : ∀ y ∈ scope.names, y.2 = .free -> ∃ c, cl.lookup y.1 = some c)
    (ns : ∃ m, h1.Ns (s.heap.objs.size + 1) m) (kp : ∀ b o, s.heap.get? b = some o -> h1.get? b = some o) (hD : h1.get? s.heap.objs.size = some { cls := .type "list", data := .seq #[] }) :
    Inv (cxC X N' scope cl (s.heap.objs.size + 1) s H fp) [] (Zd1 k js σ) (upd H s.heap.objs.size (.lst [])) { s with heap := h1, toks := tk } := by
  have hfr : H s.heap.objs.size = none := I.hok.fresh (Nat.le_refl _)
  have hfr1 : H (s.heap.objs.size + 1) = none := I.hok.fresh (Nat.le_succ _)
  have cells : ∀ y c, cl.lookup y = some c -> c < s.heap.objs.size := fun y c e => by
    obtain ⟨v, q⟩ := I.cell y c (c1 y c e)
    exact q.lt
  have exb : ∀ b ∈ fp, ∀ o, X.base.get? b = some o -> False := fun b hb o e => by
    rcases (hf b hb).2.2.2.1 with z | z
    . exact I.ok.noex b o e z
    . exact absurd (Nat.lt_of_lt_of_le (Heap.lt_size (I.ok.bs b o e).1) z) (Nat.lt_irrefl _)
  have exs : ∀ b ∈ fp, b ∉ frs X.stack := fun b hb z => by
    rcases List.mem_cons.mp (I.stkSub b z) with q | q
    . exact (hf b hb).2.1 q
    . exact (hf b hb).2.2.1 q
  obtain ⟨m1, hn1⟩ := ns
  have upk : ∀ y, scope.names.lookup y = some .free -> ((cxC X N' scope cl (s.heap.objs.size + 1) s H fp).env.kindOf y = some .cell \/ (cxC X N' scope cl (s.heap.objs.size + 1) s H fp).env.kindOf y = some .free) := fun y hy => Zhg hy
  have memf : ∀ y, scope.names.lookup y = some .free -> ∃ c, cl.lookup y = some c := fun y hy => c2 (y, .free) (PySem.mem_of_lookup hy) rfl
  have back : ∀ y, ((cxC X N' scope cl (s.heap.objs.size + 1) s H fp).env.kindOf y = some .cell \/ (cxC X N' scope cl (s.heap.objs.size + 1) s H fp).env.kindOf y = some .free) -> scope.names.lookup y = some .free := by
    intro y hy
    have key : ∀ names : List (Str × NameKind), (∀ z ∈ names, z.2 ≠ .cell) ->
        ((names.map fun (n, k) => if (k == NameKind.free && X.env.scope.kind == .function && X.env.kindOf n == some .cell) then (n, NameKind.cell) else (n, k)).lookup y = some .cell \/
        (names.map fun (n, k) => if (k == NameKind.free && X.env.scope.kind == .function && X.env.kindOf n == some .cell) then (n, NameKind.cell) else (n, k)).lookup y = some .free) -> names.lookup y = some .free := by
      intro names
      induction names with
      | nil => intro _ h; simp at h
      | cons z r ih =>
        intro hz h
        obtain ⟨n, kd⟩ := z
        have ih' := ih fun z hz' => hz z (List.mem_cons_of_mem _ hz')
        have hkd : kd ≠ .cell := hz (n, kd) List.mem_cons_self
        have h' : List.lookup y ((if (kd == NameKind.free && X.env.scope.kind == .function && X.env.kindOf n == some .cell) = true then (n, NameKind.cell) else (n, kd)) :: r.map _) = _ \/
            List.lookup y ((if (kd == NameKind.free && X.env.scope.kind == .function && X.env.kindOf n == some .cell) = true then (n, NameKind.cell) else (n, kd)) :: r.map _) = _ := h
        rw [List.lookup_cons]
        cases hx : y == n with
        | true =>
          by_cases hc : (kd == NameKind.free && X.env.scope.kind == .function && X.env.kindOf n == some .cell) = true
          . have : (kd == NameKind.free) = true := by
              (simp only [Bool.and_eq_true] at hc)
              exact hc.1.1
            rw [eq_of_beq this]
          . rw [if_neg hc] at h'
            simp only [List.lookup_cons, hx] at h'
            rcases h' with q | q
            . exact absurd (Option.some.inj q) hkd
            . exact q
        | false =>
          simp only
          by_cases hc : (kd == NameKind.free && X.env.scope.kind == .function && X.env.kindOf n == some .cell) = true
          . rw [if_pos hc] at h'
            simp only [List.lookup_cons, hx] at h'
            exact ih' h'
          . rw [if_neg hc] at h'
            simp only [List.lookup_cons, hx] at h'
            exact ih' h'
    exact key scope.names S.nocell hy
  refine ⟨⟨I.mod, S.kind, I.ok.glob, I.ok.blt, Nat.le_succ _, fun x y c e1 e2 => I.ok.inj x y c (c1 x c e1) (c1 y c e2), fun y hy => memf y (back y hy), fun x c hx => (nomatch hx), I.ok.hd, I.ok.frames, .inl rfl,
      fun b hb => ⟨Nat.ne_of_lt (Nat.lt_succ_of_lt (hfo b hb)), fun x c e => (hf b hb).2.2.2.2.1 x c (c1 x c e)⟩, I.bs, Nat.le_trans I.ok.bsz I.sz, fun b o e hb => exb b hb o e, exs, I.stack, I.stkFree⟩,
    rfl, I.bare, Un.laid kp (Nat.le_refl _) hfr, ⟨m1, hn1, fun i x v e1 e2 e3 => ?_⟩, fun x c e => ?_, ?_, fun x c e => ?_, fun p hp => (nomatch hp), I.hok.laid kp (Nat.le_refl _) ⟨by simp, [], 0, .nil, hD⟩, ?_⟩
  . -- a name's value within the block
    have hi : ¬ i < k := fun hi => by
      unfold Zd1 at e2
      rw [List.getElem?_append_left (by simpa using hi), List.getElem?_replicate, if_pos hi] at e2
      cases e2
    have hik : k <= i := Nat.le_of_not_lt hi
    have e2' : (Zeq js σ)[i - k]? = some (some v) := by
      unfold Zd1 at e2
      rw [List.getElem?_append_right (by simpa using hik), List.length_replicate] at e2
      exact e2
    unfold Zeq at e2'
    rw [List.getElem?_map] at e2'
    cases hj : js[i - k]? with
    | none => rw [hj] at e2'; cases e2'
    | some j =>
      rw [hj] at e2'
      have e4 : (σ[j]?).join = some v := Option.some.inj e2'
      obtain ⟨y, n1, n2, n3⟩ := S.idx (i - k) j hj
      rw [Nat.add_sub_cancel' hik] at n2
      have e1' : N'[i]? = some x := e1
      rw [e1'] at n2
      obtain rfl : x = y := Option.some.inj n2
      have e5 : σ[j]? = some (some v) := by
        cases q : σ[j]? with
        | none => rw [q] at e4; cases e4
        | some o => rw [q] at e4; exact congrArg some e4
      obtain ⟨m, hn, hl⟩ := I.loc
      have hk := S.free (x, .free) (PySem.mem_of_lookup n3) rfl
      have hv : Vis X.env.scope x := .inr hk
      obtain ⟨u, r, l⟩ := hl j x v n1 e5 hv
      refine ⟨u, r, .inr ⟨upk x n3, ?_⟩⟩
      rcases l with ⟨q, _⟩ | ⟨_, c, hc, hcell⟩
      . rcases hk with z | z <;> (rw [show X.env.kindOf x = some NameKind.local from q] at z; cases z)
      . obtain ⟨c', hc'⟩ := memf x n3
        have : c' = c := Option.some.inj ((c1 x c' hc').symm.trans hc)
        subst this
        obtain ⟨o, ho, hd⟩ := hcell
        exact ⟨c', hc', o, kp _ _ ho, hd⟩
  . obtain ⟨v, o, ho, hd⟩ := I.cell x c (c1 x c e)
    exact ⟨v, o, kp _ _ ho, hd⟩
  . show upd H s.heap.objs.size (.lst []) (s.heap.objs.size + 1) = none
    rw [ZC (Nat.succ_ne_self _)]
    exact hfr1
  . show upd H s.heap.objs.size (.lst []) c = none
    rw [ZC (Nat.ne_of_lt (cells x c e))]
    exact I.freeC x c (c1 x c e)
  . show (Zd1 k js σ).length = N'.length
    unfold Zd1 Zeq
    rw [List.length_append, List.length_replicate, List.length_map, S.len]
def PIf (X : Cx) (ifs : List Expr) (t : TT) : Prop :=
  ∀ (pins : List (Addr × Obj)) (s : Shared) (σ : St) (H : Hp) (Q : Bool -> Hp -> Prop), Inv X pins σ H s -> t σ H Q ->
    wpAny (model X.prog X.w) X.A (forIn ifs true fun c r => if r = true then do let ok <- isTrue c X.env (eval c X.env); pure (ForInStep.yield ok) else pure (ForInStep.yield r)) (TP X pins σ Q) X.xe s
def tIf0 : TT := fun _ H Q => Q true H
theorem Zpj : PIf X [] tIf0 := fun _ _ _ H _ I h => wpAny_tests_nil ⟨H, I, h⟩
theorem Zpk {c : Expr} {t : TT} (h : PT X c t) : PIf X [c] t := fun pins s σ H Q I q => wpAny_tests_one (h pins s σ H Q I q)
def ZlT (J : It) (g : TG) (tif : TT) (te : TE) (D : Addr) (Q : VK) (W : Nat -> Nat -> St -> List V -> Hp -> Prop) : Prop :=
  ∀ i m σ ys H, W i m σ ys H -> H D = some (.lst ys) -> (J.stop i H /\ Q (.ref D) H) \/ (J.go i H /\ ∀ x H', J.yld i H x H' -> g x σ H' fun σ2 H2 => tif σ2 H2 fun b H3 =>
    if b = true then te σ2 H3 fun y H4 => H4 D = some (.lst ys) /\ ys.length < sizeLine /\ ∃ m', m' < m /\ W (i + 1) m' σ2 (ys ++ [y]) (upd H4 D (.lst (ys ++ [y])))
    else H3 D = some (.lst ys) /\ ∃ m', m' < m /\ W (i + 1) m' σ2 ys H3)
theorem ZmJ {elt tg iter : Expr} {ifs : List Expr} {scope : Scope} {pos : Pos} {it D : Addr} {J : It} {fp : List Addr} {tn : Nat -> Heap -> Prop} {g : TG} {tif : TT} {te : TE} {Q : VK} {R : Result -> Shared -> Prop}
    (hx : ∀ e s', X.xe e s' -> False) (hc : X.calm = true) (T : Turn X.prog X.w X.K tg J fp it tn) (hg : PG X tg g) (hif : PIf X ifs tif) (he : PE X elt te)
    (stat : ∀ {H' : Hp}, (∀ b ∈ fp, H' b = none) -> ∀ b ∈ fp, FpOk X [] H' b)
    {W : Nat -> Nat -> St -> List V -> Hp -> Prop} (turn : ZlT J g tif te D Q W)
    (hR : ∀ σ' H' s', Inv X [] σ' H' s' -> Q (.ref D) H' -> R (.ok .next) s')
    {σ : St} {H : Hp} {s : Shared} {m : Nat} (I : Inv X [] σ H s) (st : tn 0 s.heap) (fr : ∀ b ∈ fp, H b = none) (hD : H D = some (.lst [])) (w0 : W 0 m σ [] H) :
    codeAny (model X.prog X.w) X.A (.compLoop (.ListComp elt [⟨tg, iter, ifs, 0⟩] scope pos) 0 (.ref it) (.ref D) X.env) R s := by
  refine codeAny_loop rfl (fun n s' => ∃ i ys σ' H', Inv X [] σ' H' s' /\ tn i s'.heap /\ (∀ b ∈ fp, H' b = none) /\ H' D = some (.lst ys) /\ W i n σ' ys H') (fun n s3 hI => ?_) m ⟨0, [], σ, H, I, st, fr, hD, w0⟩
  obtain ⟨i, ys, σ3, H3, I3, st3, fr3, d3, w3⟩ := hI
  show wpAny _ X.A ((compTurn (.ListComp elt [⟨tg, iter, ifs, 0⟩] scope pos) 0 (.ref it) (.ref D) X.env).onRaise (fun x => do noteFrame x X.env; theTreesLotGoes x)) _ _ s3
  refine wpAny_noted ?_
  rw [compTurn_list]
  (refine wpAny_bind (wpAny_standAt (wpAny_bind ?_)))
  have sub : ∀ {α : Type} {t : Sem α} {P : α -> Shared -> Prop} {E' : Value -> Shared -> Prop} {s : Shared}, wpAny (model X.prog X.w) X.A t P X.xe s -> wpAny (model X.prog X.w) X.A t P E' s := fun h => wpAny_mono h (fun _ _ q => q) fun e s' q => (hx e s' q).elim
  rcases turn i n σ3 ys H3 w3 d3 with ⟨stop, q⟩ | ⟨go, step⟩
  . refine sub (thn (T.done X rfl rfl rfl hc i [] s3 σ3 H3 X.xe I3 (stat fr3) st3 stop) fun r s4 ⟨hr, I4⟩ => ?_)
    subst hr
    exact wpAny_pure (hR σ3 H3 s4 I4 q)
  . refine sub (thn (T.item X rfl rfl rfl hc i [] s3 σ3 H3 X.xe I3 (stat fr3) st3 go) fun r s4 ⟨u, hr, h4⟩ => ?_)
    subst hr
    refine wpAny_bind (sub (thn h4 fun _ s5 ⟨x, H5, I5, r5, y5, st5, fr5⟩ => ?_))
    have I5' := I5.pinned (stat fr5) (T.obj _ _ st5)
    refine wpAny_bind (sub (thn (hg _ s5 σ3 H5 x u _ I5' r5 (step x H5 y5)) fun _ s6 ⟨σ6, H6, I6, q6⟩ => ?_))
    have again : ∀ {s7 : Shared} {H7 : Hp} {ys7 : List V}, Inv X ([] ++ Zg5 fp s5.heap) σ6 H7 s7 -> H7 D = some (.lst ys7) -> (∃ m', m' < n /\ W (i + 1) m' σ6 ys7 H7) ->
        ∃ m, m < n /\ ∃ i ys σ' H', Inv X [] σ' H' s7 /\ tn i s7.heap /\ (∀ b ∈ fp, H' b = none) /\ H' D = some (.lst ys) /\ W i m σ' ys H' := fun {s7 H7 ys7} I7 d7 w7 => by
      obtain ⟨m', hm, w7⟩ := w7
      refine ⟨m', hm, i + 1, ys7, σ6, H7, I7.unpinned, T.keep _ _ _ st5 fun b hb o e => (I7.pin (b, o) (List.mem_append_right _ (List.mem_append_right _ (Zdk hb e)))).1, fun b hb => ?_, d7, w7⟩
      obtain ⟨o, e, d⟩ := T.obj _ _ st5 b hb
      exact (I7.pin (b, o) (List.mem_append_right _ (List.mem_append_right _ (Zdk hb e)))).2.1
    refine wpAny_bind (sub (thn (hif _ s6 σ6 H6 _ I6 q6) fun ok s7 ⟨H7, I7, q7⟩ => ?_))
    cases ok with
    | false =>
      rw [if_neg Bool.false_ne_true] at q7
      exact wpAny_pure ⟨rfl, again I7 q7.1 q7.2⟩
    | true =>
      rw [if_pos rfl] at q7
      refine wpAny_bind (wpAny_bind (sub (thn (he _ s7 σ6 H7 _ I7 q7) fun y s8 ⟨v, H8, I8, r8, d8, z8, w8⟩ => ?_)))
      have ap := Zj8 (X := X) _ s8 σ6 H8 (.ref D) [v] (.ref D) [y] (fun _ H9 => H9 = upd H8 D (.lst (ys ++ [v]))) I8 rfl (.cons r8 .nil) ⟨D, ys, v, rfl, rfl, d8, z8, rfl⟩
      refine wpAny_bind (sub (thn ap fun _ s9 ⟨_, H9, I9, _, e9⟩ => ?_))
      subst e9
      exact wpAny_pure (wpAny_pure ⟨rfl, again I9 ZB w8⟩)
def Zke (k : Nat) (js : List Nat) (wi : TI) (g : TG) (tif : TT) (te : TE) : TE := fun σ H Q => wi σ H fun J H1 => ∀ D, H1 D = none -> ∃ W : Nat -> Nat -> St -> List V -> Hp -> Prop,
  (∃ m, W 0 m (Zd1 k js σ) [] (upd H1 D (.lst []))) /\ ZlT J g tif te D Q W
theorem Zi1 {elt tg iter : Expr} {ifs : List Expr} {scope : Scope} {pos : Pos} {k : Nat} {js : List Nat} {N' : List Str} {J : It} {fp : List Addr} {tn : Nat -> Heap -> Prop} {it : Addr} {g : TG} {tif : TT} {te : TE} {Q : VK} {E : Value -> Shared -> Prop}
    {pins : List (Addr × Obj)} {s : Shared} {σ : St} {H : Hp} {cl : List (Str × Addr)} {RR : Value -> Addr -> Result -> Shared -> Prop}
    (hc : X.calm = true) (S : CompScope X k js N' scope) (T : Turn X.prog X.w X.K tg J fp it tn) (st : tn 0 s.heap) (hf : ∀ b ∈ fp, FpOk X pins H b)
    (c1 : ∀ y c, cl.lookup y = some c -> X.env.cells.lookup y = some c) (c2 : ∀ y ∈ scope.names, y.2 = .free -> ∃ c, cl.lookup y.1 = some c)
    (hin : ∀ (cl : List (Str × Addr)) (C : Addr) (s₀ : Shared) (H₀ : Hp) (ex : List Addr), PG (cxC X N' scope cl C s₀ H₀ ex) tg g /\ PIf (cxC X N' scope cl C s₀ H₀ ex) ifs tif /\ PE (cxC X N' scope cl C s₀ H₀ ex) elt te)
    (I : Inv X pins σ H s) (q : ∀ D, H D = none -> ∃ W : Nat -> Nat -> St -> List V -> Hp -> Prop, (∃ m, W 0 m (Zd1 k js σ) [] (upd H D (.lst []))) /\ ZlT J g tif te D Q W)
    (hRR : ∀ (D C : Addr) (s' : Shared) (H' : Hp), s.heap.get? C = none -> (∃ m, s'.heap.Ns C m) -> Inv X pins σ H' s' -> FpOk X pins H' C -> Q (.ref D) H' -> RR (.ref D) C (.ok .next) s') :
    wpAny (model X.prog X.w) X.A (newList []) (fun acc s₃ => wpAny (model X.prog X.w) X.A (newFunctionEnv scope X.env.globals cl [] X.env.qual none .none (some X.env)) (fun cenv s₄ =>
      codeAny (model X.prog X.w) X.A (.compStart (.ListComp elt [⟨tg, iter, ifs, 0⟩] scope pos) 0 (.ref it) acc { cenv with scope := relabel scope X.env }) (RR acc cenv.locals) s₄) E s₃) E s := by
  refine wpAny_newObj_type (wpAny_newFunctionEnv S.nocell (by intro y hy; simp at hy) (fun h₁ hns₁ hsb₁ => ?_) S.kind)
  dsimp only at hns₁ hsb₁ ⊢
  generalize hH2 : s.heap.push { cls := .type "list", dict := none, data := .seq ([] : List Value).toArray } = H2 at hns₁ hsb₁ ⊢
  have hC : H2.objs.size = s.heap.objs.size + 1 := by rw [<- hH2, Heap.size_push]
  rw [hC] at hns₁ hsb₁ ⊢
  have kp : ∀ b o, s.heap.get? b = some o -> h₁.get? b = some o := fun b o e => hsb₁.extBut b o (Nat.ne_of_lt (Nat.lt_succ_of_lt (Heap.lt_size e))) (Heap.get?_push_of_some _ (hH2 ▸ Heap.get?_push_of_some _ e))
  have hD : h₁.get? s.heap.objs.size = some { cls := .type "list", data := .seq #[] } := hsb₁.extBut _ _ (Nat.ne_of_lt (Nat.lt_succ_self _)) (Heap.get?_push_of_some _ (hH2 ▸ Heap.get?_push_size _ rfl))
  have hfo : ∀ b ∈ fp, b < s.heap.objs.size := fun b hb => by obtain ⟨o, e, _⟩ := T.obj _ _ st b hb; exact Heap.lt_size e
  obtain ⟨W, ⟨m0, w0⟩, turn⟩ := q s.heap.objs.size (I.hok.fresh (Nat.le_refl _))
  obtain ⟨gG, gI, gE⟩ := hin cl (s.heap.objs.size + 1) s H fp
  have fresh1 : s.heap.get? (s.heap.objs.size + 1) = none := by
    cases e : s.heap.get? (s.heap.objs.size + 1) with
    | none => rfl
    | some o => exact absurd (Heap.lt_size e) (Nat.not_lt.mpr (Nat.le_succ _))
  have I1 : ∀ tk, Inv (cxC X N' scope cl (s.heap.objs.size + 1) s H fp) [] (Zd1 k js σ) (upd H s.heap.objs.size (.lst [])) { s with heap := h₁, toks := tk } := fun tk => ZnE I S hf hfo c1 c2 ⟨_, hns₁⟩ kp hD
  have ffr : ∀ b ∈ fp, upd H s.heap.objs.size (.lst []) b = none := fun b hb => by
    rw [ZC (Nat.ne_of_lt (hfo b hb))]
    exact (hf b hb).1
  have exs : ∀ b ∈ fp, b ∉ frs X.stack := (I1 0).ok.exfs
  have stat : ∀ {H' : Hp}, (∀ b ∈ fp, H' b = none) -> ∀ b ∈ fp, FpOk (cxC X N' scope cl (s.heap.objs.size + 1) s H fp) [] H' b := fun hn b hb =>
    ⟨hn b hb, ((I1 0).ok.exf b hb).1, exs b hb, .inl hb, ((I1 0).ok.exf b hb).2, fun p hp => (nomatch hp)⟩
  have st1 : tn 0 h₁ := T.keep _ _ _ st fun b _ o e => kp b o e
  have loop : ∀ tk, codeAny (model X.prog X.w) X.A (.compLoop (.ListComp elt [⟨tg, iter, ifs, 0⟩] scope pos) 0 (.ref it) (.ref s.heap.objs.size) (compEnvC scope cl (s.heap.objs.size + 1) X.env))
      (RR (.ref s.heap.objs.size) (s.heap.objs.size + 1)) { s with heap := h₁, toks := tk } := fun tk => by
    refine ZmJ (X := cxC X N' scope cl (s.heap.objs.size + 1) s H fp) (fun _ _ z => z) hc T gG gI gE stat turn (fun σ' H' s' J q' => ?_) (I1 tk) st1 ffr ZB w0
    have u : Un (frs X.stack) fp H H' s.heap s'.heap := J.base
    have J1 : Inv X pins σ H' s' := I.call' J.os u J.hok J.bare fun b hb => ⟨(hf b hb).2.2.2.1, (hf b hb).2.1, (hf b hb).2.2.2.2.1, (hf b hb).2.2.2.2.2⟩
    obtain ⟨m', hn', _⟩ := J.loc
    refine hRR _ _ s' H' fresh1 ⟨m', hn'⟩ J1 ⟨J.free, Nat.ne_of_gt (Nat.lt_succ_of_lt I.lt), I.nofs (Nat.le_succ _), .inr (Nat.le_trans I.sz (Nat.le_succ _)), fun x c e z => ?_, fun p hp z => ?_⟩ q'
    . obtain ⟨v, qc⟩ := I.cell x c e
      have h1 := qc.lt
      rw [z] at h1
      exact absurd h1 (Nat.not_lt.mpr (Nat.le_succ _))
    . have h1 := Heap.lt_size (I.pin p hp).1
      rw [z] at h1
      exact absurd h1 (Nat.not_lt.mpr (Nat.le_succ _))
  exact codeAny_compStart_list (loop _) (T.self X.A 0 _ _ _ st1 (loop _))
theorem Zpl {elt tg iter : Expr} {ifs : List Expr} {scope : Scope} {pos : Pos} {k : Nat} {js : List Nat} {N' : List Str} {wi : TI} {g : TG} {tif : TT} {te : TE}
    (hc : X.calm = true) (S : CompScope X k js N' scope) (hi : PI X tg iter wi)
    (hin : ∀ (cl : List (Str × Addr)) (C : Addr) (s₀ : Shared) (H₀ : Hp) (ex : List Addr), PG (cxC X N' scope cl C s₀ H₀ ex) tg g /\ PIf (cxC X N' scope cl C s₀ H₀ ex) ifs tif /\ PE (cxC X N' scope cl C s₀ H₀ ex) elt te)
    (hs : ∀ x, foldedSetIterable iter X.env x = pure x := by intro _; rfl) : PE X (.ListComp elt [⟨tg, iter, ifs, 0⟩] scope pos) (Zke k js wi g tif te) := by
  intro pins s σ H Q I h
  obtain ⟨cl, ec, c1, c2⟩ := Zi0 (scope := scope) (env := X.env) fun y hy hf => I.ok.has y.1 (S.free y hy hf)
  rw [eval_ListComp]
  refine wpAny_comprehension_free (use := none) rfl hs ec S.kind S.names (thn (hi pins s σ H _ I h) fun xv s1 h1 => thn h1 fun itv s2 h2 => ?_)
  obtain ⟨it, fp, tn, J, H2, e, I2, T, st2, f2, q⟩ := h2
  subst e
  refine Zi1 (RR := fun acc C => compPost (model X.prog X.w) X.A X.xe none (EP X pins σ Q) acc C) hc S T st2 f2 c1 c2 hin I2 q ?_
  intro D C s' H' _ hn J1 fC q'
  obtain ⟨m', hn⟩ := hn
  obtain ⟨f0, f1, f2, f3, f4, f5⟩ := fC
  exact ⟨m', hn, fun h' hs' => ⟨.ref D, H', J1.turned (t' := s'.toks) (fun b o hb e => hs'.extBut b o hb e) f0 f1 f3 f4 f5, rfl, q'⟩⟩
theorem Zpm {i : Nat} {x : Str} {elt tg iter : Expr} {ifs : List Expr} {scope : Scope} {pos spos pos' : Pos} {k : Nat} {js : List Nat} {N' : List Str} {wi : TI} {g : TG} {tif : TT} {te : TE}
    (hN : X.N.Nodup) (hi : X.N[i]? = some x) (hx : Loc X.env.scope x)
    (hc : X.calm = true) (S : CompScope X k js N' scope) (hit : PI X tg iter wi)
    (hin : ∀ (cl : List (Str × Addr)) (C : Addr) (s₀ : Shared) (H₀ : Hp) (ex : List Addr), PG (cxC X N' scope cl C s₀ H₀ ex) tg g /\ PIf (cxC X N' scope cl C s₀ H₀ ex) ifs tif /\ PE (cxC X N' scope cl C s₀ H₀ ex) elt te)
    (hsw : swapsWith (.ListComp elt [⟨tg, iter, ifs, 0⟩] scope pos) (some (.Name x pos')) spos.line X.env = pure true := by rfl)
    (hf : X.fn x = true \/ X.env.scope.names.lookup x = some .local := by first | exact .inl rfl | exact .inr rfl | assumption)
    (hs : ∀ x, foldedSetIterable iter X.env x = pure x := by intro _; rfl) : PS X (.Assign [.Name x pos'] (.ListComp elt [⟨tg, iter, ifs, 0⟩] scope pos) spos) (tAsg (Zke k js wi g tif te) (Zgp i)) := by
  intro pins s σ H D I h
  obtain ⟨cl, ec, c1, c2⟩ := Zi0 (scope := scope) (env := X.env) fun y hy hf => I.ok.has y.1 (S.free y hy hf)
  (rw [exec_Assign_Name_used _ _ _ _ hsw])
  (refine wpAny_bind (wpAny_standAt (wpAny_bind ?_)))
  show wpAny _ X.A (do let _ <- comprehension (.ListComp elt [⟨tg, iter, ifs, 0⟩] scope pos) scope X.env _ (newList []) false (eval iter X.env) (some (assign (.Name x pos') X.env))) _ _ s
  refine wpAny_bind (wpAny_mono (wpAny_comprehension_free (use := some (assign (.Name x pos') X.env)) (Q := fun _ s' => SP X pins D .next s') rfl hs ec S.kind S.names
    (thn (hit pins s σ H _ I h) fun xv s1 h1 => thn h1 fun itv s2 h2 => ?_)) (fun _ s' hq => wpAny_pure (wpAny_pure hq)) fun _ _ e => e)
  obtain ⟨it, fp, tn, J, H2, e, I2, T, st2, f2, q⟩ := h2
  subst e
  refine Zi1 (Q := fun v H' => Zgp i v σ H' D.nx) (RR := fun acc C => compPost (model X.prog X.w) X.A X.xe (some (assign (.Name x pos') X.env)) (fun _ s' => SP X pins D .next s') acc C) hc S T st2 f2 c1 c2 hin I2 q ?_
  intro Da C s' H' fr hn J1 fC q'
  obtain ⟨m', hn⟩ := hn
  obtain ⟨f0, f1, f2, f3, f4, f5⟩ := fC
  obtain ⟨oC, es, ep, hoC, hdC, hkC, hmC⟩ := id hn
  show wpAny _ X.A (assign (.Name x pos') X.env (.ref Da)) _ _ _
  have J2 : Inv X (pins ++ [(C, oC)]) σ H' s' := J1.pins_of fun p hp => by
    (rcases List.mem_append.mp hp with z | z)
    . exact J1.pin p (List.mem_append_right _ z)
    . have z' : p = (C, oC) := by simpa using z
      subst z'
      exact ⟨hoC, f0, f1, f2, fun v e => by rw [hdC] at e; cases e⟩
  refine wpAny_assign_Name (ZeW J2 hN hi hx (v := .ref Da) rfl (fun s'' I'' => ?_) hf)
  have hC'' := (I''.pin (C, oC) (List.mem_append_right _ (List.mem_append_right _ (by simp)))).1
  refine ⟨m', ⟨oC, es, ep, hC'', hdC, hkC, hmC⟩, fun h' hs' => ?_⟩
  have I3 : Inv X pins (σ.set i (some (.ref Da))) H' s'' := I''.unpinned
  exact ⟨_, H', I3.turned (t' := s''.toks) (fun b o hb e => hs'.extBut b o hb e) f0 f1 f3 f4 f5, q'⟩
end
end L2
namespace L2
open PySem PySem.Spec PyProof.Rows
mutual
inductive Den (K : Fg) (H : Hp) : V -> PyData -> Prop
  | non : Den K H .non .none
  | bl (b : Bool) : Den K H (.bl b) (.bool b)
  | int (i : Int) : Den K H (.int i) (.int i)
  | str (x : Str) : Den K H (.str x) (.str x)
  | lst {a : Addr} {vs : List V} {ds : List PyData} : SqL K H a vs -> DenL K H vs ds -> Den K H (.ref a) (.list ds)
  | tup {a : Addr} {vs : List V} {ds : List PyData} : SqT K H a vs -> DenL K H vs ds -> Den K H (.ref a) (.tuple ds)
inductive DenL (K : Fg) (H : Hp) : List V -> List PyData -> Prop
  | nil : DenL K H [] []
  | cons {v : V} {d : PyData} {vs : List V} {ds : List PyData} : Den K H v d -> DenL K H vs ds -> DenL K H (v :: vs) (d :: ds)
end
theorem Same.tupq {K : Fg} {H H' : Hp} {a : Addr} {xs : List V} (e : Same H H') (h : SqT K H a xs) : SqT K H' a xs := by
  rcases h with (h | ⟨o, h⟩) | h
  . exact .inl (.inl (e _ _ h))
  . exact .inl (.inr ⟨o, e _ _ h⟩)
  . exact .inr h
mutual
theorem Den.same {K : Fg} {H H' : Hp} (e : Same H H') : ∀ {v : V} {d : PyData}, Den K H v d -> Den K H' v d
  | _, _, .non => .non
  | _, _, .bl b => .bl b
  | _, _, .int i => .int i
  | _, _, .str x => .str x
  | _, _, .lst h r => .lst (e.seq h) (DenL.same e r)
  | _, _, .tup h r => .tup (e.tupq h) (DenL.same e r)
theorem DenL.same {K : Fg} {H H' : Hp} (e : Same H H') : ∀ {vs : List V} {ds : List PyData}, DenL K H vs ds -> DenL K H' vs ds
  | _, _, .nil => .nil
  | _, _, .cons h r => .cons (Den.same e h) (DenL.same e r)
end
section
variable {X : Cx} {pins : List (Addr × Obj)} {σ : St} {H : Hp} {s : Shared}
mutual
theorem Den.reads (I : Inv X pins σ H s) : ∀ {v : V} {d : PyData} {u : Value}, Den X.K H v d -> RelV v u -> ∃ as, Reads s.heap u d as
  | _, _, _, .non, r => by cases (show _ = Value.none from r); exact ⟨_, .none⟩
  | _, _, _, .bl b, r => by cases (show _ = Value.bool b from r); exact ⟨_, .bool b⟩
  | _, _, _, .int i, r => by obtain ⟨t, q⟩ := (show ∃ t, _ = Value.int i t from r); cases q; exact ⟨_, .int i t⟩
  | _, _, _, .str x, r => by obtain ⟨t, q⟩ := (show ∃ t, _ = Value.str x t from r); cases q; exact ⟨_, .str x t⟩
  | _, _, _, .lst (a := a) h q, r => by
    cases (show _ = Value.ref a from r)
    obtain ⟨its, rv, p, hz⟩ := I.list h
    obtain ⟨as, ra⟩ := DenL.reads I q rv
    obtain ⟨o, ho, hc, n, hd⟩ := p.isList
    exact ⟨_, .list ho hc hd (by simpa using ra)⟩
  | _, _, _, .tup (a := a) h q, r => by
    cases (show _ = Value.ref a from r)
    obtain ⟨its, rv, p, hz⟩ := I.tuple h
    obtain ⟨as, ra⟩ := DenL.reads I q rv
    obtain ⟨o, ho, hc, n, hd⟩ := (show s.heap.IsTuple a its.toArray from p)
    exact ⟨_, .tuple ho hc hd (by simpa using ra)⟩
theorem DenL.reads (I : Inv X pins σ H s) : ∀ {vs : List V} {ds : List PyData} {us : List Value}, DenL X.K H vs ds -> Vals vs us -> ∃ as, ReadsAll s.heap us ds as
  | _, _, _, .nil, r => by cases r; exact ⟨_, .nil⟩
  | _, _, _, .cons h q, r => by
    cases r with
    | cons r1 r2 =>
      obtain ⟨as, ra⟩ := Den.reads I h r1
      obtain ⟨bs, rb⟩ := DenL.reads I q r2
      exact ⟨_, .cons ra rb⟩
end
end
section
variable {X : Cx}
def rEqD (K : Fg) : R2 := fun x y H Q => ∃ d e, Den K H x d /\ Den K H y e /\ SeqAt.shaped d = true /\ SeqAt.shaped e = true /\ Q (.bl (PyData.eqv d e)) H
def rNeD (K : Fg) : R2 := fun x y H Q => ∃ d e, Den K H x d /\ Den K H y e /\ SeqAt.shaped d = true /\ SeqAt.shaped e = true /\ Q (.bl (!PyData.eqv d e)) H
theorem ZmK (hu : X.A.units + 64 < cLine) : OpR X (compareOp .Eq) (rEqD X.K) := by
  intro pins s σ H x y v u Q I rx ry h
  obtain ⟨d, e, hd, he, s1, s2, q⟩ := h
  obtain ⟨as, ra⟩ := hd.reads I rx
  obtain ⟨bs, rb⟩ := he.reads I ry
  exact eq_dataH ra rb s1 s2 hu ⟨.bl _, H, I, rfl, q⟩
theorem ZmL (hu : X.A.units + 64 < cLine) : OpR X (compareOp .NotEq) (rNeD X.K) := by
  intro pins s σ H x y v u Q I rx ry h
  obtain ⟨d, e, hd, he, s1, s2, q⟩ := h
  obtain ⟨as, ra⟩ := hd.reads I rx
  obtain ⟨bs, rb⟩ := he.reads I ry
  exact ne_dataH ra rb s1 s2 hu ⟨.bl _, H, I, rfl, q⟩
def rSlS : V -> Option Int -> Option Int -> Hp -> VK -> Prop := fun x lo hi H Q => ∃ z, x = .str z /\ z.length <= sizeLine /\ Q (.str (Txt.slice z lo hi)) H
theorem ZqS : SlR X rSlS := by
  intro pins s σ H x v vl vu lo hi sl Q I rx hs pl pu h
  obtain ⟨z, rfl, hz, q⟩ := h
  obtain ⟨t, rfl⟩ := rx
  refine ⟨"str", _, F.slot_str_getitem.lookup, typeIs_str _ _ _, ?_⟩
  have fin : ∀ t' k, EP X pins σ Q (.str (Txt.slice z lo hi) t') { s with toks := k } := fun t' k => ⟨.str _, H, I.tok k, ⟨t', rfl⟩, q⟩
  have hle := Nat.le_trans (Txt.slice_le z lo hi) hz
  cases pl with
  | none =>
    cases pu with
    | none => exact wpAny_getItem_str_slice (l := none) (u := none) (st := none) hs rfl (post_val_or_str ⟨hle, fin⟩)
    | int j tj => exact wpAny_getItem_str_slice (l := none) (u := some (j, tj)) (st := none) hs rfl (post_val_or_str ⟨hle, fin⟩)
  | int i ti =>
    cases pu with
    | none => exact wpAny_getItem_str_slice (l := some (i, ti)) (u := none) (st := none) hs rfl (post_val_or_str ⟨hle, fin⟩)
    | int j tj => exact wpAny_getItem_str_slice (l := some (i, ti)) (u := some (j, tj)) (st := none) hs rfl (post_val_or_str ⟨hle, fin⟩)
theorem ZnF (c : V) (cu : Value) (rc : RelV c cu) (huniq : ∀ u, RelV c u -> u = cu) : Zbz X (.builtin "isinstance") (fun xs H Q => ∃ x t b, xs = [x, c] /\ TyOf X.K H x t /\ PySem.W.kitOne X.K t cu = some b /\ Q (.bl b) H) := by
  intro pins s σ H xs us Q I r h
  obtain ⟨x, t, b, rfl, ty, e, q⟩ := h
  obtain ⟨u, w', rfl, ru, rw'⟩ := r.two
  obtain rfl := huniq w' rw'
  exact Zm6 I ru ty e fun tk => ⟨.bl b, H, I.tok tk, rfl, q⟩
theorem Zi2 : ∀ (bs : List Bool) (us : List Value), Vals (bs.map V.bl) us -> us = bs.map Value.bool
  | [], us, r => by cases r; rfl
  | b :: bs, us, r => by
    cases r with
    | cons r1 r2 => rw [Zi2 bs _ r2, show _ = Value.bool b from r1]; rfl
theorem ZlU (bs : List Bool) : ((List.range bs.length).all fun i => (bs[i]?).getD true) = bs.all id := by
  (rw [Bool.eq_iff_iff, List.all_eq_true, List.all_eq_true])
  constructor
  . intro h b hb
    obtain ⟨i, hi, e⟩ := List.mem_iff_getElem.mp hb
    have q := h i (List.mem_range.mpr hi)
    rw [List.getElem?_eq_getElem hi, Option.getD_some, e] at q
    exact q
  . intro h i hi
    (have hi' := List.mem_range.mp hi)
    rw [List.getElem?_eq_getElem hi', Option.getD_some]
    (exact h _ (List.getElem_mem hi'))
theorem Zl4 {h h' : Heap} {o : Obj} (hk : ∀ b x, b ∉ [h.objs.size] -> (h.push o).get? b = some x -> h'.get? b = some x) : ∀ b x, h.get? b = some x -> h'.get? b = some x :=
  fun c o e => hk c o (fun hm => by rw [List.mem_singleton.mp hm] at e; exact Nat.lt_irrefl _ (Heap.lt_size e)) (Heap.get?_push_of_some _ e)
theorem ZnG (hc : X.calm = true) : Zbz X (.builtin "all") (fun xs H Q => ∃ (l : Addr) (bs : List Bool), xs = [.ref l] /\ SqL X.K H l (bs.map V.bl) /\ Q (.bl (bs.all id)) H) := by
  intro pins s σ H xs us Q I r h
  obtain ⟨l, bs, rfl, hl, q⟩ := h
  obtain ⟨u, rfl, ru⟩ := r.one
  cases (show u = Value.ref l from ru)
  obtain ⟨its, rv, p, hz⟩ := I.list hl
  have ei := Zi2 bs its rv
  have hlt : l < s.heap.objs.size := by obtain ⟨_, e, _⟩ := p.isList; exact Heap.lt_size e
  refine call_all_walk (wpAny_pyIter_list p.isList ?_)
  refine ⟨s.heap.objs.size, [s.heap.objs.size, l], [s.heap.objs.size], its.toArray.size, _, _, fun i => (bs[i]?).getD true, rfl, Walks.list (A := X.A.in1) (I.ok.hd hc) _ l (Nat.ne_of_lt hlt) its.toArray,
    ⟨⟨_, Heap.get?_push_size _ rfl, rfl, rfl⟩, p.isList.push _⟩, fun i v s' Q' E' hP hQ => ?_, fun h' tk hk => ?_⟩
  . have hP' : its[i]? = some v := by simpa using hP
    rw [ei, List.getElem?_map] at hP'
    cases e : bs[i]? with
    | none => rw [e] at hP'; cases hP'
    | some b =>
      rw [e] at hP'
      cases hP'
      (simp only [e, Option.getD_some] at hQ)
      exact wpAny_truthy_bool hQ
  . have e : ((List.range its.toArray.size).all fun i => (bs[i]?).getD true) = bs.all id := by
      rw [List.size_toArray, <- rv.length, List.length_map]
      exact ZlU bs
    rw [e]
    exact ⟨.bl _, H, I.kept (t' := tk) (Zl4 hk), rfl, q⟩
end
end L2
namespace L2
open PySem PySem.Spec PyProof.Rows
noncomputable def Its (x : Str) : It := ⟨fun i _ => i < x.cps.size, fun i H v H' => H' = H /\ ∃ c, x.cps[i]? = some c /\ v = .str ⟨#[c]⟩, fun i _ => x.cps.size <= i⟩
theorem ZnH {P : Program} {w : World} {K : Fg} {tg : Expr} (it : Addr) (x : Str) (t : Tok) {ty : String} (hty : ty = "str_ascii_iterator" \/ ty = "str_iterator") : Turn P w K tg (Its x) [it] it (fun i h => i <= x.cps.size /\ h.IsStrIter it ty x t i) where
  mem := by simp
  obj := fun i h st b hb => by
    have e : b = it := by simpa using hb
    subst e
    obtain ⟨_, o, e, c, d⟩ := st
    exact ⟨o, e, fun v z => by rw [d] at z; cases z⟩
  keep := fun i h h' st k => ⟨st.1, let ⟨o, ho, r⟩ := st.2; ⟨o, k it (by simp) o ho, r⟩⟩
  item := by
    intro X hP hw hK hc i pins s σ H E I hf st hg
    subst hP hw hK
    obtain ⟨f0, f1, f2, f3, f4, f5⟩ := hf it (by simp)
    have go : ∀ {W : Walks X.prog X.w X.A it [it] [it] x.cps.size (SignAt x) (fun i h => h.IsStrIter it ty x t i)}, wpAny (model X.prog X.w) X.A (pyNext (.ref it)) (fun r s1 => ∃ u, r = some u /\
      wpAny (model X.prog X.w) X.A (letOwnedTupleGo tg (.ref it) u) (fun _ s2 => ∃ v H', Inv X pins σ H' s2 /\ RelV v u /\ (Its x).yld i H v H' /\ (i + 1 <= x.cps.size /\ s2.heap.IsStrIter it ty x t (i + 1)) /\ ∀ b ∈ [it], H' b = none) E s1) E s := fun {W} => by
      refine W.item i s _ _ hg st.2 fun v h' tk hv st' kk => ?_
      obtain ⟨c, u, ec, rfl⟩ := hv
      have I1 : Inv X pins σ H { s with heap := h', toks := tk } := I.turned (fun b o hb e => kk b o (by simpa using hb) e) f0 f1 f3 f4 f5
      obtain ⟨o, e, cc, d⟩ := id st'
      refine ⟨_, rfl, Zkd (s := { s with heap := h', toks := tk }) e cc d ?_ ⟨.str ⟨#[c]⟩, H, I1, ⟨u, rfl⟩, ⟨rfl, c, ec, rfl⟩, ⟨hg, st'⟩, fun b hb => (hf b hb).1⟩⟩
      rcases hty with rfl | rfl <;> decide
    rcases hty with rfl | rfl
    . exact go (W := Walks.strAscii (I.ok.hd hc) it x t)
    . exact go (W := Walks.strWide (I.ok.hd hc) it x t)
  done := by
    intro X hP hw hK hc i pins s σ H E I hf st hg
    subst hP hw hK
    obtain ⟨f0, f1, f2, f3, f4, f5⟩ := hf it (by simp)
    obtain rfl : i = x.cps.size := Nat.le_antisymm st.1 hg
    rcases hty with rfl | rfl
    . exact (Walks.strAscii (prog := X.prog) (w := X.w) (I.ok.hd hc) it x t).done s _ _ st.2 fun h' tk kk => ⟨rfl, I.turned (fun b o hb e => kk b o (by simpa using hb) e) f0 f1 f3 f4 f5⟩
    . exact (Walks.strWide (prog := X.prog) (w := X.w) (I.ok.hd hc) it x t).done s _ _ st.2 fun h' tk kk => ⟨rfl, I.turned (fun b o hb e => kk b o (by simpa using hb) e) f0 f1 f3 f4 f5⟩
  self := fun A i s Q E st h => by
    rcases hty with rfl | rfl
    . exact wpAny_pyIter_striter_ascii st.2 h
    . exact wpAny_pyIter_striter_wide st.2 h
section
variable {X : Cx} {tg : Expr}
noncomputable def iStr (tl : TE) : TI := fun σ H R => tl σ H fun v H1 => ∃ x, v = .str x /\ R (Its x) H1
theorem ZqT {l : Expr} {tl : TE} (hl : PE X l tl) : PI X tg l (iStr tl) := by
  intro pins s σ H R I h
  refine thn (hl pins s σ H _ I h) fun v s1 ⟨y, H1, I1, r1, q1⟩ => ?_
  obtain ⟨x, e, q⟩ := q1
  subst e
  obtain ⟨t, rfl⟩ := r1
  have fin : ∀ (o : Obj) (ty : String), (ty = "str_ascii_iterator" \/ ty = "str_iterator") -> (s1.heap.push o).IsStrIter s1.heap.objs.size ty x t 0 -> PIE X pins σ tg R (.ref s1.heap.objs.size) { s1 with heap := s1.heap.push o } := fun o ty hty hit => by
    refine ⟨s1.heap.objs.size, [s1.heap.objs.size], _, _, H1, rfl, I1.kept (t' := s1.toks) fun b o e => Heap.get?_push_of_some _ e, ZnH _ x t hty, ⟨Nat.zero_le _, hit⟩, fun b hb => ?_, q⟩
    have e : b = s1.heap.objs.size := by simpa using hb
    subst e
    exact I1.fpOk (Nat.le_refl _) (I1.hok.fresh (Nat.le_refl _))
  (cases ha : x.cps.all (· < 128))
  . exact wpAny_pyIter_wide ha (fin _ _ (.inr rfl) ⟨_, Heap.get?_push_size _ rfl, rfl, rfl⟩)
  . exact wpAny_pyIter_ascii ha (fin _ _ (.inl rfl) ⟨_, Heap.get?_push_size _ rfl, rfl, rfl⟩)
end
end L2
namespace L2
open PySem PySem.Spec PyProof.Rows
structure FnAt (P : Program) (w : World) (K : Fg) (mg : Str -> Option Value) (base : Heap) (x : Str) (k : Nat) (ps : List Str) (sp : Sp) : Prop where
  ex : ∃ (f : Addr) (fd : FuncData), FnOk P w K mg base CX0 k f fd ps sp /\ mg x = some (.ref f) /\ PySem.W.keepIn K (.ref f) = true /\ Binds K fd ps []
section
variable {X : Cx} {x m : Str} {j n : Nat} {ps : List Str} {sp : Sp} {C : Addr} {e o : Expr} {es : List Expr} {ta : TE} {t : TA} {p pos apos : Pos}
theorem ZsH (G : FnAt X.prog X.w X.K X.mg X.base x j ps sp) (hr : Room n X.A) (ha : PA X (e :: es) t) (hj : j <= n := by decide) (hg : Gl X x := by rfl) (hdb : (x == ("__debug__" : Str)) = false := by decide)
    (he : starEach (e :: es) X.env = (false, eval e X.env) :: starEach es X.env := by rfl) (hpl : (backTo pos (starEach es X.env)).any (·.1) = false := by rfl) : PE X (.Call (.Name x p) (e :: es) [] pos) (Zo7 sp [] E0 t) := by
  obtain ⟨f, fd, F, hm, hk, hb⟩ := G.ex
  exact ZoX F (hr.mono hj) hg hm hk hb .nil ZsC ha hdb he hpl
end
theorem ZhX (j : Nat) (js : List Nat) (σ : St) : Zeq (j :: js) σ = (σ[j]?).join :: Zeq js σ := rfl
end L2
namespace L2
open PySem PySem.Spec PyProof.Rows
theorem ZfV : bootBuiltins "isinstance" = some (.builtin "isinstance") := by decide +kernel
theorem ZoB : bootBuiltins "int" = some (.type "int") := by decide +kernel
theorem ZmM : bootBuiltins "bool" = some (.type "bool") := by decide +kernel
theorem ZqU : bootBuiltins "list" = some (.type "list") := by decide +kernel
end L2
namespace L2
open PySem PySem.Spec PyProof.Rows
noncomputable def Zd (sc : Scope) (N : List Str) (i : Nat) (x : Str) (b : Bool) : Bool := N[i]? == some x && sc.names.lookup x == some (if b then .cell else .local) && !(x == ("__debug__" : Str)) && !(x == ("__classdict__" : Str))
noncomputable def Zer (sc : Scope) (N : List Str) (i : Nat) (x : Str) : Bool := N[i]? == some x && (sc.names.lookup x == some .cell || sc.names.lookup x == some .free) && !(x == ("__debug__" : Str)) && !(x == ("__classdict__" : Str))
noncomputable def glOk (sc : Scope) (x : Str) : Bool := sc.names.lookup x == some .globalImplicit && !(x == ("__debug__" : Str)) && !(x == ("__name__" : Str))
noncomputable def ZV (scope osc : Scope) : Scope :=
  { scope with names := scope.names.map fun (n, k) => if (k == .free && osc.kind == .function && osc.names.lookup n == some .cell) then (n, .cell) else (n, k) }
section
variable {X : Cx} {sc : Scope} {N : List Str} {i : Nat} {x : Str} {b : Bool} {pos : Pos}
theorem Zd.at (h : Zd sc N i x b = true) : N[i]? = some x /\ sc.names.lookup x = some (if b then .cell else .local) /\ (x == ("__debug__" : Str)) = false /\ (x == ("__classdict__" : Str)) = false := by
  unfold Zd at h
  (simp only [Bool.and_eq_true, Bool.not_eq_true'] at h)
  exact ⟨eq_of_beq h.1.1.1, eq_of_beq h.1.1.2, h.1.2, h.2⟩
theorem Zd.loc (h : Zd sc N i x b = true) : Loc sc x := by
  have q := (Zd.at h).2.1
  cases b
  . exact .inl q
  . exact .inr q
theorem pvs (h : Zd sc N i x b = true) (e1 : X.env.scope = sc := by rfl) (e2 : X.N = N := by rfl) : PE X (.Name x pos) (tVar i) := by
  obtain ⟨h1, h2, h3, h4⟩ := Zd.at h
  have l := Zd.loc h
  subst e1 e2
  refine Zmy h1 ?_ h3 h4
  rcases l with l | l
  . exact .inl l
  . exact .inr (.inl l)
theorem pvf (h : Zer sc N i x = true) (e1 : X.env.scope = sc := by rfl) (e2 : X.N = N := by rfl) : PE X (.Name x pos) (tVar i) := by
  unfold Zer at h
  simp only [Bool.and_eq_true, Bool.not_eq_true', Bool.or_eq_true] at h
  subst e1 e2
  refine Zmy (eq_of_beq h.1.1.1) ?_ h.1.2 h.2
  rcases h.1.1.2 with l | l
  . exact .inr (.inl (eq_of_beq l))
  . exact .inr (.inr (eq_of_beq l))
theorem glk (h : glOk sc x = true) (e1 : X.env.scope = sc := by rfl) : Gl X x := by
  unfold glOk at h
  (simp only [Bool.and_eq_true] at h)
  subst e1
  exact eq_of_beq h.1.1
theorem dbk (h : glOk sc x = true) : (x == ("__debug__" : Str)) = false := by
  unfold glOk at h
  (simp only [Bool.and_eq_true, Bool.not_eq_true'] at h)
  exact h.1.2
theorem nmk (h : glOk sc x = true) : x ≠ "__name__" := by
  unfold glOk at h
  (simp only [Bool.and_eq_true, Bool.not_eq_true'] at h)
  intro e
  have := h.2
  rw [e, beq_self_eq_true] at this
  cases this
theorem ZnI (h : Zd sc N i x b = true) (nd : N.Nodup) (e1 : X.env.scope = sc := by rfl) (e2 : X.N = N := by rfl) (hf : X.fn x = true \/ b = false := by first | exact .inl rfl | exact .inr rfl) : PG X (.Name x pos) (Zgp i) := by
  obtain ⟨h1, h2, h3, h4⟩ := Zd.at h
  have l := Zd.loc h
  subst e1 e2
  refine Zlu nd h1 l ?_
  rcases hf with q | q
  . exact .inl q
  . subst q
    exact .inr h2
noncomputable def Zfp (osc scope : Scope) (x : Str) : Bool := osc.kind == .function && osc.names.lookup x == some .local && !(scope.names.any fun (n, k) => n == x && (k == .local || k == .cell))
theorem ZlV {elt : Expr} {gens : List Comprehension} {scope osc : Scope} {pos' : Pos} {line : Nat} {env : Env} (h : Zfp osc scope x = true) (hl : (pos'.line == pos.line) = true) (e : env.scope = osc) :
    swapsWith (.ListComp elt gens scope pos) (some (.Name x pos')) line env = pure true := by
  subst e
  unfold Zfp at h
  (simp only [Bool.and_eq_true, Bool.not_eq_true'] at h)
  obtain ⟨⟨h1, h2⟩, h3⟩ := h
  show (pure (env.blockKind == .function && env.kindOf x == some .local && pos'.line == pos.line && !(scope.names.any fun (n, k) => n == x && (k == .local || k == .cell))) : Sem Bool) = pure true
  have hb : (env.blockKind == ScopeKind.function) = true := by
    unfold Env.blockKind
    rw [eq_of_beq h1]
    rfl
  have hk : (env.kindOf x == some NameKind.local) = true := h2
  rw [hb, hk, hl, h3]
  rfl
theorem ZnJ {elt tg iter : Expr} {ifs : List Expr} {scope : Scope} {spos pos' : Pos} {k : Nat} {js : List Nat} {N' : List Str} {wi : TI} {g : TG} {tif : TT} {te : TE}
    (h : Zd sc N i x false = true) (nd : N.Nodup) (hw : Zfp sc scope x = true)
    (hc : X.calm = true) (S : CompScope X k js N' scope) (hit : PI X tg iter wi)
    (hin : ∀ (cl : List (Str × Addr)) (C : Addr) (s₀ : Shared) (H₀ : Hp) (ex : List Addr), PG (cxC X N' scope cl C s₀ H₀ ex) tg g /\ PIf (cxC X N' scope cl C s₀ H₀ ex) ifs tif /\ PE (cxC X N' scope cl C s₀ H₀ ex) elt te)
    (hl : (pos'.line == pos.line) = true := by rfl) (e1 : X.env.scope = sc := by rfl) (e2 : X.N = N := by rfl)
    (hs : ∀ x, foldedSetIterable iter X.env x = pure x := by intro _; rfl) : PS X (.Assign [.Name x pos'] (.ListComp elt [⟨tg, iter, ifs, 0⟩] scope pos) spos) (tAsg (Zke k js wi g tif te) (Zgp i)) := by
  obtain ⟨h1, h2, h3, h4⟩ := Zd.at h
  have l := Zd.loc h
  have w := fun (e : X.env.scope = sc) => ZlV (elt := elt) (gens := [⟨tg, iter, ifs, 0⟩]) (pos := pos) (line := spos.line) hw hl e
  have w1 := w e1
  subst e1 e2
  exact Zpm nd h1 l hc S hit hin w1 (.inr h2) hs
end
end L2
namespace L2
open PySem
section
variable {A : Around} {M : Model} {s : Shared} {E : Value -> Shared -> Prop}
theorem ZlW {q : Pos} {T : String} {xs : List (Bool × Sem Value)} {ks : List (Option Str × Sem Value)} {Q : Value -> Shared -> Prop} (h1 : xs.any (·.1) = false) (h2 : ks.any (·.1.isNone) = false)
    (h : wpAny M A (evalArgs (.type T) true xs ks) (fun a s1 => wpAny M A (call (.type T) a.pos a.kw) Q E s1) E s) : wpAny M A (callWith q (.type T) [] xs ks) Q E s := by
  unfold callWith
  refine wpAny_bind (wpAny_holding (wpAny_mono h (fun a s1 z => wpAny_bind (wpAny_standAt ?_)) fun _ _ y => y))
  simp only [h1, h2, Bool.or_false]
  exact wpAny_bind (wpAny_pure (wpAny_bind (wpAny_mono z (fun r s2 y => wpAny_bind (wpAny_holding (wpAny_point (wpAny_pure y)))) fun _ _ y => y)))
end
section
variable {prog : Program} {w : World} {A : Around} {E : Value -> Shared -> Prop} {s : Shared}
theorem Zpn {T newId : String} {o : Value} {xs : List Value} {kw : List (Str × Value)} (hl : typeLookup (.type T) "__init__" = pure (some (.builtin "object.__init__"))) (hm : Bind.madeBy (.type T) = pure (some newId)) (hne : (some newId != some "object.__new__") = true) (hx : xs ≠ []) :
    Meets (Builtin.«object.__init__» ⟨o :: xs, kw⟩) (fun _ R s => s.TypeIs o T /\ R (.ok (.ret .none)) s) := by
  refine Meets.of_wp fun prog w A R s ⟨hT, hq⟩ => ?_
  cases xs with
  | nil => exact absurd rfl hx
  | cons a xs =>
    (repeat (any_goals (first | assumption | wp_step)))
    exact ⟨.none, rfl, hq⟩
theorem Zpo {T newId : String} {Bn : Builtin} {xs : List Value} {kw : List (Str × Value)} {S : Spec} {Q : Value -> Shared -> Prop} (ft : TypeCalled T newId "object.__init__") (hne : (some newId != some "object.__new__") = true)
    (c1 : checkTypeCall T ⟨xs, kw⟩ = pure ()) (c2 : checkBuiltinCall newId ⟨.type T :: xs, kw⟩ = pure ()) (c3 : ∀ o, argsOk "object.__init__" ⟨o :: xs, kw⟩) (hx : xs ≠ []) (en : entryFor table newId = some Bn) (g : Meets (Bn ⟨.type T :: xs, kw⟩) S)
    (h : S A.in1 (wants (fun o s1 => s1.TypeIs o T /\ Q o s1) E) s) : wpAny (model prog w) A (call (.type T) xs kw) Q E s := by
  obtain ⟨c, tl, hm⟩ := ft.mro
  have hmd := ft.made
  have hsb := ft.sub
  refine wpAny_call (codeAny_of_tree (show wpAny _ _ (callAny (.type T) _) _ _ _ from ?_))
  refine wpAny_pure (And.intro (Code.quiet_builtin _ (by decide +kernel)) (codeAny_builtin F.entry_type_call ?_))
  rw [Around.under_plain (weight_type_call_type T xs kw) (units_type_call_type T xs kw)]
  have n1 := ft.notType
  have n2 := ft.canCreate
  (repeat (any_goals (first | assumption | wp_step)))
  refine codeAny_mono (codeAny_call_builtin ft.plain en (wpAny_of_eq c2 (g prog w A.in1 _ s h))) fun r s1 hr => ?_
  cases r with
  | error e => exact hr
  | ok fl =>
    cases fl with
    | ret o =>
      obtain ⟨hT, hQ⟩ := hr
      have b1 := ft.init.lookup
      have b2 := ft.init.bind o
      (repeat (any_goals (first | assumption | wp_step)))
      refine codeAny_mono (codeAny_call_builtin ft.init.plain F.entry_object_init (ft.init.check _ _ _ _ _ _ _ _ hT (c3 o) (Zpn b1 hmd hne hx prog w A.in1 (wants (fun r s2 => r = .none /\ Q o s2) E) s1 ⟨hT, rfl, hQ⟩))) fun r2 s2 hr2 => ?_
      cases r2 with
      | error e => exact hr2
      | ok fl2 =>
        cases fl2 with
        | ret r =>
          obtain ⟨rfl, hq⟩ := hr2
          (repeat (any_goals (first | assumption | wp_step)))
        | _ => exact hr2.elim
    | _ => exact hr.elim
theorem ZqV {α β : Type} {M : Model} {A : Around} {E : Value -> Shared -> Prop} {s : Shared} {Q : β -> Shared -> Prop} {f : α -> Sem β} {x : α} (h : ∀ a, wpAny M A (f a) Q E s) : wpAny M A (f x) Q E s := h x
theorem ZmN (a : Value) (c : Int) (t : Tok) : checkTypeCall "enumerate" ⟨[a], [("start", .int c t)]⟩ = pure () := by kernel_rfl
theorem ZmO (a : Value) (c : Int) (t : Tok) : checkBuiltinCall "enumerate.__new__" ⟨[.type "enumerate", a], [("start", .int c t)]⟩ = pure () := by kernel_rfl
theorem ZmP (o a : Value) (c : Int) (t : Tok) : argsOk "object.__init__" ⟨[o, a], [("start", .int c t)]⟩ := by
  unfold argsOk; rw [signature?_of (id := "object.__init__") (n := ['_', '_', 't', 'i', 'n', 'i', '_', '_']) (o := ['t', 'c', 'e', 'j', 'b', 'o']) (by kernel_rfl) F.owner_object]; kernel_rfl
theorem ZqW (l : Addr) (its : Array Value) (c : Int) (t : Tok) (hc : Builtin.SmallTypes.fitsIndex c = true) :
    Meets (Builtin.«enumerate.__new__» ⟨[.type "enumerate", .ref l], [("start", .int c t)]⟩) (fun _ R s => s.heap.IsList l its /\ R (.ok (.ret (.ref (s.heap.push { cls := .type "list_iterator", data := .fields #[.ref l, .int 0 0] }).objs.size)))
        { s with heap := (s.heap.push { cls := .type "list_iterator", data := .fields #[.ref l, .int 0 0] }).push { cls := .type "enumerate", data := .fields #[.none, .bool false, .ref s.heap.objs.size, rawInt c, .none, .none] } }) :=
  .of_wp fun prog w A R s h => by
    obtain ⟨hp, gs, dr, tk, os⟩ := s
    obtain ⟨hL, h⟩ := h
    obtain ⟨⟨cl, dct, dt, sl⟩, hl, e1, n, e2⟩ := id hL
    replace e1 : cl = .type "list" := e1
    replace e2 : dt = .seq its n := e2
    subst e1 e2
    have hsub := sub_enumerate
    wp_walk using AutoSeq1.wpAny_loadPart' hl
    (refine wpAny_stack_any fun st => wpAny_pure ?_)
    refine ZqV fun short => ?_
    have hf : (!Builtin.SmallTypes.fitsIndex c) = false := by rw [hc]; rfl
    cases short
    . refine wpAny_bind (wpAny_of_eq (a := (Value.ref l, some (Value.int c t))) (by kernel_rfl) ?_)
      wp_walk using wpAny_pyIter_list hL
      exact ⟨_, rfl, h⟩
    . refine wpAny_bind (wpAny_of_eq (a := (Value.ref l, some (Value.int c t))) (by kernel_rfl) ?_)
      wp_walk using wpAny_pyIter_list hL
      exact ⟨_, rfl, h⟩
theorem Zpp {e it l : Addr} {i : Nat} {c : Int} {its : Array Value} {x old : Value} {Q : Option Value -> Shared -> Prop} (he : IsEnum s.heap e it c old) (hi : s.heap.IsListIter it l i) (hl : s.heap.IsList l its) (hx : its[i]? = some x) (ne : e ≠ it)
    (hQ : ∀ h', IsEnumOut h' e it (c + 1) x s.heap.objs.size -> h'.IsListIter it l (i + 1) -> h'.get? s.heap.objs.size = some { cls := .type "tuple", data := .seq #[.int c s.toks, x] } ->
      (∀ b o, b ≠ e -> b ≠ it -> s.heap.get? b = some o -> h'.get? b = some o) -> Q (some (.ref s.heap.objs.size)) { s with heap := h', toks := s.toks + 1 }) : wpAny (model prog w) A (pyNext (.ref e)) Q E s := by
  (have hT : s.TypeIs (.ref e) "enumerate" := ⟨_, he, rfl⟩)
  unfold pyNext
  refine wpAny_bind (wpAny_attempt (wpAny_callSpecial?_slot (name := Str.ofString "__next__") hT F.slot_enumerate_next (wpAny_call_entry F.slot_enumerate_next hT F.entry_enumerate_next ?_ (F.args_enumerate_next_1 _))))
  obtain ⟨hp, gs, dr, tk, os⟩ := s
  (have hel : e < hp.objs.size := Heap.lt_size he)
  show wpAny (model prog w) A.in1 (field (.ref e) 2 >>= _) _ _ _
  refine wpAny_bind (wpAny_field he rfl (x := .ref it) rfl (wpAny_bind (wpAny_nextOf_list_item hi hl hx fun g1 i1 k1 => ?_)))
  replace k1 : Heap.SameBut it hp g1 := k1
  have e1 : IsEnum g1 e it c old := (k1.2 e ne).trans he
  show wpAny (model prog w) A.in1 (field (.ref e) 3 >>= _) _ _ ⟨g1, gs, dr, tk, os⟩
  refine wpAny_bind (wpAny_field e1 rfl (x := rawInt c) rfl ?_)
  show wpAny (model prog w) A.in1 (field (.ref e) 4 >>= _) _ _ ⟨g1, gs, dr, tk, os⟩
  refine wpAny_bind (wpAny_field e1 rfl (x := .none) rfl ?_)
  show wpAny (model prog w) A.in1 (mkInt c >>= _) _ _ ⟨g1, gs, dr, tk, os⟩
  (refine wpAny_bind (wpAny_mkInt ?_))
  show wpAny (model prog w) A.in1 (setField (.ref e) 3 (rawInt (c + 1)) >>= _) _ _ ⟨g1, gs, dr, tk + 1, os⟩
  refine wpAny_bind (wpAny_setField_rec e1 (by simp) fun g2 e2 k2 => ?_)
  replace k2 : Heap.SameBut e g1 g2 := k2
  replace e2 : IsEnum g2 e it (c + 1) old := e2
  show wpAny (model prog w) A.in1 (setField (.ref e) 4 .none >>= _) _ _ ⟨g2, gs, dr, tk + 1, os⟩
  refine wpAny_bind (wpAny_setField_rec e2 (by simp) fun g3 e3 k3 => ?_)
  replace k3 : Heap.SameBut e g2 g3 := k3
  replace e3 : IsEnum g3 e it (c + 1) old := e3
  have z3 : g3.objs.size = hp.objs.size := by rw [k3.1, k2.1, k1.1]
  show wpAny (model prog w) A.in1 (newTuple [.int c tk, x] >>= _) _ _ ⟨g3, gs, dr, tk + 1, os⟩
  (refine wpAny_bind (wpAny_newTuple ?_))
  have e4 : IsEnum (g3.push { cls := .type "tuple", data := .seq #[.int c tk, x] }) e it (c + 1) old := Heap.get?_push_of_some _ e3
  have t4 : (g3.push { cls := .type "tuple", data := .seq #[.int c tk, x] }).get? hp.objs.size = some { cls := .type "tuple", data := .seq #[.int c tk, x] } := by rw [<- z3]; exact Heap.get?_push_size _ rfl
  have i4 : (g3.push { cls := .type "tuple", data := .seq #[.int c tk, x] }).IsListIter it l (i + 1) := by
    obtain ⟨o, ho, r⟩ := (i1.extBut k2.extBut (Ne.symm ne)).extBut k3.extBut (Ne.symm ne)
    exact ⟨o, Heap.get?_push_of_some _ ho, r⟩
  have b4 : ∀ b o, b ≠ e -> b ≠ it -> hp.get? b = some o -> (g3.push { cls := .type "tuple", data := .seq #[.int c tk, x] }).get? b = some o := fun b o n1 n2 y => Heap.get?_push_of_some _ (k3.extBut b o n1 (k2.extBut b o n1 (k1.extBut b o n2 y)))
  generalize g3.push { cls := .type "tuple", data := .seq #[.int c tk, x] } = g4 at e4 t4 i4 b4 ⊢
  rw [z3]
  show wpAny (model prog w) A.in1 (Builtin.SmallTypes.ownedTupleIsFree (.ref e) >>= _) _ _ ⟨g4, gs, dr, tk + 1, os⟩
  clear e3 k3 e2 k2 e1 k1 i1 z3 g3 g2 g1
  refine wpAny_bind ?_
  (unfold Builtin.SmallTypes.ownedTupleIsFree)
  refine wpAny_bind (wpAny_field e4 rfl (x := .none) rfl (wpAny_pure ?_))
  simp only [if_true]
  refine wpAny_bind (wpAny_rule (wpAny_bind (wpAny_field e4 rfl (x := old) rfl (wpAny_bind (wpAny_setField_rec e4 (by simp) fun g5 e5 k5 => ?_)))))
  replace k5 : Heap.SameBut e g4 g5 := k5
  replace e5 : IsEnum g5 e it (c + 1) x := e5
  show wpAny (model prog w) A.in1 (Builtin.SmallTypes.ownedTupleHandOut (.ref e) (.ref hp.objs.size) >>= _) _ _ ⟨g5, gs, dr, tk + 1, os⟩
  refine wpAny_bind ?_
  (unfold Builtin.SmallTypes.ownedTupleHandOut)
  refine wpAny_bind (wpAny_setField_rec e5 (by simp) fun g6 e6 k6 => ?_)
  replace k6 : Heap.SameBut e g5 g6 := k6
  replace e6 : IsEnumOut g6 e it (c + 1) x hp.objs.size := e6
  refine wpAny_setField_rec e6 (by simp) fun g7 e7 k7 => ?_
  replace k7 : Heap.SameBut e g6 g7 := k7
  replace e7 : IsEnumOut g7 e it (c + 1) x hp.objs.size := e7
  have up : ∀ b o, b ≠ e -> g4.get? b = some o -> g7.get? b = some o := fun b o n y => k7.extBut b o n (k6.extBut b o n (k5.extBut b o n y))
  refine wpAny_bind (wpAny_letGo (wpAny_pure ⟨_, rfl, wpAny_pure (hQ g7 e7 ?_ (up _ _ (Nat.ne_of_gt hel) t4) fun b o n1 n2 y => up b o n1 (b4 b o n1 n2 y))⟩))
  exact ((i4.extBut k5.extBut (Ne.symm ne)).extBut k6.extBut (Ne.symm ne)).extBut k7.extBut (Ne.symm ne)
theorem ZqX {e it l : Addr} {i : Nat} {c : Int} {its : Array Value} {old : Value} {Q : Option Value -> Shared -> Prop} (hh : A.handled = none) (he : IsEnum s.heap e it c old) (hi : s.heap.IsListIter it l i) (hl : s.heap.IsList l its) (hx : its[i]? = none)
    (hQ : ∀ g, Heap.ExtBut it s.heap g -> Q none { s with heap := g }) : wpAny (model prog w) A (pyNext (.ref e)) Q E s := by
  (have hT : s.TypeIs (.ref e) "enumerate" := ⟨_, he, rfl⟩)
  unfold pyNext
  refine wpAny_bind (wpAny_attempt (wpAny_callSpecial?_slot (name := Str.ofString "__next__") hT F.slot_enumerate_next (wpAny_call_entry F.slot_enumerate_next hT F.entry_enumerate_next ?_ (F.args_enumerate_next_1 _))))
  show wpAny (model prog w) A.in1 (field (.ref e) 2 >>= _) _ _ _
  refine wpAny_bind (wpAny_field he rfl (x := .ref it) rfl (wpAny_bind (wpAny_nextOf_list_end hh hi hl hx fun h' y b1 ⟨o, b2, b3⟩ => ?_)))
  exact wpAny_bind (wpAny_isInstance (T := "StopIteration") (b := true) ⟨o, b2, b3⟩ isSubtype_stop (wpAny_pure (hQ _ b1)))
theorem Zpq {l : Addr} {its : Array Value} {c : Int} {t : Tok} {Q : Value -> Shared -> Prop} (hL : s.heap.IsList l its) (hc : Builtin.SmallTypes.fitsIndex c = true)
    (h : ∀ h', IsEnum h' (s.heap.objs.size + 1) s.heap.objs.size c .none -> h'.IsListIter s.heap.objs.size l 0 -> (∀ b o, s.heap.get? b = some o -> h'.get? b = some o) -> Q (.ref (s.heap.objs.size + 1)) { s with heap := h' }) :
    wpAny (model prog w) A (call (.type "enumerate") [.ref l] [("start", .int c t)]) Q E s := by
  refine Zpo F.called_enumerate (by decide) (ZmN _ _ _) (ZmO _ _ _) (fun o => ZmP o _ _ _) (by simp) F.entry_enumerate_new (ZqW l its c t hc) ⟨hL, ?_⟩
  have hz := Heap.size_push s.heap { cls := .type "list_iterator", data := .fields #[.ref l, .int 0 0] }
  show _ /\ Q (.ref _) _
  rw [hz]
  have y := Heap.get?_push_size (s.heap.push { cls := .type "list_iterator", data := .fields #[.ref l, .int 0 0] }) (o := { cls := .type "enumerate", data := .fields #[.none, .bool false, .ref s.heap.objs.size, rawInt c, .none, .none] }) rfl
  rw [hz] at y
  exact ⟨⟨_, y, rfl⟩, h _ y ⟨_, Heap.get?_push_of_some _ (Heap.get?_push_size _ rfl), rfl, rfl⟩ fun b o x => Heap.get?_push_of_some _ (Heap.get?_push_of_some _ x)⟩
end
end L2
namespace L2
open PySem PySem.Spec
section
variable {X : Cx} {pins : List (Addr × Obj)} {σ : St} {H : Hp} {s : Shared} {h' : Heap}
theorem Inv.turnedL {t' : Nat} {fp : List Addr} (I : Inv X pins σ H s) (k : ∀ b o, b ∉ fp -> s.heap.get? b = some o -> h'.get? b = some o) (hf : ∀ b ∈ fp, FpOk X pins H b) : Inv X pins σ H { s with heap := h', toks := t' } := by
  have nf : ∀ b u, H b = some u -> b ∉ fp := fun b u e z => by rw [(hf b z).1] at e; cases e
  have hL : X.env.locals ∉ fp := fun z => (hf _ z).2.1 rfl
  refine I.step (g' := s.gens) (d' := s.drawn) (ch := fp) (fun b hb => ?_) (fun b o _ _ hc e _ => k b o hc e) (fun b o _ _ hc e _ => ⟨o.slots, k b o hc e⟩) (fun _ _ _ _ n => n) (fun b o hc e => ⟨o, k b o hc e⟩)
    (fun _ _ e => e) (fun _ _ _ e => e) (fun b ps e => ⟨#[], by rw [e]; simp⟩) (fun m hm => ?_) (fun b u e => ?_) I.bare
  . obtain ⟨f0, f1, f2, f3, f4, f5⟩ := hf b hb
    exact ⟨f3, f1, f4, f5⟩
  . obtain ⟨o, es, ep, ho, r⟩ := hm
    exact ⟨o, es, ep, k _ o hL ho, r⟩
  . refine (I.hok b u e).stay (fun c v hc q => k c v ?_ q) (fun _ q => q) fun _ _ q => q
    exact hc.elim (fun z => by rw [z]; exact nf b u e) fun z => nf c _ z
theorem Zlb {h : Heap} {o o' : Obj} {b : Addr} (hb : b < h.objs.size) (e : (h.push o).get? b = some o') : h.get? b = some o' := by
  (obtain ⟨e1, e2⟩ := Heap.get?_some_iff.mp e)
  refine Heap.get?_some_iff.mpr ⟨?_, e2⟩
  cases h
  simpa [Heap.push, Array.getElem?_push, Nat.ne_of_lt hb] using e1
theorem Inv.laidT {t' : Nat} {fp : List Addr} {xs : List V} {us : List Value} (I : Inv X pins σ H s) (r : Vals xs us) (hz : xs.length <= sizeLine) (ht : h'.get? s.heap.objs.size = some { cls := .type "tuple", data := .seq us.toArray })
    (k : ∀ b o, b ∉ fp -> s.heap.get? b = some o -> h'.get? b = some o) (hf : ∀ b ∈ fp, FpOk X pins H b) (hlt : ∀ b ∈ fp, b < s.heap.objs.size) : Inv X pins σ (upd H s.heap.objs.size (.tup xs)) { s with heap := h', toks := t' } := by
  have I1 : Inv X pins σ (upd H s.heap.objs.size (.tup xs)) { s with heap := s.heap.push { cls := .type "tuple", data := .seq us.toArray }, toks := t' } :=
    I.laid (fun b u e => Heap.get?_push_of_some _ e) (Nat.le_refl _) ⟨hz, us, r, ⟨_, Heap.get?_push_size _ rfl, rfl, _, rfl⟩⟩
  refine (fun (go : ∀ b o, b ∉ fp -> (s.heap.push { cls := .type "tuple", data := .seq us.toArray }).get? b = some o -> h'.get? b = some o) => ?_) fun b o hb e => ?_
  . exact Inv.turnedL (s := { s with heap := s.heap.push { cls := .type "tuple", data := .seq us.toArray }, toks := t' }) (fp := fp) (t' := t') (h' := h') I1 go fun b hb => ⟨by rw [ZC (Nat.ne_of_lt (hlt b hb))]; exact (hf b hb).1, (hf b hb).2⟩
  . by_cases hq : b = s.heap.objs.size
    . subst hq
      rw [Heap.get?_push_size _ rfl] at e
      rw [<- e]
      exact ht
    . have : b < s.heap.objs.size := by
        have := Heap.lt_size e
        rw [Heap.size_push] at this
        exact Nat.lt_of_le_of_ne (Nat.le_of_lt_succ this) hq
      exact k b o hb (Zlb this e)
end
noncomputable def Ite (K : Fg) (a : Addr) (c : Int) : It where
  go i H := ∃ xs x, SqL K H a xs /\ xs[i]? = some x
  yld i H x H' := ∃ A y, x = .ref A /\ H A = none /\ H' = upd H A (.tup [.int (c + i), y]) /\ ∀ xs, SqL K H a xs -> xs[i]? = some y
  stop i H := ∃ xs, SqL K H a xs /\ xs.length <= i
theorem ZmQ {P : Program} {w : World} {K : Fg} {es : List Expr} {k1 : Nat} {pos : Pos} (a e it : Addr) (c : Int) (ne : e ≠ it) : Turn P w K (.Tuple es k1 pos) (Ite K a c) [e, it] e (fun i h => (∃ old, IsEnum h e it (c + (i : Nat)) old) /\ h.IsListIter it a i) where
  mem := by simp
  obj := fun i h st b hb => by
    obtain ⟨⟨old, he⟩, o, e1, e2, e3⟩ := st
    (rcases List.mem_cons.mp hb with rfl | hb)
    . exact ⟨_, he, fun v z => by
        have z' : Data.fields _ = Data.cell v := z
        cases z'⟩
    . have : b = it := by simpa using hb
      subst this
      exact ⟨o, e1, fun v z => by rw [e3] at z; cases z⟩
  keep := fun i h h' st k => ⟨st.1.imp fun old he => k e (by simp) _ he, st.2.at fun o y => k it (by simp) o y⟩
  item := by
    intro X hP hw hK hc i pins s σ H E I hf st hg
    subst hP hw hK
    obtain ⟨xs, x, hq, hx⟩ := hg
    obtain ⟨its, rv, p, hz⟩ := I.list hq
    obtain ⟨u, hu, ru⟩ := rv.get hx
    obtain ⟨⟨old, he⟩, hi⟩ := st
    have le : e < s.heap.objs.size := Heap.lt_size he
    have li : it < s.heap.objs.size := by obtain ⟨_, y, _⟩ := hi; exact Heap.lt_size y
    have lt : ∀ b ∈ [e, it], b < s.heap.objs.size := fun b hb => by
      (rcases List.mem_cons.mp hb with rfl | hb)
      . exact le
      . rw [List.mem_singleton.mp hb]; exact li
    refine Zpp he hi p.isList (x := u) (by simpa using hu) ne fun h' ho hi' ht hk => ⟨_, rfl, ?_⟩
    refine wpAny_letOwnedTupleGo_enum ho fun h2 he2 hs2 => ?_
    have up : ∀ b o, b ≠ e -> h'.get? b = some o -> h2.get? b = some o := fun b o n y => hs2.extBut b o n y
    have I2 := I.laidT (fp := [e, it]) (h' := h2) (t' := s.toks + 1) (xs := [.int (c + i), x]) (us := [.int (c + i) s.toks, u]) (.cons ⟨_, rfl⟩ (.cons ru .nil)) (by simp [sizeLine])
      (up _ _ (Nat.ne_of_gt le) ht) (fun b o hb y => up b o (fun z => hb (by simp [z])) (hk b o (fun z => hb (by simp [z])) (fun z => hb (by simp [z])) y)) hf lt
    refine ⟨.ref s.heap.objs.size, _, I2, rfl, ⟨_, x, rfl, I.hok.fresh (Nat.le_refl _), rfl, fun ys hy => by rw [I.list_inj hy hq]; exact hx⟩, ⟨⟨u, ?_⟩, hi'.at fun o y => up it o (Ne.symm ne) y⟩, fun b hb => ?_⟩
    . have z : c + ((i + 1 : Nat) : Int) = c + i + 1 := by omega
      rw [z]
      exact he2
    . rw [ZC (Nat.ne_of_lt (lt b hb))]
      exact (hf b hb).1
  done := by
    intro X hP hw hK hc i pins s σ H E I hf st hg
    subst hP hw hK
    obtain ⟨xs, hq, hx⟩ := hg
    obtain ⟨its, rv, p, hz⟩ := I.list hq
    obtain ⟨⟨old, he⟩, hi⟩ := st
    have hl := rv.length
    exact ZqX (I.ok.hd hc) he hi p.isList (by simp; omega) fun h' eb => ⟨rfl, I.turnedL (t' := s.toks) (fun b o hb y => eb b o (fun z => hb (by simp [z])) y) hf⟩
  self := fun _ _ _ _ _ st h => by
    obtain ⟨⟨old, he⟩, _⟩ := st
    exact wpAny_pyIter_enum he h
section
variable {X : Cx} {es : List Expr} {k1 : Nat} {l ke : Expr} {t : TA} {p pos q kp : Pos} {c : Int}
noncomputable def ZlX (K : Fg) (c : Int) (t : TA) : TI := fun σ H R => t σ H fun vs H1 => ∃ a, vs = [.ref a] /\ (∃ xs, SqL K H1 a xs) /\ R (Ite K a c) H1
theorem ZoC {pins : List (Addr × Obj)} {σ : St} {H : Hp} {s : Shared} {h' : Heap} {R : It -> Hp -> Prop} {E : Value -> Shared -> Prop} {a : Addr} (I : Inv X pins σ H s) (he : IsEnum h' (s.heap.objs.size + 1) s.heap.objs.size c .none) (hi : h'.IsListIter s.heap.objs.size a 0)
    (hk : ∀ b o, s.heap.get? b = some o -> h'.get? b = some o) (z : R (Ite X.K a c) H) : wpAny (model X.prog X.w) X.A (pyIter (.ref (s.heap.objs.size + 1))) (PIE X pins σ (.Tuple es k1 q) R) E { s with heap := h' } := by
  refine wpAny_pyIter_enum he ⟨_, [s.heap.objs.size + 1, s.heap.objs.size], _, _, H, rfl, I.kept (t' := s.toks) hk, ZmQ a _ _ c (Nat.succ_ne_self _), ⟨⟨_, by simpa using he⟩, hi⟩, fun b hb => ?_, z⟩
  have : s.heap.objs.size <= b := by
    (rcases List.mem_cons.mp hb with rfl | hb)
    . omega
    . rw [List.mem_singleton.mp hb]; exact Nat.le_refl _
  exact I.fpOk this (I.hok.fresh this)
theorem Zpr (hg : Gl X "enumerate") (hm : X.mg "enumerate" = none) (ha : PA X [l] t) (hs : starEach [l] X.env = [(false, eval l X.env)] := by rfl) : PI X (.Tuple es k1 q) (.Call (.Name "enumerate" p) [l] [] pos) (ZlX X.K 0 t) := by
  intro pins s σ H R I h
  refine PyProof.Rows.Call_ (ZfT I hg hm PyProof.Rows.boot_enumerate (PyProof.Rows.callWith_type1 (thn (ha pos pins s σ H _ I h) fun us s1 ⟨vs, H1, I1, r1, q1⟩ => ?_) hs rfl))
  obtain ⟨a, e, ⟨xs, hq⟩, z⟩ := q1
  subst e
  cases r1 with
  | cons r rr =>
    cases rr
    cases r
    obtain ⟨its, rv, pl, hz⟩ := I1.list hq
    exact call_enumerate_list pl.isList fun h' he hi _ hk => ZoC I1 he hi hk z
theorem ZnK (hg : Gl X "enumerate") (hm : X.mg "enumerate" = none) (ha : PA X [l] t) (hke : PE X ke (tC (.int c))) (hc : Builtin.SmallTypes.fitsIndex c = true) (hs : starEach [l] X.env = [(false, eval l X.env)] := by rfl) : PI X (.Tuple es k1 q) (.Call (.Name "enumerate" p) [l] [⟨some "start", ke, kp⟩] pos) (ZlX X.K c t) := by
  intro pins s σ H R I h
  refine wpAny_Call_Name_kw (ZfT I hg hm PyProof.Rows.boot_enumerate (ZlW (by rw [hs]; rfl) rfl ?_))
  rw [hs]
  refine PyProof.Rows.evalArgs_kwB rfl ?_
  have ha' := ha pos pins s σ H _ I h
  rw [hs] at ha'
  refine thn ha' fun us s1 ⟨vs, H1, I1, r1, q1⟩ => ?_
  obtain ⟨a, e, ⟨xs, hq⟩, z⟩ := q1
  subst e
  cases r1 with
  | cons r rr =>
    cases rr
    cases r
    refine thn (ZoY (nm := some "start") (kpos := kp) hke ZqE pos pins s1 σ H1 (fun vs H2 => vs = [.int c] /\ H2 = H1) I1 ⟨rfl, rfl⟩) fun ws s2 ⟨zs, H2, I2, r2, e1, e2⟩ => ?_
    subst e1 e2
    cases r2 with
    | cons r rr =>
      cases rr
      obtain ⟨tt, rfl⟩ := r
      obtain ⟨its, rv, pl, hz⟩ := I2.list hq
      exact Zpq pl.isList hc fun h' he hi hk => ZoC I2 he hi hk z
end
end L2
namespace T
open PySem L2
inductive Kd where
  | lst | frl | tup | ftp | dic (ks : List Key) | ins (C : Addr) (fs : List Str) | exc (ns : List Str) (fr : Bool) (fs : List Str)
  deriving DecidableEq
inductive D where
  | sc (v : V) | hole | node (k : Kd) (o : Bool) (ds : List D)
mutual
noncomputable def shr : D -> D
  | .sc v => .sc v
  | .hole => .hole
  | .node k _ ds => .node k false (shrL ds)
noncomputable def shrL : List D -> List D
  | [] => []
  | d :: ds => shr d :: shrL ds
end
def ZgN (K : Fg) (H : Hp) (a : Addr) (vs : List V) : Kd -> Prop
  | .lst => H a = some (.lst vs)
  | .frl => SqL K H a vs
  | .tup => H a = some (.tup vs)
  | .ftp => SqT K H a vs
  | .dic ks => ks.length = vs.length /\ H a = some (.dK (ks.zip vs))
  | .ins C fs => fs.length = vs.length /\ ∃ dx, H a = some (.ins C dx (fs.zip vs))
  | .exc ns fr fs => fs.length = vs.length /\ ∃ C dx, XN K ns C /\ H a = some (.exc C dx fr (fs.zip vs))
def Zdl (K : Fg) (H : Hp) (a : Addr) (vs : List V) : Kd -> Prop
  | .lst => H a = some (.lst vs)
  | .frl => False
  | .tup => H a = some (.tup vs)
  | .ftp => False
  | .dic ks => ks.length = vs.length /\ H a = some (.dK (ks.zip vs))
  | .ins C fs => fs.length = vs.length /\ ∃ dx, H a = some (.ins C dx (fs.zip vs))
  | .exc ns fr fs => fs.length = vs.length /\ ∃ C dx, XN K ns C /\ H a = some (.exc C dx fr (fs.zip vs))
theorem Zdl.r {K : Fg} {H : Hp} {a : Addr} {vs : List V} {k : Kd} (h : Zdl K H a vs k) : ZgN K H a vs k := by
  cases k with
  | lst => exact h
  | frl => exact h.elim
  | tup => exact h
  | ftp => exact h.elim
  | dic ks => exact h
  | ins C fs => exact h
  | exc ns fr fs => exact h
theorem Zdl.at {K : Fg} {H : Hp} {a : Addr} {vs : List V} {k : Kd} (h : Zdl K H a vs k) : H a ≠ none := by
  cases k with
  | lst => rw [show H a = _ from h]; simp
  | frl => exact h.elim
  | tup => rw [show H a = _ from h]; simp
  | ftp => exact h.elim
  | dic ks => rw [h.2]; simp
  | ins C fs => obtain ⟨_, dx, e⟩ := h; rw [e]; simp
  | exc ns fr fs => obtain ⟨_, C, dx, _, e⟩ := h; rw [e]; simp
theorem Zdl.eq {K : Fg} {H H' : Hp} {a : Addr} {vs : List V} {k : Kd} (h : Zdl K H a vs k) (e : H' a = H a) : Zdl K H' a vs k := by
  cases k with
  | lst => exact e.trans h
  | frl => exact h.elim
  | tup => exact e.trans h
  | ftp => exact h.elim
  | dic ks => exact ⟨h.1, e.trans h.2⟩
  | ins C fs => obtain ⟨l, dx, q⟩ := h; exact ⟨l, dx, e.trans q⟩
  | exc ns fr fs => obtain ⟨l, C, dx, x, q⟩ := h; exact ⟨l, C, dx, x, e.trans q⟩
theorem Same.tupq' {K : Fg} {H H' : Hp} {a : Addr} {xs : List V} (e : Same H H') (h : SqT K H a xs) : SqT K H' a xs := by
  rcases h with (h | ⟨o, h⟩) | h
  . exact .inl (.inl (e _ _ h))
  . exact .inl (.inr ⟨o, e _ _ h⟩)
  . exact .inr h
theorem ZgN.same {K : Fg} {H H' : Hp} {a : Addr} {vs : List V} {k : Kd} (e : Same H H') (h : ZgN K H a vs k) : ZgN K H' a vs k := by
  cases k with
  | lst => exact e _ _ h
  | frl => exact e.seq h
  | tup => exact e _ _ h
  | ftp => exact Same.tupq' e h
  | dic ks => exact ⟨h.1, e _ _ h.2⟩
  | ins C fs => obtain ⟨l, dx, q⟩ := h; exact ⟨l, dx, e _ _ q⟩
  | exc ns fr fs => obtain ⟨l, C, dx, x, q⟩ := h; exact ⟨l, C, dx, x, e _ _ q⟩
noncomputable abbrev Bud := Addr -> Nat
noncomputable def one (a : Addr) : Bud := fun b => if b = a then 1 else 0
mutual
inductive Rep (K : Fg) (H Hs : Hp) : V -> D -> Bud -> Prop
  | sc (v : V) (m : Bud) : Rep K H Hs v (.sc v) m
  | hole (v : V) (m : Bud) : Rep K H Hs v .hole m
  | own {a : Addr} {k : Kd} {vs : List V} {ds : List D} {m m' : Bud} : Zdl K H a vs k -> RepL K H Hs vs ds m' -> (∀ b, one a b + m' b <= m b) -> Rep K H Hs (.ref a) (.node k true ds) m
  | shd {a : Addr} {k : Kd} {vs : List V} {ds : List D} {m : Bud} : ZgN K Hs a vs k -> RepL K H Hs vs ds (fun _ => 0) -> Rep K H Hs (.ref a) (.node k false ds) m
inductive RepL (K : Fg) (H Hs : Hp) : List V -> List D -> Bud -> Prop
  | nil (m : Bud) : RepL K H Hs [] [] m
  | cons {v : V} {d : D} {vs : List V} {ds : List D} {m1 m2 m : Bud} : Rep K H Hs v d m1 -> RepL K H Hs vs ds m2 -> (∀ b, m1 b + m2 b <= m b) -> RepL K H Hs (v :: vs) (d :: ds) m
end
structure Good (H Hs : Hp) (M : Bud) : Prop where
  sub : Same Hs H
  le : ∀ b, M b <= 1
  ne : ∀ b, M b = 1 -> Hs b = none
  has : ∀ b, M b = 1 -> H b ≠ none
structure Stp (H Hs : Hp) (M : Bud) (H' Hs' : Hp) (M' : Bud) : Prop where
  keep : ∀ b o, H b = some o -> M b = 0 -> H' b = some o
  own : ∀ b, M' b = 1 -> M b = 1 \/ H b = none
  grow : Same Hs Hs'
  shr : ∀ b, Hs b = none -> Hs' b ≠ none -> M b = 1 \/ H b = none
  stay : ∀ b, H b ≠ none -> H' b ≠ none
section
variable {K : Fg} {H Hs H' Hs' H1 Hs1 H2 Hs2 : Hp} {M M' M1 M2 m m1 m2 m' : Bud}
mutual
theorem Rep.mono : ∀ {v : V} {d : D} {m m' : Bud}, Rep K H Hs v d m -> (∀ b, m b <= m' b) -> Rep K H Hs v d m'
  | _, _, _, _, .sc v _, _ => .sc v _
  | _, _, _, _, .hole v _, _ => .hole v _
  | _, _, _, _, .own n r h, l => .own n r fun b => Nat.le_trans (h b) (l b)
  | _, _, _, _, .shd n r, _ => .shd n r
end
theorem RepL.mono {vs : List V} {ds : List D} {m m' : Bud} (h : RepL K H Hs vs ds m) (l : ∀ b, m b <= m' b) : RepL K H Hs vs ds m' := by
  cases h with
  | nil => exact .nil _
  | cons a b c => exact .cons a b fun x => Nat.le_trans (c x) (l x)
mutual
theorem Rep.frame (g : Same Hs Hs') : ∀ {v : V} {d : D} {m : Bud}, (∀ b, m b ≥ 1 -> H b ≠ none -> H' b = H b) -> Rep K H Hs v d m -> Rep K H' Hs' v d m
  | _, _, _, _, .sc v _ => .sc v _
  | _, _, _, _, .hole v _ => .hole v _
  | _, _, m, k, .own (a := a) (m' := m') n r h => by
    have h1 : m a ≥ 1 := by have := h a; simp only [one, if_pos] at this; omega
    refine .own (n.eq (k a h1 n.at)) (RepL.frame g (fun b hb hn => k b ?_ hn) r) h
    have := h b
    omega
  | _, _, _, k, .shd n r => .shd (n.same g) (RepL.frame g (fun b hb => absurd hb (by simp)) r)
theorem RepL.frame (g : Same Hs Hs') : ∀ {vs : List V} {ds : List D} {m : Bud}, (∀ b, m b ≥ 1 -> H b ≠ none -> H' b = H b) -> RepL K H Hs vs ds m -> RepL K H' Hs' vs ds m
  | _, _, _, _, .nil _ => .nil _
  | _, _, m, k, .cons (m1 := m1) (m2 := m2) x y h => by
    refine .cons (Rep.frame g (fun b hb => k b ?_) x) (RepL.frame g (fun b hb => k b ?_) y) h
    . have := h b; omega
    . have := h b; omega
end
theorem Good.drop (g : Good H Hs M) (l : ∀ b, M' b <= M b) : Good H Hs M' :=
  ⟨g.sub, fun b => Nat.le_trans (l b) (g.le b), fun b h => g.ne b (by have := l b; have := g.le b; omega), fun b h => g.has b (by have := l b; have := g.le b; omega)⟩
theorem Stp.drop (s : Stp H Hs M H' Hs' M1) (l : ∀ b, M2 b <= M1 b) (le : ∀ b, M1 b <= 1) : Stp H Hs M H' Hs' M2 :=
  ⟨s.keep, fun b h => s.own b (by have := l b; have := le b; omega), s.grow, s.shr, s.stay⟩
theorem Stp.refl (H Hs : Hp) (M : Bud) : Stp H Hs M H Hs M := ⟨fun _ _ h _ => h, fun _ h => .inl h, Same.refl _, fun _ h h' => absurd h h', fun _ h => h⟩
theorem ZA (g : Good H Hs M) (g1 : Good H1 Hs1 (fun b => m1 b + M1 b)) (s1 : Stp H Hs M H1 Hs1 (fun b => m1 b + M1 b)) (g2 : Good H2 Hs2 M2) (s2 : Stp H1 Hs1 M1 H2 Hs2 M2) :
    Good H2 Hs2 (fun b => m1 b + M2 b) /\ Stp H Hs M H2 Hs2 (fun b => m1 b + M2 b) /\ (∀ b, m1 b ≥ 1 -> H1 b ≠ none -> H2 b = H1 b) := by
  have d : ∀ b, m1 b = 1 -> M2 b = 0 := fun b h => by
    have l1 : m1 b + M1 b <= 1 := g1.le b
    have l2 := g2.le b
    have : M2 b ≠ 1 := fun e => by
      rcases s2.own b e with q | q
      . omega
      . exact g1.has b (by show m1 b + M1 b = 1; omega) q
    omega
  have k1 : ∀ b, m1 b ≥ 1 -> H1 b ≠ none -> H2 b = H1 b := fun b h n => by
    have l1 : m1 b + M1 b <= 1 := g1.le b
    cases q : H1 b with
    | none => exact absurd q n
    | some o => exact s2.keep b o q (by omega)
  refine ⟨⟨g2.sub, fun b => ?_, fun b h => ?_, fun b h => ?_⟩, ⟨fun b o e z => ?_, fun b h => ?_, s1.grow.trans s2.grow, fun b n n' => ?_, fun b n => s2.stay b (s1.stay b n)⟩, k1⟩
  . have l1 : m1 b + M1 b <= 1 := g1.le b
    have l2 := g2.le b
    show m1 b + M2 b <= 1
    by_cases h : m1 b = 1
    . have := d b h; omega
    . omega
  . have h : m1 b + M2 b = 1 := h
    have l1 : m1 b + M1 b <= 1 := g1.le b
    by_cases h1 : m1 b = 1
    . cases q : Hs2 b with
      | none => rfl
      | some o =>
        have n1 : Hs1 b = none := g1.ne b (by show m1 b + M1 b = 1; omega)
        rcases s2.shr b n1 (by rw [q]; simp) with z | z
        . omega
        . exact absurd z (g1.has b (by show m1 b + M1 b = 1; omega))
    . exact g2.ne b (by omega)
  . have h : m1 b + M2 b = 1 := h
    have l1 : m1 b + M1 b <= 1 := g1.le b
    by_cases h1 : m1 b = 1
    . have n := g1.has b (by show m1 b + M1 b = 1; omega)
      rw [k1 b (by omega) n]; exact n
    . exact g2.has b (by omega)
  . have e1 := s1.keep b o e z
    have : ¬ (m1 b + M1 b = 1) := fun q => by
      rcases s1.own b q with w | w
      . omega
      . rw [e] at w; cases w
    have l1 : m1 b + M1 b <= 1 := g1.le b
    exact s2.keep b o e1 (by omega)
  . have h : m1 b + M2 b = 1 := h
    have l1 : m1 b + M1 b <= 1 := g1.le b
    by_cases h1 : m1 b = 1
    . exact s1.own b (by show m1 b + M1 b = 1; omega)
    . rcases s2.own b (by omega) with q | q
      . exact s1.own b (by show m1 b + M1 b = 1; omega)
      . cases w : H b with
        | none => exact .inr rfl
        | some o => exact absurd q (s1.stay b (by rw [w]; simp))
  . cases q : Hs1 b with
    | some o => exact s1.shr b n (by rw [q]; simp)
    | none =>
      rcases s2.shr b q n' with z | z
      . have l1 : m1 b + M1 b <= 1 := g1.le b
        exact s1.own b (by show m1 b + M1 b = 1; omega)
      . cases w : H b with
        | none => exact .inr rfl
        | some o => exact absurd z (s1.stay b (by rw [w]; simp))
end
end T
namespace T
open PySem L2
inductive Rs (α : Type) where
  | ok (a : α) | exc (x : D) (δ : List D) | stuck
noncomputable abbrev M (α : Type) := List D -> Rs (α × List D)
noncomputable def M.ret {α : Type} (a : α) : M α := fun δ => .ok (a, δ)
noncomputable def M.bnd {α β : Type} (c : M α) (f : α -> M β) : M β := fun δ => match c δ with
  | .ok (a, δ') => f a δ'
  | .exc x δ' => .exc x δ'
  | .stuck => .stuck
noncomputable def lift {α : Type} : Option α -> M α
  | some a => M.ret a
  | none => fun _ => .stuck
noncomputable def stk {α : Type} : M α := fun _ => .stuck
inductive Ty where
  | int | bool | str | list | tuple | dict | own (C : Addr)
  deriving DecidableEq
inductive BF where
  | len | abs | str | int | bool | sum | min | max | list | tuple | all | any | sorted | isi (t : Ty) | dict | ord | isiX (c : Str) | isiV | xinit | xfld (f : Str) | cnt (v : V) | minL | maxL
  deriving DecidableEq
inductive BM where
  | split | join | get | index | count | find | replace | strip | startswith | endswith | isdigit | copy | lower | upper
  deriving DecidableEq
inductive MM where
  | append | extend | pop | popAt | reverse | clear | insert | update | popKey | remove
  deriving DecidableEq
inductive IK where
  | rng1 | rng2 | rng3 | val | valS | enum | zip | rev | items | values
  deriving DecidableEq
inductive Tg where
  | name (i : Nat) | tup (is : List Nat)
structure FI where
  lend : Bool
  run : List D -> Rs (D × List D)
inductive E where
  | k (v : V)
  | g (d : D)
  | v (i : Nat)
  | bin (op : Operator) (a b : E)
  | neg (a : E)
  | cmp (op : CmpOp) (a b : E)
  | chain (op op' : CmpOp) (a b c : E)
  | isN (p : Bool) (a : E)
  | isB (c p : Bool) (a : E)
  | nt (a : E)
  | and (a b : E)
  | or (a b : E)
  | ife (c a b : E)
  | ix (a i : E)
  | sl (a lo hi : E)
  | fld (a : E) (f : Str)
  | lst (es : List E)
  | tup (es : List E)
  | kl (vs : List V)
  | kt (vs : List V)
  | dct0
  | call (f : FI) (es : List E)
  | bf (f : BF) (es : List E)
  | bm (m : BM) (o : E) (es : List E)
  | mut (m : MM) (i : Nat) (ps : List E) (es : List E)
  | meth (A : Addr) (m : Str) (f : FI) (o : E) (es : List E)
  | new (A : Addr) (f : FI) (es : List E)
  | comp (k : Nat) (js : List Nat) (tg : Tg) (ik : IK) (ies : List E) (cond : List E) (elt : E)
  | fs (es : List E)
inductive S where
  | asg (i : Nat) (e : E)
  | unp (is : List Nat) (e : E)
  | sub (i : Nat) (ps : List E) (ix : E) (e : E)
  | attr (i : Nat) (f : Str) (e : E)
  | ex (e : E)
  | ret (e : E)
  | retN
  | iff (c : E) (a b : List S)
  | for_ (tg : Tg) (ik : IK) (ies : List E) (body : List S)
  | while_ (c : E) (body : List S)
  | pass | brk | cnt
  | raise (e : E)
  | asgX (i : Nat) (f : FI) (es : List E)
  | exX (f : FI) (es : List E)
  | retX (f : FI) (es : List E)
  | raise0 (ns : List Str)
  | raiseI (ns : List Str) (f : FI) (es : List E)
  | attrX (i : Nat) (f : Str) (e : E)
  | forX (tg : Tg) (ik : IK) (ies : List E) (body : List S)
  | try_ (body : List S) (c : Str) (nm : Option Nat) (suite : List S)
inductive Op where
  | late (i : Nat) | tmp (d : D)
inductive W where
  | sc (v : V) | nd (k : Kd) (ds : List D)
noncomputable def Zbg (i : Nat) : M Op := fun δ => match δ[i]? with
  | some (.sc _) => .ok (.late i, δ)
  | some (.node _ _ _) => .ok (.late i, δ)
  | _ => .stuck
noncomputable def Zt (e : E) (c : M D) : M Op := match e with
  | .v i => Zbg i
  | _ => c.bnd fun d => M.ret (.tmp d)
noncomputable def view : Op -> M W
  | .tmp (.sc v) => M.ret (.sc v)
  | .tmp (.node k _ ds) => M.ret (.nd k ds)
  | .tmp .hole => stk
  | .late i => fun δ => match δ[i]? with
    | some (.sc v) => .ok (.sc v, δ)
    | some (.node k false ds) => .ok (.nd k ds, δ)
    | some (.node k true ds) => .ok (.nd k (shrL ds), δ.set i (.node k true (shrL ds)))
    | _ => .stuck
noncomputable def views : List Op -> M (List W)
  | [] => M.ret []
  | p :: ps => (view p).bnd fun w => (views ps).bnd fun ws => M.ret (w :: ws)
noncomputable def valV (i : Nat) : M D := fun δ => match δ[i]? with
  | some (.sc v) => .ok (.sc v, δ)
  | some (.node k false ds) => .ok (.node k false ds, δ)
  | some (.node k true ds) => .ok (.node k false (shrL ds), δ.set i (.node k false (shrL ds)))
  | _ => .stuck
noncomputable def newL (ds : List D) : Option D := if ds.length <= sizeLine then some (.node .lst true ds) else none
noncomputable def newT (ds : List D) : Option D := if ds.length <= sizeLine then some (.node .tup true ds) else none
noncomputable def binW : Operator -> W -> W -> Option D
  | .Add, .sc (.int i), .sc (.int j) => some (.sc (.int (i + j)))
  | .Sub, .sc (.int i), .sc (.int j) => some (.sc (.int (i - j)))
  | .Mult, .sc (.int i), .sc (.int j) => if (-(2 ^ 64) < i /\ i < 2 ^ 64) \/ (-(2 ^ 64) < j /\ j < 2 ^ 64) then some (.sc (.int (i * j))) else none
  | .FloorDiv, .sc (.int i), .sc (.int j) => if 0 < j /\ j < 1073741824 then some (.sc (.int (i / j))) else none
  | .Mod, .sc (.int i), .sc (.int j) => if 0 < j then some (.sc (.int (i % j))) else none
  | .Pow, .sc (.int i), .sc (.int j) => if 0 <= j /\ j <= 1000000 /\ i.natAbs < 2 ^ 64 then some (.sc (.int (i ^ j.toNat))) else none
  | .Add, .sc (.str x), .sc (.str y) => if x.length + y.length <= sizeLine then some (.sc (.str (x ++ y))) else none
  | .Add, .nd .lst xs, .nd .lst ys => newL (xs ++ ys)
  | _, _, _ => none
noncomputable def cmpI (op : CmpOp) (i j : Int) : Option Bool := match op with
  | .Lt => some (decide (i < j)) | .LtE => some (decide (i <= j)) | .Gt => some (decide (j < i)) | .GtE => some (decide (j <= i))
  | _ => none
mutual
noncomputable def py : D -> Option PyData
  | .sc .non => some .none
  | .sc (.bl b) => some (.bool b)
  | .sc (.int i) => some (.int i)
  | .sc (.str x) => some (.str x)
  | .node .lst _ ds => (pyL ds).map .list
  | .node .frl _ ds => (pyL ds).map .list
  | .node .tup _ ds => (pyL ds).map .tuple
  | .node .ftp _ ds => (pyL ds).map .tuple
  | _ => none
noncomputable def pyL : List D -> Option (List PyData)
  | [] => some []
  | d :: ds => (py d).bind fun a => (pyL ds).map (a :: ·)
end
noncomputable def toD : W -> D
  | .sc v => .sc v
  | .nd k ds => .node k false ds
noncomputable def eqPy (a b : PyData) : Option Bool := if SeqAt.shaped a = true /\ SeqAt.shaped b = true then some (PyData.eqv a b) else none
noncomputable def eqW : W -> W -> Option Bool
  | .sc u, .sc v => if scal u v = true then some (decide (u = v)) else (py (.sc u)).bind fun a => (py (.sc v)).bind fun b => eqPy a b
  | x, y => (py (toD x)).bind fun a => (py (toD y)).bind fun b => eqPy a b
noncomputable def cmpW : CmpOp -> W -> W -> Option Bool
  | .Eq, x, y => eqW x y
  | .NotEq, x, y => (eqW x y).map (!·)
  | op, .sc (.int i), .sc (.int j) => cmpI op i j
  | _, _, _ => none
noncomputable def ixN' (n : Nat) (i : Int) : Option Nat := if 0 <= i then (if i < n then some i.toNat else none) else if -(n : Int) <= i then some (i + n).toNat else none
noncomputable def ixW : W -> W -> Option D
  | .nd .lst ds, .sc (.int i) => (ixN' ds.length i).bind fun j => ds[j]?
  | .nd .frl ds, .sc (.int i) => (ixN' ds.length i).bind fun j => ds[j]?
  | .nd .tup ds, .sc (.int i) => (ixN' ds.length i).bind fun j => ds[j]?
  | .nd .ftp ds, .sc (.int i) => (ixN' ds.length i).bind fun j => ds[j]?
  | .sc (.str z), .sc (.int i) => if z.length <= sizeLine then ((ixN' z.cps.toList.length i).bind fun j => z.cps.toList[j]?).map fun c => .sc (.str ⟨#[c]⟩) else none
  | _, _ => none
noncomputable def ixW2 (x y : W) : Option D := ixW x y
noncomputable def Zb5 (op : CmpOp) (x y : W) : Option Bool := cmpW op x y
noncomputable def ZlY (f : Str) : List Str -> List D -> Option D
  | g :: fs, d :: ds => if g = f then some d else ZlY f fs ds
  | _, _ => none
noncomputable def fldW (ok : Addr -> Str -> Bool) (f : Str) : W -> Option D
  | .nd (.ins C fs) ds => if ok C f then ZlY f fs ds else none
  | _ => none
noncomputable def truW : W -> Option Bool
  | .sc (.bl b) => some b
  | .sc (.int i) => some (decide (i ≠ 0))
  | .sc (.str x) => if x.length <= sizeLine then some (decide (x.length ≠ 0)) else none
  | .sc .non => some false
  | .nd .lst ds => some (!ds.isEmpty)
  | .nd .frl ds => some (!ds.isEmpty)
  | .nd .tup ds => some (!ds.isEmpty)
  | .nd .ftp ds => some (!ds.isEmpty)
  | .nd (.dic _) ds => some (!ds.isEmpty)
  | _ => none
noncomputable def tyW : Ty -> W -> Option Bool
  | .int, .sc (.int _) => some true | .int, .sc (.bl _) => some true | .int, .sc (.str _) => some false | .int, .sc .non => some false
  | .int, .nd .lst _ => some false | .int, .nd .tup _ => some false
  | .bool, .sc (.bl _) => some true | .bool, .sc (.int _) => some false | .bool, .sc (.str _) => some false | .bool, .sc .non => some false
  | .bool, .nd .lst _ => some false | .bool, .nd .tup _ => some false
  | .str, .sc (.str _) => some true | .str, .sc (.int _) => some false | .str, .sc (.bl _) => some false | .str, .sc .non => some false
  | .str, .nd .lst _ => some false | .str, .nd .tup _ => some false
  | .list, .nd .lst _ => some true | .list, .nd .tup _ => some false | .list, .sc (.int _) => some false | .list, .sc (.bl _) => some false | .list, .sc (.str _) => some false | .list, .sc .non => some false
  | .tuple, .nd .tup _ => some true | .tuple, .nd .lst _ => some false | .tuple, .sc (.int _) => some false | .tuple, .sc (.bl _) => some false | .tuple, .sc (.str _) => some false | .tuple, .sc .non => some false
  | _, _ => none
noncomputable def Zd2 : List D -> Option (List Int)
  | [] => some []
  | .sc (.int i) :: r => (Zd2 r).map (i :: ·)
  | _ => none
noncomputable def ZdZ : List D -> Option (List Bool)
  | [] => some []
  | .sc (.bl b) :: r => (ZdZ r).map (b :: ·)
  | _ => none
noncomputable def cutD (xs : List D) (lo hi : Option Int) : List D := (xs.drop (HT.sIx xs.length 0 lo)).take (HT.sIx xs.length xs.length hi - HT.sIx xs.length 0 lo)
noncomputable def slD : W -> Option Int -> Option Int -> Option D
  | .nd .lst ds, lo, hi => some (.node .lst true (cutD ds lo hi))
  | .nd .frl ds, lo, hi => some (.node .lst true (cutD ds lo hi))
  | .sc (.str z), lo, hi => if z.length <= sizeLine then some (.sc (.str (Txt.slice z lo hi))) else none
  | _, _, _ => none
noncomputable def intP : W -> Option (Option Int)
  | .sc (.int i) => some (some i)
  | _ => none
noncomputable def ZdH (e : E) (c : M Op) : M (Option Int) := match e with
  | .k .non => M.ret none
  | _ => (c.bnd view).bnd fun w => lift (intP w)
noncomputable def ZmR : List D -> Option (List Str)
  | [] => some []
  | .sc (.str x) :: r => (ZmR r).map (x :: ·)
  | _ => none
noncomputable def lenB : List W -> Option D
  | [.nd .lst ds] => some (.sc (.int ds.length))
  | [.nd .frl ds] => some (.sc (.int ds.length))
  | [.nd .tup ds] => some (.sc (.int ds.length))
  | [.nd .ftp ds] => some (.sc (.int ds.length))
  | [.nd (.dic _) ds] => some (.sc (.int ds.length))
  | [.sc (.str x)] => if x.length <= sizeLine then some (.sc (.int x.length)) else none
  | _ => none
noncomputable def absB : List W -> Option D
  | [.sc (.int i)] => some (.sc (.int (if i < 0 then -i else i)))
  | _ => none
noncomputable def strB : List W -> Option D
  | [.sc (.int i)] => if i.natAbs.log2 < 1920 then some (.sc (.str (Str.ofString (toString i)))) else none
  | _ => none
noncomputable def intB : List W -> Option D
  | [.sc (.int i)] => some (.sc (.int i))
  | [.sc (.bl b)] => some (.sc (.int (if b then 1 else 0)))
  | [.sc (.str z)] => match intText? z with
    | some n => if z.length <= 640 then some (.sc (.int n)) else none
    | none => none
  | _ => none
noncomputable def ZlZ : List W -> Option D
  | [.nd .lst ds] => some (.node .lst true ds)
  | [.nd .frl ds] => some (.node .lst true ds)
  | [.nd .tup ds] => some (.node .lst true ds)
  | [.nd .ftp ds] => some (.node .lst true ds)
  | _ => none
noncomputable def ZqY : List W -> Option D
  | [.nd .lst ds] => some (.node .tup true ds)
  | _ => none
noncomputable def isiB (t : Ty) : List W -> Option D
  | [w] => (tyW t w).map fun b => .sc (.bl b)
  | _ => none
noncomputable def allB : List W -> Option D
  | [.nd .lst ds] => (ZdZ ds).map fun bs => .sc (.bl (bs.all id))
  | _ => none
noncomputable def sumB : List W -> Option D
  | [.nd .lst ds] => (Zd2 ds).map fun is => .sc (.int is.sum)
  | _ => none
noncomputable def minB : List W -> Option D
  | [.sc (.int i), .sc (.int j)] => some (.sc (.int (if j < i then j else i)))
  | _ => none
noncomputable def maxB : List W -> Option D
  | [.sc (.int i), .sc (.int j)] => some (.sc (.int (if j > i then j else i)))
  | _ => none
noncomputable def Zma (c : Str) : List W -> Option D
  | [.nd (.exc ns _ _) _] => some (.sc (.bl (decide (c ∈ ns))))
  | _ => none
noncomputable def Zmb : List W -> Option D
  | [.nd (.exc _ _ _) _] => some (.sc (.bl true))
  | _ => none
noncomputable def ZqZ : List W -> Option D
  | [.nd (.exc _ _ _) _, .sc _] => some (.sc .non)
  | _ => none
noncomputable def ZsI (f : Str) : List W -> Option D
  | [.nd (.exc _ _ fs) ds] => if f ∈ Zh8 then ZlY f fs ds else none
  | _ => none
noncomputable def Zh9 : List D -> Option (List V)
  | [] => some []
  | .sc u :: r => if Zen u = true then (Zh9 r).map (u :: ·) else none
  | _ => none
noncomputable def cntB (v : V) : List W -> Option D
  | [.nd .lst ds] => (Zh9 ds).map fun us => .sc (.int ((us.countP fun u => eqV u v : Nat) : Int))
  | _ => none
noncomputable def ZsJ : List W -> Option D
  | [.nd .lst ds] => (Zd2 ds).bind fun is => match is with
    | [] => none
    | i :: is => some (.sc (.int (is.foldl (fun a b => if b < a then b else a) i)))
  | _ => none
noncomputable def ZsK : List W -> Option D
  | [.nd .lst ds] => (Zd2 ds).bind fun is => match is with
    | [] => none
    | i :: is => some (.sc (.int (is.foldl (fun a b => if b > a then b else a) i)))
  | _ => none
noncomputable def bfW : BF -> List W -> Option D
  | .len, ws => lenB ws
  | .abs, ws => absB ws
  | .str, ws => strB ws
  | .int, ws => intB ws
  | .list, ws => ZlZ ws
  | .tuple, ws => ZqY ws
  | .isi t, ws => isiB t ws
  | .all, ws => allB ws
  | .sum, ws => sumB ws
  | .min, ws => minB ws
  | .max, ws => maxB ws
  | .isiX c, ws => Zma c ws
  | .isiV, ws => Zmb ws
  | .xinit, ws => ZqZ ws
  | .xfld f, ws => ZsI f ws
  | .cnt v, ws => cntB v ws
  | .minL, ws => ZsJ ws
  | .maxL, ws => ZsK ws
  | _, _ => none
noncomputable def strW : W -> Option Str
  | .sc (.str z) => some z
  | _ => none
noncomputable def bmW : BM -> Str -> List W -> Option D
  | .split, z, [.sc (.str s)] => if s.cps.size = 1 /\ z.length + 2 <= sizeLine then some (.node .lst true ((Txt.split z s).map fun x => .sc (.str x))) else none
  | .join, z, [.nd .lst ds] => (ZmR ds).bind fun ts => if JoinOk z ts = true then some (.sc (.str (Txt.join z ts))) else none
  | _, _, _ => none
noncomputable def rng (a b : Int) : List D := (List.range (b - a).toNat).map fun (k : Nat) => .sc (.int (a + k))
noncomputable def okR (i : Int) : Bool := decide (-(2 ^ 62) <= i) && decide (i < 2 ^ 62)
noncomputable def Za3 : Int -> List D -> List D
  | _, [] => []
  | c, d :: ds => .node .tup false [.sc (.int c), d] :: Za3 (c + 1) ds
noncomputable def zipD : List D -> List D -> List D
  | d :: ds, e :: es => .node .tup false [d, e] :: zipD ds es
  | _, _ => []
noncomputable def zipI : List W -> Option (List D)
  | [.nd k ds, .nd k' es] => if (k = .lst \/ k = .frl) /\ (k' = .lst \/ k' = .frl) then some (zipD ds es) else none
  | _ => none
noncomputable def ZoD : List W -> Option (List D)
  | [.nd k ds, .sc (.int c)] => if (k = .lst \/ k = .frl) /\ okR c = true then some (Za3 c ds) else none
  | _ => none
noncomputable def Zmc : List W -> Option (List D)
  | [.sc (.int n)] => if okR n then some (rng 0 n) else none
  | _ => none
noncomputable def Zmd : List W -> Option (List D)
  | [.sc (.int a), .sc (.int b)] => if okR a && okR b then some (rng a b) else none
  | _ => none
noncomputable def valI : List W -> Option (List D)
  | [.nd .lst ds] => some ds
  | [.nd .frl ds] => some ds
  | [.nd .tup ds] => some ds
  | [.nd .ftp ds] => some ds
  | [.sc (.str x)] => some (x.cps.toList.map fun c => .sc (.str ⟨#[c]⟩))
  | _ => none
noncomputable def itW : IK -> List W -> Option (List D)
  | .zip, ws => zipI ws
  | .enum, ws => ZoD ws
  | .rng1, ws => Zmc ws
  | .rng2, ws => Zmd ws
  | .val, ws => valI ws
  | _, _ => none
noncomputable def holdV : Op -> M (W × Option (Nat × D))
  | .tmp (.sc v) => M.ret (.sc v, none)
  | .tmp (.node k _ ds) => M.ret (.nd k (shrL ds), none)
  | .tmp .hole => stk
  | .late i => fun δ => match δ[i]? with
    | some (.sc v) => .ok ((.sc v, none), δ)
    | some (.node k false ds) => .ok ((.nd k ds, none), δ)
    | some (.node k true ds) => .ok ((.nd k (shrL ds), some (i, .node k true (shrL ds))), δ.set i .hole)
    | _ => .stuck
noncomputable def ZJ : List Op -> M (List W × List (Nat × D))
  | [] => M.ret ([], [])
  | p :: ps => (holdV p).bnd fun w => (ZJ ps).bnd fun ws => M.ret (w.1 :: ws.1, w.2.toList ++ ws.2)
noncomputable def Zax : List (Nat × D) -> M Unit
  | [] => M.ret ()
  | (i, d) :: r => fun δ => Zax r (δ.set i d)
noncomputable def walked : List E -> Nat -> Bool
  | [], _ => false
  | .v i :: r, j => i == j || walked r j
  | _ :: r, j => walked r j
noncomputable def takeA (lend : Bool) : Op -> M D
  | .tmp d => M.ret d
  | .late i => fun δ => match δ[i]? with
    | some (.sc v) => .ok (.sc v, δ)
    | some (.node k false ds) => .ok (.node k false ds, δ)
    | some (.node k true ds) => if lend then .ok (.node k true ds, δ.set i .hole) else .ok (.node k false (shrL ds), δ.set i (.node k false (shrL ds)))
    | _ => .stuck
noncomputable def ZbQ (lend : Bool) : List Op -> M (List D)
  | [] => M.ret []
  | p :: ps => (takeA lend p).bnd fun d => (ZbQ lend ps).bnd fun ds => M.ret (d :: ds)
noncomputable def giveA : Op -> D -> M Unit
  | .tmp _, _ => M.ret ()
  | .late i, d => fun δ => match δ[i]? with
    | some .hole => .ok ((), δ.set i d)
    | _ => .ok ((), δ)
noncomputable def Zaj : List Op -> List D -> M Unit
  | p :: ps, d :: ds => (giveA p d).bnd fun _ => Zaj ps ds
  | _, _ => M.ret ()
noncomputable def Zfi (fi : FI) (ps : List Op) : M D := (ZbQ fi.lend ps).bnd fun ds => match fi.run ds with
  | .ok (d, ds') => (Zaj ps ds').bnd fun _ => M.ret d
  | .exc _ _ => stk
  | .stuck => stk
noncomputable def Zfj (fi : FI) (ps : List Op) : M D := (ZbQ fi.lend ps).bnd fun ds => match fi.run ds with
  | .ok (d, ds') => (Zaj ps ds').bnd fun _ => M.ret d
  | .exc x ds' => fun δ => match Zaj ps ds' δ with
    | .ok (_, δ') => .exc x δ'
    | _ => .stuck
  | .stuck => stk
noncomputable def chkI (A : Addr) (m : Str) : Op -> M Unit
  | .late i => fun δ => match δ[i]? with
    | some (.node (.ins B fs) _ _) => if B = A /\ m ∉ fs then .ok ((), δ) else .stuck
    | _ => .stuck
  | .tmp (.node (.ins B fs) _ _) => fun δ => if B = A /\ m ∉ fs then .ok ((), δ) else .stuck
  | _ => stk
noncomputable def newF (C : Addr) (fi : FI) (ps : List Op) : M D := (ZbQ fi.lend ps).bnd fun ds => match fi.run (.node (.ins C []) true [] :: ds) with
  | .ok (.sc .non, d :: ds') => (Zaj ps ds').bnd fun _ => M.ret d
  | .ok _ => stk
  | .exc _ _ => stk
  | .stuck => stk
noncomputable def newX (ns : List Str) (fi : FI) (ps : List Op) : M D := if 1000 < ps.length then stk else (ZbQ fi.lend ps).bnd fun ds => match fi.run (.node (.exc ns true []) true [] :: ds) with
  | .ok (.sc .non, d :: ds') => (Zaj ps ds').bnd fun _ => M.ret d
  | .ok _ => stk
  | .exc _ _ => stk
  | .stuck => stk
noncomputable def Zkq {α : Type} : D -> M α
  | .node (.exc ns true fs) true ds => fun δ => .exc (.node (.exc ns false fs) true ds) δ
  | _ => stk
noncomputable def asgN (lock : Nat -> Bool) (i : Nat) (d : D) : M Unit := fun δ => if i < δ.length && !lock i then .ok ((), δ.set i d) else .stuck
noncomputable def ZdI (lock : Nat -> Bool) : List Nat -> List D -> M Unit
  | [], [] => M.ret ()
  | i :: is, d :: ds => (asgN lock i d).bnd fun _ => ZdI lock is ds
  | _, _ => stk
noncomputable def asgT (lock : Nat -> Bool) : Tg -> D -> M Unit
  | .name i, d => asgN lock i d
  | .tup is, .node .tup _ ds => ZdI lock is ds
  | .tup _, _ => stk
noncomputable def modS (i : Nat) (f : Kd -> List D -> Option (D × Kd × List D)) : M D := fun δ => match δ[i]? with
  | some (.node k true ds) => match f k ds with
    | some (r, k', ds') => .ok (r, δ.set i (.node k' true ds'))
    | none => .stuck
  | _ => .stuck
noncomputable def mutD : MM -> List W -> Kd -> List D -> Option (D × Kd × List D)
  | .extend, [.nd .lst es], .lst, ds => if ds.length + es.length <= sizeLine then some (.sc .non, .lst, ds ++ es) else none
  | .pop, [], .lst, ds => ds.getLast?.map fun d => (d, .lst, ds.dropLast)
  | .popAt, [.sc (.int i)], .lst, ds => if -(2 ^ 63) <= i /\ i < 2 ^ 63 then (ixN' ds.length i).bind fun j => ds[j]?.map fun d => (d, .lst, ds.eraseIdx j) else none
  | .reverse, [], .lst, ds => some (.sc .non, .lst, ds.reverse)
  | .clear, [], .lst, _ => some (.sc .non, .lst, [])
  | _, _, _, _ => none
noncomputable def appD (d : D) : Kd -> List D -> Option (D × Kd × List D)
  | .lst, ds => if ds.length < sizeLine then some (.sc .non, .lst, ds ++ [d]) else none
  | _, _ => none
noncomputable def appM (i : Nat) : List D -> M D
  | [d] => modS i (appD d)
  | _ => stk
noncomputable def chkL (i : Nat) : M Unit := fun δ => match δ[i]? with
  | some (.node .lst _ _) => .ok ((), δ)
  | _ => .stuck
noncomputable def setD (w : W) (d : D) : Kd -> List D -> Option (D × Kd × List D)
  | .lst, ds => match w with
    | .sc (.int i) => (ixN' ds.length i).map fun j => (.sc .non, .lst, ds.set j d)
    | _ => none
  | _, _ => none
noncomputable def ZaL (w : W) (d : D) (k : Kd) (ds : List D) : Option (D × Kd × List D) := setD w d k ds
noncomputable def putN (f : Str) : List Str -> List Str
  | [] => [f]
  | g :: r => if g = f then g :: r else g :: putN f r
noncomputable def putV {α : Type} (f : Str) (d : α) : List Str -> List α -> List α
  | g :: r, x :: ds => if g = f then d :: ds else x :: putV f d r ds
  | _, _ => [d]
noncomputable def putD (ok : Addr -> Str -> Bool) (f : Str) (d : D) : Kd -> List D -> Option (D × Kd × List D)
  | .ins C fs, ds => if fs.length < 1000 /\ ok C f = true then some (.sc .non, .ins C (putN f fs), putV f d fs ds) else none
  | _, _ => none
noncomputable def putX (f : Str) (d : D) : Kd -> List D -> Option (D × Kd × List D)
  | .exc ns fr fs, ds => if fs.length < 1000 /\ f ∈ Zh8 then some (.sc .non, .exc ns fr (putN f fs), putV f d fs ds) else none
  | _, _ => none
structure Ctx where
  lock : Nat -> Bool
  fok : Addr -> Str -> Bool
  fuel : Nat
noncomputable def ZeX : List Nat -> M (List D)
  | [] => M.ret []
  | j :: js => fun δ => match δ[j]? with
    | some d => ((ZeX js).bnd fun ds => M.ret (d :: ds)) (δ.set j .hole)
    | none => .stuck
noncomputable def Zdm : List Nat -> List D -> M Unit
  | j :: js, d :: ds => fun δ => Zdm js ds (δ.set j d)
  | _, _ => M.ret ()
noncomputable def ZaM (asg : D -> M Unit) (cond : M Bool) (elt : M D) : List D -> List D -> M (List D)
  | [], acc => M.ret acc
  | d :: ds, acc => (asg d).bnd fun _ => cond.bnd fun b => if b then elt.bnd fun x => ZaM asg cond elt ds (acc ++ [x]) else ZaM asg cond elt ds acc
noncomputable def Zb6 (k : Nat) (js : List Nat) (loop : M (List D)) : M D := (ZeX js).bnd fun caps δ => match loop (List.replicate k .hole ++ caps) with
  | .ok (acc, δ') => ((Zdm js (δ'.drop k)).bnd fun _ => lift (newL acc)) δ
  | .exc _ _ => .stuck
  | .stuck => .stuck
noncomputable def fmtD : V -> Option Str
  | .int i => if i.natAbs.log2 < 1920 then some (Str.ofString (toString i)) else none
  | .str x => some x
  | .non => some (Str.ofString "None")
  | _ => none
noncomputable def fmtW (acc : Str) : W -> Option Str
  | .sc v => (fmtD v).bind fun z => if z.length <= sizeLine /\ (acc ++ z).length <= sizeLine then some (acc ++ z) else none
  | _ => none
noncomputable def isNW (p : Bool) : W -> D
  | .sc v => .sc (.bl (decide (v = .non) == p))
  | .nd _ _ => .sc (.bl (!p))
noncomputable def isBW (c p : Bool) : W -> Option D
  | .sc (.bl b) => some (.sc (.bl ((b == c) == p)))
  | _ => none
noncomputable def negW : W -> Option D
  | .sc (.int i) => some (.sc (.int (-i)))
  | _ => none
noncomputable def notW : W -> Option D
  | .sc (.bl t) => some (.sc (.bl (!t)))
  | _ => none
noncomputable def andM (b : M D) : W -> M D
  | .sc (.bl true) => b
  | .sc (.bl false) => M.ret (.sc (.bl false))
  | _ => stk
noncomputable def orM (b : M D) : W -> M D
  | .sc (.bl false) => b
  | .sc (.bl true) => M.ret (.sc (.bl true))
  | _ => stk
noncomputable def ZdJ (c : M D) : M Bool := c.bnd fun d => lift (match d with | .sc (.bl b) => some b | _ => none)
noncomputable def tdef (e : E) (c : M D) : M Bool := (Zt e c).bnd fun p => (view p).bnd fun w => lift (truW w)
noncomputable def vdef (e : E) (c : M D) : M W := (Zt e c).bnd view
mutual
noncomputable def evb (C : Ctx) : E -> M D × M Bool
  | .k v => let c : M D := M.ret (.sc v); (c, tdef (.k v) c)
  | .g d => let c : M D := M.ret d; (c, tdef (.g d) c)
  | .v i => (valV i, tdef (.v i) (valV i))
  | .bin op a b =>
    let c : M D := (Zt a (evb C a).1).bnd fun p => (Zt b (evb C b).1).bnd fun q => (view p).bnd fun x => (view q).bnd fun y => lift (binW op x y)
    (c, tdef (.bin op a b) c)
  | .neg a =>
    let c : M D := (vdef a (evb C a).1).bnd fun x => lift (negW x)
    (c, tdef (.neg a) c)
  | .cmp op a b =>
    let c : M D := (Zt a (evb C a).1).bnd fun p => (Zt b (evb C b).1).bnd fun q => (view p).bnd fun x => (view q).bnd fun y => lift ((Zb5 op x y).map fun t => .sc (.bl t))
    (c, ZdJ c)
  | .chain op op' a b e =>
    let c : M D := (Zt a (evb C a).1).bnd fun p => (Zt b (evb C b).1).bnd fun q => (view p).bnd fun x => (view q).bnd fun y => (lift (cmpW op x y)).bnd fun t => if t then (Zt e (evb C e).1).bnd fun r => (view q).bnd fun y => (view r).bnd fun z => lift ((cmpW op' y z).map fun t => .sc (.bl t)) else M.ret (.sc (.bl false))
    (c, ZdJ c)
  | .isN p a =>
    let c : M D := (vdef a (evb C a).1).bnd fun x => M.ret (isNW p x)
    (c, tdef (.isN p a) c)
  | .isB c p a =>
    let r : M D := (vdef a (evb C a).1).bnd fun x => lift (isBW c p x)
    (r, tdef (.isB c p a) r)
  | .nt a => ((vdef a (evb C a).1).bnd fun w => lift (notW w), (evb C a).2.bnd fun b => M.ret (!b))
  | .and a b => ((vdef a (evb C a).1).bnd (andM (evb C b).1), (evb C a).2.bnd fun t => if t then (evb C b).2 else M.ret false)
  | .or a b => ((vdef a (evb C a).1).bnd (orM (evb C b).1), (evb C a).2.bnd fun t => if t then M.ret true else (evb C b).2)
  | .ife c a b =>
    let r : M D := (evb C c).2.bnd fun t => if t then (evb C a).1 else (evb C b).1
    (r, tdef (.ife c a b) r)
  | .ix a i =>
    let c : M D := (Zt a (evb C a).1).bnd fun p => (Zt i (evb C i).1).bnd fun q => (view p).bnd fun x => (view q).bnd fun y => lift (ixW2 x y)
    (c, tdef (.ix a i) c)
  | .sl a lo hi =>
    let c : M D := (Zt a (evb C a).1).bnd fun p => (ZdH lo (Zt lo (evb C lo).1)).bnd fun l => (ZdH hi (Zt hi (evb C hi).1)).bnd fun h => (view p).bnd fun x => lift (slD x l h)
    (c, tdef (.sl a lo hi) c)
  | .fld a f =>
    let c : M D := (vdef a (evb C a).1).bnd fun x => lift (fldW C.fok f x)
    (c, tdef (.fld a f) c)
  | .lst es =>
    let c : M D := (evs C es).bnd fun ds => lift (newL ds)
    (c, tdef (.lst es) c)
  | .tup es =>
    let c : M D := (evs C es).bnd fun ds => lift (newT ds)
    (c, tdef (.tup es) c)
  | .kl vs =>
    let c : M D := lift (newL (vs.map D.sc))
    (c, tdef (.kl vs) c)
  | .kt vs =>
    let c : M D := lift (newT (vs.map D.sc))
    (c, tdef (.kt vs) c)
  | .dct0 =>
    let c : M D := M.ret (.node (.dic []) true [])
    (c, tdef .dct0 c)
  | .call f es =>
    let c : M D := (opds C es).bnd fun ps => Zfi f ps
    (c, tdef (.call f es) c)
  | .bf f es =>
    let c : M D := (opds C es).bnd fun ps => (views ps).bnd fun ws => lift (bfW f ws)
    (c, tdef (.bf f es) c)
  | .bm m o es =>
    let c : M D := (vdef o (evb C o).1).bnd fun w => (lift (strW w)).bnd fun z => (opds C es).bnd fun ps => (views ps).bnd fun ws => lift (bmW m z ws)
    (c, tdef (.bm m o es) c)
  | .mut m i ps es =>
    let c : M D := match m, ps with
      | .append, [] => (chkL i).bnd fun _ => (evs C es).bnd fun ds => appM i ds
      | m, [] => (chkL i).bnd fun _ => (opds C es).bnd fun ps => (views ps).bnd fun ws => modS i (mutD m ws)
      | _, _ => stk
    (c, tdef (.mut m i ps es) c)
  | .meth A m f o es =>
    let c : M D := (Zt o (evb C o).1).bnd fun p => (chkI A m p).bnd fun _ => (opds C es).bnd fun ps => Zfi f (p :: ps)
    (c, tdef (.meth A m f o es) c)
  | .new A f es =>
    let c : M D := (opds C es).bnd fun ps => newF A f ps
    (c, tdef (.new A f es) c)
  | .comp k js tg ik ies cond elt =>
    let C' : Ctx := { C with lock := fun i => decide (k <= i) }
    let loop (items : List D) : M (List D) := ZaM (asgT C'.lock tg) (tsts C' cond) (evb C' elt).1 items []
    let c : M D := (opds C ies).bnd fun ps => (ZJ ps).bnd fun h => (lift (itW ik h.1)).bnd fun items => (Zb6 k js (loop items)).bnd fun d => (Zax h.2).bnd fun _ => M.ret d
    (c, tdef (.comp k js tg ik ies cond elt) c)
  | .fs es =>
    let c : M D := fss C es Str.empty
    (c, tdef (.fs es) c)
noncomputable def fss (C : Ctx) : List E -> Str -> M D
  | [], acc => M.ret (.sc (.str acc))
  | e :: es, acc => (vdef e (evb C e).1).bnd fun w => (lift (fmtW acc w)).bnd fun acc' => fss C es acc'
noncomputable def opds (C : Ctx) : List E -> M (List Op)
  | [] => M.ret []
  | e :: es => (Zt e (evb C e).1).bnd fun p => (opds C es).bnd fun ps => M.ret (p :: ps)
noncomputable def evs (C : Ctx) : List E -> M (List D)
  | [] => M.ret []
  | e :: es => (evb C e).1.bnd fun p => (evs C es).bnd fun ps => M.ret (p :: ps)
noncomputable def tsts (C : Ctx) : List E -> M Bool
  | [] => M.ret true
  | e :: es => (evb C e).2.bnd fun b => if b then tsts C es else M.ret false
end
noncomputable abbrev ev (C : Ctx) (e : E) : M D := (evb C e).1
noncomputable abbrev tst (C : Ctx) (e : E) : M Bool := (evb C e).2
inductive Fl where
  | nx | rt (d : D) | bk | ct
noncomputable def forL (asg : D -> M Unit) (body : M Fl) : List D -> M Fl
  | [] => M.ret .nx
  | d :: ds => (asg d).bnd fun _ => body.bnd fun f => match f with
    | .nx => forL asg body ds
    | .ct => forL asg body ds
    | .bk => M.ret .nx
    | .rt x => M.ret (.rt x)
noncomputable def Zkr (c : M Bool) (body : M Fl) : Nat -> M Fl
  | 0 => stk
  | n + 1 => c.bnd fun b => if b then body.bnd fun f => match f with
    | .nx => Zkr c body n
    | .ct => Zkr c body n
    | .bk => M.ret .nx
    | .rt x => M.ret (.rt x)
    else M.ret .nx
noncomputable def movV (i : Nat) : M D := fun δ => match δ[i]? with
  | some (.sc v) => .ok (.sc v, δ)
  | some (.node k o ds) => .ok (.node k o ds, δ.set i .hole)
  | _ => .stuck
noncomputable def retV (C : Ctx) (e : E) : M D := match e with
  | .v i => if C.lock i then valV i else movV i
  | e => ev C e
noncomputable def seqL (c : M Fl) (r : M Fl) : M Fl := c.bnd fun f => match f with
  | .nx => r
  | f => M.ret f
noncomputable def unpM (lock : Nat -> Bool) (is : List Nat) : W -> M Unit
  | .nd .tup ds => ZdI lock is ds
  | .nd .lst ds => ZdI lock is ds
  | _ => stk
noncomputable def finB (h : List (Nat × D)) : Rs (Fl × List D) -> Rs (Fl × List D)
  | .ok (f, δ) => ((Zax h).bnd fun _ => M.ret f) δ
  | .exc x δ => (match Zax h δ with
    | .ok (_, δ') => .exc x δ'
    | _ => .stuck)
  | .stuck => .stuck
noncomputable def hits (c : Str) : D -> Bool
  | .node (.exc ns false _) true _ => decide (c ∈ ns)
  | _ => false
noncomputable def Zme (i : Nat) : Rs (Fl × List D) -> Rs (Fl × List D)
  | .ok (f, δ) => .ok (f, δ.set i .hole)
  | .exc _ _ => .stuck
  | .stuck => .stuck
noncomputable def tryM (lock : Nat -> Bool) (body : M Fl) (c : Str) (nm : Option Nat) (suite : M Fl) : M Fl := fun δ => match body δ with
  | .ok r => .ok r
  | .stuck => .stuck
  | .exc x δ' => if hits c x then (match nm with
    | none => (match suite δ' with
      | .exc _ _ => .stuck
      | r => r)
    | some i => if i < δ'.length && !lock i then Zme i (suite (δ'.set i x)) else .stuck) else .stuck
mutual
noncomputable def ex (C : Ctx) : S -> M Fl
  | .asg i e => (ev C e).bnd fun d => (asgN C.lock i d).bnd fun _ => M.ret .nx
  | .unp is e => (vdef e (ev C e)).bnd fun w => (unpM C.lock is w).bnd fun _ => M.ret .nx
  | .sub i ps ix e => match ps with
    | [] => (ev C e).bnd fun d => (Zbg i).bnd fun _ => (vdef ix (ev C ix)).bnd fun w => (modS i (ZaL w d)).bnd fun _ => M.ret .nx
    | _ => stk
  | .attr i f e => (ev C e).bnd fun d => (Zbg i).bnd fun _ => (modS i (putD C.fok f d)).bnd fun _ => M.ret .nx
  | .ex e => (ev C e).bnd fun _ => M.ret .nx
  | .ret e => (retV C e).bnd fun d => M.ret (.rt d)
  | .retN => M.ret (.rt (.sc .non))
  | .iff c a b => (tst C c).bnd fun t => if t then exs C a else exs C b
  | .for_ tg ik ies body =>
    let lk : Nat -> Bool := fun j => C.lock j || walked ies j
    (opds C ies).bnd fun ps => (ZJ ps).bnd fun h => (lift (itW ik h.1)).bnd fun items => (forL (asgT lk tg) (exs { C with lock := lk } body) items).bnd fun f => (Zax h.2).bnd fun _ => M.ret f
  | .while_ c body => Zkr (tst C c) (exs C body) C.fuel
  | .pass => M.ret .nx
  | .brk => M.ret .bk
  | .cnt => M.ret .ct
  | .raise _ => stk
  | .asgX i f es => ((opds C es).bnd fun ps => Zfj f ps).bnd fun d => (asgN C.lock i d).bnd fun _ => M.ret .nx
  | .exX f es => ((opds C es).bnd fun ps => Zfj f ps).bnd fun _ => M.ret .nx
  | .retX f es => ((opds C es).bnd fun ps => Zfj f ps).bnd fun d => M.ret (.rt d)
  | .raise0 ns => Zkq (.node (.exc ns true []) true [])
  | .raiseI ns f es => ((opds C es).bnd fun ps => newX ns f ps).bnd Zkq
  | .attrX i f e => (ev C e).bnd fun d => (Zbg i).bnd fun _ => (modS i (putX f d)).bnd fun _ => M.ret .nx
  | .forX tg ik ies body =>
    let lk : Nat -> Bool := fun j => C.lock j || walked ies j
    (opds C ies).bnd fun ps => (ZJ ps).bnd fun h => (lift (itW ik h.1)).bnd fun items δ => finB h.2 (forL (asgT lk tg) (exs { C with lock := lk } body) items δ)
  | .try_ body c nm suite => tryM C.lock (exs C body) c nm (exs C suite)
noncomputable def exs (C : Ctx) : List S -> M Fl
  | [] => M.ret .nx
  | s :: r => seqL (ex C s) (exs C r)
end
noncomputable def Zks (n : Nat) : Rs (Fl × List D) -> Rs (D × List D)
  | .ok (.rt d, δ) => .ok (d, δ.take n)
  | .ok (.nx, δ) => .ok (.sc .non, δ.take n)
  | .ok _ => .stuck
  | .exc x δ => .exc x (δ.take n)
  | .stuck => .stuck
noncomputable def Zi (C : Ctx) (n N : Nat) (body : List S) (ds : List D) : Rs (D × List D) :=
  if ds.length = n then Zks n (exs { C with lock := fun i => decide (i < n) } body (ds ++ List.replicate (N - n) .hole)) else .stuck
end T
namespace T
open PySem L2
inductive Sep {α : Type} (R : α -> D -> Bud -> Prop) : List α -> List D -> Bud -> Prop
  | nil (m : Bud) : Sep R [] [] m
  | cons {a : α} {d : D} {as : List α} {ds : List D} {m1 m2 m : Bud} : R a d m1 -> Sep R as ds m2 -> (∀ b, m1 b + m2 b <= m b) -> Sep R (a :: as) (d :: ds) m
theorem RepL.sep {K : Fg} {H Hs : Hp} : ∀ {vs : List V} {ds : List D} {m : Bud}, RepL K H Hs vs ds m -> Sep (Rep K H Hs) vs ds m
  | _, _, _, .nil _ => .nil _
  | _, _, _, .cons a b c => .cons a b.sep c
theorem Sep.repL {K : Fg} {H Hs : Hp} : ∀ {vs : List V} {ds : List D} {m : Bud}, Sep (Rep K H Hs) vs ds m -> RepL K H Hs vs ds m
  | _, _, _, .nil _ => .nil _
  | _, _, _, .cons a b c => .cons a b.repL c
section
variable {α β : Type} {R R' : α -> D -> Bud -> Prop}
theorem Sep.length : ∀ {as : List α} {ds : List D} {m : Bud}, Sep R as ds m -> as.length = ds.length
  | _, _, _, .nil _ => rfl
  | _, _, _, .cons _ b _ => by rw [List.length_cons, List.length_cons, b.length]
theorem Sep.mono {as : List α} {ds : List D} {m m' : Bud} (h : Sep R as ds m) (l : ∀ b, m b <= m' b) : Sep R as ds m' := by
  cases h with
  | nil => exact .nil _
  | cons a b c => exact .cons a b fun x => Nat.le_trans (c x) (l x)
theorem Sep.imp : ∀ {as : List α} {ds : List D} {m : Bud}, (∀ a d m', (∀ b, m' b <= m b) -> R a d m' -> R' a d m') -> Sep R as ds m -> Sep R' as ds m
  | _, _, _, _, .nil _ => .nil _
  | _, _, m, f, .cons (m1 := m1) (m2 := m2) x y c => .cons (f _ _ _ (fun b => by have := c b; omega) x) (y.imp fun a d m' l => f a d m' fun b => by have := c b; have := l b; (try dsimp only at *); omega) c
theorem Sep.focus : ∀ {as : List α} {ds : List D} {m : Bud} {i : Nat} {d : D}, Sep R as ds m -> ds[i]? = some d -> ∃ (a : α) (m1 m2 : Bud), as[i]? = some a /\ R a d m1 /\ (∀ b, m1 b + m2 b <= m b) /\
    ∀ (R' : α -> D -> Bud -> Prop) (a' : α) (d' : D) (m' : Bud), (∀ a d m', (∀ b, m' b <= m2 b) -> R a d m' -> R' a d m') -> R' a' d' m' -> Sep R' (as.set i a') (ds.set i d') (fun b => m' b + m2 b)
  | _, _, _, _, _, .nil _, h => by simp at h
  | _, _, m, 0, _, .cons (a := a) (m1 := m1) (m2 := m2) x y c, h => by
    (simp only [List.getElem?_cons_zero, Option.some.injEq] at h)
    subst h
    exact ⟨a, m1, m2, rfl, x, c, fun R' a' d' m' f x' => .cons x' (y.imp f) fun b => Nat.le_refl _⟩
  | _, _, m, i + 1, d, .cons (a := a) (m1 := m1) (m2 := m2) x y c, h => by
    obtain ⟨a', n1, n2, e, r, l, f⟩ := Sep.focus (i := i) y (by simpa using h)
    refine ⟨a', n1, fun b => m1 b + n2 b, by simpa using e, r, fun b => by have := c b; have := l b; (try dsimp only at *); omega, fun R' a'' d'' m' g x' => ?_⟩
    have q := f R' a'' d'' m' (fun a d m' l' => g a d m' fun b => by have := l' b; (try dsimp only at *); omega) x'
    exact .cons (m2 := fun b => m' b + n2 b) (g _ _ _ (fun b => by (try dsimp only at *); omega) x) q fun b => by (try dsimp only at *); omega
theorem Sep.append : ∀ {as bs : List α} {ds es : List D} {m1 m2 : Bud}, Sep R as ds m1 -> Sep R bs es m2 -> Sep R (as ++ bs) (ds ++ es) (fun b => m1 b + m2 b)
  | _, _, _, _, _, _, .nil _, y => y.mono fun b => by (try dsimp only at *); omega
  | _, _, _, _, _, m2, .cons (m2 := n2) x y c, z => .cons (m2 := fun b => n2 b + m2 b) x (y.append z) fun b => by have := c b; omega
theorem Sep.get {as : List α} {ds : List D} {m : Bud} {i : Nat} {d : D} (h : Sep R as ds m) (e : ds[i]? = some d) : ∃ (a : α) (m1 : Bud), as[i]? = some a /\ R a d m1 /\ ∀ b, m1 b <= m b := by
  obtain ⟨a, m1, m2, e, r, l, _⟩ := h.focus e
  exact ⟨a, m1, e, r, fun b => by have := l b; omega⟩
theorem Sep.split : ∀ {as : List α} {ds es : List D} {m : Bud}, Sep R as (ds ++ es) m -> ∃ (a1 a2 : List α) (m1 m2 : Bud), as = a1 ++ a2 /\ Sep R a1 ds m1 /\ Sep R a2 es m2 /\ ∀ b, m1 b + m2 b <= m b
  | as, [], es, m, h => ⟨[], as, fun _ => 0, m, rfl, .nil _, h, fun b => by (try dsimp only at *); omega⟩
  | _, d :: ds, es, m, .cons (a := a) (m1 := m1) x y c => by
    obtain ⟨a1, a2, n1, n2, e, p, q, l⟩ := Sep.split (ds := ds) (es := es) y
    subst e
    exact ⟨a :: a1, a2, fun b => m1 b + n1 b, n2, rfl, .cons x p fun b => Nat.le_refl _, q, fun b => by have := c b; have := l b; (try dsimp only at *); omega⟩
theorem Sep.take {as : List α} {ds : List D} {m : Bud} (h : Sep R as ds m) (n : Nat) : Sep R (as.take n) (ds.take n) m := by
  have e : ds.take n ++ ds.drop n = ds := List.take_append_drop n ds
  rw [<- e] at h
  obtain ⟨a1, a2, m1, m2, q, p, p', l⟩ := h.split
  have hl := p.length
  have hd := h.length
  subst q
  have : (a1 ++ a2).take n = a1 := by
    by_cases hn : n <= ds.length
    . rw [List.take_left' (by rw [hl, List.length_take]; omega)]
    . have e2 : a2 = [] := by
        have := p'.length
        rw [List.length_drop] at this
        exact List.length_eq_zero_iff.mp (by (try dsimp only at *); omega)
      rw [e2, List.append_nil]
      exact List.take_of_length_le (by rw [hl, List.length_take]; omega)
  rw [this]
  exact p.mono fun b => by have := l b; omega
theorem Sep.drop {as : List α} {ds : List D} {m : Bud} (h : Sep R as ds m) (n : Nat) : Sep R (as.drop n) (ds.drop n) m := by
  have e : ds.take n ++ ds.drop n = ds := List.take_append_drop n ds
  rw [<- e] at h
  obtain ⟨a1, a2, m1, m2, q, p, p', l⟩ := h.split
  have hl := p.length
  subst q
  have : (a1 ++ a2).drop n = a2 := by
    by_cases hn : n <= ds.length
    . rw [List.drop_left' (by rw [hl, List.length_take]; omega)]
    . have e2 : a2 = [] := by
        have := p'.length
        rw [List.length_drop] at this
        exact List.length_eq_zero_iff.mp (by (try dsimp only at *); omega)
      rw [e2, List.append_nil]
      exact List.drop_of_length_le (by rw [hl, List.length_take]; omega)
  rw [this]
  exact p'.mono fun b => by have := l b; omega
end
section
variable {K : Fg} {H Hs Hs' : Hp}
mutual
theorem Rep.share (g : Same Hs Hs') : ∀ {v : V} {d : D} {m : Bud}, (∀ b, m b ≥ 1 -> H b ≠ none -> Hs' b = H b) -> Rep K H Hs v d m -> Rep K H Hs' v (shr d) (fun _ => 0)
  | _, _, _, _, .sc v _ => .sc v _
  | _, _, _, _, .hole v _ => .hole v _
  | _, _, m, k, .own (a := a) (m' := m') n r h => by
    have h1 : m a ≥ 1 := by have := h a; simp only [one, if_pos] at this; omega
    refine .shd (Zdl.r (n.eq (k a h1 n.at))) (RepL.share g (fun b hb => k b ?_) r)
    have := h b
    omega
  | _, _, _, _, .shd n r => .shd (n.same g) (RepL.share g (fun b hb => absurd hb (by simp)) r)
theorem RepL.share (g : Same Hs Hs') : ∀ {vs : List V} {ds : List D} {m : Bud}, (∀ b, m b ≥ 1 -> H b ≠ none -> Hs' b = H b) -> RepL K H Hs vs ds m -> RepL K H Hs' vs (shrL ds) (fun _ => 0)
  | _, _, _, _, .nil _ => .nil _
  | _, _, m, k, .cons x y h => by
    refine .cons (Rep.share g (fun b hb => k b ?_) x) (RepL.share g (fun b hb => k b ?_) y) fun b => Nat.le_refl _
    . have := h b; omega
    . have := h b; omega
end
noncomputable def shH (H Hs : Hp) (m : Bud) : Hp := fun b => if m b ≥ 1 then H b else Hs b
theorem ZeY {M : Bud} {m : Bud} (g : Good H Hs M) (l : ∀ b, m b <= M b) : Same Hs (shH H Hs m) := fun b o e => by
  unfold shH
  split
  . exact g.sub b o e
  . exact e
theorem Zhh {m : Bud} : ∀ b, m b ≥ 1 -> H b ≠ none -> shH H Hs m b = H b := fun b h _ => if_pos h
theorem Good.share {m M : Bud} (g : Good H Hs (fun b => m b + M b)) : Good H (shH H Hs m) M where
  sub := fun b o e => by
    unfold shH at e
    split at e
    . exact e
    . exact g.sub b o e
  le := fun b => by have : m b + M b <= 1 := g.le b; omega
  ne := fun b h => by
    have : m b + M b <= 1 := g.le b
    unfold shH
    rw [if_neg (by (try dsimp only at *); omega)]
    exact g.ne b (by show m b + M b = 1; omega)
  has := fun b h => by
    have : m b + M b <= 1 := g.le b
    exact g.has b (by show m b + M b = 1; omega)
theorem Stp.share {m M : Bud} (g : Good H Hs (fun b => m b + M b)) : Stp H Hs (fun b => m b + M b) H (shH H Hs m) M where
  keep := fun _ _ h _ => h
  own := fun b h => .inl (by have : m b + M b <= 1 := g.le b; show m b + M b = 1; omega)
  grow := ZeY g fun b => by (try dsimp only at *); omega
  shr := fun b h h' => by
    unfold shH at h'
    split at h'
    . have : m b + M b <= 1 := g.le b
      exact .inl (by show m b + M b = 1; omega)
    . exact absurd h h'
  stay := fun _ h => h
end
def RepO (K : Fg) (H Hs : Hp) (o : Option V) (d : D) (m : Bud) : Prop := d = .hole \/ ∃ v, o = some v /\ Rep K H Hs v d m
abbrev RepS (K : Fg) (H Hs : Hp) (σ : St) (δ : List D) (m : Bud) : Prop := Sep (RepO K H Hs) σ δ m
section
variable {K : Fg} {H Hs H' Hs' : Hp}
theorem RepO.frame {o : Option V} {d : D} {m : Bud} (g : Same Hs Hs') (k : ∀ b, m b ≥ 1 -> H b ≠ none -> H' b = H b) (h : RepO K H Hs o d m) : RepO K H' Hs' o d m := by
  rcases h with h | ⟨v, e, r⟩
  . exact .inl h
  . exact .inr ⟨v, e, r.frame g k⟩
theorem RepS.frame {σ : St} {δ : List D} {m : Bud} (g : Same Hs Hs') (k : ∀ b, m b ≥ 1 -> H b ≠ none -> H' b = H b) (h : RepS K H Hs σ δ m) : RepS K H' Hs' σ δ m :=
  h.imp fun a d m' l r => RepO.frame g (fun b hb => k b (Nat.le_trans hb (l b))) r
theorem RepL.slots : ∀ {vs : List V} {ds : List D} {m : Bud}, RepL K H Hs vs ds m -> RepS K H Hs (vs.map some) ds m
  | _, _, _, .nil _ => .nil _
  | _, _, _, .cons x y c => .cons (.inr ⟨_, rfl, x⟩) (RepL.slots y) c
theorem holes (o : Nat -> Option V) : ∀ (n : Nat) (m : Bud) (σ : St), σ.length = n -> RepS K H Hs σ (List.replicate n .hole) m
  | 0, m, [], _ => .nil _
  | n + 1, m, o :: σ, h => .cons (m1 := fun _ => 0) (.inl rfl) (holes (fun _ => none) n m σ (by simpa using h)) fun b => by (try dsimp only at *); omega
theorem RepS.slot {σ : St} {δ : List D} {m : Bud} {i : Nat} {d : D} (h : RepS K H Hs σ δ m) (e : δ[i]? = some d) (hd : d ≠ .hole) : ∃ (v : V) (m1 m2 : Bud), σ[i]? = some (some v) /\ Rep K H Hs v d m1 /\ (∀ b, m1 b + m2 b <= m b) /\
    ∀ (H' Hs' : Hp) (o : Option V) (d' : D) (m' : Bud), Same Hs Hs' -> (∀ b, m2 b ≥ 1 -> H b ≠ none -> H' b = H b) -> RepO K H' Hs' o d' m' -> RepS K H' Hs' (σ.set i o) (δ.set i d') (fun b => m' b + m2 b) := by
  obtain ⟨o, m1, m2, e1, r, l, f⟩ := h.focus e
  rcases r with r | ⟨v, rfl, r⟩
  . exact absurd r hd
  . exact ⟨v, m1, m2, e1, r, l, fun H' Hs' o d' m' g k x => f _ o d' m' (fun a d m'' l' q => RepO.frame g (fun b hb => k b (Nat.le_trans hb (l' b))) q) x⟩
theorem ZaY {α : Type} : ∀ {l : List α} {i : Nat} {a : α}, l[i]? = some a -> l.set i a = l
  | [], _, _, h => by simp at h
  | b :: l, 0, a, h => by simp at h; subst h; rfl
  | b :: l, i + 1, a, h => by rw [List.set_cons_succ, ZaY (by simpa using h)]
end
end T
namespace T
open PySem PySem.Spec L2
theorem Ze {α β : Type} {c : M α} {f : α -> M β} {δ : List D} {r : β × List D} (h : c.bnd f δ = .ok r) : ∃ a δ', c δ = .ok (a, δ') /\ f a δ' = .ok r := by
  unfold M.bnd at h
  split at h
  . rename_i a δ' e
    exact ⟨a, δ', e, h⟩
  . cases h
  . cases h
theorem Zl {α : Type} {a : α} {δ : List D} {r : α × List D} (h : M.ret a δ = .ok r) : r = (a, δ) := by
  unfold M.ret at h
  injection h with h
  exact h.symm
theorem ZaH {α : Type} {o : Option α} {δ : List D} {a : α} {δ' : List D} (h : lift o δ = .ok (a, δ')) : o = some a /\ δ' = δ := by
  cases o with
  | none => cases h
  | some x =>
    have := Zl h
    cases this
    exact ⟨rfl, rfl⟩
def RepP (K : Fg) (H Hs : Hp) (σ : St) (v : V) : Op -> Bud -> Prop
  | .late i, _ => σ[i]? = some (some v)
  | .tmp d, m => Rep K H Hs v d m
theorem RepP.frame {K : Fg} {H Hs H' Hs' : Hp} {σ : St} {v : V} {p : Op} {m : Bud} (g : Same Hs Hs') (k : ∀ b, m b ≥ 1 -> H b ≠ none -> H' b = H b) (h : RepP K H Hs σ v p m) : RepP K H' Hs' σ v p m := by
  cases p with
  | late i => exact h
  | tmp d => exact Rep.frame g k h
inductive View (K : Fg) (H Hs : Hp) : V -> W -> Bud -> Prop
  | sc (v : V) (m : Bud) : View K H Hs v (.sc v) m
  | nd {a : Addr} {k : Kd} {vs : List V} {ds : List D} {m : Bud} : ZgN K H a vs k -> RepL K H Hs vs ds m -> View K H Hs (.ref a) (.nd k ds) m
theorem View.frame {K : Fg} {H Hs Hs' : Hp} {v : V} {w : W} {m : Bud} (g : Same Hs Hs') (h : View K H Hs v w m) : View K H Hs' v w m := by
  cases h with
  | sc v m => exact .sc v m
  | nd n r => exact .nd n (r.frame g fun _ _ _ => rfl)
section
variable {K : Fg} {H Hs H' Hs' H1 Hs1 H2 Hs2 : Hp} {σ : St} {δ δ' : List D} {M M' B m : Bud}
theorem Good.re (g : Good H Hs M) (l : ∀ b, M' b <= M b := by intro b; (try dsimp only); omega) : Good H Hs M' := g.drop l
theorem Zcy {p : Op} {v : V} {w : W} (g : Good H Hs (fun b => B b + M b)) (s : RepS K H Hs σ δ M) (r : RepP K H Hs σ v p m) (e : view p δ = .ok (w, δ')) :
    ∃ Hs' M', Good H Hs' (fun b => B b + M' b) /\ Stp H Hs (fun b => B b + M b) H Hs' (fun b => B b + M' b) /\ View K H Hs' v w m /\ RepS K H Hs' σ δ' M' := by
  cases p with
  | tmp d =>
    cases d with
    | sc u =>
      have := Zl e
      cases this
      cases r
      exact ⟨Hs, M, g, Stp.refl _ _ _, .sc _ _, s⟩
    | hole => cases e
    | node k o ds =>
      have := Zl e
      cases this
      refine ⟨Hs, M, g, Stp.refl _ _ _, ?_, s⟩
      cases r with
      | own n q l => exact .nd n.r (q.mono fun b => by have := l b; omega)
      | shd n q => exact .nd (n.same g.sub) (q.mono fun b => Nat.zero_le _)
  | late i =>
    have r : σ[i]? = some (some v) := r
    unfold view at e
    dsimp only at e
    split at e
    . rename_i u hi
      cases e
      obtain ⟨v', m1, m2, e1, q, l, f⟩ := s.slot hi (by simp)
      rw [r] at e1
      cases e1
      cases q
      exact ⟨Hs, M, g, Stp.refl _ _ _, .sc _ _, s⟩
    . rename_i k ds hi
      cases e
      obtain ⟨v', m1, m2, e1, q, l, f⟩ := s.slot hi (by simp)
      rw [r] at e1
      cases e1
      cases q with
      | shd n q => exact ⟨Hs, M, g, Stp.refl _ _ _, .nd (n.same g.sub) (q.mono fun b => Nat.zero_le _), s⟩
    . rename_i k ds hi
      cases e
      obtain ⟨v', m1, m2, e1, q, l, f⟩ := s.slot hi (by simp)
      rw [r] at e1
      cases e1
      cases q with
      | @own a _ vs _ _ m' n q l' =>
        have g2 : Good H Hs (fun b => m' b + (B b + (one a b + m2 b))) := g.re fun b => by have := l b; have := l' b; omega
        have hsame := ZeY g2 (m := m') fun b => by omega
        have q2 := RepL.share hsame (Zhh (H := H) (Hs := Hs) (m := m')) q
        refine ⟨shH H Hs m', fun b => one a b + m2 b, g2.share, ?_, .nd n.r (q2.mono fun b => Nat.zero_le _), ?_⟩
        . have s1 := Stp.share g2
          exact ⟨fun b o h z => h, fun b h => by
            rcases s1.own b h with q | q
            . left
              have : B b + M b <= 1 := g.le b
              have h1 := l b
              have h2 := l' b
              have h3 : m' b + (B b + (one a b + m2 b)) = 1 := q
              show B b + M b = 1
              omega
            . exact .inr q, s1.grow, fun b h h' => by
            rcases s1.shr b h h' with q | q
            . left
              have : B b + M b <= 1 := g.le b
              have h1 := l b
              have h2 := l' b
              have h3 : m' b + (B b + (one a b + m2 b)) = 1 := q
              show B b + M b = 1
              omega
            . exact .inr q, fun b h => h⟩
        . have z := f H (shH H Hs m') (some (.ref a)) (.node k true (shrL ds)) (one a) hsame (fun _ _ _ => rfl) (.inr ⟨_, rfl, .own n q2 fun b => by simp⟩)
          rw [ZaY r] at z
          exact z
    . cases e
def Outs (K : Fg) (H Hs : Hp) (m : Bud) (d : D) (Q : VK) : Prop := ∀ (v : V) (H' : Hp) (m' : Bud), Same H H' -> (∀ b, m' b <= 1) -> (∀ b, m' b = 1 -> H' b ≠ none) -> (∀ b, H b ≠ none -> m' b <= m b) -> Rep K H' Hs v d m' -> Q v H'
theorem Outs.sc {u : V} {Q : VK} (h : Outs K H Hs m (.sc u) Q) : Q u H := h u H (fun _ => 0) (Same.refl _) (fun _ => Nat.zero_le _) (fun _ h => by simp at h) (fun _ _ => Nat.zero_le _) (.sc u _)
theorem Zkt {H : Hp} {p : Addr} {o : HO} (h : H p = none) : Same H (upd H p o) := fun b u e => by
  rw [ZC (Zbf e h)]
  exact e
theorem Outs.new {k : Kd} {ds : List D} {vs : List V} {o : HO} {p : Addr} {Q : VK} (h : Outs K H Hs m (.node k true ds) Q) (hm : ∀ b, m b <= 1) (hh : ∀ b, m b = 1 -> H b ≠ none) (hp : H p = none) (n : Zdl K (upd H p o) p vs k) (r : RepL K H Hs vs ds m) : Q (.ref p) (upd H p o) := by
  have hs := Zkt (o := o) hp
  have mp : m p = 0 := by
    have := hm p
    by_cases q : m p = 1
    . exact absurd hp (hh p q)
    . omega
  refine h (.ref p) (upd H p o) (fun b => one p b + m b) hs (fun b => ?_) (fun b q => ?_) (fun b q => ?_) (.own n (r.frame (Same.refl _) fun b hb hn => ?_) fun b => Nat.le_refl _)
  . unfold one
    have := hm b
    split
    . rename_i e; subst e; omega
    . omega
  . by_cases e : b = p
    . subst e; rw [ZB]; simp
    . rw [ZC e]
      exact hh b (by simp only [one, if_neg e] at q; omega)
  . have e : b ≠ p := fun e => by subst e; exact q hp
    simp only [one, if_neg e]
    omega
  . have e : b ≠ p := fun e => by subst e; exact hn hp
    rw [ZC e]
theorem ZfJ {H0 Hs0 : Hp} {M0 : Bud} {d : D} {Q : VK} (st : Stp H0 Hs0 M0 H Hs (fun b => B b + M b)) (g : Good H Hs (fun b => B b + M b)) (s : RepS K H Hs σ δ M)
    (q : ∀ (v : V) (H' Hs' : Hp) (m M' : Bud), Good H' Hs' (fun b => m b + M' b) -> Stp H0 Hs0 M0 H' Hs' (fun b => m b + M' b) -> Rep K H' Hs' v d m -> RepS K H' Hs' σ δ M' -> Q v H') : Outs K H Hs B d Q := by
  intro v H' m' hs h1 h2 h3 r
  have hz : ∀ b, H b = none -> M b = 0 /\ B b = 0 := fun b hb => by
    have := g.has b
    have l : B b + M b <= 1 := g.le b
    by_cases e : B b + M b = 1
    . exact absurd hb (this e)
    . omega
  have hst : ∀ b, H b ≠ none -> H' b ≠ none := fun b hb => by
    cases e : H b with
    | none => exact absurd e hb
    | some o => rw [hs b o e]; simp
  refine q v H' Hs m' M ⟨fun b o e => hs b o (g.sub b o e), fun b => ?_, fun b h => ?_, fun b h => ?_⟩ ⟨fun b o e z => hs b o (st.keep b o e z), fun b h => ?_, st.grow, st.shr, fun b h => hst b (st.stay b h)⟩ r (s.frame (Same.refl _) fun b hb hn => ?_)
  . have l : B b + M b <= 1 := g.le b
    have := h1 b
    by_cases e : H b = none
    . have := hz b e; show m' b + M b <= 1; omega
    . have := h3 b e; show m' b + M b <= 1; omega
  . have h : m' b + M b = 1 := h
    have l : B b + M b <= 1 := g.le b
    by_cases e : H b = none
    . cases q : Hs b with
      | none => rfl
      | some o => rw [g.sub b o q] at e; cases e
    . have := h3 b e
      exact g.ne b (by show B b + M b = 1; omega)
  . have h : m' b + M b = 1 := h
    have l : B b + M b <= 1 := g.le b
    by_cases e : m' b = 1
    . exact h2 b e
    . exact hst b (g.has b (by show B b + M b = 1; omega))
  . have h : m' b + M b = 1 := h
    have l : B b + M b <= 1 := g.le b
    by_cases e : H b = none
    . right
      cases w : H0 b with
      | none => rfl
      | some o => exact absurd e (st.stay b (by rw [w]; simp))
    . have := h3 b e
      exact st.own b (by show B b + M b = 1; omega)
  . cases e : H b with
    | none => exact absurd e hn
    | some o => exact hs b o e
theorem RepL.app {vs ws : List V} {ds es : List D} {m1 m2 : Bud} (a : RepL K H Hs vs ds m1) (b : RepL K H Hs ws es m2) : RepL K H Hs (vs ++ ws) (ds ++ es) (fun b => m1 b + m2 b) := (a.sep.append b.sep).repL
theorem RepL.len {vs : List V} {ds : List D} {m : Bud} (a : RepL K H Hs vs ds m) : vs.length = ds.length := a.sep.length
end
end T
namespace T
open PySem PySem.Spec L2
def tG {α : Type} (K : Fg) (c : M α) (R : Hp -> Hp -> St -> α -> V -> Bud -> Prop) : TE := fun σ H Q => ∃ (δ : List D) (Hs : Hp) (M : Bud) (a : α) (δ' : List D), Good H Hs M /\ RepS K H Hs σ δ M /\ c δ = .ok (a, δ') /\
  ∀ (v : V) (H' Hs' : Hp) (m M' : Bud), Good H' Hs' (fun b => m b + M' b) -> Stp H Hs M H' Hs' (fun b => m b + M' b) -> R H' Hs' σ a v m -> RepS K H' Hs' σ δ' M' -> Q v H'
def tM (K : Fg) (c : M D) : TE := tG K c fun H Hs _ d v m => Rep K H Hs v d m
def tP (K : Fg) (c : M Op) : TE := tG K c fun H Hs σ p v m => RepP K H Hs σ v p m
def tT (K : Fg) (c : M Bool) : TT := fun σ H Q => ∃ (δ : List D) (Hs : Hp) (M : Bud) (b : Bool) (δ' : List D), Good H Hs M /\ RepS K H Hs σ δ M /\ c δ = .ok (b, δ') /\
  ∀ (H' Hs' : Hp) (M' : Bud), Good H' Hs' M' -> Stp H Hs M H' Hs' M' -> RepS K H' Hs' σ δ' M' -> Q b H'
def Zfk (K : Fg) (H Hs : Hp) (σ : St) : List V -> List Op -> Bud -> Prop
  | [], [], _ => True
  | v :: vs, p :: ps, m => ∃ m1 m2 : Bud, RepP K H Hs σ v p m1 /\ Zfk K H Hs σ vs ps m2 /\ ∀ b, m1 b + m2 b <= m b
  | _, _, _ => False
theorem Zfk.frame {K : Fg} {H Hs H' Hs' : Hp} {σ : St} (g : Same Hs Hs') : ∀ {vs : List V} {ps : List Op} {m : Bud}, (∀ b, m b ≥ 1 -> H b ≠ none -> H' b = H b) -> Zfk K H Hs σ vs ps m -> Zfk K H' Hs' σ vs ps m
  | [], [], _, _, h => h
  | v :: vs, p :: ps, m, k, ⟨m1, m2, a, b, l⟩ => ⟨m1, m2, a.frame g fun c hc => k c (by have := l c; omega), b.frame g fun c hc => k c (by have := l c; omega), l⟩
  | [], _ :: _, _, _, h => h.elim
  | _ :: _, [], _, _, h => h.elim
def tPs (K : Fg) (c : M (List Op)) : TA := fun σ H Q => ∃ (δ : List D) (Hs : Hp) (M : Bud) (a : List Op) (δ' : List D), Good H Hs M /\ RepS K H Hs σ δ M /\ c δ = .ok (a, δ') /\
  ∀ (vs : List V) (H' Hs' : Hp) (m M' : Bud), Good H' Hs' (fun b => m b + M' b) -> Stp H Hs M H' Hs' (fun b => m b + M' b) -> Zfk K H' Hs' σ vs a m -> RepS K H' Hs' σ δ' M' -> Q vs H'
def tDs (K : Fg) (c : M (List D)) : TA := fun σ H Q => ∃ (δ : List D) (Hs : Hp) (M : Bud) (a : List D) (δ' : List D), Good H Hs M /\ RepS K H Hs σ δ M /\ c δ = .ok (a, δ') /\
  ∀ (vs : List V) (H' Hs' : Hp) (m M' : Bud), Good H' Hs' (fun b => m b + M' b) -> Stp H Hs M H' Hs' (fun b => m b + M' b) -> RepL K H' Hs' vs a m -> RepS K H' Hs' σ δ' M' -> Q vs H'
section
variable {X : Cx} {e a b : Expr} {es : List Expr} {pos : Pos}
theorem PE.imp {t t' : TE} (h : PE X e t) (w : ∀ σ H Q, t' σ H Q -> t σ H Q) : PE X e t' := fun pins s σ H Q I q => h pins s σ H Q I (w σ H Q q)
theorem PT.imp {t t' : TT} (h : PT X e t) (w : ∀ σ H Q, t' σ H Q -> t σ H Q) : PT X e t' := fun pins s σ H Q I q => h pins s σ H Q I (w σ H Q q)
theorem PA.imp {t t' : TA} (h : PA X es t) (w : ∀ σ H Q, t' σ H Q -> t σ H Q) : PA X es t' := fun pos pins s σ H Q I q => h pos pins s σ H Q I (w σ H Q q)
theorem ZdK {H Hs : Hp} {M : Bud} (g : Good H Hs M) : Good H Hs (fun b => (fun _ => 0) b + M b) := g.drop fun b => by simp
theorem stp0 (H Hs : Hp) (M : Bud) : Stp H Hs M H Hs (fun b => (fun _ => 0) b + M b) := by
  have e : (fun b => (fun _ => 0) b + M b) = M := by funext b; simp
  rw [e]
  exact Stp.refl H Hs M
theorem ok_k {v : V} (h : PE X e (tC v)) : PE X e (tM X.K (M.ret (.sc v))) := PE.imp h fun σ H Q ⟨δ, Hs, M, d, δ', g, r, e, q⟩ => by
  have := Zl e
  cases this
  exact q v H Hs (fun _ => 0) M (ZdK g) (stp0 H Hs M) (.sc v _) r
theorem Zea {i : Nat} (h : PE X e (tVar i)) : PE X e (tP X.K (Zbg i)) := PE.imp h fun σ H Q ⟨δ, Hs, M, p, δ', g, r, e, q⟩ => by
  have fin : ∀ {d : D}, δ[i]? = some d -> d ≠ .hole -> p = .late i -> δ' = δ -> tVar i σ H Q := fun hd hn e1 e2 => by
    subst e1 e2
    obtain ⟨v, m1, m2, e3, _⟩ := r.slot hd hn
    exact ⟨v, e3, q v H Hs (fun _ => 0) M (ZdK g) (stp0 H Hs M) e3 r⟩
  unfold Zbg at e
  split at e
  . rename_i hd
    injection e with e
    cases e
    exact fin hd (by simp) rfl rfl
  . rename_i hd
    injection e with e
    cases e
    exact fin hd (by simp) rfl rfl
  . cases e
theorem ok_v {i : Nat} (h : PE X e (tVar i)) : PE X e (tM X.K (valV i)) := PE.imp h fun σ H Q ⟨δ, Hs, M, d, δ', g, s, e, q⟩ => by
  unfold valV at e
  split at e
  . rename_i u hd
    injection e with e
    cases e
    obtain ⟨v, m1, m2, e3, r, _⟩ := s.slot hd (by simp)
    cases r
    exact ⟨u, e3, q u H Hs (fun _ => 0) M (ZdK g) (stp0 H Hs M) (.sc _ _) s⟩
  . rename_i k ds hd
    injection e with e
    cases e
    obtain ⟨v, m1, m2, e3, r, _⟩ := s.slot hd (by simp)
    cases r with
    | shd n r => exact ⟨_, e3, q _ H Hs (fun _ => 0) M (ZdK g) (stp0 H Hs M) (.shd n r) s⟩
  . rename_i k ds hd
    injection e with e
    cases e
    obtain ⟨v, m1, m2, e3, r, l, f⟩ := s.slot hd (by simp)
    refine ⟨v, e3, ?_⟩
    have g2 : Good H Hs (fun b => m1 b + m2 b) := g.re fun b => by have := l b; omega
    have hsame := ZeY g2 (m := m1) fun b => by omega
    have r2 := Rep.share hsame (Zhh (H := H) (Hs := Hs) (m := m1)) r
    have st := Stp.share g2
    refine q v H (shH H Hs m1) (fun _ => 0) m2 (ZdK g2.share) ⟨fun b o h _ => h, fun b h => ?_, st.grow, fun b h h' => ?_, fun b h => h⟩ r2 ?_
    . have h : (fun _ => 0) b + m2 b = 1 := h
      have := l b
      have := g.le b
      left; simp at h; omega
    . rcases st.shr b h h' with z | z
      . have z : m1 b + m2 b = 1 := z
        have := l b
        have := g.le b
        left; omega
      . exact .inr z
    . have z := f H (shH H Hs m1) (some v) (.node k false (shrL ds)) (fun _ => 0) hsame (fun _ _ _ => rfl) (.inr ⟨v, rfl, r2⟩)
      rw [ZaY e3] at z
      exact z.mono fun b => by simp
  . cases e
theorem Zc {c : M D} (h : PE X e (tM X.K c)) : PE X e (tP X.K (c.bnd fun d => M.ret (.tmp d))) := PE.imp h fun σ H Q ⟨δ, Hs, M, p, δ', g, s, e, q⟩ => by
  obtain ⟨d, δ1, e1, e2⟩ := Ze e
  have := Zl e2
  cases this
  exact ⟨δ, Hs, M, d, _, g, s, e1, fun v H' Hs' m M' g' st r s' => q v H' Hs' m M' g' st r s'⟩
theorem seq2 {K : Fg} {ca cb : M Op} {σ : St} {H Hs : Hp} {M : Bud} {δ δ1 δ2 : List D} {p q : Op} {R : V -> V -> Hp -> Prop} (g : Good H Hs M) (s : RepS K H Hs σ δ M) (e1 : ca δ = .ok (p, δ1)) (e2 : cb δ1 = .ok (q, δ2))
    (h : ∀ (x y : V) (H2 Hs2 : Hp) (m1 m2 M2 : Bud), Good H2 Hs2 (fun b => (m1 b + m2 b) + M2 b) -> Stp H Hs M H2 Hs2 (fun b => (m1 b + m2 b) + M2 b) -> RepP K H2 Hs2 σ x p m1 -> RepP K H2 Hs2 σ y q m2 -> RepS K H2 Hs2 σ δ2 M2 -> R x y H2) :
    tP K ca σ H fun x H1 => tP K cb σ H1 fun y H2 => R x y H2 := by
  refine ⟨δ, Hs, M, p, δ1, g, s, e1, fun x H1 Hs1 m1 M1 g1 st1 r1 s1 => ⟨δ1, Hs1, M1, q, δ2, g1.re, s1, e2, fun y H2 Hs2 m2 M2 g2 st2 r2 s2 => ?_⟩⟩
  obtain ⟨G, S, k⟩ := ZA g g1 st1 g2 st2
  have le : ∀ b, m1 b + (m2 b + M2 b) <= 1 := G.le
  exact h x y H2 Hs2 m1 m2 M2 G.re (S.drop (fun b => by omega) le) (r1.frame st2.grow k) r2 s2
theorem Zmf {K : Fg} {σ : St} {H Hs : Hp} {m1 m2 M : Bud} {δ δ1 δ2 : List D} {p q : Op} {x y : V} {w1 w2 : W} (g : Good H Hs (fun b => (m1 b + m2 b) + M b)) (s : RepS K H Hs σ δ M) (r1 : RepP K H Hs σ x p m1) (r2 : RepP K H Hs σ y q m2)
    (e1 : view p δ = .ok (w1, δ1)) (e2 : view q δ1 = .ok (w2, δ2)) : ∃ Hs' M', Good H Hs' (fun b => (m1 b + m2 b) + M' b) /\ Stp H Hs (fun b => (m1 b + m2 b) + M b) H Hs' (fun b => (m1 b + m2 b) + M' b) /\ View K H Hs' x w1 m1 /\ View K H Hs' y w2 m2 /\ RepS K H Hs' σ δ2 M' := by
  obtain ⟨Hs1, M1, g1, st1, v1, s1⟩ := Zcy (B := fun b => m1 b + m2 b) g s r1 e1
  obtain ⟨Hs2, M2, g2, st2, v2, s2⟩ := Zcy (B := fun b => m1 b + m2 b) g1 s1 (r2.frame st1.grow fun _ _ _ => rfl) e2
  refine ⟨Hs2, M2, g2, ?_, v1.frame st2.grow, v2, s2⟩
  have z := ZA (m1 := fun _ => 0) g (g1.re fun b => by simp) (st1.drop (fun b => by simp) g1.le) g2 st2
  exact z.2.1.drop (fun b => by simp) z.1.le
def r2W (K : Fg) (f : W -> W -> Option D) : R2 := fun x y H Q => ∃ (Hs : Hp) (w1 w2 : W) (m1 m2 : Bud) (d : D), Same Hs H /\ (∀ b, m1 b + m2 b <= 1) /\ (∀ b, m1 b + m2 b = 1 -> H b ≠ none) /\ View K H Hs x w1 m1 /\ View K H Hs y w2 m2 /\ f w1 w2 = some d /\ Outs K H Hs (fun b => m1 b + m2 b) d Q
theorem op2 {K : Fg} {ca cb : M Op} {f : W -> W -> Option D} {σ : St} {H : Hp} {Q : VK} (h : tM K (ca.bnd fun p => cb.bnd fun q => (view p).bnd fun x => (view q).bnd fun y => lift (f x y)) σ H Q) : tOp (r2W K f) (tP K ca) (tP K cb) σ H Q := by
  obtain ⟨δ, Hs, M, d, δ', g, s, e, q⟩ := h
  obtain ⟨p, δ1, e1, e⟩ := Ze e
  obtain ⟨p2, δ2, e2, e⟩ := Ze e
  obtain ⟨w1, δ3, e3, e⟩ := Ze e
  obtain ⟨w2, δ4, e4, e⟩ := Ze e
  obtain ⟨e5, rfl⟩ := ZaH e
  refine seq2 g s e1 e2 fun x y H2 Hs2 m1 m2 M2 g2 st2 r1 r2 s2 => ?_
  obtain ⟨Hs3, M3, g3, st3, v1, v2, s3⟩ := Zmf g2 s2 r1 r2 e3 e4
  have z := ZA (m1 := fun _ => 0) g (g2.re fun b => by simp) (st2.drop (fun b => by simp) g2.le) g3 st3
  have st : Stp H Hs M H2 Hs3 (fun b => (m1 b + m2 b) + M3 b) := z.2.1.drop (fun b => by simp) z.1.le
  exact ⟨Hs3, w1, w2, m1, m2, d, g3.sub, fun b => by have : (m1 b + m2 b) + M3 b <= 1 := g3.le b; omega, fun b hb => g3.has b (by have : (m1 b + m2 b) + M3 b <= 1 := g3.le b; show (m1 b + m2 b) + M3 b = 1; omega), v1, v2, e5, ZfJ st g3 s3 q⟩
theorem Zj {op : Operator} {ca cb : M Op} (ho : OpR X (binaryOp op) (r2W X.K (binW op))) (ha : PE X a (tP X.K ca)) (hb : PE X b (tP X.K cb)) :
    PE X (.BinOp a op b pos) (tM X.K (ca.bnd fun p => cb.bnd fun q => (view p).bnd fun x => (view q).bnd fun y => lift (binW op x y))) := PE.imp (Zs3 ho ha hb) fun σ H Q h => op2 h
theorem Zk (op : Operator) : OpR X (binaryOp op) (r2W X.K (binW op)) := by
  intro pins s σ H x y v u Q I rx ry h
  obtain ⟨Hs, w1, w2, m1, m2, d, hs, h1, h2, v1, v2, e, o⟩ := h
  unfold binW at e
  split at e
  . cases e; cases v1; cases v2; exact Zq4 pins s σ H _ _ v u Q I rx ry ⟨_, _, rfl, rfl, o.sc⟩
  . cases e; cases v1; cases v2; exact Zq5 pins s σ H _ _ v u Q I rx ry ⟨_, _, rfl, rfl, o.sc⟩
  . split at e
    . rename_i hc; cases e; cases v1; cases v2; exact Zq6 pins s σ H _ _ v u Q I rx ry ⟨_, _, rfl, rfl, hc, o.sc⟩
    . cases e
  . split at e
    . rename_i hc; cases e; cases v1; cases v2; exact ZoT pins s σ H _ _ v u Q I rx ry ⟨_, _, rfl, rfl, hc, o.sc⟩
    . cases e
  . split at e
    . rename_i hc; cases e; cases v1; cases v2; exact Zq7 pins s σ H _ _ v u Q I rx ry ⟨_, _, rfl, rfl, hc, o.sc⟩
    . cases e
  . split at e
    . rename_i hc; cases e; cases v1; cases v2; exact Zq8 pins s σ H _ _ v u Q I rx ry ⟨_, _, rfl, rfl, hc, o.sc⟩
    . cases e
  . split at e
    . rename_i hc; cases e; cases v1; cases v2; exact ZlM pins s σ H _ _ v u Q I rx ry ⟨_, _, rfl, rfl, hc, o.sc⟩
    . cases e
  . unfold newL at e
    split at e
    . rename_i hc
      cases e
      cases v1 with
      | nd n1 r1 => cases v2 with
        | nd n2 r2 =>
          have l1 := r1.len
          have l2 := r2.len
          rw [List.length_append] at hc
          exact ZqI pins s σ H _ _ v u Q I rx ry ⟨_, _, _, _, rfl, rfl, n1, n2, by omega, fun p hp => o.new h1 h2 hp (show upd H p _ p = _ from ZB) (r1.app r2)⟩
    . cases e
  . cases e
end
end T
namespace T
open PySem PySem.Spec L2
mutual
theorem Rep.den {K : Fg} {H Hs : Hp} (g : Same Hs H) : ∀ {v : V} {d : D} {m : Bud} {a : PyData}, Rep K H Hs v d m -> py d = some a -> Den K H v a
  | _, _, _, _, .sc .non _, h => by simp only [py, Option.some.injEq] at h; subst h; exact .non
  | _, _, _, _, .sc (.bl b) _, h => by simp only [py, Option.some.injEq] at h; subst h; exact .bl b
  | _, _, _, _, .sc (.int b) _, h => by simp only [py, Option.some.injEq] at h; subst h; exact .int b
  | _, _, _, _, .sc (.str b) _, h => by simp only [py, Option.some.injEq] at h; subst h; exact .str b
  | _, _, _, _, .sc (.byt b) _, h => by simp [py] at h
  | _, _, _, _, .sc (.flt b) _, h => by simp [py] at h
  | _, _, _, _, .sc (.ref b) _, h => by simp [py] at h
  | _, _, _, _, .sc (.ty b) _, h => by simp [py] at h
  | _, _, _, _, .hole v _, h => by simp [py] at h
  | _, _, _, _, .own (k := .lst) n r _, h => by
    simp only [py, Option.map_eq_some_iff] at h
    obtain ⟨x, h, rfl⟩ := h
    exact .lst (.inl (.inl n)) (RepL.den g r h)
  | _, _, _, _, .own (k := .frl) n r _, h => n.elim
  | _, _, _, _, .own (k := .tup) n r _, h => by
    simp only [py, Option.map_eq_some_iff] at h
    obtain ⟨x, h, rfl⟩ := h
    exact .tup (.inl (.inl n)) (RepL.den g r h)
  | _, _, _, _, .own (k := .ftp) n r _, h => n.elim
  | _, _, _, _, .own (k := .dic _) n r _, h => by simp [py] at h
  | _, _, _, _, .own (k := .ins _ _) n r _, h => by simp [py] at h
  | _, _, _, _, .own (k := .exc _ _ _) n r _, h => by simp [py] at h
  | _, _, _, _, .shd (k := .lst) n r, h => by
    simp only [py, Option.map_eq_some_iff] at h
    obtain ⟨x, h, rfl⟩ := h
    exact .lst (.inl (.inl (g _ _ n))) (RepL.den g r h)
  | _, _, _, _, .shd (k := .frl) n r, h => by
    simp only [py, Option.map_eq_some_iff] at h
    obtain ⟨x, h, rfl⟩ := h
    exact .lst (g.seq n) (RepL.den g r h)
  | _, _, _, _, .shd (k := .tup) n r, h => by
    simp only [py, Option.map_eq_some_iff] at h
    obtain ⟨x, h, rfl⟩ := h
    exact .tup (.inl (.inl (g _ _ n))) (RepL.den g r h)
  | _, _, _, _, .shd (k := .ftp) n r, h => by
    simp only [py, Option.map_eq_some_iff] at h
    obtain ⟨x, h, rfl⟩ := h
    exact .tup (Same.tupq' g n) (RepL.den g r h)
  | _, _, _, _, .shd (k := .dic _) n r, h => by simp [py] at h
  | _, _, _, _, .shd (k := .ins _ _) n r, h => by simp [py] at h
  | _, _, _, _, .shd (k := .exc _ _ _) n r, h => by simp [py] at h
theorem RepL.den {K : Fg} {H Hs : Hp} (g : Same Hs H) : ∀ {vs : List V} {ds : List D} {m : Bud} {as : List PyData}, RepL K H Hs vs ds m -> pyL ds = some as -> DenL K H vs as
  | _, _, _, _, .nil _, h => by simp only [pyL, Option.some.injEq] at h; subst h; exact .nil
  | _, _, _, _, .cons x y _, h => by
    simp only [pyL, Option.bind_eq_some_iff, Option.map_eq_some_iff] at h
    obtain ⟨a, h1, as, h2, rfl⟩ := h
    exact .cons (Rep.den g x h1) (RepL.den g y h2)
end
theorem View.den {K : Fg} {H Hs : Hp} (g : Same Hs H) {v : V} {w : W} {m : Bud} {a : PyData} (h : View K H Hs v w m) (e : py (toD w) = some a) : Den K H v a := by
  cases h with
  | sc v m => exact Rep.den g (.sc v m) e
  | @nd ad k vs ds m n r =>
    cases k with
    | lst =>
      simp only [toD, py, Option.map_eq_some_iff] at e
      obtain ⟨x, e, rfl⟩ := e
      exact .lst (.inl (.inl n)) (r.den g e)
    | frl =>
      simp only [toD, py, Option.map_eq_some_iff] at e
      obtain ⟨x, e, rfl⟩ := e
      exact .lst n (r.den g e)
    | tup =>
      simp only [toD, py, Option.map_eq_some_iff] at e
      obtain ⟨x, e, rfl⟩ := e
      exact .tup (.inl (.inl n)) (r.den g e)
    | ftp =>
      simp only [toD, py, Option.map_eq_some_iff] at e
      obtain ⟨x, e, rfl⟩ := e
      exact .tup n (r.den g e)
    | dic ks => simp [toD, py] at e
    | ins C fs => simp [toD, py] at e
    | exc ns fr fs => simp [toD, py] at e
section
variable {X : Cx} {e a b c : Expr} {es rest : List Expr} {pos : Pos}
theorem Zps {a b : PyData} {t : Bool} (h : eqPy a b = some t) : SeqAt.shaped a = true /\ SeqAt.shaped b = true /\ PyData.eqv a b = t := by
  unfold eqPy at h
  split at h
  . rename_i q
    exact ⟨q.1, q.2, Option.some.inj h⟩
  . cases h
theorem Zi3 {K : Fg} {H Hs : Hp} (g : Same Hs H) {x y : V} {w1 w2 : W} {m1 m2 : Bud} {t : Bool} (v1 : View K H Hs x w1 m1) (v2 : View K H Hs y w2 m2) (h : eqW w1 w2 = some t) :
    (scal x y = true /\ decide (x = y) = t) \/ ∃ d e, Den K H x d /\ Den K H y e /\ SeqAt.shaped d = true /\ SeqAt.shaped e = true /\ PyData.eqv d e = t := by
  have go : ((py (toD w1)).bind fun a => (py (toD w2)).bind fun b => eqPy a b) = some t -> ∃ d e, Den K H x d /\ Den K H y e /\ SeqAt.shaped d = true /\ SeqAt.shaped e = true /\ PyData.eqv d e = t := fun q => by
    simp only [Option.bind_eq_some_iff] at q
    obtain ⟨d, q1, e, q2, q3⟩ := q
    obtain ⟨s1, s2, s3⟩ := Zps q3
    exact ⟨d, e, v1.den g q1, v2.den g q2, s1, s2, s3⟩
  cases v1 with
  | sc u _ => cases v2 with
    | sc v _ =>
      have h : (if scal x y = true then some (decide (x = y)) else (py (.sc x)).bind fun a => (py (.sc y)).bind fun b => eqPy a b) = some t := h
      by_cases q : scal x y = true
      . rw [if_pos q] at h
        exact .inl ⟨q, Option.some.inj h⟩
      . rw [if_neg q] at h
        exact .inr (go h)
    | nd n r => exact .inr (go h)
  | nd n r => exact .inr (go h)
theorem ZmS (op : CmpOp) (hu : X.A.units + 64 < cLine) : OpR X (compareOp op) (r2W X.K fun x y => (cmpW op x y).map fun t => .sc (.bl t)) := by
  intro pins s σ H x y v u Q I rx ry h
  obtain ⟨Hs, w1, w2, m1, m2, d, hs, h1, h2, v1, v2, e, o⟩ := h
  simp only [Option.map_eq_some_iff] at e
  obtain ⟨t, e, rfl⟩ := e
  have q := o.sc
  unfold cmpW at e
  split at e
  . rcases Zi3 hs v1 v2 e with ⟨h3, rfl⟩ | ⟨d, f, h3, h4, h5, h6, rfl⟩
    . exact Zo0 pins s σ H _ _ v u Q I rx ry ⟨h3, q⟩
    . exact ZmK hu pins s σ H _ _ v u Q I rx ry ⟨d, f, h3, h4, h5, h6, q⟩
  . simp only [Option.map_eq_some_iff] at e
    obtain ⟨t, e, rfl⟩ := e
    rcases Zi3 hs v1 v2 e with ⟨h3, rfl⟩ | ⟨d, f, h3, h4, h5, h6, rfl⟩
    . exact Zo1 pins s σ H _ _ v u Q I rx ry ⟨h3, q⟩
    . exact ZmL hu pins s σ H _ _ v u Q I rx ry ⟨d, f, h3, h4, h5, h6, q⟩
  . rename_i i j _ _
    cases v1; cases v2
    cases op with
    | Lt => cases e; exact Zo2 pins s σ H _ _ v u Q I rx ry ⟨_, _, rfl, rfl, q⟩
    | LtE => cases e; exact Zo3 pins s σ H _ _ v u Q I rx ry ⟨_, _, rfl, rfl, q⟩
    | Gt => cases e; exact Zo4 pins s σ H _ _ v u Q I rx ry ⟨_, _, rfl, rfl, q⟩
    | GtE => cases e; exact Zo5 pins s σ H _ _ v u Q I rx ry ⟨_, _, rfl, rfl, q⟩
    | _ => cases e
  . cases e
theorem Zra {op : CmpOp} {ca cb : M Op} (hu : X.A.units + 64 < cLine) (ha : PE X a (tP X.K ca)) (hb : PE X b (tP X.K cb)) (hm : behindInMarks op b = false := by first | exact nomark _ | with_unfolding_all rfl) :
    PE X (.Compare a [op] [b] pos) (tM X.K (ca.bnd fun p => cb.bnd fun q => (view p).bnd fun x => (view q).bnd fun y => lift ((cmpW op x y).map fun t => .sc (.bl t)))) := PE.imp (ZoU (ZmS op hu) ha hb hm) fun σ H Q h => op2 h
theorem ZnL {c : M D} {δ : List D} {r : Bool × List D} (h : ZdJ c δ = .ok r) : c δ = .ok (.sc (.bl r.1), r.2) := by
  obtain ⟨d, δ1, e1, e2⟩ := Ze h
  obtain ⟨b, δ2⟩ := r
  obtain ⟨e3, rfl⟩ := ZaH e2
  cases d with
  | sc v => cases v with
    | bl t => cases e3; exact e1
    | _ => cases e3
  | _ => cases e3
theorem Zjd {c : M D} {σ : St} {H : Hp} {Q : Bool -> Hp -> Prop} {K : Fg} (h : tT K (ZdJ c) σ H Q) : tM K c σ H fun x H' => ∃ k, x = .bl k /\ Q k H' := by
  obtain ⟨δ, Hs, M, b, δ', g, s, e, q⟩ := h
  refine ⟨δ, Hs, M, .sc (.bl b), δ', g, s, ZnL e, fun v H' Hs' m M' g' st r s' => ?_⟩
  cases r
  exact ⟨b, rfl, q H' Hs' M' g'.re (st.drop (fun b => by omega) g'.le) s'⟩
theorem Zpt {op : CmpOp} {ca cb : M Op} (hu : X.A.units + 64 < cLine) (ha : PE X a (tP X.K ca)) (hb : PE X b (tP X.K cb)) (hm : behindInMarks op b = false := by first | exact nomark _ | with_unfolding_all rfl) :
    PT X (.Compare a [op] [b] pos) (tT X.K (ZdJ (ca.bnd fun p => cb.bnd fun q => (view p).bnd fun x => (view q).bnd fun y => lift ((cmpW op x y).map fun t => .sc (.bl t))))) := PT.imp (ZoV (ZmS op hu) ha hb hm) fun σ H Q h => op2 (Zjd h)
theorem op1 {K : Fg} {ca : M Op} {f : W -> Option D} {σ : St} {H : Hp} {Q : VK} {r : V -> Hp -> VK -> Prop} (h : tM K ((ca.bnd view).bnd fun x => lift (f x)) σ H Q)
    (hr : ∀ (x : V) (H Hs : Hp) (w : W) (m : Bud) (d : D), Same Hs H -> (∀ b, m b <= 1) -> (∀ b, m b = 1 -> H b ≠ none) -> View K H Hs x w m -> f w = some d -> Outs K H Hs m d Q -> r x H Q) : tUn r (tP K ca) σ H Q := by
  obtain ⟨δ, Hs, M, d, δ', g, s, e, q⟩ := h
  obtain ⟨w, δ2, e, e5⟩ := Ze e
  obtain ⟨p, δ1, e1, e3⟩ := Ze e
  obtain ⟨e6, rfl⟩ := ZaH e5
  refine ⟨δ, Hs, M, p, δ1, g, s, e1, fun x H2 Hs2 m1 M2 g2 st2 r1 s2 => ?_⟩
  obtain ⟨Hs3, M3, g3, st3, v1, s3⟩ := Zcy (B := m1) g2 s2 r1 e3
  have z := ZA (m1 := fun _ => 0) g (g2.re fun b => by simp) (st2.drop (fun b => by simp) g2.le) g3 st3
  have st : Stp H Hs M H2 Hs3 (fun b => m1 b + M3 b) := z.2.1.drop (fun b => by simp) z.1.le
  exact hr x H2 Hs3 w m1 d g3.sub (fun b => by have : m1 b + M3 b <= 1 := g3.le b; omega) (fun b hb => g3.has b (by have : m1 b + M3 b <= 1 := g3.le b; show m1 b + M3 b = 1; omega)) v1 e6 (ZfJ st g3 s3 q)
theorem Zfq {ca : M Op} (ha : PE X a (tP X.K ca)) : PE X (.UnaryOp .USub a pos) (tM X.K ((ca.bnd view).bnd fun x => lift (negW x))) :=
  PE.imp (Zs4 Zq9 ha) fun σ H Q h => op1 h fun x H Hs w m d g h1 h2 v e o => by
    unfold negW at e
    split at e
    . cases e; cases v; exact ⟨_, rfl, o.sc⟩
    . cases e
theorem Zrb {K : Fg} {H Hs : Hp} {v : V} {w : W} {m : Bud} {t : Bool} (h : View K H Hs v w m) (e : truW w = some t) : TruV K v H t := by
  cases h with
  | sc v m =>
    cases v with
    | bl b => cases e; rfl
    | int i => cases e; show decide (i ≠ 0) = (i != 0); rw [Bool.eq_iff_iff]; simp
    | str x =>
      have e : (if x.length <= sizeLine then some (decide (x.length ≠ 0)) else none) = some t := e
      split at e
      . rename_i q
        cases e
        exact ⟨q, by rw [Bool.eq_iff_iff]; simp⟩
      . cases e
    | non => cases e; rfl
    | _ => cases e
  | @nd a k vs ds m n r =>
    have l : (!vs.isEmpty) = !ds.isEmpty := by
      have := r.len
      cases vs <;> cases ds <;> simp at this ⊢
    cases k with
    | lst => cases e; exact .inl ⟨vs, .inl (.inl n), by rw [l]⟩
    | frl => cases e; exact .inl ⟨vs, n, by rw [l]⟩
    | tup => cases e; exact .inr (.inl ⟨vs, .inl (.inl n), by rw [l]⟩)
    | ftp => cases e; exact .inr (.inl ⟨vs, n, by rw [l]⟩)
    | dic ks =>
      cases e
      obtain ⟨hl, n⟩ := n
      refine .inr (.inr ⟨_, n, ?_⟩)
      rw [<- l]
      cases ks <;> cases vs <;> simp at hl ⊢
    | ins C fs => cases e
    | exc ns fr fs => cases e
theorem Zbr {ca : M Op} (ha : PE X e (tP X.K ca)) (he : ∀ whole, isTrue e X.env whole = (do let v <- whole; standAt e.pos; holding [v] (truthy v)) := by intro _; rfl) :
    PT X e (tT X.K (ca.bnd fun p => (view p).bnd fun w => lift (truW w))) := PT.imp (Zn1 ha he) fun σ H Q h => by
  obtain ⟨δ, Hs, M, t, δ', g, s, e, q⟩ := h
  obtain ⟨p, δ1, e1, e⟩ := Ze e
  obtain ⟨w, δ2, e3, e5⟩ := Ze e
  obtain ⟨e6, rfl⟩ := ZaH e5
  refine ⟨δ, Hs, M, p, δ1, g, s, e1, fun x H2 Hs2 m1 M2 g2 st2 r1 s2 => ?_⟩
  obtain ⟨Hs3, M3, g3, st3, v1, s3⟩ := Zcy (B := m1) g2 s2 r1 e3
  have z := ZA (m1 := fun _ => 0) g (g2.re fun b => by simp) (st2.drop (fun b => by simp) g2.le) g3 st3
  exact ⟨t, Zrb v1 e6, q H2 Hs3 M3 g3.re (z.2.1.drop (fun b => by simp) z.1.le) s3⟩
end
end T
namespace T
open PySem PySem.Spec L2
section
variable {X : Cx} {e a b c : Expr} {es rest : List Expr} {pos : Pos}
theorem PW.imp {t t' : TT} (h : PW X e t) (w : ∀ σ H Q, t' σ H Q -> t σ H Q) : PW X e t' := fun wh pins s σ H Q I q => h wh pins s σ H Q I (w σ H Q q)
theorem Zku {K : Fg} {ca : M Bool} {f : Bool -> M Bool} {σ : St} {H : Hp} {Q : Bool -> Hp -> Prop} (h : tT K (ca.bnd f) σ H Q) : tT K ca σ H fun t H1 => tT K (f t) σ H1 Q := by
  obtain ⟨δ, Hs, M, b, δ', g, s, e, q⟩ := h
  obtain ⟨t, δ1, e1, e2⟩ := Ze e
  refine ⟨δ, Hs, M, t, δ1, g, s, e1, fun H1 Hs1 M1 g1 st1 s1 => ⟨δ1, Hs1, M1, b, δ', g1, s1, e2, fun H2 Hs2 M2 g2 st2 s2 => ?_⟩⟩
  have z := ZA (m1 := fun _ => 0) g (g1.re fun b => by simp) (st1.drop (fun b => by simp) g1.le) g2 st2
  exact q H2 Hs2 M2 g2 (z.2.1.drop (fun b => by simp) z.1.le) s2
theorem Zi4 {K : Fg} {t : Bool} {σ : St} {H : Hp} {Q : Bool -> Hp -> Prop} (h : tT K (M.ret t) σ H Q) : Q t H := by
  obtain ⟨δ, Hs, M, b, δ', g, s, e, q⟩ := h
  have := Zl e
  cases this
  exact q H Hs M g (Stp.refl _ _ _) s
theorem Zrc {K : Fg} {ca : M Bool} {f : Bool -> M D} {σ : St} {H : Hp} {Q : VK} (h : tM K (ca.bnd f) σ H Q) : tT K ca σ H fun t H1 => tM K (f t) σ H1 Q := by
  obtain ⟨δ, Hs, M, b, δ', g, s, e, q⟩ := h
  obtain ⟨t, δ1, e1, e2⟩ := Ze e
  refine ⟨δ, Hs, M, t, δ1, g, s, e1, fun H1 Hs1 M1 g1 st1 s1 => ⟨δ1, Hs1, M1, b, δ', g1, s1, e2, fun v H2 Hs2 m2 M2 g2 st2 r2 s2 => ?_⟩⟩
  have z := ZA (m1 := fun _ => 0) g (g1.re fun b => by simp) (st1.drop (fun b => by simp) g1.le) g2 st2
  exact q v H2 Hs2 m2 M2 g2 (z.2.1.drop (fun b => by simp) z.1.le) r2 s2
theorem ZfK {ca : M Bool} (ha : PT X a (tT X.K ca)) : PW X (.BoolOp .And [a] pos) (tT X.K ca) := ZoP ha
theorem Zhi {ca : M Bool} (ha : PT X a (tT X.K ca)) : PW X (.BoolOp .Or [a] pos) (tT X.K ca) := Zqt ha
theorem ZfL {ca cb : M Bool} (ha : PT X a (tT X.K ca)) (hb : PW X (.BoolOp .And (b :: rest) pos) (tT X.K cb)) : PW X (.BoolOp .And (a :: b :: rest) pos) (tT X.K (ca.bnd fun t => if t then cb else M.ret false)) :=
  PW.imp (Zqu ha hb) fun σ H Q h => by
    obtain ⟨δ, Hs, M, t, δ', g, s, e, q⟩ := Zku h
    refine ⟨δ, Hs, M, t, δ', g, s, e, fun H' Hs' M' g' st s' => ?_⟩
    have z := q H' Hs' M' g' st s'
    cases t with
    | true => exact z
    | false => exact Zi4 z
theorem Zes {ca cb : M Bool} (ha : PT X a (tT X.K ca)) (hb : PW X (.BoolOp .Or (b :: rest) pos) (tT X.K cb)) : PW X (.BoolOp .Or (a :: b :: rest) pos) (tT X.K (ca.bnd fun t => if t then M.ret true else cb)) :=
  PW.imp (Zst ha hb) fun σ H Q h => by
    obtain ⟨δ, Hs, M, t, δ', g, s, e, q⟩ := Zku h
    refine ⟨δ, Hs, M, t, δ', g, s, e, fun H' Hs' M' g' st s' => ?_⟩
    have z := q H' Hs' M' g' st s'
    cases t with
    | false => exact z
    | true => exact Zi4 z
theorem ZhA {ca : M Bool} (ha : PT X a (tT X.K ca)) : PT X (.UnaryOp .Not a pos) (tT X.K (ca.bnd fun t => M.ret (!t))) :=
  PT.imp (Zqv ha) fun σ H Q h => by
    obtain ⟨δ, Hs, M, t, δ', g, s, e, q⟩ := Zku h
    exact ⟨δ, Hs, M, t, δ', g, s, e, fun H' Hs' M' g' st s' => Zi4 (q H' Hs' M' g' st s')⟩
theorem ZmT {ct : M Bool} {ca cb : M D} (hc : PT X c (tT X.K ct)) (ha : PE X a (tM X.K ca)) (hb : PE X b (tM X.K cb)) : PE X (.IfExp c a b pos) (tM X.K (ct.bnd fun t => if t then ca else cb)) :=
  PE.imp (Znw hc ha hb) fun σ H Q h => by
    obtain ⟨δ, Hs, M, t, δ', g, s, e, q⟩ := Zrc h
    refine ⟨δ, Hs, M, t, δ', g, s, e, fun H' Hs' M' g' st s' => ?_⟩
    have z := q H' Hs' M' g' st s'
    cases t with
    | true => exact z
    | false => exact z
theorem Zkv {K : Fg} {ca : M Op} {f : W -> M D} {σ : St} {H : Hp} {Q : VK} (h : tM K ((ca.bnd view).bnd f) σ H Q) : tP K ca σ H fun x H1 => ∃ (Hs : Hp) (w : W) (m : Bud), View K H1 Hs x w m /\ tM K (f w) σ H1 Q := by
  obtain ⟨δ, Hs, M, d, δ', g, s, e, q⟩ := h
  obtain ⟨w, δ2, e, e5⟩ := Ze e
  obtain ⟨p, δ1, e1, e3⟩ := Ze e
  refine ⟨δ, Hs, M, p, δ1, g, s, e1, fun x H2 Hs2 m1 M2 g2 st2 r1 s2 => ?_⟩
  obtain ⟨Hs3, M3, g3, st3, v1, s3⟩ := Zcy (B := m1) g2 s2 r1 e3
  refine ⟨Hs3, w, m1, v1, δ2, Hs3, M3, d, δ', g3.re, s3, e5, fun v H4 Hs4 m4 M4 g4 st4 r4 s4 => ?_⟩
  have z := ZA (m1 := fun _ => 0) g (g2.re fun b => by simp) (st2.drop (fun b => by simp) g2.le) g3 st3
  have st : Stp H Hs M H2 Hs3 (fun b => m1 b + M3 b) := z.2.1.drop (fun b => by simp) z.1.le
  have z := ZA (m1 := m1) (M1 := M3) g g3 st g4 st4
  exact q v H4 Hs4 m4 M4 g4 (z.2.1.drop (fun b => by omega) z.1.le) r4 s4
theorem Zkw {K : Fg} {v : V} {σ : St} {H : Hp} {Q : VK} (h : tM K (M.ret (.sc v)) σ H Q) : Q v H := by
  obtain ⟨δ, Hs, M, b, δ', g, s, e, q⟩ := h
  have := Zl e
  cases this
  exact q v H Hs (fun _ => 0) M (ZdK g) (stp0 _ _ _) (.sc v _) s
theorem Zg6 {K : Fg} {σ : St} {H : Hp} {Q : VK} (h : tM K stk σ H Q) : False := by
  obtain ⟨δ, Hs, M, b, δ', g, s, e, q⟩ := h
  cases e
theorem Zhj {op} {ca : M D} (ha : PE X a (tM X.K ca)) : PE X (.BoolOp op [a] pos) (tM X.K ca) := Zqw ha
theorem Zg7 {ca : M Op} {cb : M D} (ha : PE X a (tP X.K ca)) (hb : PE X (.BoolOp .And (b :: rest) pos) (tM X.K cb)) : PE X (.BoolOp .And (a :: b :: rest) pos) (tM X.K ((ca.bnd view).bnd (andM cb))) :=
  PE.imp (Zqx ha hb) fun σ H Q h => by
    obtain ⟨δ, Hs, M, t, δ', g, s, e, q⟩ := Zkv h
    refine ⟨δ, Hs, M, t, δ', g, s, e, fun v H' Hs' m M' g' st r s' => ?_⟩
    obtain ⟨Hs2, w, m2, v2, z⟩ := q v H' Hs' m M' g' st r s'
    cases v2 with
    | sc u _ => cases v with
      | bl t => cases t with
        | true => exact ⟨true, rfl, z⟩
        | false => exact ⟨false, rfl, Zkw z⟩
      | _ => exact (Zg6 z).elim
    | nd n r => exact (Zg6 z).elim
theorem ZmU {ca : M Op} {cb : M D} (ha : PE X a (tP X.K ca)) (hb : PE X (.BoolOp .Or (b :: rest) pos) (tM X.K cb)) : PE X (.BoolOp .Or (a :: b :: rest) pos) (tM X.K ((ca.bnd view).bnd (orM cb))) :=
  PE.imp (Zsw ha hb) fun σ H Q h => by
    obtain ⟨δ, Hs, M, t, δ', g, s, e, q⟩ := Zkv h
    refine ⟨δ, Hs, M, t, δ', g, s, e, fun v H' Hs' m M' g' st r s' => ?_⟩
    obtain ⟨Hs2, w, m2, v2, z⟩ := q v H' Hs' m M' g' st r s'
    cases v2 with
    | sc u _ => cases v with
      | bl t => cases t with
        | false => exact ⟨false, rfl, z⟩
        | true => exact ⟨true, rfl, Zkw z⟩
      | _ => exact (Zg6 z).elim
    | nd n r => exact (Zg6 z).elim
theorem Zje {ca : M Op} (ha : PE X a (tP X.K ca)) : PE X (.UnaryOp .Not a pos) (tM X.K ((ca.bnd view).bnd fun w => lift (notW w))) :=
  PE.imp (Zqy ha) fun σ H Q h => by
    obtain ⟨δ, Hs, M, t, δ', g, s, e, q⟩ := Zkv h
    refine ⟨δ, Hs, M, t, δ', g, s, e, fun v H' Hs' m M' g' st r s' => ?_⟩
    obtain ⟨Hs2, w, m2, v2, z⟩ := q v H' Hs' m M' g' st r s'
    cases v2 with
    | sc u _ => cases v with
      | bl t => exact ⟨t, rfl, Zkw z⟩
      | _ => exact (Zg6 z).elim
    | nd n r => exact (Zg6 z).elim
theorem RepL.at {K : Fg} {H Hs : Hp} {vs : List V} {ds : List D} {m : Bud} {j : Nat} {d : D} (r : RepL K H Hs vs ds m) (e : ds[j]? = some d) : ∃ (v : V) (m1 : Bud), vs[j]? = some v /\ Rep K H Hs v d m1 /\ ∀ b, m1 b <= m b := r.sep.get e
theorem Outs.part {K : Fg} {H Hs : Hp} {m m1 : Bud} {v : V} {d : D} {Q : VK} (h : Outs K H Hs m d Q) (hm : ∀ b, m b <= 1) (hh : ∀ b, m b = 1 -> H b ≠ none) (l : ∀ b, m1 b <= m b) (r : Rep K H Hs v d m1) : Q v H :=
  h v H m1 (Same.refl _) (fun b => Nat.le_trans (l b) (hm b)) (fun b e => hh b (by have := l b; have := hm b; omega)) (fun b _ => l b) r
theorem Zrd (n : Nat) (i : Int) : ixN' n i = ixN n i := rfl
theorem ZsL : IxR X (r2W X.K ixW) := by
  intro value slice pins s σ H x y v u Q I rx ry h hsl
  obtain ⟨Hs, w1, w2, m1, m2, d, hs, h1, h2, v1, v2, e, o⟩ := h
  have fin : ∀ {ds : List D} {vs : List V} {i : Int}, RepL X.K H Hs vs ds m1 -> ((ixN' ds.length i).bind fun j => ds[j]?) = some d -> ∃ z, atI vs i = some z /\ Q z H := fun {ds vs i} r e => by
    simp only [Option.bind_eq_some_iff] at e
    obtain ⟨j, e1, e2⟩ := e
    obtain ⟨z, m3, e3, rz, l⟩ := r.at e2
    refine ⟨z, ?_, o.part h1 h2 (fun b => by have := l b; omega) rz⟩
    unfold atI
    rw [r.len, <- Zrd, e1]
    exact e3
  unfold ixW at e
  split at e
  . cases v1 with
    | nd n r => cases v2; obtain ⟨z, e1, q⟩ := fin r e; exact Zl1 value slice pins s σ H _ _ v u Q I rx ry ⟨_, _, _, z, rfl, rfl, .inl (.inl n), e1, q⟩ hsl
  . cases v1 with
    | nd n r => cases v2; obtain ⟨z, e1, q⟩ := fin r e; exact Zl1 value slice pins s σ H _ _ v u Q I rx ry ⟨_, _, _, z, rfl, rfl, n, e1, q⟩ hsl
  . cases v1 with
    | nd n r => cases v2; obtain ⟨z, e1, q⟩ := fin r e; exact Zm9 value slice pins s σ H _ _ v u Q I rx ry ⟨_, _, _, z, rfl, rfl, .inl (.inl n), e1, q⟩ hsl
  . cases v1 with
    | nd n r => cases v2; obtain ⟨z, e1, q⟩ := fin r e; exact Zm9 value slice pins s σ H _ _ v u Q I rx ry ⟨_, _, _, z, rfl, rfl, n, e1, q⟩ hsl
  . split at e
    . rename_i z i hz
      cases v1; cases v2
      simp only [Option.map_eq_some_iff] at e
      obtain ⟨c, e, rfl⟩ := e
      exact ZqF value slice pins s σ H _ _ v u Q I rx ry ⟨_, _, c, rfl, rfl, hz, e, o.sc⟩ hsl
    . cases e
  . cases e
theorem ZsM {ca cb : M Op} (ha : PE X a (tP X.K ca)) (hb : PE X b (tP X.K cb)) (hs : Zja b := by intro _ _; rfl) :
    PE X (.Subscript a b pos) (tM X.K (ca.bnd fun p => cb.bnd fun q => (view p).bnd fun x => (view q).bnd fun y => lift (ixW x y))) := PE.imp (Zs7 ZsL ha hb hs) fun σ H Q h => op2 h
end
end T
namespace T
open PySem PySem.Spec L2
section
variable {X : Cx} {e a b c : Expr} {es rest : List Expr} {pos : Pos}
theorem RepL.take {K : Fg} {H Hs : Hp} {vs : List V} {ds : List D} {m : Bud} (r : RepL K H Hs vs ds m) (n : Nat) : RepL K H Hs (vs.take n) (ds.take n) m := (r.sep.take n).repL
theorem RepL.drop {K : Fg} {H Hs : Hp} {vs : List V} {ds : List D} {m : Bud} (r : RepL K H Hs vs ds m) (n : Nat) : RepL K H Hs (vs.drop n) (ds.drop n) m := (r.sep.drop n).repL
def rSlW (K : Fg) : V -> Option Int -> Option Int -> Hp -> VK -> Prop := fun x lo hi H Q => ∃ (Hs : Hp) (w : W) (m : Bud) (d : D), Same Hs H /\ (∀ b, m b <= 1) /\ (∀ b, m b = 1 -> H b ≠ none) /\ View K H Hs x w m /\ slD w lo hi = some d /\ Outs K H Hs m d Q
theorem ZsN : SlR X (rSlW X.K) := by
  intro pins s σ H x v vl vu lo hi sl Q I rx hsl pl pu h
  obtain ⟨Hs, w, m, d, hs, h1, h2, v1, e, o⟩ := h
  have go : ∀ {a : Addr} {vs : List V} {ds : List D}, RepL X.K H Hs vs ds m -> d = .node .lst true (cutD ds lo hi) -> ∀ p, H p = none -> Q (.ref p) (upd H p (.lst (cutV vs lo hi))) := fun {a vs ds} r e p hp => by
    subst e
    refine o.new h1 h2 hp (vs := cutV vs lo hi) ZB ?_
    unfold cutV cutD
    rw [r.len]
    exact (r.drop _).take _
  unfold slD at e
  split at e
  . cases v1 with
    | nd n r => exact Zl2 pins s σ H _ v vl vu lo hi sl Q I rx hsl pl pu ⟨_, _, rfl, .inl (.inl n), go (a := 0) r (Option.some.inj e).symm⟩
  . cases v1 with
    | nd n r => exact Zl2 pins s σ H _ v vl vu lo hi sl Q I rx hsl pl pu ⟨_, _, rfl, n, go (a := 0) r (Option.some.inj e).symm⟩
  . split at e
    . rename_i hz
      cases e
      cases v1
      exact ZqS pins s σ H _ v vl vu lo hi sl Q I rx hsl pl pu ⟨_, rfl, hz, o.sc⟩
    . cases e
  . cases e
noncomputable def tW (K : Fg) (c : M (Option Int)) : TO := fun σ H Q => ∃ (δ : List D) (Hs : Hp) (M : Bud) (l : Option Int) (δ' : List D), Good H Hs M /\ RepS K H Hs σ δ M /\ c δ = .ok (l, δ') /\
  ∀ (H' Hs' : Hp) (M' : Bud), Good H' Hs' M' -> Stp H Hs M H' Hs' M' -> RepS K H' Hs' σ δ' M' -> Q l H'
theorem PO.imp {o : Option Expr} {t t' : TO} (h : PO X o t) (w : ∀ σ H Q, t' σ H Q -> t σ H Q) : PO X o t' := fun pins s σ H Q I q => h pins s σ H Q I (w σ H Q q)
theorem Zkf : PO X none (tW X.K (M.ret none)) := PO.imp Zpa fun σ H Q h => by
  obtain ⟨δ, Hs, M, b, δ', g, s, e, q⟩ := h
  have := Zl e
  cases this
  exact q H Hs M g (Stp.refl _ _ _) s
theorem Zeb {ca : M Op} (ha : PE X a (tP X.K ca)) : PO X (some a) (tW X.K ((ca.bnd view).bnd fun w => lift (intP w))) := PO.imp (Zpb ha) fun σ H Q h => by
  obtain ⟨δ, Hs, M, l, δ', g, s, e, q⟩ := h
  obtain ⟨w, δ2, e, e5⟩ := Ze e
  obtain ⟨p, δ1, e1, e3⟩ := Ze e
  obtain ⟨e6, rfl⟩ := ZaH e5
  refine ⟨δ, Hs, M, p, δ1, g, s, e1, fun x H2 Hs2 m1 M2 g2 st2 r1 s2 => ?_⟩
  obtain ⟨Hs3, M3, g3, st3, v1, s3⟩ := Zcy (B := m1) g2 s2 r1 e3
  have z := ZA (m1 := fun _ => 0) g (g2.re fun b => by simp) (st2.drop (fun b => by simp) g2.le) g3 st3
  have fin := q H2 Hs3 M3 g3.re (z.2.1.drop (fun b => by simp) z.1.le) s3
  cases v1 with
  | sc u _ => cases x with
    | int i => cases e6; exact ⟨i, rfl, fin⟩
    | _ => cases e6
  | nd n r => cases e6
variable {lo hi : Option Expr} {ca : M Op} {cl ch : M (Option Int)} {p2 : Pos}
theorem ZhB (ha : PE X a (tP X.K ca)) (hl : PO X lo (tW X.K cl)) (hh : PO X hi (tW X.K ch)) :
    PE X (.Subscript a (.Slice lo hi none p2) pos) (tM X.K (ca.bnd fun p => cl.bnd fun l => ch.bnd fun h => (view p).bnd fun x => lift (slD x l h))) :=
  PE.imp (Zn3 ZsN ha hl hh) fun σ H Q h => by
    obtain ⟨δ, Hs, M, d, δ', g, s, e, q⟩ := h
    obtain ⟨p, δ1, e1, e⟩ := Ze e
    obtain ⟨l, δ2, e2, e⟩ := Ze e
    obtain ⟨u, δ3, e3, e⟩ := Ze e
    obtain ⟨w, δ4, e4, e⟩ := Ze e
    obtain ⟨e7, rfl⟩ := ZaH e
    refine ⟨δ, Hs, M, p, δ1, g, s, e1, fun x H1 Hs1 m1 M1 g1 st1 r1 s1 => ⟨δ1, Hs1, M1, l, δ2, g1.re, s1, e2, fun H2 Hs2 M2 g2 st2 s2 => ⟨δ2, Hs2, M2, u, δ3, g2, s2, e3, fun H3 Hs3 M3 g3 st3 s3 => ?_⟩⟩⟩
    obtain ⟨G2, S2, k2⟩ := ZA g g1 st1 g2 st2
    obtain ⟨G3, S3, k3⟩ := ZA g G2 S2 g3 st3
    have r2 := RepP.frame st2.grow k2 r1
    have r3 := RepP.frame st3.grow (fun b hb hn => k3 b hb hn) r2
    obtain ⟨Hs4, M4, g4, st4, v4, s4⟩ := Zcy (B := m1) G3 s3 r3 e4
    have z := ZA (m1 := fun _ => 0) g (G3.re fun b => by simp) (S3.drop (fun b => by simp) G3.le) g4 st4
    have S4 : Stp H Hs M H3 Hs4 (fun b => m1 b + M4 b) := z.2.1.drop (fun b => by simp) z.1.le
    have le : ∀ b, m1 b + M4 b <= 1 := g4.le
    exact ⟨Hs4, w, m1, d, g4.sub, fun b => by have := le b; omega, fun b hb => g4.has b (by have := le b; show m1 b + M4 b = 1; omega), v4, e7, ZfJ S4 g4 s4 q⟩
theorem Zn : PA X [] (tPs X.K (M.ret [])) := PA.imp ZcL fun σ H Q h => by
  obtain ⟨δ, Hs, M, b, δ', g, s, e, q⟩ := h
  have := Zl e
  cases this
  exact q [] H Hs (fun _ => 0) M (ZdK g) (stp0 _ _ _) trivial s
theorem Zh {cs : M (List Op)} (ha : PE X e (tP X.K ca)) (hr : PA X es (tPs X.K cs)) (hs : starEach (e :: es) X.env = (false, eval e X.env) :: starEach es X.env := by rfl) :
    PA X (e :: es) (tPs X.K (ca.bnd fun p => cs.bnd fun ps => M.ret (p :: ps))) := PA.imp (ZaG ha hr hs) fun σ H Q h => by
  obtain ⟨δ, Hs, M, b, δ', g, s, e, q⟩ := h
  obtain ⟨p, δ1, e1, e⟩ := Ze e
  obtain ⟨ps, δ2, e2, e⟩ := Ze e
  have := Zl e
  cases this
  refine ⟨δ, Hs, M, p, δ1, g, s, e1, fun x H1 Hs1 m1 M1 g1 st1 r1 s1 => ⟨δ1, Hs1, M1, ps, _, g1.re, s1, e2, fun xs H2 Hs2 m2 M2 g2 st2 r2 s2 => ?_⟩⟩
  obtain ⟨G2, S2, k2⟩ := ZA g g1 st1 g2 st2
  exact q (x :: xs) H2 Hs2 (fun b => m1 b + m2 b) M2 (G2.re fun b => by omega) (S2.drop (fun b => by omega) G2.le) ⟨m1, m2, r1.frame st2.grow k2, r2, fun b => Nat.le_refl _⟩ s2
theorem Zag : PA X [] (tDs X.K (M.ret [])) := PA.imp ZcL fun σ H Q h => by
  obtain ⟨δ, Hs, M, b, δ', g, s, e, q⟩ := h
  have := Zl e
  cases this
  exact q [] H Hs (fun _ => 0) M (ZdK g) (stp0 _ _ _) (.nil _) s
theorem ZW {c : M D} {cs : M (List D)} (ha : PE X e (tM X.K c)) (hr : PA X es (tDs X.K cs)) (hs : starEach (e :: es) X.env = (false, eval e X.env) :: starEach es X.env := by rfl) :
    PA X (e :: es) (tDs X.K (c.bnd fun p => cs.bnd fun ps => M.ret (p :: ps))) := PA.imp (ZaG ha hr hs) fun σ H Q h => by
  obtain ⟨δ, Hs, M, b, δ', g, s, e, q⟩ := h
  obtain ⟨p, δ1, e1, e⟩ := Ze e
  obtain ⟨ps, δ2, e2, e⟩ := Ze e
  have := Zl e
  cases this
  refine ⟨δ, Hs, M, p, δ1, g, s, e1, fun x H1 Hs1 m1 M1 g1 st1 r1 s1 => ⟨δ1, Hs1, M1, ps, _, g1.re, s1, e2, fun xs H2 Hs2 m2 M2 g2 st2 r2 s2 => ?_⟩⟩
  obtain ⟨G2, S2, k2⟩ := ZA g g1 st1 g2 st2
  exact q (x :: xs) H2 Hs2 (fun b => m1 b + m2 b) M2 (G2.re fun b => by omega) (S2.drop (fun b => by omega) G2.le) (.cons (r1.frame st2.grow k2) r2 fun b => Nat.le_refl _) s2
theorem Zl5 {K : Fg} {cs : M (List D)} {f : List D -> Option D} {σ : St} {H : Hp} {Q : VK} (h : tM K (cs.bnd fun ds => lift (f ds)) σ H Q) : tDs K cs σ H fun vs H1 => ∃ (Hs : Hp) (m : Bud) (ds : List D) (d : D), (∀ b, m b <= 1) /\ (∀ b, m b = 1 -> H1 b ≠ none) /\ RepL K H1 Hs vs ds m /\ f ds = some d /\ Outs K H1 Hs m d Q := by
  obtain ⟨δ, Hs, M, b, δ', g, s, e, q⟩ := h
  obtain ⟨ds, δ1, e1, e⟩ := Ze e
  obtain ⟨e2, rfl⟩ := ZaH e
  refine ⟨δ, Hs, M, ds, _, g, s, e1, fun vs H1 Hs1 m1 M1 g1 st1 r1 s1 => ⟨Hs1, m1, ds, b, fun b => by have : m1 b + M1 b <= 1 := g1.le b; omega, fun b hb => g1.has b (by have : m1 b + M1 b <= 1 := g1.le b; show m1 b + M1 b = 1; omega), r1, e2, ZfJ st1 g1 s1 q⟩⟩
theorem Za6 {cs : M (List D)} (h : PA X es (tDs X.K cs)) : PE X (.List es pos) (tM X.K (cs.bnd fun ds => lift (newL ds))) := PE.imp (Zm7 h) fun σ H Q hq => by
  obtain ⟨δ, Hs, M, ds, δ', g, s, e, q⟩ := Zl5 hq
  refine ⟨δ, Hs, M, ds, δ', g, s, e, fun vs H1 Hs1 m1 M1 g1 st1 r1 s1 => ?_⟩
  obtain ⟨Hs2, m, ds, d, h1, h2, r, e, o⟩ := q vs H1 Hs1 m1 M1 g1 st1 r1 s1
  unfold newL at e
  split at e
  . rename_i hl
    cases e
    exact ⟨by rw [r.len]; exact hl, fun p hp => o.new h1 h2 hp (vs := vs) ZB r⟩
  . cases e
theorem Zi5 {cs : M (List D)} {k : Nat} (h : PA X es (tDs X.K cs)) : PE X (.Tuple es k pos) (tM X.K (cs.bnd fun ds => lift (newT ds))) := PE.imp (ZqC h) fun σ H Q hq => by
  obtain ⟨δ, Hs, M, ds, δ', g, s, e, q⟩ := Zl5 hq
  refine ⟨δ, Hs, M, ds, δ', g, s, e, fun vs H1 Hs1 m1 M1 g1 st1 r1 s1 => ?_⟩
  obtain ⟨Hs2, m, ds, d, h1, h2, r, e, o⟩ := q vs H1 Hs1 m1 M1 g1 st1 r1 s1
  unfold newT at e
  split at e
  . rename_i hl
    cases e
    exact ⟨by rw [r.len]; exact hl, fun p hp => o.new h1 h2 hp (vs := vs) ZB r⟩
  . cases e
end
end T
namespace T
open PySem PySem.Spec L2
def Views (K : Fg) (H Hs : Hp) : List V -> List W -> Bud -> Prop
  | [], [], _ => True
  | v :: vs, w :: ws, m => ∃ m1 m2 : Bud, View K H Hs v w m1 /\ Views K H Hs vs ws m2 /\ ∀ b, m1 b + m2 b <= m b
  | _, _, _ => False
theorem Zkx {K : Fg} {H : Hp} {σ : St} {B : Bud} : ∀ {ps : List Op} {vs : List V} {Hs : Hp} {δ δ' : List D} {M m : Bud} {ws : List W}, Good H Hs (fun b => B b + M b) -> RepS K H Hs σ δ M -> Zfk K H Hs σ vs ps m -> views ps δ = .ok (ws, δ') ->
    ∃ Hs' M', Good H Hs' (fun b => B b + M' b) /\ Stp H Hs (fun b => B b + M b) H Hs' (fun b => B b + M' b) /\ Views K H Hs' vs ws m /\ RepS K H Hs' σ δ' M'
  | [], [], Hs, δ, δ', M, m, ws, g, s, r, e => by
    have := Zl e
    cases this
    exact ⟨Hs, M, g, Stp.refl _ _ _, trivial, s⟩
  | [], _ :: _, _, _, _, _, _, _, _, _, r, _ => r.elim
  | _ :: _, [], _, _, _, _, _, _, _, _, r, _ => r.elim
  | p :: ps, v :: vs, Hs, δ, δ', M, m, ws, g, s, ⟨m1, m2, r1, r2, l⟩, e => by
    obtain ⟨w, δ1, e1, e⟩ := Ze e
    obtain ⟨ws', δ2, e2, e⟩ := Ze e
    have := Zl e
    cases this
    obtain ⟨Hs1, M1, g1, st1, v1, s1⟩ := Zcy g s r1 e1
    obtain ⟨Hs2, M2, g2, st2, v2, s2⟩ := Zkx g1 s1 (r2.frame st1.grow fun _ _ _ => rfl) e2
    have z := ZA (m1 := fun _ => 0) g (g1.re fun b => by simp) (st1.drop (fun b => by simp) g1.le) g2 st2
    exact ⟨Hs2, M2, g2, z.2.1.drop (fun b => by simp) z.1.le, ⟨m1, m2, v1.frame st2.grow, v2, l⟩, s2⟩
def rNW (K : Fg) (f : List W -> Option D) : List V -> Hp -> VK -> Prop := fun vs H Q => ∃ (Hs : Hp) (ws : List W) (m : Bud) (d : D), Same Hs H /\ (∀ b, m b <= 1) /\ (∀ b, m b = 1 -> H b ≠ none) /\ Views K H Hs vs ws m /\ f ws = some d /\ Outs K H Hs m d Q
theorem opN {K : Fg} {cs : M (List Op)} {f : List W -> Option D} {σ : St} {H : Hp} {Q : VK} (h : tM K (cs.bnd fun ps => (views ps).bnd fun ws => lift (f ws)) σ H Q) : tPs K cs σ H fun vs H1 => rNW K f vs H1 Q := by
  obtain ⟨δ, Hs, M, d, δ', g, s, e, q⟩ := h
  obtain ⟨ps, δ1, e1, e⟩ := Ze e
  obtain ⟨ws, δ2, e2, e⟩ := Ze e
  obtain ⟨e3, rfl⟩ := ZaH e
  refine ⟨δ, Hs, M, ps, δ1, g, s, e1, fun vs H1 Hs1 m1 M1 g1 st1 r1 s1 => ?_⟩
  obtain ⟨Hs2, M2, g2, st2, v2, s2⟩ := Zkx (B := m1) g1 s1 r1 e2
  have z := ZA (m1 := fun _ => 0) g (g1.re fun b => by simp) (st1.drop (fun b => by simp) g1.le) g2 st2
  have S : Stp H Hs M H1 Hs2 (fun b => m1 b + M2 b) := z.2.1.drop (fun b => by simp) z.1.le
  have le : ∀ b, m1 b + M2 b <= 1 := g2.le
  exact ⟨Hs2, ws, m1, d, g2.sub, fun b => by have := le b; omega, fun b hb => g2.has b (by have := le b; show m1 b + M2 b = 1; omega), v2, e3, ZfJ S g2 s2 q⟩
theorem Views.one {K : Fg} {H Hs : Hp} {vs : List V} {w : W} {m : Bud} (h : Views K H Hs vs [w] m) : ∃ (v : V) (m1 : Bud), vs = [v] /\ View K H Hs v w m1 /\ ∀ b, m1 b <= m b := by
  cases vs with
  | nil => exact h.elim
  | cons v vs =>
    obtain ⟨m1, m2, h1, h2, l⟩ := h
    cases vs with
    | nil => exact ⟨v, m1, rfl, h1, fun b => by have := l b; omega⟩
    | cons _ _ => exact h2.elim
section
variable {X : Cx} {e : Expr} {es : List Expr} {pos p : Pos} {x : Str} {id ty : String} {f : BF} {cs : M (List Op)}
theorem ZaB (hc : Zbz X (.builtin id) (rNW X.K (bfW f))) (hg : Gl X x) (hm : X.mg x = none) (hv : bootBuiltins x = some (.builtin id)) (ha : PA X (e :: es) (tPs X.K cs)) (hn : x ≠ "__name__" := by decide) (hdb : (x == ("__debug__" : Str)) = false := by decide)
    (he : starEach (e :: es) X.env = (false, eval e X.env) :: starEach es X.env := by rfl) (hpl : (backTo pos (starEach es X.env)).any (·.1) = false := by rfl) :
    PE X (.Call (.Name x p) (e :: es) [] pos) (tM X.K (cs.bnd fun ps => (views ps).bnd fun ws => lift (bfW f ws))) := PE.imp (ZgM hc hg hm hv ha hn hdb he hpl) fun σ H Q h => opN h
theorem Zg8 (hc : Zbz X (.type ty) (rNW X.K (bfW f))) (hg : Gl X x) (hm : X.mg x = none) (hv : bootBuiltins x = some (.type ty)) (ha : PA X (e :: es) (tPs X.K cs)) (hn : x ≠ "__name__" := by decide) (hdb : (x == ("__debug__" : Str)) = false := by decide)
    (he : starEach (e :: es) X.env = (false, eval e X.env) :: starEach es X.env := by rfl) (hpl : (backTo pos (starEach es X.env)).any (·.1) = false := by rfl) :
    PE X (.Call (.Name x p) (e :: es) [] pos) (tM X.K (cs.bnd fun ps => (views ps).bnd fun ws => lift (bfW f ws))) := PE.imp (Zm8 hc hg hm hv ha hn hdb he hpl) fun σ H Q h => opN h
theorem Zb7 : Zbz X (.builtin "len") (rNW X.K (bfW .len)) := by
  intro pins s σ H xs us Q I r h
  obtain ⟨Hs, ws, m, d, hs, h1, h2, v, e, o⟩ := h
  replace e : lenB _ = _ := e
  unfold lenB at e
  split at e <;> first | (rename_i z; cases z; done) | skip
  all_goals first
    | (obtain ⟨y, m1, rfl, v, l⟩ := v.one
       cases v with
       | nd n r' =>
         have hl := r'.len
         cases e
         first
         | exact Zeo pins s σ H _ us Q I r ⟨_, _, rfl, .inl (.inl (.inl n)), by rw [hl]; exact o.sc⟩
         | exact Zeo pins s σ H _ us Q I r ⟨_, _, rfl, .inl n, by rw [hl]; exact o.sc⟩
         | exact Zeo pins s σ H _ us Q I r ⟨_, _, rfl, .inr n, by rw [hl]; exact o.sc⟩
         | exact Zeo pins s σ H _ us Q I r ⟨_, _, rfl, .inr (.inl (.inl n)), by rw [hl]; exact o.sc⟩
         | (obtain ⟨n1, n2⟩ := n
            exact ZmD pins s σ H _ us Q I r ⟨_, _, rfl, n2, by rw [List.length_zip, n1, Nat.min_self, hl]; exact o.sc⟩))
    | (obtain ⟨y, m1, rfl, v, l⟩ := v.one
       split at e
       . rename_i hz
         cases e
         cases v
         exact Zko pins s σ H _ us Q I r ⟨_, rfl, hz, o.sc⟩
       . cases e)
    | cases e
theorem Zre : Zbz X (.builtin "abs") (rNW X.K (bfW .abs)) := by
  intro pins s σ H xs us Q I r h
  obtain ⟨Hs, ws, m, d, hs, h1, h2, v, e, o⟩ := h
  replace e : absB _ = _ := e
  unfold absB at e
  split at e <;> first | (rename_i z; cases z; done) | skip
  all_goals first
    | (obtain ⟨y, m1, rfl, v, l⟩ := v.one
       cases v
       cases e
       exact Zn2 pins s σ H _ us Q I r ⟨_, rfl, o.sc⟩)
    | cases e
theorem ZfM : Zbz X (.type "list") (rNW X.K (bfW .list)) := by
  intro pins s σ H xs us Q I r h
  obtain ⟨Hs, ws, m, d, hs, h1, h2, v, e, o⟩ := h
  replace e : ZlZ _ = _ := e
  unfold ZlZ at e
  split at e <;> first | (rename_i z; cases z; done) | skip
  all_goals first
    | (obtain ⟨y, m1, rfl, v, l⟩ := v.one
       cases v with
       | nd n r' =>
         cases e
         have go : ∀ p, H p = none -> Q (.ref p) (upd H p (.lst _)) := fun p hp => o.new h1 h2 hp ZB (r'.mono l)
         first
         | exact Zep pins s σ H _ us Q I r ⟨_, _, rfl, .inl (.inl (.inl n)), go⟩
         | exact Zep pins s σ H _ us Q I r ⟨_, _, rfl, .inl n, go⟩
         | exact Zep pins s σ H _ us Q I r ⟨_, _, rfl, .inr n, go⟩
         | exact Zep pins s σ H _ us Q I r ⟨_, _, rfl, .inr (.inl (.inl n)), go⟩)
    | cases e
theorem Zky {K : Fg} {H Hs : Hp} : ∀ {ds : List D} {vs : List V} {m : Bud} {is : List Int}, RepL K H Hs vs ds m -> Zd2 ds = some is -> vs = is.map V.int
  | [], _, _, is, .nil _, h => by simp only [Zd2, Option.some.injEq] at h; subst h; rfl
  | d :: ds, _, _, is, .cons x y _, h => by
    unfold Zd2 at h
    split at h
    . rename_i hh; cases hh
    . rename_i i r hh
      injection hh with h1 h2
      subst h1 h2
      (simp only [Option.map_eq_some_iff] at h)
      obtain ⟨js, h, rfl⟩ := h
      cases x
      rw [Zky y h]
      rfl
    . cases h
theorem ZjB {K : Fg} {H Hs : Hp} : ∀ {ds : List D} {vs : List V} {m : Bud} {is : List Bool}, RepL K H Hs vs ds m -> ZdZ ds = some is -> vs = is.map V.bl
  | [], _, _, is, .nil _, h => by simp only [ZdZ, Option.some.injEq] at h; subst h; rfl
  | d :: ds, _, _, is, .cons x y _, h => by
    unfold ZdZ at h
    split at h
    . rename_i hh; cases hh
    . rename_i i r hh
      injection hh with h1 h2
      subst h1 h2
      (simp only [Option.map_eq_some_iff] at h)
      obtain ⟨js, h, rfl⟩ := h
      cases x
      rw [ZjB y h]
      rfl
    . cases h
theorem ZjC : ∀ (is : List Int) (us : List Value), Vals (is.map V.int) us -> ∀ (i : Nat) (v : Value), us[i]? = some v -> ∃ t, v = .int (is.getD i 0) t
  | [], us, r, i, v, h => by cases r; simp at h
  | n :: is, us, r, i, v, h => by
    cases r with
    | cons r rr =>
      cases i with
      | zero =>
        simp at h
        subst h
        obtain ⟨t, rfl⟩ := r
        exact ⟨t, rfl⟩
      | succ i => exact ZjC is _ rr i v (by simpa using h)
theorem Zlc : ∀ (is : List Int), preSum (fun i => is.getD i 0) is.length = is.sum := by
  intro is
  have h : ∀ n, n <= is.length -> preSum (fun i => is.getD i 0) n = (is.take n).sum := by
    intro n
    induction n with
    | zero => intro _; simp [preSum]
    | succ n ih =>
      intro hn
      have := ih (by omega)
      show preSum (fun i => is.getD i 0) n + is.getD n 0 = _
      rw [this, PyProof.Rows.take_sum_succ is n (by omega)]
  have := h is.length (Nat.le_refl _)
  rw [List.take_length] at this
  exact this
theorem ZjR (hc : X.calm = true) : Zbz X (.builtin "sum") (fun xs H Q => ∃ (l : Addr) (is : List Int), xs = [.ref l] /\ SqL X.K H l (is.map V.int) /\ Q (.int is.sum) H) := by
  intro pins s σ H xs us Q I r h
  obtain ⟨l, is, rfl, hl, q⟩ := h
  obtain ⟨u, rfl, ru⟩ := r.one
  cases (show u = Value.ref l from ru)
  obtain ⟨its, rv, p, hz⟩ := I.list hl
  have hlt : l < s.heap.objs.size := by obtain ⟨_, e, _⟩ := p.isList; exact Heap.lt_size e
  refine call_sum_walkG (wpAny_pyIter_list p.isList ?_)
  refine ⟨s.heap.objs.size, [s.heap.objs.size, l], [s.heap.objs.size], its.toArray.size, _, _, fun i => is.getD i 0, rfl, Walks.list (A := X.A.in1) (I.ok.hd hc) _ l (Nat.ne_of_lt hlt) its.toArray,
    ⟨⟨_, Heap.get?_push_size _ rfl, rfl, rfl⟩, p.isList.push _⟩, fun b hb => ?_, fun i v hP => ?_, fun h' tk t' hk => ?_⟩
  . have e : ∀ o, (s.heap.push o).objs.size = s.heap.objs.size + 1 := fun o => by simp [Heap.push]
    rw [e]
    rcases List.mem_cons.mp hb with q | q
    . rw [q]
      exact Nat.lt_succ_self _
    . rw [List.mem_singleton.mp q]
      exact Nat.lt_succ_of_lt hlt
  . exact ZjC is its rv i v (by simpa using hP)
  . have e : preSum (fun i => is.getD i 0) its.toArray.size = is.sum := by
      rw [List.size_toArray, <- rv.length, List.length_map]
      exact Zlc is
    rw [e]
    exact ⟨.int _, H, I.kept (t' := tk) (Zl4 hk), ⟨_, rfl⟩, q⟩
theorem Zkz (hc : X.calm = true) : Zbz X (.builtin "sum") (rNW X.K (bfW .sum)) := by
  intro pins s σ H xs us Q I r h
  obtain ⟨Hs, ws, m, d, hs, h1, h2, v, e, o⟩ := h
  replace e : sumB _ = _ := e
  unfold sumB at e
  split at e <;> first | (rename_i z; cases z; done) | skip
  all_goals first
    | (obtain ⟨y, m1, rfl, v, l⟩ := v.one
       cases v with
       | nd n r' =>
         simp only [Option.map_eq_some_iff] at e
         obtain ⟨is, e, rfl⟩ := e
         have ei := Zky r' e
         subst ei
         exact ZjR hc pins s σ H _ us Q I r ⟨_, _, rfl, .inl (.inl n), o.sc⟩)
    | cases e
theorem Zrf (hc : X.calm = true) : Zbz X (.builtin "all") (rNW X.K (bfW .all)) := by
  intro pins s σ H xs us Q I r h
  obtain ⟨Hs, ws, m, d, hs, h1, h2, v, e, o⟩ := h
  replace e : allB _ = _ := e
  unfold allB at e
  split at e <;> first | (rename_i z; cases z; done) | skip
  all_goals first
    | (obtain ⟨y, m1, rfl, v, l⟩ := v.one
       cases v with
       | nd n r' =>
         simp only [Option.map_eq_some_iff] at e
         obtain ⟨is, e, rfl⟩ := e
         have ei := ZjB r' e
         subst ei
         exact ZnG hc pins s σ H _ us Q I r ⟨_, _, rfl, .inl (.inl n), o.sc⟩)
    | cases e
end
end T
namespace T
open PySem PySem.Spec L2
noncomputable def kitB (a b : String) : Option Bool := if (Value.type a == Value.type b) = true then some true else if PySem.W.kitMeta b = true then (PySem.fastBuiltinMro a).map (·.contains (.type b)) else none
theorem ZfN (K : Fg) (a b : String) : PySem.W.kitOne K (.type a) (.type b) = kitB a b := rfl
noncomputable def tyS : Ty -> Option String
  | .int => some "int" | .bool => some "bool" | .str => some "str" | .list => some "list" | .tuple => some "tuple" | .dict => some "dict" | .own _ => none
theorem ZsO : kitB "int" "int" = some true := by decide +kernel
theorem ZsP : kitB "bool" "int" = some true := by decide +kernel
theorem ZsQ : kitB "str" "int" = some false := by decide +kernel
theorem ZsR : kitB "NoneType" "int" = some false := by decide +kernel
theorem ZsS : kitB "list" "int" = some false := by decide +kernel
theorem ZsT : kitB "tuple" "int" = some false := by decide +kernel
theorem ZsU : kitB "bool" "bool" = some true := by decide +kernel
theorem ZsV : kitB "int" "bool" = some false := by decide +kernel
theorem ZsW : kitB "str" "bool" = some false := by decide +kernel
theorem ZsX : kitB "NoneType" "bool" = some false := by decide +kernel
theorem ZsY : kitB "list" "bool" = some false := by decide +kernel
theorem ZsZ : kitB "tuple" "bool" = some false := by decide +kernel
theorem Zta : kitB "str" "str" = some true := by decide +kernel
theorem Ztb : kitB "int" "str" = some false := by decide +kernel
theorem Ztc : kitB "bool" "str" = some false := by decide +kernel
theorem Ztd : kitB "NoneType" "str" = some false := by decide +kernel
theorem Zte : kitB "list" "str" = some false := by decide +kernel
theorem Ztf : kitB "tuple" "str" = some false := by decide +kernel
theorem Ztg : kitB "list" "list" = some true := by decide +kernel
theorem Zth : kitB "tuple" "list" = some false := by decide +kernel
theorem Zti : kitB "int" "list" = some false := by decide +kernel
theorem Ztj : kitB "bool" "list" = some false := by decide +kernel
theorem Ztk : kitB "str" "list" = some false := by decide +kernel
theorem Ztl : kitB "NoneType" "list" = some false := by decide +kernel
theorem Ztm : kitB "tuple" "tuple" = some true := by decide +kernel
theorem Ztn : kitB "list" "tuple" = some false := by decide +kernel
theorem Zto : kitB "int" "tuple" = some false := by decide +kernel
theorem Ztp : kitB "bool" "tuple" = some false := by decide +kernel
theorem Ztq : kitB "str" "tuple" = some false := by decide +kernel
theorem Ztr : kitB "NoneType" "tuple" = some false := by decide +kernel
theorem Zts {K : Fg} {H Hs : Hp} {t : Ty} {n : String} {v : V} {w : W} {m : Bud} {b : Bool} (hn : tyS t = some n) (hv : View K H Hs v w m) (h : tyW t w = some b) : ∃ tv, TyOf K H v tv /\ PySem.W.kitOne K tv (.type n) = some b := by
  cases hv with
  | sc v _ =>
    cases t <;> cases hn <;> cases v <;> cases h <;> first
      | exact ⟨_, .int _, by rw [ZfN]; first | exact ZsO | exact ZsV | exact Ztb | exact Zti | exact Zto⟩
      | exact ⟨_, .bl _, by rw [ZfN]; first | exact ZsP | exact ZsU | exact Ztc | exact Ztj | exact Ztp⟩
      | exact ⟨_, .str _, by rw [ZfN]; first | exact ZsQ | exact ZsW | exact Zta | exact Ztk | exact Ztq⟩
      | exact ⟨_, .non, by rw [ZfN]; first | exact ZsR | exact ZsX | exact Ztd | exact Ztl | exact Ztr⟩
  | @nd a k vs ds m n r =>
    cases t <;> cases hn <;> cases k <;> cases h <;> first
      | exact ⟨_, .lst n, by rw [ZfN]; first | exact ZsS | exact ZsY | exact Zte | exact Ztg | exact Ztn⟩
      | exact ⟨_, .tup n, by rw [ZfN]; first | exact ZsT | exact ZsZ | exact Ztf | exact Zth | exact Ztm⟩
section
variable {X : Cx} {a e c : Expr} {es : List Expr} {pos p : Pos} {x : Str} {n : String} {ca : M Op}
theorem Zhk {t : Ty} (hn : tyS t = some n) (hg : Gl X "isinstance") (hm : X.mg "isinstance" = none) (ha : PE X a (tP X.K ca)) (hc : PE X c (tC (.ty n))) (hs : starEach [a, c] X.env = [(false, eval a X.env), (false, eval c X.env)] := by rfl)
    (hs1 : starEach [c] X.env = [(false, eval c X.env)] := by rfl) :
    PE X (.Call (.Name "isinstance" p) [a, c] [] pos) (tM X.K ((ca.bnd fun p => (M.ret ([] : List Op)).bnd fun ps => M.ret (p :: ps)).bnd fun ps => (views ps).bnd fun ws => lift (bfW (.isi t) ws))) :=
  PE.imp (ZgM (ZnF (.ty n) (.type n) rfl fun u h => h) hg hm ZfV (ZaG ha (ZaG hc ZcL (by rw [hs1]; rfl)) (by rw [hs, hs1])) (by decide) (by decide) (by rw [hs, hs1]) (by rw [hs1]; rfl)) fun σ H Q h => by
    have h2 : tM X.K ((ca.bnd view).bnd fun w => lift (bfW (.isi t) [w])) σ H Q := by
      obtain ⟨δ, Hs, M, d, δ', g, s, e, q⟩ := h
      refine ⟨δ, Hs, M, d, δ', g, s, ?_, q⟩
      obtain ⟨ps, δ1, e1, e⟩ := Ze e
      obtain ⟨pp, δ2, e2, e3⟩ := Ze e1
      obtain ⟨z, δ3, e4, e5⟩ := Ze e3
      have := Zl e4
      cases this
      have := Zl e5
      cases this
      obtain ⟨ws, δ4, e6, e⟩ := Ze e
      obtain ⟨w, δ5, e7, e8⟩ := Ze e6
      obtain ⟨z, δ6, e9, e10⟩ := Ze e8
      have := Zl e9
      cases this
      have := Zl e10
      cases this
      show T.M.bnd (ca.bnd view) _ δ = _
      unfold T.M.bnd
      rw [e2]
      dsimp only
      rw [e7]
      exact e
    refine op1 (r := fun x H1 Q => ∃ x' t' b, [x, V.ty n] = [x', V.ty n] /\ TyOf X.K H1 x' t' /\ PySem.W.kitOne X.K t' (.type n) = some b /\ Q (.bl b) H1) h2 fun x H Hs w m d g h1 h2 v e o => ?_
    simp only [bfW, isiB, Option.map_eq_some_iff] at e
    obtain ⟨b, e, rfl⟩ := e
    obtain ⟨tv, h3, h4⟩ := Zts hn v e
    exact ⟨x, tv, b, rfl, h3, h4, o.sc⟩
end
def spF (K : Fg) (F : List D -> Rs (D × List D)) : Sp := fun vs H Q _ => ∃ (ds : List D) (Hs : Hp) (m : Bud) (d : D) (ds' : List D), Good H Hs m /\ RepL K H Hs vs ds m /\ F ds = .ok (d, ds') /\
  ∀ (v : V) (H' Hs' : Hp) (m1 m' : Bud), Good H' Hs' (fun b => m1 b + m' b) -> Stp H Hs m H' Hs' (fun b => m1 b + m' b) -> Rep K H' Hs' v d m1 -> RepL K H' Hs' vs ds' m' -> Q v H'
theorem Zpu {K : Fg} {H Hs : Hp} {σ : St} {B m M : Bud} {δ δ' : List D} {lend : Bool} {p : Op} {v : V} {d : D} (g : Good H Hs (fun b => B b + (m b + M b))) (s : RepS K H Hs σ δ M) (r : RepP K H Hs σ v p m) (e : takeA lend p δ = .ok (d, δ')) :
    ∃ Hs' m' M', Good H Hs' (fun b => B b + (m' b + M' b)) /\ Stp H Hs (fun b => B b + (m b + M b)) H Hs' (fun b => B b + (m' b + M' b)) /\ Rep K H Hs' v d m' /\ RepS K H Hs' σ δ' M' /\ ∀ b, m' b + M' b <= m b + M b := by
  cases p with
  | tmp d' =>
    have := Zl e
    cases this
    exact ⟨Hs, m, M, g, Stp.refl _ _ _, r, s, fun b => Nat.le_refl _⟩
  | late i =>
    have r : σ[i]? = some (some v) := r
    have same : ∀ {d : D}, δ[i]? = some d -> d ≠ .hole -> (∀ m1, Rep K H Hs v d m1 -> Rep K H Hs v d (fun _ => 0)) -> ∃ Hs' m' M', Good H Hs' (fun b => B b + (m' b + M' b)) /\ Stp H Hs (fun b => B b + (m b + M b)) H Hs' (fun b => B b + (m' b + M' b)) /\ Rep K H Hs' v d m' /\ RepS K H Hs' σ δ M' /\ ∀ b, m' b + M' b <= m b + M b := fun {d} hi hn hz => by
      obtain ⟨v', m1, m2, e1, q, l, f⟩ := s.slot hi hn
      rw [r] at e1
      cases e1
      exact ⟨Hs, fun _ => 0, M, g.re fun b => by (try simp); (try omega), (Stp.refl H Hs _).drop (fun b => by (try simp); (try omega)) g.le, hz _ q, s, fun b => by (try simp); (try omega)⟩
    unfold takeA at e
    dsimp only at e
    split at e
    . rename_i u hi
      cases e
      exact same hi (by simp) fun m1 q => by cases q; exact .sc _ _
    . rename_i k ds hi
      cases e
      exact same hi (by simp) fun m1 q => by cases q with | shd n q => exact .shd n q
    . rename_i k ds hi
      obtain ⟨v', m1, m2, e1, q, l, f⟩ := s.slot hi (by simp)
      rw [r] at e1
      cases e1
      split at e
      . cases e
        refine ⟨Hs, m1, m2, g.re fun b => by have := l b; omega, (Stp.refl H Hs _).drop (fun b => by have := l b; omega) g.le, q, ?_, fun b => by have := l b; omega⟩
        have z := f H Hs (some v) .hole (fun _ => 0) (Same.refl _) (fun _ _ _ => rfl) (.inl rfl)
        rw [ZaY r] at z
        exact z.mono fun b => by simp
      . cases e
        have g2 : Good H Hs (fun b => m1 b + (B b + m2 b)) := g.re fun b => by have := l b; omega
        have hsame := ZeY g2 (m := m1) fun b => by omega
        have r2 := Rep.share hsame (Zhh (H := H) (Hs := Hs) (m := m1)) q
        have st := Stp.share g2
        refine ⟨shH H Hs m1, fun _ => 0, m2, g2.share.re fun b => by simp, ⟨fun b o h _ => h, fun b h => ?_, st.grow, fun b h h' => ?_, fun b h => h⟩, r2, ?_, fun b => by have := l b; simp; omega⟩
        . have h : B b + (0 + m2 b) = 1 := h
          have l0 : B b + (m b + M b) <= 1 := g.le b
          have := l b
          left
          show B b + (m b + M b) = 1
          omega
        . rcases st.shr b h h' with z | z
          . have z : m1 b + (B b + m2 b) = 1 := z
            have l0 : B b + (m b + M b) <= 1 := g.le b
            have := l b
            left
            show B b + (m b + M b) = 1
            omega
          . exact .inr z
        . have z := f H (shH H Hs m1) (some v) (.node k false (shrL ds)) (fun _ => 0) hsame (fun _ _ _ => rfl) (.inr ⟨v, rfl, r2⟩)
          rw [ZaY r] at z
          exact z.mono fun b => by simp
    . cases e
theorem Zig {K : Fg} {H : Hp} {σ : St} {lend : Bool} : ∀ {ps : List Op} {vs : List V} {Hs : Hp} {δ δ' : List D} {B M m : Bud} {ds : List D}, Good H Hs (fun b => B b + (m b + M b)) -> RepS K H Hs σ δ M -> Zfk K H Hs σ vs ps m -> ZbQ lend ps δ = .ok (ds, δ') ->
    ∃ Hs' m' M', Good H Hs' (fun b => B b + (m' b + M' b)) /\ Stp H Hs (fun b => B b + (m b + M b)) H Hs' (fun b => B b + (m' b + M' b)) /\ RepL K H Hs' vs ds m' /\ RepS K H Hs' σ δ' M'
  | [], [], Hs, δ, δ', B, M, m, ds, g, s, r, e => by
    have := Zl e
    cases this
    exact ⟨Hs, m, M, g, Stp.refl _ _ _, .nil _, s⟩
  | [], _ :: _, _, _, _, _, _, _, _, _, _, r, _ => r.elim
  | _ :: _, [], _, _, _, _, _, _, _, _, _, r, _ => r.elim
  | p :: ps, v :: vs, Hs, δ, δ', B, M, m, ds, g, s, ⟨n1, n2, r1, r2, l⟩, e => by
    obtain ⟨d, δ1, e1, e⟩ := Ze e
    obtain ⟨ds', δ2, e2, e⟩ := Ze e
    have := Zl e
    cases this
    have g0 : Good H Hs (fun b => (B b + n2 b) + (n1 b + M b)) := g.re fun b => by have := l b; omega
    obtain ⟨Hs1, m1, M1, g1, st1, q1, s1, l1⟩ := Zpu g0 s r1 e1
    have g1' : Good H Hs1 (fun b => (B b + m1 b) + (n2 b + M1 b)) := g1.re fun b => by omega
    obtain ⟨Hs2, m2, M2, g2, st2, q2, s2⟩ := Zig g1' s1 (r2.frame st1.grow fun _ _ _ => rfl) e2
    have S0 : Stp H Hs (fun b => B b + (m b + M b)) H Hs1 (fun b => (B b + m1 b) + (n2 b + M1 b)) := by
      refine ⟨fun b o h _ => h, fun b h => ?_, st1.grow, fun b h h' => ?_, fun b h => h⟩
      . have h : (B b + m1 b) + (n2 b + M1 b) = 1 := h
        rcases st1.own b (show (B b + n2 b) + (m1 b + M1 b) = 1 by omega) with z | z
        . have z : (B b + n2 b) + (n1 b + M b) = 1 := z
          have l0 : B b + (m b + M b) <= 1 := g.le b
          have := l b
          left
          show B b + (m b + M b) = 1
          omega
        . exact .inr z
      . rcases st1.shr b h h' with z | z
        . have z : (B b + n2 b) + (n1 b + M b) = 1 := z
          have l0 : B b + (m b + M b) <= 1 := g.le b
          have := l b
          left
          show B b + (m b + M b) = 1
          omega
        . exact .inr z
    have z := ZA (m1 := fun _ => 0) g (g1'.re fun b => by simp) (S0.drop (fun b => by simp) g1'.le) g2 st2
    have S : Stp H Hs (fun b => B b + (m b + M b)) H Hs2 (fun b => (B b + m1 b) + (m2 b + M2 b)) := z.2.1.drop (fun b => by simp) z.1.le
    exact ⟨Hs2, fun b => m1 b + m2 b, M2, g2.re fun b => by dsimp only; omega, S.drop (fun b => by dsimp only; omega) g2.le, .cons (q1.frame st2.grow fun _ _ _ => rfl) q2 fun b => Nat.le_refl _, s2⟩
theorem ZgO {K : Fg} {H Hs : Hp} {σ : St} : ∀ {ps : List Op} {vs : List V} {δ δ' : List D} {M m : Bud} {ds : List D} {u : Unit}, RepS K H Hs σ δ M -> RepL K H Hs vs ds m -> (∀ i v, (.late i, v) ∈ ps.zip vs -> σ[i]? = some (some v)) -> Zaj ps ds δ = .ok (u, δ') -> RepS K H Hs σ δ' (fun b => m b + M b)
  | [], vs, δ, δ', M, m, ds, u, s, r, hl, e => by
    have := Zl (show T.M.ret () δ = Rs.ok (u, δ') by unfold Zaj at e; exact e)
    cases this
    exact s.mono fun b => by omega
  | p :: ps, [], δ, δ', M, m, ds, u, s, r, hl, e => by
    cases r
    have := Zl (show T.M.ret () δ = Rs.ok (u, δ') by unfold Zaj at e; exact e)
    cases this
    exact s.mono fun b => by omega
  | p :: ps, v :: vs, δ, δ', M, m, ds, u, s, r, hl, e => by
    cases r with
    | @cons _ d _ ds' m1 m2 _ x y l =>
      unfold Zaj at e
      obtain ⟨_, δ1, e1, e2⟩ := Ze e
      have hl' : ∀ i v, (.late i, v) ∈ ps.zip vs -> σ[i]? = some (some v) := fun i v h => hl i v (by rw [List.zip_cons_cons]; exact List.mem_cons_of_mem _ h)
      have go : ∀ {M1 : Bud}, RepS K H Hs σ δ1 M1 -> (∀ b, M1 b <= m1 b + M b) -> RepS K H Hs σ δ' (fun b => m b + M b) := fun {M1} s1 l1 =>
        (ZgO s1 y hl' e2).mono fun b => by have := l b; have := l1 b; omega
      cases p with
      | tmp d' =>
        have := Zl e1
        cases this
        exact go s fun b => by omega
      | late i =>
        have hi := hl i v (by rw [List.zip_cons_cons]; exact List.mem_cons_self)
        unfold giveA at e1
        dsimp only at e1
        split at e1
        . rename_i hh
          cases e1
          obtain ⟨o, n1, n2, q1, q2, q3, f⟩ := s.focus hh
          have z := f (RepO K H Hs) (some v) d m1 (fun a d m' _ q => q) (.inr ⟨v, rfl, x⟩)
          rw [ZaY hi] at z
          exact go z fun b => by have := q3 b; omega
        . cases e1
          exact go s fun b => by omega
theorem lates {K : Fg} {H Hs : Hp} {σ : St} : ∀ {ps : List Op} {vs : List V} {m : Bud}, Zfk K H Hs σ vs ps m -> ∀ i v, (.late i, v) ∈ ps.zip vs -> σ[i]? = some (some v)
  | [], [], _, _, i, v, h => by simp at h
  | [], _ :: _, _, r, _, _, _ => r.elim
  | _ :: _, [], _, r, _, _, _ => r.elim
  | p :: ps, w :: vs, _, ⟨m1, m2, r1, r2, _⟩, i, v, h => by
    rw [List.zip_cons_cons] at h
    rcases List.mem_cons.mp h with e | e
    . injection e with e1 e2
      subst e1 e2
      exact r1
    . exact lates r2 i v e
theorem ZnM {K : Fg} {fi : FI} {σ : St} {H H1 Hs Hs1 : Hp} {M m1 M1 : Bud} {δ1 δ' : List D} {d : D} {ps : List Op} {vs : List V} {Q : VK} {E : XK} (g : Good H Hs M) (g1 : Good H1 Hs1 (fun b => m1 b + M1 b)) (st1 : Stp H Hs M H1 Hs1 (fun b => m1 b + M1 b))
    (r1 : Zfk K H1 Hs1 σ vs ps m1) (s1 : RepS K H1 Hs1 σ δ1 M1) (e : Zfi fi ps δ1 = .ok (d, δ'))
    (q : ∀ (v : V) (H' Hs' : Hp) (m M' : Bud), Good H' Hs' (fun b => m b + M' b) -> Stp H Hs M H' Hs' (fun b => m b + M' b) -> Rep K H' Hs' v d m -> RepS K H' Hs' σ δ' M' -> Q v H') : spF K fi.run vs H1 Q E := by
  unfold Zfi at e
  obtain ⟨ds, δ2, e2, e⟩ := Ze e
  cases hF : fi.run ds with
  | ok r =>
    obtain ⟨d', ds'⟩ := r
    rw [hF] at e
    dsimp only at e
    obtain ⟨u, δ3, e3, e⟩ := Ze e
    have := Zl e
    cases this
    obtain ⟨Hs2, m2, M2, g2, st2, q2, s2⟩ := Zig (B := fun _ => 0) (g1.re fun b => by simp) s1 r1 e2
    have z0 := ZA (m1 := fun _ => 0) g (g1.re fun b => by simp) (st1.drop (fun b => by simp) g1.le) (g2.re fun b => by simp) (M1 := fun b => m1 b + M1 b) (M2 := fun b => m2 b + M2 b) (by
      have := st2
      exact ⟨fun b o h z => this.keep b o h (by simpa using z), fun b h => by have := this.own b (by simpa using h); simpa using this, this.grow, fun b h h' => by have := this.shr b h h'; simpa using this, this.stay⟩)
    have G2 : Good H1 Hs2 (fun b => M2 b + m2 b) := g2.re fun b => by simp; omega
    have S2 : Stp H Hs M H1 Hs2 (fun b => M2 b + m2 b) := z0.2.1.drop (fun b => by simp; omega) z0.1.le
    refine ⟨ds, Hs2, m2, _, ds', G2.re fun b => by omega, q2, hF, fun v H3 Hs3 n1 n2 g3 st3 r3 r4 => ?_⟩
    obtain ⟨G, S, k⟩ := ZA g G2 S2 g3 st3
    have s3 := RepS.frame st3.grow k s2
    have fin := ZgO s3 r4 (lates r1) e3
    exact q v H3 Hs3 n1 (fun b => n2 b + M2 b) (G.re fun b => by (try dsimp only); omega) (S.drop (fun b => by (try dsimp only); omega) G.le) r3 fin
  | exc x y => rw [hF] at e; cases e
  | stuck => rw [hF] at e; cases e
theorem Zpv {K : Fg} {fi : FI} {cs : M (List Op)} {σ : St} {H : Hp} {Q : VK} {E : XK} (h : tM K (cs.bnd fun ps => Zfi fi ps) σ H Q) : tPs K cs σ H fun vs H1 => spF K fi.run vs H1 Q E := by
  obtain ⟨δ, Hs, M, d, δ', g, s, e, q⟩ := h
  obtain ⟨ps, δ1, e1, e⟩ := Ze e
  exact ⟨δ, Hs, M, ps, δ1, g, s, e1, fun vs H1 Hs1 m1 M1 g1 st1 r1 s1 => ZnM g g1 st1 r1 s1 e q⟩
section
variable {X : Cx} {a e c : Expr} {es : List Expr} {pos p : Pos} {x : Str} {j n : Nat} {fi : FI} {ps : List Str} {cs : M (List Op)}
theorem ZE (G : FnAt X.prog X.w X.K X.mg X.base x j ps (spF X.K fi.run)) (hr : Room n X.A) (ha : PA X (e :: es) (tPs X.K cs)) (hj : j <= n := by decide) (hg : Gl X x := by rfl) (hdb : (x == ("__debug__" : Str)) = false := by decide)
    (he : starEach (e :: es) X.env = (false, eval e X.env) :: starEach es X.env := by rfl) (hpl : (backTo pos (starEach es X.env)).any (·.1) = false := by rfl) :
    PE X (.Call (.Name x p) (e :: es) [] pos) (tM X.K (cs.bnd fun ps => Zfi fi ps)) := PE.imp (ZsH G hr ha hj hg hdb he hpl) fun σ H Q h => by
  obtain ⟨δ, Hs, M, a, δ', g, s, e, q⟩ := Zpv (E := E0) h
  refine ⟨δ, Hs, M, a, δ', g, s, e, fun vs H' Hs' m M' g' st r s' => ?_⟩
  show spF X.K fi.run (vs ++ []) H' Q E0
  rw [List.append_nil]
  exact q vs H' Hs' m M' g' st r s'
end
end T
namespace T
open PySem PySem.Spec L2
theorem modL {K : Fg} {H Hs : Hp} {σ : St} {B M : Bud} {δ : List D} {i : Nat} {k : Kd} {ds : List D} (g : Good H Hs (fun b => B b + M b)) (s : RepS K H Hs σ δ M) (hi : δ[i]? = some (.node k true ds)) :
    ∃ (p : Addr) (vs : List V) (m' m2 : Bud), σ[i]? = some (some (.ref p)) /\ Zdl K H p vs k /\ RepL K H Hs vs ds m' /\ (∀ b, one p b + m' b + m2 b <= M b) /\
      ∀ (o' : HO) (k' : Kd) (vs' : List V) (ds' : List D) (n' nr : Bud) (rv : V) (r : D), (∀ b, n' b + nr b <= m' b + B b) -> Zdl K (upd H p o') p vs' k' -> RepL K H Hs vs' ds' n' -> Rep K H Hs rv r nr ->
        Good (upd H p o') Hs (fun b => nr b + (one p b + n' b + m2 b)) /\ Stp H Hs (fun b => B b + M b) (upd H p o') Hs (fun b => nr b + (one p b + n' b + m2 b)) /\ Rep K (upd H p o') Hs rv r nr /\
        RepS K (upd H p o') Hs σ (δ.set i (.node k' true ds')) (fun b => one p b + n' b + m2 b) := by
  obtain ⟨v, m1, m2, e1, q, l, f⟩ := s.slot hi (by simp)
  cases q with
  | @own p _ vs _ _ m' n r l' =>
    have le : ∀ b, one p b + m' b + m2 b <= M b := fun b => by have := l b; have := l' b; omega
    refine ⟨p, vs, m', m2, e1, n, r, le, fun o' k' vs' ds' n' nr rv rd h1 hn hr hq => ?_⟩
    have one_p : one p p = 1 := by simp [one]
    have tot : ∀ b, nr b + (one p b + n' b + m2 b) <= B b + M b := fun b => by have := le b; have := h1 b; omega
    have zp : m' p = 0 /\ B p = 0 /\ m2 p = 0 := by
      have := le p
      have := g.le p
      try dsimp only at this
      omega
    have zp2 : n' p = 0 /\ nr p = 0 := by have := h1 p; omega
    have Hp : H p ≠ none := n.at
    have eqH : ∀ b, b ≠ p -> upd H p o' b = H b := fun b hb => ZC hb
    have hs2 : Hs p = none := g.ne p (by have := le p; have := g.le p; (try dsimp only at this ⊢); omega)
    refine ⟨⟨fun b o e => ?_, fun b => ?_, fun b h => ?_, fun b h => ?_⟩, ⟨fun b o e z => ?_, fun b h => ?_, Same.refl _, fun b h h' => absurd h h', fun b h => ?_⟩, ?_, ?_⟩
    . have hb : b ≠ p := fun q => by subst q; rw [hs2] at e; cases e
      rw [eqH b hb]
      exact g.sub b o e
    . have := g.le b
      have := tot b
      (try dsimp only at *)
      omega
    . have := g.le b
      have := tot b
      exact g.ne b (by (try dsimp only at *); omega)
    . by_cases hb : b = p
      . subst hb; rw [ZB]; simp
      . rw [eqH b hb]
        have := g.le b
        have := tot b
        exact g.has b (by (try dsimp only at *); omega)
    . have hb : b ≠ p := fun q => by
        subst q
        have := le b
        have := g.le b
        (try dsimp only at *)
        omega
      rw [eqH b hb]
      exact e
    . have := g.le b
      have := tot b
      left
      (try dsimp only at *)
      omega
    . by_cases hb : b = p
      . subst hb; rw [ZB]; simp
      . rw [eqH b hb]; exact h
    . exact hq.frame (Same.refl _) fun b hb hn' => eqH b fun q => by subst q; omega
    . have r' : RepL K (upd H p o') Hs vs' ds' n' := hr.frame (Same.refl _) fun b hb hn' => eqH b fun q => by subst q; omega
      have z := f (upd H p o') Hs (some (.ref p)) (.node k' true ds') (fun b => one p b + n' b) (Same.refl _) (fun b hb hn' => eqH b fun q => by subst q; omega) (.inr ⟨_, rfl, .own hn r' fun b => Nat.le_refl _⟩)
      rw [ZaY e1] at z
      exact z.mono fun b => by (try dsimp only); omega
theorem Zl6 {i : Nat} {f : Kd -> List D -> Option (D × Kd × List D)} {δ δ' : List D} {d : D} (h : modS i f δ = .ok (d, δ')) : ∃ k ds k' ds', δ[i]? = some (.node k true ds) /\ f k ds = some (d, k', ds') /\ δ' = δ.set i (.node k' true ds') := by
  unfold modS at h
  split at h
  . rename_i k ds hi
    split at h
    . rename_i r k' ds' hf
      cases h
      exact ⟨k, ds, k', ds', hi, hf, rfl⟩
    . cases h
  . cases h
section
variable {X : Cx} {o e : Expr} {es : List Expr} {cpos apos : Pos} {i : Nat} {name : Str} {id : String}
theorem Zrg {K : Fg} {H Hs : Hp} {σ : St} {M : Bud} {δ δ' : List D} {u : Unit} (g : Good H Hs M) (s : RepS K H Hs σ δ M) (h : chkL i δ = .ok (u, δ')) : δ' = δ /\ ∃ p, σ[i]? = some (some (.ref p)) /\ tyV K "list" (.ref p) H := by
  unfold chkL at h
  split at h
  . rename_i oo ds hi
    cases h
    obtain ⟨v, m1, m2, e1, q, l, f⟩ := s.slot hi (by simp)
    refine ⟨rfl, ?_⟩
    cases q with
    | own n r _ => exact ⟨_, e1, .inl ⟨rfl, _, .inl (.inl n)⟩⟩
    | shd n r => exact ⟨_, e1, .inl ⟨rfl, _, .inl (.inl (g.sub _ _ n))⟩⟩
  . cases h
theorem ZjD {cs : M (List D)} (ho : PE X o (tVar i)) (ha : PA X [e] (tDs X.K cs))
    (hbase : attributeBase o "append" X.env (eval o X.env) = eval o X.env := by rfl)
    (hfew : ((backTo cpos (starEach [e] X.env)).all (fun x => !x.1) && (backToKw cpos (keywordEach [] X.env)).all (fun x => x.1.isSome)
      && decide ([e].length + ([] : List Keyword).length + (if ([] : List Keyword).isEmpty then 0 else 1) < 30)) = true := by rfl)
    (hline : (apos.endLine == cpos.line) = true := by rfl) (hs : starEach [e] X.env = (false, eval e X.env) :: starEach [] X.env := by rfl) (hplain : (backTo cpos (starEach [] X.env)).any (·.1) = false := by rfl) :
    PE X (.Call (.Attribute o "append" apos) [e] [] cpos) (tM X.K ((chkL i).bnd fun _ => cs.bnd fun ds => appM i ds)) :=
  PE.imp (Zo8 PySem.F.plainAttrs_list PySem.F.slot_list_append PySem.F.type_list_append Zj8 ho ha hbase hfew hline hs hplain) fun σ H Q h => by
    obtain ⟨δ, Hs, M, d, δ', g, s, ea, q⟩ := h
    obtain ⟨u, δ0, e0, eb⟩ := Ze ea
    obtain ⟨ds, δ1, e1, ec⟩ := Ze eb
    obtain ⟨rfl, p0, h1, h2⟩ := Zrg g s e0
    refine ⟨_, h1, h2, δ0, Hs, M, ds, δ1, g, s, e1, fun vs H1 Hs1 m1 M1 g1 st1 r1 s1 => ?_⟩
    unfold appM at ec
    split at ec
    . rename_i x
      obtain ⟨k, ds0, k', ds', hi, hf, rfl⟩ := Zl6 ec
      unfold appD at hf
      split at hf
      . split at hf
        . rename_i hl
          cases hf
          cases r1 with
          | @cons y _ _ _ a1 a2 _ rx r2 la =>
            cases r2
            obtain ⟨p, ws, m', m2, e2, n, rl, le, fin⟩ := modL g1 s1 hi
            have e3 : some (some (V.ref p)) = some (some (V.ref p0)) := by rw [<- e2, h1]
            cases e3
            obtain ⟨G, S, R, SS⟩ := fin (.lst (ws ++ [y])) .lst (ws ++ [y]) (ds0 ++ [x]) (fun b => m' b + a1 b) (fun _ => 0) .non (.sc .non) (fun b => by have := la b; (try dsimp only); omega) ZB (rl.app (.cons rx (.nil (fun _ => 0)) fun b => by simp)) (.sc _ _)
            have z := ZA (m1 := fun _ => 0) g (g1.re fun b => by simp) (st1.drop (fun b => by simp) g1.le) G S
            exact ⟨_, ws, y, rfl, rfl, n, by rw [rl.len]; exact hl, q _ _ Hs1 _ _ G (z.2.1.drop (fun b => by simp) z.1.le) R SS⟩
        . cases hf
      . cases hf
    . cases ec
end
end T
namespace L2
open PySem PySem.Spec PyProof.Rows
section
variable {prog : Program} {w : World} {A : Around} {E : Value -> Shared -> Prop} {s : Shared}
theorem ZoE {it a : Addr} {us : Array Value} (ne : a ≠ it) : ∀ (m j : Nat) (s : Shared) (Q : List Value -> Shared -> Prop), s.heap.IsListIter it a j -> s.heap.IsList a us -> j + m <= us.size ->
    (∀ g, Heap.IsListIter g it a (j + m) -> Heap.SameBut it s.heap g -> Q ((us.toList.drop j).take m) { s with heap := g }) -> wpAny (model prog w) A (draw (.ref it) m) Q E s
  | 0, j, s, Q, st, _, _, q => wpAny_pure (by simpa using q s.heap st (Heap.SameBut.refl ..))
  | m + 1, j, s, Q, st, hl, le, q => by
    have lt : j < us.size := by omega
    refine wpAny_bind (wpAny_pyNext_list_item st hl (x := us[j]) (by simp [lt]) fun g1 st1 k1 => ?_)
    refine wpAny_bind (wpAny_holding (ZoE ne m (j + 1) _ _ st1 (hl.extBut k1.extBut ne) (by omega) fun g2 st2 k2 => wpAny_pure ?_))
    have z := q g2 (by rw [show j + (m + 1) = j + 1 + m by omega]; exact st2) (k1.trans k2)
    rw [show us.toList.drop j = us[j] :: us.toList.drop (j + 1) by simp [List.drop_eq_getElem_cons, lt], List.take_succ_cons] at z
    exact z
theorem Zpw {a : Addr} {us : Array Value} {Q : List Value -> Shared -> Prop} (hh : A.handled = none) (hl : s.heap.IsList a us)
    (q : ∀ g, Heap.ExtBut s.heap.objs.size s.heap g -> Q us.toList { s with heap := g }) : wpAny (model prog w) A (unpackItems (.ref a) us.size none) Q E s := by
  have ne : a ≠ s.heap.objs.size := Nat.ne_of_lt (by obtain ⟨o, e, _⟩ := hl; exact Heap.lt_size e)
  unfold unpackItems
  refine wpAny_bind (?_ : wpAny _ _ _ _ _ _)
  unfold notIterableAtAll
  refine wpAny_bind (wpAny_specialOf hl.typeIs slot_list_iter.lookup (wpAny_pure ?_))
  simp only [if_false, Bool.false_eq_true]
  refine wpAny_bind (wpAny_holding (wpAny_pyIter_list hl (wpAny_bind (wpAny_holding (ZoE ne us.size 0 _ _ ⟨_, Heap.get?_push_size _ rfl, rfl, rfl⟩ (hl.push _) (by omega) fun g1 st1 k1 => ?_)))))
  rw [show List.take us.size (List.drop 0 us.toList) = us.toList from by rw [List.drop_zero, List.take_of_length_le (by simp)], if_neg (by simp)]
  refine wpAny_bind (wpAny_holding (wpAny_pyNext_list_end hh st1 ((hl.push _).extBut k1.extBut ne) (by simp) fun g2 k2 => ?_))
  simp only [if_false, Bool.false_eq_true, Option.isSome_none]
  exact wpAny_pure (q g2 fun b o hb e => k2 b o hb (k1.extBut b o hb (Heap.get?_push_of_some _ e)))
theorem Zpx {env : Env} {es : List Expr} {k : Nat} {p : Pos} {a : Addr} {us : Array Value} {Q : Unit -> Shared -> Prop} (hh : A.handled = none) (hl : s.heap.IsList a us) (hn : (assignEach es env).length = us.size) (hst : (assignEach es env).findIdx? (·.1) = none)
    (q : ∀ g, Heap.ExtBut s.heap.objs.size s.heap g -> wpAny (model prog w) A (assignInOrder ((assignEach es env).map (·.2)) us.toList) Q E { s with heap := g }) : wpAny (model prog w) A (assign (.Tuple es k p) env (.ref a)) Q E s := by
  rw [assign_Tuple]
  refine wpAny_bind (wpAny_standAt ?_)
  unfold unpack
  rw [hn, hst]
  exact wpAny_bind (wpAny_holding (Zpw hh hl q))
end
noncomputable def gSeq (K : Fg) (n : Nat) (t : TGs) : TG := fun v σ H Q => ∃ a xs, v = .ref a /\ (SqT K H a xs \/ SqL K H a xs) /\ xs.length = n /\ t xs σ H Q
theorem ZmV {X : Cx} {pos : Pos} {es : List Expr} {k : Nat} {t : TGs} {n : Nat} (hc : X.calm = true) (h : PGs X es t)
    (hn : (assignEach es X.env).length = n := by rfl) (hst : (assignEach es X.env).findIdx? (·.1) = none := by rfl) : PG X (.Tuple es k pos) (gSeq X.K n t) := by
  intro pins s σ H v u Q I r hw
  obtain ⟨a, xs, e1, hq, hl, hw⟩ := hw
  rcases hq with hq | hq
  . exact Zq0 hc h hn hst pins s σ H v u Q I r ⟨a, xs, e1, hq, hl, hw⟩
  . subst e1
    cases r
    obtain ⟨its, rv, ht, hz⟩ := I.list hq
    refine Zpx (I.ok.hd hc) ht.isList (by simp [hn, <- hl, rv.length]) hst fun h' hx => ?_
    have I1 : Inv X pins σ H { s with heap := h' } := I.kept (t' := s.toks) fun b o e => hx b o (Nat.ne_of_lt (Heap.lt_size e)) e
    exact h pins _ σ H xs _ Q I1 (by simpa using rv) hw
end L2
namespace T
open PySem PySem.Spec L2
def Keeps (lk : Nat -> Bool) (σ σ' : St) : Prop := ∀ i, lk i = true -> σ'[i]? = σ[i]?
theorem Keeps.refl (lk : Nat -> Bool) (σ : St) : Keeps lk σ σ := fun _ _ => rfl
theorem Keeps.trans {lk : Nat -> Bool} {σ σ1 σ2 : St} (a : Keeps lk σ σ1) (b : Keeps lk σ1 σ2) : Keeps lk σ σ2 := fun i h => (b i h).trans (a i h)
def Post (K : Fg) (lk : Nat -> Bool) (E : Ends) (σ : St) (H Hs : Hp) (M : Bud) (f : Fl) (δ' : List D) : Prop := match f with
  | .nx => ∀ (σ' : St) (H' Hs' : Hp) (M' : Bud), Keeps lk σ σ' -> Good H' Hs' M' -> Stp H Hs M H' Hs' M' -> RepS K H' Hs' σ' δ' M' -> E.nx σ' H'
  | .bk => ∀ (σ' : St) (H' Hs' : Hp) (M' : Bud), Keeps lk σ σ' -> Good H' Hs' M' -> Stp H Hs M H' Hs' M' -> RepS K H' Hs' σ' δ' M' -> E.bk σ' H'
  | .ct => ∀ (σ' : St) (H' Hs' : Hp) (M' : Bud), Keeps lk σ σ' -> Good H' Hs' M' -> Stp H Hs M H' Hs' M' -> RepS K H' Hs' σ' δ' M' -> E.ct σ' H'
  | .rt d => ∀ (v : V) (σ' : St) (H' Hs' : Hp) (m M' : Bud), Keeps lk σ σ' -> Good H' Hs' (fun b => m b + M' b) -> Stp H Hs M H' Hs' (fun b => m b + M' b) -> Rep K H' Hs' v d m -> RepS K H' Hs' σ' δ' M' -> E.rt v H'
def tS (K : Fg) (lk : Nat -> Bool) (c : M Fl) : TS := fun E σ H => ∃ (δ : List D) (Hs : Hp) (M : Bud) (f : Fl) (δ' : List D), Good H Hs M /\ RepS K H Hs σ δ M /\ c δ = .ok (f, δ') /\ Post K lk E σ H Hs M f δ'
theorem Post.ahead {K : Fg} {lk : Nat -> Bool} {E : Ends} {σ σ1 : St} {H Hs H1 Hs1 : Hp} {M M1 : Bud} {f : Fl} {δ' : List D} (k : Keeps lk σ σ1) (g : Good H Hs M) (g1 : Good H1 Hs1 M1) (st : Stp H Hs M H1 Hs1 M1) (h : Post K lk E σ H Hs M f δ') : Post K lk E σ1 H1 Hs1 M1 f δ' := by
  have tr : ∀ {H' Hs' : Hp} {M' : Bud}, Good H' Hs' M' -> Stp H1 Hs1 M1 H' Hs' M' -> Stp H Hs M H' Hs' M' := fun {H' Hs' M'} g' st' => by
    have z := ZA (m1 := fun _ => 0) g (g1.re fun b => by simp) (st.drop (fun b => by simp) g1.le) g' st'
    exact z.2.1.drop (fun b => by simp) z.1.le
  cases f with
  | nx => exact fun σ' H' Hs' M' k' g' st' r => h σ' H' Hs' M' (k.trans k') g' (tr g' st') r
  | bk => exact fun σ' H' Hs' M' k' g' st' r => h σ' H' Hs' M' (k.trans k') g' (tr g' st') r
  | ct => exact fun σ' H' Hs' M' k' g' st' r => h σ' H' Hs' M' (k.trans k') g' (tr g' st') r
  | rt d => exact fun v σ' H' Hs' m M' k' g' st' rv r => h v σ' H' Hs' m M' (k.trans k') g' (tr g' st') rv r
section
variable {X : Cx} {e a b c o : Expr} {st : Stmt} {rest : List Stmt} {pos pos' : Pos} {lk : Nat -> Bool} {i : Nat} {x : Str}
theorem PS.imp {t t' : TS} (h : PS X st t) (w : ∀ E σ H, t' E σ H -> t E σ H) : PS X st t' := fun pins s σ H E I q => h pins s σ H E I (w E σ H q)
theorem PSs.imp {t t' : TS} (h : PSs X rest t) (w : ∀ E σ H, t' E σ H -> t E σ H) : PSs X rest t' := fun pins s σ H E I q => h pins s σ H E I (w E σ H q)
theorem Zo : PSs X [] (tS X.K lk (M.ret .nx)) := PSs.imp ZoQ fun E σ H h => by
  obtain ⟨δ, Hs, M, f, δ', g, s, e, q⟩ := h
  have := Zl e
  cases this
  exact q σ H Hs M (Keeps.refl _ _) g (Stp.refl _ _ _) s
theorem Zf {c r : M Fl} (h1 : PS X st (tS X.K lk c)) (h2 : PSs X rest (tS X.K lk r)) : PSs X (st :: rest) (tS X.K lk (seqL c r)) := PSs.imp (Znx h1 h2) fun E σ H h => by
  obtain ⟨δ, Hs, M, f, δ', g, s, e, q⟩ := h
  obtain ⟨f1, δ1, e1, e2⟩ := Ze e
  refine ⟨δ, Hs, M, f1, δ1, g, s, e1, ?_⟩
  cases f1 with
  | nx => exact fun σ' H' Hs' M' k g' st' r => ⟨δ1, Hs', M', f, δ', g', r, e2, q.ahead k g g' st'⟩
  | bk => have := Zl e2; cases this; exact q
  | ct => have := Zl e2; cases this; exact q
  | rt d => have := Zl e2; cases this; exact q
theorem Zk0 : PS X st (tS X.K lk stk) := fun pins s σ H E I ⟨δ, Hs, M, f, δ', g, _, e, q⟩ => by cases e
theorem ZhC {c : M D} (he : PE X e (tM X.K c)) (hs : swapsWith e none pos.line X.env = pure false := by rfl) : PS X (.Expr e pos) (tS X.K lk (c.bnd fun _ => M.ret .nx)) := PS.imp (ZoR he hs) fun E σ H h => by
  obtain ⟨δ, Hs, M, f, δ', g, s, e, q⟩ := h
  obtain ⟨d, δ1, e1, e2⟩ := Ze e
  have := Zl e2
  cases this
  exact ⟨δ, Hs, M, d, _, g, s, e1, fun v H' Hs' m M' g' st' r s' => q σ H' Hs' M' (Keeps.refl _ _) g'.re (st'.drop (fun b => by omega) g'.le) s'⟩
theorem Z6 {c : M D} (he : PE X e (tM X.K c)) : PS X (.Return (some e) pos) (tS X.K lk (c.bnd fun d => M.ret (.rt d))) := PS.imp (Zqz he) fun E σ H h => by
  obtain ⟨δ, Hs, M, f, δ', g, s, e, q⟩ := h
  obtain ⟨d, δ1, e1, e2⟩ := Ze e
  have := Zl e2
  cases this
  exact ⟨δ, Hs, M, d, _, g, s, e1, fun v H' Hs' m M' g' st' r s' => q v σ H' Hs' m M' (Keeps.refl _ _) g' st' r s'⟩
theorem Zfr (h : PE X e (tVar i)) : PE X e (tM X.K (movV i)) := PE.imp h fun σ H Q ⟨δ, Hs, M, d, δ', g, s, e, q⟩ => by
  unfold movV at e
  split at e
  . rename_i u hd
    cases e
    obtain ⟨v, m1, m2, e3, r, _⟩ := s.slot hd (by simp)
    cases r
    exact ⟨u, e3, q u H Hs (fun _ => 0) M (ZdK g) (stp0 H Hs M) (.sc _ _) s⟩
  . rename_i k oo ds hd
    cases e
    obtain ⟨v, m1, m2, e3, r, l, f⟩ := s.slot hd (by simp)
    have z := f H Hs (some v) .hole (fun _ => 0) (Same.refl _) (fun _ _ _ => rfl) (.inl rfl)
    rw [ZaY e3] at z
    exact ⟨v, e3, q v H Hs m1 m2 (g.re fun b => by have := l b; omega) ((Stp.refl H Hs M).drop (fun b => by have := l b; omega) g.le) r (z.mono fun b => by simp)⟩
  . cases e
theorem Zb8 {cc : M Bool} {ca cb : M Fl} {A B : List Stmt} (hc : PT X c (tT X.K cc)) (ha : PSs X A (tS X.K lk ca)) (hb : PSs X B (tS X.K lk cb)) : PS X (.If c A B pos) (tS X.K lk (cc.bnd fun t => if t then ca else cb)) := PS.imp (Zsz hc ha hb) fun E σ H h => by
  obtain ⟨δ, Hs, M, f, δ', g, s, e, q⟩ := h
  obtain ⟨t, δ1, e1, e2⟩ := Ze e
  refine ⟨δ, Hs, M, t, δ1, g, s, e1, fun H' Hs' M' g' st' s' => ?_⟩
  cases t with
  | true => exact ⟨δ1, Hs', M', f, δ', g', s', e2, q.ahead (Keeps.refl _ _) g g' st'⟩
  | false => exact ⟨δ1, Hs', M', f, δ', g', s', e2, q.ahead (Keeps.refl _ _) g g' st'⟩
theorem ZdT {K : Fg} {H Hs : Hp} {σ : St} {δ : List D} {m M : Bud} {v : V} {d : D} (s : RepS K H Hs σ δ M) (hi : i < δ.length) (r : Rep K H Hs v d m) : RepS K H Hs (σ.set i (some v)) (δ.set i d) (fun b => m b + M b) := by
  obtain ⟨o, m1, m2, e1, q, l, f⟩ := s.focus (List.getElem?_eq_getElem hi)
  exact (f (RepO K H Hs) (some v) d m (fun a d m' _ q => q) (.inr ⟨v, rfl, r⟩)).mono fun b => by have := l b; (try dsimp only); omega
theorem Zg9 {δ δ' : List D} {d : D} {u : Unit} (h : asgN lk i d δ = .ok (u, δ')) : i < δ.length /\ lk i = false /\ δ' = δ.set i d := by
  unfold asgN at h
  split at h
  . rename_i hc
    simp only [Bool.and_eq_true, decide_eq_true_eq, Bool.not_eq_true'] at hc
    cases h
    exact ⟨hc.1, hc.2, rfl⟩
  . cases h
theorem ZcM {σ : St} {v : Option V} (h : lk i = false) : Keeps lk σ (σ.set i v) := fun j hj => by
  have : i ≠ j := fun q => by subst q; rw [h] at hj; cases hj
  rw [List.getElem?_set_ne this]
theorem Zrh {c : M D} (hN : X.N.Nodup) (hi : X.N[i]? = some x) (hx : Loc X.env.scope x) (he : PE X e (tM X.K c)) (hs : swapsWith e (some (.Name x pos')) pos.line X.env = pure false := by rfl)
    (hf : X.fn x = true \/ X.env.scope.names.lookup x = some .local := by first | exact .inl rfl | exact .inr rfl | assumption) :
    PS X (.Assign [.Name x pos'] e pos) (tS X.K lk (c.bnd fun d => (asgN lk i d).bnd fun _ => M.ret .nx)) := PS.imp (Zq2 hN hi hx he hs hf) fun E σ H h => by
  obtain ⟨δ, Hs, M, f, δ', g, s, e, q⟩ := h
  obtain ⟨d, δ1, e1, e2⟩ := Ze e
  obtain ⟨u, δ2, e3, e4⟩ := Ze e2
  have := Zl e4
  cases this
  obtain ⟨h1, h2, rfl⟩ := Zg9 e3
  exact ⟨δ, Hs, M, d, δ1, g, s, e1, fun v H' Hs' m M' g' st' r s' => q _ H' Hs' _ (ZcM h2) g' st' (ZdT s' h1 r)⟩
end
end T
namespace T
open PySem PySem.Spec L2
noncomputable def gNs : List Nat -> TGs
  | [] => gNil
  | i :: is => Zoz (Zgp i) (gNs is)
theorem ZhD {K : Fg} {H Hs : Hp} {lk : Nat -> Bool} : ∀ {is : List Nat} {ds : List D} {vs : List V} {σ : St} {δ δ' : List D} {m M : Bud} {u : Unit} {Q : St -> Hp -> Prop}, ZdI lk is ds δ = .ok (u, δ') -> RepL K H Hs vs ds m -> RepS K H Hs σ δ M ->
    (∀ σ', Keeps lk σ σ' -> RepS K H Hs σ' δ' (fun b => m b + M b) -> Q σ' H) -> vs.length = is.length /\ gNs is vs σ H Q
  | [], [], _, σ, δ, δ', m, M, u, Q, e, .nil _, s, q => by
    have := Zl e
    cases this
    exact ⟨rfl, rfl, q σ (Keeps.refl _ _) (s.mono fun b => by omega)⟩
  | [], _ :: _, _, _, _, _, _, _, _, _, e, _, _, _ => by cases e
  | _ :: _, [], _, _, _, _, _, _, _, _, e, _, _, _ => by cases e
  | i :: is, d :: ds, _, σ, δ, δ', m, M, u, Q, e, .cons (v := v) (vs := vs) (m1 := m1) (m2 := m2) x y l, s, q => by
    obtain ⟨u1, δ1, e1, e2⟩ := Ze e
    obtain ⟨h1, h2, rfl⟩ := Zg9 e1
    obtain ⟨hl, hq⟩ := ZhD (Q := Q) e2 y (ZdT s h1 x) fun σ' k r => q σ' ((ZcM h2).trans k) (r.mono fun b => by have := l b; (try dsimp only); omega)
    exact ⟨by rw [List.length_cons, List.length_cons, hl], v, vs, rfl, hq⟩
section
variable {X : Cx} {e o k : Expr} {es : List Expr} {pos pos' : Pos} {lk : Nat -> Bool} {i j : Nat} {is : List Nat} {x : Str}
theorem Zi6 : PGs X [] (gNs []) := ZoS
theorem ok_g (hN : X.N.Nodup) (hi : X.N[i]? = some x) (hx : Loc X.env.scope x) (hr : PGs X es (gNs is)) (hf : X.fn x = true \/ X.env.scope.names.lookup x = some .local := by first | exact .inl rfl | exact .inr rfl | assumption)
    (hs : (assignEach (.Name x pos :: es) X.env).map (·.2) = assign (.Name x pos) X.env :: (assignEach es X.env).map (·.2) := by rfl) : PGs X (.Name x pos :: es) (gNs (i :: is)) := Zny (Zlu hN hi hx hf) hr hs
theorem Zpy {K : Fg} {H Hs : Hp} {σ : St} {δ δ' : List D} {m M : Bud} {x : V} {w : W} {u : Unit} {Q : St -> Hp -> Prop} (v : View K H Hs x w m) (s : RepS K H Hs σ δ M) (e : unpM lk is w δ = .ok (u, δ'))
    (q : ∀ σ', Keeps lk σ σ' -> RepS K H Hs σ' δ' (fun b => m b + M b) -> Q σ' H) : gSeq K is.length (gNs is) x σ H Q := by
  unfold unpM at e
  split at e
  . cases v with
    | nd n r =>
      obtain ⟨hl, hq⟩ := ZhD e r s q
      exact ⟨_, _, rfl, .inl (.inl (.inl n)), hl, hq⟩
  . cases v with
    | nd n r =>
      obtain ⟨hl, hq⟩ := ZhD e r s q
      exact ⟨_, _, rfl, .inr (.inl (.inl n)), hl, hq⟩
  . cases e
theorem Zri {ca : M Op} (hc : X.calm = true) (he : PE X e (tP X.K ca)) (hg : PGs X es (gNs is)) (hn : (assignEach es X.env).length = is.length := by rfl) (hst : (assignEach es X.env).findIdx? (·.1) = none := by rfl)
    (hs : swapsWithSole [.Tuple es j pos'] e pos.line X.env = pure false := by rfl) (hw : swappedStores [.Tuple es j pos'] e X.env = pure none := by rfl)
    (h1 : (assignEach [.Tuple es j pos'] X.env).map (·.2) = [assign (.Tuple es j pos') X.env] := by rfl) :
    PS X (.Assign [.Tuple es j pos'] e pos) (tS X.K lk ((ca.bnd view).bnd fun w => (unpM lk is w).bnd fun _ => M.ret .nx)) := PS.imp (Zmz he (ZmV hc hg hn hst) hs hw h1) fun E σ H h => by
  obtain ⟨δ, Hs, M, f, δ', g, s, ea, q⟩ := h
  obtain ⟨w, δ2, eb, ec⟩ := Ze ea
  obtain ⟨p, δ1, e1, e2⟩ := Ze eb
  obtain ⟨u, δ3, e3, e4⟩ := Ze ec
  have := Zl e4
  cases this
  refine ⟨δ, Hs, M, p, δ1, g, s, e1, fun x H2 Hs2 m1 M2 g2 st2 r1 s2 => ?_⟩
  obtain ⟨Hs3, M3, g3, st3, v1, s3⟩ := Zcy (B := m1) g2 s2 r1 e2
  have z := ZA (m1 := fun _ => 0) g (g2.re fun b => by simp) (st2.drop (fun b => by simp) g2.le) g3 st3
  exact Zpy v1 s3 e3 fun σ' kk r => q σ' H2 Hs3 _ kk g3 (z.2.1.drop (fun b => by simp) z.1.le) r
theorem RepL.set {K : Fg} {H Hs : Hp} {vs : List V} {ds : List D} {m m1 : Bud} {n : Nat} {v : V} {d d0 : D} (r : RepL K H Hs vs ds m) (hn : ds[n]? = some d0) (x : Rep K H Hs v d m1) : RepL K H Hs (vs.set n v) (ds.set n d) (fun b => m b + m1 b) := by
  obtain ⟨a, n1, n2, e1, q, l, f⟩ := r.sep.focus hn
  exact ((f (Rep K H Hs) v d m1 (fun a d m' _ q => q) x).mono fun b => by have := l b; (try dsimp only); omega).repL
theorem Zpz {K : Fg} {H Hs : Hp} {σ : St} {δ δ' : List D} {M : Bud} {p : Op} (s : RepS K H Hs σ δ M) (h : Zbg i δ = .ok (p, δ')) : δ' = δ /\ ∃ v, σ[i]? = some (some v) := by
  unfold Zbg at h
  split at h
  . rename_i hd
    cases h
    obtain ⟨v, _, _, e, _⟩ := s.slot hd (by simp)
    exact ⟨rfl, v, e⟩
  . rename_i hd
    cases h
    obtain ⟨v, _, _, e, _⟩ := s.slot hd (by simp)
    exact ⟨rfl, v, e⟩
  . cases h
theorem Zrj {c : M D} {ck : M Op} (ho : PE X o (tVar i)) (hk : PE X k (tP X.K ck)) (he : PE X e (tM X.K c))
    (ha : ∀ v, assign (.Subscript o k pos') X.env v = (do
      let ov <- holding [v] (eval o X.env)
      let iv <- holding [v, ov] (eval k X.env)
      standAt pos'
      holding [v, ov, iv] (setItem ov iv v)
      release [v, ov, iv] []) := by intro _; rfl)
    (hs : swapsWithSole [.Subscript o k pos'] e pos.line X.env = pure false := by rfl) (hw : swappedStores [.Subscript o k pos'] e X.env = pure none := by rfl)
    (h1 : (assignEach [.Subscript o k pos'] X.env).map (·.2) = [assign (.Subscript o k pos') X.env] := by rfl) :
    PS X (.Assign [.Subscript o k pos'] e pos) (tS X.K lk (c.bnd fun d => (Zbg i).bnd fun _ => (ck.bnd view).bnd fun w => (modS i (setD w d)).bnd fun _ => M.ret .nx)) :=
  PS.imp (Zmz he (Zq1 ho hk Zn4 ha) hs hw h1) fun E σ H h => by
  obtain ⟨δ, Hs, M, f, δ', g, s, ea, q⟩ := h
  obtain ⟨d, δ1, e1, eb⟩ := Ze ea
  obtain ⟨p0, δ2, e2, ec⟩ := Ze eb
  obtain ⟨w, δ3, e3, ed⟩ := Ze ec
  obtain ⟨p, δ4, e4, e5⟩ := Ze e3
  obtain ⟨r0, δ5, e6, e7⟩ := Ze ed
  have := Zl e7
  cases this
  obtain ⟨kk, ds0, k', ds', hi, hf, rfl⟩ := Zl6 e6
  refine ⟨δ, Hs, M, d, δ1, g, s, e1, fun v H1 Hs1 m1 M1 g1 st1 r1 s1 => ?_⟩
  obtain ⟨rfl, vo, ho⟩ := Zpz s1 e2
  refine ⟨vo, ho, δ2, Hs1, M1, p, δ4, g1.re, s1, e4, fun y H2 Hs2 m2 M2 g2 st2 r2 s2 => ?_⟩
  obtain ⟨G2, S2, k2⟩ := ZA g g1 st1 g2 st2
  have r1' := r1.frame st2.grow k2
  obtain ⟨Hs3, M3, g3, st3, v3, s3⟩ := Zcy (B := fun b => m1 b + m2 b) (G2.re fun b => by (try dsimp only); omega) s2 r2 e5
  have r1'' := r1'.frame (H' := H2) st3.grow fun _ _ _ => rfl
  obtain ⟨p1, us, m', n2, e8, n, rl, le, fin⟩ := modL g3 s3 hi
  rw [ho] at e8
  cases e8
  unfold setD at hf
  split at hf
  . split at hf
    . rename_i nn
      simp only [Option.map_eq_some_iff] at hf
      obtain ⟨jj, hj, hf⟩ := hf
      cases hf
      cases v3
      have hl := rl.len
      have hjj : ixN us.length nn = some jj := by rw [hl]; exact hj
      have hlt : jj < ds0.length := by
        unfold ixN' at hj
        split at hj
        . split at hj
          . cases hj; omega
          . cases hj
        . split at hj
          . cases hj; omega
          . cases hj
      obtain ⟨G, S, R, SS⟩ := fin (.lst (us.set jj v)) .lst (us.set jj v) (ds0.set jj d) (fun b => m' b + m1 b) (fun _ => 0) .non (.sc .non) (fun b => by (try dsimp only); omega) ZB (rl.set (List.getElem?_eq_getElem hlt) r1'') (.sc _ _)
      have S2' : Stp H Hs M H2 Hs2 (fun b => m1 b + m2 b + M2 b) := S2.drop (fun b => by omega) G2.le
      have G2' : Good H2 Hs2 (fun b => m1 b + m2 b + M2 b) := G2.re fun b => by omega
      have z3 := ZA (m1 := fun _ => 0) g (G2'.re fun b => by simp) (S2'.drop (fun b => by simp) G2'.le) g3 st3
      have S3 : Stp H Hs M H2 Hs3 (fun b => m1 b + m2 b + M3 b) := z3.2.1.drop (fun b => by simp) z3.1.le
      have z := ZA (m1 := fun _ => 0) g (g3.re fun b => by simp) (S3.drop (fun b => by simp) g3.le) G S
      exact ⟨_, us, nn, jj, rfl, rfl, n, hjj, q σ _ Hs3 _ (Keeps.refl _ _) (G.re fun b => by (try dsimp only); omega) ((z.2.1.drop (fun b => by simp) z.1.le).drop (fun b => by (try dsimp only); omega) G.le) SS⟩
    . cases hf
  . cases hf
end
end T
namespace T
open PySem PySem.Spec L2
structure WalkV (J : It) (vs : List V) (B : Bud) (Pp : Hp -> Hp -> Prop) : Prop where
  stay : ∀ {H Hs H' Hs' : Hp}, Pp H Hs -> Same Hs Hs' -> (∀ b, B b ≥ 1 -> H b ≠ none -> H' b = H b) -> Pp H' Hs'
  go : ∀ {H Hs : Hp} {i : Nat} {v : V}, Same Hs H -> Pp H Hs -> vs[i]? = some v -> J.go i H
  yld : ∀ {H Hs H' : Hp} {i : Nat} {x v : V}, Same Hs H -> Pp H Hs -> vs[i]? = some v -> J.yld i H x H' -> H' = H /\ x = v
  stop : ∀ {H Hs : Hp} {i : Nat}, Same Hs H -> Pp H Hs -> vs.length <= i -> J.stop i H
def Grow (H Hs H' Hs' : Hp) : Prop := (H' = H /\ Hs' = Hs) \/ ∃ A o, H A = none /\ H' = upd H A o /\ Hs' = upd Hs A o
theorem Grow.same {H Hs H' Hs' : Hp} (w : Grow H Hs H' Hs') (g : Same Hs H) : Same Hs Hs' /\ (∀ b, H b ≠ none -> H' b = H b) /\ Same Hs' H' := by
  rcases w with ⟨rfl, rfl⟩ | ⟨A, o, h, rfl, rfl⟩
  . exact ⟨Same.refl _, fun _ _ => rfl, g⟩
  . have hs : Hs A = none := by
      cases q : Hs A with
      | none => rfl
      | some u => rw [g A u q] at h; cases h
    have ne : ∀ b u, Hs b = some u -> b ≠ A := fun b u e z => by subst z; rw [hs] at e; cases e
    refine ⟨fun b u e => ?_, fun b n => ZC fun z => n (by rw [z]; exact h), fun b u e => ?_⟩
    . rw [ZC (ne b u e)]; exact e
    . by_cases z : b = A
      . subst z; rw [ZB] at e ⊢; exact e
      . rw [ZC z] at e ⊢; exact g b u e
theorem Grow.good {H Hs H' Hs' : Hp} {M : Bud} (w : Grow H Hs H' Hs') (g : Good H Hs M) : Good H' Hs' M := by
  obtain ⟨s1, s2, s3⟩ := w.same g.sub
  refine ⟨s3, g.le, fun b h => ?_, fun b h => ?_⟩
  . rcases w with ⟨rfl, rfl⟩ | ⟨A, o, n, rfl, rfl⟩
    . exact g.ne b h
    . rw [ZC fun z => g.has b h (by rw [z]; exact n)]; exact g.ne b h
  . rw [s2 b (g.has b h)]; exact g.has b h
theorem Grow.stp {H Hs H' Hs' H0 Hs0 : Hp} {M M0 : Bud} (w : Grow H Hs H' Hs') (g : Good H Hs M) (t : Stp H0 Hs0 M0 H Hs M) : Stp H0 Hs0 M0 H' Hs' M := by
  obtain ⟨s1, s2, s3⟩ := w.same g.sub
  refine ⟨fun b o e z => ?_, t.own, t.grow.trans s1, fun b n n' => ?_, fun b n => ?_⟩
  . have e1 := t.keep b o e z
    rw [s2 b (by rw [e1]; simp)]; exact e1
  . by_cases q : Hs b = none
    . rcases w with ⟨rfl, rfl⟩ | ⟨A, o, h, rfl, rfl⟩
      . exact absurd q n'
      . by_cases z : b = A
        . subst z
          cases y : H0 b with
          | none => exact .inr rfl
          | some u => exact absurd h (t.stay b (by rw [y]; simp))
        . rw [ZC z] at n'; exact absurd q n'
    . exact t.shr b n q
  . have := t.stay b n
    rw [s2 b this]; exact this
structure Walk (K : Fg) (J : It) (items : List D) (B : Bud) (Pp : Hp -> Hp -> Prop) : Prop where
  stay : ∀ {H Hs H' Hs' : Hp}, Pp H Hs -> Same Hs Hs' -> (∀ b, B b ≥ 1 -> H b ≠ none -> H' b = H b) -> Pp H' Hs'
  go : ∀ {H Hs : Hp} {i : Nat}, Same Hs H -> Pp H Hs -> i < items.length -> J.go i H
  yld : ∀ {H Hs H' : Hp} {i : Nat} {x : V} {d : D}, Same Hs H -> Pp H Hs -> items[i]? = some d -> J.yld i H x H' -> ∃ Hs', Grow H Hs H' Hs' /\ Rep K H' Hs' x d (fun _ => 0)
  stop : ∀ {H Hs : Hp} {i : Nat}, Same Hs H -> Pp H Hs -> items.length <= i -> J.stop i H
theorem WalkV.w {K : Fg} {J : It} {vs : List V} {items : List D} {B : Bud} {Pp : Hp -> Hp -> Prop} (w : WalkV J vs B Pp) : Walk K J items B (fun H Hs => Pp H Hs /\ RepL K H Hs vs items (fun _ => 0)) where
  stay := fun h g k => ⟨w.stay h.1 g k, h.2.frame g fun b hb => absurd hb (by simp)⟩
  go := fun {H Hs i} g h l => by
    have e := h.2.len
    exact w.go g h.1 (List.getElem?_eq_getElem (show i < vs.length by omega))
  yld := fun {H Hs H' i x d} g h e y => by
    obtain ⟨v, m1, ev, rv, lv⟩ := h.2.at e
    obtain ⟨rfl, rfl⟩ := w.yld g h.1 ev y
    exact ⟨Hs, .inl ⟨rfl, rfl⟩, rv.mono lv⟩
  stop := fun {H Hs i} g h l => w.stop g h.1 (by have := h.2.len; omega)
def Held (K : Fg) (H Hs : Hp) (σ : St) : List (Nat × D) -> Bud -> Prop
  | [], _ => True
  | (i, d) :: r, m => ∃ (v : V) (m1 m2 : Bud), σ[i]? = some (some v) /\ Rep K H Hs v d m1 /\ Held K H Hs σ r m2 /\ ∀ b, m1 b + m2 b <= m b
theorem Held.frame {K : Fg} {H Hs H' Hs' : Hp} {σ : St} (g : Same Hs Hs') : ∀ {hs : List (Nat × D)} {m : Bud}, (∀ b, m b ≥ 1 -> H b ≠ none -> H' b = H b) -> Held K H Hs σ hs m -> Held K H' Hs' σ hs m
  | [], _, _, h => h
  | (i, d) :: r, m, k, ⟨v, m1, m2, e, x, y, l⟩ => ⟨v, m1, m2, e, x.frame g fun b hb => k b (by have := l b; omega), y.frame g fun b hb => k b (by have := l b; omega), l⟩
theorem Held.keeps {K : Fg} {H Hs : Hp} {σ σ' : St} {lk : Nat -> Bool} (k : Keeps lk σ σ') : ∀ {hs : List (Nat × D)} {m : Bud}, (∀ p ∈ hs, lk p.1 = true) -> Held K H Hs σ hs m -> Held K H Hs σ' hs m
  | [], _, _, h => h
  | (i, d) :: r, m, hl, ⟨v, m1, m2, e, x, y, l⟩ => ⟨v, m1, m2, (k i (hl (i, d) List.mem_cons_self)).trans e, x, y.keeps k fun p hp => hl p (List.mem_cons_of_mem _ hp), l⟩
theorem ZcN {K : Fg} {H Hs : Hp} {σ : St} : ∀ {hs : List (Nat × D)} {m M : Bud} {δ δ' : List D} {u : Unit}, Zax hs δ = .ok (u, δ') -> Held K H Hs σ hs m -> RepS K H Hs σ δ M -> RepS K H Hs σ δ' (fun b => m b + M b)
  | [], m, M, δ, δ', u, e, h, s => by
    have := Zl e
    cases this
    exact s.mono fun b => by omega
  | (i, d) :: r, m, M, δ, δ', u, e, ⟨v, m1, m2, e1, x, y, l⟩, s => by
    have hi : i < δ.length := by
      have := s.length
      have := (List.getElem?_eq_some_iff.mp e1).1
      omega
    have z := ZdT s hi x
    rw [ZaY e1] at z
    exact (ZcN (show Zax r (δ.set i d) = _ from e) y z).mono fun b => by have := l b; (try dsimp only); omega
noncomputable def tI (K : Fg) (ik : IK) (cs : M (List Op)) : TI := fun σ H R => ∃ (δ : List D) (Hs : Hp) (M : Bud) (h : List W × List (Nat × D)) (items : List D) (δ' : List D), Good H Hs M /\ RepS K H Hs σ δ M /\ (cs.bnd ZJ) δ = .ok (h, δ') /\ itW ik h.1 = some items /\
  ∀ (J : It) (Pp : Hp -> Hp -> Prop) (H' Hs' : Hp) (B M' : Bud), Good H' Hs' (fun b => B b + M' b) -> Stp H Hs M H' Hs' (fun b => B b + M' b) -> RepS K H' Hs' σ δ' M' -> Held K H' Hs' σ h.2 B -> Walk K J items B Pp -> Pp H' Hs' -> R J H'
theorem PI.imp {X : Cx} {tg it : Expr} {w w' : TI} (h : PI X tg it w) (q : ∀ σ H R, w' σ H R -> w σ H R) : PI X tg it w' := fun pins s σ H R I z => h pins s σ H R I (q σ H R z)
def HW (K : Fg) (H Hs : Hp) (B : Bud) (v : V) : W -> Prop
  | .sc u => v = u
  | .nd k ds => ∃ a vs, v = .ref a /\ RepL K H Hs vs ds (fun _ => 0) /\ (ZgN K Hs a vs k \/ (Zdl K H a vs k /\ B a ≥ 1))
theorem ZgA {K : Fg} {H Hs : Hp} {σ : St} {δ δ' : List D} {m M : Bud} {p : Op} {v : V} {w : W × Option (Nat × D)} (g : Good H Hs (fun b => m b + M b)) (s : RepS K H Hs σ δ M) (r : RepP K H Hs σ v p m) (e : holdV p δ = .ok (w, δ')) :
    ∃ Hs' B M', Good H Hs' (fun b => B b + M' b) /\ Stp H Hs (fun b => m b + M b) H Hs' (fun b => B b + M' b) /\ RepS K H Hs' σ δ' M' /\ Held K H Hs' σ w.2.toList B /\ HW K H Hs' B v w.1 := by
  have dropM : ∀ {Hs' : Hp} {M' : Bud}, Good H Hs' M' -> Good H Hs' (fun b => (fun _ => 0) b + M' b) := fun g => g.re fun b => by simp
  cases p with
  | tmp d =>
    cases d with
    | hole => cases e
    | sc u =>
      have := Zl e
      cases this
      cases r
      exact ⟨Hs, fun _ => 0, M, g.re fun b => by simp, (Stp.refl H Hs _).drop (fun b => by simp) g.le, s, trivial, rfl⟩
    | node k o ds =>
      have := Zl e
      cases this
      have hsame := ZeY g (m := m) fun b => by omega
      have r2 := Rep.share hsame (Zhh (H := H) (Hs := Hs) (m := m)) r
      refine ⟨shH H Hs m, fun _ => 0, M, dropM g.share, (Stp.share g).drop (fun b => by simp) g.share.le, s.frame hsame fun _ _ _ => rfl, trivial, ?_⟩
      simp only [shr] at r2
      cases r2 with
      | shd n r3 => exact ⟨_, _, rfl, r3, .inl n⟩
  | late i =>
    have r : σ[i]? = some (some v) := r
    unfold holdV at e
    dsimp only at e
    split at e
    . rename_i u hi
      cases e
      obtain ⟨v', m1, m2, e1, q, l, f⟩ := s.slot hi (by simp)
      rw [r] at e1
      cases e1
      cases q
      exact ⟨Hs, fun _ => 0, M, g.re fun b => by simp, (Stp.refl H Hs _).drop (fun b => by simp) g.le, s, trivial, rfl⟩
    . rename_i k ds hi
      cases e
      obtain ⟨v', m1, m2, e1, q, l, f⟩ := s.slot hi (by simp)
      rw [r] at e1
      cases e1
      cases q with
      | shd n q => exact ⟨Hs, fun _ => 0, M, g.re fun b => by simp, (Stp.refl H Hs _).drop (fun b => by simp) g.le, s, trivial, _, _, rfl, q, .inl n⟩
    . rename_i k ds hi
      cases e
      obtain ⟨v', m1, m2, e1, q, l, f⟩ := s.slot hi (by simp)
      rw [r] at e1
      cases e1
      cases q with
      | @own a _ vs _ _ m' n q l' =>
        have g2 : Good H Hs (fun b => m' b + (one a b + m2 b)) := g.re fun b => by have := l b; have := l' b; omega
        have hsame := ZeY g2 (m := m') fun b => by omega
        have q2 := RepL.share hsame (Zhh (H := H) (Hs := Hs) (m := m')) q
        have st := Stp.share g2
        have z := f H (shH H Hs m') (some (.ref a)) .hole (fun _ => 0) hsame (fun _ _ _ => rfl) (.inl rfl)
        rw [ZaY r] at z
        refine ⟨shH H Hs m', one a, m2, g2.share, ⟨fun b o h _ => h, fun b h => ?_, st.grow, fun b h h' => ?_, fun b h => h⟩, z.mono fun b => by simp, ⟨_, one a, fun _ => 0, r, .own n q2 fun b => by simp, trivial, fun b => by simp⟩, _, _, rfl, q2, .inr ⟨n, by simp [one]⟩⟩
        . have h : one a b + m2 b = 1 := h
          have l0 : m b + M b <= 1 := g.le b
          have := l b
          have := l' b
          left
          show m b + M b = 1
          omega
        . rcases st.shr b h h' with z | z
          . have z : m' b + (one a b + m2 b) = 1 := z
            have l0 : m b + M b <= 1 := g.le b
            have := l b
            have := l' b
            left
            show m b + M b = 1
            omega
          . exact .inr z
    . cases e
theorem Zi7 (lo : Int) (n : Nat) (B : Bud) : WalkV (Itr lo n) ((List.range n).map fun (k : Nat) => V.int (lo + k)) B (fun _ _ => True) where
  stay := fun _ _ _ => trivial
  go := fun {H Hs i v} _ _ h => by
    have := (List.getElem?_eq_some_iff.mp h).1
    simp only [List.length_map, List.length_range] at this
    exact this
  yld := fun {H Hs H' i x v} _ _ h y => by
    obtain ⟨e, y⟩ := y
    have := (List.getElem?_eq_some_iff.mp h).1
    simp only [List.length_map, List.length_range] at this
    rw [List.getElem?_map, List.getElem?_range this] at h
    simp only [Option.map_some, Option.some.injEq] at h
    exact ⟨e, y.trans h⟩
  stop := fun {H Hs i} _ _ h => by
    simp only [List.length_map, List.length_range] at h
    exact h
theorem ZjE {K : Fg} {a : Addr} {vs : List V} {B : Bud} : WalkV (Itl K a) vs B (fun H Hs => SqL K Hs a vs \/ (H a = some (.lst vs) /\ B a ≥ 1)) := by
  have sq : ∀ {H Hs : Hp}, Same Hs H -> (SqL K Hs a vs \/ (H a = some (.lst vs) /\ B a ≥ 1)) -> SqL K H a vs := fun g h => by
    rcases h with h | h
    . exact g.seq h
    . exact .inl (.inl h.1)
  refine ⟨fun h g k => ?_, fun g h e => ⟨vs, _, sq g h, e⟩, fun g h e y => ?_, fun g h e => ⟨vs, sq g h, e⟩⟩
  . rcases h with h | ⟨h, hb⟩
    . exact .inl (g.seq h)
    . exact .inr ⟨(k a hb (by rw [h]; simp)).trans h, hb⟩
  . obtain ⟨e1, y⟩ := y
    have := y vs (sq g h)
    rw [e] at this
    exact ⟨e1, (Option.some.inj this).symm⟩
theorem Zk1 {K : Fg} {a : Addr} {vs : List V} {B : Bud} : WalkV (Itt K a) vs B (fun H Hs => SqT K Hs a vs \/ (H a = some (.tup vs) /\ B a ≥ 1)) := by
  have sq : ∀ {H Hs : Hp}, Same Hs H -> (SqT K Hs a vs \/ (H a = some (.tup vs) /\ B a ≥ 1)) -> SqT K H a vs := fun g h => by
    rcases h with h | h
    . exact Same.tupq' g h
    . exact .inl (.inl h.1)
  refine ⟨fun h g k => ?_, fun g h e => ⟨vs, _, sq g h, e⟩, fun g h e y => ?_, fun g h e => ⟨vs, sq g h, e⟩⟩
  . rcases h with h | ⟨h, hb⟩
    . exact .inl (Same.tupq' g h)
    . exact .inr ⟨(k a hb (by rw [h]; simp)).trans h, hb⟩
  . obtain ⟨e1, y⟩ := y
    have := y vs (sq g h)
    rw [e] at this
    exact ⟨e1, (Option.some.inj this).symm⟩
section
variable {X : Cx} {tg a b l : Expr} {ca cb : M Op} {pos p : Pos}
theorem Zmg {c : M Op} {δ δ' : List D} {h : List W × List (Nat × D)} (e : ((c.bnd fun p => (M.ret ([] : List Op)).bnd fun ps => M.ret (p :: ps)).bnd ZJ) δ = .ok (h, δ')) : ∃ p δ1 w, c δ = .ok (p, δ1) /\ holdV p δ1 = .ok (w, δ') /\ h = ([w.1], w.2.toList) := by
  obtain ⟨ps, δ1, e1, e2⟩ := Ze e
  obtain ⟨p, δ2, e3, e4⟩ := Ze e1
  obtain ⟨z, δ3, e5, e6⟩ := Ze e4
  have := Zl e5
  cases this
  have := Zl e6
  cases this
  obtain ⟨w, δ4, e7, e8⟩ := Ze e2
  obtain ⟨z, δ5, e9, e10⟩ := Ze e8
  have := Zl e9
  cases this
  have := Zl e10
  cases this
  exact ⟨p, δ1, w, e3, e7, by simp⟩
theorem Zhl {K : Fg} {H Hs : Hp} : ∀ (l : List Int), RepL K H Hs (l.map V.int) (l.map fun i => D.sc (.int i)) (fun _ => 0)
  | [] => .nil _
  | i :: l => .cons (m1 := fun _ => 0) (m2 := fun _ => 0) (.sc _ _) (Zhl l) fun b => by simp
theorem Zl7 {K : Fg} {H Hs : Hp} (lo hi : Int) : RepL K H Hs ((List.range (hi - lo).toNat).map fun (k : Nat) => V.int (lo + k)) (rng lo hi) (fun _ => 0) := by
  have z := Zhl (K := K) (H := H) (Hs := Hs) ((List.range (hi - lo).toNat).map fun (k : Nat) => lo + k)
  rw [List.map_map, List.map_map] at z
  exact z
theorem Zdn (hg : Gl X "range") (hm : X.mg "range" = none) (ha : PE X a (tP X.K ca)) (hs : starEach [a] X.env = [(false, eval a X.env)] := by rfl) :
    PI X tg (.Call (.Name "range" p) [a] [] pos) (tI X.K .rng1 (ca.bnd fun p => (M.ret ([] : List Op)).bnd fun ps => M.ret (p :: ps))) := PI.imp (Zm2 hg hm (ZaG ha ZcL (by rw [hs]; rfl)) hs) fun σ H R h => by
  obtain ⟨δ, Hs, M, h, items, δ', g, s, e, ei, q⟩ := h
  obtain ⟨p, δ1, w, e1, e2, rfl⟩ := Zmg e
  refine ⟨δ, Hs, M, p, δ1, g, s, e1, fun x H2 Hs2 m1 M2 g2 st2 r1 s2 => ?_⟩
  obtain ⟨Hs3, B, M3, g3, st3, s3, hh, hw⟩ := ZgA g2 s2 r1 e2
  have z := ZA (m1 := fun _ => 0) g (g2.re fun b => by simp) (st2.drop (fun b => by simp) g2.le) g3 st3
  obtain ⟨w1, w2⟩ := w
  replace ei : Zmc _ = _ := ei
  unfold Zmc at ei
  split at ei
  rotate_left
  . cases ei
  rename_i n hx
  cases hx
  split at ei
  . rename_i hok
    cases ei
    obtain rfl := hw
    simp only [okR, Bool.and_eq_true, decide_eq_true_eq] at hok
    have hz : (n - 0).toNat = n.toNat := by omega
    refine ⟨n, rfl, hok.1, hok.2, ?_⟩
    have := Zl7 (K := X.K) (H := H2) (Hs := Hs3) 0 n
    rw [hz] at this
    exact q _ _ H2 Hs3 B M3 g3 (z.2.1.drop (fun b => by simp) z.1.le) s3 hh (Zi7 0 n.toNat B).w ⟨trivial, this⟩
  . cases ei
theorem Zl8 (hg : Gl X "range") (hm : X.mg "range" = none) (ha : PE X a (tP X.K ca)) (hb : PE X b (tP X.K cb)) (hs : starEach [a, b] X.env = [(false, eval a X.env), (false, eval b X.env)] := by rfl) (hs2 : starEach [b] X.env = [(false, eval b X.env)] := by rfl) :
    PI X tg (.Call (.Name "range" p) [a, b] [] pos) (tI X.K .rng2 (ca.bnd fun p => (cb.bnd fun p => (M.ret ([] : List Op)).bnd fun ps => M.ret (p :: ps)).bnd fun ps => M.ret (p :: ps))) := PI.imp (Zm3 hg hm (ZaG ha (ZaG hb ZcL (by rw [hs2]; rfl)) (by rw [hs, hs2])) hs hs2) fun σ H R h => by
  obtain ⟨δ, Hs, M, h, items, δ', g, s, e, ei, q⟩ := h
  obtain ⟨ps, δ1, e1, e2⟩ := Ze e
  obtain ⟨p1, δ2, e3, e4⟩ := Ze e1
  obtain ⟨qs, δ3, e5, e6⟩ := Ze e4
  obtain ⟨p2, δ4, e7, e8⟩ := Ze e5
  obtain ⟨z, δ5, e9, e10⟩ := Ze e8
  have := Zl e9
  cases this
  have := Zl e10
  cases this
  have := Zl e6
  cases this
  obtain ⟨w1, δ6, e11, e12⟩ := Ze e2
  obtain ⟨ws, δ7, e13, e14⟩ := Ze e12
  obtain ⟨w2, δ8, e15, e16⟩ := Ze e13
  obtain ⟨z, δ9, e17, e18⟩ := Ze e16
  have := Zl e17
  cases this
  have := Zl e18
  cases this
  have := Zl e14
  cases this
  obtain ⟨w1, h1⟩ := w1
  obtain ⟨w2, h2⟩ := w2
  replace ei : Zmd _ = _ := ei
  unfold Zmd at ei
  split at ei
  rotate_left
  . cases ei
  rename_i lo hi hx
  cases hx
  split at ei
  . rename_i hok
    cases ei
    simp only [okR, Bool.and_eq_true, decide_eq_true_eq] at hok
    refine ⟨δ, Hs, M, p1, δ2, g, s, e3, fun x H1 Hs1 m1 M1 g1 st1 r1 s1 => ⟨δ2, Hs1, M1, p2, _, g1.re, s1, e7, fun y H2 Hs2 m2 M2 g2 st2 r2 s2 => ?_⟩⟩
    obtain ⟨G2, S2, k2⟩ := ZA g g1 st1 g2 st2
    have r1' := RepP.frame st2.grow k2 r1
    have r2b : RepP X.K H2 Hs2 σ x p1 (fun b => m1 b + m2 b) := by
      cases p1 with
      | late i => exact r1'
      | tmp d => exact Rep.mono r1' fun b => by omega
    obtain ⟨Hs3, B3, M3, g3, st3, s3, hh3, hw3⟩ := ZgA (m := fun b => m1 b + m2 b) (G2.re fun b => by (try dsimp only); omega) s2 r2b e11
    obtain rfl := hw3
    have r2' : RepP X.K H2 Hs3 σ y p2 (fun _ => 0) := by
      cases p2 with
      | late i => exact r2
      | tmp d =>
        cases d with
        | sc u => cases r2; exact .sc _ _
        | hole => cases e15
        | node k o ds => cases e15
    have nh1 : h1 = none := by
      cases p1 with
      | tmp d => cases d with
        | sc u => cases e11; rfl
        | hole => cases e11
        | node k o ds => cases e11
      | late i =>
        unfold holdV at e11
        dsimp only at e11
        split at e11 <;> cases e11
        rfl
    have nh2 : h2 = none := by
      cases p2 with
      | tmp d => cases d with
        | sc u => cases e15; rfl
        | hole => cases e15
        | node k o ds => cases e15
      | late i =>
        unfold holdV at e15
        dsimp only at e15
        split at e15 <;> cases e15
        rfl
    subst nh1 nh2
    obtain ⟨Hs4, B4, M4, g4, st4, s4, hh4, hw4⟩ := ZgA (m := fun _ => 0) (g3.re fun b => by simp) s3 r2' e15
    obtain rfl := hw4
    have S2' : Stp H Hs M H2 Hs2 (fun b => m1 b + m2 b + M2 b) := S2.drop (fun b => by omega) G2.le
    have G2' : Good H2 Hs2 (fun b => m1 b + m2 b + M2 b) := G2.re fun b => by omega
    have z3 := ZA (m1 := fun _ => 0) g (G2'.re fun b => by simp) (S2'.drop (fun b => by simp) G2'.le) g3 st3
    have S3 : Stp H Hs M H2 Hs3 (fun b => B3 b + M3 b) := z3.2.1.drop (fun b => by simp) z3.1.le
    have st4' : Stp H2 Hs3 (fun b => B3 b + M3 b) H2 Hs4 (fun b => B4 b + M4 b) := ⟨fun b o h _ => h, fun b h => by
        rcases st4.own b h with z | z
        . have z : 0 + M3 b = 1 := z
          have : B3 b + M3 b <= 1 := g3.le b
          left; show B3 b + M3 b = 1; omega
        . exact .inr z, st4.grow, fun b h h' => by
        rcases st4.shr b h h' with z | z
        . have z : 0 + M3 b = 1 := z
          have : B3 b + M3 b <= 1 := g3.le b
          left; show B3 b + M3 b = 1; omega
        . exact .inr z, fun b h => h⟩
    have z4 := ZA (m1 := fun _ => 0) g (g3.re fun b => by simp) (S3.drop (fun b => by simp) g3.le) g4 st4'
    exact ⟨lo, hi, rfl, ⟨hok.1.1, hok.1.2, hok.2.1, hok.2.2⟩, q _ _ H2 Hs4 B4 M4 g4 (z4.2.1.drop (fun b => by simp) z4.1.le) s4 trivial (Zi7 lo _ B4).w ⟨trivial, Zl7 lo hi⟩⟩
  . cases ei
theorem Zi8 {K : Fg} {H Hs : Hp} : ∀ (l : List Nat), RepL K H Hs (l.map fun c => V.str ⟨#[c]⟩) (l.map fun c => D.sc (.str ⟨#[c]⟩)) (fun _ => 0)
  | [] => .nil _
  | i :: l => .cons (m1 := fun _ => 0) (m2 := fun _ => 0) (.sc _ _) (Zi8 l) fun b => by simp
theorem ZnN (x : Str) (B : Bud) : WalkV (Its x) (x.cps.toList.map fun c => V.str ⟨#[c]⟩) B (fun _ _ => True) where
  stay := fun _ _ _ => trivial
  go := fun {H Hs i v} _ _ h => by
    have := (List.getElem?_eq_some_iff.mp h).1
    have : i < x.cps.size := by simpa using this
    exact this
  yld := fun {H Hs H' i y v} _ _ h z => by
    obtain ⟨e, c, h1, h2⟩ := z
    refine ⟨e, ?_⟩
    rw [List.getElem?_map, Array.getElem?_toList, h1] at h
    simp only [Option.map_some, Option.some.injEq] at h
    exact h2.trans h
  stop := fun {H Hs i} _ _ h => by
    have h : x.cps.size <= i := by simpa using h
    exact h
theorem Zhm (hl : PE X l (tP X.K ca)) : PI X tg l (tI X.K .val (ca.bnd fun p => (M.ret ([] : List Op)).bnd fun ps => M.ret (p :: ps))) := by
  intro pins st0 σ H R I hh0
  obtain ⟨δ, Hs, M, h, items, δ', g, s, e, ei, q⟩ := hh0
  obtain ⟨p, δ1, w, e1, e2, rfl⟩ := Zmg e
  obtain ⟨w1, w2⟩ := w
  have core : ∀ (x : V) (H2 Hs2 : Hp) (m1 M2 : Bud), Good H2 Hs2 (fun b => m1 b + M2 b) -> Stp H Hs M H2 Hs2 (fun b => m1 b + M2 b) -> RepP X.K H2 Hs2 σ x p m1 -> RepS X.K H2 Hs2 σ δ1 M2 ->
      ∃ Hs3 B M3, Good H2 Hs3 (fun b => B b + M3 b) /\ Stp H Hs M H2 Hs3 (fun b => B b + M3 b) /\ RepS X.K H2 Hs3 σ δ' M3 /\ Held X.K H2 Hs3 σ w2.toList B /\ HW X.K H2 Hs3 B x w1 := fun x H2 Hs2 m1 M2 g2 st2 r1 s2 => by
    obtain ⟨Hs3, B, M3, g3, st3, s3, hh, hw⟩ := ZgA g2 s2 r1 e2
    have z := ZA (m1 := fun _ => 0) g (g2.re fun b => by simp) (st2.drop (fun b => by simp) g2.le) g3 st3
    exact ⟨Hs3, B, M3, g3, z.2.1.drop (fun b => by simp) z.1.le, s3, hh, hw⟩
  cases w1 with
  | sc u =>
    cases u with
    | str z =>
      cases ei
      refine ZqT hl pins st0 σ H R I ⟨δ, Hs, M, p, δ1, g, s, e1, fun x H2 Hs2 m1 M2 g2 st2 r1 s2 => ?_⟩
      obtain ⟨Hs3, B, M3, g3, st3, s3, hh, hw⟩ := core x H2 Hs2 m1 M2 g2 st2 r1 s2
      exact ⟨z, hw, q _ _ H2 Hs3 B M3 g3 st3 s3 hh (ZnN z B).w ⟨trivial, Zi8 _⟩⟩
    | _ => cases ei
  | nd k ds =>
    cases k with
    | lst =>
      cases ei
      refine Zlv hl pins st0 σ H R I ⟨δ, Hs, M, p, δ1, g, s, e1, fun x H2 Hs2 m1 M2 g2 st2 r1 s2 => ?_⟩
      obtain ⟨Hs3, B, M3, g3, st3, s3, hh, a, vs, hx, hr, hn⟩ := core x H2 Hs2 m1 M2 g2 st2 r1 s2
      have hp : SqL X.K Hs3 a vs \/ (H2 a = some (.lst vs) /\ B a ≥ 1) := hn.elim (fun n => .inl (.inl (.inl n))) fun n => .inr n
      refine ⟨a, hx, ⟨vs, ?_⟩, q _ _ H2 Hs3 B M3 g3 st3 s3 hh ZjE.w ⟨hp, hr⟩⟩
      rcases hp with hp | hp
      . exact g3.sub.seq hp
      . exact .inl (.inl hp.1)
    | frl =>
      cases ei
      refine Zlv hl pins st0 σ H R I ⟨δ, Hs, M, p, δ1, g, s, e1, fun x H2 Hs2 m1 M2 g2 st2 r1 s2 => ?_⟩
      obtain ⟨Hs3, B, M3, g3, st3, s3, hh, a, vs, hx, hr, hn⟩ := core x H2 Hs2 m1 M2 g2 st2 r1 s2
      have hp : SqL X.K Hs3 a vs \/ (H2 a = some (.lst vs) /\ B a ≥ 1) := hn.elim (fun n => .inl n) fun n => n.1.elim
      refine ⟨a, hx, ⟨vs, ?_⟩, q _ _ H2 Hs3 B M3 g3 st3 s3 hh ZjE.w ⟨hp, hr⟩⟩
      rcases hp with hp | hp
      . exact g3.sub.seq hp
      . exact .inl (.inl hp.1)
    | tup =>
      cases ei
      refine Zm1 hl pins st0 σ H R I ⟨δ, Hs, M, p, δ1, g, s, e1, fun x H2 Hs2 m1 M2 g2 st2 r1 s2 => ?_⟩
      obtain ⟨Hs3, B, M3, g3, st3, s3, hh, a, vs, hx, hr, hn⟩ := core x H2 Hs2 m1 M2 g2 st2 r1 s2
      have hp : SqT X.K Hs3 a vs \/ (H2 a = some (.tup vs) /\ B a ≥ 1) := hn.elim (fun n => .inl (.inl (.inl n))) fun n => .inr n
      refine ⟨a, hx, ⟨vs, ?_⟩, q _ _ H2 Hs3 B M3 g3 st3 s3 hh Zk1.w ⟨hp, hr⟩⟩
      rcases hp with hp | hp
      . exact Same.tupq' g3.sub hp
      . exact .inl (.inl hp.1)
    | ftp =>
      cases ei
      refine Zm1 hl pins st0 σ H R I ⟨δ, Hs, M, p, δ1, g, s, e1, fun x H2 Hs2 m1 M2 g2 st2 r1 s2 => ?_⟩
      obtain ⟨Hs3, B, M3, g3, st3, s3, hh, a, vs, hx, hr, hn⟩ := core x H2 Hs2 m1 M2 g2 st2 r1 s2
      have hp : SqT X.K Hs3 a vs \/ (H2 a = some (.tup vs) /\ B a ≥ 1) := hn.elim (fun n => .inl n) fun n => n.1.elim
      refine ⟨a, hx, ⟨vs, ?_⟩, q _ _ H2 Hs3 B M3 g3 st3 s3 hh Zk1.w ⟨hp, hr⟩⟩
      rcases hp with hp | hp
      . exact Same.tupq' g3.sub hp
      . exact .inl (.inl hp.1)
    | dic ks => cases ei
    | ins C fs => cases ei
    | exc ns fr fs => cases ei
end
end T
namespace T
open PySem PySem.Spec L2
noncomputable def gT (K : Fg) : Tg -> TG
  | .name i => Zgp i
  | .tup is => gSeq K is.length (gNs is)
theorem Zjf {K : Fg} {H Hs : Hp} {lk : Nat -> Bool} {tg : Tg} {d : D} {v : V} {σ : St} {δ δ' : List D} {M : Bud} {u : Unit} {Q : St -> Hp -> Prop} (hs : Same Hs H) (e : asgT lk tg d δ = .ok (u, δ')) (r : Rep K H Hs v d (fun _ => 0)) (s : RepS K H Hs σ δ M)
    (q : ∀ σ', Keeps lk σ σ' -> RepS K H Hs σ' δ' M -> Q σ' H) : gT K tg v σ H Q := by
  cases tg with
  | name i =>
    obtain ⟨h1, h2, rfl⟩ := Zg9 e
    exact q _ (ZcM h2) ((ZdT s h1 r).mono fun b => by simp)
  | tup is =>
    cases d with
    | sc v => cases e
    | hole => cases e
    | node k o ds =>
      cases k with
      | tup =>
        have e : ZdI lk is ds δ = .ok (u, δ') := e
        cases r with
        | own n r l =>
          rename_i a _ _
          have := l a
          simp [one] at this
        | shd n r =>
          obtain ⟨hl, hq⟩ := ZhD (Q := Q) e r s fun σ' k z => q σ' k (z.mono fun b => by simp)
          exact ⟨_, _, rfl, .inl (.inl (.inl (hs _ _ n))), hl, hq⟩
      | _ => cases e
theorem Zp0 {a : E} {c : M D} (h : ∀ j, a ≠ .v j) : Zt a c = c.bnd fun d => M.ret (.tmp d) := by
  cases a <;> first | rfl | exact absurd rfl (h _)
theorem ZhY : ∀ {ps : List Op} {δ δ' : List D} {h : List W × List (Nat × D)}, ZJ ps δ = .ok (h, δ') -> ∀ q ∈ h.2, .late q.1 ∈ ps
  | [], δ, δ', h, e, q, hq => by
    have := Zl (show T.M.ret (([] : List W), ([] : List (Nat × D))) δ = .ok (h, δ') from e)
    cases this
    simp at hq
  | p :: ps, δ, δ', h, e, q, hq => by
    obtain ⟨w, δ1, e1, e2⟩ := Ze e
    obtain ⟨ws, δ2, e3, e4⟩ := Ze e2
    have := Zl e4
    cases this
    rcases List.mem_append.mp hq with h | h
    . have : p = .late q.1 := by
        cases p with
        | tmp d => cases d <;> cases e1 <;> simp at h
        | late i =>
          unfold holdV at e1
          dsimp only at e1
          split at e1 <;> cases e1 <;> simp at h
          subst h
          rfl
      rw [this]
      exact List.mem_cons_self
    . exact List.mem_cons_of_mem _ (ZhY e3 q h)
def HWs (cs : M (List Op)) (lk : Nat -> Bool) : Prop := ∀ δ h δ', (cs.bnd ZJ) δ = .ok (h, δ') -> ∀ q ∈ h.2, lk q.1 = true
def LkLe (lk lk' : Nat -> Bool) : Prop := ∀ i, lk i = true -> lk' i = true
theorem ZdL (lk f : Nat -> Bool) : LkLe lk (fun j => lk j || f j) := fun i h => by
  show (lk i || f i) = true
  rw [h]
  rfl
section
variable {X : Cx} {tg iter : Expr} {body : List Stmt} {pos : Pos} {lk lk' : Nat -> Bool} {ik : IK} {cs : M (List Op)} {tgt : Tg} {cb : M Fl}
theorem ZcO (hp : PassesOwn (model X.prog X.w) X.A X.env X.xe) (hc : X.calm = true) (hl : LkLe lk lk') (hw : HWs cs lk')
    (hi : PI X tg iter (tI X.K ik cs)) (hg : PG X tg (gT X.K tgt)) (hb : PSs X body (tS X.K lk' cb)) (hs : ∀ x, foldedSetIterable iter X.env x = pure x := by intro _; rfl) :
    PS X (.For tg iter body [] pos) (tS X.K lk (cs.bnd fun ps => (ZJ ps).bnd fun h => (lift (itW ik h.1)).bnd fun items => (forL (asgT lk' tgt) cb items).bnd fun f => (Zax h.2).bnd fun _ => M.ret f)) :=
  PS.imp (Zq3 hp hc hi hg hb hs) fun E σ H h => by
  obtain ⟨δ, Hs, M, f, δ', g, s, ea, q⟩ := h
  obtain ⟨ps, δ1, e1, eb⟩ := Ze ea
  obtain ⟨hh, δ2, e2, ec⟩ := Ze eb
  obtain ⟨items, δ3, e3, ed⟩ := Ze ec
  obtain ⟨e3', rfl⟩ := ZaH e3
  obtain ⟨f1, δ4, e4, ee⟩ := Ze ed
  obtain ⟨u, δ5, e5, e6⟩ := Ze ee
  have := Zl e6
  cases this
  have e12 : (cs.bnd ZJ) δ = .ok (hh, δ3) := by
    show T.M.bnd cs ZJ δ = _
    unfold T.M.bnd
    rw [e1]
    exact e2
  have locked := hw _ _ _ e12
  refine ⟨δ, Hs, M, hh, items, δ3, g, s, e12, e3', fun J Pp H1 Hs1 B M1 g1 st1 s1 held wk pp => ?_⟩
  have kl : ∀ {σ1 σ2 : St}, Keeps lk' σ1 σ2 -> Keeps lk σ1 σ2 := fun k i h => k i (hl i h)
  refine ⟨fun i m σ2 H2 => m = items.length - i /\ i <= items.length /\ Keeps lk' σ σ2 /\ ∃ (δ2 : List D) (Hs2 : Hp) (M2 : Bud), Good H2 Hs2 (fun b => B b + M2 b) /\ Stp H Hs M H2 Hs2 (fun b => B b + M2 b) /\ RepS X.K H2 Hs2 σ2 δ2 M2 /\ Held X.K H2 Hs2 σ2 hh.2 B /\ Pp H2 Hs2 /\ forL (asgT lk' tgt) cb (items.drop i) δ2 = .ok (f, δ4),
    ⟨items.length, by simp, Nat.zero_le _, Keeps.refl _ _, δ3, Hs1, M1, g1, st1, s1, held, pp, by rw [List.drop_zero]; exact e4⟩, ?_⟩
  rintro i m σ2 H2 ⟨rfl, hle, k2, δ2, Hs2, M2, g2, st2, s2, held2, pp2, e7⟩
  have fin_nx : ∀ {σ3 : St} {H3 Hs3 : Hp} {M3 : Bud}, f = .nx -> Keeps lk' σ σ3 -> Good H3 Hs3 (fun b => B b + M3 b) -> Stp H Hs M H3 Hs3 (fun b => B b + M3 b) -> RepS X.K H3 Hs3 σ3 δ4 M3 -> Held X.K H3 Hs3 σ3 hh.2 B -> E.nx σ3 H3 := fun {σ3 H3 Hs3 M3} ef k3 g3 st3 s3 held3 => by
    subst ef
    exact q σ3 H3 Hs3 _ (kl k3) g3 st3 (ZcN e5 held3 s3)
  by_cases hlt : i < items.length
  . right
    have hd : items[i]? = some (items[i]'(by omega)) := List.getElem?_eq_getElem (by omega)
    have hdrop : items.drop i = items[i]'(by omega) :: items.drop (i + 1) := List.drop_eq_getElem_cons (by omega)
    rw [hdrop] at e7
    obtain ⟨u1, δ5', e8, e9⟩ := Ze e7
    obtain ⟨fl, δ6, e10, e11⟩ := Ze e9
    refine ⟨wk.go g2.sub pp2 hlt, fun σ3 H3 => Keeps lk' σ σ3 /\ ∃ (δ2 : List D) (Hs2 : Hp) (M2 : Bud), Good H3 Hs2 (fun b => B b + M2 b) /\ Stp H Hs M H3 Hs2 (fun b => B b + M2 b) /\ RepS X.K H3 Hs2 σ3 δ2 M2 /\ Held X.K H3 Hs2 σ3 hh.2 B /\ Pp H3 Hs2 /\ forL (asgT lk' tgt) cb (items.drop (i + 1)) δ2 = .ok (f, δ4),
      fun σ3 H3 ⟨k3, z⟩ => ⟨items.length - (i + 1), by omega, rfl, hlt, k3, z⟩, fun x H' y => ?_⟩
    obtain ⟨Hs3, gr, rv⟩ := wk.yld g2.sub pp2 hd y
    obtain ⟨sm, fr, _⟩ := gr.same g2.sub
    have pp2 := wk.stay pp2 sm fun b _ n => fr b n
    have s2 := RepS.frame sm (fun b _ n => fr b n) s2
    have held2 := held2.frame sm fun b _ n => fr b n
    have st2 := gr.stp g2 st2
    have g2 := gr.good g2
    clear gr sm fr y
    generalize Hs3 = Hs2 at *
    refine Zjf (Hs := Hs2) g2.sub e8 rv s2 fun σ3 k3 s3 => ?_
    refine ⟨δ5', Hs2, M2, fl, δ6, g2.re, s3, e10, ?_⟩
    have held3 : Held X.K H' Hs2 σ3 hh.2 B := held2.keeps k3 locked
    have nxt : ∀ {σ4 : St} {H4 Hs4 : Hp} {M4 : Bud}, Keeps lk' σ3 σ4 -> Good H4 Hs4 M4 -> Stp H' Hs2 M2 H4 Hs4 M4 ->
        Keeps lk' σ σ4 /\ Good H4 Hs4 (fun b => B b + M4 b) /\ Stp H Hs M H4 Hs4 (fun b => B b + M4 b) /\ Held X.K H4 Hs4 σ4 hh.2 B /\ Pp H4 Hs4 := fun {σ4 H4 Hs4 M4} k4 g4 st4 => by
      obtain ⟨G, S, kk⟩ := ZA g g2 st2 g4 st4
      exact ⟨k2.trans (k3.trans k4), G, S, (held3.keeps k4 locked).frame st4.grow kk, wk.stay pp2 st4.grow kk⟩
    cases fl with
    | nx =>
      refine fun σ4 H4 Hs4 M4 k4 g4 st4 s4 => ?_
      obtain ⟨a1, a2, a3, a4, a6⟩ := nxt k4 g4 st4
      exact ⟨a1, δ6, Hs4, M4, a2, a3, s4, a4, a6, e11⟩
    | ct =>
      refine fun σ4 H4 Hs4 M4 k4 g4 st4 s4 => ?_
      obtain ⟨a1, a2, a3, a4, a6⟩ := nxt k4 g4 st4
      exact ⟨a1, δ6, Hs4, M4, a2, a3, s4, a4, a6, e11⟩
    | bk =>
      refine fun σ4 H4 Hs4 M4 k4 g4 st4 s4 => ?_
      obtain ⟨a1, a2, a3, a4, a6⟩ := nxt k4 g4 st4
      have := Zl e11
      cases this
      exact fin_nx rfl a1 a2 a3 s4 a4
    | rt d =>
      refine fun v σ4 H4 Hs4 m4 M4 k4 g4 st4 rd s4 => ?_
      obtain ⟨a1, a2, a3, a4, a6⟩ := nxt k4 g4 st4
      have := Zl e11
      cases this
      exact q v σ4 H4 Hs4 m4 (fun b => B b + M4 b) (kl a1) (a2.re fun b => by (try dsimp only); omega) (a3.drop (fun b => by (try dsimp only); omega) a2.le) rd (ZcN e5 a4 s4)
  . left
    have e0 : items.drop i = [] := List.drop_of_length_le (by omega)
    rw [e0] at e7
    have := Zl e7
    cases this
    exact ⟨wk.stop g2.sub pp2 (by omega), fin_nx rfl k2 g2 st2 s2 held2⟩
end
theorem RepS.toL {K : Fg} {H Hs : Hp} : ∀ {vs : List V} {ds : List D} {m : Bud}, RepS K H Hs (vs.map some) ds m -> RepL K H Hs vs ds m
  | [], _, _, h => by cases h; exact .nil _
  | v :: vs, _, _, h => by
    cases h with
    | cons x y l =>
      refine .cons ?_ (RepS.toL y) l
      rcases x with rfl | ⟨w, e, r⟩
      . exact .hole _ _
      . cases e
        exact r
end T
namespace T
open PySem PySem.Spec L2
section
variable {P : Program} {w : World} {K : Fg} {mg : Str -> Option Value} {base : Heap}
theorem Zi9 {N : List Str} {vs : List V} {σ' : St} {n : Nat} (hn : vs.length = n) (k : Keeps (fun i => decide (i < n)) (L2.start N vs) σ') : σ'.take n = vs.map some := by
  apply List.ext_getElem?
  intro i
  by_cases hi : i < n
  . rw [List.getElem?_take_of_lt hi, k i (by simpa using hi)]
    unfold L2.start
    rw [List.getElem?_append_left (by rw [List.length_map]; omega)]
  . rw [List.getElem?_eq_none (by rw [List.length_take]; omega), List.getElem?_eq_none (by rw [List.length_map]; omega)]
theorem ZjF {N : List Str} {vs : List V} {ds : List D} {H Hs : Hp} {m : Bud} (r : RepL K H Hs vs ds m) : RepS K H Hs (L2.start N vs) (ds ++ List.replicate (N.length - ds.length) .hole) m := by
  unfold L2.start
  rw [r.len]
  have z := Sep.append (RepL.slots r) (holes (K := K) (H := H) (Hs := Hs) (fun _ => none) (N.length - ds.length) (fun _ => 0) (List.replicate (N.length - ds.length) none) (by simp))
  exact z.mono fun b => by simp
theorem Zrk {x qual : Str} {st : Stmt} {f : Addr} {fd : FuncData} {N ps : List Str} {k : Nat} {C : Ctx} {body : List S} (F : Fun K x qual st f fd) (Sc : FnScope N ps (Za st))
    (hb : ∀ (cdv : Value) (A : Around) (outer : List Env) (s : Shared) (H : Hp) (E : XK), Room k (A.deeper (PyProof.Rows.envOfC qual (Za st) s.heap.objs.size f cdv)) ->
      PSs (cxOf CX0 P w K mg base N qual (Za st) f cdv A outer s H E).nox (Z1 st) (tS K (fun i => decide (i < ps.length)) (exs { C with lock := fun i => decide (i < ps.length) } body))) :
    FnOk P w K mg base CX0 (k + 1) f fd ps (spF K (Zi C ps.length N.length body)) := by
  refine F.ok Sc (fun vs H Q E h => ?_) (fun cdv A outer s H vs Q E hr h => ⟨_, hb cdv A outer s H E hr, ?_⟩)
  . obtain ⟨ds, Hs, m, d, ds', g, r, e, q⟩ := h
    unfold Zi at e
    split at e
    . rename_i hl
      rw [r.len]
      exact hl
    . cases e
  . obtain ⟨ds, Hs, m, d, ds', g, r, e, q⟩ := h
    unfold Zi at e
    split at e
    . rename_i hl
      have hv : vs.length = ps.length := by rw [r.len]; exact hl
      have hr0 := ZjF (N := N) r
      rw [hl] at hr0
      cases he : exs { C with lock := fun i => decide (i < ps.length) } body (ds ++ List.replicate (N.length - ps.length) .hole) with
      | ok z =>
        obtain ⟨fl, δ'⟩ := z
        rw [he] at e
        refine ⟨_, Hs, m, fl, δ', g, hr0, he, ?_⟩
        have back : ∀ {σ' : St} {H' Hs' : Hp} {M' : Bud}, Keeps (fun i => decide (i < ps.length)) (L2.start N vs) σ' -> RepS K H' Hs' σ' δ' M' -> RepL K H' Hs' vs (δ'.take ps.length) M' := fun k' s' => by
          have z := s'.take ps.length
          rw [Zi9 hv k'] at z
          exact RepS.toL z
        cases fl with
        | nx =>
          cases e
          exact fun σ' H' Hs' M' k' g' st' s' => q .non H' Hs' (fun _ => 0) M' (ZdK g') (st'.drop (fun b => by simp) g'.le) (.sc _ _) (back k' s')
        | rt dd =>
          cases e
          exact fun v σ' H' Hs' m1 M' k' g' st' rv s' => q v H' Hs' m1 M' g' st' rv (back k' s')
        | bk => cases e
        | ct => cases e
      | exc x y => rw [he] at e; cases e
      | stuck => rw [he] at e; cases e
    . cases e
theorem Zac {x qual : Str} {st : Stmt} {f : Addr} {fd : FuncData} {N ps : List Str} {k n nN : Nat} {C : Ctx} {body : List S} (F : Fun K x qual st f fd) (Sc : FnScope N ps (Za st)) (hn : ps.length = n) (hN : N.length = nN)
    (hb : ∀ (cdv : Value) (A : Around) (outer : List Env) (s : Shared) (H : Hp) (E : XK), Room k (A.deeper (PyProof.Rows.envOfC qual (Za st) s.heap.objs.size f cdv)) ->
      PSs (cxOf CX0 P w K mg base N qual (Za st) f cdv A outer s H E).nox (Z1 st) (tS K (fun i => decide (i < n)) (exs { C with lock := fun i => decide (i < n) } body))) :
    FnOk P w K mg base CX0 (k + 1) f fd ps (spF K (Zi C n nN body)) := by
  subst hn hN
  exact Zrk F Sc hb
end
end T
namespace T
open PySem PySem.Spec L2
theorem ZiA {K : Fg} {H Hs : Hp} {σ : St} : ∀ {js : List Nat} {δ δ' : List D} {caps : List D} {M : Bud}, ZeX js δ = .ok (caps, δ') -> RepS K H Hs σ δ M -> ∃ mc M', RepS K H Hs (Zeq js σ) caps mc /\ RepS K H Hs σ δ' M' /\ (∀ b, mc b + M' b <= M b) /\ ∀ j ∈ js, j < σ.length
  | [], δ, δ', caps, M, e, s => by
    have := Zl e
    cases this
    exact ⟨fun _ => 0, M, .nil _, s, fun b => by simp, fun j hj => by simp at hj⟩
  | j :: js, δ, δ', caps, M, e, s => by
    unfold ZeX at e
    split at e
    . rename_i d hd
      obtain ⟨ds, δ1, e1, e2⟩ := Ze e
      have := Zl e2
      cases this
      obtain ⟨o, m1, m2, q1, q2, l, f⟩ := s.focus hd
      have z := f (RepO K H Hs) o .hole (fun _ => 0) (fun a d m' _ q => q) (.inl rfl)
      rw [ZaY q1] at z
      obtain ⟨mc, M', h1, h2, h3, h4⟩ := ZiA e1 z
      refine ⟨fun b => m1 b + mc b, M', ?_, h2, fun b => by have := l b; have := h3 b; dsimp only at *; omega, fun i hi => ?_⟩
      . rw [ZhX]
        have ho : (σ[j]?).join = o := by rw [q1]; rfl
        rw [ho]
        exact .cons q2 h1 fun b => Nat.le_refl _
      . rcases List.mem_cons.mp hi with rfl | hi
        . exact (List.getElem?_eq_some_iff.mp q1).1
        . exact h4 i hi
    . cases e
theorem Zcz (caps : List D) : Zdm [] caps = M.ret () := by cases caps <;> rfl
theorem Zk2 (j : Nat) (js : List Nat) (d : D) (ds δ : List D) : Zdm (j :: js) (d :: ds) δ = Zdm js ds (δ.set j d) := rfl
theorem Zmh {K : Fg} {H Hs : Hp} {σ : St} (js : List Nat) : ∀ (caps δ δ' : List D) (mc M : Bud) (u : Unit), (∀ j ∈ js, j < σ.length) -> Zdm js caps δ = .ok (u, δ') -> RepS K H Hs (Zeq js σ) caps mc -> RepS K H Hs σ δ M -> RepS K H Hs σ δ' (fun b => mc b + M b) := by
  induction js with
  | nil =>
    intro caps δ δ' mc M u hj e c s
    rw [Zcz] at e
    have := Zl e
    cases this
    exact s.mono fun b => by omega
  | cons j js ih =>
    intro caps δ δ' mc M u hj e c s
    rw [ZhX] at c
    cases c with
    | @cons _ d _ ds m1 m2 _ x y l =>
      rw [Zk2] at e
      have hlt := hj j List.mem_cons_self
      have hlt2 : j < δ.length := by rw [<- s.length]; exact hlt
      obtain ⟨o, n1, n2, q1, q2, l2, f⟩ := s.focus (List.getElem?_eq_getElem hlt2)
      have ho : (σ[j]?).join = o := by rw [q1]; rfl
      rw [ho] at x
      have z := f (RepO K H Hs) o d m1 (fun a d m' _ q => q) x
      rw [ZaY q1] at z
      have fin := ih ds (δ.set j d) δ' m2 _ u (fun i hi => hj i (List.mem_cons_of_mem _ hi)) e y z
      exact fin.mono fun b => by have := l b; have := l2 b; (try dsimp only); omega
theorem ZnO {H Hs H0 Hs0 : Hp} {M0 N : Bud} {A : Addr} {o : HO} (hA0 : H0 A = none) (hA : Hs A = none) (g : Good H Hs (fun b => one A b + N b)) (st : Stp H0 Hs0 M0 H Hs (fun b => one A b + N b)) : Good (upd H A o) Hs (fun b => one A b + N b) /\ Stp H0 Hs0 M0 (upd H A o) Hs (fun b => one A b + N b) /\ ∀ b, N b ≥ 1 -> upd H A o b = H b := by
  have hn : N A = 0 := by have : one A A + N A <= 1 := g.le A; simp [one] at this; omega
  have ne : ∀ b, b ≠ A -> upd H A o b = H b := fun b hb => ZC hb
  refine ⟨⟨fun b u e => ?_, g.le, g.ne, fun b h => ?_⟩, ⟨fun b u e z => ?_, st.own, st.grow, st.shr, fun b h => ?_⟩, fun b hb => ne b fun q => by subst q; omega⟩
  . have hb : b ≠ A := fun q => by subst q; rw [hA] at e; cases e
    rw [ne b hb]
    exact g.sub b u e
  . by_cases hb : b = A
    . subst hb; rw [ZB]; simp
    . rw [ne b hb]; exact g.has b h
  . have hb : b ≠ A := fun q => by subst q; rw [hA0] at e; cases e
    rw [ne b hb]
    exact st.keep b u e z
  . by_cases hb : b = A
    . subst hb; rw [ZB]; simp
    . rw [ne b hb]; exact st.stay b h
theorem Zl9 {K : Fg} {k : Nat} {js : List Nat} {ik : IK} {cs : M (List Op)} {tgt : Tg} {cc : M Bool} {celt : M D} {σ : St} {H : Hp} {Q : VK}
    (h : tM K (cs.bnd fun ps => (ZJ ps).bnd fun h => (lift (itW ik h.1)).bnd fun items => (Zb6 k js (ZaM (asgT (fun i => decide (k <= i)) tgt) cc celt items [])).bnd fun d => (Zax h.2).bnd fun _ => M.ret d) σ H Q) :
    Zke k js (tI K ik cs) (gT K tgt) (tT K cc) (tM K celt) σ H Q := by
  obtain ⟨δ, Hs, M, d, δ', g, s, ea, q⟩ := h
  obtain ⟨ps, δ1, e1, eb⟩ := Ze ea
  obtain ⟨hh, δ2, e2, ec⟩ := Ze eb
  obtain ⟨items, δ3, e3, ed⟩ := Ze ec
  obtain ⟨e3', rfl⟩ := ZaH e3
  obtain ⟨dd, δ4, e4, ee⟩ := Ze ed
  obtain ⟨u, δ5, e5, e6⟩ := Ze ee
  have := Zl e6
  cases this
  have e12 : (cs.bnd ZJ) δ = .ok (hh, δ3) := by
    show T.M.bnd cs ZJ δ = _
    unfold T.M.bnd
    rw [e1]
    exact e2
  refine ⟨δ, Hs, M, hh, items, δ3, g, s, e12, e3', fun J Pp H1 Hs1 B M1 g1 st1 s1 held wk pp A hA => ?_⟩
  unfold Zb6 at e4
  obtain ⟨caps, δ6, e7, e8⟩ := Ze e4
  obtain ⟨mc, M2, c1, c2, c3, c4⟩ := ZiA e7 s1
  have hA0 : H A = none := by
    cases q : H A with
    | none => rfl
    | some o => exact absurd hA (st1.stay A (by rw [q]; simp))
  cases hL : ZaM (asgT (fun i => decide (k <= i)) tgt) cc celt items [] (List.replicate k .hole ++ caps) with
  | exc x y => rw [hL] at e8; cases e8
  | stuck => rw [hL] at e8; cases e8
  | ok r =>
  obtain ⟨accF, δF⟩ := r
  rw [hL] at e8
  obtain ⟨u2, δ7, e9, e10⟩ := Ze e8
  obtain ⟨e11, rfl⟩ := ZaH e10
  have hs1A : Hs1 A = none := by
    cases q : Hs1 A with
    | none => rfl
    | some o => rw [g1.sub A o q] at hA; cases hA
  have zA : B A = 0 /\ M1 A = 0 := by
    have l : B A + M1 A <= 1 := g1.le A
    have : B A + M1 A ≠ 1 := fun e => g1.has A e hA
    omega
  have z2 : mc A = 0 /\ M2 A = 0 := by have := c3 A; omega
  have fr : ∀ b, b ≠ A -> upd H1 A (.lst []) b = H1 b := fun b hb => ZC hb
  have g2 : Good (upd H1 A (.lst [])) Hs1 (fun b => (one A b + (B b + M2 b)) + mc b) := by
    refine ⟨fun b o e => ?_, fun b => ?_, fun b hb => ?_, fun b hb => ?_⟩
    . have hb : b ≠ A := fun q => by subst q; rw [hs1A] at e; cases e
      rw [fr b hb]; exact g1.sub b o e
    . have l : B b + M1 b <= 1 := g1.le b
      have := c3 b
      unfold one
      (try dsimp only)
      split
      . rename_i e; subst e; omega
      . omega
    . by_cases e : b = A
      . subst e; exact hs1A
      . have hb : (one A b + (B b + M2 b)) + mc b = 1 := hb
        simp only [one, if_neg e] at hb
        have l : B b + M1 b <= 1 := g1.le b
        have := c3 b
        exact g1.ne b (by show B b + M1 b = 1; omega)
    . by_cases e : b = A
      . subst e; rw [ZB]; simp
      . rw [fr b e]
        have hb : (one A b + (B b + M2 b)) + mc b = 1 := hb
        simp only [one, if_neg e] at hb
        have l : B b + M1 b <= 1 := g1.le b
        have := c3 b
        exact g1.has b (by show B b + M1 b = 1; omega)
  have st2 : Stp H Hs M (upd H1 A (.lst [])) Hs1 (fun b => (one A b + (B b + M2 b)) + mc b) := by
    refine ⟨fun b o e z => ?_, fun b hb => ?_, st1.grow, st1.shr, fun b hb => ?_⟩
    . have hb : b ≠ A := fun q => by subst q; rw [hA0] at e; cases e
      rw [fr b hb]; exact st1.keep b o e z
    . by_cases e : b = A
      . subst e; exact .inr hA0
      . have hb : (one A b + (B b + M2 b)) + mc b = 1 := hb
        simp only [one, if_neg e] at hb
        have l : B b + M1 b <= 1 := g1.le b
        have := c3 b
        exact st1.own b (by show B b + M1 b = 1; omega)
    . by_cases e : b = A
      . subst e; rw [ZB]; simp
      . rw [fr b e]; exact st1.stay b hb
  have keepA : ∀ (N : Bud), N A = 0 -> ∀ b, N b ≥ 1 -> H1 b ≠ none -> upd H1 A (.lst []) b = H1 b := fun N hN b hb _ => fr b fun q => by subst q; omega
  refine ⟨fun i m σ2 ys H2 => m = items.length - i /\ i <= items.length /\ Keeps (fun i => decide (k <= i)) (Zd1 k js σ) σ2 /\ ∃ (δ2 : List D) (Hs2 : Hp) (N ma : Bud) (acc : List D), Good H2 Hs2 (fun b => (one A b + (B b + M2 b + ma b)) + N b) /\ Stp H Hs M H2 Hs2 (fun b => (one A b + (B b + M2 b + ma b)) + N b) /\ RepS K H2 Hs2 σ2 δ2 N /\
      RepL K H2 Hs2 ys acc ma /\ RepS K H2 Hs2 σ δ6 M2 /\ Held K H2 Hs2 σ hh.2 B /\ Pp H2 Hs2 /\ ZaM (asgT (fun i => decide (k <= i)) tgt) cc celt (items.drop i) acc δ2 = .ok (accF, δF),
    ⟨items.length, by simp, Nat.zero_le _, Keeps.refl _ _, List.replicate k .hole ++ caps, Hs1, mc, fun _ => 0, [], g2.re fun b => by (try dsimp only); omega, st2.drop (fun b => by (try dsimp only); omega) g2.le, ?_, .nil _, c2.frame (Same.refl _) (keepA M2 z2.2), held.frame (Same.refl _) (keepA B zA.1), wk.stay pp (Same.refl _) (keepA B zA.1), by rw [List.drop_zero]; exact hL⟩, ?_⟩
  . have z := Sep.append (holes (K := K) (H := H1) (Hs := Hs1) (fun _ => none) k (fun _ => 0) (List.replicate k none) (by simp)) c1
    exact RepS.frame (Same.refl _) (keepA mc z2.1) (z.mono fun b => by simp)
  rintro i m σ2 ys H2 ⟨rfl, hle, k2, δ2, Hs2, N, ma, acc, g3, st3, s3, ra, so, held2, pp2, e13⟩ hD
  have hsA : Hs2 A = none := g3.ne A (by have := g3.le A; (try dsimp only at this ⊢); simp only [one, if_pos] at this ⊢; omega)
  by_cases hlt : i < items.length
  . right
    have hd : items[i]? = some (items[i]'(by omega)) := List.getElem?_eq_getElem (by omega)
    have hdrop : items.drop i = items[i]'(by omega) :: items.drop (i + 1) := List.drop_eq_getElem_cons (by omega)
    rw [hdrop] at e13
    obtain ⟨u3, δ8, e14, e15⟩ := Ze e13
    obtain ⟨t, δ9, e16, e17⟩ := Ze e15
    refine ⟨wk.go g3.sub pp2 hlt, fun x H' y => ?_⟩
    obtain ⟨Hs3, gr, rv⟩ := wk.yld g3.sub pp2 hd y
    obtain ⟨sm, fr, _⟩ := gr.same g3.sub
    have pp2 := wk.stay pp2 sm fun b _ n => fr b n
    have s3 := RepS.frame sm (fun b _ n => fr b n) s3
    have so := RepS.frame sm (fun b _ n => fr b n) so
    have ra := ra.frame sm fun b _ n => fr b n
    have held2 := held2.frame sm fun b _ n => fr b n
    have hD : H' A = some (.lst ys) := (fr A (by rw [hD]; simp)).trans hD
    have st3 := gr.stp g3 st3
    have g3 := gr.good g3
    clear gr sm fr y hsA
    generalize Hs3 = Hs2 at *
    generalize H' = H2 at *
    refine Zjf (Hs := Hs2) g3.sub e14 rv s3 fun σ3 k3 s4 => ?_
    refine ⟨δ8, Hs2, N, t, δ9, g3.re fun b => by (try dsimp only); omega, s4, e16, fun H4 Hs4 M4 g4 st4 s5 => ?_⟩
    obtain ⟨G, S, kk⟩ := ZA (m1 := fun b => one A b + (B b + M2 b + ma b)) g g3 st3 g4 st4
    have kA : H4 A = some (.lst ys) := by rw [<- hD]; exact kk A (by simp [one]) (by rw [hD]; simp)
    have ra4 := ra.frame st4.grow fun b hb => kk b (by (try dsimp only); omega)
    have so4 := RepS.frame st4.grow (fun b hb => kk b (by (try dsimp only); omega)) so
    have held4 := held2.frame st4.grow fun b hb => kk b (by (try dsimp only); omega)
    have pp4 := wk.stay pp2 st4.grow fun b hb => kk b (by (try dsimp only); omega)
    have lmeas : items.length - (i + 1) < items.length - i := by omega
    cases t with
    | false =>
      dsimp only
      rw [if_neg Bool.false_ne_true]
      exact ⟨kA, _, lmeas, rfl, hlt, k2.trans k3, δ9, Hs4, M4, ma, acc, G, S, s5, ra4, so4, held4, pp4, e17⟩
    | true =>
      dsimp only
      rw [if_pos rfl]
      rw [if_pos rfl] at e17
      obtain ⟨xd, δ10, e18, e19⟩ := Ze e17
      refine ⟨δ9, Hs4, M4, xd, δ10, g4, s5, e18, fun yv H5 Hs5 m5 M5 g5 st5 r5 s6 => ?_⟩
      obtain ⟨G5, S5, kk5⟩ := ZA (m1 := fun b => one A b + (B b + M2 b + ma b)) g G S g5 st5
      have kA5 : H5 A = some (.lst ys) := by rw [<- kA]; exact kk5 A (by simp [one]) (by rw [kA]; simp)
      have hsz : ys.length < sizeLine := by
        have e20 : accF.length <= sizeLine := by
          unfold newL at e11
          split at e11
          . rename_i hz; exact hz
          . cases e11
        have grow : ∀ (its acc : List D) (δ : List D) (r : List D × List D), ZaM (asgT (fun i => decide (k <= i)) tgt) cc celt its acc δ = .ok r -> acc.length <= r.1.length := by
          intro its
          induction its with
          | nil => intro acc δ r e; have := Zl e; subst this; exact Nat.le_refl _
          | cons a its ih =>
            intro acc δ r e
            obtain ⟨_, _, _, f1⟩ := Ze e
            obtain ⟨tt, _, _, f2⟩ := Ze f1
            cases tt with
            | false => exact ih _ _ _ f2
            | true =>
              rw [if_pos rfl] at f2
              obtain ⟨_, _, _, f3⟩ := Ze f2
              have := ih _ _ _ f3
              rw [List.length_append, List.length_singleton] at this
              omega
        have := grow _ _ _ _ e19
        dsimp only at this
        rw [List.length_append, List.length_singleton] at this
        have := ra.len
        omega
      have hsA5 : Hs5 A = none := G5.ne A (by have := G5.le A; (try dsimp only at this ⊢); simp only [one, if_pos] at this ⊢; omega)
      have G5' : Good H5 Hs5 (fun b => one A b + (B b + M2 b + ma b + (m5 b + M5 b))) := G5.re fun b => by (try dsimp only); omega
      obtain ⟨G6, S6, k6⟩ := ZnO (o := .lst (ys ++ [yv])) hA0 hsA5 G5' (S5.drop (fun b => by (try dsimp only); omega) G5.le)
      have fr6 : ∀ (R : Bud), (∀ b, R b <= B b + M2 b + ma b + (m5 b + M5 b)) -> ∀ b, R b ≥ 1 -> H5 b ≠ none -> upd H5 A (.lst (ys ++ [yv])) b = H5 b := fun R hR b hb _ => k6 b (by have := hR b; omega)
      refine ⟨kA5, hsz, _, lmeas, rfl, hlt, k2.trans k3, δ10, Hs5, M5, fun b => ma b + m5 b, acc ++ [xd], G6.re fun b => by (try dsimp only); omega, S6.drop (fun b => by (try dsimp only); omega) G6.le, RepS.frame (Same.refl _) (fr6 M5 fun b => by omega) s6, ?_, ?_, ?_, ?_, e19⟩
      . exact RepL.frame (Same.refl _) (fr6 _ fun b => by (try dsimp only); omega) ((ra4.frame st5.grow fun b hb => kk5 b (by (try dsimp only); omega)).app (.cons r5 (.nil (fun _ => 0)) fun b => by simp))
      . exact RepS.frame (Same.refl _) (fr6 M2 fun b => by omega) (RepS.frame st5.grow (fun b hb => kk5 b (by (try dsimp only); omega)) so4)
      . exact (held4.frame st5.grow fun b hb => kk5 b (by (try dsimp only); omega)).frame (Same.refl _) (fr6 B fun b => by omega)
      . exact wk.stay (wk.stay pp4 st5.grow fun b hb => kk5 b (by (try dsimp only); omega)) (Same.refl _) (fr6 B fun b => by omega)
  . left
    have e0 : items.drop i = [] := List.drop_of_length_le (by omega)
    rw [e0] at e13
    have := Zl e13
    cases this
    refine ⟨wk.stop g3.sub pp2 (by omega), ?_⟩
    have hdrop : σ2.drop k = Zeq js σ := by
      have hl2 : σ2.length = δF.length := s3.length
      apply List.ext_getElem?
      intro j
      rw [List.getElem?_drop, k2 (k + j) (by simp)]
      unfold Zd1
      rw [List.getElem?_append_right (by simp)]
      simp
    have sd := s3.drop k
    rw [hdrop] at sd
    have so' := Zmh js _ _ _ _ _ _ c4 e9 sd so
    unfold newL at e11
    split at e11
    . cases e11
      have rD : Rep K H2 Hs2 (.ref A) (.node .lst true accF) (fun b => one A b + ma b) := .own hD ra fun b => Nat.le_refl _
      exact q _ H2 Hs2 (fun b => one A b + ma b) (fun b => B b + (N b + M2 b)) (g3.re fun b => by (try dsimp only); omega) (st3.drop (fun b => by (try dsimp only); omega) g3.le) rD (ZcN e5 held2 so')
    . cases e11
section
variable {X : Cx} {elt tg iter : Expr} {ifs : List Expr} {scope : Scope} {pos spos pos' : Pos} {k : Nat} {js : List Nat} {N' : List Str} {ik : IK} {cs : M (List Op)} {tgt : Tg} {cc : M Bool} {celt : M D} {lk : Nat -> Bool} {i : Nat} {x : Str} {sc : Scope} {N : List Str}
theorem PIf.imp {t t' : TT} (h : PIf X ifs t) (w : ∀ σ H Q, t' σ H Q -> t σ H Q) : PIf X ifs t' := fun pins s σ H Q I q => h pins s σ H Q I (w σ H Q q)
theorem Zhn : PIf X [] (tT X.K (M.ret true)) := PIf.imp Zpj fun σ H Q h => Zi4 h
theorem Zk3 {c : Expr} {ct : M Bool} (h : PT X c (tT X.K ct)) : PIf X [c] (tT X.K (ct.bnd fun b => if b then M.ret true else M.ret false)) := PIf.imp (Zpk h) fun σ H Q h => by
  obtain ⟨δ, Hs, M, b, δ', g, s, e, q⟩ := h
  obtain ⟨t, δ1, e1, e2⟩ := Ze e
  refine ⟨δ, Hs, M, t, δ1, g, s, e1, fun H' Hs' M' g' st s' => ?_⟩
  cases t with
  | true => have := Zl e2; cases this; exact q H' Hs' M' g' st s'
  | false => have := Zl e2; cases this; exact q H' Hs' M' g' st s'
theorem ZhE (hc : X.calm = true) (S : CompScope X k js N' scope) (hi : PI X tg iter (tI X.K ik cs))
    (hin : ∀ (cl : List (Str × Addr)) (C : Addr) (s₀ : Shared) (H₀ : Hp) (ex : List Addr), PG (cxC X N' scope cl C s₀ H₀ ex) tg (gT X.K tgt) /\ PIf (cxC X N' scope cl C s₀ H₀ ex) ifs (tT X.K cc) /\ PE (cxC X N' scope cl C s₀ H₀ ex) elt (tM X.K celt))
    (hs : ∀ x, foldedSetIterable iter X.env x = pure x := by intro _; rfl) :
    PE X (.ListComp elt [⟨tg, iter, ifs, 0⟩] scope pos) (tM X.K (cs.bnd fun ps => (ZJ ps).bnd fun h => (lift (itW ik h.1)).bnd fun items => (Zb6 k js (ZaM (asgT (fun i => decide (k <= i)) tgt) cc celt items [])).bnd fun d => (Zax h.2).bnd fun _ => M.ret d)) :=
  PE.imp (Zpl hc S hi hin hs) fun σ H Q h => Zl9 h
theorem ZhF (h : Zd sc N i x false = true) (nd : N.Nodup) (hw : Zfp sc scope x = true) (hc : X.calm = true) (S : CompScope X k js N' scope) (hi : PI X tg iter (tI X.K ik cs))
    (hin : ∀ (cl : List (Str × Addr)) (C : Addr) (s₀ : Shared) (H₀ : Hp) (ex : List Addr), PG (cxC X N' scope cl C s₀ H₀ ex) tg (gT X.K tgt) /\ PIf (cxC X N' scope cl C s₀ H₀ ex) ifs (tT X.K cc) /\ PE (cxC X N' scope cl C s₀ H₀ ex) elt (tM X.K celt))
    (hl : (pos'.line == pos.line) = true := by rfl) (e1 : X.env.scope = sc := by rfl) (e2 : X.N = N := by rfl) (hs : ∀ x, foldedSetIterable iter X.env x = pure x := by intro _; rfl) :
    PS X (.Assign [.Name x pos'] (.ListComp elt [⟨tg, iter, ifs, 0⟩] scope pos) spos) (tS X.K lk ((cs.bnd fun ps => (ZJ ps).bnd fun h => (lift (itW ik h.1)).bnd fun items => (Zb6 k js (ZaM (asgT (fun i => decide (k <= i)) tgt) cc celt items [])).bnd fun d => (Zax h.2).bnd fun _ => M.ret d).bnd fun d => (asgN lk i d).bnd fun _ => M.ret .nx)) :=
  PS.imp (ZnJ h nd hw hc S hi hin hl e1 e2 hs) fun E σ H hh => by
  obtain ⟨δ, Hs, M, f, δ', g, s, e, q⟩ := hh
  obtain ⟨d, δ1, e1, e2⟩ := Ze e
  obtain ⟨u, δ2, e3, e4⟩ := Ze e2
  have := Zl e4
  cases this
  obtain ⟨h1, h2, rfl⟩ := Zg9 e3
  exact Zl9 ⟨δ, Hs, M, d, δ1, g, s, e1, fun v H' Hs' m M' g' st' r s' => q _ H' Hs' _ (ZcM h2) g' st' (ZdT s' h1 r)⟩
theorem Z2 {e : Expr} {c : M D} {b : Bool} (h : Zd sc N i x b = true) (nd : N.Nodup) (he : PE X e (tM X.K c)) (hs : swapsWith e (some (.Name x pos')) pos.line X.env = pure false := by rfl) (e1 : X.env.scope = sc := by rfl) (e2 : X.N = N := by rfl)
    (hf : X.fn x = true \/ b = false := by first | exact .inl rfl | exact .inr rfl) : PS X (.Assign [.Name x pos'] e pos) (tS X.K lk (c.bnd fun d => (asgN lk i d).bnd fun _ => M.ret .nx)) := by
  obtain ⟨h1, h2, h3, h4⟩ := Zd.at h
  have l := Zd.loc h
  subst e1 e2
  refine Zrh nd h1 l he hs ?_
  rcases hf with q | q
  . exact .inl q
  . subst q
    exact .inr h2
theorem Zet {es : List Expr} {is : List Nat} {b : Bool} (h : Zd sc N i x b = true) (nd : N.Nodup) (hr : PGs X es (gNs is)) (e1 : X.env.scope = sc := by rfl) (e2 : X.N = N := by rfl) (hf : X.fn x = true \/ b = false := by first | exact .inl rfl | exact .inr rfl)
    (hs : (assignEach (.Name x pos :: es) X.env).map (·.2) = assign (.Name x pos) X.env :: (assignEach es X.env).map (·.2) := by rfl) : PGs X (.Name x pos :: es) (gNs (i :: is)) := by
  obtain ⟨h1, h2, h3, h4⟩ := Zd.at h
  have l := Zd.loc h
  subst e1 e2
  refine ok_g nd h1 l hr ?_ hs
  rcases hf with q | q
  . exact .inl q
  . subst q
    exact .inr h2
theorem ZbN {b : Bool} (h : Zd sc N i x b = true) (nd : N.Nodup) (e1 : X.env.scope = sc := by rfl) (e2 : X.N = N := by rfl) (hf : X.fn x = true \/ b = false := by first | exact .inl rfl | exact .inr rfl) : PG X (.Name x pos) (gT X.K (.name i)) := ZnI h nd e1 e2 hf
end
end T
namespace T
open PySem PySem.Spec L2
def ZfO (ca : M Op) (lk : Nat -> Bool) : Prop := ∀ δ p δ', ca δ = .ok (p, δ') -> ∀ i, p = .late i -> lk i = true
theorem ZgB {i : Nat} {lk : Nat -> Bool} (h : lk i = true) : ZfO (Zbg i) lk := fun δ p δ' e j hj => by
  unfold Zbg at e
  split at e <;> cases e <;> cases hj <;> exact h
theorem Zrl {c : M D} {lk : Nat -> Bool} : ZfO (c.bnd fun d => M.ret (.tmp d)) lk := fun δ p δ' e j hj => by
  obtain ⟨d, δ1, e1, e2⟩ := Ze e
  have := Zl e2
  cases this
  cases hj
theorem ZmW {p : Op} {δ δ' : List D} {w : W × Option (Nat × D)} (e : holdV p δ = .ok (w, δ')) : ∀ q ∈ w.2.toList, p = .late q.1 := fun q hq => by
  cases p with
  | tmp d => cases d <;> cases e <;> simp at hq
  | late i =>
    unfold holdV at e
    dsimp only at e
    split at e <;> cases e <;> simp at hq
    subst hq
    rfl
theorem hw_1 {ca : M Op} {lk : Nat -> Bool} (h : ZfO ca lk) : HWs (ca.bnd fun p => (M.ret ([] : List Op)).bnd fun ps => M.ret (p :: ps)) lk := fun δ w δ' e q hq => by
  obtain ⟨p, δ1, w1, e1, e2, rfl⟩ := Zmg e
  exact h _ _ _ e1 _ (ZmW e2 q hq)
theorem hw_2 {ca cb : M Op} {lk : Nat -> Bool} (h1 : ZfO ca lk) (h2 : ZfO cb lk) : HWs (ca.bnd fun p => (cb.bnd fun p => (M.ret ([] : List Op)).bnd fun ps => M.ret (p :: ps)).bnd fun ps => M.ret (p :: ps)) lk := fun δ w δ' e q hq => by
  obtain ⟨ps, δ1, e1, e2⟩ := Ze e
  obtain ⟨p1, δ2, e3, e4⟩ := Ze e1
  obtain ⟨qs, δ3, e5, e6⟩ := Ze e4
  obtain ⟨p2, δ4, e7, e8⟩ := Ze e5
  obtain ⟨z, δ5, e9, e10⟩ := Ze e8
  have := Zl e9
  cases this
  have := Zl e10
  cases this
  have := Zl e6
  cases this
  have := ZhY e2 q hq
  rcases List.mem_cons.mp this with z | z
  . exact h1 _ _ _ e3 _ z.symm
  . exact h2 _ _ _ e7 _ (List.mem_singleton.mp z).symm
section
variable {X : Cx} {e a b c : Expr} {pos p : Pos} {ca cb cc : M Op} {x : Str} {j n : Nat} {fi : FI} {ps : List Str}
theorem Zp1 {K : Fg} {H Hs : Hp} {x : V} {w : W} {m : Bud} (h : View K H Hs x w m) : isNW true w = .sc (.bl (decide (x = .non))) /\ isNW false w = .sc (.bl (!decide (x = .non))) := by
  cases h with
  | sc v m => constructor <;> simp only [isNW] <;> cases decide (x = V.non) <;> rfl
  | nd n r => constructor <;> simp [isNW]
end
noncomputable def Zjg : Expr -> Option V
  | .Constant (.int n) _ _ => some (.int n)
  | .Constant (.str z) _ _ => some (.str z)
  | .Constant (.bool b) _ _ => some (.bl b)
  | .Constant .none _ _ => some .non
  | _ => none
noncomputable def ZfW : List Expr -> Option (List V)
  | [] => some []
  | e :: es => (Zjg e).bind fun v => (ZfW es).map (v :: ·)
theorem ZnP {X : Cx} {e : Expr} {v : V} (h : Zjg e = some v) : PE X e (tC v) /\ ∀ es : List Expr, starEach (e :: es) X.env = (false, eval e X.env) :: starEach es X.env := by
  unfold Zjg at h
  split at h
  . cases h; exact ⟨Za5, fun es => rfl⟩
  . cases h; exact ⟨Zqq, fun es => rfl⟩
  . cases h; exact ⟨Zgo, fun es => rfl⟩
  . cases h; exact ⟨Zg4, fun es => rfl⟩
  . cases h
theorem ZjG {X : Cx} : ∀ {es : List Expr} {vs : List V}, ZfW es = some vs -> PA X es (fun _ H Q => Q vs H)
  | [], vs, h => by
    simp only [ZfW, Option.some.injEq] at h
    subst h
    exact ZcL
  | e :: es, vs, h => by
    simp only [ZfW, Option.bind_eq_some_iff, Option.map_eq_some_iff] at h
    obtain ⟨v, h1, ws, h2, rfl⟩ := h
    obtain ⟨c1, c2⟩ := ZnP (X := X) h1
    exact ZaG c1 (ZjG h2) (c2 es)
theorem ZlA {K : Fg} {H Hs : Hp} : ∀ (vs : List V), RepL K H Hs vs (vs.map D.sc) (fun _ => 0)
  | [] => .nil _
  | v :: vs => .cons (m1 := fun _ => 0) (m2 := fun _ => 0) (.sc v _) (ZlA vs) fun b => by simp
theorem Zmi {X : Cx} {es : List Expr} {vs : List V} {pos : Pos} (h : ZfW es = some vs) : PE X (.List es pos) (tM X.K (lift (newL (vs.map D.sc)))) := PE.imp (Zm7 (ZjG h)) fun σ H Q hq => by
  obtain ⟨δ, Hs, M, d, δ', g, s, e, q⟩ := hq
  obtain ⟨e1, rfl⟩ := ZaH e
  unfold newL at e1
  split at e1
  . rename_i hl
    cases e1
    have o : Outs X.K H Hs (fun _ => 0) _ Q := ZfJ (B := fun _ => 0) (M := M) (stp0 H Hs M) (ZdK g) s q
    exact ⟨by simpa using hl, fun p hp => o.new (fun b => by simp) (fun b hb => by simp at hb) hp (vs := vs) ZB (ZlA vs)⟩
  . cases e1
theorem Zb9 : bootBuiltins "len" = some (.builtin "len") := by decide +kernel
theorem Zrm : bootBuiltins "abs" = some (.builtin "abs") := by decide +kernel
theorem Zk4 : bootBuiltins "sum" = some (.builtin "sum") := by decide +kernel
theorem Zrn : bootBuiltins "all" = some (.builtin "all") := by decide +kernel
theorem ZfP : bootBuiltins "list" = some (.type "list") := by decide +kernel
noncomputable def C0 : Ctx := { lock := fun _ => false, fok := fun _ _ => false, fuel := 0 }
end T
namespace T
open PySem PySem.Spec L2 PySem.W
noncomputable def scr (ns : List Int) : D := .node .frl false (ns.map fun i => .sc (.int i))
theorem Zro {K : Fg} {H : Hp} {a : Addr} {ns : List Int} {F : List D -> Rs (D × List D)} {E : XK} (hS : SqL K H a (ns.map V.int)) (e : ∃ ds', F [scr ns] = .ok (.sc (.bl true), ds')) : spF K F [.ref a] H (fun v _ => v = .bl true) E := by
  obtain ⟨ds', e⟩ := e
  refine ⟨[scr ns], H, fun _ => 0, _, ds', ⟨Same.refl _, fun b => Nat.zero_le _, fun b h => by simp at h, fun b h => by simp at h⟩, .cons (m1 := fun _ => 0) (m2 := fun _ => 0) (.shd (vs := ns.map V.int) hS (Zhl ns)) (.nil _) fun b => by simp, e, fun v H' Hs' m1 m' g st r _ => ?_⟩
  cases r
  rfl
theorem ZnQ {l : PySem.W.OpenLaw} {q : Program} {loose : List Str} {XP : (Str -> Option Value) -> Heap -> Prop} {YP : World -> Heap -> Prop} {d : DefRec} {K : Params -> Fg} {k : Nat} {x : Str} {R : Fg -> List D -> Rs (D × List D)} (hn : l.most = some 63) (hdf : d.params.defaults = []) (hr : Room k callerA)
    (hY : ∀ (w : World) (h : Heap), YP w h -> (K w.params).In h)
    (F : ∀ (w : World) (mg : Str -> Option Value) (fa : Addr) (h : Heap), (K w.params).In h -> h.Ns mainGlobals mg -> mg d.name = some (.ref fa) ->
      ∃ fd : FuncData, (∀ (s : Shared) (u : Value), BindsTo s fd ⟨[u], []⟩ [(x, u)]) /\ ∀ base : Heap, (K w.params).In base -> base.Ns mainGlobals mg -> FnOk l.prog w (K w.params) mg base CX0 k fa fd [x] (spF (K w.params) (R (K w.params))))
    (hL : ∀ (K : Fg) (ns : List Int), ns.length <= 63 -> ∃ ds', R K [scr ns] = .ok (.sc (.bl true), ds')) :
    PySem.W.WalkO q loose XP YP l.row.toRowW d [] (fun f vs => PySem.call f vs) :=
  L2.Zn6 (n := 63) (k := k) (x := x) (CX := CX0) (sp := fun K => spF K (R K)) hn (by decide) hdf hr hY F (fun K H a ns hl _ hS => Zro hS (hL K ns hl)) fun _ _ _ _ z => z
end T
namespace T
open PySem PySem.Spec L2 PySem.W
theorem ZmX {α β : Type} {c : M α} {f : α -> M β} {δ δ' : List D} {a : α} (h : c δ = .ok (a, δ')) : c.bnd f δ = f a δ' := by
  unfold M.bnd
  rw [h]
theorem runA {C : Ctx} {n N : Nat} {body : List S} {ds : List D} (h : ds.length = n) : Zi C n N body ds = Zks n (exs { C with lock := fun i => decide (i < n) } body (ds ++ List.replicate (N - n) .hole)) := if_pos h
theorem szl : sizeLine = 16777216 := by rw [sizeLine_eq]
section
variable {α β : Type} {C : Ctx} {δ δ' : List D} {a : α} {i j : Nat} {x y : Int} {v w : V} {k : Kd} {ds es : List D} {d : D}
noncomputable def bndR (f : α -> M β) : Rs (α × List D) -> Rs (β × List D)
  | .ok (a, δ) => f a δ
  | .exc x δ => .exc x δ
  | .stuck => .stuck
theorem bndA (c : M α) (f : α -> M β) (δ : List D) : c.bnd f δ = bndR f (c δ) := by
  unfold M.bnd bndR
  cases c δ <;> rfl
theorem Zp2 (f : α -> M β) : bndR f (.ok (a, δ)) = f a δ := (rfl)
theorem retA : M.ret a δ = .ok (a, δ) := (rfl)
theorem Ztt : lift (some a) δ = .ok (a, δ) := (rfl)
theorem Zp3 (c : Prop) [Decidable c] (f g : M α) (δ : List D) : (if c then f else g) δ = if c then f δ else g δ := by split <;> rfl
theorem Ztu (c : M D) : Zt (.v i) c = Zbg i := (rfl)
noncomputable def atR (i : Nat) (δ : List D) : Option D -> Rs (Op × List D)
  | some (.sc _) => .ok (.late i, δ)
  | some (.node _ _ _) => .ok (.late i, δ)
  | _ => .stuck
theorem Ztv : Zbg i δ = atR i δ δ[i]? := by unfold Zbg atR; cases δ[i]? with | none => rfl | some d => cases d <;> rfl
theorem Zrp : atR i δ (some (.sc v)) = .ok (.late i, δ) := (rfl)
theorem Zrq {o : Bool} : atR i δ (some (.node k o ds)) = .ok (.late i, δ) := (rfl)
noncomputable def vwR (i : Nat) (δ : List D) : Option D -> Rs (W × List D)
  | some (.sc v) => .ok (.sc v, δ)
  | some (.node k false ds) => .ok (.nd k ds, δ)
  | some (.node k true ds) => .ok (.nd k (shrL ds), δ.set i (.node k true (shrL ds)))
  | _ => .stuck
theorem Ztw : view (.late i) δ = vwR i δ δ[i]? := by
  unfold view vwR
  (try dsimp only)
  all_goals
    cases δ[i]? with
    | none => rfl
    | some d => cases d with
      | node k o ds => cases o <;> rfl
      | _ => rfl
theorem Zrr : vwR i δ (some (.sc v)) = .ok (.sc v, δ) := (rfl)
theorem Ztx : vwR i δ (some (.node k false ds)) = .ok (.nd k ds, δ) := (rfl)
theorem Zty : vwR i δ (some (.node k true ds)) = .ok (.nd k (shrL ds), δ.set i (.node k true (shrL ds))) := (rfl)
theorem Zp4 : view (.tmp (.sc v)) = M.ret (.sc v) := (rfl)
theorem Zp5 {o : Bool} : view (.tmp (.node k o ds)) = M.ret (.nd k ds) := (rfl)
noncomputable def vlR (i : Nat) (δ : List D) : Option D -> Rs (D × List D)
  | some (.sc v) => .ok (.sc v, δ)
  | some (.node k false ds) => .ok (.node k false ds, δ)
  | some (.node k true ds) => .ok (.node k false (shrL ds), δ.set i (.node k false (shrL ds)))
  | _ => .stuck
theorem valA : T.valV i δ = vlR i δ δ[i]? := by
  unfold T.valV vlR
  cases δ[i]? with
  | none => rfl
  | some d => cases d with
    | node k o ds => cases o <;> rfl
    | _ => rfl
theorem Zrs : vlR i δ (some (.sc v)) = .ok (.sc v, δ) := (rfl)
theorem Ztz : vlR i δ (some (.node k true ds)) = .ok (.node k false (shrL ds), δ.set i (.node k false (shrL ds))) := (rfl)
noncomputable def mvR (i : Nat) (δ : List D) : Option D -> Rs (D × List D)
  | some (.sc v) => .ok (.sc v, δ)
  | some (.node k o ds) => .ok (.node k o ds, δ.set i .hole)
  | _ => .stuck
theorem movA : movV i δ = mvR i δ δ[i]? := by unfold movV mvR; cases δ[i]? with | none => rfl | some d => cases d <;> rfl
theorem Zrt : mvR i δ (some (.sc v)) = .ok (.sc v, δ) := (rfl)
theorem Zru {o : Bool} : mvR i δ (some (.node k o ds)) = .ok (.node k o ds, δ.set i .hole) := (rfl)
noncomputable def tkR (lend : Bool) (i : Nat) (δ : List D) : Option D -> Rs (D × List D)
  | some (.sc v) => .ok (.sc v, δ)
  | some (.node k false ds) => .ok (.node k false ds, δ)
  | some (.node k true ds) => if lend then .ok (.node k true ds, δ.set i .hole) else .ok (.node k false (shrL ds), δ.set i (.node k false (shrL ds)))
  | _ => .stuck
theorem Zt0 {lend : Bool} : takeA lend (.late i) δ = tkR lend i δ δ[i]? := by
  unfold takeA tkR
  (try dsimp only)
  all_goals
    cases δ[i]? with
    | none => rfl
    | some d => cases d with
      | node k o ds => cases o <;> rfl
      | _ => rfl
theorem Zt1 {lend : Bool} : takeA lend (.tmp d) = M.ret d := (rfl)
theorem Zrv {lend : Bool} : tkR lend i δ (some (.sc v)) = .ok (.sc v, δ) := (rfl)
theorem Zt2 {lend : Bool} : tkR lend i δ (some (.node k false ds)) = .ok (.node k false ds, δ) := (rfl)
theorem Zt3 : tkR true i δ (some (.node k true ds)) = .ok (.node k true ds, δ.set i .hole) := (rfl)
theorem Zt4 : tkR false i δ (some (.node k true ds)) = .ok (.node k false (shrL ds), δ.set i (.node k false (shrL ds))) := (rfl)
theorem Zrw {lend : Bool} : ZbQ lend [] = M.ret [] := (rfl)
theorem Zrx {lend : Bool} {p : Op} {ps : List Op} : ZbQ lend (p :: ps) = (takeA lend p).bnd fun d => (ZbQ lend ps).bnd fun ds => M.ret (d :: ds) := (rfl)
noncomputable def gvR (i : Nat) (δ : List D) (d : D) : Option D -> Rs (Unit × List D)
  | some .hole => .ok ((), δ.set i d)
  | _ => .ok ((), δ)
theorem Zt5 : giveA (.late i) d δ = gvR i δ d δ[i]? := by unfold giveA gvR; (try dsimp only); all_goals (cases δ[i]? with | none => rfl | some d => cases d <;> rfl)
theorem Zt6 {d' : D} : giveA (.tmp d') d = M.ret () := (rfl)
theorem Zry : gvR i δ d (some (.sc v)) = .ok ((), δ) := (rfl)
theorem Zrz {o : Bool} : gvR i δ d (some (.node k o ds)) = .ok ((), δ) := (rfl)
theorem Zt7 : gvR i δ d (some .hole) = .ok ((), δ.set i d) := (rfl)
theorem Zr0 {ds : List D} : Zaj [] ds = M.ret () := by cases ds <;> rfl
theorem Zr1 {p : Op} {ps : List Op} : Zaj (p :: ps) (d :: ds) = (giveA p d).bnd fun _ => Zaj ps ds := (rfl)
theorem Zr2 : views [] = M.ret [] := (rfl)
theorem Zr3 {p : Op} {ps : List Op} : views (p :: ps) = (view p).bnd fun w => (views ps).bnd fun ws => M.ret (w :: ws) := (rfl)
noncomputable def cfR (ps : List Op) (δ : List D) : Rs (D × List D) -> Rs (D × List D)
  | .ok (d, ds') => ((Zaj ps ds').bnd fun _ => M.ret d) δ
  | .exc _ _ => .stuck
  | .stuck => .stuck
theorem Zt8 {fi : FI} {ps : List Op} : Zfi fi ps = (ZbQ fi.lend ps).bnd fun ds δ => cfR ps δ (fi.run ds) := by
  unfold Zfi cfR
  congr 1
  funext ds δ
  cases fi.run ds with
  | ok r => obtain ⟨d, ds'⟩ := r; rfl
  | exc x y => rfl
  | stuck => rfl
theorem Zr4 {ps : List Op} {ds' : List D} : cfR ps δ (.ok (d, ds')) = ((Zaj ps ds').bnd fun _ => M.ret d) δ := (rfl)
noncomputable def seqR (r : M Fl) : Rs (Fl × List D) -> Rs (Fl × List D)
  | .ok (.nx, δ) => r δ
  | .ok (f, δ) => .ok (f, δ)
  | .exc x δ => .exc x δ
  | .stuck => .stuck
theorem exs1 {s : S} {r : List S} : exs C (s :: r) δ = seqR (exs C r) (ex C s δ) := by
  show seqL (ex C s) (exs C r) δ = _
  unfold seqL M.bnd seqR
  cases ex C s δ with
  | ok z => obtain ⟨f, δ1⟩ := z; cases f <;> rfl
  | exc x y => rfl
  | stuck => rfl
noncomputable def forR (asg : D -> M Unit) (body : M Fl) (ds : List D) : Rs (Fl × List D) -> Rs (Fl × List D)
  | .ok (.nx, δ) => forL asg body ds δ
  | .ok (.ct, δ) => forL asg body ds δ
  | .ok (.bk, δ) => .ok (.nx, δ)
  | .ok (.rt x, δ) => .ok (.rt x, δ)
  | .exc x δ => .exc x δ
  | .stuck => .stuck
theorem ZbA {asg : D -> M Unit} {body : M Fl} : forL asg body (d :: ds) δ = forR asg body ds (((asg d).bnd fun _ => body) δ) := by
  show ((asg d).bnd fun _ => body.bnd fun f => match f with | .nx => forL asg body ds | .ct => forL asg body ds | .bk => M.ret .nx | .rt x => M.ret (.rt x)) δ = _
  unfold forR M.bnd
  cases asg d δ with
  | ok r =>
    dsimp only
    cases body r.2 with
    | ok z => obtain ⟨f, δ1⟩ := z; cases f <;> rfl
    | exc x y => rfl
    | stuck => rfl
  | exc x y => rfl
  | stuck => rfl
theorem ZoF {asg : D -> M Unit} {body : M Fl} : forL asg body [] δ = .ok (.nx, δ) := (rfl)
theorem Zp6 {asg : D -> M Unit} {body : M Fl} : forR asg body ds (.ok (.nx, δ)) = forL asg body ds δ := (rfl)
theorem Zp7 {asg : D -> M Unit} {body : M Fl} : forR asg body ds (.ok (.rt d, δ)) = .ok (.rt d, δ) := (rfl)
theorem exs0 : exs C [] δ = .ok (.nx, δ) := (rfl)
theorem Zp8 (r : M Fl) : seqR r (.ok (.nx, δ)) = r δ := (rfl)
theorem Zp9 (r : M Fl) : seqR r (.ok (.rt d, δ)) = .ok (.rt d, δ) := (rfl)
end
end T
namespace T
open PySem PySem.Spec L2 PySem.W
theorem e_k (C : Ctx) (v : V) : (evb C (.k v)).1 = (M.ret (.sc v)) := (rfl)
theorem o_k (v : V) (z : M D) : Zt (.k v) z = z.bnd fun d => M.ret (.tmp d) := (rfl)
theorem Zt9 (C : Ctx) (op : Operator) (a : E) (b : E) : (evb C (.bin op a b)).1 = ((Zt a (evb C a).1).bnd fun p => (Zt b (evb C b).1).bnd fun q => (view p).bnd fun x => (view q).bnd fun y => lift (binW op x y)) := (rfl)
theorem ZtA (op : Operator) (a : E) (b : E) (z : M D) : Zt (.bin op a b) z = z.bnd fun d => M.ret (.tmp d) := (rfl)
theorem ZtB (C : Ctx) (a : E) : (evb C (.neg a)).1 = (((Zt a (evb C a).1).bnd view).bnd fun x => lift (negW x)) := (rfl)
theorem ZtC (a : E) (z : M D) : Zt (.neg a) z = z.bnd fun d => M.ret (.tmp d) := (rfl)
theorem ZtD (C : Ctx) (op : CmpOp) (a : E) (b : E) : (evb C (.cmp op a b)).1 = ((Zt a (evb C a).1).bnd fun p => (Zt b (evb C b).1).bnd fun q => (view p).bnd fun x => (view q).bnd fun y => lift ((Zb5 op x y).map fun t => .sc (.bl t))) := (rfl)
theorem ZtE (C : Ctx) (op : CmpOp) (a : E) (b : E) : (evb C (.cmp op a b)).2 = ZdJ (evb C (.cmp op a b)).1 := (rfl)
theorem ZtF (op : CmpOp) (a : E) (b : E) (z : M D) : Zt (.cmp op a b) z = z.bnd fun d => M.ret (.tmp d) := (rfl)
theorem ZpA (C : Ctx) (op : CmpOp) (op' : CmpOp) (a : E) (b : E) (c : E) : (evb C (.chain op op' a b c)).2 = ZdJ (evb C (.chain op op' a b c)).1 := (rfl)
theorem ZtG (C : Ctx) (p : Bool) (a : E) : (evb C (.isN p a)).1 = (((Zt a (evb C a).1).bnd view).bnd fun x => M.ret (isNW p x)) := (rfl)
theorem ZtH (C : Ctx) (p : Bool) (a : E) : (evb C (.isN p a)).2 = ((Zt (.isN p a) (evb C (.isN p a)).1).bnd fun p => (view p).bnd fun w => lift (truW w)) := (rfl)
theorem ZtI (p : Bool) (a : E) (z : M D) : Zt (.isN p a) z = z.bnd fun d => M.ret (.tmp d) := (rfl)
theorem e_nt (C : Ctx) (a : E) : (evb C (.nt a)).1 = (((Zt a (evb C a).1).bnd view).bnd fun w => lift (notW w)) := (rfl)
theorem t_nt (C : Ctx) (a : E) : (evb C (.nt a)).2 = ((evb C a).2.bnd fun b => M.ret (!b)) := (rfl)
theorem o_nt (a : E) (z : M D) : Zt (.nt a) z = z.bnd fun d => M.ret (.tmp d) := (rfl)
theorem ZtJ (C : Ctx) (a : E) (b : E) : (evb C (.and a b)).1 = (((Zt a (evb C a).1).bnd view).bnd (andM (evb C b).1)) := (rfl)
theorem ZtK (C : Ctx) (a : E) (b : E) : (evb C (.and a b)).2 = ((evb C a).2.bnd fun t => if t then (evb C b).2 else M.ret false) := (rfl)
theorem t_or (C : Ctx) (a : E) (b : E) : (evb C (.or a b)).2 = ((evb C a).2.bnd fun t => if t then M.ret true else (evb C b).2) := (rfl)
theorem ZtL (C : Ctx) (c : E) (a : E) (b : E) : (evb C (.ife c a b)).1 = ((evb C c).2.bnd fun t => if t then (evb C a).1 else (evb C b).1) := (rfl)
theorem e_ix (C : Ctx) (a : E) (b : E) : (evb C (.ix a b)).1 = ((Zt a (evb C a).1).bnd fun p => (Zt b (evb C b).1).bnd fun q => (view p).bnd fun x => (view q).bnd fun y => lift (ixW2 x y)) := (rfl)
theorem t_ix (C : Ctx) (a : E) (b : E) : (evb C (.ix a b)).2 = ((Zt (.ix a b) (evb C (.ix a b)).1).bnd fun p => (view p).bnd fun w => lift (truW w)) := (rfl)
theorem o_ix (a : E) (b : E) (z : M D) : Zt (.ix a b) z = z.bnd fun d => M.ret (.tmp d) := (rfl)
theorem e_sl (C : Ctx) (a : E) (b : E) (c : E) : (evb C (.sl a b c)).1 = ((Zt a (evb C a).1).bnd fun p => (ZdH b (Zt b (evb C b).1)).bnd fun l => (ZdH c (Zt c (evb C c).1)).bnd fun h => (view p).bnd fun x => lift (slD x l h)) := (rfl)
theorem o_sl (a : E) (b : E) (c : E) (z : M D) : Zt (.sl a b c) z = z.bnd fun d => M.ret (.tmp d) := (rfl)
theorem ZtM (C : Ctx) (es : List E) : (evb C (.lst es)).1 = ((evs C es).bnd fun ds => lift (newL ds)) := (rfl)
theorem ZtN (es : List E) (z : M D) : Zt (.lst es) z = z.bnd fun d => M.ret (.tmp d) := (rfl)
theorem ZtO (C : Ctx) (es : List E) : (evb C (.tup es)).1 = ((evs C es).bnd fun ds => lift (newT ds)) := (rfl)
theorem ZtP (es : List E) (z : M D) : Zt (.tup es) z = z.bnd fun d => M.ret (.tmp d) := (rfl)
theorem e_kl (C : Ctx) (vs : List V) : (evb C (.kl vs)).1 = (lift (newL (vs.map D.sc))) := (rfl)
theorem o_kl (vs : List V) (z : M D) : Zt (.kl vs) z = z.bnd fun d => M.ret (.tmp d) := (rfl)
theorem Zr5 (C : Ctx) (fi : FI) (es : List E) : (evb C (.call fi es)).1 = ((opds C es).bnd fun ps => Zfi fi ps) := (rfl)
theorem Zr6 (C : Ctx) (fi : FI) (es : List E) : (evb C (.call fi es)).2 = ((Zt (.call fi es) (evb C (.call fi es)).1).bnd fun p => (view p).bnd fun w => lift (truW w)) := (rfl)
theorem Zr7 (fi : FI) (es : List E) (z : M D) : Zt (.call fi es) z = z.bnd fun d => M.ret (.tmp d) := (rfl)
theorem e_bf (C : Ctx) (f : BF) (es : List E) : (evb C (.bf f es)).1 = ((opds C es).bnd fun ps => (views ps).bnd fun ws => lift (bfW f ws)) := (rfl)
theorem t_bf (C : Ctx) (f : BF) (es : List E) : (evb C (.bf f es)).2 = ((Zt (.bf f es) (evb C (.bf f es)).1).bnd fun p => (view p).bnd fun w => lift (truW w)) := (rfl)
theorem o_bf (f : BF) (es : List E) (z : M D) : Zt (.bf f es) z = z.bnd fun d => M.ret (.tmp d) := (rfl)
theorem Zr8 (k : Nat) (js : List Nat) (tg : Tg) (ik : IK) (es : List E) (es' : List E) (a : E) (z : M D) : Zt (.comp k js tg ik es es' a) z = z.bnd fun d => M.ret (.tmp d) := (rfl)
theorem e_v (C : Ctx) (i : Nat) : (evb C (.v i)).1 = T.valV i := (rfl)
theorem ZnR (C : Ctx) (i : Nat) (es : List E) : (evb C (.mut .append i [] es)).1 = ((chkL i).bnd fun _ => (evs C es).bnd fun ds => appM i ds) := (rfl)
theorem ZtQ (C : Ctx) : opds C [] = M.ret [] := (rfl)
theorem ZtR (C : Ctx) (e : E) (es : List E) : opds C (e :: es) = ((Zt e (evb C e).1).bnd fun p => (opds C es).bnd fun ps => M.ret (p :: ps)) := (rfl)
theorem evs0 (C : Ctx) : evs C [] = M.ret [] := (rfl)
theorem evs1 (C : Ctx) (e : E) (es : List E) : evs C (e :: es) = ((evb C e).1.bnd fun p => (evs C es).bnd fun ps => M.ret (p :: ps)) := (rfl)
theorem ZtS (C : Ctx) : tsts C [] = M.ret true := (rfl)
theorem ZtT (C : Ctx) (e : E) (es : List E) : tsts C (e :: es) = ((evb C e).2.bnd fun b => if b then tsts C es else M.ret false) := (rfl)
theorem ZtU (C : Ctx) (i : Nat) (e : E) : ex C (.asg i e) = ((evb C e).1.bnd fun d => (asgN C.lock i d).bnd fun _ => M.ret .nx) := (rfl)
theorem ZtV (C : Ctx) (is : List Nat) (e : E) : ex C (.unp is e) = (((Zt e (evb C e).1).bnd view).bnd fun w => (unpM C.lock is w).bnd fun _ => M.ret .nx) := (rfl)
theorem ZtW (C : Ctx) (i : Nat) (x e : E) : ex C (.sub i [] x e) = ((evb C e).1.bnd fun d => (Zbg i).bnd fun _ => ((Zt x (evb C x).1).bnd view).bnd fun w => (modS i (ZaL w d)).bnd fun _ => M.ret .nx) := (rfl)
theorem x_ex (C : Ctx) (e : E) : ex C (.ex e) = ((evb C e).1.bnd fun _ => M.ret .nx) := (rfl)
theorem ZtX (C : Ctx) (e : E) : ex C (.ret e) = ((retV C e).bnd fun d => M.ret (.rt d)) := (rfl)
theorem ZtY (C : Ctx) (c : E) (a b : List S) : ex C (.iff c a b) = ((evb C c).2.bnd fun t => if t then exs C a else exs C b) := (rfl)
theorem Zr9 (C : Ctx) (tg : Tg) (ik : IK) (ies : List E) (body : List S) : ex C (.for_ tg ik ies body) = ((opds C ies).bnd fun ps => (ZJ ps).bnd fun h => (lift (itW ik h.1)).bnd fun items => (forL (asgT (fun j => C.lock j || walked ies j) tg) (exs { C with lock := fun j => C.lock j || walked ies j } body) items).bnd fun f => (Zax h.2).bnd fun _ => M.ret f) := (rfl)
theorem ZtZ (C : Ctx) (i : Nat) : retV C (.v i) = if C.lock i then T.valV i else movV i := (rfl)
theorem r_k (C : Ctx) (v : V) : retV C (.k v) = (evb C (.k v)).1 := (rfl)
theorem Zua (C : Ctx) (op : Operator) (a : E) (b : E) : retV C (.bin op a b) = (evb C (.bin op a b)).1 := (rfl)
theorem Zub (C : Ctx) (op : CmpOp) (a : E) (b : E) : retV C (.cmp op a b) = (evb C (.cmp op a b)).1 := (rfl)
theorem Zuc (C : Ctx) (a : E) (b : E) : retV C (.and a b) = (evb C (.and a b)).1 := (rfl)
theorem r_ix (C : Ctx) (a : E) (b : E) : retV C (.ix a b) = (evb C (.ix a b)).1 := (rfl)
theorem Zud (C : Ctx) (es : List E) : retV C (.lst es) = (evb C (.lst es)).1 := (rfl)
theorem Zue (C : Ctx) (es : List E) : retV C (.tup es) = (evb C (.tup es)).1 := (rfl)
theorem ZrA (C : Ctx) (fi : FI) (es : List E) : retV C (.call fi es) = (evb C (.call fi es)).1 := (rfl)
theorem r_bf (C : Ctx) (f : BF) (es : List E) : retV C (.bf f es) = (evb C (.bf f es)).1 := (rfl)
theorem Zuf (i j : Int) : binW .Add (.sc (.int i)) (.sc (.int j)) = some (.sc (.int (i + j))) := (rfl)
theorem Zug (i j : Int) : binW .Sub (.sc (.int i)) (.sc (.int j)) = some (.sc (.int (i - j))) := (rfl)
theorem ZbO (i j : Int) (h : (-(2 ^ 64) < i /\ i < 2 ^ 64) \/ (-(2 ^ 64) < j /\ j < 2 ^ 64)) : binW .Mult (.sc (.int i)) (.sc (.int j)) = some (.sc (.int (i * j))) := if_pos h
theorem ZiB (i j : Int) (h : 0 < j /\ j < 1073741824) : binW .FloorDiv (.sc (.int i)) (.sc (.int j)) = some (.sc (.int (i / j))) := if_pos h
theorem ZF (i j : Int) (h : 0 < j) : binW .Mod (.sc (.int i)) (.sc (.int j)) = some (.sc (.int (i % j))) := if_pos h
theorem Zmj (xs ys : List D) (h : (xs ++ ys).length <= sizeLine) : binW .Add (.nd .lst xs) (.nd .lst ys) = some (.node .lst true (xs ++ ys)) := if_pos h
theorem Zas (ds : List D) (h : ds.length <= sizeLine) : newL ds = some (.node .lst true ds) := if_pos h
theorem c_lt (i j : Int) : cmpW .Lt (.sc (.int i)) (.sc (.int j)) = some (decide (i < j)) := (rfl)
theorem c_le (i j : Int) : cmpW .LtE (.sc (.int i)) (.sc (.int j)) = some (decide (i <= j)) := (rfl)
theorem Zuh (i j : Int) : Zb5 .Gt (.sc (.int i)) (.sc (.int j)) = some (decide (j < i)) := (rfl)
theorem ZrB (i j : Int) : Zb5 .Eq (.sc (.int i)) (.sc (.int j)) = some (decide (V.int i = V.int j)) := (rfl)
theorem ZrC (i j : Int) : Zb5 .NotEq (.sc (.int i)) (.sc (.int j)) = some (!decide (V.int i = V.int j)) := (rfl)
theorem Zui (c : M D) (δ : List D) : ZdJ c δ = bndR (fun d => lift (match d with | .sc (.bl b) => some b | _ => none)) (c δ) := bndA _ _ _
theorem Zuj (b : M D) : andM b (.sc (.bl true)) = b := (rfl)
theorem Zuk (b : M D) : andM b (.sc (.bl false)) = M.ret (.sc (.bl false)) := (rfl)
theorem Zul (b : Bool) : notW (.sc (.bl b)) = some (.sc (.bl (!b))) := (rfl)
theorem Zum (i : Int) : negW (.sc (.int i)) = some (.sc (.int (-i))) := (rfl)
theorem Zun (b : Bool) : truW (.sc (.bl b)) = some b := (rfl)
theorem Zuo (ds : List D) : bfW .len [.nd .lst ds] = some (.sc (.int ds.length)) := (rfl)
theorem Zup (i : Int) : bfW .abs [.sc (.int i)] = some (.sc (.int (if i < 0 then -i else i))) := (rfl)
theorem ZrD (ds : List D) : bfW .list [.nd .lst ds] = some (.node .lst true ds) := (rfl)
theorem ZrE (c : M Op) : ZdH (.k .non) c = M.ret none := (rfl)
theorem ZrF (i : Int) (c : M Op) : ZdH (.k (.int i)) c = ((c.bnd view).bnd fun w => lift (intP w)) := (rfl)
theorem ZrG (i : Nat) (c : M Op) : ZdH (.v i) c = ((c.bnd view).bnd fun w => lift (intP w)) := (rfl)
theorem ZrH (op : Operator) (a b : E) (c : M Op) : ZdH (.bin op a b) c = ((c.bnd view).bnd fun w => lift (intP w)) := (rfl)
theorem ZrI (a : E) (c : M Op) : ZdH (.neg a) c = ((c.bnd view).bnd fun w => lift (intP w)) := (rfl)
theorem intp (i : Int) : intP (.sc (.int i)) = some (some i) := (rfl)
theorem sl_l (ds : List D) (l h : Option Int) : slD (.nd .lst ds) l h = some (.node .lst true (cutD ds l h)) := (rfl)
theorem sl_f (ds : List D) (l h : Option Int) : slD (.nd .frl ds) l h = some (.node .lst true (cutD ds l h)) := (rfl)
theorem Zuq (lk : Nat -> Bool) (is : List Nat) (ds : List D) : unpM lk is (.nd .lst ds) = ZdI lk is ds := (rfl)
theorem Zur (lk : Nat -> Bool) : ZdI lk [] [] = M.ret () := (rfl)
theorem Zus (lk : Nat -> Bool) (i : Nat) (is : List Nat) (d : D) (ds : List D) : ZdI lk (i :: is) (d :: ds) = ((asgN lk i d).bnd fun _ => ZdI lk is ds) := (rfl)
theorem ZrJ (lk : Nat -> Bool) (i : Nat) (d : D) : asgT lk (.name i) d = asgN lk i d := (rfl)
theorem asgn (lk : Nat -> Bool) (i : Nat) (d : D) (δ : List D) : asgN lk i d δ = if (decide (i < δ.length) && !lk i) = true then .ok ((), δ.set i d) else .stuck := (rfl)
theorem ZrK : ZJ [] = M.ret ([], []) := (rfl)
theorem ZrL (p : Op) (ps : List Op) : ZJ (p :: ps) = ((holdV p).bnd fun w => (ZJ ps).bnd fun ws => M.ret (w.1 :: ws.1, w.2.toList ++ ws.2)) := (rfl)
noncomputable def hdR (i : Nat) (δ : List D) : Option D -> Rs ((W × Option (Nat × D)) × List D)
  | some (.sc v) => .ok ((.sc v, none), δ)
  | some (.node k false ds) => .ok ((.nd k ds, none), δ)
  | some (.node k true ds) => .ok ((.nd k (shrL ds), some (i, .node k true (shrL ds))), δ.set i .hole)
  | _ => .stuck
theorem ZrM (i : Nat) (δ : List D) : holdV (.late i) δ = hdR i δ δ[i]? := by
  unfold holdV hdR
  (try dsimp only)
  all_goals
    cases δ[i]? with
    | none => rfl
    | some d => cases d with
      | node k o ds => cases o <;> rfl
      | _ => rfl
theorem ZrN (i : Nat) (δ : List D) (v : V) : hdR i δ (some (.sc v)) = .ok ((.sc v, none), δ) := (rfl)
theorem Zut (i : Nat) (δ : List D) (k : Kd) (ds : List D) : hdR i δ (some (.node k false ds)) = .ok ((.nd k ds, none), δ) := (rfl)
theorem Zuu (i : Nat) (δ : List D) (k : Kd) (ds : List D) : hdR i δ (some (.node k true ds)) = .ok ((.nd k (shrL ds), some (i, .node k true (shrL ds))), δ.set i .hole) := (rfl)
theorem ZrO (v : V) : holdV (.tmp (.sc v)) = M.ret (.sc v, none) := (rfl)
theorem ZrP (k : Kd) (o : Bool) (ds : List D) : holdV (.tmp (.node k o ds)) = M.ret (.nd k (shrL ds), none) := (rfl)
theorem ZrQ : Zax [] = M.ret () := (rfl)
theorem ZrR (i : Nat) (d : D) (r : List (Nat × D)) (δ : List D) : Zax ((i, d) :: r) δ = Zax r (δ.set i d) := (rfl)
theorem it_l (ds : List D) : itW .val [.nd .lst ds] = some ds := (rfl)
theorem it_1 (n : Int) (h : okR n = true) : itW .rng1 [.sc (.int n)] = some (rng 0 n) := if_pos h
theorem it_2 (a b : Int) (h : (okR a && okR b) = true) : itW .rng2 [.sc (.int a), .sc (.int b)] = some (rng a b) := if_pos h
noncomputable def mdR (i : Nat) (δ : List D) (f : Kd -> List D -> Option (D × Kd × List D)) : Option D -> Rs (D × List D)
  | some (.node k true ds) => match f k ds with
    | some (r, k', ds') => .ok (r, δ.set i (.node k' true ds'))
    | none => .stuck
  | _ => .stuck
theorem modA (i : Nat) (f : Kd -> List D -> Option (D × Kd × List D)) (δ : List D) : modS i f δ = mdR i δ f δ[i]? := by
  unfold modS mdR
  cases δ[i]? with
  | none => rfl
  | some d => cases d with
    | node k o ds => cases o <;> rfl
    | _ => rfl
theorem Zk5 (i : Nat) (δ : List D) (d : D) (ds : List D) (h : ds.length < sizeLine) : mdR i δ (appD d) (some (.node .lst true ds)) = .ok (.sc .non, δ.set i (.node .lst true (ds ++ [d]))) := by
  show (match (if ds.length < sizeLine then some (D.sc .non, Kd.lst, ds ++ [d]) else none) with | some (r, k', ds') => Rs.ok (r, δ.set i (.node k' true ds')) | none => .stuck) = _
  rw [if_pos h]
theorem ZcP (i : Nat) (δ : List D) (d : D) (ds : List D) (n : Int) (j : Nat) (h : ixN' ds.length n = some j) : mdR i δ (ZaL (.sc (.int n)) d) (some (.node .lst true ds)) = .ok (.sc .non, δ.set i (.node .lst true (ds.set j d))) := by
  show (match ((ixN' ds.length n).map fun j => (D.sc .non, Kd.lst, ds.set j d)) with | some (r, k', ds') => Rs.ok (r, δ.set i (.node k' true ds')) | none => .stuck) = _
  rw [h]
  rfl
theorem Zuv (i : Nat) (d : D) : appM i [d] = modS i (appD d) := (rfl)
noncomputable def ckR (δ : List D) : Option D -> Rs (Unit × List D)
  | some (.node .lst _ _) => .ok ((), δ)
  | _ => .stuck
theorem chkA (i : Nat) (δ : List D) : chkL i δ = ckR δ δ[i]? := by
  unfold chkL ckR
  cases δ[i]? with
  | none => rfl
  | some d => cases d with
    | node k o ds => cases k <;> rfl
    | _ => rfl
theorem Zuw (δ : List D) (o : Bool) (ds : List D) : ckR δ (some (.node .lst o ds)) = .ok ((), δ) := (rfl)
theorem ix_l (ds : List D) (i : Int) : ixW2 (.nd .lst ds) (.sc (.int i)) = (ixN' ds.length i).bind fun j => ds[j]? := (rfl)
theorem ix_t (ds : List D) (i : Int) : ixW2 (.nd .tup ds) (.sc (.int i)) = (ixN' ds.length i).bind fun j => ds[j]? := (rfl)
theorem Zc0 (n j : Nat) (h : j < n) : ixN' n (j : Int) = some j := by
  unfold ixN'
  rw [if_pos (Int.natCast_nonneg j), if_pos (by omega)]
  simp
end T
namespace T
open PySem PySem.Spec L2
section
variable {X : Cx} {a b c : Expr} {pos : Pos}
def r2C (K : Fg) (f : W -> W -> Option Bool) : R2 := fun x y H Q => ∃ (Hs : Hp) (w1 w2 : W) (m1 m2 : Bud) (t : Bool), Same Hs H /\ View K H Hs x w1 m1 /\ View K H Hs y w2 m2 /\ f w1 w2 = some t /\ Q (.bl t) H
theorem ZhG (op : CmpOp) (hu : X.A.units + 64 < cLine) : OpR X (compareOp op) (r2C X.K (cmpW op)) := by
  intro pins s σ H x y v u Q I rx ry h
  obtain ⟨Hs, w1, w2, m1, m2, t, hs, v1, v2, e, q⟩ := h
  unfold cmpW at e
  split at e
  . rcases Zi3 hs v1 v2 e with ⟨h3, rfl⟩ | ⟨d, f, h3, h4, h5, h6, rfl⟩
    . exact Zo0 pins s σ H _ _ v u Q I rx ry ⟨h3, q⟩
    . exact ZmK hu pins s σ H _ _ v u Q I rx ry ⟨d, f, h3, h4, h5, h6, q⟩
  . simp only [Option.map_eq_some_iff] at e
    obtain ⟨t, e, rfl⟩ := e
    rcases Zi3 hs v1 v2 e with ⟨h3, rfl⟩ | ⟨d, f, h3, h4, h5, h6, rfl⟩
    . exact Zo1 pins s σ H _ _ v u Q I rx ry ⟨h3, q⟩
    . exact ZmL hu pins s σ H _ _ v u Q I rx ry ⟨d, f, h3, h4, h5, h6, q⟩
  . rename_i i j _ _
    cases v1; cases v2
    cases op with
    | Lt => cases e; exact Zo2 pins s σ H _ _ v u Q I rx ry ⟨_, _, rfl, rfl, q⟩
    | LtE => cases e; exact Zo3 pins s σ H _ _ v u Q I rx ry ⟨_, _, rfl, rfl, q⟩
    | Gt => cases e; exact Zo4 pins s σ H _ _ v u Q I rx ry ⟨_, _, rfl, rfl, q⟩
    | GtE => cases e; exact Zo5 pins s σ H _ _ v u Q I rx ry ⟨_, _, rfl, rfl, q⟩
    | _ => cases e
  . cases e
noncomputable def Zk6 (op op' : CmpOp) (ca cb cc : M Op) : M D := ca.bnd fun p => cb.bnd fun q => (view p).bnd fun x => (view q).bnd fun y => (lift (cmpW op x y)).bnd fun t => if t then cc.bnd fun r => (view q).bnd fun y => (view r).bnd fun z => lift ((cmpW op' y z).map fun t => .sc (.bl t)) else M.ret (.sc (.bl false))
theorem ZjH {op op' : CmpOp} {K : Fg} {ca cb cc : M Op} {σ : St} {H : Hp} {Q : VK} (h : tM K (Zk6 op op' ca cb cc) σ H Q) :
    Zkk (r2C K (cmpW op)) (r2C K (cmpW op')) (tP K ca) (tP K cb) (tP K cc) σ H Q := by
  obtain ⟨δ, Hs, M, d, δ', g, s, e, q⟩ := h
  obtain ⟨p, δ1, e1, e⟩ := Ze e
  obtain ⟨p2, δ2, e2, e⟩ := Ze e
  obtain ⟨w1, δ3, e3, e⟩ := Ze e
  obtain ⟨w2, δ4, e4, e⟩ := Ze e
  obtain ⟨t, δ5, e5, e⟩ := Ze e
  obtain ⟨e5', rfl⟩ := ZaH e5
  refine seq2 g s e1 e2 fun x y H2 Hs2 m1 m2 M2 g2 st2 r1 r2 s2 => ?_
  obtain ⟨Hs3, M3, g3, st3, v1, v2, s3⟩ := Zmf g2 s2 r1 r2 e3 e4
  have z := ZA (m1 := fun _ => 0) g (g2.re fun b => by simp) (st2.drop (fun b => by simp) g2.le) g3 st3
  have st : Stp H Hs M H2 Hs3 (fun b => (m1 b + m2 b) + M3 b) := z.2.1.drop (fun b => by simp) z.1.le
  refine ⟨Hs3, w1, w2, m1, m2, t, g3.sub, v1, v2, e5', t, rfl, ?_⟩
  cases t with
  | false =>
    rw [if_neg (by simp)]
    have := Zl (show T.M.ret (D.sc (.bl false)) _ = _ from e)
    cases this
    have G : Good H2 Hs3 (fun b => (fun _ => 0) b + M3 b) := g3.re fun b => by simp
    exact q _ _ Hs3 (fun _ => 0) M3 G (st.drop (fun b => by simp) g3.le) (.sc _ _) s3
  | true =>
    rw [if_pos rfl]
    rw [if_pos rfl] at e
    obtain ⟨p3, δ6, e6, e⟩ := Ze e
    obtain ⟨y2, δ7, e7, e⟩ := Ze e
    obtain ⟨z3, δ8, e8, e⟩ := Ze e
    obtain ⟨e9, rfl⟩ := ZaH e
    simp only [Option.map_eq_some_iff] at e9
    obtain ⟨t2, e9, rfl⟩ := e9
    have G2 : Good H2 Hs3 (fun b => m2 b + M3 b) := g3.re fun b => by omega
    have st2' : Stp H Hs M H2 Hs3 (fun b => m2 b + M3 b) := st.drop (fun b => by omega) g3.le
    refine ⟨_, Hs3, M3, p3, δ6, G2.re (fun b => by omega), s3, e6, fun z' H4 Hs4 m3 M4 g4 st4 r4 s4 => ?_⟩
    obtain ⟨G, S, k⟩ := ZA g G2 st2' g4 st4
    have ry : RepP K H4 Hs4 σ y p2 m2 := (r2.frame st3.grow fun _ _ _ => rfl).frame st4.grow k
    have G' : Good H4 Hs4 (fun b => (m2 b + m3 b) + M4 b) := G.re fun b => by omega
    have S' : Stp H Hs M H4 Hs4 (fun b => (m2 b + m3 b) + M4 b) := S.drop (fun b => by omega) G.le
    obtain ⟨Hs5, M5, g5, st5, v5, v6, s5⟩ := Zmf G' s4 ry r4 e7 e8
    have z5 := ZA (m1 := fun _ => 0) g (G'.re fun b => by simp) (S'.drop (fun b => by simp) G'.le) g5 st5
    have S5 : Stp H Hs M H4 Hs5 (fun b => (m2 b + m3 b) + M5 b) := z5.2.1.drop (fun b => by simp) z5.1.le
    refine ⟨Hs5, y2, z3, m2, m3, t2, g5.sub, v5, v6, e9, ?_⟩
    have G6 : Good H4 Hs5 (fun b => (fun _ => 0) b + M5 b) := g5.re fun b => by simp
    exact q _ _ Hs5 (fun _ => 0) M5 G6 (S5.drop (fun b => by simp) g5.le) (.sc _ _) s5
theorem Zk7 {op op' : CmpOp} {ca cb cc : M Op} (hu : X.A.units + 64 < cLine) (ha : PE X a (tP X.K ca)) (hb : PE X b (tP X.K cb)) (hc : PE X c (tP X.K cc)) (hm : lastMarks [op, op'] [b, c] = false := by with_unfolding_all rfl) :
    PE X (.Compare a [op, op'] [b, c] pos) (tM X.K (Zk6 op op' ca cb cc)) := PE.imp (Znz (ZhG op hu) (ZhG op' hu) ha hb hc hm) fun σ H Q h => ZjH h
theorem ZmY {op op' : CmpOp} {ca cb cc : M Op} (hu : X.A.units + 64 < cLine) (ha : PE X a (tP X.K ca)) (hb : PE X b (tP X.K cb)) (hc : PE X c (tP X.K cc)) (hm : lastMarks [op, op'] [b, c] = false := by with_unfolding_all rfl) :
    PT X (.Compare a [op, op'] [b, c] pos) (tT X.K (ZdJ (Zk6 op op' ca cb cc))) := PT.imp (Zn0 (ZhG op hu) (ZhG op' hu) ha hb hc hm) fun σ H Q h => ZjH (Zjd h)
end
end T
namespace T
open PySem PySem.Spec L2
section
variable {X : Cx} {a b o e k : Expr} {pos pos' : Pos} {i : Nat} {lk : Nat -> Bool}
theorem Zad {ca cb : M Op} (hu : X.A.units + 64 < cLine) (ha : PE X a (tP X.K ca)) (hb : PE X b (tP X.K cb)) (hs : Zja b := by intro _ _; rfl) :
    PE X (.Subscript a b pos) (tM X.K (ca.bnd fun p => cb.bnd fun q => (view p).bnd fun x => (view q).bnd fun y => lift (ixW2 x y))) := ZsM ha hb hs
theorem Zjh {op : CmpOp} {ca cb : M Op} (hu : X.A.units + 64 < cLine) (ha : PE X a (tP X.K ca)) (hb : PE X b (tP X.K cb)) (hm : behindInMarks op b = false := by first | exact nomark _ | with_unfolding_all rfl) :
    PE X (.Compare a [op] [b] pos) (tM X.K (ca.bnd fun p => cb.bnd fun q => (view p).bnd fun x => (view q).bnd fun y => lift ((Zb5 op x y).map fun t => .sc (.bl t)))) := Zra hu ha hb hm
theorem Z8 {op : CmpOp} {ca cb : M Op} (hu : X.A.units + 64 < cLine) (ha : PE X a (tP X.K ca)) (hb : PE X b (tP X.K cb)) (hm : behindInMarks op b = false := by first | exact nomark _ | with_unfolding_all rfl) :
    PT X (.Compare a [op] [b] pos) (tT X.K (ZdJ (ca.bnd fun p => cb.bnd fun q => (view p).bnd fun x => (view q).bnd fun y => lift ((Zb5 op x y).map fun t => .sc (.bl t))))) := Zpt hu ha hb hm
theorem ZbR {c : M D} {ck : M Op} (hu : X.A.units + 64 < cLine) (ho : PE X o (tVar i)) (hk : PE X k (tP X.K ck)) (he : PE X e (tM X.K c))
    (ha : ∀ v, assign (.Subscript o k pos') X.env v = (do
      let ov <- holding [v] (eval o X.env)
      let iv <- holding [v, ov] (eval k X.env)
      standAt pos'
      holding [v, ov, iv] (setItem ov iv v)
      release [v, ov, iv] []) := by intro _; rfl)
    (hs : swapsWithSole [.Subscript o k pos'] e pos.line X.env = pure false := by rfl) (hw : swappedStores [.Subscript o k pos'] e X.env = pure none := by rfl)
    (h1 : (assignEach [.Subscript o k pos'] X.env).map (·.2) = [assign (.Subscript o k pos') X.env] := by rfl) :
    PS X (.Assign [.Subscript o k pos'] e pos) (tS X.K lk (c.bnd fun d => (Zbg i).bnd fun _ => (ck.bnd view).bnd fun w => (modS i (ZaL w d)).bnd fun _ => M.ret .nx)) := Zrj ho hk he ha hs hw h1
end
end T
namespace T
open PySem PySem.Spec L2
theorem Zho : ∀ (c : Int) (ds : List D), (Za3 c ds).length = ds.length
  | _, [] => rfl
  | c, d :: ds => by rw [Za3, List.length_cons, List.length_cons, Zho]
theorem Zk8 : ∀ (c : Int) (ds : List D) (i : Nat) {d : D}, (Za3 c ds)[i]? = some d -> ∃ x, ds[i]? = some x /\ d = .node .tup false [.sc (.int (c + i)), x]
  | _, [], i, _, h => by simp [Za3] at h
  | c, x :: ds, 0, d, h => by
    rw [Za3, List.getElem?_cons_zero] at h
    cases h
    exact ⟨x, rfl, by simp⟩
  | c, x :: ds, i + 1, d, h => by
    rw [Za3, List.getElem?_cons_succ] at h
    obtain ⟨y, e1, e2⟩ := Zk8 (c + 1) ds i h
    refine ⟨y, by rw [List.getElem?_cons_succ]; exact e1, ?_⟩
    have z : c + 1 + (i : Int) = c + ((i + 1 : Nat) : Int) := by omega
    rw [e2, z]
theorem ZmZ {K : Fg} {a : Addr} {vs : List V} {ds : List D} {B : Bud} {c : Int} : Walk K (Ite K a c) (Za3 c ds) B (fun H Hs => (SqL K Hs a vs \/ (H a = some (.lst vs) /\ B a ≥ 1)) /\ RepL K H Hs vs ds (fun _ => 0)) := by
  have sq : ∀ {H Hs : Hp}, Same Hs H -> (SqL K Hs a vs \/ (H a = some (.lst vs) /\ B a ≥ 1)) -> SqL K H a vs := fun g h => h.elim (fun h => g.seq h) fun h => .inl (.inl h.1)
  refine ⟨fun h g k => ⟨?_, h.2.frame g fun b hb => absurd hb (by simp)⟩, fun {H Hs i} g h l => ?_, fun {H Hs H' i x d} g h e y => ?_, fun {H Hs i} g h l => ?_⟩
  . rcases h.1 with h | ⟨h, hb⟩
    . exact .inl (g.seq h)
    . exact .inr ⟨(k a hb (by rw [h]; simp)).trans h, hb⟩
  . have e := h.2.len
    rw [Zho] at l
    exact ⟨vs, _, sq g h.1, List.getElem?_eq_getElem (show i < vs.length by omega)⟩
  . obtain ⟨x1, e1, e2⟩ := Zk8 c ds i e
    subst e2
    obtain ⟨A, y1, rfl, hA, rfl, hy⟩ := y
    obtain ⟨v, m1, ev, rv, lv⟩ := h.2.at e1
    have hv := hy vs (sq g h.1)
    rw [ev] at hv
    cases hv
    have gr : Grow H Hs (upd H A (.tup [.int (c + i), y1])) (upd Hs A (.tup [.int (c + i), y1])) := .inr ⟨A, _, hA, rfl, rfl⟩
    obtain ⟨sm, fr, _⟩ := gr.same g
    refine ⟨_, gr, .shd (k := .tup) (vs := [.int (c + i), y1]) (show _ = some _ from ZB) (.cons (m1 := fun _ => 0) (m2 := fun _ => 0) (.sc _ _) (.cons (m1 := fun _ => 0) (m2 := fun _ => 0) ((rv.mono lv).frame sm fun b _ n => fr b n) (.nil _) fun b => by simp) fun b => by simp)⟩
  . have e := h.2.len
    rw [Zho] at l
    exact ⟨vs, sq g h.1, by omega⟩
theorem ZrS {c cb : M Op} {n : Int} {δ δ' : List D} {h : List W × List (Nat × D)} (hcb : ∀ δ, cb δ = .ok (.tmp (.sc (.int n)), δ)) (e : ((c.bnd fun p => (cb.bnd fun p => (M.ret ([] : List Op)).bnd fun ps => M.ret (p :: ps)).bnd fun ps => M.ret (p :: ps)).bnd ZJ) δ = .ok (h, δ')) :
    ∃ p δ1 w, c δ = .ok (p, δ1) /\ holdV p δ1 = .ok (w, δ') /\ h = ([w.1, .sc (.int n)], w.2.toList) := by
  obtain ⟨ps, δ1, e1, e2⟩ := Ze e
  obtain ⟨p, δ2, e3, e4⟩ := Ze e1
  obtain ⟨qs, δ3, e5, e6⟩ := Ze e4
  obtain ⟨p2, δ4, e7, e8⟩ := Ze e5
  rw [hcb] at e7
  cases e7
  obtain ⟨z, δ5, e9, e10⟩ := Ze e8
  have := Zl e9
  cases this
  have := Zl e10
  cases this
  have := Zl e6
  cases this
  obtain ⟨w, δ6, e11, e12⟩ := Ze e2
  obtain ⟨ws, δ7, e13, e14⟩ := Ze e12
  obtain ⟨w2, δ8, e15, e16⟩ := Ze e13
  have := Zl e15
  cases this
  obtain ⟨z, δ9, e17, e18⟩ := Ze e16
  have := Zl e17
  cases this
  have := Zl e18
  cases this
  have := Zl e14
  cases this
  exact ⟨p, _, w, e3, e11, by simp⟩
theorem ZoG {X : Cx} {x : Str} {i : Int} {p : Pos} (hg : Gl X x) (h : ∃ t, X.mg x = some (.int i t)) (hd : (x == ("__debug__" : Str)) = false) : PE X (.Name x p) (tM X.K (M.ret (.sc (.int i)))) := by
  obtain ⟨t, h⟩ := h
  exact ok_k (ZaT hg h ⟨t, rfl⟩ hd)
theorem Zkg {X : Cx} {es : List Expr} {k1 : Nat} {q : Pos} {is : List Nat} (hc : X.calm = true) (hg : PGs X es (gNs is)) (hn : (assignEach es X.env).length = is.length := by rfl) (hst : (assignEach es X.env).findIdx? (·.1) = none := by rfl) : PG X (.Tuple es k1 q) (gT X.K (.tup is)) := ZmV hc hg hn hst
section
variable {X : Cx} {es : List Expr} {k1 : Nat} {l ke : Expr} {ca cb : M Op} {p pos q kp : Pos} {c : Int}
theorem ZlB (hl : PE X l (tP X.K ca)) (hcb : ∀ δ, cb δ = .ok (.tmp (.sc (.int c)), δ)) (σ : St) (H : Hp) (R : It -> Hp -> Prop) (h : tI X.K .enum (ca.bnd fun p => (cb.bnd fun p => (M.ret ([] : List Op)).bnd fun ps => M.ret (p :: ps)).bnd fun ps => M.ret (p :: ps)) σ H R) : ZlX X.K c (ZlN (tP X.K ca) tNil) σ H R /\ Builtin.SmallTypes.fitsIndex c = true := by
  obtain ⟨δ, Hs, M, h, items, δ', g, s, e, ei, z⟩ := h
  obtain ⟨p, δ1, w, e1, e2, rfl⟩ := ZrS hcb e
  obtain ⟨w1, w2⟩ := w
  have core : ∀ (x : V) (H2 Hs2 : Hp) (m1 M2 : Bud), Good H2 Hs2 (fun b => m1 b + M2 b) -> Stp H Hs M H2 Hs2 (fun b => m1 b + M2 b) -> RepP X.K H2 Hs2 σ x p m1 -> RepS X.K H2 Hs2 σ δ1 M2 ->
      ∃ Hs3 B M3, Good H2 Hs3 (fun b => B b + M3 b) /\ Stp H Hs M H2 Hs3 (fun b => B b + M3 b) /\ RepS X.K H2 Hs3 σ δ' M3 /\ Held X.K H2 Hs3 σ w2.toList B /\ HW X.K H2 Hs3 B x w1 := fun x H2 Hs2 m1 M2 g2 st2 r1 s2 => by
    obtain ⟨Hs3, B, M3, g3, st3, s3, hh, hw⟩ := ZgA g2 s2 r1 e2
    have z := ZA (m1 := fun _ => 0) g (g2.re fun b => by simp) (st2.drop (fun b => by simp) g2.le) g3 st3
    exact ⟨Hs3, B, M3, g3, z.2.1.drop (fun b => by simp) z.1.le, s3, hh, hw⟩
  have fit : okR c = true -> Builtin.SmallTypes.fitsIndex c = true := fun h => by
    simp only [okR, Bool.and_eq_true, decide_eq_true_eq] at h
    simp only [Builtin.SmallTypes.fitsIndex, Bool.and_eq_true, decide_eq_true_eq]
    omega
  cases w1 with
  | sc u => cases ei
  | nd k ds =>
    have hkk : (k = .lst \/ k = .frl) /\ okR c = true /\ items = Za3 c ds := by
      simp only [itW, ZoD] at ei
      split at ei
      . rename_i hk; cases ei; exact ⟨hk.1, hk.2, rfl⟩
      . cases ei
    obtain ⟨hk, hc, rfl⟩ := hkk
    refine ⟨⟨δ, Hs, M, p, δ1, g, s, e1, fun x H2 Hs2 m1 M2 g2 st2 r1 s2 => ?_⟩, fit hc⟩
    obtain ⟨Hs3, B, M3, g3, st3, s3, hh, a, vs, hx, hr, hn⟩ := core x H2 Hs2 m1 M2 g2 st2 r1 s2
    have hp : SqL X.K Hs3 a vs \/ (H2 a = some (.lst vs) /\ B a ≥ 1) := by
      rcases hk with rfl | rfl
      . exact hn.elim (fun n => .inl (.inl (.inl n))) fun n => .inr n
      . exact hn.elim (fun n => .inl n) fun n => n.1.elim
    refine ⟨a, by rw [hx], ⟨vs, ?_⟩, z _ _ H2 Hs3 B M3 g3 st3 s3 hh ZmZ ⟨hp, hr⟩⟩
    rcases hp with hp | hp
    . exact g3.sub.seq hp
    . exact .inl (.inl hp.1)
theorem Zih (hg : Gl X "enumerate") (hm : X.mg "enumerate" = none) (hl : PE X l (tP X.K ca)) (hcb : ∀ δ, cb δ = .ok (.tmp (.sc (.int 0)), δ) := by intro _; rfl) (hs : starEach [l] X.env = [(false, eval l X.env)] := by rfl) :
    PI X (.Tuple es k1 q) (.Call (.Name "enumerate" p) [l] [] pos) (tI X.K .enum (ca.bnd fun p => (cb.bnd fun p => (M.ret ([] : List Op)).bnd fun ps => M.ret (p :: ps)).bnd fun ps => M.ret (p :: ps))) := PI.imp (Zpr hg hm (ZaG hl ZcL (by rw [hs]; rfl)) hs) fun σ H R h => (ZlB hl hcb σ H R h).1
theorem ZnS (hg : Gl X "enumerate") (hm : X.mg "enumerate" = none) (hl : PE X l (tP X.K ca)) (hke : PE X ke (tC (.int c))) (hcb : ∀ δ, cb δ = .ok (.tmp (.sc (.int c)), δ) := by intro _; rfl) (hs : starEach [l] X.env = [(false, eval l X.env)] := by rfl) :
    PI X (.Tuple es k1 q) (.Call (.Name "enumerate" p) [l] [⟨some "start", ke, kp⟩] pos) (tI X.K .enum (ca.bnd fun p => (cb.bnd fun p => (M.ret ([] : List Op)).bnd fun ps => M.ret (p :: ps)).bnd fun ps => M.ret (p :: ps))) := fun pins s σ H R I h => by
  obtain ⟨h1, h2⟩ := ZlB hl hcb σ H R h
  exact ZnK hg hm (ZaG hl ZcL (by rw [hs]; rfl)) hke h2 hs pins s σ H R I h1
end
end T
namespace T
open PySem PySem.Spec L2 PySem.W
noncomputable abbrev dI (xs : List Int) : List D := xs.map fun i => D.sc (.int i)
theorem Zx (x : Int) (xs : List Int) : dI (x :: xs) = .sc (.int x) :: dI xs := (rfl)
theorem Zbd : dI [] = [] := (rfl)
theorem ZbB (xs ys : List Int) : dI (xs ++ ys) = dI xs ++ dI ys := List.map_append
theorem ZP (xs : List Int) : (dI xs).length = xs.length := List.length_map _
theorem Zr (xs : List Int) : shrL (dI xs) = dI xs := by
  induction xs with
  | nil => rfl
  | cons x xs ih => simp only [List.map_cons, shrL, shr] at ih ⊢; rw [ih]
theorem Zld (xs : List Int) : Zd2 (dI xs) = some xs := by
  induction xs with
  | nil => rfl
  | cons x xs ih => simp only [List.map_cons, Zd2] at ih ⊢; rw [ih]; rfl
theorem Zux (ds : List D) : bfW .sum [.nd .lst ds] = (Zd2 ds).map fun is => .sc (.int is.sum) := (rfl)
theorem ZfX (xs : List Int) : bfW .sum [.nd .lst (dI xs)] = some (.sc (.int xs.sum)) := by rw [Zux, Zld]; rfl
theorem ZoH (w : W) : bfW (.isi .bool) [w] = (tyW .bool w).map fun b => .sc (.bl b) := (rfl)
theorem Zii (xs : List Int) : pyL (dI xs) = some (xs.map PyData.int) := by
  induction xs with
  | nil => rfl
  | cons x xs ih => simp only [List.map_cons, pyL, py] at ih ⊢; rw [ih]; rfl
theorem Zij (xs : List Int) : PyData.canLayAll0 (xs.map PyData.int) = true := by
  induction xs with
  | nil => rfl
  | cons x xs ih => simp only [List.map_cons, PyData.canLayAll0, PyData.canLay0, ih, Bool.and_self]
theorem Zhp (xs : List Int) : PyData.depthAll (xs.map PyData.int) = 0 := by
  induction xs with
  | nil => rfl
  | cons x xs ih => simp only [List.map_cons, PyData.depthAll, PyData.depth, ih, Nat.max_self]
theorem ZhZ (xs : List Int) : SeqAt.shaped (.list (xs.map PyData.int)) = true := by
  simp only [SeqAt.shaped, PyData.canLay0, PyData.depth, Zij, Zhp]
  decide
theorem Zik : ∀ xs ys : List Int, PyData.eqvAll (xs.map PyData.int) (ys.map PyData.int) = decide (xs = ys)
  | [], [] => by simp only [List.map_nil, PyData.eqvAll, decide_true]
  | [], y :: ys => by simp [PyData.eqvAll]
  | x :: xs, [] => by simp [PyData.eqvAll]
  | x :: xs, y :: ys => by
    simp only [List.map_cons, PyData.eqvAll, PyData.eqv, Zik xs ys]
    (by_cases h1 : x = y <;> by_cases h2 : xs = ys <;> simp [h1, h2])
theorem ZiC (xs ys : List Int) : Zb5 .Eq (.nd .lst (dI xs)) (.nd .lst (dI ys)) = some (decide (xs = ys)) := by
  show (py (.node .lst false (dI xs))).bind (fun a => (py (.node .lst false (dI ys))).bind fun b => eqPy a b) = _
  simp only [py, Zii, Option.map_some, Option.bind_some]
  unfold eqPy
  rw [if_pos ⟨ZhZ xs, ZhZ ys⟩]
  simp only [PyData.eqv, Zik]
noncomputable def cutI (xs : List Int) (lo hi : Option Int) : List Int := (xs.drop (HT.sIx xs.length 0 lo)).take (HT.sIx xs.length xs.length hi - HT.sIx xs.length 0 lo)
theorem ZfY (xs : List Int) (lo hi : Option Int) : cutD (dI xs) lo hi = dI (cutI xs lo hi) := by
  unfold cutD cutI
  simp only [List.length_map, List.map_take, List.map_drop]
theorem ZpB (xs : List Int) (lo hi : Option Int) : (cutI xs lo hi).length <= xs.length := by
  unfold cutI
  rw [List.length_take, List.length_drop]
  omega
theorem ZnT (xs : List Int) (k : Nat) (h : k <= xs.length) (h0 : 0 < k) : (cutI xs none (some (-(k : Int)))).length = xs.length - k := by
  unfold cutI
  rw [List.length_take, List.length_drop]
  have e : HT.sIx xs.length xs.length (some (-(k : Int))) = xs.length - k := by
    show (if -(k : Int) < 0 then (-(k : Int) + (xs.length : Int)).toNat else min (-(k : Int)).toNat xs.length) = _
    rw [if_pos (by omega)]
    omega
  rw [e]
  show min (xs.length - k - 0) (xs.length - 0) = _
  omega
theorem ZnU (xs : List Int) (k : Nat) : cutI xs (some (k : Int)) (some ((k : Int) + 1)) = (xs[k]?).toList := by
  unfold cutI
  have e1 : ((k : Int) + 1) = ((k + 1 : Nat) : Int) := by omega
  rw [e1, HT.Zlz, HT.Zlz]
  by_cases h : k < xs.length
  . rw [Nat.min_eq_left (by omega), Nat.min_eq_left (by omega), List.getElem?_eq_getElem h, List.drop_eq_getElem_cons h]
    have : k + 1 - k = 1 := by omega
    rw [this]
    rfl
  . rw [Nat.min_eq_right (by omega), Nat.min_eq_right (by omega), List.getElem?_eq_none (by omega)]
    simp
noncomputable def rngI : Int -> Nat -> List Int
  | _, 0 => []
  | a, n + 1 => a :: rngI (a + 1) n
theorem ZpC (a : Int) : ∀ (n : Nat) (f : Nat -> Int), (∀ k, f k = a + k) -> (List.range n).map (fun k => D.sc (.int (f k))) = dI (rngI a n) := by
  intro n
  induction n generalizing a with
  | zero => intro f _; rfl
  | succ n ih =>
    intro f hf
    (rw [List.range_succ_eq_map, List.map_cons, List.map_map])
    show _ = D.sc (.int a) :: dI (rngI (a + 1) n)
    have h0 : f 0 = a := by rw [hf]; simp
    rw [h0]
    congr 1
    exact ih (a + 1) (fun k => f (k + 1)) fun k => by rw [hf]; omega
theorem Zk9 (a b : Int) : rng a b = dI (rngI a (b - a).toNat) := ZpC a _ (fun k => a + k) fun k => rfl
theorem Zcc (a : Int) : ∀ n, (rngI a n).length = n := by
  intro n
  induction n generalizing a with
  | zero => rfl
  | succ n ih => rw [rngI, List.length_cons, ih]
theorem Zbs (a : Int) : ∀ n x, x ∈ rngI a n ↔ a <= x /\ x < a + n := by
  intro n
  induction n generalizing a with
  | zero => intro x; simp only [rngI, List.not_mem_nil, false_iff]; omega
  | succ n ih => intro x; rw [rngI, List.mem_cons, ih]; omega
theorem Zeu (n : Int) (h : -(2 ^ 62) <= n /\ n < 2 ^ 62) : itW .rng1 [.sc (.int n)] = some (dI (rngI 0 n.toNat)) := by
  rw [it_1 n (by simp only [okR, Bool.and_eq_true, decide_eq_true_eq]; exact h), Zk9]
  have : n - 0 = n := by omega
  rw [this]
theorem ZoI (a b : Int) (h : -(2 ^ 62) <= a /\ a < 2 ^ 62 /\ -(2 ^ 62) <= b /\ b < 2 ^ 62) : itW .rng2 [.sc (.int a), .sc (.int b)] = some (dI (rngI a (b - a).toNat)) := by
  rw [it_2 a b (by simp only [okR, Bool.and_eq_true, decide_eq_true_eq]; exact ⟨⟨h.1, h.2.1⟩, h.2.2⟩), Zk9]
theorem it_e (ds : List D) (c : Int) (h : -(2 ^ 62) <= c /\ c < 2 ^ 62) : itW .enum [.nd .lst ds, .sc (.int c)] = some (Za3 c ds) := by
  show (if _ then _ else _) = _
  rw [if_pos ⟨.inl rfl, by simp only [okR, Bool.and_eq_true, decide_eq_true_eq]; exact h⟩]
theorem ZfZ (lk : Nat -> Bool) (is : List Nat) (o : Bool) (ds : List D) : asgT lk (.tup is) (.node .tup o ds) = ZdI lk is ds := (rfl)
theorem ixI (xs : List Int) (k : Int) (h0 : 0 <= k) (h : k < xs.length) : ((ixN' (dI xs).length k).bind fun j => (dI xs)[j]?) = some (.sc (.int (xs.getD k.toNat 0))) := by
  rw [List.length_map]
  unfold ixN'
  rw [if_pos h0, if_pos h]
  (have hk : k.toNat < xs.length := by omega)
  show (dI xs)[k.toNat]? = _
  rw [List.getElem?_map, List.getElem?_eq_getElem hk, List.getD_eq_getElem?_getD, List.getElem?_eq_getElem hk]
  rfl
noncomputable def notV : E -> Bool
  | .v _ => false
  | _ => true
theorem ZcQ {e : E} {c : M D} {lk : Nat -> Bool} (h : notV e = true) : ZfO (Zt e c) lk := by
  rw [Zp0 fun j z => by subst z; cases h]
  exact Zrl
section
variable {asg : D -> M Unit} {cond : M Bool} {elt : M D} {d : D} {ds acc δ δ' δ1 caps : List D} {k : Nat} {js : List Nat} {loop : M (List D)}
theorem Zd3 : ZaM asg cond elt (d :: ds) acc δ = ((asg d).bnd fun _ => cond.bnd fun b => if b then elt.bnd fun x => ZaM asg cond elt ds (acc ++ [x]) else ZaM asg cond elt ds acc) δ := (rfl)
noncomputable def Zb0 (fok : Addr -> Str -> Bool) (fuel k : Nat) (tg : Tg) (cond : List E) (elt : E) (items acc : List D) : M (List D) := ZaM (asgT (fun i => decide (k <= i)) tg) (tsts ⟨fun i => decide (k <= i), fok, fuel⟩ cond) (evb ⟨fun i => decide (k <= i), fok, fuel⟩ elt).1 items acc
theorem ZpD (C : Ctx) (k : Nat) (js : List Nat) (tg : Tg) (ik : IK) (es es' : List E) (a : E) : (evb C (.comp k js tg ik es es' a)).1 = ((opds C es).bnd fun ps => (ZJ ps).bnd fun h => (lift (itW ik h.1)).bnd fun items => (Zb6 k js (Zb0 C.fok C.fuel k tg es' a items [])).bnd fun d => (Zax h.2).bnd fun _ => M.ret d) := (rfl)
theorem ZbH (h1 : ZeX js δ = .ok (caps, δ1)) (h2 : loop (List.replicate k .hole ++ caps) = .ok (acc, δ')) (h3 : acc.length <= sizeLine) : Zb6 k js loop δ = ((Zdm js (δ'.drop k)).bnd fun _ => M.ret (.node .lst true acc)) δ1 := by
  unfold Zb6
  rw [ZmX h1, h2]
  show ((Zdm js (δ'.drop k)).bnd fun _ => lift (newL acc)) δ1 = _
  rw [Zas _ h3]
  rfl
end
end T
namespace T
open PySem PySem.Spec L2
theorem ZpE {K : Fg} {ca : M Op} {p : Bool} {σ : St} {H : Hp} {Q : Bool -> Hp -> Prop} (h : tT K ((((ca.bnd view).bnd fun x => M.ret (isNW p x)).bnd fun d => M.ret (.tmp d)).bnd fun q => (view q).bnd fun w => lift (truW w)) σ H Q) :
    tM K ((ca.bnd view).bnd fun x => M.ret (isNW p x)) σ H (fun x H' => ∃ k, x = .bl k /\ Q k H') := by
  obtain ⟨δ, Hs, M, b, δ', g, s, e, q⟩ := h
  obtain ⟨op, δ1, e1, e2⟩ := Ze e
  obtain ⟨d, δ2, e3, e4⟩ := Ze e1
  have := Zl e4
  cases this
  have hb : ∃ t, d = .sc (.bl t) := by
    obtain ⟨x, δ3, e5, e6⟩ := Ze e3
    have := Zl e6
    cases this
    cases x <;> exact ⟨_, rfl⟩
  obtain ⟨t, rfl⟩ := hb
  obtain ⟨w, δ4, e7, e8⟩ := Ze e2
  have := Zl (show T.M.ret (W.sc (.bl t)) δ1 = .ok (w, δ4) from e7)
  cases this
  obtain ⟨e9, rfl⟩ := ZaH e8
  cases e9
  refine Zjd (c := (ca.bnd view).bnd fun x => T.M.ret (isNW p x)) ⟨δ, Hs, M, _, _, g, s, ?_, q⟩
  unfold ZdJ
  rw [ZmX e3]
  rfl
theorem Zc1 (C : T.Ctx) (op op' : CmpOp) (a b e : E) : (evb C (.chain op op' a b e)).1 = ((Zt a (evb C a).1).bnd fun p => (Zt b (evb C b).1).bnd fun q => (view p).bnd fun x => (view q).bnd fun y => (lift (cmpW op x y)).bnd fun t => if t then (Zt e (evb C e).1).bnd fun r => (view q).bnd fun y => (view r).bnd fun z => lift ((cmpW op' y z).map fun t => .sc (.bl t)) else M.ret (.sc (.bl false))) := (rfl)
section
variable {X : Cx} {a : Expr} {pos pos' : Pos} {ca : M Op}
theorem ZgC (ha : PE X a (tP X.K ca)) {j} : PT X (.Compare a [.Is] [.Constant .none j pos'] pos) (tT X.K ((((ca.bnd view).bnd fun x => M.ret (isNW true x)).bnd fun d => M.ret (.tmp d)).bnd fun q => (view q).bnd fun w => lift (truW w))) := PT.imp (Zqs (Zqr ha)) fun σ H Q h => by
  have h2 : tM X.K ((ca.bnd view).bnd fun x => lift (some (isNW true x))) σ H _ := ZpE h
  exact op1 (r := fun x H1 Q => Q (.bl (decide (x = .non))) H1) h2 fun x H Hs w m d g h1 h2 v e o => by
    cases e
    rw [(Zp1 v).1] at o
    exact o.sc
end
end T
namespace T
open PySem PySem.Spec L2
def NX {α : Type} (c : M α) : Prop := ∀ δ x δ', c δ ≠ .exc x δ'
section
variable {α β : Type}
theorem Zq (a : α) : NX (M.ret a) := fun δ x δ' h => by cases h
theorem Za2 : NX (stk (α := α)) := fun δ x δ' h => by cases h
theorem Zg {c : M α} {f : α -> M β} (h : NX c) (k : ∀ a, NX (f a)) : NX (c.bnd f) := fun δ x δ' e => by
  unfold M.bnd at e
  split at e
  . exact k _ _ _ _ e
  . rename_i y z q; exact h _ _ _ q
  . cases e
theorem ZM (o : Option α) : NX (lift o) := by cases o <;> first | exact Zq _ | exact Za2
theorem Zhq {p : Prop} [Decidable p] {a b : M α} (h : NX a) (k : NX b) : NX (if p then a else b) := by split <;> assumption
end
theorem ZhH (i : Nat) : NX (Zbg i) := fun δ x δ' h => by unfold Zbg at h; split at h <;> cases h
theorem Zbe {e : E} {c : M D} (h : NX c) : NX (Zt e c) := by
  cases e <;> first | exact ZhH _ | exact Zg h fun _ => Zq _
theorem ZaI (p : Op) : NX (view p) := by
  cases p with
  | tmp d => cases d <;> first | exact Zq _ | exact Za2
  | late i => intro δ x δ' h; unfold view at h; dsimp only at h; split at h <;> cases h
theorem ZgP : ∀ ps, NX (views ps)
  | [] => Zq _
  | p :: ps => Zg (ZaI p) fun _ => Zg (ZgP ps) fun _ => Zq _
theorem Zji (i : Nat) : NX (valV i) := fun δ x δ' h => by unfold valV at h; split at h <;> cases h
theorem ZpF (i : Nat) : NX (movV i) := fun δ x δ' h => by unfold movV at h; split at h <;> cases h
theorem ZnV (l : Bool) (p : Op) : NX (takeA l p) := by
  cases p with
  | tmp d => exact Zq _
  | late i => intro δ x δ' h; unfold takeA at h; dsimp only at h; split at h <;> (first | cases h | (split at h <;> cases h))
theorem Zgs (l : Bool) : ∀ ps, NX (ZbQ l ps)
  | [] => Zq _
  | p :: ps => Zg (ZnV l p) fun _ => Zg (Zgs l ps) fun _ => Zq _
theorem ZnW (p : Op) (d : D) : NX (giveA p d) := by
  cases p with
  | tmp d => exact Zq _
  | late i => intro δ x δ' h; unfold giveA at h; dsimp only at h; split at h <;> cases h
theorem Zhr : ∀ ps ds, NX (Zaj ps ds)
  | p :: ps, d :: ds => Zg (ZnW p d) fun _ => Zhr ps ds
  | [], _ => Zq _
  | _ :: _, [] => Zq _
theorem ZkA (f : FI) (ps : List Op) : NX (Zfi f ps) := Zg (Zgs _ _) fun ds => by
  cases f.run ds with
  | ok r => exact Zg (Zhr _ _) fun _ => Zq _
  | exc x y => exact Za2
  | stuck => exact Za2
theorem ZpG (A : Addr) (m : Str) (p : Op) : NX (chkI A m p) := by
  cases p with
  | late i => intro δ x δ' h; unfold chkI at h; dsimp only at h; split at h <;> (first | cases h | (split at h <;> cases h))
  | tmp d =>
    cases d with
    | node k o ds =>
      cases k with
      | ins B fs => intro δ x δ' h; unfold chkI at h; dsimp only at h; split at h <;> cases h
      | _ => exact Za2
    | _ => exact Za2
theorem ZpH (C : Addr) (f : FI) (ps : List Op) : NX (newF C f ps) := Zg (Zgs _ _) fun ds => by
  cases f.run (.node (.ins C []) true [] :: ds) with
  | ok r =>
    obtain ⟨d, l⟩ := r
    cases d with
    | sc v =>
      cases v with
      | non =>
        cases l with
        | nil => exact Za2
        | cons d ds => exact Zg (Zhr _ _) fun _ => Zq _
      | _ => exact Za2
    | _ => exact Za2
  | exc x y => exact Za2
  | stuck => exact Za2
theorem ZhI (lk : Nat -> Bool) (i : Nat) (d : D) : NX (asgN lk i d) := fun δ x δ' h => by unfold asgN at h; split at h <;> cases h
theorem ZgQ (lk : Nat -> Bool) : ∀ is ds, NX (ZdI lk is ds)
  | [], [] => Zq _
  | i :: is, d :: ds => Zg (ZhI lk i d) fun _ => ZgQ lk is ds
  | [], _ :: _ => Za2
  | _ :: _, [] => Za2
theorem ZpI (lk : Nat -> Bool) (t : Tg) (d : D) : NX (asgT lk t d) := by
  cases t with
  | name i => exact ZhI _ _ _
  | tup is =>
    cases d with
    | node k o ds => cases k <;> first | exact ZgQ _ _ _ | exact Za2
    | _ => exact Za2
theorem ZgD (i : Nat) (f : Kd -> List D -> Option (D × Kd × List D)) : NX (modS i f) := fun δ x δ' h => by
  unfold modS at h
  split at h
  . split at h <;> cases h
  . cases h
theorem ZpJ (i : Nat) (ds : List D) : NX (appM i ds) := by
  unfold appM
  split
  . exact ZgD _ _
  . exact Za2
theorem ZlC (i : Nat) : NX (chkL i) := fun δ x δ' h => by unfold chkL at h; split at h <;> cases h
theorem ZnX (p : Op) : NX (holdV p) := by
  cases p with
  | tmp d => cases d <;> first | exact Zq _ | exact Za2
  | late i => intro δ x δ' h; unfold holdV at h; dsimp only at h; split at h <;> cases h
theorem Zhs : ∀ ps, NX (ZJ ps)
  | [] => Zq _
  | p :: ps => Zg (ZnX p) fun _ => Zg (Zhs ps) fun _ => Zq _
theorem ZkB : ∀ h, NX (Zax h)
  | [] => Zq _
  | (i, d) :: r => fun δ x δ' e => ZkB r _ _ _ e
theorem ZiD : ∀ js, NX (ZeX js)
  | [] => Zq _
  | j :: js => fun δ x δ' e => by
    unfold ZeX at e
    split at e
    . exact Zg (ZiD js) (fun _ => Zq _) _ _ _ e
    . cases e
theorem ZiE : ∀ js ds, NX (Zdm js ds)
  | j :: js, d :: ds => fun δ x δ' e => ZiE js ds _ _ _ e
  | [], _ => Zq _
  | _ :: _, [] => Zq _
theorem ZnY (k : Nat) (js : List Nat) (l : M (List D)) : NX (Zb6 k js l) := Zg (ZiD js) fun caps δ x δ' e => by
  split at e
  . exact Zg (ZiE _ _) (fun _ => ZM _) _ _ _ e
  . cases e
  . cases e
theorem ZkC {e : E} {c : M Op} (h : NX c) : NX (ZdH e c) := by
  unfold ZdH
  split
  . exact Zq _
  . exact Zg (Zg h fun p => ZaI p) fun _ => ZM _
theorem ZpK {b : M D} (h : NX b) (w : W) : NX (andM b w) := by
  unfold andM
  split
  . exact h
  . exact Zq _
  . exact Za2
theorem ZrT {b : M D} (h : NX b) (w : W) : NX (T.orM b w) := by
  unfold T.orM
  split
  . exact h
  . exact Zq _
  . exact Za2
theorem ZkD {c : M D} (h : NX c) : NX (ZdJ c) := Zg h fun _ => ZM _
theorem ZX {e : E} {c : M D} (h : NX c) : NX (tdef e c) := Zg (Zbe h) fun p => Zg (ZaI p) fun _ => ZM _
theorem ZbS {e : E} {c : M D} (h : NX c) : NX (vdef e c) := Zg (Zbe h) fun p => ZaI p
theorem ZpL (lk : Nat -> Bool) (is : List Nat) (w : W) : NX (unpM lk is w) := by
  unfold unpM
  split
  . exact ZgQ _ _ _
  . exact ZgQ _ _ _
  . exact Za2
mutual
theorem Zy (C : Ctx) : ∀ e : E, NX (evb C e).1 /\ NX (evb C e).2
  | .k v => ⟨Zq _, ZX (e := .k v) (c := M.ret (D.sc v)) (Zq _)⟩
  | .g d => ⟨Zq _, ZX (e := .g d) (Zq d)⟩
  | .v i => ⟨Zji i, ZX (Zji i)⟩
  | .bin op a b => by
    have h : NX (evb C (.bin op a b)).1 := Zg (Zbe (Zy C a).1) fun p => Zg (Zbe (Zy C b).1) fun q => Zg (ZaI p) fun x => Zg (ZaI q) fun y => ZM _
    exact ⟨h, ZX h⟩
  | .neg a => by
    have h : NX (evb C (.neg a)).1 := Zg (ZbS (Zy C a).1) fun x => ZM _
    exact ⟨h, ZX h⟩
  | .cmp op a b => by
    have h : NX (evb C (.cmp op a b)).1 := Zg (Zbe (Zy C a).1) fun p => Zg (Zbe (Zy C b).1) fun q => Zg (ZaI p) fun x => Zg (ZaI q) fun y => ZM _
    exact ⟨h, ZkD h⟩
  | .chain op op' a b e => by
    have h : NX (evb C (.chain op op' a b e)).1 := Zg (Zbe (Zy C a).1) fun p => Zg (Zbe (Zy C b).1) fun q => Zg (ZaI p) fun x => Zg (ZaI q) fun y => Zg (ZM _) fun t =>
      Zhq (Zg (Zbe (Zy C e).1) fun r => Zg (ZaI q) fun y => Zg (ZaI r) fun z => ZM _) (Zq _)
    exact ⟨h, ZkD h⟩
  | .isN p a => by
    have h : NX (evb C (.isN p a)).1 := Zg (ZbS (Zy C a).1) fun x => Zq _
    exact ⟨h, ZX h⟩
  | .isB c p a => by
    have h : NX (evb C (.isB c p a)).1 := Zg (ZbS (Zy C a).1) fun x => ZM _
    exact ⟨h, ZX h⟩
  | .nt a => ⟨Zg (ZbS (Zy C a).1) fun w => ZM _, Zg (Zy C a).2 fun b => Zq _⟩
  | .and a b => ⟨Zg (ZbS (Zy C a).1) (ZpK (Zy C b).1), Zg (Zy C a).2 fun t => Zhq (Zy C b).2 (Zq _)⟩
  | .or a b => ⟨Zg (ZbS (Zy C a).1) (ZrT (Zy C b).1), Zg (Zy C a).2 fun t => Zhq (Zq _) (Zy C b).2⟩
  | .ife c a b => by
    have h : NX (evb C (.ife c a b)).1 := Zg (Zy C c).2 fun t => Zhq (Zy C a).1 (Zy C b).1
    exact ⟨h, ZX h⟩
  | .ix a i => by
    have h : NX (evb C (.ix a i)).1 := Zg (Zbe (Zy C a).1) fun p => Zg (Zbe (Zy C i).1) fun q => Zg (ZaI p) fun x => Zg (ZaI q) fun y => ZM _
    exact ⟨h, ZX h⟩
  | .sl a lo hi => by
    have h : NX (evb C (.sl a lo hi)).1 := Zg (Zbe (Zy C a).1) fun p => Zg (ZkC (Zbe (Zy C lo).1)) fun q => Zg (ZkC (Zbe (Zy C hi).1)) fun x => Zg (ZaI p) fun y => ZM _
    exact ⟨h, ZX h⟩
  | .fld a f => by
    have h : NX (evb C (.fld a f)).1 := Zg (ZbS (Zy C a).1) fun x => ZM _
    exact ⟨h, ZX h⟩
  | .lst es => by
    have h : NX (evb C (.lst es)).1 := Zg (ZiF C es) fun x => ZM _
    exact ⟨h, ZX h⟩
  | .tup es => by
    have h : NX (evb C (.tup es)).1 := Zg (ZiF C es) fun x => ZM _
    exact ⟨h, ZX h⟩
  | .kl vs => ⟨ZM _, ZX (ZM _)⟩
  | .kt vs => ⟨ZM _, ZX (ZM _)⟩
  | .dct0 => ⟨Zq _, ZX (e := .dct0) (c := M.ret (D.node (.dic []) true [])) (Zq _)⟩
  | .call f es => by
    have h : NX (evb C (.call f es)).1 := Zg (ZbT C es) fun x => ZkA _ _
    exact ⟨h, ZX h⟩
  | .bf f es => by
    have h : NX (evb C (.bf f es)).1 := Zg (ZbT C es) fun x => Zg (ZgP _) fun _ => ZM _
    exact ⟨h, ZX h⟩
  | .bm m o es => by
    have h : NX (evb C (.bm m o es)).1 := Zg (ZbS (Zy C o).1) fun w => Zg (ZM _) fun z => Zg (ZbT C es) fun x => Zg (ZgP _) fun _ => ZM _
    exact ⟨h, ZX h⟩
  | .mut m i ps es => by
    have h1 : NX ((chkL i).bnd fun _ => (evs C es).bnd fun ds => appM i ds) := Zg (ZlC i) fun _ => Zg (ZiF C es) fun _ => ZpJ _ _
    have h2 : ∀ m, NX ((chkL i).bnd fun _ => (opds C es).bnd fun ps => (views ps).bnd fun ws => modS i (mutD m ws)) := fun m => Zg (ZlC i) fun _ => Zg (ZbT C es) fun _ => Zg (ZgP _) fun _ => ZgD _ _
    have h : NX (evb C (.mut m i ps es)).1 := by
      cases ps with
      | nil => cases m <;> first | exact h1 | exact h2 _
      | cons p ps => cases m <;> exact Za2
    exact ⟨h, ZX h⟩
  | .meth A m f o es => by
    have h : NX (evb C (.meth A m f o es)).1 := Zg (Zbe (Zy C o).1) fun p => Zg (ZpG _ _ _) fun _ => Zg (ZbT C es) fun x => ZkA _ _
    exact ⟨h, ZX h⟩
  | .new A f es => by
    have h : NX (evb C (.new A f es)).1 := Zg (ZbT C es) fun x => ZpH _ _ _
    exact ⟨h, ZX h⟩
  | .comp k js tg ik ies cond elt => by
    have h : NX (evb C (.comp k js tg ik ies cond elt)).1 := Zg (ZbT C ies) fun ps => Zg (Zhs _) fun h => Zg (ZM _) fun items => Zg (ZnY _ _ _) fun d => Zg (ZkB _) fun _ => Zq _
    exact ⟨h, ZX h⟩
  | .fs es => by
    have h : NX (evb C (.fs es)).1 := Zna C es _
    exact ⟨h, ZX h⟩
theorem Zna (C : Ctx) : ∀ (es : List E) (acc : Str), NX (fss C es acc)
  | [], acc => Zq _
  | e :: es, acc => Zg (ZbS (Zy C e).1) fun w => Zg (ZM _) fun acc' => Zna C es acc'
theorem ZbT (C : Ctx) : ∀ es : List E, NX (opds C es)
  | [] => Zq _
  | e :: es => Zg (Zbe (Zy C e).1) fun p => Zg (ZbT C es) fun ps => Zq _
theorem ZiF (C : Ctx) : ∀ es : List E, NX (evs C es)
  | [] => Zq _
  | e :: es => Zg (Zy C e).1 fun p => Zg (ZiF C es) fun ps => Zq _
end
theorem ZpM (C : Ctx) (e : E) : NX (retV C e) := by
  unfold retV
  split
  . exact Zhq (Zji _) (ZpF _)
  . exact (Zy C _).1
noncomputable def leaf : S -> Bool
  | .asg _ _ => true | .unp _ _ => true | .sub _ [] _ _ => true | .attr _ _ _ => true | .attrX _ _ _ => true | .ex _ => true | .ret _ => true | .retN => true | .pass => true | .brk => true | .cnt => true
  | _ => false
theorem ZpN (C : Ctx) (s : S) (h : leaf s = true) : NX (ex C s) := by
  cases s with
  | asg i e => exact Zg (Zy C e).1 fun d => Zg (ZhI _ _ _) fun _ => Zq _
  | unp is e => exact Zg (ZbS (Zy C e).1) fun w => Zg (ZpL _ _ _) fun _ => Zq _
  | sub i ps x e =>
    cases ps with
    | nil => exact Zg (Zy C e).1 fun d => Zg (ZhH i) fun _ => Zg (ZbS (Zy C x).1) fun w => Zg (ZgD _ _) fun _ => Zq _
    | cons p ps => cases h
  | attr i f e => exact Zg (Zy C e).1 fun d => Zg (ZhH i) fun _ => Zg (ZgD _ _) fun _ => Zq _
  | attrX i f e => exact Zg (Zy C e).1 fun d => Zg (ZhH i) fun _ => Zg (ZgD _ _) fun _ => Zq _
  | ex e => exact Zg (Zy C e).1 fun _ => Zq _
  | ret e => exact Zg (ZpM C e) fun _ => Zq _
  | retN => exact Zq _
  | pass => exact Zq _
  | brk => exact Zq _
  | cnt => exact Zq _
  | _ => cases h
end T
namespace T
open PySem PySem.Spec L2
def ZhJ (K : Fg) (lk : Nat -> Bool) (xc : Addr -> St -> Hp -> Prop) (σ : St) (H Hs : Hp) (M : Bud) (x : D) (δ' : List D) : Prop :=
  ∀ (ea : Addr) (σ' : St) (H' Hs' : Hp) (m M' : Bud), Keeps lk σ σ' -> Good H' Hs' (fun b => m b + M' b) -> Stp H Hs M H' Hs' (fun b => m b + M' b) -> Rep K H' Hs' (.ref ea) x m -> RepS K H' Hs' σ' δ' M' -> xc ea σ' H'
def Zcd (K : Fg) (lk : Nat -> Bool) (E : EndX) (σ : St) (H Hs : Hp) (M : Bud) : Rs (Fl × List D) -> Prop
  | .ok (f, δ') => Post K lk E.toEnds σ H Hs M f δ'
  | .exc x δ' => ZhJ K lk E.xc σ H Hs M x δ'
  | .stuck => False
def tX (K : Fg) (lk : Nat -> Bool) (c : M Fl) : TX := fun E σ H => ∃ (δ : List D) (Hs : Hp) (M : Bud), Good H Hs M /\ RepS K H Hs σ δ M /\ Zcd K lk E σ H Hs M (c δ)
section
variable {K : Fg} {H H' Hs H0 Hs0 : Hp} {M M0 : Bud}
theorem Zjj (k : Same H H') : ∀ b, H b ≠ none -> H' b = H b := fun b h => by
  cases e : H b with
  | none => exact absurd e h
  | some o => exact k b o e
theorem ZhJ.ahead {lk : Nat -> Bool} {xc : Addr -> St -> Hp -> Prop} {σ σ1 : St} {H1 Hs1 : Hp} {M1 : Bud} {x : D} {δ' : List D} (k : Keeps lk σ σ1) (g : Good H Hs M) (g1 : Good H1 Hs1 M1) (st : Stp H Hs M H1 Hs1 M1) (h : ZhJ K lk xc σ H Hs M x δ') : ZhJ K lk xc σ1 H1 Hs1 M1 x δ' :=
  fun ea σ' H' Hs' m M' k' g' st' rv r => h ea σ' H' Hs' m M' (k.trans k') g' (by
    have z := ZA (m1 := fun _ => 0) g (g1.re fun b => by simp) (st.drop (fun b => by simp) g1.le) g' st'
    exact z.2.1.drop (fun b => by simp) z.1.le) rv r
theorem Zcd.ahead {lk : Nat -> Bool} {E : EndX} {σ σ1 : St} {H1 Hs1 : Hp} {M1 : Bud} {r : Rs (Fl × List D)} (k : Keeps lk σ σ1) (g : Good H Hs M) (g1 : Good H1 Hs1 M1) (st : Stp H Hs M H1 Hs1 M1) (h : Zcd K lk E σ H Hs M r) : Zcd K lk E σ1 H1 Hs1 M1 r := by
  cases r with
  | ok z => exact Post.ahead k g g1 st h
  | exc x δ' => exact ZhJ.ahead k g g1 st h
  | stuck => exact h
end
section
variable {X : Cx} {e a b c o : Expr} {st : Stmt} {rest : List Stmt} {pos pos' : Pos} {lk : Nat -> Bool} {i : Nat} {x : Str}
theorem Znb {c : M Fl} (h : PS X st (tS X.K lk c)) (n : NX c) : PX X st (tX X.K lk c) := PX.imp (PS.x h) fun E σ H ⟨δ, Hs, M, g, s, q⟩ => by
  cases e : c δ with
  | ok z => rw [e] at q; exact ⟨δ, Hs, M, z.1, z.2, g, s, e, q⟩
  | exc x δ' => exact absurd e (n _ _ _)
  | stuck => rw [e] at q; exact q.elim
theorem Zan {C : Ctx} {s : S} (h : PS X st (tS X.K lk (ex C s))) (n : leaf s = true := by rfl) : PX X st (tX X.K lk (ex C s)) := Znb h (ZpN C s n)
theorem Zgt : PX X st (tX X.K lk stk) := fun pins s σ H E I ⟨δ, Hs, M, g, _, q⟩ => q.elim
theorem ZH : PXs X [] (tX X.K lk (M.ret .nx)) := PXs.imp Zpe fun E σ H ⟨δ, Hs, M, g, s, q⟩ => q σ H Hs M (Keeps.refl _ _) g (Stp.refl _ _ _) s
theorem Zw {c r : M Fl} (h1 : PX X st (tX X.K lk c)) (h2 : PXs X rest (tX X.K lk r)) : PXs X (st :: rest) (tX X.K lk (seqL c r)) := PXs.imp (Zn8 h1 h2) fun E σ H ⟨δ, Hs, M, g, s, q⟩ => by
  refine ⟨δ, Hs, M, g, s, ?_⟩
  unfold seqL T.M.bnd at q
  cases e : c δ with
  | ok z =>
    obtain ⟨f, δ1⟩ := z
    rw [e] at q
    cases f with
    | nx => exact fun σ' H' Hs' M' k g' st' r => ⟨δ1, Hs', M', g', r, Zcd.ahead k g g' st' q⟩
    | bk => exact q
    | ct => exact q
    | rt d => exact q
  | exc x δ' => rw [e] at q; exact q
  | stuck => rw [e] at q; exact q
theorem ZpO {cc : M Bool} {ca cb : M Fl} {A B : List Stmt} (n : NX cc) (hc : PT X c (tT X.K cc)) (ha : PXs X A (tX X.K lk ca)) (hb : PXs X B (tX X.K lk cb)) : PX X (.If c A B pos) (tX X.K lk (cc.bnd fun t => if t then ca else cb)) := PX.imp (ZsE hc ha hb) fun E σ H ⟨δ, Hs, M, g, s, q⟩ => by
  unfold T.M.bnd at q
  cases e : cc δ with
  | ok z =>
    obtain ⟨t, δ1⟩ := z
    rw [e] at q
    refine ⟨δ, Hs, M, t, δ1, g, s, e, fun H' Hs' M' g' st' s' => ?_⟩
    cases t with
    | true => exact ⟨δ1, Hs', M', g', s', Zcd.ahead (Keeps.refl _ _) g g' st' q⟩
    | false => exact ⟨δ1, Hs', M', g', s', Zcd.ahead (Keeps.refl _ _) g g' st' q⟩
  | exc x δ' => exact absurd e (n _ _ _)
  | stuck => rw [e] at q; exact q.elim
theorem ZcR {C : Ctx} {ce : E} {sa sb : List S} {A B : List Stmt} (hc : PT X c (tT X.K (evb C ce).2)) (ha : PXs X A (tX X.K lk (exs C sa))) (hb : PXs X B (tX X.K lk (exs C sb))) : PX X (.If c A B pos) (tX X.K lk (ex C (.iff ce sa sb))) := ZpO (Zy C ce).2 hc ha hb
end
end T
namespace T
open PySem PySem.Spec L2
section
variable {X : Cx} {tg iter : Expr} {body : List Stmt} {pos : Pos} {lk lk' : Nat -> Bool} {ik : IK} {cs : M (List Op)} {tgt : Tg} {cb : M Fl}
theorem Zfs : ∀ (h : List (Nat × D)) (δ : List D), ∃ δ', Zax h δ = .ok ((), δ')
  | [], δ => ⟨δ, rfl⟩
  | (i, d) :: r, δ => Zfs r (δ.set i d)
theorem ZnZ (nx : NX cs) (F : Fr0 X X.A) (hx : ∀ e s, ¬ X.xe e s) (hc : X.calm = true) (hl : LkLe lk lk') (hw : HWs cs lk')
    (hi : PI X tg iter (tI X.K ik cs)) (hg : PG X tg (gT X.K tgt)) (hb : PXs X body (tX X.K lk' cb)) (hs : ∀ x, foldedSetIterable iter X.env x = pure x := by intro _; rfl) :
    PX X (.For tg iter body [] pos) (tX X.K lk (cs.bnd fun ps => (ZJ ps).bnd fun h => (lift (itW ik h.1)).bnd fun items δ => finB h.2 (forL (asgT lk' tgt) cb items δ))) :=
  PX.imp (ZqK F hx hc hi hg hb hs) fun E σ H ⟨δ, Hs, M, g, s, q⟩ => by
  have nx2 : NX (cs.bnd ZJ) := Zg nx fun p => Zhs p
  have hbb : (cs.bnd fun ps => (ZJ ps).bnd fun h => (lift (itW ik h.1)).bnd fun items δ => finB h.2 (forL (asgT lk' tgt) cb items δ)) δ = ((cs.bnd ZJ).bnd fun h => (lift (itW ik h.1)).bnd fun items δ => finB h.2 (forL (asgT lk' tgt) cb items δ)) δ := by
    unfold T.M.bnd
    cases cs δ <;> rfl
  rw [hbb] at q
  cases e12 : (cs.bnd ZJ) δ with
  | exc x δ' => exact absurd e12 (nx2 _ _ _)
  | stuck => unfold T.M.bnd at e12 q; rw [e12] at q; exact q.elim
  | ok z =>
    obtain ⟨hh, δ3⟩ := z
    have q : Zcd X.K lk E σ H Hs M (((lift (itW ik hh.1)).bnd fun items δ => finB hh.2 (forL (asgT lk' tgt) cb items δ)) δ3) := by
      have : ((cs.bnd ZJ).bnd fun h => (lift (itW ik h.1)).bnd fun items δ => finB h.2 (forL (asgT lk' tgt) cb items δ)) δ = ((lift (itW ik hh.1)).bnd fun items δ => finB hh.2 (forL (asgT lk' tgt) cb items δ)) δ3 := by
        show T.M.bnd (cs.bnd ZJ) _ δ = _
        unfold T.M.bnd at e12 ⊢
        rw [e12]
      rw [this] at q
      exact q
    cases e3' : itW ik hh.1 with
    | none => rw [e3'] at q; exact q.elim
    | some items =>
      rw [e3'] at q
      have q : Zcd X.K lk E σ H Hs M (finB hh.2 (forL (asgT lk' tgt) cb items δ3)) := q
      have locked := hw _ _ _ e12
      refine ⟨δ, Hs, M, hh, items, δ3, g, s, e12, e3', fun J Pp H1 Hs1 B M1 g1 st1 s1 held wk pp => ?_⟩
      have kl : ∀ {σ1 σ2 : St}, Keeps lk' σ1 σ2 -> Keeps lk σ1 σ2 := fun k i h => k i (hl i h)
      refine ⟨fun i m σ2 H2 => m = items.length - i /\ i <= items.length /\ Keeps lk' σ σ2 /\ ∃ (δ2 : List D) (Hs2 : Hp) (M2 : Bud), Good H2 Hs2 (fun b => B b + M2 b) /\ Stp H Hs M H2 Hs2 (fun b => B b + M2 b) /\ RepS X.K H2 Hs2 σ2 δ2 M2 /\ Held X.K H2 Hs2 σ2 hh.2 B /\ Pp H2 Hs2 /\ Zcd X.K lk E σ H Hs M (finB hh.2 (forL (asgT lk' tgt) cb (items.drop i) δ2)),
        ⟨items.length, by simp, Nat.zero_le _, Keeps.refl _ _, δ3, Hs1, M1, g1, st1, s1, held, pp, by rw [List.drop_zero]; exact q⟩, ?_⟩
      rintro i m σ2 H2 ⟨rfl, hle, k2, δ2, Hs2, M2, g2, st2, s2, held2, pp2, q7⟩
      by_cases hlt : i < items.length
      . right
        have hd : items[i]? = some (items[i]'(by omega)) := List.getElem?_eq_getElem (by omega)
        have hdrop : items.drop i = items[i]'(by omega) :: items.drop (i + 1) := List.drop_eq_getElem_cons (by omega)
        rw [hdrop, ZbA] at q7
        refine ⟨wk.go g2.sub pp2 hlt, fun σ3 H3 => Keeps lk' σ σ3 /\ ∃ (δ2 : List D) (Hs2 : Hp) (M2 : Bud), Good H3 Hs2 (fun b => B b + M2 b) /\ Stp H Hs M H3 Hs2 (fun b => B b + M2 b) /\ RepS X.K H3 Hs2 σ3 δ2 M2 /\ Held X.K H3 Hs2 σ3 hh.2 B /\ Pp H3 Hs2 /\ Zcd X.K lk E σ H Hs M (finB hh.2 (forL (asgT lk' tgt) cb (items.drop (i + 1)) δ2)),
          fun σ3 H3 ⟨k3, z⟩ => ⟨items.length - (i + 1), by omega, rfl, hlt, k3, z⟩, fun x H' y => ?_⟩
        obtain ⟨Hs3, gr, rv⟩ := wk.yld g2.sub pp2 hd y
        obtain ⟨sm, fr, _⟩ := gr.same g2.sub
        have pp2 := wk.stay pp2 sm fun b _ n => fr b n
        have s2 := RepS.frame sm (fun b _ n => fr b n) s2
        have held2 := held2.frame sm fun b _ n => fr b n
        have st2 := gr.stp g2 st2
        have g2 := gr.good g2
        clear gr sm fr y
        generalize Hs3 = Hs2 at *
        cases e8 : asgT lk' tgt (items[i]'(by omega)) δ2 with
        | exc x δ' => exact absurd e8 (ZpI _ _ _ _ _ _)
        | stuck => rw [show ((asgT lk' tgt (items[i]'(by omega))).bnd fun _ => cb) δ2 = .stuck by show T.M.bnd _ _ δ2 = _; unfold T.M.bnd; rw [e8]] at q7; exact q7.elim
        | ok z =>
          obtain ⟨u1, δ5'⟩ := z
          rw [show ((asgT lk' tgt (items[i]'(by omega))).bnd fun _ => cb) δ2 = cb δ5' by show T.M.bnd _ _ δ2 = _; unfold T.M.bnd; rw [e8]] at q7
          refine Zjf (Hs := Hs2) g2.sub e8 rv s2 fun σ3 k3 s3 => ?_
          refine ⟨δ5', Hs2, M2, g2.re, s3, ?_⟩
          have held3 : Held X.K H' Hs2 σ3 hh.2 B := held2.keeps k3 locked
          have nxt : ∀ {σ4 : St} {H4 Hs4 : Hp} {M4 : Bud}, Keeps lk' σ3 σ4 -> Good H4 Hs4 M4 -> Stp H' Hs2 M2 H4 Hs4 M4 ->
              Keeps lk' σ σ4 /\ Good H4 Hs4 (fun b => B b + M4 b) /\ Stp H Hs M H4 Hs4 (fun b => B b + M4 b) /\ Held X.K H4 Hs4 σ4 hh.2 B /\ Pp H4 Hs4 := fun {σ4 H4 Hs4 M4} k4 g4 st4 => by
            obtain ⟨G, S, kk⟩ := ZA g g2 st2 g4 st4
            exact ⟨k2.trans (k3.trans k4), G, S, (held3.keeps k4 locked).frame st4.grow kk, wk.stay pp2 st4.grow kk⟩
          cases e10 : cb δ5' with
          | stuck => rw [e10] at q7; exact q7.elim
          | exc x δ6 =>
            rw [e10] at q7
            obtain ⟨δ7, e11⟩ := Zfs hh.2 δ6
            have q8 : ZhJ X.K lk E.xc σ H Hs M x δ7 := by
              have : Zcd X.K lk E σ H Hs M (match Zax hh.2 δ6 with | .ok (_, δ') => .exc x δ' | _ => .stuck) := q7
              rw [e11] at this
              exact this
            refine fun ea σ4 H4 Hs4 m4 M4 k4 g4 st4 rd s4 => ?_
            obtain ⟨a1, a2, a3, a4, a6⟩ := nxt k4 g4 st4
            exact q8 ea σ4 H4 Hs4 m4 (fun b => B b + M4 b) (kl a1) (a2.re fun b => by (try dsimp only); omega) (a3.drop (fun b => by (try dsimp only); omega) a2.le) rd (ZcN e11 a4 s4)
          | ok z =>
            obtain ⟨fl, δ6⟩ := z
            rw [e10] at q7
            cases fl with
            | nx =>
              refine fun σ4 H4 Hs4 M4 k4 g4 st4 s4 => ?_
              obtain ⟨a1, a2, a3, a4, a6⟩ := nxt k4 g4 st4
              exact ⟨a1, δ6, Hs4, M4, a2, a3, s4, a4, a6, q7⟩
            | ct =>
              refine fun σ4 H4 Hs4 M4 k4 g4 st4 s4 => ?_
              obtain ⟨a1, a2, a3, a4, a6⟩ := nxt k4 g4 st4
              exact ⟨a1, δ6, Hs4, M4, a2, a3, s4, a4, a6, q7⟩
            | bk =>
              obtain ⟨δ7, e11⟩ := Zfs hh.2 δ6
              have q8 : Post X.K lk E.toEnds σ H Hs M .nx δ7 := by
                have : Zcd X.K lk E σ H Hs M (((Zax hh.2).bnd fun _ => T.M.ret Fl.nx) δ6) := q7
                rw [show ((Zax hh.2).bnd fun _ => T.M.ret Fl.nx) δ6 = .ok (.nx, δ7) by show T.M.bnd _ _ δ6 = _; unfold T.M.bnd; rw [e11]; rfl] at this
                exact this
              refine fun σ4 H4 Hs4 M4 k4 g4 st4 s4 => ?_
              obtain ⟨a1, a2, a3, a4, a6⟩ := nxt k4 g4 st4
              exact q8 σ4 H4 Hs4 _ (kl a1) a2 a3 (ZcN e11 a4 s4)
            | rt d =>
              obtain ⟨δ7, e11⟩ := Zfs hh.2 δ6
              have q8 : Post X.K lk E.toEnds σ H Hs M (.rt d) δ7 := by
                have : Zcd X.K lk E σ H Hs M (((Zax hh.2).bnd fun _ => T.M.ret (Fl.rt d)) δ6) := q7
                rw [show ((Zax hh.2).bnd fun _ => T.M.ret (Fl.rt d)) δ6 = .ok (.rt d, δ7) by show T.M.bnd _ _ δ6 = _; unfold T.M.bnd; rw [e11]; rfl] at this
                exact this
              refine fun v σ4 H4 Hs4 m4 M4 k4 g4 st4 rd s4 => ?_
              obtain ⟨a1, a2, a3, a4, a6⟩ := nxt k4 g4 st4
              exact q8 v σ4 H4 Hs4 m4 (fun b => B b + M4 b) (kl a1) (a2.re fun b => by (try dsimp only); omega) (a3.drop (fun b => by (try dsimp only); omega) a2.le) rd (ZcN e11 a4 s4)
      . left
        have hi : i = items.length := by omega
        have hd0 : items.drop i = [] := by rw [hi]; simp
        rw [hd0, ZoF] at q7
        obtain ⟨δ7, e11⟩ := Zfs hh.2 δ2
        have q8 : Post X.K lk E.toEnds σ H Hs M .nx δ7 := by
          have : Zcd X.K lk E σ H Hs M (((Zax hh.2).bnd fun _ => T.M.ret Fl.nx) δ2) := q7
          rw [show ((Zax hh.2).bnd fun _ => T.M.ret Fl.nx) δ2 = .ok (.nx, δ7) by show T.M.bnd _ _ δ2 = _; unfold T.M.bnd; rw [e11]; rfl] at this
          exact this
        exact ⟨wk.stop g2.sub pp2 (by omega), q8 σ2 H2 Hs2 _ (kl k2) g2 st2 (ZcN e11 held2 s2)⟩
end
def spX (K : Fg) (F : List D -> Rs (D × List D)) : Sp := fun vs H Q E => ∃ (ds : List D) (Hs : Hp) (m : Bud), Good H Hs m /\ RepL K H Hs vs ds m /\ match F ds with
  | .ok (d, ds') => ∀ (v : V) (H' Hs' : Hp) (m1 m' : Bud), Good H' Hs' (fun b => m1 b + m' b) -> Stp H Hs m H' Hs' (fun b => m1 b + m' b) -> Rep K H' Hs' v d m1 -> RepL K H' Hs' vs ds' m' -> Q v H'
  | .exc x ds' => ∀ (ea : Addr) (H' Hs' : Hp) (m1 m' : Bud), Good H' Hs' (fun b => m1 b + m' b) -> Stp H Hs m H' Hs' (fun b => m1 b + m' b) -> Rep K H' Hs' (.ref ea) x m1 -> RepL K H' Hs' vs ds' m' -> E (.ref ea) none H'
  | .stuck => False
section
variable {P : Program} {w : World} {K : Fg} {mg : Str -> Option Value} {base : Heap}
theorem Zjk {x qual : Str} {st : Stmt} {f : Addr} {fd : FuncData} {N ps : List Str} {k n nN : Nat} {C : Ctx} {body : List S} (F : Fun K x qual st f fd) (Sc : FnScope N ps (Za st)) (hn : ps.length = n) (hN : N.length = nN)
    (hb : ∀ (cdv : Value) (A : Around) (outer : List Env) (s : Shared) (H : Hp) (E : XK), Fr0 (cxOf CX0 P w K mg base N qual (Za st) f cdv A outer s H E).nox (A.deeper (PyProof.Rows.envOfC qual (Za st) s.heap.objs.size f cdv)) -> Room k (A.deeper (PyProof.Rows.envOfC qual (Za st) s.heap.objs.size f cdv)) ->
      PXs (cxOf CX0 P w K mg base N qual (Za st) f cdv A outer s H E).nox (Z1 st) (tX K (fun i => decide (i < n)) (exs { C with lock := fun i => decide (i < n) } body))) :
    FnOk P w K mg base (CXx P w) (k + 1) f fd ps (spX K (Zi C n nN body)) := by
  subst hn hN
  obtain ⟨oc, od, kV, doc, pm, an, cdv, ct, osl, rfl, lk, hcd⟩ := F.ex
  refine ZqL lk hcd Sc (fun vs H Q E h => ?_) fun A outer s H vs Q E hr h => ⟨_, fun hfr => hb cdv A outer s H E ⟨rfl, rfl, Around.frames_deeper hfr⟩ hr, ?_⟩
  . obtain ⟨ds, Hs, m, g, r, q⟩ := h
    unfold Zi at q
    rw [r.len]
    split at q
    . rename_i hl
      split at hl
      . assumption
      . cases hl
    . rename_i hl
      split at hl
      . assumption
      . cases hl
    . exact q.elim
  . obtain ⟨ds, Hs, m, g, r, q⟩ := h
    unfold Zi at q
    by_cases hl : ds.length = ps.length
    . rw [if_pos hl] at q
      have hv : vs.length = ps.length := by rw [r.len]; exact hl
      have hr0 := ZjF (N := N) r
      rw [hl] at hr0
      refine ⟨_, Hs, m, g, hr0, ?_⟩
      have back : ∀ {δ' : List D} {σ' : St} {H' Hs' : Hp} {M' : Bud}, Keeps (fun i => decide (i < ps.length)) (L2.start N vs) σ' -> RepS K H' Hs' σ' δ' M' -> RepL K H' Hs' vs (δ'.take ps.length) M' := fun k' s' => by
        have z := s'.take ps.length
        rw [Zi9 hv k'] at z
        exact RepS.toL z
      cases he : exs { C with lock := fun i => decide (i < ps.length) } body (ds ++ List.replicate (N.length - ps.length) .hole) with
      | ok z =>
        obtain ⟨fl, δ'⟩ := z
        rw [he] at q
        cases fl with
        | nx => exact fun σ' H' Hs' M' k' g' st' s' => q .non H' Hs' (fun _ => 0) M' (ZdK g') (st'.drop (fun b => by simp) g'.le) (.sc _ _) (back k' s')
        | rt dd => exact fun v σ' H' Hs' m1 M' k' g' st' rv s' => q v H' Hs' m1 M' g' st' rv (back k' s')
        | bk => exact q.elim
        | ct => exact q.elim
      | exc x y =>
        rw [he] at q
        exact fun ea σ' H' Hs' m1 M' k' g' st' rv s' => q ea H' Hs' m1 M' g' st' rv (back k' s')
      | stuck => rw [he] at q; exact q.elim
    . rw [if_neg hl] at q
      exact q.elim
theorem FnOk.calm {k : Nat} {f : Addr} {fd : FuncData} {ps : List Str} {R : List D -> Rs (D × List D)} (F : FnOk P w K mg base (CXx P w) k f fd ps (spX K R)) : FnOk P w K mg base CX0 k f fd ps (spF K R) := by
  have im : ∀ {vs : List V} {H : Hp} {Q : VK} {E : XK}, spF K R vs H Q E -> spX K R vs H Q E0 := fun {vs H Q E} h => by
    obtain ⟨ds, Hs, m, d, ds', g, r, e, q⟩ := h
    refine ⟨ds, Hs, m, g, r, ?_⟩
    rw [e]
    exact q
  refine ⟨fun vs H Q E h => F.len vs H Q E0 (im h), fun A outer s H args us vs Q E hr e0 hb hv hs => codeAny_mono (F.run A outer s H args us vs Q E0 hr e0 hb hv (im hs)) fun r s' h => ?_⟩
  cases r with
  | error e =>
    obtain ⟨ea, H', rfl, os, bare, un, hok, fl, q⟩ := h
    exact q H' (Same.refl _)
  | ok fl => cases fl <;> exact h
end
structure FnAtX (P : Program) (w : World) (K : Fg) (mg : Str -> Option Value) (base : Heap) (x : Str) (k : Nat) (ps : List Str) (sp : Sp) : Prop where
  ex : ∃ (f : Addr) (fd : FuncData), FnOk P w K mg base (CXx P w) k f fd ps sp /\ mg x = some (.ref f) /\ PySem.W.keepIn K (.ref f) = true /\ Binds K fd ps []
theorem FnAtX.calm {P : Program} {w : World} {K : Fg} {mg : Str -> Option Value} {base : Heap} {x : Str} {k : Nat} {ps : List Str} {R : List D -> Rs (D × List D)} (G : FnAtX P w K mg base x k ps (spX K R)) : FnAt P w K mg base x k ps (spF K R) := by
  obtain ⟨f, fd, F, h⟩ := G.ex
  exact ⟨f, fd, FnOk.calm F, h⟩
noncomputable def tMX (K : Fg) (c : M D) : TEX := fun σ H Q Ex => ∃ (δ : List D) (Hs : Hp) (M : Bud), Good H Hs M /\ RepS K H Hs σ δ M /\ match c δ with
  | .ok (d, δ') => ∀ (v : V) (H' Hs' : Hp) (m M' : Bud), Good H' Hs' (fun b => m b + M' b) -> Stp H Hs M H' Hs' (fun b => m b + M' b) -> Rep K H' Hs' v d m -> RepS K H' Hs' σ δ' M' -> Q v H'
  | .exc x δ' => ∀ (ea : Addr) (H' Hs' : Hp) (m M' : Bud), Good H' Hs' (fun b => m b + M' b) -> Stp H Hs M H' Hs' (fun b => m b + M' b) -> Rep K H' Hs' (.ref ea) x m -> RepS K H' Hs' σ δ' M' -> Ex ea H'
  | .stuck => False
theorem ZgR : ∀ (ps : List Op) (ds : List D) (δ : List D), ∃ δ', Zaj ps ds δ = .ok ((), δ')
  | [], ds, δ => ⟨δ, by unfold Zaj; rfl⟩
  | _ :: _, [], δ => ⟨δ, by unfold Zaj; rfl⟩
  | p :: ps, d :: ds, δ => by
    have : ∃ δ1, giveA p d δ = .ok ((), δ1) := by
      cases p with
      | tmp d' => exact ⟨δ, rfl⟩
      | late i =>
        unfold giveA
        dsimp only
        split
        . exact ⟨_, rfl⟩
        . exact ⟨_, rfl⟩
    obtain ⟨δ1, e1⟩ := this
    obtain ⟨δ2, e2⟩ := ZgR ps ds δ1
    refine ⟨δ2, ?_⟩
    show T.M.bnd _ _ δ = _
    unfold T.M.bnd
    rw [e1]
    exact e2
theorem Znc {K : Fg} {fi : FI} {σ : St} {H H1 Hs Hs1 : Hp} {M m1 M1 : Bud} {δ1 : List D} {ps : List Op} {vs : List V} {Q : VK} {Ex : Addr -> Hp -> Prop} (g : Good H Hs M) (g1 : Good H1 Hs1 (fun b => m1 b + M1 b)) (st1 : Stp H Hs M H1 Hs1 (fun b => m1 b + M1 b))
    (r1 : Zfk K H1 Hs1 σ vs ps m1) (s1 : RepS K H1 Hs1 σ δ1 M1)
    (q : match Zfj fi ps δ1 with
      | .ok (d, δ') => ∀ (v : V) (H' Hs' : Hp) (m M' : Bud), Good H' Hs' (fun b => m b + M' b) -> Stp H Hs M H' Hs' (fun b => m b + M' b) -> Rep K H' Hs' v d m -> RepS K H' Hs' σ δ' M' -> Q v H'
      | .exc x δ' => ∀ (ea : Addr) (H' Hs' : Hp) (m M' : Bud), Good H' Hs' (fun b => m b + M' b) -> Stp H Hs M H' Hs' (fun b => m b + M' b) -> Rep K H' Hs' (.ref ea) x m -> RepS K H' Hs' σ δ' M' -> Ex ea H'
      | .stuck => False) : spX K fi.run vs H1 Q (fun v _ H' => ∃ ea, v = .ref ea /\ Ex ea H') := by
  unfold Zfj T.M.bnd at q
  cases e2 : ZbQ fi.lend ps δ1 with
  | exc x y => exact absurd e2 (Zgs _ _ _ _ _)
  | stuck => rw [e2] at q; exact q.elim
  | ok z =>
    obtain ⟨ds, δ2⟩ := z
    rw [e2] at q
    dsimp only at q
    obtain ⟨Hs2, m2, M2, g2, st2, q2, s2⟩ := Zig (B := fun _ => 0) (g1.re fun b => by simp) s1 r1 e2
    have z0 := ZA (m1 := fun _ => 0) g (g1.re fun b => by simp) (st1.drop (fun b => by simp) g1.le) (g2.re fun b => by simp) (M1 := fun b => m1 b + M1 b) (M2 := fun b => m2 b + M2 b) (by
      have := st2
      exact ⟨fun b o h z => this.keep b o h (by simpa using z), fun b h => by have := this.own b (by simpa using h); simpa using this, this.grow, fun b h h' => by have := this.shr b h h'; simpa using this, this.stay⟩)
    have G2 : Good H1 Hs2 (fun b => M2 b + m2 b) := g2.re fun b => by simp; omega
    have S2 : Stp H Hs M H1 Hs2 (fun b => M2 b + m2 b) := z0.2.1.drop (fun b => by simp; omega) z0.1.le
    refine ⟨ds, Hs2, m2, G2.re fun b => by omega, q2, ?_⟩
    cases hF : fi.run ds with
    | stuck => rw [hF] at q; exact q.elim
    | ok r =>
      obtain ⟨d', ds'⟩ := r
      rw [hF] at q
      obtain ⟨δ3, e3⟩ := ZgR ps ds' δ2
      dsimp only at q
      rw [e3] at q
      intro v H3 Hs3 n1 n2 g3 st3 r3 r4
      obtain ⟨G, S, k⟩ := ZA g G2 S2 g3 st3
      have s3 := RepS.frame st3.grow k s2
      have fin := ZgO s3 r4 (lates r1) e3
      exact q v H3 Hs3 n1 (fun b => n2 b + M2 b) (G.re fun b => by (try dsimp only); omega) (S.drop (fun b => by (try dsimp only); omega) G.le) r3 fin
    | exc x ds' =>
      rw [hF] at q
      obtain ⟨δ3, e3⟩ := ZgR ps ds' δ2
      dsimp only at q
      rw [e3] at q
      intro ea H3 Hs3 n1 n2 g3 st3 r3 r4
      obtain ⟨G, S, k⟩ := ZA g G2 S2 g3 st3
      have s3 := RepS.frame st3.grow k s2
      have fin := ZgO s3 r4 (lates r1) e3
      exact ⟨ea, rfl, q ea H3 Hs3 n1 (fun b => n2 b + M2 b) (G.re fun b => by (try dsimp only); omega) (S.drop (fun b => by (try dsimp only); omega) G.le) r3 fin⟩
section
variable {X : Cx} {a e c : Expr} {es : List Expr} {pos p : Pos} {x : Str} {j n : Nat} {fi : FI} {ps : List Str} {cs : M (List Op)}
theorem Znd (nx : NX cs) (G : FnAtX X.prog X.w X.K X.mg X.base x j ps (spX X.K fi.run)) (hr : Room n X.A) (ha : PA X (e :: es) (tPs X.K cs)) (hj : j <= n := by decide) (hg : Gl X x := by rfl) (hdb : (x == ("__debug__" : Str)) = false := by decide)
    (he : starEach (e :: es) X.env = (false, eval e X.env) :: starEach es X.env := by rfl) (hpl : (backTo pos (starEach es X.env)).any (·.1) = false := by rfl) :
    PEx X (.Call (.Name x p) (e :: es) [] pos) (tMX X.K (cs.bnd fun ps => Zfj fi ps)) := by
  obtain ⟨f, fd, F, hm, hk, hb⟩ := G.ex
  refine PEx.imp (Zn9 F (hr.mono hj) hg hm hk hb .nil ha hdb he hpl) fun σ H Q Ex ⟨δ, Hs, M, g, s, q⟩ => ?_
  unfold T.M.bnd at q
  cases e1 : cs δ with
  | exc x y => exact absurd e1 (nx _ _ _)
  | stuck => rw [e1] at q; exact q.elim
  | ok z =>
    obtain ⟨ps, δ1⟩ := z
    rw [e1] at q
    refine ⟨δ, Hs, M, ps, δ1, g, s, e1, fun vs H1 Hs1 m1 M1 g1 st1 r1 s1 => ?_⟩
    show spX X.K fi.run (vs ++ []) H1 Q _
    rw [List.append_nil]
    exact Znc g g1 st1 r1 s1 q
end
section
variable {X : Cx} {e : Expr} {pos pos' : Pos} {lk : Nat -> Bool} {i : Nat} {x : Str} {c : M D}
theorem Zoa (hN : X.N.Nodup) (hi : X.N[i]? = some x) (hx : Loc X.env.scope x) (he : PEx X e (tMX X.K c)) (hs : swapsWith e (some (.Name x pos')) pos.line X.env = pure false := by rfl)
    (hf : X.fn x = true \/ X.env.scope.names.lookup x = some .local := by first | exact .inl rfl | exact .inr rfl | assumption) :
    PX X (.Assign [.Name x pos'] e pos) (tX X.K lk (c.bnd fun d => (asgN lk i d).bnd fun _ => M.ret .nx)) := PX.imp (ZqO hN hi hx he hs hf) fun E σ H ⟨δ, Hs, M, g, s, q⟩ => by
  refine ⟨δ, Hs, M, g, s, ?_⟩
  unfold T.M.bnd at q
  cases e1 : c δ with
  | stuck => rw [e1] at q; exact q.elim
  | exc x δ' => rw [e1] at q; exact fun ea H' Hs' m M' g' st' r s' => q ea σ H' Hs' m M' (Keeps.refl _ _) g' st' r s'
  | ok z =>
    obtain ⟨d, δ1⟩ := z
    rw [e1] at q
    dsimp only at q ⊢
    cases e3 : asgN lk i d δ1 with
    | exc x y => exact absurd e3 (ZhI _ _ _ _ _ _)
    | stuck => rw [e3] at q; exact q.elim
    | ok z =>
      obtain ⟨u, δ2⟩ := z
      rw [e3] at q
      obtain ⟨h1, h2, rfl⟩ := Zg9 e3
      exact fun v H' Hs' m M' g' st' r s' => q _ H' Hs' _ (ZcM h2) g' st' (ZdT s' h1 r)
theorem Zob (he : PEx X e (tMX X.K c)) : PX X (.Return (some e) pos) (tX X.K lk (c.bnd fun d => M.ret (.rt d))) := PX.imp (ZqN he) fun E σ H ⟨δ, Hs, M, g, s, q⟩ => by
  refine ⟨δ, Hs, M, g, s, ?_⟩
  unfold T.M.bnd at q
  cases e1 : c δ with
  | stuck => rw [e1] at q; exact q.elim
  | exc x δ' => rw [e1] at q; exact fun ea H' Hs' m M' g' st' r s' => q ea σ H' Hs' m M' (Keeps.refl _ _) g' st' r s'
  | ok z =>
    obtain ⟨d, δ1⟩ := z
    rw [e1] at q
    exact fun v H' Hs' m M' g' st' r s' => q v σ H' Hs' m M' (Keeps.refl _ _) g' st' r s'
end
end T
namespace T
open PySem PySem.Spec L2
section
variable {X : Cx} {e : Expr} {es : List Expr} {pos pos' p : Pos} {lk : Nat -> Bool} {i n j : Nat} {x : Str} {ns : List Str} {C f : Addr} {fi : FI} {ps : List Str} {cs : M (List Op)}
theorem ZrU {K : Fg} {H Hs H'' : Hp} {M : Bud} {σ : St} {δ : List D} {a : Addr} {o : HO} (ha : H a = none) (g : Good H Hs M) (s : RepS K H Hs σ δ M) (k : Same (upd H a o) H'') :
    Good H'' Hs (fun b => one a b + M b) /\ Stp H Hs M H'' Hs (fun b => one a b + M b) /\ RepS K H'' Hs σ δ M /\ H'' a = some o /\ Same H H'' := by
  have k1 : Same H H'' := fun b u e => k b u (by rw [ZC (Zbf e ha)]; exact e)
  have ka : H'' a = some o := k a o ZB
  have m0 : M a = 0 := by
    have := g.le a
    by_cases q : M a = 1
    . exact absurd ha (g.has a q)
    . omega
  have hs0 : Hs a = none := by
    cases e : Hs a with
    | none => rfl
    | some u => rw [g.sub a u e] at ha; cases ha
  have cs1 : ∀ b, one a b + M b = 1 -> b = a \/ M b = 1 := fun b h => by
    by_cases q : b = a
    . exact .inl q
    . simp only [one, if_neg q] at h; exact .inr (by omega)
  refine ⟨⟨fun b u e => k1 b u (g.sub b u e), fun b => ?_, fun b h => ?_, fun b h => ?_⟩, ⟨fun b u e _ => k1 b u e, fun b h => ?_, Same.refl _, fun b h h' => absurd h h', fun b h => ?_⟩, s.frame (Same.refl _) fun b _ hn => Zjj k1 b hn, ka, k1⟩
  . have := g.le b
    unfold one
    split
    . rename_i q; subst q; omega
    . omega
  . rcases cs1 b h with q | q
    . rw [q]; exact hs0
    . exact g.ne b q
  . rcases cs1 b h with q | q
    . rw [q, ka]; simp
    . rw [Zjj k1 b (g.has b q)]; exact g.has b q
  . rcases cs1 b h with q | q
    . exact .inr (by rw [q]; exact ha)
    . exact .inl q
  . rw [Zjj k1 b h]; exact h
theorem ZiG (hc : X.calm = true) (xn : XN X.K ns C) (hi : PySem.W.findIn X.K (.ref C) (Str.ofString "__init__") = some (some (.builtin "ValueError.__init__"))) (hg : Gl X x) (hm : X.mg x = some (.ref C)) (hdb : (x == ("__debug__" : Str)) = false := by decide) :
    PX X (.Raise (some (.Call (.Name x p) [] [] pos')) none pos) (tX X.K lk (Zkq (.node (.exc ns true []) true []))) :=
  PX.imp (ZnD hc (Zpg xn.toXC hi hg hm hdb)) fun E σ H ⟨δ, Hs, M, g, s, q⟩ => by
    intro a ha
    refine ⟨a, C, none, [], rfl, xn.toXC, ZB, fun H'' k => ?_⟩
    rw [Zlt] at k
    obtain ⟨G, S, R, ka, _⟩ := ZrU ha g s k
    exact q a σ H'' Hs (one a) M (Keeps.refl _ _) G S (.own (vs := []) (m' := fun _ => 0) ⟨rfl, C, none, xn, ka⟩ (.nil _) fun b => by simp) R
end
end T
namespace L2
open PySem PySem.Spec PyProof.Rows
section
variable {X : Cx} {e o value : Expr} {ta tv : TE} {f : Str} {pos pos' : Pos}
theorem ZjI (cv : V) (cu : Value) (rc : RelV cv cu) (huniq : ∀ u, RelV cv u -> u = cu) : Zbz X (.builtin "isinstance") (fun xs H Q => ∃ a C dx fr fs b, xs = [.ref a, cv] /\ XD X.K C /\ H a = some (.exc C dx fr fs) /\ PySem.W.kitOne X.K (.ref C) cu = some b /\ Q (.bl b) H) := by
  intro pins s σ H xs us Q I r h
  obtain ⟨a, C, dx, fr, fs, b, ex, xd, ea, k, q⟩ := h
  subst ex
  cases r with
  | @cons _ u1 _ _ r1 r2 =>
    cases r2 with
    | @cons _ u2 _ _ r2 r3 =>
      cases r3
      obtain rfl := huniq _ r2
      obtain rfl : u1 = Value.ref a := r1
      exact ZlQ I ea xd k fun tk => ⟨.bl b, H, I.tok tk, rfl, q⟩
end
end L2
namespace T
open PySem PySem.Spec L2
section
variable {X : Cx} {a o e c : Expr} {es : List Expr} {body suite : List Stmt} {b₀ : Stmt} {pos pos' p apos np hp : Pos} {lk : Nat -> Bool} {i j n : Nat} {x nm cn f : Str} {ca : M Op} {cs : M (List Op)}
theorem ZpP {cb csu : M Fl} {D' : Addr} (F : Fr0 X X.A) (hx : ∀ e s, ¬ X.xe e s) (hb : PXs X body (tX X.K lk cb)) (hs : ∀ v, PSs (X.inH v) (b₀ :: suite) (tS X.K lk csu)) (hg : Gl X cn) (hm : X.mg cn = some (.ref D')) (xc : XC X.K D') (gx : GX X.K cn D') (hdb : (cn == ("__debug__" : Str)) = false)
    (hN : X.N.Nodup) (hi : X.N[i]? = some nm) (hl : X.env.scope.names.lookup nm = some .local) :
    PX X (.Try body [.ExceptHandler (some (.Name cn np)) (some nm) (b₀ :: suite) hp] [] [] pos) (tX X.K lk (tryM lk cb cn (some i) csu)) :=
  PX.imp (ZqR F hx hb (.cons (.as_ hg hm xc gx hdb hN hi hl hs) .nil)) fun E σ H ⟨δ, Hs, M, g, s, q⟩ => by
  refine ⟨δ, Hs, M, g, s, ?_⟩
  unfold tryM at q
  cases e1 : cb δ with
  | ok z => rw [e1] at q; exact q
  | stuck => rw [e1] at q; exact q.elim
  | exc xd δ' =>
    rw [e1] at q
    dsimp only at q
    intro ea σ' H' Hs' m M' k' g' st' r s'
    by_cases hh : hits cn xd = true
    . rw [if_pos hh] at q
      unfold hits at hh
      split at hh
      . rename_i ns fs ds
        have hc : cn ∈ ns := of_decide_eq_true hh
        cases r with
        | @own _ _ vs _ _ m' nd rl lm =>
          obtain ⟨hl', C, dx, xn, hH⟩ := nd
          refine ⟨C, dx, _, ns, xn, hH, ?_⟩
          unfold Zgr
          rw [if_pos hc]
          by_cases hi' : (decide (i < δ'.length) && !lk i) = true
          . rw [if_pos hi'] at q
            simp only [Bool.and_eq_true, decide_eq_true_eq, Bool.not_eq_true'] at hi'
            have rx : Rep X.K H' Hs' (.ref ea) (.node (.exc ns false fs) true ds) m := .own ⟨hl', C, dx, xn, hH⟩ rl lm
            have s2 := ZdT s' hi'.1 rx
            cases e2 : csu (δ'.set i (.node (.exc ns false fs) true ds)) with
            | exc y z => rw [e2] at q; exact q.elim
            | stuck => rw [e2] at q; exact q.elim
            | ok z =>
              obtain ⟨fl, δ2⟩ := z
              rw [e2] at q
              have q : Post X.K lk E.toEnds σ H Hs M fl (δ2.set i .hole) := q
              have q2 := Post.ahead k' g g' st' q
              refine ⟨_, Hs', _, fl, δ2, g', s2, e2, ?_⟩
              have hole : ∀ {σ2 : St} {H2 Hs2 : Hp} {M2 : Bud}, RepS X.K H2 Hs2 σ2 δ2 M2 -> RepS X.K H2 Hs2 (σ2.set i none) (δ2.set i .hole) M2 := fun {σ2 H2 Hs2 M2} r2 => by
                by_cases hlt : i < δ2.length
                . obtain ⟨o, m1, m2, z1, z2, z3, ff⟩ := r2.focus (List.getElem?_eq_getElem hlt)
                  exact (ff (RepO X.K H2 Hs2) none .hole (fun _ => 0) (fun a d m' _ q => q) (.inl rfl)).mono fun b => by have := z3 b; (try dsimp only); omega
                . have hlσ := r2.length
                  rw [List.set_eq_of_length_le (by omega), List.set_eq_of_length_le (by omega)]
                  exact r2
              have kp : ∀ {σ2 : St}, Keeps lk (σ'.set i (some (.ref ea))) σ2 -> Keeps lk σ' (σ2.set i none) := fun k2 => (ZcM hi'.2).trans (k2.trans (ZcM hi'.2))
              cases fl with
              | nx => exact fun σ2 H2 Hs2 M2 k2 g2 st2 r2 => q2 _ H2 Hs2 M2 (kp k2) g2 st2 (hole r2)
              | bk => exact fun σ2 H2 Hs2 M2 k2 g2 st2 r2 => q2 _ H2 Hs2 M2 (kp k2) g2 st2 (hole r2)
              | ct => exact fun σ2 H2 Hs2 M2 k2 g2 st2 r2 => q2 _ H2 Hs2 M2 (kp k2) g2 st2 (hole r2)
              | rt d => exact fun v σ2 H2 Hs2 m2 M2 k2 g2 st2 rv r2 => q2 v _ H2 Hs2 m2 M2 (kp k2) g2 st2 rv (hole r2)
          . rw [if_neg hi'] at q; exact q.elim
      . cases hh
    . rw [if_neg hh] at q; exact q.elim
theorem arg1 {K : Fg} {f : BF} {σ : St} {H : Hp} {Q : VK} (h : tM K ((ca.bnd fun p => (M.ret ([] : List Op)).bnd fun ps => M.ret (p :: ps)).bnd fun ps => (views ps).bnd fun ws => lift (bfW f ws)) σ H Q) : tM K ((ca.bnd view).bnd fun w => lift (bfW f [w])) σ H Q := by
  obtain ⟨δ, Hs, M, d, δ', g, s, e, q⟩ := h
  refine ⟨δ, Hs, M, d, δ', g, s, ?_, q⟩
  obtain ⟨ps, δ1, e1, e⟩ := Ze e
  obtain ⟨pp, δ2, e2, e3⟩ := Ze e1
  obtain ⟨z, δ3, e4, e5⟩ := Ze e3
  have := Zl e4
  cases this
  have := Zl e5
  cases this
  obtain ⟨ws, δ4, e6, e⟩ := Ze e
  obtain ⟨w, δ5, e7, e8⟩ := Ze e6
  obtain ⟨z, δ6, e9, e10⟩ := Ze e8
  have := Zl e9
  cases this
  have := Zl e10
  cases this
  show T.M.bnd (ca.bnd view) _ δ = _
  unfold T.M.bnd
  rw [e2]
  dsimp only
  rw [e7]
  exact e
end
end T
namespace L2
open PySem PySem.Spec PyProof.Rows
section
variable {X : Cx}
theorem ZjJ {x : V} : ∀ {xs : List V} {us : List Value}, Vals xs us -> xs.all Zen = true -> us.countP (eqU x) = xs.countP fun y => eqV y x
  | _, _, .nil, _ => rfl
  | y :: xs, u :: us, .cons r t, f => by
    rw [List.all_cons, Bool.and_eq_true] at f
    rw [List.countP_cons, List.countP_cons, ZmA r f.1, ZjJ t f.2]
def Zne (K : Fg) : V -> List V -> Hp -> VK -> Prop := fun x ys H Q => ∃ p xs y, x = .ref p /\ ys = [y] /\ H p = some (.lst xs) /\ Zen y = true /\ xs.all Zen = true /\ Q (.int (xs.countP fun u => eqV u y : Nat)) H
theorem Zoc : MtR X "list.count" (Zne X.K) := by
  intro pins s σ H x ys v us Q I rx rs h
  obtain ⟨p, xs, y, rfl, rfl, hq, fy, fs, q⟩ := h
  cases rx
  obtain ⟨u, rfl, ry⟩ := Vals.one rs
  obtain ⟨z, its, n, r, e⟩ := (show Zaw X.prog X.w H s.heap p (.lst xs) from I.hok p _ hq)
  refine wpAny_call (codeAny_call_builtin F.slot_list_count.plain F.entry_list_count ?_)
  refine F.slot_list_count.check _ _ _ _ _ _ _ _ ⟨_, e, rfl⟩ (F.args_list_count_2 _ _) ?_
  refine SeqAt.list_countAt p its.toArray n none #[] u (eqU y) _ _ _ _ _ ⟨e, fun w hw => Zkn ry fy r fs w (by simpa using hw), ?_⟩
  refine ⟨.int _, H, I.tok _, ⟨_, rfl⟩, ?_⟩
  rw [show its.toArray.toList = its from rfl, ZjJ r fs]
  exact q
end
end L2
namespace T
open PySem PySem.Spec L2
section
variable {X : Cx} {a c o e : Expr} {es : List Expr} {pos p apos cpos : Pos} {x : Str} {n : String} {ca : M Op} {cs : M (List Op)} {ns : List Str}
theorem Zbn {cn : Str} {D' : Addr} (gx : GX X.K cn D') (ht : PySem.W.typeIn X.K (.ref D') = some (.type "type")) (hg : Gl X "isinstance") (hm : X.mg "isinstance" = none) (ha : PE X a (tP X.K ca)) (hc : PE X c (tC (.ref D'))) (hs : starEach [a, c] X.env = [(false, eval a X.env), (false, eval c X.env)] := by rfl)
    (hs1 : starEach [c] X.env = [(false, eval c X.env)] := by rfl) :
    PE X (.Call (.Name "isinstance" p) [a, c] [] pos) (tM X.K ((ca.bnd fun p => (M.ret ([] : List Op)).bnd fun ps => M.ret (p :: ps)).bnd fun ps => (views ps).bnd fun ws => lift (bfW (.isiX cn) ws))) :=
  PE.imp (ZgM (ZjI (.ref D') (.ref D') rfl fun u h => h) hg hm ZfV (ZaG ha (ZaG hc ZcL (by rw [hs1]; rfl)) (by rw [hs, hs1])) (by decide) (by decide) (by rw [hs, hs1]) (by rw [hs1]; rfl)) fun σ H Q h => by
    refine op1 (r := fun x H1 Q => ∃ a C dx fr fs b, [x, V.ref D'] = [V.ref a, V.ref D'] /\ XD X.K C /\ H1 a = some (.exc C dx fr fs) /\ PySem.W.kitOne X.K (.ref C) (.ref D') = some b /\ Q (.bl b) H1) (arg1 h) fun x H Hs w m d g h1 h2 v e o => ?_
    replace e : Zma cn [w] = some d := e
    unfold Zma at e
    split at e
    . rename_i ns fr fs ds hw
      cases hw
      cases e
      cases v with
      | nd n r =>
        obtain ⟨hl, C, dx, xn, n⟩ := n
        exact ⟨_, C, dx, _, _, _, rfl, xn.toXD, n, xn.isa gx ht, o.sc⟩
    . cases e
theorem ZpQ : PySem.W.kitMeta "ValueError" = true := by decide +kernel
theorem ZrV : bmV.contains (.type "ValueError") = true := by decide +kernel
theorem ZpR (hg : Gl X "isinstance") (hm : X.mg "isinstance" = none) (ha : PE X a (tP X.K ca)) (hc : PE X c (tC (.ty "ValueError"))) (hs : starEach [a, c] X.env = [(false, eval a X.env), (false, eval c X.env)] := by rfl)
    (hs1 : starEach [c] X.env = [(false, eval c X.env)] := by rfl) :
    PE X (.Call (.Name "isinstance" p) [a, c] [] pos) (tM X.K ((ca.bnd fun p => (M.ret ([] : List Op)).bnd fun ps => M.ret (p :: ps)).bnd fun ps => (views ps).bnd fun ws => lift (bfW .isiV ws))) :=
  PE.imp (ZgM (ZjI (.ty "ValueError") (.type "ValueError") rfl fun u h => h) hg hm ZfV (ZaG ha (ZaG hc ZcL (by rw [hs1]; rfl)) (by rw [hs, hs1])) (by decide) (by decide) (by rw [hs, hs1]) (by rw [hs1]; rfl)) fun σ H Q h => by
    refine op1 (r := fun x H1 Q => ∃ a C dx fr fs b, [x, V.ty "ValueError"] = [V.ref a, V.ty "ValueError"] /\ XD X.K C /\ H1 a = some (.exc C dx fr fs) /\ PySem.W.kitOne X.K (.ref C) (.type "ValueError") = some b /\ Q (.bl b) H1) (arg1 h) fun x H Hs w m d g h1 h2 v e o => ?_
    replace e : Zmb [w] = some d := e
    unfold Zmb at e
    split at e
    . rename_i ns fr fs ds hw
      cases hw
      cases e
      cases v with
      | nd n r =>
        obtain ⟨hl, C, dx, xn, n⟩ := n
        exact ⟨_, C, dx, _, _, _, rfl, xn.toXD, n, xn.isaB ZrV ZpQ, o.sc⟩
    . cases e
theorem ZkE : ∀ {ds : List D} {us : List V}, Zh9 ds = some us -> us.all Zen = true
  | [], us, h => by cases h; rfl
  | .sc u :: r, us, h => by
    simp only [Zh9] at h
    split at h
    . rename_i hf
      obtain ⟨w, h1, rfl⟩ := Option.map_eq_some_iff.mp h
      rw [List.all_cons, hf, ZkE h1]
      rfl
    . cases h
  | .hole :: _, _, h => by cases h
  | .node _ _ _ :: _, _, h => by cases h
theorem ZkF {K : Fg} {H Hs : Hp} : ∀ {ds : List D} {us vs : List V} {m : Bud}, Zh9 ds = some us -> RepL K H Hs vs ds m -> vs = us
  | [], us, _, m, h, .nil _ => by cases h; rfl
  | .sc u :: r, us, _, m, h, .cons x y l => by
    simp only [Zh9] at h
    split at h
    . obtain ⟨w, h1, rfl⟩ := Option.map_eq_some_iff.mp h
      cases x
      rw [ZkF h1 y]
    . cases h
  | .hole :: _, _, _, _, h, _ => by cases h
  | .node _ _ _ :: _, _, _, _, h, _ => by cases h
theorem Zod {v : V} (fv : Zen v = true) (ho : PE X o (tP X.K ca)) (he : PE X e (tC v))
    (hbase : attributeBase o "count" X.env (eval o X.env) = eval o X.env := by rfl)
    (hfew : ((backTo cpos (starEach [e] X.env)).all (fun x => !x.1) && (backToKw cpos (keywordEach [] X.env)).all (fun x => x.1.isSome)
      && decide ([e].length + ([] : List Keyword).length + (if ([] : List Keyword).isEmpty then 0 else 1) < 30)) = true := by rfl)
    (hline : (apos.endLine == cpos.line) = true := by rfl) (hs : starEach [e] X.env = (false, eval e X.env) :: starEach [] X.env := by rfl) (hplain : (backTo cpos (starEach [] X.env)).any (·.1) = false := by rfl) :
    PE X (.Call (.Attribute o "count" apos) [e] [] cpos) (tM X.K ((ca.bnd fun p => (M.ret ([] : List Op)).bnd fun ps => M.ret (p :: ps)).bnd fun ps => (views ps).bnd fun ws => lift (bfW (.cnt v) ws))) :=
  PE.imp (Zo8 PySem.F.plainAttrs_list PySem.F.slot_list_count PySem.F.type_list_count Zoc ho (ZaG he ZcL hs) hbase hfew hline hs hplain) fun σ H Q h => by
    refine op1 (r := fun x H1 Q => tyV X.K "list" x H1 /\ Zne X.K x [v] H1 Q) (arg1 h) fun x H Hs w m d g h1 h2 vw e o => ?_
    replace e : cntB v [w] = some d := e
    unfold cntB at e
    split at e
    . rename_i ds hw
      cases hw
      obtain ⟨us, e1, e2⟩ := Option.map_eq_some_iff.mp e
      subst e2
      cases vw with
      | nd n r =>
        have hv := ZkF e1 r
        subst hv
        exact ⟨.inl ⟨rfl, _, .inl (.inl n)⟩, _, _, v, rfl, rfl, n, fv, ZkE e1, o.sc⟩
    . cases e
end
end T
namespace L2
open PySem PySem.Spec PyProof.Rows
section
variable {K : Fg} {n : Str} {C L : Addr} {q qL : Str} {N NL : Addr} {bs bsL : List Value} {sn snL : List Str} {sub subL : List Value} {ab abL : Bool} {col colL : Option Bool} {dd ddL : Option Addr} {k0 k1 k2 k3 k5 l0 l1 l2 l3 l5 : Option Value}
theorem Zce {bm : List Value} (lk : K.lookup C = some (excClassObj n q C N bs bm true sn sub ab col dd k0 k1 k2 k3 k5 "ValueError.__new__")) (tl : PySem.W.tailIn K bmV bm = true) (tv : ZaK bm = true)
    (sa : PySem.W.findIn K (.ref C) (Str.ofString "__setattr__") = some (some (.builtin "object.__setattr__"))) (ga : PySem.W.findIn K (.ref C) (Str.ofString "__getattribute__") = some (some (.builtin "BaseException.__getattribute__"))) (kp : PySem.W.keepIn K (.ref C) = true) : XC K C :=
  ⟨⟨n, q, N, bs, bm, sn, sub, ab, col, dd, k0, k1, k2, k3, k5, lk, tl, tv⟩, sa, ga, kp⟩
noncomputable def ZkG (e : DictEntry) : Bool := match e.key with
  | .str _ _ => true
  | _ => false
theorem ZoJ : PySem.W.tailIn K bmV bmV = true := by
  unfold PySem.W.tailIn bmV
  simp
theorem Zc8 {oc : Value} {od : Option Addr} {es : Array DictEntry} {ep : Nat} {sl : Array (Option Value)} (lL : K.lookup L = some (excClassObj "LabelError" qL L NL bsL bmV true snL subL abL colL ddL l0 l1 l2 l3 l5 "ValueError.__new__")) (ln : K.lookup NL = some ⟨oc, od, .dict es ep, sl⟩) (he : es.all ZkG = true)
    (hi : PySem.W.nsIn K NL (Str.ofString "__init__") = some none) : PySem.W.tailIn K bmV (.ref L :: bmV) = true := by
  unfold PySem.W.tailIn
  dsimp only
  rw [lL]
  have ok : PySem.W.nsOkIn K NL = true := by
    unfold PySem.W.nsOkIn
    rw [ln]
    exact he
  show ((_ :: _ == bmV) || (PySem.W.nsOkIn K NL && PySem.W.nsIn K NL (Str.ofString "__init__") == some none && PySem.W.tailIn K bmV bmV)) = true
  rw [ok, hi, ZoJ]
  simp
theorem ZbP {bm : List Value} (x : PySem.W.nsIn K mainGlobals n = some (some (.ref C))) (lk : K.lookup C = some (excClassObj n q C N bs bm true sn sub ab col dd k0 k1 k2 k3 k5 "ValueError.__new__")) : GX K n C := ⟨x, by unfold PySem.W.clsIn; rw [lk]; rfl⟩
theorem Zc9 {bm : List Value} (lk : K.lookup C = some (excClassObj n q C N bs bm true sn sub ab col dd k0 k1 k2 k3 k5 "ValueError.__new__")) : PySem.W.typeIn K (.ref C) = some (.type "type") := by
  show Option.map (fun x => x.cls) (List.lookup C K) = _
  rw [lk]
  rfl
theorem Zuy (x : PySem.W.nsIn K mainGlobals n = some (some (.ref C))) (lk : K.lookup C = some (excClassObj n q C N bs (.ref L :: bmV) true sn sub ab col dd k0 k1 k2 k3 k5 "ValueError.__new__"))
    (gL : GX K "LabelError" L) (tl : PySem.W.tailIn K bmV (.ref L :: bmV) = true)
    (sa : PySem.W.findIn K (.ref C) (Str.ofString "__setattr__") = some (some (.builtin "object.__setattr__"))) (ga : PySem.W.findIn K (.ref C) (Str.ofString "__getattribute__") = some (some (.builtin "BaseException.__getattribute__"))) (kp : PySem.W.keepIn K (.ref C) = true)
    (hk : PySem.W.findIn K (.ref C) (Str.ofString "__getattr__") = some none) (hc : PySem.W.findIn K (.ref C) "__class__" = some (some (.builtin "object.__class__")))
    (hn : PySem.W.specialIn K (.builtin "object.__class__") "__get__" = some (some (.builtin "getset_descriptor.__get__"))) (ht : PySem.W.takesIn K (.builtin "object.__class__") = some true)
    (n1 : PySem.W.findIn K (.ref C) "row" = some none) (n2 : PySem.W.findIn K (.ref C) "number" = some none) (n3 : PySem.W.findIn K (.ref C) "length" = some none) (n4 : PySem.W.findIn K (.ref C) "numbers" = some none) : XN K [n, "LabelError"] C :=
  ⟨⟨Zce lk tl (show ZaK bmV = true by decide +kernel) sa ga kp, hk, hc, hn, ht⟩, ⟨_, by unfold PySem.W.clsIn; rw [lk], C, _, rfl, ZbP x lk, L, _, rfl, gL, rfl⟩, fun f hf => by
    simp only [Zh8, List.mem_cons, List.not_mem_nil, or_false] at hf
    rcases hf with rfl | rfl | rfl | rfl
    . exact n1
    . exact n2
    . exact n3
    . exact n4⟩
end
end L2
namespace T
open PySem PySem.Spec L2
section
variable {X : Cx} {e o value : Expr} {es : List Expr} {body suite : List Stmt} {b₀ : Stmt} {sc : Scope} {N : List Str} {i : Nat} {x cn : Str} {pos pos' np hp : Pos} {lk : Nat -> Bool} {c : M D}
theorem Zoe {b : Bool} (h : Zd sc N i x b = true) (nd : N.Nodup) (he : PEx X e (tMX X.K c)) (hs : swapsWith e (some (.Name x pos')) pos.line X.env = pure false := by rfl) (e1 : X.env.scope = sc := by rfl) (e2 : X.N = N := by rfl)
    (hf : X.fn x = true \/ b = false := by first | exact .inl rfl | exact .inr rfl) : PX X (.Assign [.Name x pos'] e pos) (tX X.K lk (c.bnd fun d => (asgN lk i d).bnd fun _ => M.ret .nx)) := by
  obtain ⟨h1, h2, h3, h4⟩ := Zd.at h
  have l := Zd.loc h
  subst e1 e2
  refine Zoa nd h1 l he hs ?_
  rcases hf with q | q
  . exact .inl q
  . subst q
    exact .inr h2
theorem Zof {cb csu : M Fl} {D' : Addr} (F : Fr0 X X.A) (hx : ∀ e s, ¬ X.xe e s) (h : Zd sc N i x false = true) (nd : N.Nodup) (hb : PXs X body (tX X.K lk cb)) (hs : ∀ v, PSs (X.inH v) (b₀ :: suite) (tS X.K lk csu)) (hg : Gl X cn) (hm : X.mg cn = some (.ref D')) (xc : XC X.K D') (gx : GX X.K cn D') (hdb : (cn == ("__debug__" : Str)) = false)
    (e1 : X.env.scope = sc := by rfl) (e2 : X.N = N := by rfl) :
    PX X (.Try body [.ExceptHandler (some (.Name cn np)) (some x) (b₀ :: suite) hp] [] [] pos) (tX X.K lk (tryM lk cb cn (some i) csu)) := by
  obtain ⟨h1, h2, h3, h4⟩ := Zd.at h
  subst e1 e2
  exact ZpP F hx hb hs hg hm xc gx hdb nd h1 h2
theorem ZkH : bootBuiltins "ValueError" = some (.type "ValueError") := by decide +kernel
end
section
variable {C : Ctx} {δ δ' : List D} {d : D} {ds : List D} {ns : List Str} {fs : List Str}
theorem ZrW (C : Ctx) (i : Nat) (f : FI) (es : List E) : ex C (.asgX i f es) = (((opds C es).bnd fun ps => Zfj f ps).bnd fun d => (asgN C.lock i d).bnd fun _ => M.ret .nx) := (rfl)
theorem ZrX (C : Ctx) (f : FI) (es : List E) : ex C (.retX f es) = (((opds C es).bnd fun ps => Zfj f ps).bnd fun d => M.ret (.rt d)) := (rfl)
theorem Zog (C : Ctx) (ns : List Str) (δ : List D) : ex C (.raise0 ns) δ = .exc (.node (.exc ns false []) true []) δ := (rfl)
theorem ZrY (C : Ctx) (tg : Tg) (ik : IK) (ies : List E) (body : List S) : ex C (.forX tg ik ies body) = ((opds C ies).bnd fun ps => (ZJ ps).bnd fun h => (lift (itW ik h.1)).bnd fun items δ => finB h.2 (forL (asgT (fun j => C.lock j || walked ies j) tg) (exs { C with lock := fun j => C.lock j || walked ies j } body) items δ)) := (rfl)
noncomputable def cxR (ps : List Op) (δ : List D) : Rs (D × List D) -> Rs (D × List D)
  | .ok (d, ds') => ((Zaj ps ds').bnd fun _ => M.ret d) δ
  | .exc x ds' => (match Zaj ps ds' δ with
    | .ok (_, δ') => .exc x δ'
    | _ => .stuck)
  | .stuck => .stuck
theorem ZrZ {fi : FI} {ps : List Op} : Zfj fi ps = (ZbQ fi.lend ps).bnd fun ds δ => cxR ps δ (fi.run ds) := by
  unfold Zfj cxR
  congr 1
  funext ds δ
  cases fi.run ds with
  | ok r => obtain ⟨d, ds'⟩ := r; rfl
  | exc x y => rfl
  | stuck => rfl
theorem Zsa {ps : List Op} {ds' : List D} : cxR ps δ (.ok (d, ds')) = ((Zaj ps ds').bnd fun _ => M.ret d) δ := (rfl)
theorem Zoh {α β : Type} (f : α -> M β) (x : D) (δ : List D) : bndR f (.exc x δ) = .exc x δ := (rfl)
theorem Zoi (r : M Fl) (x : D) (δ : List D) : seqR r (.exc x δ) = .exc x δ := (rfl)
theorem endX {n : Nat} {δ : List D} {x : D} : Zks n (.exc x δ) = .exc x (δ.take n) := (rfl)
theorem ZpS (h : List (Nat × D)) (f : Fl) (δ : List D) : finB h (.ok (f, δ)) = ((Zax h).bnd fun _ => M.ret f) δ := (rfl)
theorem ZpT (c : Str) (ns : List Str) (fr : Bool) (fs : List Str) (ds : List D) : bfW (.isiX c) [.nd (.exc ns fr fs) ds] = some (.sc (.bl (decide (c ∈ ns)))) := (rfl)
end
end T
namespace T
open PySem PySem.Spec L2 PyProof.Rows
theorem us1 {P : List Value -> Prop} (h : ∀ a, P [a]) : ∀ us : List Value, us.length = 1 -> P us
  | [a], _ => h a
theorem us2 {P : List Value -> Prop} (h : ∀ a b, P [a, b]) : ∀ us : List Value, us.length = 2 -> P us
  | [a, b], _ => h a b
theorem us3 {P : List Value -> Prop} (h : ∀ a b c, P [a, b, c]) : ∀ us : List Value, us.length = 3 -> P us
  | [a, b, c], _ => h a b c
theorem us4 {P : List Value -> Prop} (h : ∀ a b c d, P [a, b, c, d]) : ∀ us : List Value, us.length = 4 -> P us
  | [a, b, c, d], _ => h a b c d
end T
namespace T
open PySem PySem.Spec L2
theorem Zm {X : Cx} {i : Int} {j} {pos : Pos} : PE X (.Constant (.int i) j pos) (tP X.K ((M.ret (.sc (.int i))).bnd fun d => M.ret (.tmp d))) := Zc (ok_k Za5)
theorem Zb {X : Cx} {sc : Scope} {N} {i : Nat} {x : Str} {b : Bool} {pos : Pos} (h : Zd sc N i x b = true) (e1 : X.env.scope = sc := by rfl) (e2 : X.N = N := by rfl) : PE X (.Name x pos) (tP X.K (Zbg i)) := Zea (pvs h e1 e2)
end T
namespace My
open PySem PySem.Spec L2 T
local macro_rules | `(tactic| walk_at "d") => `(tactic| decide +kernel)
section
seal L2.PE L2.PS L2.PSs L2.PT L2.PI L2.PA L2.PG L2.PGs L2.PX L2.PXs L2.PEx
noncomputable def top (i : Nat) : Stmt := PySem.Challenge.pw_barlabel_k25_whole_scanned_rows.main.body.getD i (.Pass ⟨0, 0, 0, 0⟩)
structure Txt (K : Fg) (mg : Str -> Option Value) (Kaa Kab Kac Kad Kae Kaf Kag Kah Kai Kaj Kak Kal Kam Kan : Addr) : Prop where
  ValueError_ : mg "ValueError" = none
  abs_ : mg "abs" = none
  all_ : mg "all" = none
  bool_ : mg "bool" = none
  enumerate_ : mg "enumerate" = none
  int_ : mg "int" = none
  isinstance_ : mg "isinstance" = none
  len_ : mg "len" = none
  list_ : mg "list" = none
  range_ : mg "range" = none
  sum_ : mg "sum" = none
  CHECK_SYMBOLS_ : ∃ t, mg "CHECK_SYMBOLS" = some (.int 2 t)
  m_a : mg "LabelError" = some (.ref Kaa)
  g_a : GX K "LabelError" Kaa
  t_a : PySem.W.typeIn K (.ref Kaa) = some (.type "type")
  c_a : XC K Kaa
  m_b : mg "Lost" = some (.ref Kab)
  g_b : GX K "Lost" Kab
  t_b : PySem.W.typeIn K (.ref Kab) = some (.type "type")
  c_b : XC K Kab
  m_c : mg "Mixed" = some (.ref Kac)
  g_c : GX K "Mixed" Kac
  t_c : PySem.W.typeIn K (.ref Kac) = some (.type "type")
  c_c : XC K Kac
  m_d : mg "NoForm" = some (.ref Kad)
  g_d : GX K "NoForm" Kad
  t_d : PySem.W.typeIn K (.ref Kad) = some (.type "type")
  c_d : XC K Kad
  m_e : mg "NoFount" = some (.ref Kae)
  g_e : GX K "NoFount" Kae
  t_e : PySem.W.typeIn K (.ref Kae) = some (.type "type")
  c_e : XC K Kae
  m_f : mg "NoLabel" = some (.ref Kaf)
  g_f : GX K "NoLabel" Kaf
  t_f : PySem.W.typeIn K (.ref Kaf) = some (.type "type")
  c_f : XC K Kaf
  m_g : mg "NoName" = some (.ref Kag)
  g_g : GX K "NoName" Kag
  t_g : PySem.W.typeIn K (.ref Kag) = some (.type "type")
  c_g : XC K Kag
  m_h : mg "NoReading" = some (.ref Kah)
  g_h : GX K "NoReading" Kah
  t_h : PySem.W.typeIn K (.ref Kah) = some (.type "type")
  c_h : XC K Kah
  m_i : mg "NoRoom" = some (.ref Kai)
  g_i : GX K "NoRoom" Kai
  t_i : PySem.W.typeIn K (.ref Kai) = some (.type "type")
  c_i : XC K Kai
  m_j : mg "NoSymbol" = some (.ref Kaj)
  g_j : GX K "NoSymbol" Kaj
  t_j : PySem.W.typeIn K (.ref Kaj) = some (.type "type")
  c_j : XC K Kaj
  m_k : mg "NoTable" = some (.ref Kak)
  g_k : GX K "NoTable" Kak
  t_k : PySem.W.typeIn K (.ref Kak) = some (.type "type")
  c_k : XC K Kak
  m_l : mg "NoWriting" = some (.ref Kal)
  g_l : GX K "NoWriting" Kal
  t_l : PySem.W.typeIn K (.ref Kal) = some (.type "type")
  c_l : XC K Kal
  m_m : mg "Spoilt" = some (.ref Kam)
  g_m : GX K "Spoilt" Kam
  t_m : PySem.W.typeIn K (.ref Kam) = some (.type "type")
  c_m : XC K Kam
  X_m : XN K ["Spoilt", "LabelError"] Kam
  i_m : PySem.W.findIn K (.ref Kam) (Str.ofString "__init__") = some (some (.builtin "ValueError.__init__"))
  m_n : mg "TooLong" = some (.ref Kan)
  g_n : GX K "TooLong" Kan
  t_n : PySem.W.typeIn K (.ref Kan) = some (.type "type")
  c_n : XC K Kan
noncomputable abbrev ZaN : Stmt := top 16
noncomputable abbrev ZgS : List Str := ["thing"]
theorem Zle : FnScope ZgS ["thing"] (Za ZaN) := ⟨rfl, rfl, rfl, by walk_at "d", rfl, by walk_at "d", by walk_at "d"⟩
theorem Zec : glOk (Za ZaN) "isinstance" = true := by walk_at "d"
theorem Zht : Zd (Za ZaN) ZgS 0 "thing" false = true := by walk_at "d"
theorem Zev : glOk (Za ZaN) "bool" = true := by walk_at "d"
theorem ZeZ : glOk (Za ZaN) "int" = true := by walk_at "d"
noncomputable def Zd4 : List T.S := [.ret (.and (.bf (.isi .int) [.v 0]) (.nt (.bf (.isi .bool) [.v 0])))]
noncomputable def Zew : T.FI := ⟨true, T.Zi C0 1 1 Zd4⟩
variable {P : Program} {w : World} {K : Fg} {mg : Str -> Option Value} {base : Heap} {f : Addr} {fd : FuncData} {Kaa Kab Kac Kad Kae Kaf Kag Kah Kai Kaj Kak Kal Kam Kan : Addr}
theorem Zlf (F : Fun K "is_whole" "is_whole" ZaN f fd) (Z : Txt K mg Kaa Kab Kac Kad Kae Kaf Kag Kah Kai Kaj Kak Kal Kam Kan)  : FnOk P w K mg base CX0 (0 + 1) f fd ["thing"] (T.spF K (T.Zi C0 1 1 Zd4)) :=
  T.Zac (C := C0) (body := Zd4) (k := 0) (N := ZgS) F Zle rfl rfl fun cdv A outer s H E hr =>
  have hu := hr.units
  (Zf (Z6 (Zg7 (Zc (Zhk (t := .int) (n := "int") rfl (glk Zec) Z.isinstance_ (Zb Zht) (ZfI (v := .ty "int") (glk ZeZ) Z.int_ ZoB rfl (nmk ZeZ) (dbk ZeZ)))) (Zhj (Zje (Zc (Zhk (t := .bool) (n := "bool") rfl (glk Zec) Z.isinstance_ (Zb Zht) (ZfI (v := .ty "bool") (glk Zev) Z.bool_ ZmM rfl (nmk Zev) (dbk Zev))))))))
      Zo)
noncomputable abbrev ZaO : Stmt := top 17
noncomputable abbrev Zfl : List Str := ["count", "thing"]
theorem ZkI : FnScope Zfl ["count", "thing"] (Za ZaO) := ⟨rfl, rfl, rfl, by walk_at "d", rfl, by walk_at "d", by walk_at "d"⟩
theorem ZgV : Zd (Za ZaO) Zfl 1 "thing" false = true := by walk_at "d"
theorem ZjS : Zd (Za ZaO) Zfl 0 "count" false = true := by walk_at "d"
theorem Zex : glOk (Za ZaO) "is_whole" = true := by walk_at "d"
noncomputable def ZcS : List T.S := [.ret (.and (.call Zew [.v 1]) (.chain .LtE .Lt (.k (.int 0)) (.v 1) (.v 0)))]
noncomputable def Zc2 : T.FI := ⟨true, T.Zi C0 2 2 ZcS⟩
theorem ZkJ (F : Fun K "is_symbol" "is_symbol" ZaO f fd) (Z : Txt K mg Kaa Kab Kac Kad Kae Kaf Kag Kah Kai Kaj Kak Kal Kam Kan) (G_is_whole : FnAt P w K mg base "is_whole" 1 ["thing"] (T.spF K Zew.run)) : FnOk P w K mg base CX0 (1 + 1) f fd ["count", "thing"] (T.spF K (T.Zi C0 2 2 ZcS)) :=
  T.Zac (C := C0) (body := ZcS) (k := 1) (N := Zfl) F ZkI rfl rfl fun cdv A outer s H E hr =>
  have hu := hr.units
  (Zf (Z6 (Zg7 (Zc (ZE G_is_whole hr (Zh (Zb ZgV) Zn) (hg := glk Zex) (hdb := dbk Zex))) (Zhj (Zk7 hu Zm (Zb ZgV) (Zb ZjS)))))
      Zo)
noncomputable abbrev ZI : Stmt := top 18
noncomputable abbrev ZaU : List Str := ["count", "row", "number", "thing"]
theorem ZdU : FnScope ZaU ["count", "row"] (Za ZI) := ⟨rfl, rfl, rfl, by walk_at "d", rfl, by walk_at "d", by walk_at "d"⟩
theorem ZhT : Zd (Za ZI) ZaU 1 "row" false = true := by walk_at "d"
theorem ZfF : glOk (Za ZI) "enumerate" = true := by walk_at "d"
theorem ZfA : Zd (Za ZI) ZaU 3 "thing" false = true := by walk_at "d"
theorem ZhU : Zd (Za ZI) ZaU 2 "number" false = true := by walk_at "d"
theorem ZcA : glOk (Za ZI) "is_symbol" = true := by walk_at "d"
theorem ZhV : Zd (Za ZI) ZaU 0 "count" false = true := by walk_at "d"
noncomputable def Zbt : List T.S := [.for_ (.tup [2, 3]) .enum [.v 1, .k (.int 0)] [.iff (.nt (.call Zc2 [.v 0, .v 3])) [.raise (.k .non)] []]]
noncomputable def Zay : T.FI := ⟨true, T.Zi C0 2 4 Zbt⟩
theorem Zil (F : Fun K "check_symbols" "check_symbols" ZI f fd) (Z : Txt K mg Kaa Kab Kac Kad Kae Kaf Kag Kah Kai Kaj Kak Kal Kam Kan) (G_is_symbol : FnAt P w K mg base "is_symbol" 2 ["count", "thing"] (T.spF K Zc2.run)) : FnOk P w K mg base CX0 (2 + 1) f fd ["count", "row"] (T.spF K (T.Zi C0 2 4 Zbt)) :=
  T.Zac (C := C0) (body := Zbt) (k := 2) (N := ZaU) F ZdU rfl rfl fun cdv A outer s H E hr =>
  have hu := hr.units
  (Zf (ZcO PassesOwn.never rfl (ZdL _ _) (hw_2 (ZgB rfl) (ZcQ rfl)) (Zih (glk ZfF) Z.enumerate_ (Zb ZhT)) (Zkg rfl (Zet ZhU ZdU.nd (Zet ZfA ZdU.nd Zi6)))
      (Zf (Zb8 (ZhA (Zbr (Zc (ZE G_is_symbol hr (Zh (Zb ZhV) (Zh (Zb ZfA) Zn)) (hg := glk ZcA) (hdb := dbk ZcA))))) (Zf Zk0
      Zo) Zo)
      Zo))
      Zo)
noncomputable abbrev ZaP : Stmt := top 21
noncomputable abbrev Zfm : List Str := ["prime", "row"]
theorem ZkK : FnScope Zfm ["prime", "row"] (Za ZaP) := ⟨rfl, rfl, rfl, by walk_at "d", rfl, by walk_at "d", by walk_at "d"⟩
theorem Zey : glOk (Za ZaP) "sum" = true := by walk_at "d"
theorem ZjT : Zd (Za ZaP) Zfm 1 "row" false = true := by walk_at "d"
theorem ZjU : Zd (Za ZaP) Zfm 0 "prime" false = true := by walk_at "d"
noncomputable def ZcT : List T.S := [.ret (.bin .Mod (.bf .sum [.v 1]) (.v 0))]
noncomputable def ZG : T.FI := ⟨true, T.Zi C0 2 2 ZcT⟩
theorem ZkL (F : Fun K "plain_sum" "plain_sum" ZaP f fd) (Z : Txt K mg Kaa Kab Kac Kad Kae Kaf Kag Kah Kai Kaj Kak Kal Kam Kan)  : FnOk P w K mg base CX0 (0 + 1) f fd ["prime", "row"] (T.spF K (T.Zi C0 2 2 ZcT)) :=
  T.Zac (C := C0) (body := ZcT) (k := 0) (N := Zfm) F ZkK rfl rfl fun cdv A outer s H E hr =>
  have hu := hr.units
  (Zf (Z6 (Zj (Zk _) (Zc (ZaB (Zkz rfl) (glk Zey) Z.sum_ Zk4 (Zh (Zb ZjT) Zn) (nmk Zey) (dbk Zey))) (Zb ZjU)))
      Zo)
noncomputable abbrev ZN : Stmt := top 22
noncomputable abbrev Zcq : List Str := ["prime", "row"]
theorem Zjl : FnScope Zcq ["prime", "row"] (Za ZN) := ⟨rfl, rfl, rfl, by walk_at "d", rfl, by walk_at "d", by walk_at "d"⟩
theorem Zdw : glOk (Za ZN) "sum" = true := by walk_at "d"
theorem ZiH : Zd (Za ZN) Zcq 1 "row" false = true := by walk_at "d"
theorem Zgn : glOk (Za ZN) "enumerate" = true := by walk_at "d"
noncomputable abbrev Zdx : Scope := { kind := .function, names := [(Str.ofString ".0", NameKind.local), (Str.ofString "place", NameKind.local), (Str.ofString "symbol", NameKind.local)], isGenerator := false, isCoroutine := false, more := [] }
noncomputable abbrev Zcf : List Str := ["place", "symbol"]
theorem Zhu : Zd0 (Za ZN) Zcq 2 [] Zcf Zdx = true := by walk_at "d"
theorem ZeN : Zcf.Nodup := by walk_at "d"
theorem Zft : Zd (ZV Zdx (Za ZN)) Zcf 1 "symbol" false = true := by walk_at "d"
theorem Zfu : Zd (ZV Zdx (Za ZN)) Zcf 0 "place" false = true := by walk_at "d"
theorem ZiI : Zd (Za ZN) Zcq 0 "prime" false = true := by walk_at "d"
noncomputable def ZbU : List T.S := [.ret (.bin .Mod (.bf .sum [.comp 2 [] (.tup [0, 1]) .enum [.v 1, .k (.int 1)] [] (.bin .Mult (.v 0) (.v 1))]) (.v 0))]
noncomputable def ZO : T.FI := ⟨true, T.Zi C0 2 2 ZbU⟩
theorem Zjm (F : Fun K "weighed_sum" "weighed_sum" ZN f fd) (Z : Txt K mg Kaa Kab Kac Kad Kae Kaf Kag Kah Kai Kaj Kak Kal Kam Kan)  : FnOk P w K mg base CX0 (0 + 1) f fd ["prime", "row"] (T.spF K (T.Zi C0 2 2 ZbU)) :=
  T.Zac (C := C0) (body := ZbU) (k := 0) (N := Zcq) F Zjl rfl rfl fun cdv A outer s H E hr =>
  have hu := hr.units
  (Zf (Z6 (Zj (Zk _) (Zc (ZaB (Zkz rfl) (glk Zdw) Z.sum_ Zk4 (Zh (Zc (ZhE rfl (CompScope.of Zhu rfl rfl) (ZnS (glk Zgn) Z.enumerate_ (Zb ZiH) Za5) (fun cl C s₀ H₀ ex => ⟨(Zkg rfl (Zet Zfu ZeN (Zet Zft ZeN Zi6))), Zhn, (Zj (Zk _) (Zb Zfu) (Zb Zft))⟩))) Zn) (nmk Zdw) (dbk Zdw))) (Zb ZiI)))
      Zo)
noncomputable abbrev Zbm : Stmt := top 23
noncomputable abbrev Zgu : List Str := ["prime", "row"]
theorem Zmk : FnScope Zgu ["prime", "row"] (Za Zbm) := ⟨rfl, rfl, rfl, by walk_at "d", rfl, by walk_at "d", by walk_at "d"⟩
theorem Zed : glOk (Za Zbm) "weighed_sum" = true := by walk_at "d"
theorem Zia : Zd (Za Zbm) Zgu 0 "prime" false = true := by walk_at "d"
theorem Zib : Zd (Za Zbm) Zgu 1 "row" false = true := by walk_at "d"
theorem ZeO : glOk (Za Zbm) "plain_sum" = true := by walk_at "d"
noncomputable def Zez : List T.S := [.ret (.and (.cmp .Eq (.call ZG [.v 0, .v 1]) (.k (.int 0))) (.cmp .Eq (.call ZO [.v 0, .v 1]) (.k (.int 0))))]
noncomputable def Zee : T.FI := ⟨true, T.Zi C0 2 2 Zez⟩
theorem Zml (F : Fun K "is_good" "is_good" Zbm f fd) (Z : Txt K mg Kaa Kab Kac Kad Kae Kaf Kag Kah Kai Kaj Kak Kal Kam Kan) (G_weighed_sum : FnAt P w K mg base "weighed_sum" 1 ["prime", "row"] (T.spF K ZO.run)) (G_plain_sum : FnAt P w K mg base "plain_sum" 1 ["prime", "row"] (T.spF K ZG.run)) : FnOk P w K mg base CX0 (1 + 1) f fd ["prime", "row"] (T.spF K (T.Zi C0 2 2 Zez)) :=
  T.Zac (C := C0) (body := Zez) (k := 1) (N := Zgu) F Zmk rfl rfl fun cdv A outer s H E hr =>
  have hu := hr.units
  (Zf (Z6 (Zg7 (Zc (Zjh hu (Zc (ZE G_plain_sum hr (Zh (Zb Zia) (Zh (Zb Zib) Zn)) (hg := glk ZeO) (hdb := dbk ZeO))) Zm)) (Zhj (Zjh hu (Zc (ZE G_weighed_sum hr (Zh (Zb Zia) (Zh (Zb Zib) Zn)) (hg := glk Zed) (hdb := dbk Zed))) Zm))))
      Zo)
noncomputable abbrev Zat : Stmt := top 24
noncomputable abbrev ZfG : List Str := ["prime", "rest", "divisor"]
theorem Zlg : FnScope ZfG ["prime", "rest", "divisor"] (Za Zat) := ⟨rfl, rfl, rfl, by walk_at "d", rfl, by walk_at "d", by walk_at "d"⟩
theorem ZkM : Zd (Za Zat) ZfG 0 "prime" true = true := by walk_at "d"
theorem Zim : glOk (Za Zat) "range" = true := by walk_at "d"
noncomputable abbrev ZbV : Scope := { kind := .function, names := [(Str.ofString ".0", NameKind.local), (Str.ofString "symbol", NameKind.local), (Str.ofString "divisor", NameKind.free), (Str.ofString "prime", NameKind.free), (Str.ofString "rest", NameKind.free)], isGenerator := false, isCoroutine := false, more := [] }
noncomputable abbrev Zb2 : List Str := ["symbol", "rest", "prime", "divisor"]
theorem ZiJ : Zd0 (Za Zat) ZfG 1 [1, 0, 2] Zb2 ZbV = true := by walk_at "d"
theorem Zin : Zb2.Nodup := by walk_at "d"
theorem Ze0 : Zd (ZV ZbV (Za Zat)) Zb2 0 "symbol" false = true := by walk_at "d"
theorem ZiK : Zer (ZV ZbV (Za Zat)) Zb2 3 "divisor" = true := by walk_at "d"
theorem ZiL : Zer (ZV ZbV (Za Zat)) Zb2 2 "prime" = true := by walk_at "d"
theorem ZiM : Zer (ZV ZbV (Za Zat)) Zb2 1 "rest" = true := by walk_at "d"
noncomputable def ZbI : List T.S := [.ret (.ix (.comp 1 [1, 0, 2] (.name 0) .rng1 [.v 0] [.cmp .Eq (.bin .Mod (.bin .Mult (.v 0) (.v 3)) (.v 2)) (.v 1)] (.v 0)) (.k (.int 0)))]
noncomputable def Zcg : T.FI := ⟨true, T.Zi C0 3 3 ZbI⟩
theorem Zlh (F : Fun K "quotient" "quotient" Zat f fd) (Z : Txt K mg Kaa Kab Kac Kad Kae Kaf Kag Kah Kai Kaj Kak Kal Kam Kan)  : FnOk P w K mg base CX0 (0 + 1) f fd ["prime", "rest", "divisor"] (T.spF K (T.Zi C0 3 3 ZbI)) :=
  T.Zac (C := C0) (body := ZbI) (k := 0) (N := ZfG) F Zlg rfl rfl fun cdv A outer s H E hr =>
  have hu := hr.units
  (Zf (Z6 (Zad hu (Zc (ZhE rfl (CompScope.of ZiJ rfl rfl) (Zdn (glk Zim) Z.range_ (Zb ZkM)) (fun cl C s₀ H₀ ex => ⟨(ZbN Ze0 Zin), (Zk3 (Z8 hu (Zc (Zj (Zk _) (Zc (Zj (Zk _) (Zb Ze0) (Zea (pvf ZiK)))) (Zea (pvf ZiL)))) (Zea (pvf ZiM)))), (ok_v (pvs Ze0))⟩))) Zm))
      Zo)
noncomputable abbrev Zs : Stmt := top 25
noncomputable abbrev ZY : List Str := ["prime", "row", "earlier", "later", "place", "rest", "filled"]
theorem ZbC : FnScope ZY ["prime", "row", "earlier", "later"] (Za Zs) := ⟨rfl, rfl, rfl, by walk_at "d", rfl, by walk_at "d", by walk_at "d"⟩
theorem ZeP : Zd (Za Zs) ZY 4 "place" false = true := by walk_at "d"
theorem Zc5 : Zd (Za Zs) ZY 2 "earlier" false = true := by walk_at "d"
theorem ZeQ : Zd (Za Zs) ZY 5 "rest" false = true := by walk_at "d"
theorem Zaz : glOk (Za Zs) "plain_sum" = true := by walk_at "d"
theorem Za0 : Zd (Za Zs) ZY 0 "prime" false = true := by walk_at "d"
theorem Zc6 : Zd (Za Zs) ZY 1 "row" false = true := by walk_at "d"
theorem ZbM : glOk (Za Zs) "weighed_sum" = true := by walk_at "d"
theorem ZaF : Zd (Za Zs) ZY 6 "filled" false = true := by walk_at "d"
theorem ZbJ : glOk (Za Zs) "list" = true := by walk_at "d"
theorem ZeR : Zd (Za Zs) ZY 3 "later" false = true := by walk_at "d"
theorem Zcr : glOk (Za Zs) "quotient" = true := by walk_at "d"
noncomputable def Zao : List T.S := [.asg 4 (.bin .Add (.v 2) (.k (.int 1))), .asg 5 (.bin .Mod (.bin .Sub (.bin .Mult (.v 4) (.call ZG [.v 0, .v 1])) (.call ZO [.v 0, .v 1])) (.v 0)), .asg 6 (.bf .list [.v 1]), .sub 6 [] (.v 3) (.call Zcg [.v 0, .v 5, .bin .Sub (.v 3) (.v 2)]), .sub 6 [] (.v 2) (.bin .Mod (.neg (.call ZG [.v 0, .v 6])) (.v 0)), .ret (.v 6)]
noncomputable def Z9 : T.FI := ⟨true, T.Zi C0 4 7 Zao⟩
theorem Zhv (F : Fun K "with_two_filled" "with_two_filled" Zs f fd) (Z : Txt K mg Kaa Kab Kac Kad Kae Kaf Kag Kah Kai Kaj Kak Kal Kam Kan) (G_plain_sum : FnAt P w K mg base "plain_sum" 1 ["prime", "row"] (T.spF K ZG.run)) (G_weighed_sum : FnAt P w K mg base "weighed_sum" 1 ["prime", "row"] (T.spF K ZO.run)) (G_quotient : FnAt P w K mg base "quotient" 1 ["prime", "rest", "divisor"] (T.spF K Zcg.run)) : FnOk P w K mg base CX0 (1 + 1) f fd ["prime", "row", "earlier", "later"] (T.spF K (T.Zi C0 4 7 Zao)) :=
  T.Zac (C := C0) (body := Zao) (k := 1) (N := ZY) F ZbC rfl rfl fun cdv A outer s H E hr =>
  have hu := hr.units
  (Zf (Z2 ZeP ZbC.nd (Zj (Zk _) (Zb Zc5) Zm))
      (Zf (Z2 ZeQ ZbC.nd (Zj (Zk _) (Zc (Zj (Zk _) (Zc (Zj (Zk _) (Zb ZeP) (Zc (ZE G_plain_sum hr (Zh (Zb Za0) (Zh (Zb Zc6) Zn)) (hg := glk Zaz) (hdb := dbk Zaz))))) (Zc (ZE G_weighed_sum hr (Zh (Zb Za0) (Zh (Zb Zc6) Zn)) (hg := glk ZbM) (hdb := dbk ZbM))))) (Zb Za0)))
      (Zf (Z2 ZaF ZbC.nd (Zg8 ZfM (glk ZbJ) Z.list_ ZfP (Zh (Zb Zc6) Zn) (nmk ZbJ) (dbk ZbJ)))
      (Zf (ZbR hu (pvs ZaF) (Zb ZeR) (ZE G_quotient hr (Zh (Zb Za0) (Zh (Zb ZeQ) (Zh (Zc (Zj (Zk _) (Zb ZeR) (Zb Zc5))) Zn))) (hg := glk Zcr) (hdb := dbk Zcr)))
      (Zf (ZbR hu (pvs ZaF) (Zb Zc5) (Zj (Zk _) (Zc (Zfq (Zc (ZE G_plain_sum hr (Zh (Zb Za0) (Zh (Zb ZaF) Zn)) (hg := glk Zaz) (hdb := dbk Zaz))))) (Zb Za0)))
      (Zf (Z6 (Zfr (pvs ZaF)))
      Zo))))))
noncomputable abbrev Zp : Stmt := top 26
noncomputable abbrev ZQ : List Str := ["prime", "row", "excess", "weight", "number", "symbol", "righted"]
theorem Za1 : FnScope ZQ ["prime", "row"] (Za Zp) := ⟨rfl, rfl, rfl, by walk_at "d", rfl, by walk_at "d", by walk_at "d"⟩
theorem Zch : Zd (Za Zp) ZQ 2 "excess" false = true := by walk_at "d"
theorem ZbW : glOk (Za Zp) "plain_sum" = true := by walk_at "d"
theorem Zbh : Zd (Za Zp) ZQ 0 "prime" false = true := by walk_at "d"
theorem Zbi : Zd (Za Zp) ZQ 1 "row" false = true := by walk_at "d"
theorem Ze1 : Zd (Za Zp) ZQ 3 "weight" false = true := by walk_at "d"
theorem ZbD : glOk (Za Zp) "weighed_sum" = true := by walk_at "d"
theorem Zfa : glOk (Za Zp) "enumerate" = true := by walk_at "d"
theorem Ze2 : Zd (Za Zp) ZQ 5 "symbol" false = true := by walk_at "d"
theorem Zci : Zd (Za Zp) ZQ 4 "number" false = true := by walk_at "d"
theorem Zcj : Zd (Za Zp) ZQ 6 "righted" false = true := by walk_at "d"
theorem Zb1 : glOk (Za Zp) "list" = true := by walk_at "d"
theorem ZcB : glOk (Za Zp) "Spoilt" = true := by walk_at "d"
noncomputable def Zam : List T.S := [.asg 2 (.call ZG [.v 0, .v 1]), .asg 3 (.call ZO [.v 0, .v 1]), .forX (.tup [4, 5]) .enum [.v 1, .k (.int 0)] [.iff (.cmp .Eq (.bin .Mod (.bin .Mult (.bin .Add (.v 4) (.k (.int 1))) (.v 2)) (.v 0)) (.v 3)) [.asg 6 (.bf .list [.v 1]), .sub 6 [] (.v 4) (.bin .Mod (.bin .Sub (.v 5) (.v 2)) (.v 0)), .ret (.v 6)] []], .raise0 ["Spoilt", "LabelError"]]
noncomputable def ZR : T.FI := ⟨false, T.Zi C0 2 7 Zam⟩
theorem Zhd (F : Fun K "with_one_righted" "with_one_righted" Zp f fd) (Z : Txt K mg Kaa Kab Kac Kad Kae Kaf Kag Kah Kai Kaj Kak Kal Kam Kan) (G_plain_sum : FnAt P w K mg base "plain_sum" 1 ["prime", "row"] (T.spF K ZG.run)) (G_weighed_sum : FnAt P w K mg base "weighed_sum" 1 ["prime", "row"] (T.spF K ZO.run)) : FnOk P w K mg base (CXx P w) (1 + 1) f fd ["prime", "row"] (T.spX K (T.Zi C0 2 7 Zam)) :=
  T.Zjk (C := C0) (body := Zam) (k := 1) (N := ZQ) F Za1 rfl rfl fun cdv A outer s H E hF hr =>
  have hu := hr.units
  (Zw (Zan (Z2 Zch Za1.nd (ZE G_plain_sum hr (Zh (Zb Zbh) (Zh (Zb Zbi) Zn)) (hg := glk ZbW) (hdb := dbk ZbW))))
      (Zw (Zan (Z2 Ze1 Za1.nd (ZE G_weighed_sum hr (Zh (Zb Zbh) (Zh (Zb Zbi) Zn)) (hg := glk ZbD) (hdb := dbk ZbD))))
      (Zw (ZnZ (ZbT _ _) hF (fun _ _ h => h) rfl (ZdL _ _) (hw_2 (ZgB rfl) (ZcQ rfl)) (Zih (glk Zfa) Z.enumerate_ (Zb Zbi)) (Zkg rfl (Zet Zci Za1.nd (Zet Ze2 Za1.nd Zi6)))
      (Zw (ZcR (Z8 hu (Zc (Zj (Zk _) (Zc (Zj (Zk _) (Zc (Zj (Zk _) (Zb Zci) Zm)) (Zb Zch))) (Zb Zbh))) (Zb Ze1)) (Zw (Zan (Z2 Zcj Za1.nd (Zg8 ZfM (glk Zb1) Z.list_ ZfP (Zh (Zb Zbi) Zn) (nmk Zb1) (dbk Zb1))))
      (Zw (Zan (ZbR hu (pvs Zcj) (Zb Zci) (Zj (Zk _) (Zc (Zj (Zk _) (Zb Ze2) (Zb Zch))) (Zb Zbh))))
      (Zw (Zan (Z6 (Zfr (pvs Zcj))))
      ZH))) ZH)
      ZH))
      (Zw (ZiG rfl Z.X_m Z.i_m (glk ZcB) Z.m_m (dbk ZcB))
      ZH))))
noncomputable abbrev Zau : Stmt := top 27
noncomputable abbrev Ze3 : List Str := ["prime", "row", "length"]
theorem Zic : FnScope Ze3 ["prime", "row"] (Za Zau) := ⟨rfl, rfl, rfl, by walk_at "d", rfl, by walk_at "d", by walk_at "d"⟩
theorem ZcU : glOk (Za Zau) "check_symbols" = true := by walk_at "d"
theorem Zga : Zd (Za Zau) Ze3 0 "prime" false = true := by walk_at "d"
theorem Zgb : Zd (Za Zau) Ze3 1 "row" false = true := by walk_at "d"
theorem Ze4 : Zd (Za Zau) Ze3 2 "length" false = true := by walk_at "d"
theorem Zfb : glOk (Za Zau) "len" = true := by walk_at "d"
theorem ZcV : glOk (Za Zau) "CHECK_SYMBOLS" = true := by walk_at "d"
theorem Zcs : glOk (Za Zau) "with_two_filled" = true := by walk_at "d"
noncomputable def Zd5 : List T.S := [.ex (.call Zay [.v 0, .v 1]), .asg 2 (.bf .len [.v 1]), .iff (.cmp .Gt (.v 2) (.bin .Sub (.v 0) (.k (.int 2)))) [.raise (.k .non)] [], .ret (.call Z9 [.v 0, .bin .Add (.v 1) (.lst [.k (.int 0), .k (.int 0)]), .v 2, .bin .Add (.v 2) (.k (.int 1))])]
noncomputable def Zai : T.FI := ⟨true, T.Zi C0 2 3 Zd5⟩
theorem Zli (F : Fun K "labelled" "labelled" Zau f fd) (Z : Txt K mg Kaa Kab Kac Kad Kae Kaf Kag Kah Kai Kaj Kak Kal Kam Kan) (G_check_symbols : FnAt P w K mg base "check_symbols" 3 ["count", "row"] (T.spF K Zay.run)) (G_with_two_filled : FnAt P w K mg base "with_two_filled" 2 ["prime", "row", "earlier", "later"] (T.spF K Z9.run)) : FnOk P w K mg base CX0 (3 + 1) f fd ["prime", "row"] (T.spF K (T.Zi C0 2 3 Zd5)) :=
  T.Zac (C := C0) (body := Zd5) (k := 3) (N := Ze3) F Zic rfl rfl fun cdv A outer s H E hr =>
  have hu := hr.units
  (Zf (ZhC (ZE G_check_symbols hr (Zh (Zb Zga) (Zh (Zb Zgb) Zn)) (hg := glk ZcU) (hdb := dbk ZcU)))
      (Zf (Z2 Ze4 Zic.nd (ZaB Zb7 (glk Zfb) Z.len_ Zb9 (Zh (Zb Zgb) Zn) (nmk Zfb) (dbk Zfb)))
      (Zf (Zb8 (Z8 hu (Zb Ze4) (Zc (Zj (Zk _) (Zb Zga) (Zc (ZoG (glk ZcV) Z.CHECK_SYMBOLS_ (dbk ZcV)))))) (Zf Zk0
      Zo) Zo)
      (Zf (Z6 (ZE G_with_two_filled hr (Zh (Zb Zga) (Zh (Zc (Zj (Zk _) (Zb Zgb) (Zc (Za6 (ZW (ok_k Za5) (ZW (ok_k Za5) Zag)))))) (Zh (Zb Ze4) (Zh (Zc (Zj (Zk _) (Zb Ze4) Zm)) Zn)))) (hg := glk Zcs) (hdb := dbk Zcs)))
      Zo))))
noncomputable abbrev ZD : Stmt := top 28
noncomputable abbrev ZcW : List Str := ["prime", "things", "row", "unreadable"]
theorem Zhw : FnScope ZcW ["prime", "things"] (Za ZD) := ⟨rfl, rfl, rfl, by walk_at "d", rfl, by walk_at "d", by walk_at "d"⟩
theorem Zbj : Zd (Za ZD) ZcW 2 "row" false = true := by walk_at "d"
theorem ZiN : Zd (Za ZD) ZcW 1 "things" false = true := by walk_at "d"
noncomputable abbrev Zgc : Scope := { kind := .function, names := [(Str.ofString ".0", NameKind.local), (Str.ofString "thing", NameKind.local)], isGenerator := false, isCoroutine := false, more := [] }
noncomputable abbrev Zg3 : List Str := ["thing"]
theorem ZjV : Zd0 (Za ZD) ZcW 1 [] Zg3 Zgc = true := by walk_at "d"
theorem Zjn : Zg3.Nodup := by walk_at "d"
theorem Zf0 : Zd (ZV Zgc (Za ZD)) Zg3 0 "thing" false = true := by walk_at "d"
theorem Zjo : Zfp (Za ZD) Zgc "row" = true := by walk_at "d"
theorem Zd6 : glOk (Za ZD) "check_symbols" = true := by walk_at "d"
theorem Zck : Zd (Za ZD) ZcW 0 "prime" false = true := by walk_at "d"
theorem Zd7 : glOk (Za ZD) "CHECK_SYMBOLS" = true := by walk_at "d"
theorem Zak : glOk (Za ZD) "len" = true := by walk_at "d"
theorem Zcl : Zd (Za ZD) ZcW 3 "unreadable" false = true := by walk_at "d"
theorem Zhx : glOk (Za ZD) "enumerate" = true := by walk_at "d"
noncomputable abbrev Ze5 : Scope := { kind := .function, names := [(Str.ofString ".0", NameKind.local), (Str.ofString "number", NameKind.local), (Str.ofString "thing", NameKind.local)], isGenerator := false, isCoroutine := false, more := [] }
noncomputable abbrev Zfn : List Str := ["number", "thing"]
theorem ZjW : Zd0 (Za ZD) ZcW 2 [] Zfn Ze5 = true := by walk_at "d"
theorem ZgE : Zfn.Nodup := by walk_at "d"
theorem ZgW : Zd (ZV Ze5 (Za ZD)) Zfn 1 "thing" false = true := by walk_at "d"
theorem ZgX : Zd (ZV Ze5 (Za ZD)) Zfn 0 "number" false = true := by walk_at "d"
theorem Zjp : Zfp (Za ZD) Ze5 "unreadable" = true := by walk_at "d"
theorem Zgv : glOk (Za ZD) "Spoilt" = true := by walk_at "d"
theorem ZcX : glOk (Za ZD) "with_two_filled" = true := by walk_at "d"
theorem Zfv : glOk (Za ZD) "plain_sum" = true := by walk_at "d"
theorem Zgd : glOk (Za ZD) "is_good" = true := by walk_at "d"
theorem ZcC : glOk (Za ZD) "with_one_righted" = true := by walk_at "d"
noncomputable def Zfw : List T.S := [.asg 2 (.comp 1 [] (.name 0) .val [.v 1] [] (.ife (.isN true (.v 0)) (.k (.int 0)) (.v 0))), .ex (.call Zay [.v 0, .v 2]), .iff (.nt (.chain .LtE .LtE (.k (.int 2)) (.bf .len [.v 2]) (.v 0))) [.raise (.k .non)] [], .asg 3 (.comp 2 [] (.tup [0, 1]) .enum [.v 1, .k (.int 0)] [.isN true (.v 1)] (.v 0)), .iff (.cmp .Gt (.bf .len [.v 3]) (.k (.int 2))) [.raise0 ["Spoilt", "LabelError"]] [], .iff (.cmp .Eq (.bf .len [.v 3]) (.k (.int 2))) [.ret (.call Z9 [.v 0, .v 2, .ix (.v 3) (.k (.int 0)), .ix (.v 3) (.k (.int 1))])] [], .iff (.cmp .Eq (.bf .len [.v 3]) (.k (.int 1))) [.sub 2 [] (.ix (.v 3) (.k (.int 0))) (.bin .Mod (.neg (.call ZG [.v 0, .v 2])) (.v 0))] [], .iff (.call Zee [.v 0, .v 2]) [.ret (.v 2)] [], .retX ZR [.v 0, .v 2]]
noncomputable def Zap : T.FI := ⟨true, T.Zi C0 2 4 Zfw⟩
theorem Znf (F : Fun K "mended" "mended" ZD f fd) (Z : Txt K mg Kaa Kab Kac Kad Kae Kaf Kag Kah Kai Kaj Kak Kal Kam Kan) (G_check_symbols : FnAt P w K mg base "check_symbols" 3 ["count", "row"] (T.spF K Zay.run)) (G_with_two_filled : FnAt P w K mg base "with_two_filled" 2 ["prime", "row", "earlier", "later"] (T.spF K Z9.run)) (G_plain_sum : FnAt P w K mg base "plain_sum" 1 ["prime", "row"] (T.spF K ZG.run)) (G_is_good : FnAt P w K mg base "is_good" 2 ["prime", "row"] (T.spF K Zee.run)) (GX_with_one_righted : FnAtX P w K mg base "with_one_righted" 2 ["prime", "row"] (T.spX K ZR.run)) : FnOk P w K mg base (CXx P w) (3 + 1) f fd ["prime", "things"] (T.spX K (T.Zi C0 2 4 Zfw)) :=
  have G_with_one_righted := GX_with_one_righted
  T.Zjk (C := C0) (body := Zfw) (k := 3) (N := ZcW) F Zhw rfl rfl fun cdv A outer s H E hF hr =>
  have hu := hr.units
  (Zw (Zan (ZhF Zbj Zhw.nd Zjo rfl (CompScope.of ZjV rfl rfl) (Zhm (Zb ZiN)) (fun cl C s₀ H₀ ex => ⟨(ZbN Zf0 Zjn), Zhn, (ZmT (ZgC (Zb Zf0)) (ok_k Za5) (ok_v (pvs Zf0)))⟩)))
      (Zw (Zan (ZhC (ZE G_check_symbols hr (Zh (Zb Zck) (Zh (Zb Zbj) Zn)) (hg := glk Zd6) (hdb := dbk Zd6))))
      (Zw (ZcR (ZhA (ZmY hu (Zc (ZoG (glk Zd7) Z.CHECK_SYMBOLS_ (dbk Zd7))) (Zc (ZaB Zb7 (glk Zak) Z.len_ Zb9 (Zh (Zb Zbj) Zn) (nmk Zak) (dbk Zak))) (Zb Zck))) (Zw Zgt
      ZH) ZH)
      (Zw (Zan (ZhF Zcl Zhw.nd Zjp rfl (CompScope.of ZjW rfl rfl) (Zih (glk Zhx) Z.enumerate_ (Zb ZiN)) (fun cl C s₀ H₀ ex => ⟨(Zkg rfl (Zet ZgX ZgE (Zet ZgW ZgE Zi6))), (Zk3 (ZgC (Zb ZgW))), (ok_v (pvs ZgX))⟩)))
      (Zw (ZcR (Z8 hu (Zc (ZaB Zb7 (glk Zak) Z.len_ Zb9 (Zh (Zb Zcl) Zn) (nmk Zak) (dbk Zak))) Zm) (Zw (ZiG rfl Z.X_m Z.i_m (glk Zgv) Z.m_m (dbk Zgv))
      ZH) ZH)
      (Zw (ZcR (Z8 hu (Zc (ZaB Zb7 (glk Zak) Z.len_ Zb9 (Zh (Zb Zcl) Zn) (nmk Zak) (dbk Zak))) Zm) (Zw (Zan (Z6 (ZE G_with_two_filled hr (Zh (Zb Zck) (Zh (Zb Zbj) (Zh (Zc (Zad hu (Zb Zcl) Zm)) (Zh (Zc (Zad hu (Zb Zcl) Zm)) Zn)))) (hg := glk ZcX) (hdb := dbk ZcX))))
      ZH) ZH)
      (Zw (ZcR (Z8 hu (Zc (ZaB Zb7 (glk Zak) Z.len_ Zb9 (Zh (Zb Zcl) Zn) (nmk Zak) (dbk Zak))) Zm) (Zw (Zan (ZbR hu (pvs Zbj) (Zc (Zad hu (Zb Zcl) Zm)) (Zj (Zk _) (Zc (Zfq (Zc (ZE G_plain_sum hr (Zh (Zb Zck) (Zh (Zb Zbj) Zn)) (hg := glk Zfv) (hdb := dbk Zfv))))) (Zb Zck))))
      ZH) ZH)
      (Zw (ZcR (Zbr (Zc (ZE G_is_good hr (Zh (Zb Zck) (Zh (Zb Zbj) Zn)) (hg := glk Zgd) (hdb := dbk Zgd)))) (Zw (Zan (Z6 (Zfr (pvs Zbj))))
      ZH) ZH)
      (Zw (Zob (Znd (ZbT _ _) G_with_one_righted hr (Zh (Zb Zck) (Zh (Zb Zbj) Zn)) (hg := glk ZcC) (hdb := dbk ZcC)))
      ZH)))))))))
noncomputable abbrev Zbk : Stmt := top 30
noncomputable abbrev Ze6 : List Str := ["_law_script", "_law_k", "_law_cell"]
theorem Zid : FnScope Ze6 ["_law_script", "_law_k"] (Za Zbk) := ⟨rfl, rfl, rfl, by walk_at "d", rfl, by walk_at "d", by walk_at "d"⟩
theorem ZkN : Zd (Za Zbk) Ze6 0 "_law_script" false = true := by walk_at "d"
theorem Zhy : Zd (Za Zbk) Ze6 1 "_law_k" false = true := by walk_at "d"
theorem Zhz : Zd (Za Zbk) Ze6 2 "_law_cell" false = true := by walk_at "d"
noncomputable def Zd8 : List T.S := [.for_ (.name 2) .val [.sl (.v 0) (.v 1) (.bin .Add (.v 1) (.k (.int 1)))] [.ret (.v 2)], .ret (.k (.int 0))]
noncomputable def ZZ : T.FI := ⟨true, T.Zi C0 2 3 Zd8⟩
theorem Zlj (F : Fun K "_law_nth" "_law_nth" Zbk f fd) (Z : Txt K mg Kaa Kab Kac Kad Kae Kaf Kag Kah Kai Kaj Kak Kal Kam Kan)  : FnOk P w K mg base CX0 (0 + 1) f fd ["_law_script", "_law_k"] (T.spF K (T.Zi C0 2 3 Zd8)) :=
  T.Zac (C := C0) (body := Zd8) (k := 0) (N := Ze6) F Zid rfl rfl fun cdv A outer s H E hr =>
  have hu := hr.units
  (Zf (ZcO PassesOwn.never rfl (ZdL _ _) (hw_1 (ZcQ rfl)) (Zhm (Zc (ZhB (Zb ZkN) (Zeb (Zb Zhy)) (Zeb (Zc (Zj (Zk _) (Zb Zhy) Zm)))))) (ZbN Zhz Zid.nd)
      (Zf (Z6 (Zfr (pvs Zhz)))
      Zo))
      (Zf (Z6 (ok_k Za5))
      Zo))
noncomputable abbrev ZaA : Stmt := top 31
noncomputable abbrev Zc3 : List Str := ["_law_cell", "_law_turn", "_law_many", "_law_number"]
theorem Zge : FnScope Zc3 ["_law_cell", "_law_turn", "_law_many"] (Za ZaA) := ⟨rfl, rfl, rfl, by walk_at "d", rfl, by walk_at "d", by walk_at "d"⟩
theorem Zb3 : Zd (Za ZaA) Zc3 3 "_law_number" false = true := by walk_at "d"
theorem ZjX : Zd (Za ZaA) Zc3 0 "_law_cell" false = true := by walk_at "d"
theorem ZgY : Zd (Za ZaA) Zc3 1 "_law_turn" false = true := by walk_at "d"
theorem ZjY : Zd (Za ZaA) Zc3 2 "_law_many" false = true := by walk_at "d"
noncomputable def ZcY : List T.S := [.asg 3 (.bin .Mod (.bin .Mult (.bin .Add (.bin .Mod (.v 0) (.k (.int 2305843009213693951))) (.k (.int 977))) (.bin .Add (.bin .Mult (.k (.int 2)) (.v 1)) (.k (.int 30011)))) (.k (.int 2305843009213693951))), .asg 3 (.bin .Add (.bin .FloorDiv (.v 3) (.k (.int 65537))) (.bin .Mult (.bin .Mod (.v 3) (.k (.int 65537))) (.bin .Add (.v 1) (.k (.int 5))))), .ret (.bin .Mod (.bin .Add (.bin .Mult (.bin .Mod (.v 3) (.k (.int 1000003))) (.k (.int 1000003))) (.bin .Mod (.bin .FloorDiv (.v 3) (.k (.int 97))) (.k (.int 1000003)))) (.v 2))]
noncomputable def Zd9 : T.FI := ⟨true, T.Zi C0 3 4 ZcY⟩
theorem ZkO (F : Fun K "_law_spun" "_law_spun" ZaA f fd) (Z : Txt K mg Kaa Kab Kac Kad Kae Kaf Kag Kah Kai Kaj Kak Kal Kam Kan)  : FnOk P w K mg base CX0 (0 + 1) f fd ["_law_cell", "_law_turn", "_law_many"] (T.spF K (T.Zi C0 3 4 ZcY)) :=
  T.Zac (C := C0) (body := ZcY) (k := 0) (N := Zc3) F Zge rfl rfl fun cdv A outer s H E hr =>
  have hu := hr.units
  (Zf (Z2 Zb3 Zge.nd (Zj (Zk _) (Zc (Zj (Zk _) (Zc (Zj (Zk _) (Zc (Zj (Zk _) (Zb ZjX) Zm)) Zm)) (Zc (Zj (Zk _) (Zc (Zj (Zk _) Zm (Zb ZgY))) Zm)))) Zm))
      (Zf (Z2 Zb3 Zge.nd (Zj (Zk _) (Zc (Zj (Zk _) (Zb Zb3) Zm)) (Zc (Zj (Zk _) (Zc (Zj (Zk _) (Zb Zb3) Zm)) (Zc (Zj (Zk _) (Zb ZgY) Zm))))))
      (Zf (Z6 (Zj (Zk _) (Zc (Zj (Zk _) (Zc (Zj (Zk _) (Zc (Zj (Zk _) (Zb Zb3) Zm)) Zm)) (Zc (Zj (Zk _) (Zc (Zj (Zk _) (Zb Zb3) Zm)) Zm)))) (Zb ZjY)))
      Zo)))
noncomputable abbrev ZaE : Stmt := top 32
noncomputable abbrev Zf1 : List Str := ["_law_cell"]
theorem Zjq : FnScope Zf1 ["_law_cell"] (Za ZaE) := ⟨rfl, rfl, rfl, by walk_at "d", rfl, by walk_at "d", by walk_at "d"⟩
theorem Zgw : Zd (Za ZaE) Zf1 0 "_law_cell" false = true := by walk_at "d"
theorem Zdy : glOk (Za ZaE) "abs" = true := by walk_at "d"
noncomputable def ZbX : List T.S := [.ret (.lst [.v 0, .bin .FloorDiv (.bf .abs [.v 0]) (.k (.int 2)), .k (.int 0)])]
noncomputable def Zct : T.FI := ⟨true, T.Zi C0 1 1 ZbX⟩
theorem Zjr (F : Fun K "_law_source" "_law_source" ZaE f fd) (Z : Txt K mg Kaa Kab Kac Kad Kae Kaf Kag Kah Kai Kaj Kak Kal Kam Kan)  : FnOk P w K mg base CX0 (0 + 1) f fd ["_law_cell"] (T.spF K (T.Zi C0 1 1 ZbX)) :=
  T.Zac (C := C0) (body := ZbX) (k := 0) (N := Zf1) F Zjq rfl rfl fun cdv A outer s H E hr =>
  have hu := hr.units
  (Zf (Z6 (Za6 (ZW (ok_v (pvs Zgw)) (ZW (Zj (Zk _) (Zc (ZaB Zre (glk Zdy) Z.abs_ Zrm (Zh (Zb Zgw) Zn) (nmk Zdy) (dbk Zdy))) Zm) (ZW (ok_k Za5) Zag)))))
      Zo)
noncomputable abbrev Zaq : Stmt := top 33
noncomputable abbrev ZbK : List Str := ["_law_source_here", "_law_many", "_law_cell", "_law_number", "_law_turn"]
theorem Ze7 : FnScope ZbK ["_law_source_here", "_law_many"] (Za Zaq) := ⟨rfl, rfl, rfl, by walk_at "d", rfl, by walk_at "d", by walk_at "d"⟩
theorem Zf2 : Zd (Za Zaq) ZbK 0 "_law_source_here" false = true := by walk_at "d"
theorem Zf3 : Zd (Za Zaq) ZbK 4 "_law_turn" false = true := by walk_at "d"
theorem ZdM : Zd (Za Zaq) ZbK 3 "_law_number" false = true := by walk_at "d"
theorem Zf4 : Zd (Za Zaq) ZbK 2 "_law_cell" false = true := by walk_at "d"
theorem Zf5 : Zd (Za Zaq) ZbK 1 "_law_many" false = true := by walk_at "d"
theorem Zef : glOk (Za Zaq) "_law_spun" = true := by walk_at "d"
noncomputable def ZcZ : List T.S := [.unp [2, 3, 4] (.v 0), .sub 0 [] (.k (.int 1)) (.bin .FloorDiv (.v 3) (.v 1)), .sub 0 [] (.k (.int 2)) (.bin .Add (.v 4) (.k (.int 1))), .iff (.and (.cmp .Eq (.bin .Mod (.v 2) (.k (.int 2))) (.k (.int 1))) (.cmp .Gt (.v 3) (.k (.int 0)))) [.ret (.bin .Mod (.v 3) (.v 1))] [], .ret (.call Zd9 [.v 2, .v 4, .v 1])]
noncomputable def ZK : T.FI := ⟨true, T.Zi C0 2 5 ZcZ⟩
theorem ZkP (F : Fun K "_law_next" "_law_next" Zaq f fd) (Z : Txt K mg Kaa Kab Kac Kad Kae Kaf Kag Kah Kai Kaj Kak Kal Kam Kan) (G__law_spun : FnAt P w K mg base "_law_spun" 1 ["_law_cell", "_law_turn", "_law_many"] (T.spF K Zd9.run)) : FnOk P w K mg base CX0 (1 + 1) f fd ["_law_source_here", "_law_many"] (T.spF K (T.Zi C0 2 5 ZcZ)) :=
  T.Zac (C := C0) (body := ZcZ) (k := 1) (N := ZbK) F Ze7 rfl rfl fun cdv A outer s H E hr =>
  have hu := hr.units
  (Zf (Zri rfl (Zb Zf2) (Zet Zf4 Ze7.nd (Zet ZdM Ze7.nd (Zet Zf3 Ze7.nd Zi6))))
      (Zf (ZbR hu (pvs Zf2) Zm (Zj (Zk _) (Zb ZdM) (Zb Zf5)))
      (Zf (ZbR hu (pvs Zf2) Zm (Zj (Zk _) (Zb Zf3) Zm))
      (Zf (Zb8 (PW.pt (ZfL (Z8 hu (Zc (Zj (Zk _) (Zb Zf4) Zm)) Zm) (ZfK (Z8 hu (Zb ZdM) Zm)))) (Zf (Z6 (Zj (Zk _) (Zb ZdM) (Zb Zf5)))
      Zo) Zo)
      (Zf (Z6 (ZE G__law_spun hr (Zh (Zb Zf4) (Zh (Zb Zf3) (Zh (Zb Zf5) Zn))) (hg := glk Zef) (hdb := dbk Zef)))
      Zo)))))
noncomputable abbrev Zbu : Stmt := top 34
noncomputable abbrev Zgf : List Str := ["_law_cell"]
theorem ZjZ : FnScope Zgf ["_law_cell"] (Za Zbu) := ⟨rfl, rfl, rfl, by walk_at "d", rfl, by walk_at "d", by walk_at "d"⟩
theorem Zjs : Zd (Za Zbu) Zgf 0 "_law_cell" false = true := by walk_at "d"
noncomputable def Zcu : List T.S := [.ret (.ix (.kl [(.int 5), (.int 7), (.int 11), (.int 13), (.int 17), (.int 19), (.int 23), (.int 29), (.int 31), (.int 37), (.int 41), (.int 43), (.int 47)]) (.bin .Mod (.v 0) (.k (.int 13))))]
noncomputable def Zda : T.FI := ⟨true, T.Zi C0 1 1 Zcu⟩
theorem Zka (F : Fun K "_law_prime" "_law_prime" Zbu f fd) (Z : Txt K mg Kaa Kab Kac Kad Kae Kaf Kag Kah Kai Kaj Kak Kal Kam Kan)  : FnOk P w K mg base CX0 (0 + 1) f fd ["_law_cell"] (T.spF K (T.Zi C0 1 1 Zcu)) :=
  T.Zac (C := C0) (body := Zcu) (k := 0) (N := Zgf) F ZjZ rfl rfl fun cdv A outer s H E hr =>
  have hu := hr.units
  (Zf (Z6 (Zad hu (Zc (Zmi (vs := [(.int 5), (.int 7), (.int 11), (.int 13), (.int 17), (.int 19), (.int 23), (.int 29), (.int 31), (.int 37), (.int 41), (.int 43), (.int 47)]) (by kernel_rfl))) (Zc (Zj (Zk _) (Zb Zjs) Zm))))
      Zo)
noncomputable abbrev Zar : Stmt := top 35
noncomputable abbrev Zc4 : List Str := ["_law_prime_here", "_law_row_here", "_law_sums_here", "_law_place"]
theorem Ze8 : FnScope Zc4 ["_law_prime_here", "_law_row_here"] (Za Zar) := ⟨rfl, rfl, rfl, by walk_at "d", rfl, by walk_at "d", by walk_at "d"⟩
theorem Zcv : Zd (Za Zar) Zc4 2 "_law_sums_here" false = true := by walk_at "d"
theorem Ze9 : glOk (Za Zar) "len" = true := by walk_at "d"
theorem Zf6 : Zd (Za Zar) Zc4 1 "_law_row_here" false = true := by walk_at "d"
theorem ZhW : glOk (Za Zar) "range" = true := by walk_at "d"
theorem ZdN : Zd (Za Zar) Zc4 3 "_law_place" false = true := by walk_at "d"
theorem ZgZ : Zd (Za Zar) Zc4 0 "_law_prime_here" false = true := by walk_at "d"
noncomputable def Zdb : List T.S := [.asg 2 (.lst [.k (.int 0), .k (.int 0)]), .for_ (.name 3) .rng2 [.k (.int 1), .bin .Add (.bf .len [.v 1]) (.k (.int 1))] [.asg 2 (.lst [.bin .Mod (.bin .Add (.ix (.v 2) (.k (.int 0))) (.ix (.v 1) (.bin .Sub (.v 3) (.k (.int 1))))) (.v 0), .bin .Mod (.bin .Add (.ix (.v 2) (.k (.int 1))) (.bin .Mult (.v 3) (.ix (.v 1) (.bin .Sub (.v 3) (.k (.int 1)))))) (.v 0)])], .ret (.v 2)]
noncomputable def Zal : T.FI := ⟨true, T.Zi C0 2 4 Zdb⟩
theorem ZkQ (F : Fun K "_law_sums" "_law_sums" Zar f fd) (Z : Txt K mg Kaa Kab Kac Kad Kae Kaf Kag Kah Kai Kaj Kak Kal Kam Kan)  : FnOk P w K mg base CX0 (0 + 1) f fd ["_law_prime_here", "_law_row_here"] (T.spF K (T.Zi C0 2 4 Zdb)) :=
  T.Zac (C := C0) (body := Zdb) (k := 0) (N := Zc4) F Ze8 rfl rfl fun cdv A outer s H E hr =>
  have hu := hr.units
  (Zf (Z2 Zcv Ze8.nd (Za6 (ZW (ok_k Za5) (ZW (ok_k Za5) Zag))))
      (Zf (ZcO PassesOwn.never rfl (ZdL _ _) (hw_2 (ZcQ rfl) (ZcQ rfl)) (Zl8 (glk ZhW) Z.range_ Zm (Zc (Zj (Zk _) (Zc (ZaB Zb7 (glk Ze9) Z.len_ Zb9 (Zh (Zb Zf6) Zn) (nmk Ze9) (dbk Ze9))) Zm))) (ZbN ZdN Ze8.nd)
      (Zf (Z2 Zcv Ze8.nd (Za6 (ZW (Zj (Zk _) (Zc (Zj (Zk _) (Zc (Zad hu (Zb Zcv) Zm)) (Zc (Zad hu (Zb Zf6) (Zc (Zj (Zk _) (Zb ZdN) Zm)))))) (Zb ZgZ)) (ZW (Zj (Zk _) (Zc (Zj (Zk _) (Zc (Zad hu (Zb Zcv) Zm)) (Zc (Zj (Zk _) (Zb ZdN) (Zc (Zad hu (Zb Zf6) (Zc (Zj (Zk _) (Zb ZdN) Zm)))))))) (Zb ZgZ)) Zag))))
      Zo))
      (Zf (Z6 (Zfr (pvs Zcv)))
      Zo)))
noncomputable abbrev Zae : Stmt := top 36
noncomputable abbrev ZbY : List Str := ["_law_prime_here", "_law_row_here", "_law_last", "_law_other"]
theorem Zf7 : FnScope ZbY ["_law_prime_here", "_law_row_here"] (Za Zae) := ⟨rfl, rfl, rfl, by walk_at "d", rfl, by walk_at "d", by walk_at "d"⟩
theorem Zfc : Zd (Za Zae) ZbY 0 "_law_prime_here" false = true := by walk_at "d"
theorem Zh0 : glOk (Za Zae) "range" = true := by walk_at "d"
theorem Zdo : Zd (Za Zae) ZbY 2 "_law_last" false = true := by walk_at "d"
theorem Zfd : Zd (Za Zae) ZbY 3 "_law_other" false = true := by walk_at "d"
theorem ZdV : glOk (Za Zae) "sum" = true := by walk_at "d"
theorem Zfe : Zd (Za Zae) ZbY 1 "_law_row_here" false = true := by walk_at "d"
theorem ZdA : glOk (Za Zae) "_law_sums" = true := by walk_at "d"
noncomputable def Zcw : List T.S := [.for_ (.name 2) .rng1 [.v 0] [.asg 3 (.bin .Mod (.bin .Sub (.bin .Sub (.k (.int 0)) (.bf .sum [.v 1])) (.v 2)) (.v 0)), .iff (.cmp .Eq (.call Zal [.v 0, .bin .Add (.v 1) (.lst [.v 3, .v 2])]) (.lst [.k (.int 0), .k (.int 0)])) [.ret (.bin .Add (.v 1) (.lst [.v 3, .v 2]))] []], .ret (.lst [])]
noncomputable def ZbZ : T.FI := ⟨true, T.Zi C0 2 4 Zcw⟩
theorem Zkb (F : Fun K "_law_label" "_law_label" Zae f fd) (Z : Txt K mg Kaa Kab Kac Kad Kae Kaf Kag Kah Kai Kaj Kak Kal Kam Kan) (G__law_sums : FnAt P w K mg base "_law_sums" 1 ["_law_prime_here", "_law_row_here"] (T.spF K Zal.run)) : FnOk P w K mg base CX0 (1 + 1) f fd ["_law_prime_here", "_law_row_here"] (T.spF K (T.Zi C0 2 4 Zcw)) :=
  T.Zac (C := C0) (body := Zcw) (k := 1) (N := ZbY) F Zf7 rfl rfl fun cdv A outer s H E hr =>
  have hu := hr.units
  (Zf (ZcO PassesOwn.never rfl (ZdL _ _) (hw_1 (ZgB rfl)) (Zdn (glk Zh0) Z.range_ (Zb Zfc)) (ZbN Zdo Zf7.nd)
      (Zf (Z2 Zfd Zf7.nd (Zj (Zk _) (Zc (Zj (Zk _) (Zc (Zj (Zk _) Zm (Zc (ZaB (Zkz rfl) (glk ZdV) Z.sum_ Zk4 (Zh (Zb Zfe) Zn) (nmk ZdV) (dbk ZdV))))) (Zb Zdo))) (Zb Zfc)))
      (Zf (Zb8 (Z8 hu (Zc (ZE G__law_sums hr (Zh (Zb Zfc) (Zh (Zc (Zj (Zk _) (Zb Zfe) (Zc (Za6 (ZW (ok_v (pvs Zfd)) (ZW (ok_v (pvs Zdo)) Zag)))))) Zn)) (hg := glk ZdA) (hdb := dbk ZdA))) (Zc (Za6 (ZW (ok_k Za5) (ZW (ok_k Za5) Zag))))) (Zf (Z6 (Zj (Zk _) (Zb Zfe) (Zc (Za6 (ZW (ok_v (pvs Zfd)) (ZW (ok_v (pvs Zdo)) Zag))))))
      Zo) Zo)
      Zo)))
      (Zf (Z6 (Za6 Zag))
      Zo))
noncomputable abbrev Zaa : Stmt := top 37
noncomputable abbrev ZfH : List Str := ["_law_found", "_law_prime_here"]
theorem Zlk : FnScope ZfH ["_law_found", "_law_prime_here"] (Za Zaa) := ⟨rfl, rfl, rfl, by walk_at "d", rfl, by walk_at "d", by walk_at "d"⟩
theorem ZgF : glOk (Za Zaa) "isinstance" = true := by walk_at "d"
theorem Zh1 : Zd (Za Zaa) ZfH 0 "_law_found" false = true := by walk_at "d"
theorem ZeA : glOk (Za Zaa) "list" = true := by walk_at "d"
theorem Zff : glOk (Za Zaa) "all" = true := by walk_at "d"
noncomputable abbrev Zbo : Scope := { kind := .function, names := [(Str.ofString ".0", NameKind.local), (Str.ofString "_law_one", NameKind.local), (Str.ofString "isinstance", NameKind.globalImplicit), (Str.ofString "int", NameKind.globalImplicit), (Str.ofString "bool", NameKind.globalImplicit), (Str.ofString "_law_prime_here", NameKind.free)], isGenerator := false, isCoroutine := false, more := [] }
noncomputable abbrev ZdO : List Str := ["_law_one", "_law_prime_here"]
theorem ZiO : Zd0 (Za Zaa) ZfH 1 [1] ZdO Zbo = true := by walk_at "d"
theorem Zio : ZdO.Nodup := by walk_at "d"
theorem ZcD : Zd (ZV Zbo (Za Zaa)) ZdO 0 "_law_one" false = true := by walk_at "d"
theorem ZiP : Zer (ZV Zbo (Za Zaa)) ZdO 1 "_law_prime_here" = true := by walk_at "d"
theorem Zdc : glOk (ZV Zbo (Za Zaa)) "isinstance" = true := by walk_at "d"
theorem Zdd : glOk (ZV Zbo (Za Zaa)) "bool" = true := by walk_at "d"
theorem Zdz : glOk (ZV Zbo (Za Zaa)) "int" = true := by walk_at "d"
noncomputable def ZdB : List T.S := [.iff (.nt (.bf (.isi .list) [.v 0])) [.ret (.k (.bl false))] [], .ret (.bf .all [.comp 1 [1] (.name 0) .val [.v 0] [] (.and (.bf (.isi .int) [.v 0]) (.and (.nt (.bf (.isi .bool) [.v 0])) (.chain .LtE .Lt (.k (.int 0)) (.v 0) (.v 1))))])]
noncomputable def Zcm : T.FI := ⟨true, T.Zi C0 2 2 ZdB⟩
theorem Zll (F : Fun K "_law_row" "_law_row" Zaa f fd) (Z : Txt K mg Kaa Kab Kac Kad Kae Kaf Kag Kah Kai Kaj Kak Kal Kam Kan)  : FnOk P w K mg base CX0 (0 + 1) f fd ["_law_found", "_law_prime_here"] (T.spF K (T.Zi C0 2 2 ZdB)) :=
  T.Zac (C := C0) (body := ZdB) (k := 0) (N := ZfH) F Zlk rfl rfl fun cdv A outer s H E hr =>
  have hu := hr.units
  (Zf (Zb8 (ZhA (Zbr (Zc (Zhk (t := .list) (n := "list") rfl (glk ZgF) Z.isinstance_ (Zb Zh1) (ZfI (v := .ty "list") (glk ZeA) Z.list_ ZqU rfl (nmk ZeA) (dbk ZeA)))))) (Zf (Z6 (ok_k Zgo))
      Zo) Zo)
      (Zf (Z6 (ZaB (Zrf rfl) (glk Zff) Z.all_ Zrn (Zh (Zc (ZhE rfl (CompScope.of ZiO rfl rfl) (Zhm (Zb Zh1)) (fun cl C s₀ H₀ ex => ⟨(ZbN ZcD Zio), Zhn, (Zg7 (Zc (Zhk (t := .int) (n := "int") rfl (glk Zdc) Z.isinstance_ (Zb ZcD) (ZfI (v := .ty "int") (glk Zdz) Z.int_ ZoB rfl (nmk Zdz) (dbk Zdz)))) (Zg7 (Zc (Zje (Zc (Zhk (t := .bool) (n := "bool") rfl (glk Zdc) Z.isinstance_ (Zb ZcD) (ZfI (v := .ty "bool") (glk Zdd) Z.bool_ ZmM rfl (nmk Zdd) (dbk Zdd)))))) (Zhj (Zk7 hu Zm (Zb ZcD) (Zea (pvf ZiP))))))⟩))) Zn) (nmk Zff) (dbk Zff)))
      Zo))
noncomputable abbrev Zz : Stmt := top 38
noncomputable abbrev Zf8 : List Str := ["_law_e"]
theorem Zjt : FnScope Zf8 ["_law_e"] (Za Zz) := ⟨rfl, rfl, rfl, by walk_at "d", rfl, by walk_at "d", by walk_at "d"⟩
theorem Zu : glOk (Za Zz) "isinstance" = true := by walk_at "d"
theorem ZS : Zd (Za Zz) Zf8 0 "_law_e" false = true := by walk_at "d"
theorem Zeg : glOk (Za Zz) "NoLabel" = true := by walk_at "d"
theorem Zeh : glOk (Za Zz) "NoFount" = true := by walk_at "d"
theorem ZeS : glOk (Za Zz) "Mixed" = true := by walk_at "d"
theorem Zfx : glOk (Za Zz) "Lost" = true := by walk_at "d"
theorem Zdr : glOk (Za Zz) "NoWriting" = true := by walk_at "d"
theorem Zei : glOk (Za Zz) "NoTable" = true := by walk_at "d"
theorem ZeB : glOk (Za Zz) "NoName" = true := by walk_at "d"
theorem ZeC : glOk (Za Zz) "NoForm" = true := by walk_at "d"
theorem Zbv : glOk (Za Zz) "ValueError" = true := by walk_at "d"
theorem ZeD : glOk (Za Zz) "NoRoom" = true := by walk_at "d"
theorem Zds : glOk (Za Zz) "NoReading" = true := by walk_at "d"
noncomputable def Zfg : List T.S := [.iff (.or (.bf (.isiX "Lost") [.v 0]) (.or (.bf (.isiX "Mixed") [.v 0]) (.or (.bf (.isiX "NoFount") [.v 0]) (.bf (.isiX "NoLabel") [.v 0])))) [.ret (.k (.bl true))] [], .iff (.or (.bf (.isiX "NoForm") [.v 0]) (.or (.bf (.isiX "NoName") [.v 0]) (.or (.bf (.isiX "NoTable") [.v 0]) (.bf (.isiX "NoWriting") [.v 0])))) [.ret (.k (.bl true))] [], .ret (.or (.bf (.isiX "NoReading") [.v 0]) (.or (.bf (.isiX "NoRoom") [.v 0]) (.nt (.bf .isiV [.v 0]))))]
noncomputable def Zcx : T.FI := ⟨true, T.Zi C0 1 1 Zfg⟩
theorem Zju (F : Fun K "_law_others" "_law_others" Zz f fd) (Z : Txt K mg Kaa Kab Kac Kad Kae Kaf Kag Kah Kai Kaj Kak Kal Kam Kan)  : FnOk P w K mg base CX0 (0 + 1) f fd ["_law_e"] (T.spF K (T.Zi C0 1 1 Zfg)) :=
  T.Zac (C := C0) (body := Zfg) (k := 0) (N := Zf8) F Zjt rfl rfl fun cdv A outer s H E hr =>
  have hu := hr.units
  (Zf (Zb8 (PW.pt (Zes (Zbr (Zc (Zbn Z.g_b Z.t_b (glk Zu) Z.isinstance_ (Zb ZS) (ZaT (v := .ref Kab) (glk Zfx) Z.m_b rfl (dbk Zfx))))) (Zes (Zbr (Zc (Zbn Z.g_c Z.t_c (glk Zu) Z.isinstance_ (Zb ZS) (ZaT (v := .ref Kac) (glk ZeS) Z.m_c rfl (dbk ZeS))))) (Zes (Zbr (Zc (Zbn Z.g_e Z.t_e (glk Zu) Z.isinstance_ (Zb ZS) (ZaT (v := .ref Kae) (glk Zeh) Z.m_e rfl (dbk Zeh))))) (Zhi (Zbr (Zc (Zbn Z.g_f Z.t_f (glk Zu) Z.isinstance_ (Zb ZS) (ZaT (v := .ref Kaf) (glk Zeg) Z.m_f rfl (dbk Zeg)))))))))) (Zf (Z6 (ok_k Zgo))
      Zo) Zo)
      (Zf (Zb8 (PW.pt (Zes (Zbr (Zc (Zbn Z.g_d Z.t_d (glk Zu) Z.isinstance_ (Zb ZS) (ZaT (v := .ref Kad) (glk ZeC) Z.m_d rfl (dbk ZeC))))) (Zes (Zbr (Zc (Zbn Z.g_g Z.t_g (glk Zu) Z.isinstance_ (Zb ZS) (ZaT (v := .ref Kag) (glk ZeB) Z.m_g rfl (dbk ZeB))))) (Zes (Zbr (Zc (Zbn Z.g_k Z.t_k (glk Zu) Z.isinstance_ (Zb ZS) (ZaT (v := .ref Kak) (glk Zei) Z.m_k rfl (dbk Zei))))) (Zhi (Zbr (Zc (Zbn Z.g_l Z.t_l (glk Zu) Z.isinstance_ (Zb ZS) (ZaT (v := .ref Kal) (glk Zdr) Z.m_l rfl (dbk Zdr)))))))))) (Zf (Z6 (ok_k Zgo))
      Zo) Zo)
      (Zf (Z6 (ZmU (Zc (Zbn Z.g_h Z.t_h (glk Zu) Z.isinstance_ (Zb ZS) (ZaT (v := .ref Kah) (glk Zds) Z.m_h rfl (dbk Zds)))) (ZmU (Zc (Zbn Z.g_i Z.t_i (glk Zu) Z.isinstance_ (Zb ZS) (ZaT (v := .ref Kai) (glk ZeD) Z.m_i rfl (dbk ZeD)))) (Zhj (Zje (Zc (ZpR (glk Zu) Z.isinstance_ (Zb ZS) (ZfI (v := .ty "ValueError") (glk Zbv) Z.ValueError_ ZkH rfl (nmk Zbv) (dbk Zbv)))))))))
      Zo)))
noncomputable abbrev Z5 : Stmt := top 39
noncomputable abbrev ZaQ : List Str := ["_law_prime_here", "_law_things_here", "_law_way", "_law_caught", "_law_found", "_law_e", "_law_some"]
theorem ZaS : FnScope ZaQ ["_law_prime_here", "_law_things_here", "_law_way"] (Za Z5) := ⟨rfl, rfl, rfl, by walk_at "d", rfl, by walk_at "d", by walk_at "d"⟩
theorem ZaZ : Zd (Za Z5) ZaQ 3 "_law_caught" false = true := by walk_at "d"
theorem ZdP : Zd (Za Z5) ZaQ 4 "_law_found" false = true := by walk_at "d"
theorem ZdC : glOk (Za Z5) "LabelError" = true := by walk_at "d"
theorem Zha : Zd (Za Z5) ZaQ 5 "_law_e" false = true := by walk_at "d"
theorem Zkc : Zd (Za Z5) ZaQ 2 "_law_way" false = true := by walk_at "d"
theorem ZeE : glOk (Za Z5) "labelled" = true := by walk_at "d"
theorem Zhb : Zd (Za Z5) ZaQ 0 "_law_prime_here" false = true := by walk_at "d"
theorem Zhc : Zd (Za Z5) ZaQ 1 "_law_things_here" false = true := by walk_at "d"
theorem Zfy : glOk (Za Z5) "mended" = true := by walk_at "d"
theorem ZdQ : Zd (Za Z5) ZaQ 6 "_law_some" false = true := by walk_at "d"
theorem ZbL : glOk (Za Z5) "isinstance" = true := by walk_at "d"
theorem ZeF : glOk (Za Z5) "NoSymbol" = true := by walk_at "d"
theorem ZeT : glOk (Za Z5) "TooLong" = true := by walk_at "d"
theorem Zfz : glOk (Za Z5) "Spoilt" = true := by walk_at "d"
theorem Zdt : glOk (Za Z5) "_law_others" = true := by walk_at "d"
noncomputable def Zbw : List T.S := [.asg 3 (.k .non), .asg 4 (.k .non), .try_ [.iff (.cmp .Eq (.v 2) (.k (.int 0))) [.asg 4 (.call Zai [.v 0, .v 1])] [.asgX 4 Zap [.v 0, .v 1]]] "LabelError" (some 5) [.asg 3 (.v 5)], .iff (.isN true (.v 3)) [.ret (.tup [.k (.int 0), .v 4])] [], .asg 6 (.lst [.bf (.isiX "NoSymbol") [.v 3], .bf (.isiX "TooLong") [.v 3], .bf (.isiX "Spoilt") [.v 3]]), .iff (.or (.call Zcx [.v 3]) (.cmp .NotEq (.bf (.cnt (.bl true)) [.v 6]) (.k (.int 1)))) [.raise (.k .non)] [], .iff (.ix (.v 6) (.k (.int 0))) [.raise (.k .non)] [], .iff (.ix (.v 6) (.k (.int 1))) [.raise (.k .non)] [], .ret (.tup [.k (.int 3), .k .non])]
noncomputable def ZaR : T.FI := ⟨true, T.Zi C0 3 7 Zbw⟩
theorem ZkR (F : Fun K "_law_told" "_law_told" Z5 f fd) (Z : Txt K mg Kaa Kab Kac Kad Kae Kaf Kag Kah Kai Kaj Kak Kal Kam Kan) (G_labelled : FnAt P w K mg base "labelled" 4 ["prime", "row"] (T.spF K Zai.run)) (GX_mended : FnAtX P w K mg base "mended" 4 ["prime", "things"] (T.spX K Zap.run)) (G__law_others : FnAt P w K mg base "_law_others" 1 ["_law_e"] (T.spF K Zcx.run)) : FnOk P w K mg base (CXx P w) (4 + 1) f fd ["_law_prime_here", "_law_things_here", "_law_way"] (T.spX K (T.Zi C0 3 7 Zbw)) :=
  have G_mended := GX_mended
  T.Zjk (C := C0) (body := Zbw) (k := 4) (N := ZaQ) F ZaS rfl rfl fun cdv A outer s H E hF hr =>
  have hu := hr.units
  (Zw (Zan (Z2 ZaZ ZaS.nd (ok_k Zg4)))
      (Zw (Zan (Z2 ZdP ZaS.nd (ok_k Zg4)))
      (Zw (Zof hF (fun _ _ h => h) Zha ZaS.nd (Zw (ZcR (Z8 hu (Zb Zkc) Zm) (Zw (Zan (Z2 ZdP ZaS.nd (ZE G_labelled hr (Zh (Zb Zhb) (Zh (Zb Zhc) Zn)) (hg := glk ZeE) (hdb := dbk ZeE))))
      ZH) (Zw (Zoe ZdP ZaS.nd (Znd (ZbT _ _) G_mended hr (Zh (Zb Zhb) (Zh (Zb Zhc) Zn)) (hg := glk Zfy) (hdb := dbk Zfy)))
      ZH))
      ZH) (fun _ => (Zf (Z2 ZaZ ZaS.nd (ok_v (pvs Zha)))
      Zo)) (glk ZdC) Z.m_a Z.c_a Z.g_a (dbk ZdC))
      (Zw (ZcR (ZgC (Zb ZaZ)) (Zw (Zan (Z6 (Zi5 (ZW (ok_k Za5) (ZW (ok_v (pvs ZdP)) Zag)))))
      ZH) ZH)
      (Zw (Zan (Z2 ZdQ ZaS.nd (Za6 (ZW (Zbn Z.g_j Z.t_j (glk ZbL) Z.isinstance_ (Zb ZaZ) (ZaT (v := .ref Kaj) (glk ZeF) Z.m_j rfl (dbk ZeF))) (ZW (Zbn Z.g_n Z.t_n (glk ZbL) Z.isinstance_ (Zb ZaZ) (ZaT (v := .ref Kan) (glk ZeT) Z.m_n rfl (dbk ZeT))) (ZW (Zbn Z.g_m Z.t_m (glk ZbL) Z.isinstance_ (Zb ZaZ) (ZaT (v := .ref Kam) (glk Zfz) Z.m_m rfl (dbk Zfz))) Zag))))))
      (Zw (ZcR (PW.pt (Zes (Zbr (Zc (ZE G__law_others hr (Zh (Zb ZaZ) Zn) (hg := glk Zdt) (hdb := dbk Zdt)))) (Zhi (Z8 hu (Zc (Zod (v := (.bl true)) rfl (Zb ZdQ) Zgo)) Zm)))) (Zw Zgt
      ZH) ZH)
      (Zw (ZcR (Zbr (Zc (Zad hu (Zb ZdQ) Zm))) (Zw Zgt
      ZH) ZH)
      (Zw (ZcR (Zbr (Zc (Zad hu (Zb ZdQ) Zm))) (Zw Zgt
      ZH) ZH)
      (Zw (Zan (Z6 (Zi5 (ZW (ok_k Za5) (ZW (ok_k Zg4) Zag)))))
      ZH)))))))))
noncomputable abbrev Zv : Stmt := top 40
noncomputable abbrev Zab : List Str := ["_law_prime_here", "_law_things_here", "_law_holes", "_law_sums_here", "_law_found", "_law_one", "_law_other", "_law_far", "_law_row_here"]
theorem Za7 : FnScope Zab ["_law_prime_here", "_law_things_here", "_law_holes"] (Za Zv) := ⟨rfl, rfl, rfl, by walk_at "d", rfl, by walk_at "d", by walk_at "d"⟩
theorem ZeG : Zd (Za Zv) Zab 3 "_law_sums_here" false = true := by walk_at "d"
theorem Zdu : glOk (Za Zv) "_law_sums" = true := by walk_at "d"
theorem ZbE : Zd (Za Zv) Zab 0 "_law_prime_here" false = true := by walk_at "d"
theorem Zgx : Zd (Za Zv) Zab 1 "_law_things_here" false = true := by walk_at "d"
noncomputable abbrev ZfB : Scope := { kind := .function, names := [(Str.ofString ".0", NameKind.local), (Str.ofString "_law_thing", NameKind.local)], isGenerator := false, isCoroutine := false, more := [] }
noncomputable abbrev ZdW : List Str := ["_law_thing"]
theorem Zh2 : Zd0 (Za Zv) Zab 1 [] ZdW ZfB = true := by walk_at "d"
theorem Zhe : ZdW.Nodup := by walk_at "d"
theorem Zde : Zd (ZV ZfB (Za Zv)) ZdW 0 "_law_thing" false = true := by walk_at "d"
theorem ZeH : Zd (Za Zv) Zab 4 "_law_found" false = true := by walk_at "d"
theorem ZeU : glOk (Za Zv) "range" = true := by walk_at "d"
theorem ZcE : Zd (Za Zv) Zab 5 "_law_one" false = true := by walk_at "d"
theorem ZaC : glOk (Za Zv) "len" = true := by walk_at "d"
theorem ZaV : Zd (Za Zv) Zab 2 "_law_holes" false = true := by walk_at "d"
theorem ZcF : Zd (Za Zv) Zab 6 "_law_other" false = true := by walk_at "d"
theorem ZcG : Zd (Za Zv) Zab 7 "_law_far" false = true := by walk_at "d"
theorem ZcH : Zd (Za Zv) Zab 8 "_law_row_here" false = true := by walk_at "d"
theorem Zdf : glOk (Za Zv) "list" = true := by walk_at "d"
noncomputable def Zca : List T.S := [.asg 3 (.call Zal [.v 0, .comp 1 [] (.name 0) .val [.v 1] [] (.ife (.isN true (.v 0)) (.k (.int 0)) (.v 0))]), .asg 4 (.lst []), .for_ (.name 5) .rng1 [.v 0] [.for_ (.name 6) .rng1 [.ix (.lst [.k (.int 1), .v 0]) (.bin .Sub (.bf .len [.v 2]) (.k (.int 1)))] [.asg 7 (.bin .Add (.ix (.v 3) (.k (.int 1))) (.bin .Mult (.v 5) (.bin .Add (.ix (.v 2) (.k (.int 0))) (.k (.int 1))))), .iff (.cmp .Gt (.bf .len [.v 2]) (.k (.int 1))) [.asg 7 (.bin .Add (.v 7) (.bin .Mult (.v 6) (.bin .Add (.ix (.v 2) (.neg (.k (.int 1)))) (.k (.int 1)))))] [], .iff (.and (.cmp .Eq (.bin .Mod (.bin .Add (.bin .Add (.ix (.v 3) (.k (.int 0))) (.v 5)) (.v 6)) (.v 0)) (.k (.int 0))) (.cmp .Eq (.bin .Mod (.v 7) (.v 0)) (.k (.int 0)))) [.asg 8 (.bf .list [.v 1]), .sub 8 [] (.ix (.v 2) (.neg (.k (.int 1)))) (.v 6), .sub 8 [] (.ix (.v 2) (.k (.int 0))) (.v 5), .ex (.mut .append 4 [] [.v 8])] []]], .ret (.v 4)]
noncomputable def Zba : T.FI := ⟨true, T.Zi C0 3 9 Zca⟩
theorem Zjv (F : Fun K "_law_filled" "_law_filled" Zv f fd) (Z : Txt K mg Kaa Kab Kac Kad Kae Kaf Kag Kah Kai Kaj Kak Kal Kam Kan) (G__law_sums : FnAt P w K mg base "_law_sums" 1 ["_law_prime_here", "_law_row_here"] (T.spF K Zal.run)) : FnOk P w K mg base CX0 (1 + 1) f fd ["_law_prime_here", "_law_things_here", "_law_holes"] (T.spF K (T.Zi C0 3 9 Zca)) :=
  T.Zac (C := C0) (body := Zca) (k := 1) (N := Zab) F Za7 rfl rfl fun cdv A outer s H E hr =>
  have hu := hr.units
  (Zf (Z2 ZeG Za7.nd (ZE G__law_sums hr (Zh (Zb ZbE) (Zh (Zc (ZhE rfl (CompScope.of Zh2 rfl rfl) (Zhm (Zb Zgx)) (fun cl C s₀ H₀ ex => ⟨(ZbN Zde Zhe), Zhn, (ZmT (ZgC (Zb Zde)) (ok_k Za5) (ok_v (pvs Zde)))⟩))) Zn)) (hg := glk Zdu) (hdb := dbk Zdu)))
      (Zf (Z2 ZeH Za7.nd (Za6 Zag))
      (Zf (ZcO PassesOwn.never rfl (ZdL _ _) (hw_1 (ZgB rfl)) (Zdn (glk ZeU) Z.range_ (Zb ZbE)) (ZbN ZcE Za7.nd)
      (Zf (ZcO PassesOwn.never rfl (ZdL _ _) (hw_1 (ZcQ rfl)) (Zdn (glk ZeU) Z.range_ (Zc (Zad hu (Zc (Za6 (ZW (ok_k Za5) (ZW (ok_v (pvs ZbE)) Zag)))) (Zc (Zj (Zk _) (Zc (ZaB Zb7 (glk ZaC) Z.len_ Zb9 (Zh (Zb ZaV) Zn) (nmk ZaC) (dbk ZaC))) Zm))))) (ZbN ZcF Za7.nd)
      (Zf (Z2 ZcG Za7.nd (Zj (Zk _) (Zc (Zad hu (Zb ZeG) Zm)) (Zc (Zj (Zk _) (Zb ZcE) (Zc (Zj (Zk _) (Zc (Zad hu (Zb ZaV) Zm)) Zm))))))
      (Zf (Zb8 (Z8 hu (Zc (ZaB Zb7 (glk ZaC) Z.len_ Zb9 (Zh (Zb ZaV) Zn) (nmk ZaC) (dbk ZaC))) Zm) (Zf (Z2 ZcG Za7.nd (Zj (Zk _) (Zb ZcG) (Zc (Zj (Zk _) (Zb ZcF) (Zc (Zj (Zk _) (Zc (Zad hu (Zb ZaV) (Zc (Zfq Zm)))) Zm))))))
      Zo) Zo)
      (Zf (Zb8 (PW.pt (ZfL (Z8 hu (Zc (Zj (Zk _) (Zc (Zj (Zk _) (Zc (Zj (Zk _) (Zc (Zad hu (Zb ZeG) Zm)) (Zb ZcE))) (Zb ZcF))) (Zb ZbE))) Zm) (ZfK (Z8 hu (Zc (Zj (Zk _) (Zb ZcG) (Zb ZbE))) Zm)))) (Zf (Z2 ZcH Za7.nd (Zg8 ZfM (glk Zdf) Z.list_ ZfP (Zh (Zb Zgx) Zn) (nmk Zdf) (dbk Zdf)))
      (Zf (ZbR hu (pvs ZcH) (Zc (Zad hu (Zb ZaV) (Zc (Zfq Zm)))) (ok_v (pvs ZcF)))
      (Zf (ZbR hu (pvs ZcH) (Zc (Zad hu (Zb ZaV) Zm)) (ok_v (pvs ZcE)))
      (Zf (ZhC (ZjD (pvs ZeH) (ZW (ok_v (pvs ZcH)) Zag)))
      Zo)))) Zo)
      Zo))))
      Zo))
      (Zf (Z6 (Zfr (pvs ZeH)))
      Zo))))
noncomputable abbrev Z3 : Stmt := top 41
noncomputable abbrev Zav : List Str := ["_law_prime_here", "_law_row_here", "_law_sums_here", "_law_found", "_law_place", "_law_more", "_law_other"]
theorem ZaW : FnScope Zav ["_law_prime_here", "_law_row_here"] (Za Z3) := ⟨rfl, rfl, rfl, by walk_at "d", rfl, by walk_at "d", by walk_at "d"⟩
theorem Zcn : Zd (Za Z3) Zav 2 "_law_sums_here" false = true := by walk_at "d"
theorem Zdg : glOk (Za Z3) "_law_sums" = true := by walk_at "d"
theorem Zbx : Zd (Za Z3) Zav 0 "_law_prime_here" false = true := by walk_at "d"
theorem Zby : Zd (Za Z3) Zav 1 "_law_row_here" false = true := by walk_at "d"
theorem ZdX : Zd (Za Z3) Zav 3 "_law_found" false = true := by walk_at "d"
theorem Zdh : glOk (Za Z3) "len" = true := by walk_at "d"
theorem ZeI : glOk (Za Z3) "range" = true := by walk_at "d"
theorem Zco : Zd (Za Z3) Zav 4 "_law_place" false = true := by walk_at "d"
theorem Zcp : Zd (Za Z3) Zav 5 "_law_more" false = true := by walk_at "d"
theorem ZdY : Zd (Za Z3) Zav 6 "_law_other" false = true := by walk_at "d"
theorem Zc7 : glOk (Za Z3) "list" = true := by walk_at "d"
noncomputable def ZbF : List T.S := [.asg 2 (.call Zal [.v 0, .v 1]), .iff (.cmp .Eq (.v 2) (.lst [.k (.int 0), .k (.int 0)])) [.ret (.lst [.v 1])] [], .asg 3 (.lst []), .for_ (.name 4) .rng1 [.bf .len [.v 1]] [.for_ (.name 5) .rng2 [.k (.int 1), .v 0] [.iff (.and (.cmp .Eq (.bin .Mod (.bin .Add (.ix (.v 2) (.k (.int 0))) (.v 5)) (.v 0)) (.k (.int 0))) (.cmp .Eq (.bin .Mod (.bin .Add (.ix (.v 2) (.k (.int 1))) (.bin .Mult (.v 5) (.bin .Add (.v 4) (.k (.int 1))))) (.v 0)) (.k (.int 0)))) [.asg 6 (.bf .list [.v 1]), .sub 6 [] (.v 4) (.bin .Mod (.bin .Add (.ix (.v 1) (.v 4)) (.v 5)) (.v 0)), .ex (.mut .append 3 [] [.v 6])] []]], .ret (.v 3)]
noncomputable def Za8 : T.FI := ⟨true, T.Zi C0 2 7 ZbF⟩
theorem ZiQ (F : Fun K "_law_changed" "_law_changed" Z3 f fd) (Z : Txt K mg Kaa Kab Kac Kad Kae Kaf Kag Kah Kai Kaj Kak Kal Kam Kan) (G__law_sums : FnAt P w K mg base "_law_sums" 1 ["_law_prime_here", "_law_row_here"] (T.spF K Zal.run)) : FnOk P w K mg base CX0 (1 + 1) f fd ["_law_prime_here", "_law_row_here"] (T.spF K (T.Zi C0 2 7 ZbF)) :=
  T.Zac (C := C0) (body := ZbF) (k := 1) (N := Zav) F ZaW rfl rfl fun cdv A outer s H E hr =>
  have hu := hr.units
  (Zf (Z2 Zcn ZaW.nd (ZE G__law_sums hr (Zh (Zb Zbx) (Zh (Zb Zby) Zn)) (hg := glk Zdg) (hdb := dbk Zdg)))
      (Zf (Zb8 (Z8 hu (Zb Zcn) (Zc (Za6 (ZW (ok_k Za5) (ZW (ok_k Za5) Zag))))) (Zf (Z6 (Za6 (ZW (ok_v (pvs Zby)) Zag)))
      Zo) Zo)
      (Zf (Z2 ZdX ZaW.nd (Za6 Zag))
      (Zf (ZcO PassesOwn.never rfl (ZdL _ _) (hw_1 (ZcQ rfl)) (Zdn (glk ZeI) Z.range_ (Zc (ZaB Zb7 (glk Zdh) Z.len_ Zb9 (Zh (Zb Zby) Zn) (nmk Zdh) (dbk Zdh)))) (ZbN Zco ZaW.nd)
      (Zf (ZcO PassesOwn.never rfl (ZdL _ _) (hw_2 (ZcQ rfl) (ZgB rfl)) (Zl8 (glk ZeI) Z.range_ Zm (Zb Zbx)) (ZbN Zcp ZaW.nd)
      (Zf (Zb8 (PW.pt (ZfL (Z8 hu (Zc (Zj (Zk _) (Zc (Zj (Zk _) (Zc (Zad hu (Zb Zcn) Zm)) (Zb Zcp))) (Zb Zbx))) Zm) (ZfK (Z8 hu (Zc (Zj (Zk _) (Zc (Zj (Zk _) (Zc (Zad hu (Zb Zcn) Zm)) (Zc (Zj (Zk _) (Zb Zcp) (Zc (Zj (Zk _) (Zb Zco) Zm)))))) (Zb Zbx))) Zm)))) (Zf (Z2 ZdY ZaW.nd (Zg8 ZfM (glk Zc7) Z.list_ ZfP (Zh (Zb Zby) Zn) (nmk Zc7) (dbk Zc7)))
      (Zf (ZbR hu (pvs ZdY) (Zb Zco) (Zj (Zk _) (Zc (Zj (Zk _) (Zc (Zad hu (Zb Zby) (Zb Zco))) (Zb Zcp))) (Zb Zbx)))
      (Zf (ZhC (ZjD (pvs ZdX) (ZW (ok_v (pvs ZdY)) Zag)))
      Zo))) Zo)
      Zo))
      Zo))
      (Zf (Z6 (Zfr (pvs ZdX)))
      Zo)))))
noncomputable abbrev ZT : Stmt := top 42
noncomputable abbrev Zdp : List Str := ["_law_prime_here", "_law_things_here", "_law_holes"]
theorem Zie : FnScope Zdp ["_law_prime_here", "_law_things_here"] (Za ZT) := ⟨rfl, rfl, rfl, by walk_at "d", rfl, by walk_at "d", by walk_at "d"⟩
theorem ZeJ : Zd (Za ZT) Zdp 2 "_law_holes" false = true := by walk_at "d"
theorem Zbp : glOk (Za ZT) "len" = true := by walk_at "d"
theorem Zgg : Zd (Za ZT) Zdp 1 "_law_things_here" true = true := by walk_at "d"
theorem Zip : glOk (Za ZT) "range" = true := by walk_at "d"
noncomputable abbrev Zdq : Scope := { kind := .function, names := [(Str.ofString ".0", NameKind.local), (Str.ofString "_law_k", NameKind.local), (Str.ofString "_law_things_here", NameKind.free)], isGenerator := false, isCoroutine := false, more := [] }
noncomputable abbrev ZdR : List Str := ["_law_k", "_law_things_here"]
theorem ZiR : Zd0 (Za ZT) Zdp 1 [1] ZdR Zdq = true := by walk_at "d"
theorem Ziq : ZdR.Nodup := by walk_at "d"
theorem ZeK : Zd (ZV Zdq (Za ZT)) ZdR 0 "_law_k" false = true := by walk_at "d"
theorem ZiS : Zer (ZV Zdq (Za ZT)) ZdR 1 "_law_things_here" = true := by walk_at "d"
theorem Zir : Zfp (Za ZT) Zdq "_law_holes" = true := by walk_at "d"
theorem ZdD : glOk (Za ZT) "_law_filled" = true := by walk_at "d"
theorem Zh3 : Zd (Za ZT) Zdp 0 "_law_prime_here" false = true := by walk_at "d"
theorem Zdv : glOk (Za ZT) "_law_changed" = true := by walk_at "d"
noncomputable def ZdE : List T.S := [.asg 2 (.comp 1 [1] (.name 0) .rng1 [.bf .len [.v 1]] [.isN true (.ix (.v 1) (.v 0))] (.v 0)), .iff (.cmp .Gt (.bf .len [.v 2]) (.k (.int 2))) [.ret (.lst [])] [], .iff (.cmp .NotEq (.v 2) (.lst [])) [.ret (.call Zba [.v 0, .v 1, .v 2])] [], .ret (.call Za8 [.v 0, .v 1])]
noncomputable def Zbl : T.FI := ⟨true, T.Zi C0 2 3 ZdE⟩
theorem Zlm (F : Fun K "_law_due" "_law_due" ZT f fd) (Z : Txt K mg Kaa Kab Kac Kad Kae Kaf Kag Kah Kai Kaj Kak Kal Kam Kan) (G__law_filled : FnAt P w K mg base "_law_filled" 2 ["_law_prime_here", "_law_things_here", "_law_holes"] (T.spF K Zba.run)) (G__law_changed : FnAt P w K mg base "_law_changed" 2 ["_law_prime_here", "_law_row_here"] (T.spF K Za8.run)) : FnOk P w K mg base CX0 (2 + 1) f fd ["_law_prime_here", "_law_things_here"] (T.spF K (T.Zi C0 2 3 ZdE)) :=
  T.Zac (C := C0) (body := ZdE) (k := 2) (N := Zdp) F Zie rfl rfl fun cdv A outer s H E hr =>
  have hu := hr.units
  (Zf (ZhF ZeJ Zie.nd Zir rfl (CompScope.of ZiR rfl rfl) (Zdn (glk Zip) Z.range_ (Zc (ZaB Zb7 (glk Zbp) Z.len_ Zb9 (Zh (Zb Zgg) Zn) (nmk Zbp) (dbk Zbp)))) (fun cl C s₀ H₀ ex => ⟨(ZbN ZeK Ziq), (Zk3 (ZgC (Zc (Zad hu (Zea (pvf ZiS)) (Zb ZeK))))), (ok_v (pvs ZeK))⟩))
      (Zf (Zb8 (Z8 hu (Zc (ZaB Zb7 (glk Zbp) Z.len_ Zb9 (Zh (Zb ZeJ) Zn) (nmk Zbp) (dbk Zbp))) Zm) (Zf (Z6 (Za6 Zag))
      Zo) Zo)
      (Zf (Zb8 (Z8 hu (Zb ZeJ) (Zc (Za6 Zag))) (Zf (Z6 (ZE G__law_filled hr (Zh (Zb Zh3) (Zh (Zb Zgg) (Zh (Zb ZeJ) Zn))) (hg := glk ZdD) (hdb := dbk ZdD)))
      Zo) Zo)
      (Zf (Z6 (ZE G__law_changed hr (Zh (Zb Zh3) (Zh (Zb Zgg) Zn)) (hg := glk Zdv) (hdb := dbk Zdv)))
      Zo))))
noncomputable abbrev Z4 : Stmt := top 43
noncomputable abbrev Za4 : List Str := ["_law_row_here", "_law_prime_here", "_law_cell", "_law_things_here", "_law_source_here", "_law_turn", "_law_place"]
theorem Zbq : FnScope Za4 ["_law_row_here", "_law_prime_here", "_law_cell"] (Za Z4) := ⟨rfl, rfl, rfl, by walk_at "d", rfl, by walk_at "d", by walk_at "d"⟩
theorem ZcI : Zd (Za Z4) Za4 3 "_law_things_here" false = true := by walk_at "d"
theorem Zdi : glOk (Za Z4) "list" = true := by walk_at "d"
theorem ZcJ : Zd (Za Z4) Za4 0 "_law_row_here" false = true := by walk_at "d"
theorem ZaX : Zd (Za Z4) Za4 4 "_law_source_here" false = true := by walk_at "d"
theorem ZcK : glOk (Za Z4) "_law_source" = true := by walk_at "d"
theorem ZiT : Zd (Za Z4) Za4 2 "_law_cell" false = true := by walk_at "d"
theorem Z0 : glOk (Za Z4) "_law_next" = true := by walk_at "d"
theorem ZeV : glOk (Za Z4) "range" = true := by walk_at "d"
theorem Zgy : Zd (Za Z4) Za4 5 "_law_turn" false = true := by walk_at "d"
theorem ZeL : Zd (Za Z4) Za4 6 "_law_place" false = true := by walk_at "d"
theorem ZaD : glOk (Za Z4) "len" = true := by walk_at "d"
theorem Zgz : Zd (Za Z4) Za4 1 "_law_prime_here" false = true := by walk_at "d"
noncomputable def Zcb : List T.S := [.asg 3 (.bf .list [.v 0]), .asg 4 (.call Zct [.v 2]), .for_ (.name 5) .rng1 [.ix (.kl [(.int 0), (.int 1), (.int 1), (.int 2), (.int 3)]) (.call ZK [.v 4, .k (.int 5)])] [.asg 6 (.call ZK [.v 4, .bf .len [.v 0]]), .sub 3 [] (.v 6) (.bin .Mod (.bin .Add (.bin .Add (.ix (.v 0) (.v 6)) (.k (.int 1))) (.call ZK [.v 4, .bin .Sub (.v 1) (.k (.int 1))])) (.v 1))], .for_ (.name 5) .rng1 [.ix (.kl [(.int 0), (.int 0), (.int 1), (.int 2), (.int 2), (.int 3)]) (.call ZK [.v 4, .k (.int 6)])] [.sub 3 [] (.call ZK [.v 4, .bf .len [.v 0]]) (.k .non)], .ret (.v 3)]
noncomputable def Zbb : T.FI := ⟨true, T.Zi C0 3 7 Zcb⟩
theorem Zjw (F : Fun K "_law_things" "_law_things" Z4 f fd) (Z : Txt K mg Kaa Kab Kac Kad Kae Kaf Kag Kah Kai Kaj Kak Kal Kam Kan) (G__law_source : FnAt P w K mg base "_law_source" 1 ["_law_cell"] (T.spF K Zct.run)) (G__law_next : FnAt P w K mg base "_law_next" 2 ["_law_source_here", "_law_many"] (T.spF K ZK.run)) : FnOk P w K mg base CX0 (2 + 1) f fd ["_law_row_here", "_law_prime_here", "_law_cell"] (T.spF K (T.Zi C0 3 7 Zcb)) :=
  T.Zac (C := C0) (body := Zcb) (k := 2) (N := Za4) F Zbq rfl rfl fun cdv A outer s H E hr =>
  have hu := hr.units
  (Zf (Z2 ZcI Zbq.nd (Zg8 ZfM (glk Zdi) Z.list_ ZfP (Zh (Zb ZcJ) Zn) (nmk Zdi) (dbk Zdi)))
      (Zf (Z2 ZaX Zbq.nd (ZE G__law_source hr (Zh (Zb ZiT) Zn) (hg := glk ZcK) (hdb := dbk ZcK)))
      (Zf (ZcO PassesOwn.never rfl (ZdL _ _) (hw_1 (ZcQ rfl)) (Zdn (glk ZeV) Z.range_ (Zc (Zad hu (Zc (Zmi (vs := [(.int 0), (.int 1), (.int 1), (.int 2), (.int 3)]) (by kernel_rfl))) (Zc (ZE G__law_next hr (Zh (Zb ZaX) (Zh Zm Zn)) (hg := glk Z0) (hdb := dbk Z0)))))) (ZbN Zgy Zbq.nd)
      (Zf (Z2 ZeL Zbq.nd (ZE G__law_next hr (Zh (Zb ZaX) (Zh (Zc (ZaB Zb7 (glk ZaD) Z.len_ Zb9 (Zh (Zb ZcJ) Zn) (nmk ZaD) (dbk ZaD))) Zn)) (hg := glk Z0) (hdb := dbk Z0)))
      (Zf (ZbR hu (pvs ZcI) (Zb ZeL) (Zj (Zk _) (Zc (Zj (Zk _) (Zc (Zj (Zk _) (Zc (Zad hu (Zb ZcJ) (Zb ZeL))) Zm)) (Zc (ZE G__law_next hr (Zh (Zb ZaX) (Zh (Zc (Zj (Zk _) (Zb Zgz) Zm)) Zn)) (hg := glk Z0) (hdb := dbk Z0))))) (Zb Zgz)))
      Zo)))
      (Zf (ZcO PassesOwn.never rfl (ZdL _ _) (hw_1 (ZcQ rfl)) (Zdn (glk ZeV) Z.range_ (Zc (Zad hu (Zc (Zmi (vs := [(.int 0), (.int 0), (.int 1), (.int 2), (.int 2), (.int 3)]) (by kernel_rfl))) (Zc (ZE G__law_next hr (Zh (Zb ZaX) (Zh Zm Zn)) (hg := glk Z0) (hdb := dbk Z0)))))) (ZbN Zgy Zbq.nd)
      (Zf (ZbR hu (pvs ZcI) (Zc (ZE G__law_next hr (Zh (Zb ZaX) (Zh (Zc (ZaB Zb7 (glk ZaD) Z.len_ Zb9 (Zh (Zb ZcJ) Zn) (nmk ZaD) (dbk ZaD))) Zn)) (hg := glk Z0) (hdb := dbk Z0))) (ok_k Zg4))
      Zo))
      (Zf (Z6 (Zfr (pvs ZcI)))
      Zo)))))
noncomputable abbrev ZU : Stmt := top 44
noncomputable abbrev ZdS : List Str := ["_law_script", "_law_prime_here", "_law_size", "_law_row_here", "_law_cell", "_law_things_here", "_law_handed", "_law_told_here", "_law_due_here"]
theorem ZdF : FnScope ZdS ["_law_script"] (Za ZU) := ⟨rfl, rfl, rfl, by walk_at "d", rfl, by walk_at "d", by walk_at "d"⟩
theorem Zej : Zd (Za ZU) ZdS 1 "_law_prime_here" true = true := by walk_at "d"
theorem Zgh : glOk (Za ZU) "_law_prime" = true := by walk_at "d"
theorem Za9 : glOk (Za ZU) "_law_nth" = true := by walk_at "d"
theorem ZgG : Zd (Za ZU) ZdS 0 "_law_script" true = true := by walk_at "d"
theorem ZlD : Zd (Za ZU) ZdS 2 "_law_size" false = true := by walk_at "d"
theorem ZfQ : Zd (Za ZU) ZdS 3 "_law_row_here" false = true := by walk_at "d"
theorem Zln : glOk (Za ZU) "range" = true := by walk_at "d"
noncomputable abbrev Zek : Scope := { kind := .function, names := [(Str.ofString ".0", NameKind.local), (Str.ofString "_law_k", NameKind.local), (Str.ofString "_law_nth", NameKind.globalImplicit), (Str.ofString "_law_prime_here", NameKind.free), (Str.ofString "_law_script", NameKind.free)], isGenerator := false, isCoroutine := false, more := [] }
noncomputable abbrev Zgi : List Str := ["_law_k", "_law_prime_here", "_law_script"]
theorem Zmm : Zd0 (Za ZU) ZdS 1 [1, 0] Zgi Zek = true := by walk_at "d"
theorem Zlo : Zgi.Nodup := by walk_at "d"
theorem ZiU : Zd (ZV Zek (Za ZU)) Zgi 0 "_law_k" false = true := by walk_at "d"
theorem ZfC : glOk (ZV Zek (Za ZU)) "_law_nth" = true := by walk_at "d"
theorem Zmn : Zer (ZV Zek (Za ZU)) Zgi 2 "_law_script" = true := by walk_at "d"
theorem Zmo : Zer (ZV Zek (Za ZU)) Zgi 1 "_law_prime_here" = true := by walk_at "d"
theorem Zlp : Zfp (Za ZU) Zek "_law_row_here" = true := by walk_at "d"
theorem Zgj : glOk (Za ZU) "_law_label" = true := by walk_at "d"
theorem ZlE : Zd (Za ZU) ZdS 4 "_law_cell" false = true := by walk_at "d"
theorem ZhK : Zd (Za ZU) ZdS 5 "_law_things_here" false = true := by walk_at "d"
theorem ZfD : glOk (Za ZU) "_law_things" = true := by walk_at "d"
theorem Zjx : Zd (Za ZU) ZdS 6 "_law_handed" false = true := by walk_at "d"
theorem ZgT : glOk (Za ZU) "list" = true := by walk_at "d"
theorem ZhL : Zd (Za ZU) ZdS 7 "_law_told_here" false = true := by walk_at "d"
theorem Zg0 : glOk (Za ZU) "_law_told" = true := by walk_at "d"
theorem ZfR : Zd (Za ZU) ZdS 8 "_law_due_here" false = true := by walk_at "d"
theorem ZgH : glOk (Za ZU) "_law_due" = true := by walk_at "d"
theorem Zh4 : glOk (Za ZU) "len" = true := by walk_at "d"
theorem ZgI : glOk (Za ZU) "_law_row" = true := by walk_at "d"
theorem ZgJ : glOk (Za ZU) "labelled" = true := by walk_at "d"
noncomputable def Zh5 : List T.S := [.asg 1 (.call Zda [.call ZZ [.v 0, .k (.int 0)]]), .asg 2 (.bin .Add (.k (.int 2)) (.bin .Mod (.bin .FloorDiv (.call ZZ [.v 0, .k (.int 1)]) (.k (.int 3))) (.bin .Sub (.v 1) (.k (.int 1))))), .asg 3 (.comp 1 [1, 0] (.name 0) .rng1 [.v 2] [] (.bin .Mod (.call ZZ [.v 2, .bin .Add (.k (.int 3)) (.v 0)]) (.v 1))), .iff (.cmp .Gt (.bin .Mod (.call ZZ [.v 0, .k (.int 1)]) (.k (.int 3))) (.k (.int 0))) [.asg 3 (.call ZbZ [.v 1, .sl (.v 3) (.k .non) (.neg (.k (.int 2)))])] [], .for_ (.name 4) .val [.bin .Add (.lst [.call ZZ [.v 0, .k (.int 2)]]) (.sl (.v 0) (.k (.int 50)) (.k (.int 62)))] [.asg 5 (.call Zbb [.v 3, .v 1, .v 4]), .asg 6 (.bf .list [.v 5]), .asg 7 (.call ZaR [.v 1, .v 6, .k (.int 1)]), .asg 8 (.call Zbl [.v 1, .v 5]), .iff (.or (.cmp .NotEq (.v 6) (.v 5)) (.cmp .Gt (.bf .len [.v 8]) (.k (.int 1)))) [.ret (.k (.bl false))] [], .iff (.and (.cmp .Eq (.v 8) (.lst [])) (.cmp .NotEq (.v 7) (.tup [.k (.int 3), .k .non]))) [.ret (.k (.bl false))] [], .iff (.or (.and (.cmp .NotEq (.v 8) (.lst [])) (.cmp .NotEq (.v 7) (.tup [.k (.int 0), .ix (.v 8) (.k (.int 0))]))) (.and (.cmp .NotEq (.v 8) (.lst [])) (.nt (.call Zcm [.ix (.v 7) (.k (.int 1)), .v 1])))) [.ret (.k (.bl false))] []], .ret (.cmp .Eq (.sl (.call Zai [.v 1, .sl (.v 3) (.k .non) (.neg (.k (.int 2)))]) (.k .non) (.neg (.k (.int 2)))) (.sl (.v 3) (.k .non) (.neg (.k (.int 2)))))]
noncomputable def Zmp : T.FI := ⟨true, T.Zi C0 1 9 Zh5⟩
theorem Zsb (F : Fun K "law" "law" ZU f fd) (Z : Txt K mg Kaa Kab Kac Kad Kae Kaf Kag Kah Kai Kaj Kak Kal Kam Kan) (G__law_prime : FnAt P w K mg base "_law_prime" 1 ["_law_cell"] (T.spF K Zda.run)) (G__law_nth : FnAt P w K mg base "_law_nth" 1 ["_law_script", "_law_k"] (T.spF K ZZ.run)) (G__law_label : FnAt P w K mg base "_law_label" 2 ["_law_prime_here", "_law_row_here"] (T.spF K ZbZ.run)) (G__law_things : FnAt P w K mg base "_law_things" 3 ["_law_row_here", "_law_prime_here", "_law_cell"] (T.spF K Zbb.run)) (GX__law_told : FnAtX P w K mg base "_law_told" 5 ["_law_prime_here", "_law_things_here", "_law_way"] (T.spX K ZaR.run)) (G__law_due : FnAt P w K mg base "_law_due" 3 ["_law_prime_here", "_law_things_here"] (T.spF K Zbl.run)) (G__law_row : FnAt P w K mg base "_law_row" 1 ["_law_found", "_law_prime_here"] (T.spF K Zcm.run)) (G_labelled : FnAt P w K mg base "labelled" 4 ["prime", "row"] (T.spF K Zai.run)) : FnOk P w K mg base CX0 (5 + 1) f fd ["_law_script"] (T.spF K (T.Zi C0 1 9 Zh5)) :=
  have G__law_told := GX__law_told.calm
  T.Zac (C := C0) (body := Zh5) (k := 5) (N := ZdS) F ZdF rfl rfl fun cdv A outer s H E hr =>
  have hu := hr.units
  (Zf (Z2 Zej ZdF.nd (ZE G__law_prime hr (Zh (Zc (ZE G__law_nth hr (Zh (Zb ZgG) (Zh Zm Zn)) (hg := glk Za9) (hdb := dbk Za9))) Zn) (hg := glk Zgh) (hdb := dbk Zgh)))
      (Zf (Z2 ZlD ZdF.nd (Zj (Zk _) Zm (Zc (Zj (Zk _) (Zc (Zj (Zk _) (Zc (ZE G__law_nth hr (Zh (Zb ZgG) (Zh Zm Zn)) (hg := glk Za9) (hdb := dbk Za9))) Zm)) (Zc (Zj (Zk _) (Zb Zej) Zm))))))
      (Zf (ZhF ZfQ ZdF.nd Zlp rfl (CompScope.of Zmm rfl rfl) (Zdn (glk Zln) Z.range_ (Zb ZlD)) (fun cl C s₀ H₀ ex => ⟨(ZbN ZiU Zlo), Zhn, (Zj (Zk _) (Zc (ZE G__law_nth hr (Zh (Zea (pvf Zmn)) (Zh (Zc (Zj (Zk _) Zm (Zb ZiU))) Zn)) (hg := glk ZfC) (hdb := dbk ZfC))) (Zea (pvf Zmo)))⟩))
      (Zf (Zb8 (Z8 hu (Zc (Zj (Zk _) (Zc (ZE G__law_nth hr (Zh (Zb ZgG) (Zh Zm Zn)) (hg := glk Za9) (hdb := dbk Za9))) Zm)) Zm) (Zf (Z2 ZfQ ZdF.nd (ZE G__law_label hr (Zh (Zb Zej) (Zh (Zc (ZhB (Zb ZfQ) Zkf (Zeb (Zc (Zfq Zm))))) Zn)) (hg := glk Zgj) (hdb := dbk Zgj)))
      Zo) Zo)
      (Zf (ZcO PassesOwn.never rfl (ZdL _ _) (hw_1 (ZcQ rfl)) (Zhm (Zc (Zj (Zk _) (Zc (Za6 (ZW (ZE G__law_nth hr (Zh (Zb ZgG) (Zh Zm Zn)) (hg := glk Za9) (hdb := dbk Za9)) Zag))) (Zc (ZhB (Zb ZgG) (Zeb Zm) (Zeb Zm)))))) (ZbN ZlE ZdF.nd)
      (Zf (Z2 ZhK ZdF.nd (ZE G__law_things hr (Zh (Zb ZfQ) (Zh (Zb Zej) (Zh (Zb ZlE) Zn))) (hg := glk ZfD) (hdb := dbk ZfD)))
      (Zf (Z2 Zjx ZdF.nd (Zg8 ZfM (glk ZgT) Z.list_ ZfP (Zh (Zb ZhK) Zn) (nmk ZgT) (dbk ZgT)))
      (Zf (Z2 ZhL ZdF.nd (ZE G__law_told hr (Zh (Zb Zej) (Zh (Zb Zjx) (Zh Zm Zn))) (hg := glk Zg0) (hdb := dbk Zg0)))
      (Zf (Z2 ZfR ZdF.nd (ZE G__law_due hr (Zh (Zb Zej) (Zh (Zb ZhK) Zn)) (hg := glk ZgH) (hdb := dbk ZgH)))
      (Zf (Zb8 (PW.pt (Zes (Z8 hu (Zb Zjx) (Zb ZhK)) (Zhi (Z8 hu (Zc (ZaB Zb7 (glk Zh4) Z.len_ Zb9 (Zh (Zb ZfR) Zn) (nmk Zh4) (dbk Zh4))) Zm)))) (Zf (Z6 (ok_k Zgo))
      Zo) Zo)
      (Zf (Zb8 (PW.pt (ZfL (Z8 hu (Zb ZfR) (Zc (Za6 Zag))) (ZfK (Z8 hu (Zb ZhL) (Zc (Zi5 (ZW (ok_k Za5) (ZW (ok_k Zg4) Zag)))))))) (Zf (Z6 (ok_k Zgo))
      Zo) Zo)
      (Zf (Zb8 (PW.pt (Zes (PW.pt (ZfL (Z8 hu (Zb ZfR) (Zc (Za6 Zag))) (ZfK (Z8 hu (Zb ZhL) (Zc (Zi5 (ZW (ok_k Za5) (ZW (Zad hu (Zb ZfR) Zm) Zag)))))))) (Zhi (PW.pt (ZfL (Z8 hu (Zb ZfR) (Zc (Za6 Zag))) (ZfK (ZhA (Zbr (Zc (ZE G__law_row hr (Zh (Zc (Zad hu (Zb ZhL) Zm)) (Zh (Zb Zej) Zn)) (hg := glk ZgI) (hdb := dbk ZgI))))))))))) (Zf (Z6 (ok_k Zgo))
      Zo) Zo)
      Zo))))))))
      (Zf (Z6 (Zjh hu (Zc (ZhB (Zc (ZE G_labelled hr (Zh (Zb Zej) (Zh (Zc (ZhB (Zb ZfQ) Zkf (Zeb (Zc (Zfq Zm))))) Zn)) (hg := glk ZgJ) (hdb := dbk ZgJ))) Zkf (Zeb (Zc (Zfq Zm))))) (Zc (ZhB (Zb ZfQ) Zkf (Zeb (Zc (Zfq Zm)))))))
      Zo))))))
theorem Zsc {l : PySem.W.OpenLaw} {w : World} {K : Fg} {h : Heap} {mg : Str -> Option Value} {fa a0 a1 a2 a3 a4 a5 a6 a7 a8 a9 a10 a11 a12 a13 a14 a15 a16 a17 a18 a19 a20 a21 a22 a23 a24 a25 Kaa Kab Kac Kad Kae Kaf Kag Kah Kai Kaj Kak Kal Kam Kan : Addr} (X : K.In h) (G : h.Ns mainGlobals mg) (hfa : mg "law" = some (.ref fa))
    {od0 an0 od1 an1 od2 an2 od3 an3 od4 an4 od5 an5 od6 an6 od7 an7 od8 an8 od9 an9 od10 an10 od11 an11 od12 an12 od13 an13 od14 an14 od15 an15 od16 an16 od17 an17 od18 an18 od19 an19 od20 an20 od21 an21 od22 an22 od23 an23 od24 an24 od25 an25 : Option Addr} {sl0 sl1 sl2 sl3 sl4 sl5 sl6 sl7 sl8 sl9 sl10 sl11 sl12 sl13 sl14 sl15 sl16 sl17 sl18 sl19 sl20 sl21 sl22 sl23 sl24 sl25 : Array (Option Value)} {oc0 kV0 dc0 pm0 cd0 ct0 oc1 kV1 dc1 pm1 cd1 ct1 oc2 kV2 dc2 pm2 cd2 ct2 oc3 kV3 dc3 pm3 cd3 ct3 oc4 kV4 dc4 pm4 cd4 ct4 oc5 kV5 dc5 pm5 cd5 ct5 oc6 kV6 dc6 pm6 cd6 ct6 oc7 kV7 dc7 pm7 cd7 ct7 oc8 kV8 dc8 pm8 cd8 ct8 oc9 kV9 dc9 pm9 cd9 ct9 oc10 kV10 dc10 pm10 cd10 ct10 oc11 kV11 dc11 pm11 cd11 ct11 oc12 kV12 dc12 pm12 cd12 ct12 oc13 kV13 dc13 pm13 cd13 ct13 oc14 kV14 dc14 pm14 cd14 ct14 oc15 kV15 dc15 pm15 cd15 ct15 oc16 kV16 dc16 pm16 cd16 ct16 oc17 kV17 dc17 pm17 cd17 ct17 oc18 kV18 dc18 pm18 cd18 ct18 oc19 kV19 dc19 pm19 cd19 ct19 oc20 kV20 dc20 pm20 cd20 ct20 oc21 kV21 dc21 pm21 cd21 ct21 oc22 kV22 dc22 pm22 cd22 ct22 oc23 kV23 dc23 pm23 cd23 ct23 oc24 kV24 dc24 pm24 cd24 ct24 oc25 kV25 dc25 pm25 cd25 ct25 : Value}
    {q_a : Str} {N_a : Addr} {bs_a su_a : List Value} {sn_a : List Str} {ab_a : Bool} {co_a : Option Bool} {dd_a : Option Addr} {k0_a k1_a k2_a k3_a k5_a : Option Value}
    (xx_a : PySem.W.nsIn K mainGlobals "LabelError" = some (some (.ref Kaa))) (xl_a : K.lookup Kaa = some (excClassObj "LabelError" q_a Kaa N_a bs_a bmV true sn_a su_a ab_a co_a dd_a k0_a k1_a k2_a k3_a k5_a "ValueError.__new__"))
    (xs_a : PySem.W.findIn K (.ref Kaa) (Str.ofString "__setattr__") = some (some (.builtin "object.__setattr__"))) (xg_a : PySem.W.findIn K (.ref Kaa) (Str.ofString "__getattribute__") = some (some (.builtin "BaseException.__getattribute__"))) (xk_a : PySem.W.keepIn K (.ref Kaa) = true)
    {nc_L : Value} {nd_L : Option Addr} {ne_L : Array DictEntry} {np_L : Nat} {ns_L : Array (Option Value)} (xn_a : K.lookup N_a = some ⟨nc_L, nd_L, .dict ne_L np_L, ns_L⟩) (xe_a : ne_L.all ZkG = true) (xj_a : PySem.W.nsIn K N_a (Str.ofString "__init__") = some none)
    {q_b : Str} {N_b : Addr} {bs_b su_b : List Value} {sn_b : List Str} {ab_b : Bool} {co_b : Option Bool} {dd_b : Option Addr} {k0_b k1_b k2_b k3_b k5_b : Option Value}
    (xx_b : PySem.W.nsIn K mainGlobals "Lost" = some (some (.ref Kab))) (xl_b : K.lookup Kab = some (excClassObj "Lost" q_b Kab N_b bs_b (.ref Kaa :: bmV) true sn_b su_b ab_b co_b dd_b k0_b k1_b k2_b k3_b k5_b "ValueError.__new__"))
    (xs_b : PySem.W.findIn K (.ref Kab) (Str.ofString "__setattr__") = some (some (.builtin "object.__setattr__"))) (xg_b : PySem.W.findIn K (.ref Kab) (Str.ofString "__getattribute__") = some (some (.builtin "BaseException.__getattribute__"))) (xk_b : PySem.W.keepIn K (.ref Kab) = true)
    {q_c : Str} {N_c : Addr} {bs_c su_c : List Value} {sn_c : List Str} {ab_c : Bool} {co_c : Option Bool} {dd_c : Option Addr} {k0_c k1_c k2_c k3_c k5_c : Option Value}
    (xx_c : PySem.W.nsIn K mainGlobals "Mixed" = some (some (.ref Kac))) (xl_c : K.lookup Kac = some (excClassObj "Mixed" q_c Kac N_c bs_c (.ref Kaa :: bmV) true sn_c su_c ab_c co_c dd_c k0_c k1_c k2_c k3_c k5_c "ValueError.__new__"))
    (xs_c : PySem.W.findIn K (.ref Kac) (Str.ofString "__setattr__") = some (some (.builtin "object.__setattr__"))) (xg_c : PySem.W.findIn K (.ref Kac) (Str.ofString "__getattribute__") = some (some (.builtin "BaseException.__getattribute__"))) (xk_c : PySem.W.keepIn K (.ref Kac) = true)
    {q_d : Str} {N_d : Addr} {bs_d su_d : List Value} {sn_d : List Str} {ab_d : Bool} {co_d : Option Bool} {dd_d : Option Addr} {k0_d k1_d k2_d k3_d k5_d : Option Value}
    (xx_d : PySem.W.nsIn K mainGlobals "NoForm" = some (some (.ref Kad))) (xl_d : K.lookup Kad = some (excClassObj "NoForm" q_d Kad N_d bs_d (.ref Kaa :: bmV) true sn_d su_d ab_d co_d dd_d k0_d k1_d k2_d k3_d k5_d "ValueError.__new__"))
    (xs_d : PySem.W.findIn K (.ref Kad) (Str.ofString "__setattr__") = some (some (.builtin "object.__setattr__"))) (xg_d : PySem.W.findIn K (.ref Kad) (Str.ofString "__getattribute__") = some (some (.builtin "BaseException.__getattribute__"))) (xk_d : PySem.W.keepIn K (.ref Kad) = true)
    {q_e : Str} {N_e : Addr} {bs_e su_e : List Value} {sn_e : List Str} {ab_e : Bool} {co_e : Option Bool} {dd_e : Option Addr} {k0_e k1_e k2_e k3_e k5_e : Option Value}
    (xx_e : PySem.W.nsIn K mainGlobals "NoFount" = some (some (.ref Kae))) (xl_e : K.lookup Kae = some (excClassObj "NoFount" q_e Kae N_e bs_e (.ref Kaa :: bmV) true sn_e su_e ab_e co_e dd_e k0_e k1_e k2_e k3_e k5_e "ValueError.__new__"))
    (xs_e : PySem.W.findIn K (.ref Kae) (Str.ofString "__setattr__") = some (some (.builtin "object.__setattr__"))) (xg_e : PySem.W.findIn K (.ref Kae) (Str.ofString "__getattribute__") = some (some (.builtin "BaseException.__getattribute__"))) (xk_e : PySem.W.keepIn K (.ref Kae) = true)
    {q_f : Str} {N_f : Addr} {bs_f su_f : List Value} {sn_f : List Str} {ab_f : Bool} {co_f : Option Bool} {dd_f : Option Addr} {k0_f k1_f k2_f k3_f k5_f : Option Value}
    (xx_f : PySem.W.nsIn K mainGlobals "NoLabel" = some (some (.ref Kaf))) (xl_f : K.lookup Kaf = some (excClassObj "NoLabel" q_f Kaf N_f bs_f (.ref Kaa :: bmV) true sn_f su_f ab_f co_f dd_f k0_f k1_f k2_f k3_f k5_f "ValueError.__new__"))
    (xs_f : PySem.W.findIn K (.ref Kaf) (Str.ofString "__setattr__") = some (some (.builtin "object.__setattr__"))) (xg_f : PySem.W.findIn K (.ref Kaf) (Str.ofString "__getattribute__") = some (some (.builtin "BaseException.__getattribute__"))) (xk_f : PySem.W.keepIn K (.ref Kaf) = true)
    {q_g : Str} {N_g : Addr} {bs_g su_g : List Value} {sn_g : List Str} {ab_g : Bool} {co_g : Option Bool} {dd_g : Option Addr} {k0_g k1_g k2_g k3_g k5_g : Option Value}
    (xx_g : PySem.W.nsIn K mainGlobals "NoName" = some (some (.ref Kag))) (xl_g : K.lookup Kag = some (excClassObj "NoName" q_g Kag N_g bs_g (.ref Kaa :: bmV) true sn_g su_g ab_g co_g dd_g k0_g k1_g k2_g k3_g k5_g "ValueError.__new__"))
    (xs_g : PySem.W.findIn K (.ref Kag) (Str.ofString "__setattr__") = some (some (.builtin "object.__setattr__"))) (xg_g : PySem.W.findIn K (.ref Kag) (Str.ofString "__getattribute__") = some (some (.builtin "BaseException.__getattribute__"))) (xk_g : PySem.W.keepIn K (.ref Kag) = true)
    {q_h : Str} {N_h : Addr} {bs_h su_h : List Value} {sn_h : List Str} {ab_h : Bool} {co_h : Option Bool} {dd_h : Option Addr} {k0_h k1_h k2_h k3_h k5_h : Option Value}
    (xx_h : PySem.W.nsIn K mainGlobals "NoReading" = some (some (.ref Kah))) (xl_h : K.lookup Kah = some (excClassObj "NoReading" q_h Kah N_h bs_h (.ref Kaa :: bmV) true sn_h su_h ab_h co_h dd_h k0_h k1_h k2_h k3_h k5_h "ValueError.__new__"))
    (xs_h : PySem.W.findIn K (.ref Kah) (Str.ofString "__setattr__") = some (some (.builtin "object.__setattr__"))) (xg_h : PySem.W.findIn K (.ref Kah) (Str.ofString "__getattribute__") = some (some (.builtin "BaseException.__getattribute__"))) (xk_h : PySem.W.keepIn K (.ref Kah) = true)
    {q_i : Str} {N_i : Addr} {bs_i su_i : List Value} {sn_i : List Str} {ab_i : Bool} {co_i : Option Bool} {dd_i : Option Addr} {k0_i k1_i k2_i k3_i k5_i : Option Value}
    (xx_i : PySem.W.nsIn K mainGlobals "NoRoom" = some (some (.ref Kai))) (xl_i : K.lookup Kai = some (excClassObj "NoRoom" q_i Kai N_i bs_i (.ref Kaa :: bmV) true sn_i su_i ab_i co_i dd_i k0_i k1_i k2_i k3_i k5_i "ValueError.__new__"))
    (xs_i : PySem.W.findIn K (.ref Kai) (Str.ofString "__setattr__") = some (some (.builtin "object.__setattr__"))) (xg_i : PySem.W.findIn K (.ref Kai) (Str.ofString "__getattribute__") = some (some (.builtin "BaseException.__getattribute__"))) (xk_i : PySem.W.keepIn K (.ref Kai) = true)
    {q_j : Str} {N_j : Addr} {bs_j su_j : List Value} {sn_j : List Str} {ab_j : Bool} {co_j : Option Bool} {dd_j : Option Addr} {k0_j k1_j k2_j k3_j k5_j : Option Value}
    (xx_j : PySem.W.nsIn K mainGlobals "NoSymbol" = some (some (.ref Kaj))) (xl_j : K.lookup Kaj = some (excClassObj "NoSymbol" q_j Kaj N_j bs_j (.ref Kaa :: bmV) true sn_j su_j ab_j co_j dd_j k0_j k1_j k2_j k3_j k5_j "ValueError.__new__"))
    (xs_j : PySem.W.findIn K (.ref Kaj) (Str.ofString "__setattr__") = some (some (.builtin "object.__setattr__"))) (xg_j : PySem.W.findIn K (.ref Kaj) (Str.ofString "__getattribute__") = some (some (.builtin "BaseException.__getattribute__"))) (xk_j : PySem.W.keepIn K (.ref Kaj) = true)
    {q_k : Str} {N_k : Addr} {bs_k su_k : List Value} {sn_k : List Str} {ab_k : Bool} {co_k : Option Bool} {dd_k : Option Addr} {k0_k k1_k k2_k k3_k k5_k : Option Value}
    (xx_k : PySem.W.nsIn K mainGlobals "NoTable" = some (some (.ref Kak))) (xl_k : K.lookup Kak = some (excClassObj "NoTable" q_k Kak N_k bs_k (.ref Kaa :: bmV) true sn_k su_k ab_k co_k dd_k k0_k k1_k k2_k k3_k k5_k "ValueError.__new__"))
    (xs_k : PySem.W.findIn K (.ref Kak) (Str.ofString "__setattr__") = some (some (.builtin "object.__setattr__"))) (xg_k : PySem.W.findIn K (.ref Kak) (Str.ofString "__getattribute__") = some (some (.builtin "BaseException.__getattribute__"))) (xk_k : PySem.W.keepIn K (.ref Kak) = true)
    {q_l : Str} {N_l : Addr} {bs_l su_l : List Value} {sn_l : List Str} {ab_l : Bool} {co_l : Option Bool} {dd_l : Option Addr} {k0_l k1_l k2_l k3_l k5_l : Option Value}
    (xx_l : PySem.W.nsIn K mainGlobals "NoWriting" = some (some (.ref Kal))) (xl_l : K.lookup Kal = some (excClassObj "NoWriting" q_l Kal N_l bs_l (.ref Kaa :: bmV) true sn_l su_l ab_l co_l dd_l k0_l k1_l k2_l k3_l k5_l "ValueError.__new__"))
    (xs_l : PySem.W.findIn K (.ref Kal) (Str.ofString "__setattr__") = some (some (.builtin "object.__setattr__"))) (xg_l : PySem.W.findIn K (.ref Kal) (Str.ofString "__getattribute__") = some (some (.builtin "BaseException.__getattribute__"))) (xk_l : PySem.W.keepIn K (.ref Kal) = true)
    {q_m : Str} {N_m : Addr} {bs_m su_m : List Value} {sn_m : List Str} {ab_m : Bool} {co_m : Option Bool} {dd_m : Option Addr} {k0_m k1_m k2_m k3_m k5_m : Option Value}
    (xx_m : PySem.W.nsIn K mainGlobals "Spoilt" = some (some (.ref Kam))) (xl_m : K.lookup Kam = some (excClassObj "Spoilt" q_m Kam N_m bs_m (.ref Kaa :: bmV) true sn_m su_m ab_m co_m dd_m k0_m k1_m k2_m k3_m k5_m "ValueError.__new__"))
    (xs_m : PySem.W.findIn K (.ref Kam) (Str.ofString "__setattr__") = some (some (.builtin "object.__setattr__"))) (xg_m : PySem.W.findIn K (.ref Kam) (Str.ofString "__getattribute__") = some (some (.builtin "BaseException.__getattribute__"))) (xk_m : PySem.W.keepIn K (.ref Kam) = true)
    (xh_m : PySem.W.findIn K (.ref Kam) (Str.ofString "__getattr__") = some none) (xc_m : PySem.W.findIn K (.ref Kam) "__class__" = some (some (.builtin "object.__class__"))) (x0_m : PySem.W.findIn K (.ref Kam) "row" = some none) (x1_m : PySem.W.findIn K (.ref Kam) "number" = some none) (x2_m : PySem.W.findIn K (.ref Kam) "length" = some none) (x3_m : PySem.W.findIn K (.ref Kam) "numbers" = some none)
    (xi_m : PySem.W.findIn K (.ref Kam) (Str.ofString "__init__") = some (some (.builtin "ValueError.__init__")))
    {q_n : Str} {N_n : Addr} {bs_n su_n : List Value} {sn_n : List Str} {ab_n : Bool} {co_n : Option Bool} {dd_n : Option Addr} {k0_n k1_n k2_n k3_n k5_n : Option Value}
    (xx_n : PySem.W.nsIn K mainGlobals "TooLong" = some (some (.ref Kan))) (xl_n : K.lookup Kan = some (excClassObj "TooLong" q_n Kan N_n bs_n (.ref Kaa :: bmV) true sn_n su_n ab_n co_n dd_n k0_n k1_n k2_n k3_n k5_n "ValueError.__new__"))
    (xs_n : PySem.W.findIn K (.ref Kan) (Str.ofString "__setattr__") = some (some (.builtin "object.__setattr__"))) (xg_n : PySem.W.findIn K (.ref Kan) (Str.ofString "__getattribute__") = some (some (.builtin "BaseException.__getattribute__"))) (xk_n : PySem.W.keepIn K (.ref Kan) = true)
    (xo1 : PySem.W.specialIn K (.builtin "object.__class__") "__get__" = some (some (.builtin "getset_descriptor.__get__"))) (xo2 : PySem.W.takesIn K (.builtin "object.__class__") = some true)
    (x0 : PySem.W.nsIn K mainGlobals "is_whole" = some (some (.ref a0))) (l0 : K.lookup a0 = some ⟨oc0, od0, .func (PySem.W.fnOf "is_whole" "is_whole" (Z7 ZaN) (Z1 ZaN) (Za ZaN) .none kV0 dc0 pm0 an0 cd0 ct0), sl0⟩) (c0 : PySem.W.codeIn K cd0 "is_whole" = true) (k0 : PySem.W.keepIn K (.ref a0) = true)
    (x1 : PySem.W.nsIn K mainGlobals "is_symbol" = some (some (.ref a1))) (l1 : K.lookup a1 = some ⟨oc1, od1, .func (PySem.W.fnOf "is_symbol" "is_symbol" (Z7 ZaO) (Z1 ZaO) (Za ZaO) .none kV1 dc1 pm1 an1 cd1 ct1), sl1⟩) (c1 : PySem.W.codeIn K cd1 "is_symbol" = true) (k1 : PySem.W.keepIn K (.ref a1) = true)
    (x2 : PySem.W.nsIn K mainGlobals "check_symbols" = some (some (.ref a2))) (l2 : K.lookup a2 = some ⟨oc2, od2, .func (PySem.W.fnOf "check_symbols" "check_symbols" (Z7 ZI) (Z1 ZI) (Za ZI) .none kV2 dc2 pm2 an2 cd2 ct2), sl2⟩) (c2 : PySem.W.codeIn K cd2 "check_symbols" = true) (k2 : PySem.W.keepIn K (.ref a2) = true)
    (x3 : PySem.W.nsIn K mainGlobals "plain_sum" = some (some (.ref a3))) (l3 : K.lookup a3 = some ⟨oc3, od3, .func (PySem.W.fnOf "plain_sum" "plain_sum" (Z7 ZaP) (Z1 ZaP) (Za ZaP) .none kV3 dc3 pm3 an3 cd3 ct3), sl3⟩) (c3 : PySem.W.codeIn K cd3 "plain_sum" = true) (k3 : PySem.W.keepIn K (.ref a3) = true)
    (x4 : PySem.W.nsIn K mainGlobals "weighed_sum" = some (some (.ref a4))) (l4 : K.lookup a4 = some ⟨oc4, od4, .func (PySem.W.fnOf "weighed_sum" "weighed_sum" (Z7 ZN) (Z1 ZN) (Za ZN) .none kV4 dc4 pm4 an4 cd4 ct4), sl4⟩) (c4 : PySem.W.codeIn K cd4 "weighed_sum" = true) (k4 : PySem.W.keepIn K (.ref a4) = true)
    (x5 : PySem.W.nsIn K mainGlobals "is_good" = some (some (.ref a5))) (l5 : K.lookup a5 = some ⟨oc5, od5, .func (PySem.W.fnOf "is_good" "is_good" (Z7 Zbm) (Z1 Zbm) (Za Zbm) .none kV5 dc5 pm5 an5 cd5 ct5), sl5⟩) (c5 : PySem.W.codeIn K cd5 "is_good" = true) (k5 : PySem.W.keepIn K (.ref a5) = true)
    (x6 : PySem.W.nsIn K mainGlobals "quotient" = some (some (.ref a6))) (l6 : K.lookup a6 = some ⟨oc6, od6, .func (PySem.W.fnOf "quotient" "quotient" (Z7 Zat) (Z1 Zat) (Za Zat) .none kV6 dc6 pm6 an6 cd6 ct6), sl6⟩) (c6 : PySem.W.codeIn K cd6 "quotient" = true) (k6 : PySem.W.keepIn K (.ref a6) = true)
    (x7 : PySem.W.nsIn K mainGlobals "with_two_filled" = some (some (.ref a7))) (l7 : K.lookup a7 = some ⟨oc7, od7, .func (PySem.W.fnOf "with_two_filled" "with_two_filled" (Z7 Zs) (Z1 Zs) (Za Zs) .none kV7 dc7 pm7 an7 cd7 ct7), sl7⟩) (c7 : PySem.W.codeIn K cd7 "with_two_filled" = true) (k7 : PySem.W.keepIn K (.ref a7) = true)
    (x8 : PySem.W.nsIn K mainGlobals "with_one_righted" = some (some (.ref a8))) (l8 : K.lookup a8 = some ⟨oc8, od8, .func (PySem.W.fnOf "with_one_righted" "with_one_righted" (Z7 Zp) (Z1 Zp) (Za Zp) .none kV8 dc8 pm8 an8 cd8 ct8), sl8⟩) (c8 : PySem.W.codeIn K cd8 "with_one_righted" = true) (k8 : PySem.W.keepIn K (.ref a8) = true)
    (x9 : PySem.W.nsIn K mainGlobals "labelled" = some (some (.ref a9))) (l9 : K.lookup a9 = some ⟨oc9, od9, .func (PySem.W.fnOf "labelled" "labelled" (Z7 Zau) (Z1 Zau) (Za Zau) .none kV9 dc9 pm9 an9 cd9 ct9), sl9⟩) (c9 : PySem.W.codeIn K cd9 "labelled" = true) (k9 : PySem.W.keepIn K (.ref a9) = true)
    (x10 : PySem.W.nsIn K mainGlobals "mended" = some (some (.ref a10))) (l10 : K.lookup a10 = some ⟨oc10, od10, .func (PySem.W.fnOf "mended" "mended" (Z7 ZD) (Z1 ZD) (Za ZD) .none kV10 dc10 pm10 an10 cd10 ct10), sl10⟩) (c10 : PySem.W.codeIn K cd10 "mended" = true) (k10 : PySem.W.keepIn K (.ref a10) = true)
    (x11 : PySem.W.nsIn K mainGlobals "_law_nth" = some (some (.ref a11))) (l11 : K.lookup a11 = some ⟨oc11, od11, .func (PySem.W.fnOf "_law_nth" "_law_nth" (Z7 Zbk) (Z1 Zbk) (Za Zbk) .none kV11 dc11 pm11 an11 cd11 ct11), sl11⟩) (c11 : PySem.W.codeIn K cd11 "_law_nth" = true) (k11 : PySem.W.keepIn K (.ref a11) = true)
    (x12 : PySem.W.nsIn K mainGlobals "_law_spun" = some (some (.ref a12))) (l12 : K.lookup a12 = some ⟨oc12, od12, .func (PySem.W.fnOf "_law_spun" "_law_spun" (Z7 ZaA) (Z1 ZaA) (Za ZaA) .none kV12 dc12 pm12 an12 cd12 ct12), sl12⟩) (c12 : PySem.W.codeIn K cd12 "_law_spun" = true) (k12 : PySem.W.keepIn K (.ref a12) = true)
    (x13 : PySem.W.nsIn K mainGlobals "_law_source" = some (some (.ref a13))) (l13 : K.lookup a13 = some ⟨oc13, od13, .func (PySem.W.fnOf "_law_source" "_law_source" (Z7 ZaE) (Z1 ZaE) (Za ZaE) .none kV13 dc13 pm13 an13 cd13 ct13), sl13⟩) (c13 : PySem.W.codeIn K cd13 "_law_source" = true) (k13 : PySem.W.keepIn K (.ref a13) = true)
    (x14 : PySem.W.nsIn K mainGlobals "_law_next" = some (some (.ref a14))) (l14 : K.lookup a14 = some ⟨oc14, od14, .func (PySem.W.fnOf "_law_next" "_law_next" (Z7 Zaq) (Z1 Zaq) (Za Zaq) .none kV14 dc14 pm14 an14 cd14 ct14), sl14⟩) (c14 : PySem.W.codeIn K cd14 "_law_next" = true) (k14 : PySem.W.keepIn K (.ref a14) = true)
    (x15 : PySem.W.nsIn K mainGlobals "_law_prime" = some (some (.ref a15))) (l15 : K.lookup a15 = some ⟨oc15, od15, .func (PySem.W.fnOf "_law_prime" "_law_prime" (Z7 Zbu) (Z1 Zbu) (Za Zbu) .none kV15 dc15 pm15 an15 cd15 ct15), sl15⟩) (c15 : PySem.W.codeIn K cd15 "_law_prime" = true) (k15 : PySem.W.keepIn K (.ref a15) = true)
    (x16 : PySem.W.nsIn K mainGlobals "_law_sums" = some (some (.ref a16))) (l16 : K.lookup a16 = some ⟨oc16, od16, .func (PySem.W.fnOf "_law_sums" "_law_sums" (Z7 Zar) (Z1 Zar) (Za Zar) .none kV16 dc16 pm16 an16 cd16 ct16), sl16⟩) (c16 : PySem.W.codeIn K cd16 "_law_sums" = true) (k16 : PySem.W.keepIn K (.ref a16) = true)
    (x17 : PySem.W.nsIn K mainGlobals "_law_label" = some (some (.ref a17))) (l17 : K.lookup a17 = some ⟨oc17, od17, .func (PySem.W.fnOf "_law_label" "_law_label" (Z7 Zae) (Z1 Zae) (Za Zae) .none kV17 dc17 pm17 an17 cd17 ct17), sl17⟩) (c17 : PySem.W.codeIn K cd17 "_law_label" = true) (k17 : PySem.W.keepIn K (.ref a17) = true)
    (x18 : PySem.W.nsIn K mainGlobals "_law_row" = some (some (.ref a18))) (l18 : K.lookup a18 = some ⟨oc18, od18, .func (PySem.W.fnOf "_law_row" "_law_row" (Z7 Zaa) (Z1 Zaa) (Za Zaa) .none kV18 dc18 pm18 an18 cd18 ct18), sl18⟩) (c18 : PySem.W.codeIn K cd18 "_law_row" = true) (k18 : PySem.W.keepIn K (.ref a18) = true)
    (x19 : PySem.W.nsIn K mainGlobals "_law_others" = some (some (.ref a19))) (l19 : K.lookup a19 = some ⟨oc19, od19, .func (PySem.W.fnOf "_law_others" "_law_others" (Z7 Zz) (Z1 Zz) (Za Zz) .none kV19 dc19 pm19 an19 cd19 ct19), sl19⟩) (c19 : PySem.W.codeIn K cd19 "_law_others" = true) (k19 : PySem.W.keepIn K (.ref a19) = true)
    (x20 : PySem.W.nsIn K mainGlobals "_law_told" = some (some (.ref a20))) (l20 : K.lookup a20 = some ⟨oc20, od20, .func (PySem.W.fnOf "_law_told" "_law_told" (Z7 Z5) (Z1 Z5) (Za Z5) .none kV20 dc20 pm20 an20 cd20 ct20), sl20⟩) (c20 : PySem.W.codeIn K cd20 "_law_told" = true) (k20 : PySem.W.keepIn K (.ref a20) = true)
    (x21 : PySem.W.nsIn K mainGlobals "_law_filled" = some (some (.ref a21))) (l21 : K.lookup a21 = some ⟨oc21, od21, .func (PySem.W.fnOf "_law_filled" "_law_filled" (Z7 Zv) (Z1 Zv) (Za Zv) .none kV21 dc21 pm21 an21 cd21 ct21), sl21⟩) (c21 : PySem.W.codeIn K cd21 "_law_filled" = true) (k21 : PySem.W.keepIn K (.ref a21) = true)
    (x22 : PySem.W.nsIn K mainGlobals "_law_changed" = some (some (.ref a22))) (l22 : K.lookup a22 = some ⟨oc22, od22, .func (PySem.W.fnOf "_law_changed" "_law_changed" (Z7 Z3) (Z1 Z3) (Za Z3) .none kV22 dc22 pm22 an22 cd22 ct22), sl22⟩) (c22 : PySem.W.codeIn K cd22 "_law_changed" = true) (k22 : PySem.W.keepIn K (.ref a22) = true)
    (x23 : PySem.W.nsIn K mainGlobals "_law_due" = some (some (.ref a23))) (l23 : K.lookup a23 = some ⟨oc23, od23, .func (PySem.W.fnOf "_law_due" "_law_due" (Z7 ZT) (Z1 ZT) (Za ZT) .none kV23 dc23 pm23 an23 cd23 ct23), sl23⟩) (c23 : PySem.W.codeIn K cd23 "_law_due" = true) (k23 : PySem.W.keepIn K (.ref a23) = true)
    (x24 : PySem.W.nsIn K mainGlobals "_law_things" = some (some (.ref a24))) (l24 : K.lookup a24 = some ⟨oc24, od24, .func (PySem.W.fnOf "_law_things" "_law_things" (Z7 Z4) (Z1 Z4) (Za Z4) .none kV24 dc24 pm24 an24 cd24 ct24), sl24⟩) (c24 : PySem.W.codeIn K cd24 "_law_things" = true) (k24 : PySem.W.keepIn K (.ref a24) = true)
    (x25 : PySem.W.nsIn K mainGlobals "law" = some (some (.ref a25))) (l25 : K.lookup a25 = some ⟨oc25, od25, .func (PySem.W.fnOf "law" "law" (Z7 ZU) (Z1 ZU) (Za ZU) .none kV25 dc25 pm25 an25 cd25 ct25), sl25⟩) (c25 : PySem.W.codeIn K cd25 "law" = true) (k25 : PySem.W.keepIn K (.ref a25) = true)
    (z0 : PySem.W.nsIn K mainGlobals "ValueError" = some none)
    (z1 : PySem.W.nsIn K mainGlobals "abs" = some none)
    (z2 : PySem.W.nsIn K mainGlobals "all" = some none)
    (z3 : PySem.W.nsIn K mainGlobals "bool" = some none)
    (z4 : PySem.W.nsIn K mainGlobals "enumerate" = some none)
    (z5 : PySem.W.nsIn K mainGlobals "int" = some none)
    (z6 : PySem.W.nsIn K mainGlobals "isinstance" = some none)
    (z7 : PySem.W.nsIn K mainGlobals "len" = some none)
    (z8 : PySem.W.nsIn K mainGlobals "list" = some none)
    (z9 : PySem.W.nsIn K mainGlobals "range" = some none)
    (z10 : PySem.W.nsIn K mainGlobals "sum" = some none)
    {tc0 : Tok} (zc0 : PySem.W.nsIn K mainGlobals "CHECK_SYMBOLS" = some (some (.int 2 tc0)))
    : ∃ fd : FuncData, (∀ (s : Shared) (v : Value), BindsTo s fd ⟨[v], []⟩ [("_law_script", v)]) /\ ∀ base : Heap, K.In base -> base.Ns mainGlobals mg -> FnOk l.prog w K mg base CX0 6 fa fd ["_law_script"] (T.spF K Zmp.run) := by
  have e := hfa.symm.trans (PySem.W.mg_of X G x25)
  cases e
  have Z : Txt K mg Kaa Kab Kac Kad Kae Kaf Kag Kah Kai Kaj Kak Kal Kam Kan := ⟨PySem.W.mg_none_of X G z0, PySem.W.mg_none_of X G z1, PySem.W.mg_none_of X G z2, PySem.W.mg_none_of X G z3, PySem.W.mg_none_of X G z4, PySem.W.mg_none_of X G z5, PySem.W.mg_none_of X G z6, PySem.W.mg_none_of X G z7, PySem.W.mg_none_of X G z8, PySem.W.mg_none_of X G z9, PySem.W.mg_none_of X G z10, ⟨tc0, PySem.W.mg_of X G zc0⟩, PySem.W.mg_of X G xx_a, ZbP xx_a xl_a, Zc9 xl_a, Zce xl_a ZoJ (show ZaK bmV = true by walk_at "d") xs_a xg_a xk_a, PySem.W.mg_of X G xx_b, ZbP xx_b xl_b, Zc9 xl_b, Zce xl_b (Zc8 xl_a xn_a xe_a xj_a) (show ZaK bmV = true by walk_at "d") xs_b xg_b xk_b, PySem.W.mg_of X G xx_c, ZbP xx_c xl_c, Zc9 xl_c, Zce xl_c (Zc8 xl_a xn_a xe_a xj_a) (show ZaK bmV = true by walk_at "d") xs_c xg_c xk_c, PySem.W.mg_of X G xx_d, ZbP xx_d xl_d, Zc9 xl_d, Zce xl_d (Zc8 xl_a xn_a xe_a xj_a) (show ZaK bmV = true by walk_at "d") xs_d xg_d xk_d, PySem.W.mg_of X G xx_e, ZbP xx_e xl_e, Zc9 xl_e, Zce xl_e (Zc8 xl_a xn_a xe_a xj_a) (show ZaK bmV = true by walk_at "d") xs_e xg_e xk_e, PySem.W.mg_of X G xx_f, ZbP xx_f xl_f, Zc9 xl_f, Zce xl_f (Zc8 xl_a xn_a xe_a xj_a) (show ZaK bmV = true by walk_at "d") xs_f xg_f xk_f, PySem.W.mg_of X G xx_g, ZbP xx_g xl_g, Zc9 xl_g, Zce xl_g (Zc8 xl_a xn_a xe_a xj_a) (show ZaK bmV = true by walk_at "d") xs_g xg_g xk_g, PySem.W.mg_of X G xx_h, ZbP xx_h xl_h, Zc9 xl_h, Zce xl_h (Zc8 xl_a xn_a xe_a xj_a) (show ZaK bmV = true by walk_at "d") xs_h xg_h xk_h, PySem.W.mg_of X G xx_i, ZbP xx_i xl_i, Zc9 xl_i, Zce xl_i (Zc8 xl_a xn_a xe_a xj_a) (show ZaK bmV = true by walk_at "d") xs_i xg_i xk_i, PySem.W.mg_of X G xx_j, ZbP xx_j xl_j, Zc9 xl_j, Zce xl_j (Zc8 xl_a xn_a xe_a xj_a) (show ZaK bmV = true by walk_at "d") xs_j xg_j xk_j, PySem.W.mg_of X G xx_k, ZbP xx_k xl_k, Zc9 xl_k, Zce xl_k (Zc8 xl_a xn_a xe_a xj_a) (show ZaK bmV = true by walk_at "d") xs_k xg_k xk_k, PySem.W.mg_of X G xx_l, ZbP xx_l xl_l, Zc9 xl_l, Zce xl_l (Zc8 xl_a xn_a xe_a xj_a) (show ZaK bmV = true by walk_at "d") xs_l xg_l xk_l, PySem.W.mg_of X G xx_m, ZbP xx_m xl_m, Zc9 xl_m, Zce xl_m (Zc8 xl_a xn_a xe_a xj_a) (show ZaK bmV = true by walk_at "d") xs_m xg_m xk_m, Zuy xx_m xl_m (ZbP xx_a xl_a) (Zc8 xl_a xn_a xe_a xj_a) xs_m xg_m xk_m xh_m xc_m xo1 xo2 x0_m x1_m x2_m x3_m, xi_m, PySem.W.mg_of X G xx_n, ZbP xx_n xl_n, Zc9 xl_n, Zce xl_n (Zc8 xl_a xn_a xe_a xj_a) (show ZaK bmV = true by walk_at "d") xs_n xg_n xk_n⟩
  have F0 := Zaf (st := ZaN) l0 c0 k0
  have b0 := F0.binds (ps := ["thing"]) fun _ _ _ _ _ _ => T.us1 fun _ => rfl
  have F1 := Zaf (st := ZaO) l1 c1 k1
  have b1 := F1.binds (ps := ["count", "thing"]) fun _ _ _ _ _ _ => T.us2 fun _ _ => rfl
  have F2 := Zaf (st := ZI) l2 c2 k2
  have b2 := F2.binds (ps := ["count", "row"]) fun _ _ _ _ _ _ => T.us2 fun _ _ => rfl
  have F3 := Zaf (st := ZaP) l3 c3 k3
  have b3 := F3.binds (ps := ["prime", "row"]) fun _ _ _ _ _ _ => T.us2 fun _ _ => rfl
  have F4 := Zaf (st := ZN) l4 c4 k4
  have b4 := F4.binds (ps := ["prime", "row"]) fun _ _ _ _ _ _ => T.us2 fun _ _ => rfl
  have F5 := Zaf (st := Zbm) l5 c5 k5
  have b5 := F5.binds (ps := ["prime", "row"]) fun _ _ _ _ _ _ => T.us2 fun _ _ => rfl
  have F6 := Zaf (st := Zat) l6 c6 k6
  have b6 := F6.binds (ps := ["prime", "rest", "divisor"]) fun _ _ _ _ _ _ => T.us3 fun _ _ _ => rfl
  have F7 := Zaf (st := Zs) l7 c7 k7
  have b7 := F7.binds (ps := ["prime", "row", "earlier", "later"]) fun _ _ _ _ _ _ => T.us4 fun _ _ _ _ => rfl
  have F8 := Zaf (st := Zp) l8 c8 k8
  have b8 := F8.binds (ps := ["prime", "row"]) fun _ _ _ _ _ _ => T.us2 fun _ _ => rfl
  have F9 := Zaf (st := Zau) l9 c9 k9
  have b9 := F9.binds (ps := ["prime", "row"]) fun _ _ _ _ _ _ => T.us2 fun _ _ => rfl
  have F10 := Zaf (st := ZD) l10 c10 k10
  have b10 := F10.binds (ps := ["prime", "things"]) fun _ _ _ _ _ _ => T.us2 fun _ _ => rfl
  have F11 := Zaf (st := Zbk) l11 c11 k11
  have b11 := F11.binds (ps := ["_law_script", "_law_k"]) fun _ _ _ _ _ _ => T.us2 fun _ _ => rfl
  have F12 := Zaf (st := ZaA) l12 c12 k12
  have b12 := F12.binds (ps := ["_law_cell", "_law_turn", "_law_many"]) fun _ _ _ _ _ _ => T.us3 fun _ _ _ => rfl
  have F13 := Zaf (st := ZaE) l13 c13 k13
  have b13 := F13.binds (ps := ["_law_cell"]) fun _ _ _ _ _ _ => T.us1 fun _ => rfl
  have F14 := Zaf (st := Zaq) l14 c14 k14
  have b14 := F14.binds (ps := ["_law_source_here", "_law_many"]) fun _ _ _ _ _ _ => T.us2 fun _ _ => rfl
  have F15 := Zaf (st := Zbu) l15 c15 k15
  have b15 := F15.binds (ps := ["_law_cell"]) fun _ _ _ _ _ _ => T.us1 fun _ => rfl
  have F16 := Zaf (st := Zar) l16 c16 k16
  have b16 := F16.binds (ps := ["_law_prime_here", "_law_row_here"]) fun _ _ _ _ _ _ => T.us2 fun _ _ => rfl
  have F17 := Zaf (st := Zae) l17 c17 k17
  have b17 := F17.binds (ps := ["_law_prime_here", "_law_row_here"]) fun _ _ _ _ _ _ => T.us2 fun _ _ => rfl
  have F18 := Zaf (st := Zaa) l18 c18 k18
  have b18 := F18.binds (ps := ["_law_found", "_law_prime_here"]) fun _ _ _ _ _ _ => T.us2 fun _ _ => rfl
  have F19 := Zaf (st := Zz) l19 c19 k19
  have b19 := F19.binds (ps := ["_law_e"]) fun _ _ _ _ _ _ => T.us1 fun _ => rfl
  have F20 := Zaf (st := Z5) l20 c20 k20
  have b20 := F20.binds (ps := ["_law_prime_here", "_law_things_here", "_law_way"]) fun _ _ _ _ _ _ => T.us3 fun _ _ _ => rfl
  have F21 := Zaf (st := Zv) l21 c21 k21
  have b21 := F21.binds (ps := ["_law_prime_here", "_law_things_here", "_law_holes"]) fun _ _ _ _ _ _ => T.us3 fun _ _ _ => rfl
  have F22 := Zaf (st := Z3) l22 c22 k22
  have b22 := F22.binds (ps := ["_law_prime_here", "_law_row_here"]) fun _ _ _ _ _ _ => T.us2 fun _ _ => rfl
  have F23 := Zaf (st := ZT) l23 c23 k23
  have b23 := F23.binds (ps := ["_law_prime_here", "_law_things_here"]) fun _ _ _ _ _ _ => T.us2 fun _ _ => rfl
  have F24 := Zaf (st := Z4) l24 c24 k24
  have b24 := F24.binds (ps := ["_law_row_here", "_law_prime_here", "_law_cell"]) fun _ _ _ _ _ _ => T.us3 fun _ _ _ => rfl
  have F25 := Zaf (st := ZU) l25 c25 k25
  refine ⟨PySem.W.fnOf "law" "law" (Z7 ZU) (Z1 ZU) (Za ZU) .none kV25 dc25 pm25 an25 cd25 ct25, fun s v => .of_eq rfl, fun base _ _ => ?_⟩
  have G_is_whole : FnAt l.prog w K mg base "is_whole" 1 ["thing"] (T.spF K Zew.run) := ⟨_, _, Zlf F0 Z , PySem.W.mg_of X G x0, k0, b0⟩
  have G_is_symbol : FnAt l.prog w K mg base "is_symbol" 2 ["count", "thing"] (T.spF K Zc2.run) := ⟨_, _, ZkJ F1 Z G_is_whole, PySem.W.mg_of X G x1, k1, b1⟩
  have G_check_symbols : FnAt l.prog w K mg base "check_symbols" 3 ["count", "row"] (T.spF K Zay.run) := ⟨_, _, Zil F2 Z G_is_symbol, PySem.W.mg_of X G x2, k2, b2⟩
  have G_plain_sum : FnAt l.prog w K mg base "plain_sum" 1 ["prime", "row"] (T.spF K ZG.run) := ⟨_, _, ZkL F3 Z , PySem.W.mg_of X G x3, k3, b3⟩
  have G_weighed_sum : FnAt l.prog w K mg base "weighed_sum" 1 ["prime", "row"] (T.spF K ZO.run) := ⟨_, _, Zjm F4 Z , PySem.W.mg_of X G x4, k4, b4⟩
  have G_is_good : FnAt l.prog w K mg base "is_good" 2 ["prime", "row"] (T.spF K Zee.run) := ⟨_, _, Zml F5 Z G_weighed_sum G_plain_sum, PySem.W.mg_of X G x5, k5, b5⟩
  have G_quotient : FnAt l.prog w K mg base "quotient" 1 ["prime", "rest", "divisor"] (T.spF K Zcg.run) := ⟨_, _, Zlh F6 Z , PySem.W.mg_of X G x6, k6, b6⟩
  have G_with_two_filled : FnAt l.prog w K mg base "with_two_filled" 2 ["prime", "row", "earlier", "later"] (T.spF K Z9.run) := ⟨_, _, Zhv F7 Z G_plain_sum G_weighed_sum G_quotient, PySem.W.mg_of X G x7, k7, b7⟩
  have GX_with_one_righted : FnAtX l.prog w K mg base "with_one_righted" 2 ["prime", "row"] (T.spX K ZR.run) := ⟨_, _, Zhd F8 Z G_plain_sum G_weighed_sum, PySem.W.mg_of X G x8, k8, b8⟩
  have G_labelled : FnAt l.prog w K mg base "labelled" 4 ["prime", "row"] (T.spF K Zai.run) := ⟨_, _, Zli F9 Z G_check_symbols G_with_two_filled, PySem.W.mg_of X G x9, k9, b9⟩
  have GX_mended : FnAtX l.prog w K mg base "mended" 4 ["prime", "things"] (T.spX K Zap.run) := ⟨_, _, Znf F10 Z G_check_symbols G_with_two_filled G_plain_sum G_is_good GX_with_one_righted, PySem.W.mg_of X G x10, k10, b10⟩
  have G__law_nth : FnAt l.prog w K mg base "_law_nth" 1 ["_law_script", "_law_k"] (T.spF K ZZ.run) := ⟨_, _, Zlj F11 Z , PySem.W.mg_of X G x11, k11, b11⟩
  have G__law_spun : FnAt l.prog w K mg base "_law_spun" 1 ["_law_cell", "_law_turn", "_law_many"] (T.spF K Zd9.run) := ⟨_, _, ZkO F12 Z , PySem.W.mg_of X G x12, k12, b12⟩
  have G__law_source : FnAt l.prog w K mg base "_law_source" 1 ["_law_cell"] (T.spF K Zct.run) := ⟨_, _, Zjr F13 Z , PySem.W.mg_of X G x13, k13, b13⟩
  have G__law_next : FnAt l.prog w K mg base "_law_next" 2 ["_law_source_here", "_law_many"] (T.spF K ZK.run) := ⟨_, _, ZkP F14 Z G__law_spun, PySem.W.mg_of X G x14, k14, b14⟩
  have G__law_prime : FnAt l.prog w K mg base "_law_prime" 1 ["_law_cell"] (T.spF K Zda.run) := ⟨_, _, Zka F15 Z , PySem.W.mg_of X G x15, k15, b15⟩
  have G__law_sums : FnAt l.prog w K mg base "_law_sums" 1 ["_law_prime_here", "_law_row_here"] (T.spF K Zal.run) := ⟨_, _, ZkQ F16 Z , PySem.W.mg_of X G x16, k16, b16⟩
  have G__law_label : FnAt l.prog w K mg base "_law_label" 2 ["_law_prime_here", "_law_row_here"] (T.spF K ZbZ.run) := ⟨_, _, Zkb F17 Z G__law_sums, PySem.W.mg_of X G x17, k17, b17⟩
  have G__law_row : FnAt l.prog w K mg base "_law_row" 1 ["_law_found", "_law_prime_here"] (T.spF K Zcm.run) := ⟨_, _, Zll F18 Z , PySem.W.mg_of X G x18, k18, b18⟩
  have G__law_others : FnAt l.prog w K mg base "_law_others" 1 ["_law_e"] (T.spF K Zcx.run) := ⟨_, _, Zju F19 Z , PySem.W.mg_of X G x19, k19, b19⟩
  have GX__law_told : FnAtX l.prog w K mg base "_law_told" 5 ["_law_prime_here", "_law_things_here", "_law_way"] (T.spX K ZaR.run) := ⟨_, _, ZkR F20 Z G_labelled GX_mended G__law_others, PySem.W.mg_of X G x20, k20, b20⟩
  have G__law_filled : FnAt l.prog w K mg base "_law_filled" 2 ["_law_prime_here", "_law_things_here", "_law_holes"] (T.spF K Zba.run) := ⟨_, _, Zjv F21 Z G__law_sums, PySem.W.mg_of X G x21, k21, b21⟩
  have G__law_changed : FnAt l.prog w K mg base "_law_changed" 2 ["_law_prime_here", "_law_row_here"] (T.spF K Za8.run) := ⟨_, _, ZiQ F22 Z G__law_sums, PySem.W.mg_of X G x22, k22, b22⟩
  have G__law_due : FnAt l.prog w K mg base "_law_due" 3 ["_law_prime_here", "_law_things_here"] (T.spF K Zbl.run) := ⟨_, _, Zlm F23 Z G__law_filled G__law_changed, PySem.W.mg_of X G x23, k23, b23⟩
  have G__law_things : FnAt l.prog w K mg base "_law_things" 3 ["_law_row_here", "_law_prime_here", "_law_cell"] (T.spF K Zbb.run) := ⟨_, _, Zjw F24 Z G__law_source G__law_next, PySem.W.mg_of X G x24, k24, b24⟩
  exact Zsb (P := l.prog) (w := w) (base := base) F25 Z G__law_prime G__law_nth G__law_label G__law_things GX__law_told G__law_due G__law_row G_labelled
end
variable (lk : Nat -> Bool) (fok : Addr -> Str -> Bool) (fuel : Nat)
local macro_rules | `(tactic| walk_at "ev") => `(tactic| simp only [bndA, Zp2, retA, Ztt, Zp3, Ztu, Ztv, Zrp, Zrq, Ztw, Zrr, Ztx, Zty, Zp4, Zp5, valA, Zrs, Ztz, movA, Zrt, Zru, Zt0, Zt1, Zrv, Zt2, Zt3, Zt4, Zrw, Zrx, Zt5, Zt6, Zry, Zrz, Zt7, Zr0, Zr1, Zr2, Zr3, Zt8, Zr4, exs1, exs0, Zp8, Zp9, Zp6, Zp7, ZrW, ZrX, Zog, ZrY, ZrZ, Zsa, Zoh, Zoi, endX, ZpS, ZpT, e_k, o_k, Zt9, ZtA, ZtB, ZtC, ZtD, ZtE, ZtF, ZpA, ZtG, ZtH, ZtI, Zc1, e_nt, t_nt, o_nt, ZtJ, ZtK, t_or, ZtL, e_ix, t_ix, o_ix, e_sl, o_sl, ZtM, ZtN, ZtO, ZtP, e_kl, o_kl, Zr5, Zr6, Zr7, e_bf, t_bf, o_bf, ZpD, Zr8, e_v, ZnR, ZtQ, ZtR, evs0, evs1, ZtS, ZtT, ZtU, ZtV, ZtW, x_ex, ZtX, ZtY, Zr9, ZtZ, r_k, Zua, Zub, Zuc, r_ix, Zud, Zue, ZrA, r_bf, Zuf, Zug, c_lt, c_le, Zuh, ZrB, ZrC, Zui, Zuj, Zuk, Zul, Zum, Zun, Zuo, Zup, ZrD, ZrE, ZrF, ZrG, ZrH, ZrI, intp, sl_l, sl_f, Zuq, Zur, Zus, ZrJ, asgn, ZrK, ZrL, ZrM, ZrN, Zut, Zuu, ZrO, ZrP, ZrQ, ZrR, it_l, modA, Zuv, chkA, Zuw, ix_l, ix_t, shrL, shr, walked, C0, scr, List.getElem?_cons_zero, List.getElem?_cons_succ, List.set_cons_zero, List.set_cons_succ, List.length_cons, List.length_nil, Option.map_some, Option.bind_some, Option.toList_none, Option.toList_some, List.nil_append, List.append_nil, List.cons_append, List.map_cons, List.map_nil, if_true, if_false, Bool.false_eq_true, Bool.and_true, Bool.true_and, Bool.or_true, Bool.true_or, Bool.or_false, Bool.false_or, Bool.not_false, Bool.not_true, decide_true, decide_false, Nat.reduceLT, Nat.reduceAdd, Nat.reduceLeDiff, beq_self_eq_true, Nat.reduceBEq, Bool.and_false, Bool.false_and, reduceCtorEq, ite_true, ite_false])
noncomputable abbrev I (i : Int) : D := .sc (.int i)
noncomputable abbrev Ls (o : Bool) (xs : List Int) : D := .node .lst o (dI xs)
noncomputable def wts : Int -> List Int -> List Int
  | _, [] => []
  | c, x :: xs => c * x :: wts (c + 1) xs
theorem ZpU (c : Int) (xs : List Int) : (wts c xs).length = xs.length := by
  induction xs generalizing c with
  | nil => rfl
  | cons x xs ih => rw [wts, List.length_cons, List.length_cons, ih]
theorem ZbG (p : Int) (xs : List Int) (o : Bool) (hp : 0 < p) : ZG.run [I p, Ls o xs] = .ok (I (xs.sum % p), [I p, Ls o xs]) := by
  show Zi C0 2 2 ZcT [I p, Ls o xs] = _
  rw [runA (show [I p, Ls o xs].length = 2 from rfl)]
  unfold ZcT
  simp only [List.replicate, Nat.reduceSub]
  cases o <;> (repeat (first | walk_at "ev" | simp only [Zr, ZfX, ZF _ _ hp])) <;> rfl
theorem wloop (h0 : lk 0 = false) (h1 : lk 1 = false) : ∀ (xs : List Int) (c : Int) (acc : List Int) (a b : D), 0 <= c -> c + xs.length < 2 ^ 64 -> ∃ a' b', ZaM (asgT lk (.tup [0, 1])) (tsts ⟨lk, fok, fuel⟩ []) (evb ⟨lk, fok, fuel⟩ (.bin .Mult (.v 0) (.v 1))).1 (Za3 c (dI xs)) (dI acc) [a, b] = .ok (dI (acc ++ wts c xs), [a', b']) := by
  intro xs
  induction xs with
  | nil => exact fun c acc a b _ _ => ⟨a, b, by rw [wts, List.append_nil]; rfl⟩
  | cons x xs ih =>
    intro c acc a b hc hl
    rw [List.length_cons] at hl
    obtain ⟨a', b', ih⟩ := ih (c + 1) (acc ++ [c * x]) (I c) (I x) (by omega) (by omega)
    refine ⟨a', b', ?_⟩
    have hm : binW .Mult (.sc (.int c)) (.sc (.int x)) = some (.sc (.int (c * x))) := ZbO c x (.inl ⟨by omega, by omega⟩)
    rw [Zx, Za3, Zd3]
    rw [ZbB] at ih
    repeat (first | walk_at "ev" | simp only [h0, h1, ZfZ, hm])
    rw [wts]
    have e : acc ++ c * x :: wts (c + 1) xs = acc ++ [c * x] ++ wts (c + 1) xs := by simp
    rw [e]
    exact ih
theorem ZdG (p : Int) (xs : List Int) (o : Bool) (hp : 0 < p) (hl : xs.length <= 1000) : ZO.run [I p, Ls o xs] = .ok (I ((wts 1 xs).sum % p), [I p, Ls o xs]) := by
  show Zi C0 2 2 ZbU [I p, Ls o xs] = _
  rw [runA (show [I p, Ls o xs].length = 2 from rfl)]
  unfold ZbU
  simp only [List.replicate, Nat.reduceSub]
  have hz : (dI ([] ++ wts 1 xs)).length <= sizeLine := by rw [ZP, List.nil_append, ZpU, szl]; omega
  obtain ⟨a', b', hw⟩ := wloop (fun i => decide (2 <= i)) (fun _ _ => false) 0 rfl rfl xs 1 [] .hole .hole (by decide) (by omega)
  replace hw : Zb0 (fun _ _ => false) 0 2 (.tup [0, 1]) [] (.bin .Mult (.v 0) (.v 1)) (Za3 1 (dI xs)) [] [.hole, .hole] = _ := hw
  cases o
  . repeat (first | walk_at "ev" | simp only [Zr, it_e _ 1 (by decide)])
    rw [ZbH (js := []) (caps := []) rfl hw hz]
    repeat (first | walk_at "ev" | simp only [Zcz, ZfX, ZF _ _ hp])
    rfl
  . repeat (first | walk_at "ev" | simp only [Zr, it_e _ 1 (by decide)])
    rw [ZbH (js := []) (caps := []) rfl hw hz]
    repeat (first | walk_at "ev" | simp only [Zcz, ZfX, ZF _ _ hp])
    rfl
noncomputable def good (p : Int) (xs : List Int) : Bool := decide (xs.sum % p = 0) && decide ((wts 1 xs).sum % p = 0)
theorem Zgk (p : Int) (xs : List Int) (_o : Bool) (hp : 0 < p) (hl : xs.length <= 1000) : Zee.run [I p, Ls true xs] = .ok (.sc (.bl (good p xs)), [I p, Ls true xs]) := by
  rw [show Zee.run = Zi C0 2 2 Zez from rfl]
  rw [runA (show [I p, Ls true xs].length = 2 from rfl)]
  unfold Zez good
  simp only [List.replicate, Nat.reduceSub]
  have l1 : ZG.lend = true := rfl
  have l2 : ZO.lend = true := rfl
  have r1 := fun o => ZbG p xs o hp
  have r2 := fun o => ZdG p xs o hp hl
  by_cases h : xs.sum % p = 0
  . (repeat (first | walk_at "ev" | simp only [l1, l2, r1, r2, h, V.int.injEq])) <;> rfl
  . (repeat (first | walk_at "ev" | simp only [l1, l2, r1, r2, h, V.int.injEq])) <;> rfl
theorem ZhM (ns : List Int) (k : Nat) : ZZ.run [scr ns, I k] = .ok (I (ns.getD k 0), [scr ns, I k]) := by
  show Zi C0 2 3 Zd8 [scr ns, I k] = _
  rw [runA (show [scr ns, I k].length = 2 from rfl)]
  unfold Zd8
  simp only [List.replicate, Nat.reduceSub]
  have hc := ZfY ns (some (k : Int)) (some ((k : Int) + 1))
  rw [ZnU] at hc
  (rw [List.getD_eq_getElem?_getD])
  cases h : ns[k]? with
  | none =>
    rw [h] at hc
    repeat (first | walk_at "ev" | simp only [hc, ZoF])
    rfl
  | some x =>
    rw [h] at hc
    repeat (first | walk_at "ev" | simp only [hc, ZbA])
    rfl
theorem Zoj (c t m : Int) (hm : 0 < m) : ∃ r, 0 <= r /\ r < m /\ Zd9.run [I c, I t, I m] = .ok (I r, [I c, I t, I m]) := by
  have e1 : ∀ a : Int, binW .Mod (.sc (.int a)) (.sc (.int 2305843009213693951)) = some (.sc (.int (a % 2305843009213693951))) := fun a => ZF _ _ (by decide)
  have e2 : ∀ a : Int, binW .Mult (.sc (.int (a % 2305843009213693951 + 977))) (.sc (.int (2 * t + 30011))) = some (.sc (.int ((a % 2305843009213693951 + 977) * (2 * t + 30011)))) := fun a => ZbO _ _ (.inl (by omega))
  have e3 : binW .Mult (.sc (.int 2)) (.sc (.int t)) = some (.sc (.int (2 * t))) := ZbO _ _ (.inl (by decide))
  have e4 : ∀ a : Int, binW .FloorDiv (.sc (.int a)) (.sc (.int 65537)) = some (.sc (.int (a / 65537))) := fun a => ZiB _ _ (by decide)
  have e5 : ∀ a : Int, binW .Mod (.sc (.int a)) (.sc (.int 65537)) = some (.sc (.int (a % 65537))) := fun a => ZF _ _ (by decide)
  have e6 : ∀ a : Int, binW .Mult (.sc (.int (a % 65537))) (.sc (.int (t + 5))) = some (.sc (.int (a % 65537 * (t + 5)))) := fun a => ZbO _ _ (.inl (by omega))
  have e7 : ∀ a : Int, binW .Mod (.sc (.int a)) (.sc (.int 1000003)) = some (.sc (.int (a % 1000003))) := fun a => ZF _ _ (by decide)
  have e8 : ∀ a : Int, binW .Mult (.sc (.int (a % 1000003))) (.sc (.int 1000003)) = some (.sc (.int (a % 1000003 * 1000003))) := fun a => ZbO _ _ (.inr (by decide))
  have e9 : ∀ a : Int, binW .FloorDiv (.sc (.int a)) (.sc (.int 97)) = some (.sc (.int (a / 97))) := fun a => ZiB _ _ (by decide)
  show ∃ r, 0 <= r /\ r < m /\ Zi C0 3 4 ZcY [I c, I t, I m] = _
  rw [runA (show [I c, I t, I m].length = 3 from rfl)]
  unfold ZcY
  simp only [List.replicate, Nat.reduceSub]
  repeat (first | walk_at "ev" | simp only [e1, e2, e3, e4, e5, e6, e7, e8, e9, ZF _ _ hm])
  exact ⟨_, Int.emod_nonneg _ (by omega), Int.emod_lt_of_pos _ hm, rfl⟩
theorem Zmq (c : Int) : ∃ n, Zct.run [I c] = .ok (D.node .lst true [I c, I n, I 0], [I c]) := by
  show ∃ n, Zi C0 1 1 ZbX [I c] = _
  rw [runA (show [I c].length = 1 from rfl)]
  unfold ZbX
  simp only [List.replicate, Nat.reduceSub]
  have e1 : ∀ a : Int, binW .FloorDiv (.sc (.int a)) (.sc (.int 2)) = some (.sc (.int (a / 2))) := fun a => ZiB _ _ (by decide)
  have hz : (3 : Nat) <= sizeLine := by rw [szl]; decide
  repeat (first | walk_at "ev" | simp only [e1])
  rw [Zas _ (by simpa using hz)]
  walk_at "ev"
  exact ⟨_, rfl⟩
theorem Zgl (c n t m : Int) (hm : 0 < m) (h2 : m < 1073741824) : ∃ r n' t', 0 <= r /\ r < m /\ ZK.run [D.node .lst true [I c, I n, I t], I m] = .ok (I r, [D.node .lst true [I c, I n', I t'], I m]) := by
  obtain ⟨r, hr1, hr2, hr⟩ := Zoj c t m hm
  show ∃ r n' t', 0 <= r /\ r < m /\ Zi C0 2 5 ZcZ [D.node .lst true [I c, I n, I t], I m] = _
  rw [runA (show [D.node .lst true [I c, I n, I t], I m].length = 2 from rfl)]
  unfold ZcZ
  simp only [List.replicate, Nat.reduceSub]
  have l1 : Zd9.lend = true := rfl
  have e1 : ∀ a : Int, binW .FloorDiv (.sc (.int a)) (.sc (.int m)) = some (.sc (.int (a / m))) := fun a => ZiB _ _ ⟨hm, h2⟩
  have e2 : ∀ a : Int, binW .Mod (.sc (.int a)) (.sc (.int 2)) = some (.sc (.int (a % 2))) := fun a => ZF _ _ (by decide)
  have i1 : ixN' 3 1 = some 1 := rfl
  have i2 : ixN' 3 2 = some 2 := rfl
  have s1 : ∀ (i : Nat) (δ : List D) (d a b e : D), mdR i δ (ZaL (.sc (.int 1)) d) (some (.node .lst true [a, b, e])) = .ok (.sc .non, δ.set i (.node .lst true [a, d, e])) := fun i δ d a b e => ZcP i δ d _ 1 1 rfl
  have s2 : ∀ (i : Nat) (δ : List D) (d a b e : D), mdR i δ (ZaL (.sc (.int 2)) d) (some (.node .lst true [a, b, e])) = .ok (.sc .non, δ.set i (.node .lst true [a, b, d])) := fun i δ d a b e => ZcP i δ d _ 2 2 rfl
  by_cases h : c % 2 = 1
  . by_cases hn : 0 < n
    . repeat (first | walk_at "ev" | simp only [e1, e2, s1, s2, h, hn, V.int.injEq, ZF _ _ hm])
      exact ⟨_, _, _, Int.emod_nonneg _ (by omega), Int.emod_lt_of_pos _ hm, rfl⟩
    . repeat (first | walk_at "ev" | simp only [e1, e2, s1, s2, h, hn, V.int.injEq, ZF _ _ hm, l1, hr])
      exact ⟨_, _, _, hr1, hr2, rfl⟩
  . repeat (first | walk_at "ev" | simp only [e1, e2, s1, s2, h, V.int.injEq, ZF _ _ hm, l1, hr])
    exact ⟨_, _, _, hr1, hr2, rfl⟩
noncomputable abbrev PR : List Int := [5, 7, 11, 13, 17, 19, 23, 29, 31, 37, 41, 43, 47]
theorem Zng (c : Int) : ∃ p, 5 <= p /\ p <= 47 /\ p ∈ PR /\ Zda.run [I c] = .ok (I p, [I c]) := by
  show ∃ p, 5 <= p /\ p <= 47 /\ p ∈ PR /\ Zi C0 1 1 Zcu [I c] = _
  rw [runA (show [I c].length = 1 from rfl)]
  unfold Zcu
  simp only [List.replicate, Nat.reduceSub]
  have hz : (13 : Nat) <= sizeLine := by rw [szl]; decide
  have e2 : ∀ a : Int, binW .Mod (.sc (.int a)) (.sc (.int 13)) = some (.sc (.int (a % 13))) := fun a => ZF _ _ (by decide)
  have h0 : 0 <= c % 13 := by omega
  have h1 : c % 13 < 13 := by omega
  have hi := ixI PR (c % 13) h0 (by simpa using h1)
  have hb : ∀ k : Nat, k < 13 -> 5 <= PR.getD k 0 /\ PR.getD k 0 <= 47 /\ PR.getD k 0 ∈ PR := by decide
  obtain ⟨b1, b2, b3⟩ := hb (c % 13).toNat (by omega)
  generalize PR.getD (c % 13).toNat 0 = p at hi b1 b2 b3
  refine ⟨p, b1, b2, b3, ?_⟩
  simp only [PR, Zx, List.map_nil] at hi
  walk_at "ev"
  rw [Zas _ (by simpa using hz)]
  repeat (first | walk_at "ev" | simp only [e2])
  simp only [List.length_cons, List.length_nil, Nat.reduceAdd] at hi
  rw [hi]
  rfl
noncomputable def Zg1 (p : Int) : Int -> List Int -> Int × Int -> Int × Int
  | _, [], s => s
  | c, x :: xs, s => Zg1 p (c + 1) xs ((s.1 + x) % p, (s.2 + c * x) % p)
theorem ZkS (p : Int) : ∀ (xs : List Int) (c : Int) (a b : Int), Zg1 p c xs (a % p, b % p) = ((a + xs.sum) % p, (b + (wts c xs).sum) % p)
  | [], c, a, b => by simp [Zg1, wts]
  | x :: xs, c, a, b => by
    rw [Zg1, wts, List.sum_cons, List.sum_cons]
    dsimp only
    rw [Int.emod_add_emod, Int.emod_add_emod, ZkS p xs (c + 1) (a + x) (b + c * x), Int.add_assoc, Int.add_assoc]
theorem Znh (h2 : lk 2 = false) (h3 : lk 3 = false) (p : Int) (hp : 0 < p) (_o : Bool) (xs : List Int) (hl : xs.length <= 1000) : ∀ (n i : Nat) (a b : Int) (x : D), i + n = xs.length -> ∃ x',
    forL (asgT lk (.name 3)) (exs ⟨lk, fok, fuel⟩ [.asg 2 (.lst [.bin .Mod (.bin .Add (.ix (.v 2) (.k (.int 0))) (.ix (.v 1) (.bin .Sub (.v 3) (.k (.int 1))))) (.v 0), .bin .Mod (.bin .Add (.ix (.v 2) (.k (.int 1))) (.bin .Mult (.v 3) (.ix (.v 1) (.bin .Sub (.v 3) (.k (.int 1)))))) (.v 0)])]) (dI (rngI (1 + i) n)) [I p, Ls true xs, .node .lst true [I a, I b], x]
      = .ok (.nx, [I p, Ls true xs, D.node .lst true [I (Zg1 p (1 + i) (xs.drop i) (a, b)).1, I (Zg1 p (1 + i) (xs.drop i) (a, b)).2], x']) := by
  intro n
  induction n with
  | zero =>
    intro i a b x hi
    refine ⟨x, ?_⟩
    rw [List.drop_of_length_le (by omega)]
    rfl
  | succ n ih =>
    intro i a b x hi
    (have hlt : i < xs.length := by omega)
    obtain ⟨x', ih⟩ := ih (i + 1) ((a + xs[i]) % p) ((b + (1 + i) * xs[i]) % p) (I (1 + i)) (by omega)
    refine ⟨x', ?_⟩
    have e0 : (1 + ((i + 1 : Nat) : Int)) = 1 + (i : Int) + 1 := by omega
    rw [e0] at ih
    rw [List.drop_eq_getElem_cons hlt, Zg1]
    dsimp only
    rw [<- ih, rngI, Zx, ZbA]
    have hx := ixI xs (1 + (i : Int) - 1) (by omega) (by omega)
    have hg : xs.getD (1 + (i : Int) - 1).toNat 0 = xs[i] := by
      have : (1 + (i : Int) - 1).toNat = i := by omega
      rw [this, List.getD_eq_getElem?_getD, List.getElem?_eq_getElem hlt]
      rfl
    rw [hg] at hx
    have i0 : ixN' 2 0 = some 0 := rfl
    have i1 : ixN' 2 1 = some 1 := rfl
    have hm : binW .Mult (.sc (.int (1 + (i : Int)))) (.sc (.int xs[i])) = some (.sc (.int ((1 + (i : Int)) * xs[i]))) := ZbO _ _ (.inl (by omega))
    have hz : (2 : Nat) <= sizeLine := by rw [szl]; decide
    have hn : ∀ u v : D, newL [u, v] = some (.node .lst true [u, v]) := fun u v => Zas _ (by simpa using hz)
    (repeat (first | walk_at "ev" | simp only [h2, h3, Zr, hx, hm, hn, i0, i1, ZF _ _ hp]))
theorem Zis (p : Int) (xs : List Int) (_o : Bool) (hp : 0 < p) (hl : xs.length <= 1000) : Zal.run [I p, Ls true xs] = .ok (Ls true [xs.sum % p, (wts 1 xs).sum % p], [I p, Ls true xs]) := by
  rw [show Zal.run = Zi C0 2 4 Zdb from rfl]
  rw [runA (show [I p, Ls true xs].length = 2 from rfl)]
  unfold Zdb
  simp only [List.replicate, Nat.reduceSub]
  obtain ⟨x', hs⟩ := Znh (fun j => decide (j < 2) || walked [.k (.int 1), .bin .Add (.bf .len [.v 1]) (.k (.int 1))] j) (fun _ _ => false) 0 rfl rfl p hp true xs hl xs.length 0 0 0 .hole (by omega)
  have hf : Zg1 p (1 + ((0 : Nat) : Int)) (xs.drop 0) (0, 0) = (xs.sum % p, (wts 1 xs).sum % p) := by
    have z := ZkS p xs 1 0 0
    rw [Int.zero_emod, Int.zero_add, Int.zero_add] at z
    exact z
  rw [hf] at hs
  have e1 : (1 : Int) + ((0 : Nat) : Int) = 1 := rfl
  rw [e1] at hs
  have hr : itW .rng2 [.sc (.int 1), .sc (.int ((dI xs).length + 1))] = some (dI (rngI 1 xs.length)) := by
    rw [ZoI _ _ (by rw [ZP]; omega), ZP]
    have : ((xs.length : Int) + 1 - 1).toNat = xs.length := by omega
    rw [this]
  have hz : (2 : Nat) <= sizeLine := by rw [szl]; decide
  have hn : ∀ u v : D, newL [u, v] = some (.node .lst true [u, v]) := fun u v => Zas _ (by simpa using hz)
  simp only [walked, Bool.or_false, Zx, Zbd] at hs
  (repeat (first | walk_at "ev" | simp only [Zr, hn, hr, hs])) <;> rfl
theorem ZlF (c : Int) (xs ys : List Int) : wts c (xs ++ ys) = wts c xs ++ wts (c + xs.length) ys := by
  induction xs generalizing c with
  | nil => simp [wts]
  | cons x xs ih =>
    rw [List.cons_append, wts, wts, ih, List.cons_append, List.length_cons]
    have : c + 1 + (xs.length : Int) = c + ((xs.length + 1 : Nat) : Int) := by omega
    rw [this]
noncomputable def other (p : Int) (xs : List Int) (l : Int) : Int := (0 - xs.sum - l) % p
theorem ZpV (p : Int) (xs : List Int) (l : Int) : (xs ++ [other p xs l, l]).sum % p = 0 := by
  have e : (xs ++ [other p xs l, l]).sum = (0 - xs.sum - l) % p + (xs.sum + l) := by
    simp only [List.sum_append, List.sum_cons, List.sum_nil, other]
    omega
  rw [e, Int.emod_add_emod]
  have : 0 - xs.sum - l + (xs.sum + l) = 0 := by omega
  rw [this, Int.zero_emod]
theorem ZkT (p : Int) (xs : List Int) (l : Int) : (wts 1 (xs ++ [other p xs l, l])).sum % p = ((wts 1 xs).sum - (xs.length + 1) * xs.sum + l) % p := by
  have e : (wts 1 (xs ++ [other p xs l, l])).sum = (1 + (xs.length : Int)) * ((0 - xs.sum - l) % p) + ((wts 1 xs).sum + (1 + xs.length + 1) * l) := by
    rw [ZlF]
    simp only [List.sum_append, List.sum_cons, List.sum_nil, other, wts]
    omega
  rw [e, Int.add_emod, Int.mul_emod, Int.emod_emod, <- Int.mul_emod, <- Int.add_emod]
  congr 1
  rw [Int.mul_sub, Int.mul_sub, Int.mul_zero]
  have h1 : (1 + (xs.length : Int) + 1) * l = (1 + (xs.length : Int)) * l + l := by rw [Int.add_mul, Int.one_mul]
  have h2 : (1 + (xs.length : Int)) * xs.sum = ((xs.length : Int) + 1) * xs.sum := by rw [Int.add_comm]
  rw [h1, h2]
  omega
theorem Zsd (p : Int) (xs : List Int) (hp : 0 < p) : ∃ l, 0 <= l /\ l < p /\ (wts 1 (xs ++ [other p xs l, l])).sum % p = 0 := by
  refine ⟨(((xs.length : Int) + 1) * xs.sum - (wts 1 xs).sum) % p, Int.emod_nonneg _ (by omega), Int.emod_lt_of_pos _ hp, ?_⟩
  rw [ZkT]
  generalize ((xs.length : Int) + 1) * xs.sum = a
  generalize (wts 1 xs).sum = b
  rw [Int.add_emod, Int.emod_emod, <- Int.add_emod]
  have : b - a + (a - b) = 0 := by omega
  rw [this, Int.zero_emod]
theorem Zmr (h2 : lk 2 = false) (h3 : lk 3 = false) (p : Int) (hp : 0 < p) (_o : Bool) (xs : List Int) (hl : xs.length <= 500) : ∀ (ls : List Int) (a b : D), (∃ l ∈ ls, (wts 1 (xs ++ [other p xs l, l])).sum % p = 0) -> ∃ (l : Int) (a' b' : D), l ∈ ls /\ (wts 1 (xs ++ [other p xs l, l])).sum % p = 0 /\
    forL (asgT lk (.name 2)) (exs ⟨lk, fok, fuel⟩ [.asg 3 (.bin .Mod (.bin .Sub (.bin .Sub (.k (.int 0)) (.bf .sum [.v 1])) (.v 2)) (.v 0)), .iff (.cmp .Eq (.call Zal [.v 0, .bin .Add (.v 1) (.lst [.v 3, .v 2])]) (.lst [.k (.int 0), .k (.int 0)])) [.ret (.bin .Add (.v 1) (.lst [.v 3, .v 2]))] []]) (dI ls) [I p, Ls true xs, a, b]
      = .ok (.rt (Ls true (xs ++ [other p xs l, l])), [I p, Ls true xs, a', b']) := by
  intro ls
  induction ls with
  | nil => rintro a b ⟨l, hm, _⟩; simp at hm
  | cons l ls ih =>
    intro a b hex
    have hz : (2 : Nat) <= sizeLine := by rw [szl]; decide
    have hn : ∀ u v : D, newL [u, v] = some (.node .lst true [u, v]) := fun u v => Zas _ (by simpa using hz)
    have hcat : ∀ u v : Int, binW .Add (.nd .lst (dI xs)) (.nd .lst [.sc (.int u), .sc (.int v)]) = some (Ls true (xs ++ [u, v])) := fun u v => by
      have := Zmj (dI xs) [.sc (.int u), .sc (.int v)] (by rw [List.length_append, ZP, szl]; show xs.length + 2 <= _; omega)
      rw [this, Ls, ZbB]
      rfl
    have l1 : Zal.lend = true := rfl
    have hs := Zis p (xs ++ [other p xs l, l]) true hp (by rw [List.length_append]; show xs.length + 2 <= _; omega)
    rw [ZpV] at hs
    have hq := fun u v : Int => ZiC [u, v] [0, 0]
    simp only [Zx, Zbd] at hq
    simp only [other] at hs ih hex ⊢
    rw [Zx, ZbA]
    by_cases hw : (wts 1 (xs ++ [(0 - xs.sum - l) % p, l])).sum % p = 0
    . refine ⟨l, .sc (.int l), .sc (.int ((0 - xs.sum - l) % p)), List.mem_cons_self, hw, ?_⟩
      rw [hw] at hs
      (repeat (first | walk_at "ev" | simp only [h2, h3, Zr, ZfX, ZF _ _ hp, hn, hcat, l1, hs, hq]))
    . obtain ⟨l', a', b', y1, y2, ih⟩ := ih (.sc (.int l)) (.sc (.int ((0 - xs.sum - l) % p))) (by
        obtain ⟨l', hm, h⟩ := hex
        (rcases List.mem_cons.mp hm with rfl | hm)
        . exact absurd h hw
        . exact ⟨l', hm, h⟩)
      refine ⟨l', a', b', List.mem_cons_of_mem _ y1, y2, ?_⟩
      rw [<- ih]
      have hd : decide ([(0 : Int), (wts 1 (xs ++ [(0 - xs.sum - l) % p, l])).sum % p] = [0, 0]) = false := by
        apply decide_eq_false
        intro h
        injection h with _ h
        injection h with h _
        exact hw h
      (repeat (first | walk_at "ev" | simp only [h2, h3, Zr, ZfX, ZF _ _ hp, hn, hcat, l1, hs, hq, hd]))
theorem Zni (p : Int) (xs : List Int) (_o : Bool) (hp : 0 < p) (h2 : p <= 47) (hl : xs.length <= 500) : ∃ l : Int, 0 <= l /\ l < p /\ (wts 1 (xs ++ [other p xs l, l])).sum % p = 0 /\ ZbZ.run [I p, Ls true xs] = .ok (Ls true (xs ++ [other p xs l, l]), [I p, Ls true xs]) := by
  obtain ⟨l0, q1, q2, q3⟩ := Zsd p xs hp
  have hr : itW .rng1 [.sc (.int p)] = some (dI (rngI 0 p.toNat)) := Zeu p (by omega)
  obtain ⟨l, a', b', y1, y2, hs⟩ := Zmr (fun j => decide (j < 2) || walked [.v 0] j) (fun _ _ => false) 0 rfl rfl p hp true xs hl (rngI 0 p.toNat) .hole .hole ⟨l0, (Zbs _ _ _).mpr (by omega), q3⟩
  rw [Zbs] at y1
  refine ⟨l, by omega, by omega, y2, ?_⟩
  rw [show ZbZ.run = Zi C0 2 4 Zcw from rfl]
  rw [runA (show [I p, Ls true xs].length = 2 from rfl)]
  unfold Zcw
  simp only [List.replicate, Nat.reduceSub]
  simp only [walked, Bool.or_false, Zx, Zbd] at hs
  (repeat (first | walk_at "ev" | simp only [hr, hs])) <;> rfl
theorem ZoK (i : Int) : tyW .int (.sc (.int i)) = some true := (rfl)
theorem ZoL (i : Int) : tyW .bool (.sc (.int i)) = some false := (rfl)
theorem ZoM (w : W) : bfW (.isi .int) [w] = (tyW .int w).map fun b => .sc (.bl b) := (rfl)
theorem Zuz (w : W) : bfW (.isi .list) [w] = (tyW .list w).map fun b => .sc (.bl b) := (rfl)
theorem Zu0 (ds : List D) : tyW .list (.nd .lst ds) = some true := (rfl)
theorem Zkh : isNW true (.sc .non) = .sc (.bl true) := (rfl)
theorem Zu1 (k : Kd) (ds : List D) : isNW true (.nd k ds) = .sc (.bl false) := (rfl)
theorem Zms (i : Int) : isNW true (.sc (.int i)) = .sc (.bl false) := (rfl)
theorem Znj (x : Int) : Zew.run [I x] = .ok (.sc (.bl true), [I x]) := by
  show Zi C0 1 1 Zd4 [I x] = _
  rw [runA (show [I x].length = 1 from rfl)]
  unfold Zd4
  simp only [List.replicate, Nat.reduceSub]
  repeat (first | walk_at "ev" | simp only [ZoM, ZoH, ZoK, ZoL])
  rfl
theorem ZpW (p x : Int) (h0 : 0 <= x) (h1 : x < p) : Zc2.run [I p, I x] = .ok (.sc (.bl true), [I p, I x]) := by
  show Zi C0 2 2 ZcS [I p, I x] = _
  rw [runA (show [I p, I x].length = 2 from rfl)]
  unfold ZcS
  simp only [List.replicate, Nat.reduceSub]
  have l1 : Zew.lend = true := rfl
  repeat (first | walk_at "ev" | simp only [l1, Znj, Zc1, h0, h1])
  rfl
theorem Zmt (h2 : lk 2 = false) (h3 : lk 3 = false) (p : Int) (X : D) : ∀ (xs : List Int) (c : Int) (a b : D), (∀ x ∈ xs, 0 <= x /\ x < p) -> ∃ a' b',
    forL (asgT lk (.tup [2, 3])) (exs ⟨lk, fok, fuel⟩ [.iff (.nt (.call Zc2 [.v 0, .v 3])) [.raise (.k .non)] []]) (Za3 c (dI xs)) [I p, X, a, b] = .ok (.nx, [I p, X, a', b']) := by
  intro xs
  induction xs with
  | nil => exact fun c a b _ => ⟨a, b, rfl⟩
  | cons x xs ih =>
    intro c a b hx
    obtain ⟨a', b', ih⟩ := ih (c + 1) (I c) (I x) fun y hy => hx y (List.mem_cons_of_mem _ hy)
    refine ⟨a', b', ?_⟩
    rw [<- ih, Zx, Za3, ZbA]
    have hr := ZpW p x (hx x List.mem_cons_self).1 (hx x List.mem_cons_self).2
    have l1 : Zc2.lend = true := rfl
    repeat (first | walk_at "ev" | simp only [h2, h3, ZfZ, l1, hr])
theorem ZjK (p : Int) (xs : List Int) (o : Bool) (hx : ∀ x ∈ xs, 0 <= x /\ x < p) : Zay.run [I p, Ls o xs] = .ok (.sc .non, [I p, Ls o xs]) := by
  show Zi C0 2 4 Zbt [I p, Ls o xs] = _
  rw [runA (show [I p, Ls o xs].length = 2 from rfl)]
  unfold Zbt
  simp only [List.replicate, Nat.reduceSub]
  have hs := fun X => Zmt (fun j => decide (j < 2) || walked [.v 1, .k (.int 0)] j) (fun _ _ => false) 0 rfl rfl p X xs 0 .hole .hole hx
  simp only [walked, Bool.or_false] at hs
  cases o
  . obtain ⟨a', b', hs⟩ := hs (Ls false xs)
    repeat (first | walk_at "ev" | simp only [Zr, it_e _ 0 (by decide), hs])
    rfl
  . obtain ⟨a', b', hs⟩ := hs .hole
    repeat (first | walk_at "ev" | simp only [Zr, it_e _ 0 (by decide), hs])
    rfl
theorem ZkU (h4 : lk 4 = false) (h5 : lk 5 = false) (h6 : lk 6 = false) (p ex wt : Int) (hp : 0 < p) (hp2 : p < 2 ^ 64) (hex : 0 <= ex /\ ex < p) (xs : List Int) (hl : xs.length <= 1000) (r : Nat) (hr : r < xs.length) (hkey : (((r : Int) + 1) * ex) % p = wt) (hun : ∀ i : Nat, i < r -> ((((i : Int) + 1) * ex) % p ≠ wt)) : ∀ (n i : Nat) (a b c : D), i <= r -> n = xs.length - i -> ∃ a' b' c',
    forL (asgT lk (.tup [4, 5])) (exs ⟨lk, fok, fuel⟩ [.iff (.cmp .Eq (.bin .Mod (.bin .Mult (.bin .Add (.v 4) (.k (.int 1))) (.v 2)) (.v 0)) (.v 3)) [.asg 6 (.bf .list [.v 1]), .sub 6 [] (.v 4) (.bin .Mod (.bin .Sub (.v 5) (.v 2)) (.v 0)), .ret (.v 6)] []]) (Za3 i (dI (xs.drop i))) [I p, Ls false xs, I ex, I wt, a, b, c]
      = .ok (.rt (Ls true (xs.set r ((xs.getD r 0 - ex) % p))), [I p, Ls false xs, I ex, I wt, a', b', c']) := by
  intro n
  induction n with
  | zero => intro i a b c hi hn; omega
  | succ n ih =>
    intro i a b c hi hn
    (have hlt : i < xs.length := by omega)
    rw [List.drop_eq_getElem_cons hlt, Zx, Za3, ZbA]
    have hm : ∀ u : Int, binW .Mult (.sc (.int u)) (.sc (.int ex)) = some (.sc (.int (u * ex))) := fun u => ZbO _ _ (.inr (by omega))
    by_cases hk : ((((i : Int) + 1) * ex) % p = wt)
    . have hir : i = r := by
        rcases Nat.lt_or_ge i r with h | h
        . exact absurd hk (hun i h)
        . omega
      subst hir
      have hix : ixN' (dI xs).length (i : Int) = some i := Zc0 _ _ (by rw [ZP]; exact hlt)
      have hs : ∀ (δ : List D) (d : D), mdR 6 δ (ZaL (.sc (.int (i : Int))) d) (some (.node .lst true (dI xs))) = .ok (.sc .non, δ.set 6 (.node .lst true ((dI xs).set i d))) := fun δ d => ZcP 6 δ d _ _ _ hix
      have hset : ∀ v : Int, (dI xs).set i (.sc (.int v)) = dI (xs.set i v) := fun v => by exact List.map_set.symm
      have hg : xs.getD i 0 = xs[i] := by rw [List.getD_eq_getElem?_getD, List.getElem?_eq_getElem hlt]; rfl
      rw [hg]
      refine ⟨I i, I xs[i], .hole, ?_⟩
      repeat (first | walk_at "ev" | simp only [h4, h5, h6, ZfZ, hm, ZF _ _ hp, hk, hs, hset, Zr])
    . have hne : i ≠ r := fun h => hk (by rw [h]; exact hkey)
      obtain ⟨a', b', c', ih⟩ := ih (i + 1) (I i) (I xs[i]) c (by omega) (by omega)
      refine ⟨a', b', c', ?_⟩
      have e1 : ((i + 1 : Nat) : Int) = (i : Int) + 1 := by omega
      rw [e1] at ih
      rw [<- ih]
      repeat (first | walk_at "ev" | simp only [h4, h5, h6, ZfZ, hm, ZF _ _ hp, hk, V.int.injEq])
theorem Zlq (p : Int) (xs : List Int) (hp : 0 < p) (hp2 : p < 2 ^ 64) (hl : xs.length <= 1000) (r : Nat) (hr : r < xs.length) (hkey : (((r : Int) + 1) * (xs.sum % p)) % p = (wts 1 xs).sum % p) (hun : ∀ i : Nat, i < r -> ((((i : Int) + 1) * (xs.sum % p)) % p ≠ (wts 1 xs).sum % p)) :
    ZR.run [I p, Ls false xs] = .ok (Ls true (xs.set r ((xs.getD r 0 - xs.sum % p) % p)), [I p, Ls false xs]) := by
  show Zi C0 2 7 Zam [I p, Ls false xs] = _
  rw [runA (show [I p, Ls false xs].length = 2 from rfl)]
  unfold Zam
  simp only [List.replicate, Nat.reduceSub]
  have l1 : ZG.lend = true := rfl
  have l2 : ZO.lend = true := rfl
  have r1 := fun o => ZbG p xs o hp
  have r2 := fun o => ZdG p xs o hp hl
  obtain ⟨a', b', c', hs⟩ := ZkU (fun j => decide (j < 2) || walked [.v 1, .k (.int 0)] j) (fun _ _ => false) 0 rfl rfl rfl p (xs.sum % p) ((wts 1 xs).sum % p) hp hp2 ⟨Int.emod_nonneg _ (by omega), Int.emod_lt_of_pos _ hp⟩ xs hl r hr hkey hun xs.length 0 .hole .hole .hole (by omega) (by omega)
  rw [List.drop_zero] at hs
  simp only [walked, Bool.or_false] at hs
  have e0 : ((0 : Nat) : Int) = 0 := rfl
  rw [e0] at hs
  repeat (first | walk_at "ev" | simp only [l1, l2, r1, r2, Zr, it_e _ 0 (by decide), hs])
  rfl
theorem Zjy : ∀ (ys : List Int) (r : Nat) (v : Int), r < ys.length -> (ys.set r v).sum = ys.sum + (v - ys.getD r 0)
  | [], r, v, h => by simp at h
  | y :: ys, 0, v, _ => by simp only [List.set_cons_zero, List.sum_cons, List.getD_cons_zero]; omega
  | y :: ys, r + 1, v, h => by
    have := Zjy ys r v (by simpa using h)
    simp only [List.set_cons_succ, List.sum_cons, List.getD_cons_succ]
    omega
theorem ZlG : ∀ (ys : List Int) (r : Nat) (v c : Int), r < ys.length -> (wts c (ys.set r v)).sum = (wts c ys).sum + (c + r) * (v - ys.getD r 0)
  | [], r, v, c, h => by simp at h
  | y :: ys, 0, v, c, _ => by
    simp only [List.set_cons_zero, wts, List.sum_cons, List.getD_cons_zero]
    rw [Int.mul_sub, show c + ((0 : Nat) : Int) = c by omega]
    omega
  | y :: ys, r + 1, v, c, h => by
    have := ZlG ys r v (c + 1) (by simpa using h)
    simp only [List.set_cons_succ, wts, List.sum_cons, List.getD_cons_succ]
    rw [this, show c + 1 + (r : Int) = c + ((r + 1 : Nat) : Int) by omega]
    omega
theorem Zu2 : ∀ p ∈ [5, 7, 11, 13, 17, 19, 23, 29, 31, 37, 41, 43, 47], ∀ a ∈ List.range p, ∀ b ∈ List.range p, a ≠ 0 -> b ≠ 0 -> a * b % p ≠ 0 := by walk_at "d"
theorem ZiV (p : Int) (hp : p ∈ PR) (a b : Int) (h1 : 0 < a) (h2 : a < p) (h3 : 0 < b) (h4 : b < p) : a * b % p ≠ 0 := by
  obtain ⟨m, hm⟩ : ∃ m : Nat, p = m := ⟨p.toNat, by omega⟩
  obtain ⟨i, hi⟩ : ∃ i : Nat, a = i := ⟨a.toNat, by omega⟩
  obtain ⟨j, hj⟩ : ∃ j : Nat, b = j := ⟨b.toNat, by omega⟩
  subst hm hi hj
  have hin : m ∈ [5, 7, 11, 13, 17, 19, 23, 29, 31, 37, 41, 43, 47] := by
    simp only [PR, List.mem_cons, List.not_mem_nil, or_false] at hp ⊢
    omega
  have z := Zu2 m hin i (List.mem_range.mpr (by omega)) j (List.mem_range.mpr (by omega)) (by omega) (by omega)
  intro e
  apply z
  have e2 : ((i * j % m : Nat) : Int) = 0 := by rw [Int.natCast_emod, Int.natCast_mul]; exact e
  omega
theorem Zit {p : Int} {xs : List Int} : good p xs = true ↔ xs.sum % p = 0 /\ (wts 1 xs).sum % p = 0 := by simp [good]
theorem Znk (p : Int) (hp : p ∈ PR) (a b : Int) (h1 : a ≠ 0) (h2 : -p < a) (h3 : a < p) (h4 : b ≠ 0) (h5 : -p < b) (h6 : b < p) : a * b % p ≠ 0 := fun e => by
  have d := Int.dvd_of_emod_eq_zero e
  rcases Int.lt_or_gt_of_ne h1 with u | u <;> rcases Int.lt_or_gt_of_ne h4 with v | v
  . have := ZiV p hp (-a) (-b) (by omega) (by omega) (by omega) (by omega)
    rw [Int.neg_mul_neg] at this
    exact this e
  . have := ZiV p hp (-a) b (by omega) (by omega) (by omega) (by omega)
    rw [Int.neg_mul] at this
    exact this (Int.emod_eq_zero_of_dvd (Int.dvd_neg.mpr d))
  . have := ZiV p hp a (-b) (by omega) (by omega) (by omega) (by omega)
    rw [Int.mul_neg] at this
    exact this (Int.emod_eq_zero_of_dvd (Int.dvd_neg.mpr d))
  . exact ZiV p hp a b (by omega) (by omega) (by omega) (by omega) e
theorem Zok {p : Int} {ys : List Int} (hs : ∀ y ∈ ys, 0 <= y /\ y < p) {r : Nat} (hr : r < ys.length) : 0 <= ys.getD r 0 /\ ys.getD r 0 < p := by
  rw [List.getD_eq_getElem?_getD, List.getElem?_eq_getElem hr]
  exact hs _ (List.getElem_mem hr)
theorem Zu3 (xs ys : List Int) : Zb5 .NotEq (.nd .lst (dI xs)) (.nd .lst (dI ys)) = some (!decide (xs = ys)) := by
  have h2 : eqW (.nd .lst (dI xs)) (.nd .lst (dI ys)) = some (decide (xs = ys)) := ZiC xs ys
  show (eqW (.nd .lst (dI xs)) (.nd .lst (dI ys))).map (!·) = _
  rw [h2]
  rfl
theorem Zol (h0 : lk 0 = false) (p q : Int) (hp : 0 < p) : ∀ (ss acc : List Int) (a : D), ∃ a',
    ZaM (asgT lk (.name 0)) (tsts ⟨lk, fok, fuel⟩ [.cmp .Eq (.bin .Mod (.bin .Mult (.v 0) (.v 3)) (.v 2)) (.v 1)]) (evb ⟨lk, fok, fuel⟩ (.v 0)).1 (dI ss) (dI acc) [a, I q, I p, I 1] = .ok (dI (acc ++ ss.filter fun s => decide (s % p = q)), [a', I q, I p, I 1]) := by
  intro ss
  induction ss with
  | nil => exact fun acc a => ⟨a, by rw [List.filter_nil, List.append_nil]; rfl⟩
  | cons s ss ih =>
    intro acc a
    have hm : binW .Mult (.sc (.int s)) (.sc (.int 1)) = some (.sc (.int (s * 1))) := ZbO _ _ (.inr (by decide))
    rw [Zx, Zd3]
    by_cases h : s % p = q
    . obtain ⟨a', ih⟩ := ih (acc ++ [s]) (I s)
      refine ⟨a', ?_⟩
      have e : acc ++ (s :: ss).filter (fun s => decide (s % p = q)) = acc ++ [s] ++ ss.filter (fun s => decide (s % p = q)) := by
        rw [List.filter_cons_of_pos (by simpa using h)]
        simp
      rw [e, <- ih, ZbB]
      repeat (first | walk_at "ev" | simp only [h0, hm, Int.mul_one, ZF _ _ hp, h, V.int.injEq])
    . obtain ⟨a', ih⟩ := ih acc (I s)
      refine ⟨a', ?_⟩
      rw [List.filter_cons_of_neg (by simpa using h), <- ih]
      repeat (first | walk_at "ev" | simp only [h0, hm, Int.mul_one, ZF _ _ hp, h, V.int.injEq])
theorem ZpX (p q : Int) (hp : 0 < p) (hp2 : p <= 1000) (h0 : 0 <= q) (h1 : q < p) : Zcg.run [I p, I q, I 1] = .ok (I q, [I p, I q, I 1]) := by
  show Zi C0 3 3 ZbI [I p, I q, I 1] = _
  rw [runA (show [I p, I q, I 1].length = 3 from rfl)]
  unfold ZbI
  simp only [List.replicate, Nat.reduceSub]
  obtain ⟨a', hc⟩ := Zol (fun i => decide (1 <= i)) (fun _ _ => false) 0 rfl p q hp (rngI 0 p.toNat) [] .hole
  rw [List.nil_append] at hc
  have hall : ∀ s ∈ (rngI 0 p.toNat).filter (fun s => decide (s % p = q)), s = q := fun s hs => by
    rw [List.mem_filter, Zbs] at hs
    obtain ⟨⟨b1, b2⟩, b3⟩ := hs
    rw [decide_eq_true_eq, Int.emod_eq_of_lt b1 (by omega)] at b3
    exact b3
  have hin : q ∈ (rngI 0 p.toNat).filter (fun s => decide (s % p = q)) := by
    rw [List.mem_filter, Zbs, decide_eq_true_eq, Int.emod_eq_of_lt h0 h1]
    exact ⟨⟨h0, by omega⟩, rfl⟩
  have hlen : ((rngI 0 p.toNat).filter (fun s => decide (s % p = q))).length <= p.toNat := by
    have := List.length_filter_le (fun s => decide (s % p = q)) (rngI 0 p.toNat)
    rwa [Zcc] at this
  generalize (rngI 0 p.toNat).filter (fun s => decide (s % p = q)) = L at hc hall hin hlen
  cases L with
  | nil => simp at hin
  | cons s L =>
    obtain rfl := hall s List.mem_cons_self
    replace hc : Zb0 (fun _ _ => false) 0 1 (.name 0) [.cmp .Eq (.bin .Mod (.bin .Mult (.v 0) (.v 3)) (.v 2)) (.v 1)] (.v 0) (dI (rngI 0 p.toNat)) [] [.hole, I s, I p, I 1] = _ := hc
    have hm : Zb6 1 [1, 0, 2] (Zb0 (fun _ _ => false) 0 1 (.name 0) [.cmp .Eq (.bin .Mod (.bin .Mult (.v 0) (.v 3)) (.v 2)) (.v 1)] (.v 0) (dI (rngI 0 p.toNat)) []) [I p, I s, I 1] = .ok (Ls true (s :: L), [I p, I s, I 1]) := by
      rw [ZbH (js := [1, 0, 2]) (caps := [I s, I p, I 1]) (δ1 := [.hole, .hole, .hole]) rfl hc (by rw [ZP, szl]; omega)]
      rfl
    have hr := Zeu p (by omega)
    have hi := ixI (s :: L) 0 (by decide) (by rw [List.length_cons]; omega)
    have hg : (s :: L).getD (0 : Int).toNat 0 = s := rfl
    rw [hg] at hi
    generalize s :: L = M at hm hi
    repeat (first | walk_at "ev" | simp only [hr, hm, hi])
    rfl
noncomputable def lst2 (p : Int) (xs : List Int) : Int := (((xs.length : Int) + 1) * xs.sum - (wts 1 xs).sum) % p
noncomputable def lab (p : Int) (xs : List Int) : List Int := xs ++ [other p xs (lst2 p xs), lst2 p xs]
theorem Zu4 (xs : List Int) : (xs ++ [0, 0]).sum = xs.sum := by simp
theorem Zu5 (xs : List Int) : (wts 1 (xs ++ [0, 0])).sum = (wts 1 xs).sum := by rw [ZlF]; simp [wts]
theorem ZpY (p : Int) (xs : List Int) (_o : Bool) (hp : 0 < p) (hp2 : p <= 1000) (hl : xs.length <= 500) : Z9.run [I p, Ls true (xs ++ [0, 0]), I xs.length, I ((xs.length : Int) + 1)] = .ok (Ls true (lab p xs), [I p, Ls true (xs ++ [0, 0]), I xs.length, I ((xs.length : Int) + 1)]) := by
  rw [show Z9.run = Zi C0 4 7 Zao from rfl]
  rw [runA (show [I p, Ls true (xs ++ [0, 0]), I xs.length, I ((xs.length : Int) + 1)].length = 4 from rfl)]
  unfold Zao
  simp only [List.replicate, Nat.reduceSub]
  have hlen : (xs ++ [(0 : Int), 0]).length <= 1000 := by rw [List.length_append]; show xs.length + 2 <= _; omega
  have l1 : ZG.lend = true := rfl
  have l2 : ZO.lend = true := rfl
  have l3 : Zcg.lend = true := rfl
  have r1 := fun o => ZbG p (xs ++ [0, 0]) o hp
  have r2 := fun o => ZdG p (xs ++ [0, 0]) o hp hlen
  have r4 := fun o => ZbG p (xs ++ [0, lst2 p xs]) o hp
  rw [Zu4] at r1
  rw [Zu5] at r2
  have hq : (((xs.length : Int) + 1) * (xs.sum % p) - (wts 1 xs).sum % p) % p = lst2 p xs := by
    unfold lst2
    rw [Int.sub_emod, Int.mul_emod, Int.emod_emod, Int.emod_emod, <- Int.mul_emod, <- Int.sub_emod]
  have r3 := ZpX p (lst2 p xs) hp hp2 (Int.emod_nonneg _ (by omega)) (Int.emod_lt_of_pos _ hp)
  have hd : (xs.length : Int) + 1 - xs.length = 1 := by omega
  have ho : -((xs ++ [0, lst2 p xs]).sum % p) % p = other p xs (lst2 p xs) := by
    unfold other
    rw [<- Int.zero_sub, Int.sub_emod, Int.emod_emod, <- Int.sub_emod]
    congr 1
    simp only [List.sum_append, List.sum_cons, List.sum_nil]
    omega
  have hm : ∀ u : Int, binW .Mult (.sc (.int ((xs.length : Int) + 1))) (.sc (.int u)) = some (.sc (.int (((xs.length : Int) + 1) * u))) := fun u => ZbO _ _ (.inl (by omega))
  have hi1 : ixN' (dI (xs ++ [(0 : Int), 0])).length ((xs.length : Int) + 1) = some (xs.length + 1) := by
    have := Zc0 (dI (xs ++ [(0 : Int), 0])).length (xs.length + 1) (by rw [ZP, List.length_append]; show xs.length + 1 < xs.length + 2; omega)
    rwa [show ((xs.length + 1 : Nat) : Int) = (xs.length : Int) + 1 by omega] at this
  have hi2 : ixN' (dI (xs ++ [0, lst2 p xs])).length (xs.length : Int) = some xs.length := Zc0 _ _ (by rw [ZP, List.length_append]; show xs.length < xs.length + 2; omega)
  have s1 : ∀ (δ : List D) (v : Int), mdR 6 δ (ZaL (.sc (.int ((xs.length : Int) + 1))) (.sc (.int v))) (some (.node .lst true (dI (xs ++ [0, 0])))) = .ok (.sc .non, δ.set 6 (Ls true (xs ++ [0, v]))) := fun δ v => by
    rw [ZcP 6 δ _ _ _ _ hi1]
    have : (dI (xs ++ [0, 0])).set (xs.length + 1) (.sc (.int v)) = dI (xs ++ [0, v]) := by
      rw [ZbB, List.set_append_right _ _ (by rw [ZP]; omega), ZP, ZbB, show xs.length + 1 - xs.length = 1 by omega]
      rfl
    rw [this]
  have s2 : ∀ (δ : List D) (v : Int), mdR 6 δ (ZaL (.sc (.int (xs.length : Int))) (.sc (.int v))) (some (.node .lst true (dI (xs ++ [0, lst2 p xs])))) = .ok (.sc .non, δ.set 6 (Ls true (xs ++ [v, lst2 p xs]))) := fun δ v => by
    rw [ZcP 6 δ _ _ _ _ hi2]
    have : (dI (xs ++ [0, lst2 p xs])).set xs.length (.sc (.int v)) = dI (xs ++ [v, lst2 p xs]) := by
      rw [ZbB, List.set_append_right _ _ (by rw [ZP]; omega), ZP, ZbB, show xs.length - xs.length = 0 by omega]
      rfl
    rw [this]
  (repeat (first | walk_at "ev" | simp only [Zr, l1, l2, l3, r1, r2, r3, r4, hm, ZF _ _ hp, hq, hd, ho, s1, s2])) <;> rfl
theorem ZkV (p : Int) (xs : List Int) (_o : Bool) (hp : 0 < p) (hp2 : p <= 1000) (hl : (xs.length : Int) <= p - 2) (hl2 : xs.length <= 500) (hx : ∀ x ∈ xs, 0 <= x /\ x < p) : Zai.run [I p, Ls true xs] = .ok (Ls true (lab p xs), [I p, Ls true xs]) := by
  rw [show Zai.run = Zi C0 2 3 Zd5 from rfl]
  rw [runA (show [I p, Ls true xs].length = 2 from rfl)]
  unfold Zd5
  simp only [List.replicate, Nat.reduceSub]
  have l1 : Zay.lend = true := rfl
  have l2 : Z9.lend = true := rfl
  have r1 := fun o => ZjK p xs o hx
  have r2 := ZpY p xs true hp hp2 hl2
  have hz : (2 : Nat) <= sizeLine := by rw [szl]; decide
  have hn : ∀ u v : D, newL [u, v] = some (.node .lst true [u, v]) := fun u v => Zas _ (by simpa using hz)
  have hcat : binW .Add (.nd .lst (dI xs)) (.nd .lst [.sc (.int 0), .sc (.int 0)]) = some (Ls true (xs ++ [0, 0])) := by
    rw [Zmj (dI xs) [.sc (.int 0), .sc (.int 0)] (by rw [List.length_append, ZP, szl]; show xs.length + 2 <= _; omega), Ls, ZbB]
    rfl
  have hlt : ¬ p - 2 < (xs.length : Int) := by omega
  have hdl := ZP xs
  (repeat (first | walk_at "ev" | simp only [Zr, l1, l2, r1, r2, hn, hcat, hdl, hlt])) <;> rfl
theorem ZpZ (p : Int) (hp : 0 < p) (xs : List Int) (hx : ∀ x ∈ xs, 0 <= x /\ x < p) : ∀ y ∈ lab p xs, 0 <= y /\ y < p := fun y hy => by
  rcases List.mem_append.mp hy with h | h
  . exact hx y h
  . simp only [List.mem_cons, List.not_mem_nil, or_false] at h
    rcases h with rfl | rfl
    . exact ⟨Int.emod_nonneg _ (by omega), Int.emod_lt_of_pos _ hp⟩
    . exact ⟨Int.emod_nonneg _ (by omega), Int.emod_lt_of_pos _ hp⟩
theorem Zqa (p : Int) (xs : List Int) : (lab p xs).length = xs.length + 2 := by unfold lab; rw [List.length_append]; rfl
theorem Znl (h0 : lk 0 = false) (p : Int) (hp : 0 < p) (ns : List Int) : ∀ (n i : Nat) (acc : List Int) (a : D), (∀ y ∈ acc, 0 <= y /\ y < p) -> ∃ (ys : List Int) (a' : D), ys.length = acc.length + n /\ (∀ y ∈ ys, 0 <= y /\ y < p) /\
    ZaM (asgT lk (.name 0)) (tsts ⟨lk, fok, fuel⟩ []) (evb ⟨lk, fok, fuel⟩ (.bin .Mod (.call ZZ [.v 2, .bin .Add (.k (.int 3)) (.v 0)]) (.v 1))).1 (dI (rngI i n)) (dI acc) [a, I p, scr ns] = .ok (dI ys, [a', I p, scr ns]) := by
  intro n
  induction n with
  | zero => exact fun i acc a ha => ⟨acc, a, rfl, ha, rfl⟩
  | succ n ih =>
    intro i acc a ha
    have hr := ZhM ns (3 + i)
    have e3 : ((3 + i : Nat) : Int) = 3 + (i : Int) := by omega
    rw [e3] at hr
    obtain ⟨ys, a', hy, hs, ih⟩ := ih (i + 1) (acc ++ [ns.getD (3 + i) 0 % p]) (I i) (fun y hy => by
      rcases List.mem_append.mp hy with h | h
      . exact ha y h
      . rw [List.mem_singleton.mp h]
        exact ⟨Int.emod_nonneg _ (by omega), Int.emod_lt_of_pos _ hp⟩)
    refine ⟨ys, a', by rw [hy, List.length_append, List.length_singleton]; omega, hs, ?_⟩
    have e1 : ((i + 1 : Nat) : Int) = (i : Int) + 1 := by omega
    rw [e1, ZbB] at ih
    rw [<- ih, rngI, Zx, Zd3]
    have l1 : ZZ.lend = true := rfl
    simp only [scr] at hr
    repeat (first | walk_at "ev" | simp only [h0, l1, hr, ZF _ _ hp])
theorem Zjz (h4 : lk 4 = false) (h5 : lk 5 = false) (p ex wt : Int) (hp : 0 < p) (hp2 : p < 2 ^ 64) (hex : 0 <= ex /\ ex < p) (X : D) : ∀ (xs : List Int) (i : Nat) (a b c : D), (∀ j : Nat, i <= j -> j < i + xs.length -> ((((j : Int) + 1) * ex) % p ≠ wt)) -> ∃ a' b',
    forL (asgT lk (.tup [4, 5])) (exs ⟨lk, fok, fuel⟩ [.iff (.cmp .Eq (.bin .Mod (.bin .Mult (.bin .Add (.v 4) (.k (.int 1))) (.v 2)) (.v 0)) (.v 3)) [.asg 6 (.bf .list [.v 1]), .sub 6 [] (.v 4) (.bin .Mod (.bin .Sub (.v 5) (.v 2)) (.v 0)), .ret (.v 6)] []]) (Za3 i (dI xs)) [I p, X, I ex, I wt, a, b, c]
      = .ok (.nx, [I p, X, I ex, I wt, a', b', c]) := by
  intro xs
  induction xs with
  | nil => exact fun i a b c _ => ⟨a, b, rfl⟩
  | cons x xs ih =>
    intro i a b c hn
    have hm : ∀ u : Int, binW .Mult (.sc (.int u)) (.sc (.int ex)) = some (.sc (.int (u * ex))) := fun u => ZbO _ _ (.inr (by omega))
    have hk := hn i (Nat.le_refl _) (by rw [List.length_cons]; omega)
    obtain ⟨a', b', ih⟩ := ih (i + 1) (I i) (I x) c fun j h1 h2 => hn j (by omega) (by rw [List.length_cons]; omega)
    refine ⟨a', b', ?_⟩
    have e1 : ((i + 1 : Nat) : Int) = (i : Int) + 1 := by omega
    rw [e1] at ih
    rw [<- ih, Zx, Za3, ZbA]
    repeat (first | walk_at "ev" | simp only [h4, h5, ZfZ, hm, ZF _ _ hp, hk, V.int.injEq])
noncomputable abbrev SP : D := .node (.exc ["Spoilt", "LabelError"] false []) true []
theorem Zf9 (p : Int) (xs : List Int) (hp : 0 < p) (hp2 : p < 2 ^ 64) (hl : xs.length <= 1000) (hun : ∀ i : Nat, i < xs.length -> ((((i : Int) + 1) * (xs.sum % p)) % p ≠ (wts 1 xs).sum % p)) :
    ZR.run [I p, Ls false xs] = .exc SP [I p, Ls false xs] := by
  show Zi C0 2 7 Zam [I p, Ls false xs] = _
  rw [runA (show [I p, Ls false xs].length = 2 from rfl)]
  unfold Zam
  simp only [List.replicate, Nat.reduceSub]
  have l1 : ZG.lend = true := rfl
  have l2 : ZO.lend = true := rfl
  have r1 := fun o => ZbG p xs o hp
  have r2 := fun o => ZdG p xs o hp hl
  obtain ⟨a', b', hs⟩ := Zjz (fun j => decide (j < 2) || walked [.v 1, .k (.int 0)] j) (fun _ _ => false) 0 rfl rfl p (xs.sum % p) ((wts 1 xs).sum % p) hp hp2 ⟨Int.emod_nonneg _ (by omega), Int.emod_lt_of_pos _ hp⟩ (Ls false xs) xs 0 .hole .hole .hole fun j _ h => hun j (by omega)
  simp only [walked, Bool.or_false] at hs
  have e0 : ((0 : Nat) : Int) = 0 := rfl
  rw [e0] at hs
  repeat (first | walk_at "ev" | simp only [l1, l2, r1, r2, Zr, it_e _ 0 (by decide), hs])
  rfl
noncomputable def excR (x : D) : Rs (Unit × List D) -> Rs (D × List D)
  | .ok (_, δ') => .exc x δ'
  | _ => .stuck
theorem Zki {ps : List Op} {x : D} {ds' δ : List D} : cxR ps δ (.exc x ds') = excR x (Zaj ps ds' δ) := by
  show (match Zaj ps ds' δ with | .ok (_, δ') => Rs.exc x δ' | _ => .stuck) = _
  unfold excR
  cases Zaj ps ds' δ <;> rfl
theorem ZhN (x : D) (u : Unit) (δ : List D) : excR x (.ok (u, δ)) = .exc x δ := (rfl)
theorem Zse {lk : Nat -> Bool} {body suite : M Fl} {c : Str} {nm : Option Nat} {δ : List D} {r : Fl × List D} (h : body δ = .ok r) : tryM lk body c nm suite δ = .ok r := by
  unfold tryM
  rw [h]
theorem Zqb {lk : Nat -> Bool} {body suite : M Fl} {c : Str} {i : Nat} {δ δ' : List D} {x : D} (h : body δ = .exc x δ') (hh : hits c x = true) (hi : i < δ'.length) (hl : lk i = false) : tryM lk body c (some i) suite δ = Zme i (suite (δ'.set i x)) := by
  unfold tryM
  rw [h]
  dsimp only
  rw [if_pos hh, if_pos (by rw [hl, decide_eq_true hi]; rfl)]
theorem Zom (i : Nat) (f : Fl) (δ : List D) : Zme i (.ok (f, δ)) = .ok (f, δ.set i .hole) := (rfl)
noncomputable abbrev SPs : D := .node (.exc ["Spoilt", "LabelError"] false []) false []
set_option maxRecDepth 100000 in
theorem Znm : Zcx.run [SPs] = .ok (.sc (.bl false), [SPs]) := by kernel_rfl
theorem Zsf : Zb5 .NotEq (.nd .tup [.sc (.int 3), .sc .non]) (.nd .tup [.sc (.int 3), .sc .non]) = some false := by kernel_rfl
theorem ZjL (ys : List Int) : (PyData.tuple [.int 0, .list (ys.map PyData.int)]).canLay0 = true /\ (PyData.tuple [.int 0, .list (ys.map PyData.int)]).depth <= 64 := by
  simp only [PyData.canLay0, PyData.canLayAll0, PyData.depth, PyData.depthAll, Zij, Zhp]
  decide
theorem Zu6 (ys : List Int) : Zb5 .NotEq (.nd .tup [.sc (.int 0), .node .lst false (dI ys)]) (.nd .tup [.sc (.int 0), .node .lst false (dI ys)]) = some false := by
  show ((py (.node .tup false [.sc (.int 0), .node .lst false (dI ys)])).bind (fun a => (py (.node .tup false [.sc (.int 0), .node .lst false (dI ys)])).bind fun b => eqPy a b)).map (!·) = _
  simp only [py, pyL, Zii, Option.map_some, Option.bind_some]
  unfold eqPy
  have sh : SeqAt.shaped (PyData.tuple [.int 0, .list (ys.map PyData.int)]) = true := by
    simp only [SeqAt.shaped, (ZjL ys).1, (ZjL ys).2, decide_true, Bool.and_self]
  rw [if_pos ⟨sh, sh⟩]
  simp [PyData.eqv, PyData.eqvAll, Zik]
theorem ZfS (i : Nat) (δ : List D) (v : Int) (zs : List Int) (r : Int) (h0 : 0 <= r) (h1 : r < zs.length) : mdR i δ (ZaL (.sc (.int r)) (.sc (.int v))) (some (.node .lst true (dI zs))) = .ok (.sc .non, δ.set i (.node .lst true (dI (zs.set r.toNat v)))) := by
  rw [ZcP i δ _ (dI zs) r r.toNat (by
    have := Zc0 (dI zs).length r.toNat (by rw [ZP]; omega)
    rwa [Int.toNat_of_nonneg h0] at this)]
  congr 4
  exact List.map_set.symm
noncomputable def oD : Option Int -> D
  | some x => .sc (.int x)
  | none => .sc .non
noncomputable abbrev dO (os : List (Option Int)) : List D := os.map oD
noncomputable abbrev Lo (o : Bool) (os : List (Option Int)) : D := .node .lst o (dO os)
theorem ZgK (o : Option Int) (os : List (Option Int)) : dO (o :: os) = oD o :: dO os := (rfl)
theorem Zgm (os : List (Option Int)) : (dO os).length = os.length := List.length_map _
theorem oD_n : oD none = .sc .non := (rfl)
theorem oD_s (x : Int) : oD (some x) = .sc (.int x) := (rfl)
theorem Zah (os : List (Option Int)) : shrL (dO os) = dO os := by
  induction os with
  | nil => rfl
  | cons o os ih => simp only [List.map_cons, shrL] at ih ⊢; rw [ih]; cases o <;> rfl
theorem Zsg (os : List (Option Int)) (r : Nat) : (dO os).set r (.sc .non) = dO (os.set r none) := by
  show _ = List.map oD _
  rw [List.map_set]
  rfl
theorem Zqc (xs : List Int) : dI xs = dO (xs.map some) := by
  induction xs with
  | nil => rfl
  | cons x xs ih => rw [Zx, ih]; rfl
theorem Zqd (o : Bool) (xs : List Int) : Lo o (xs.map some) = Ls o xs := by
  unfold Lo Ls
  rw [Zqc]
noncomputable def fill (os : List (Option Int)) : List Int := os.map fun o => o.getD 0
noncomputable def holes : Int -> List (Option Int) -> List Int
  | _, [] => []
  | c, some _ :: os => holes (c + 1) os
  | c, none :: os => c :: holes (c + 1) os
theorem ZjM (h0 : lk 0 = false) : ∀ (os : List (Option Int)) (acc : List Int) (a : D), ∃ a',
    ZaM (asgT lk (.name 0)) (tsts ⟨lk, fok, fuel⟩ []) (evb ⟨lk, fok, fuel⟩ (.ife (.isN true (.v 0)) (.k (.int 0)) (.v 0))).1 (dO os) (dI acc) [a] = .ok (dI (acc ++ fill os), [a']) := by
  intro os
  induction os with
  | nil => exact fun acc a => ⟨a, by rw [show fill [] = [] from rfl, List.append_nil]; rfl⟩
  | cons o os ih =>
    intro acc a
    cases o with
    | none =>
      obtain ⟨a', ih⟩ := ih (acc ++ [0]) (.sc .non)
      refine ⟨a', ?_⟩
      have e : acc ++ fill (none :: os) = acc ++ [0] ++ fill os := by rw [List.append_assoc]; rfl
      rw [e, <- ih, ZgK, Zd3, ZbB, oD_n]
      repeat (first | walk_at "ev" | simp only [h0, Zkh])
    | some x =>
      obtain ⟨a', ih⟩ := ih (acc ++ [x]) (I x)
      refine ⟨a', ?_⟩
      have e : acc ++ fill (some x :: os) = acc ++ [x] ++ fill os := by rw [List.append_assoc]; rfl
      rw [e, <- ih, ZgK, Zd3, ZbB, oD_s]
      repeat (first | walk_at "ev" | simp only [h0, Zms])
theorem Znn (h0 : lk 0 = false) (h1 : lk 1 = false) : ∀ (os : List (Option Int)) (c : Int) (acc : List Int) (a b : D), ∃ a' b',
    ZaM (asgT lk (.tup [0, 1])) (tsts ⟨lk, fok, fuel⟩ [.isN true (.v 1)]) (evb ⟨lk, fok, fuel⟩ (.v 0)).1 (Za3 c (dO os)) (dI acc) [a, b] = .ok (dI (acc ++ holes c os), [a', b']) := by
  intro os
  induction os with
  | nil => exact fun c acc a b => ⟨a, b, by rw [show holes c [] = [] from rfl, List.append_nil]; rfl⟩
  | cons o os ih =>
    intro c acc a b
    cases o with
    | none =>
      obtain ⟨a', b', ih⟩ := ih (c + 1) (acc ++ [c]) (I c) (.sc .non)
      refine ⟨a', b', ?_⟩
      have e : acc ++ holes c (none :: os) = acc ++ [c] ++ holes (c + 1) os := by rw [List.append_assoc]; rfl
      rw [e, <- ih, ZgK, Za3, Zd3, ZbB, oD_n]
      repeat (first | walk_at "ev" | simp only [h0, h1, ZfZ, Zkh])
    | some x =>
      obtain ⟨a', b', ih⟩ := ih (c + 1) acc (I c) (I x)
      refine ⟨a', b', ?_⟩
      rw [show holes c (some x :: os) = holes (c + 1) os from rfl, <- ih, ZgK, Za3, Zd3, oD_s]
      repeat (first | walk_at "ev" | simp only [h0, h1, ZfZ, Zms])
theorem Zg2 : ∀ (os : List (Option Int)) (c : Int), (holes c os).length <= os.length
  | [], c => Nat.le_refl _
  | some _ :: os, c => by have := Zg2 os (c + 1); rw [holes, List.length_cons]; omega
  | none :: os, c => by have := Zg2 os (c + 1); rw [holes, List.length_cons, List.length_cons]; omega
theorem Zfh : ∀ (os : List (Option Int)) (c x : Int), x ∈ holes c os -> c <= x /\ x < c + os.length /\ os.getD (x - c).toNat none = none
  | [], c, x, h => by simp [holes] at h
  | some y :: os, c, x, h => by
    obtain ⟨h1, h2, h3⟩ := Zfh os (c + 1) x h
    refine ⟨by omega, by rw [List.length_cons]; omega, ?_⟩
    have : (x - c).toNat = (x - (c + 1)).toNat + 1 := by omega
    rw [this]
    exact h3
  | none :: os, c, x, h => by
    rw [holes] at h
    (rcases List.mem_cons.mp h with rfl | h)
    . refine ⟨by omega, by rw [List.length_cons]; omega, ?_⟩
      have : (x - x).toNat = 0 := by omega
      rw [this]
      rfl
    . obtain ⟨h1, h2, h3⟩ := Zfh os (c + 1) x h
      refine ⟨by omega, by rw [List.length_cons]; omega, ?_⟩
      have : (x - c).toNat = (x - (c + 1)).toNat + 1 := by omega
      rw [this]
      exact h3
theorem Ziu : ∀ (os : List (Option Int)) (c : Int) (k : Nat), k < os.length -> os.getD k none = none -> c + k ∈ holes c os
  | [], c, k, h, _ => by simp at h
  | some y :: os, c, 0, _, h => by simp at h
  | none :: os, c, 0, _, _ => by rw [holes]; simp
  | o :: os, c, k + 1, h, h2 => by
    have := Ziu os (c + 1) k (by rw [List.length_cons] at h; omega) h2
    have e : c + 1 + (k : Int) = c + ((k + 1 : Nat) : Int) := by omega
    rw [e] at this
    cases o with
    | none => rw [holes]; exact List.mem_cons_of_mem _ this
    | some y => exact this
theorem Ziv : ∀ (os : List (Option Int)) (c : Int), (holes c os).Pairwise (· < ·)
  | [], c => List.Pairwise.nil
  | some _ :: os, c => Ziv os (c + 1)
  | none :: os, c => by
    rw [holes]
    refine List.Pairwise.cons (fun x hx => ?_) (Ziv os (c + 1))
    have := (Zfh os (c + 1) x hx).1
    omega
theorem Ziw (os : List (Option Int)) : (fill os).length = os.length := List.length_map _
theorem ZkW (os : List (Option Int)) (k : Nat) : (fill os).getD k 0 = (os.getD k none).getD 0 := by
  rw [List.getD_eq_getElem?_getD, List.getD_eq_getElem?_getD]
  unfold fill
  rw [List.getElem?_map]
  cases os[k]? <;> rfl
theorem Zno (h0 : lk 0 = false) (p q t : Int) (hp : 0 < p) (ht : -(2 ^ 64) < t /\ t < 2 ^ 64) : ∀ (ss acc : List Int) (a : D), ∃ a',
    ZaM (asgT lk (.name 0)) (tsts ⟨lk, fok, fuel⟩ [.cmp .Eq (.bin .Mod (.bin .Mult (.v 0) (.v 3)) (.v 2)) (.v 1)]) (evb ⟨lk, fok, fuel⟩ (.v 0)).1 (dI ss) (dI acc) [a, I q, I p, I t] = .ok (dI (acc ++ ss.filter fun s => decide (s * t % p = q)), [a', I q, I p, I t]) := by
  intro ss
  induction ss with
  | nil => exact fun acc a => ⟨a, by rw [List.filter_nil, List.append_nil]; rfl⟩
  | cons s ss ih =>
    intro acc a
    have hm : binW .Mult (.sc (.int s)) (.sc (.int t)) = some (.sc (.int (s * t))) := ZbO _ _ (.inr ht)
    rw [Zx, Zd3]
    by_cases h : s * t % p = q
    . obtain ⟨a', ih⟩ := ih (acc ++ [s]) (I s)
      refine ⟨a', ?_⟩
      have e : acc ++ (s :: ss).filter (fun s => decide (s * t % p = q)) = acc ++ [s] ++ ss.filter (fun s => decide (s * t % p = q)) := by
        rw [List.filter_cons_of_pos (by simpa using h)]
        simp
      rw [e, <- ih, ZbB]
      repeat (first | walk_at "ev" | simp only [h0, hm, ZF _ _ hp, h, V.int.injEq])
    . obtain ⟨a', ih⟩ := ih acc (I s)
      refine ⟨a', ?_⟩
      rw [List.filter_cons_of_neg (by simpa using h), <- ih]
      repeat (first | walk_at "ev" | simp only [h0, hm, ZF _ _ hp, h, V.int.injEq])
theorem Zon (p q t v : Int) (hp : 0 < p) (hp2 : p <= 1000) (ht : -(2 ^ 64) < t /\ t < 2 ^ 64) (h0 : 0 <= v) (h1 : v < p) (hv : v * t % p = q) (hun : ∀ s, 0 <= s -> s < p -> s * t % p = q -> s = v) : Zcg.run [I p, I q, I t] = .ok (I v, [I p, I q, I t]) := by
  show Zi C0 3 3 ZbI [I p, I q, I t] = _
  rw [runA (show [I p, I q, I t].length = 3 from rfl)]
  unfold ZbI
  simp only [List.replicate, Nat.reduceSub]
  obtain ⟨a', hc⟩ := Zno (fun i => decide (1 <= i)) (fun _ _ => false) 0 rfl p q t hp ht (rngI 0 p.toNat) [] .hole
  rw [List.nil_append] at hc
  have hall : ∀ s ∈ (rngI 0 p.toNat).filter (fun s => decide (s * t % p = q)), s = v := fun s hs => by
    rw [List.mem_filter, Zbs] at hs
    obtain ⟨⟨b1, b2⟩, b3⟩ := hs
    exact hun s b1 (by omega) (of_decide_eq_true b3)
  have hin : v ∈ (rngI 0 p.toNat).filter (fun s => decide (s * t % p = q)) := by
    rw [List.mem_filter, Zbs, decide_eq_true_eq]
    exact ⟨⟨h0, by omega⟩, hv⟩
  have hlen : ((rngI 0 p.toNat).filter (fun s => decide (s * t % p = q))).length <= p.toNat := by
    have := List.length_filter_le (fun s => decide (s * t % p = q)) (rngI 0 p.toNat)
    rwa [Zcc] at this
  generalize (rngI 0 p.toNat).filter (fun s => decide (s * t % p = q)) = L at hc hall hin hlen
  cases L with
  | nil => simp at hin
  | cons s L =>
    obtain rfl := hall s List.mem_cons_self
    replace hc : Zb0 (fun _ _ => false) 0 1 (.name 0) [.cmp .Eq (.bin .Mod (.bin .Mult (.v 0) (.v 3)) (.v 2)) (.v 1)] (.v 0) (dI (rngI 0 p.toNat)) [] [.hole, I q, I p, I t] = _ := hc
    have hm : Zb6 1 [1, 0, 2] (Zb0 (fun _ _ => false) 0 1 (.name 0) [.cmp .Eq (.bin .Mod (.bin .Mult (.v 0) (.v 3)) (.v 2)) (.v 1)] (.v 0) (dI (rngI 0 p.toNat)) []) [I p, I q, I t] = .ok (Ls true (s :: L), [I p, I q, I t]) := by
      rw [ZbH (js := [1, 0, 2]) (caps := [I q, I p, I t]) (δ1 := [.hole, .hole, .hole]) rfl hc (by rw [ZP, szl]; omega)]
      rfl
    have hr := Zeu p (by omega)
    have hi := ixI (s :: L) 0 (by decide) (by rw [List.length_cons]; omega)
    have hg : (s :: L).getD (0 : Int).toNat 0 = s := rfl
    rw [hg] at hi
    generalize s :: L = M at hm hi
    repeat (first | walk_at "ev" | simp only [hr, hm, hi])
    rfl
theorem Zoo (p : Int) (xs : List Int) (i j : Int) (v w : Int) (hp : 0 < p) (hp2 : p <= 1000) (hl : xs.length <= 1000) (hi : 0 <= i) (hij : i < j) (hj : j < xs.length) (h0 : 0 <= v) (h1 : v < p)
    (hv : v * (j - i) % p = ((i + 1) * (xs.sum % p) - (wts 1 xs).sum % p) % p) (hun : ∀ s, 0 <= s -> s < p -> s * (j - i) % p = v * (j - i) % p -> s = v) (hw : -((xs.set j.toNat v).sum % p) % p = w) :
    Z9.run [I p, Ls true xs, I i, I j] = .ok (Ls true ((xs.set j.toNat v).set i.toNat w), [I p, Ls true xs, I i, I j]) := by
  rw [show Z9.run = Zi C0 4 7 Zao from rfl]
  rw [runA (show [I p, Ls true xs, I i, I j].length = 4 from rfl)]
  unfold Zao
  simp only [List.replicate, Nat.reduceSub]
  have l1 : ZG.lend = true := rfl
  have l2 : ZO.lend = true := rfl
  have l3 : Zcg.lend = true := rfl
  have r1 := fun o => ZbG p xs o hp
  have r2 := fun o => ZdG p xs o hp hl
  have r4 := fun o => ZbG p (xs.set j.toNat v) o hp
  have r3 := Zon p (v * (j - i) % p) (j - i) v hp hp2 (by omega) h0 h1 rfl hun
  have hm : ∀ u : Int, binW .Mult (.sc (.int (i + 1))) (.sc (.int u)) = some (.sc (.int ((i + 1) * u))) := fun u => ZbO _ _ (.inl (by omega))
  have s1 : ∀ (δ : List D) (u : Int), mdR 6 δ (ZaL (.sc (.int j)) (.sc (.int u))) (some (.node .lst true (dI xs))) = .ok (.sc .non, δ.set 6 (.node .lst true (dI (xs.set j.toNat u)))) := fun δ u => ZfS 6 δ u xs j (by omega) hj
  have s2 : ∀ (δ : List D) (u u' : Int), mdR 6 δ (ZaL (.sc (.int i)) (.sc (.int u))) (some (.node .lst true (dI (xs.set j.toNat u')))) = .ok (.sc .non, δ.set 6 (.node .lst true (dI ((xs.set j.toNat u').set i.toNat u)))) := fun δ u u' => ZfS 6 δ u _ i hi (by rw [List.length_set]; omega)
  rw [hv] at r3
  (repeat (first | walk_at "ev" | simp only [Zr, l1, l2, l3, r1, r2, r3, r4, hm, ZF _ _ hp, hw, s1, s2])) <;> rfl
theorem Zu7 : ∀ p ∈ [5, 7, 11, 13, 17, 19, 23, 29, 31, 37, 41, 43, 47], ∀ a ∈ List.range p, a ≠ 0 -> ∃ b ∈ List.range p, a * b % p = 1 := by walk_at "d"
theorem Zsh (p : Int) (hp : p ∈ PR) (a : Int) (h1 : 0 < a) (h2 : a < p) : ∃ b, 0 <= b /\ b < p /\ a * b % p = 1 := by
  obtain ⟨m, hm⟩ : ∃ m : Nat, p = m := ⟨p.toNat, by omega⟩
  obtain ⟨i, hi⟩ : ∃ i : Nat, a = i := ⟨a.toNat, by omega⟩
  subst hm hi
  have hin : m ∈ [5, 7, 11, 13, 17, 19, 23, 29, 31, 37, 41, 43, 47] := by
    simp only [PR, List.mem_cons, List.not_mem_nil, or_false] at hp ⊢
    omega
  obtain ⟨b, hb, e⟩ := Zu7 m hin i (List.mem_range.mpr (by omega)) (by omega)
  refine ⟨b, by omega, by have := List.mem_range.mp hb; omega, ?_⟩
  have : ((i * b % m : Nat) : Int) = ((1 : Nat) : Int) := by rw [e]
  rw [Int.natCast_emod, Int.natCast_mul] at this
  exact this
theorem Zsi (p : Int) (hp : p ∈ PR) (hp1 : 5 <= p) (q t : Int) (h1 : 0 < t) (h2 : t < p) : ∃ v, 0 <= v /\ v < p /\ v * t % p = q % p := by
  obtain ⟨b, _, _, e⟩ := Zsh p hp t h1 h2
  refine ⟨q * b % p, Int.emod_nonneg _ (by omega), Int.emod_lt_of_pos _ (by omega), ?_⟩
  rw [Int.mul_emod, Int.emod_emod, <- Int.mul_emod, Int.mul_assoc, Int.mul_comm b t, Int.mul_emod, e, Int.mul_one, Int.emod_emod]
theorem ZhO (p : Int) (hp : p ∈ PR) (s v t : Int) (h1 : 0 < t) (h2 : t < p) (s0 : 0 <= s) (s1 : s < p) (v0 : 0 <= v) (v1 : v < p) (e : p ∣ (s - v) * t) : s = v := by
  rcases Int.lt_trichotomy s v with h | h | h
  . exact absurd (Int.emod_eq_zero_of_dvd e) (Znk p hp (s - v) t (by omega) (by omega) (by omega) (by omega) (by omega) (by omega))
  . exact h
  . exact absurd (Int.emod_eq_zero_of_dvd e) (Znk p hp (s - v) t (by omega) (by omega) (by omega) (by omega) (by omega) (by omega))
theorem Zqe (p : Int) (hp : p ∈ PR) (hp1 : 5 <= p) (S W i j : Int) (hi : 0 <= i) (hij : i < j) (hj : j < p) : ∃ v w, 0 <= v /\ v < p /\ 0 <= w /\ w < p /\ v * (j - i) % p = ((i + 1) * (S % p) - W % p) % p /\ w = -((S + v) % p) % p /\
    ∀ a b, 0 <= a -> a < p -> 0 <= b -> b < p -> (((S + a + b) % p = 0 /\ (W + a * (i + 1) + b * (j + 1)) % p = 0) ↔ (a = w /\ b = v)) := by
  obtain ⟨v, v0, v1, hv⟩ := Zsi p hp hp1 ((i + 1) * S - W) (j - i) (by omega) (by omega)
  have q : ((i + 1) * (S % p) - W % p) % p = ((i + 1) * S - W) % p := by
    rw [Int.sub_emod, Int.mul_emod, Int.emod_emod, Int.emod_emod, <- Int.mul_emod, <- Int.sub_emod]
  have hw : (-((S + v) % p)) % p = (-(S + v)) % p := by
    rw [<- Int.zero_sub, Int.sub_emod, Int.emod_emod, <- Int.sub_emod, Int.zero_sub]
  have d0 : p ∣ v * (j - i) - ((i + 1) * S - W) := Int.dvd_of_emod_eq_zero (Int.emod_eq_emod_iff_emod_sub_eq_zero.mp hv)
  refine ⟨v, -((S + v) % p) % p, v0, v1, Int.emod_nonneg _ (by omega), Int.emod_lt_of_pos _ (by omega), hv.trans q.symm, rfl, fun a b a0 a1 b0 b1 => ?_⟩
  rw [hw]
  have w0 := Int.emod_nonneg (-(S + v)) (show p ≠ 0 by omega)
  have w1 := Int.emod_lt_of_pos (-(S + v)) (show 0 < p by omega)
  have dw : p ∣ (-(S + v)) % p + (S + v) := by
    have := Int.dvd_sub_self_of_emod_eq (rfl : (-(S + v)) % p = (-(S + v)) % p)
    have e : (-(S + v)) % p + (S + v) = (-(S + v)) % p - -(S + v) := by omega
    rw [e]
    exact this
  generalize (-(S + v)) % p = w at w0 w1 dw
  constructor
  . rintro ⟨e1, e2⟩
    have d1 := Int.dvd_of_emod_eq_zero e1
    have d2 := Int.dvd_of_emod_eq_zero e2
    have hb : b = v := by
      refine ZhO p hp b v (j - i) (by omega) (by omega) b0 b1 v0 v1 ?_
      have e : (b - v) * (j - i) = ((W + a * (i + 1) + b * (j + 1)) - (i + 1) * (S + a + b)) - (v * (j - i) - ((i + 1) * S - W)) := by
        have x1 : (i + 1) * (S + a + b) = (i + 1) * S + (i + 1) * a + (i + 1) * b := by rw [Int.mul_add, Int.mul_add]
        have x2 : a * (i + 1) = (i + 1) * a := Int.mul_comm _ _
        have x3 : b * (j - i) = b * (j + 1) - (i + 1) * b := by rw [Int.mul_comm (i + 1) b, <- Int.mul_sub]; congr 1; omega
        rw [Int.sub_mul, x1, x2, x3]
        omega
      rw [e]
      exact Int.dvd_sub (Int.dvd_sub d2 (Int.dvd_mul_of_dvd_right d1)) d0
    subst hb
    refine ⟨?_, rfl⟩
    have d3 : p ∣ (a - w) * 1 := by
      have e : (a - w) * 1 = (S + a + b) - (w + (S + b)) := by omega
      rw [e]
      exact Int.dvd_sub d1 dw
    exact ZhO p hp a w 1 (by decide) (by omega) a0 a1 w0 w1 d3
  . rintro ⟨rfl, rfl⟩
    refine ⟨Int.emod_eq_zero_of_dvd ?_, Int.emod_eq_zero_of_dvd ?_⟩
    . have e : S + a + b = a + (S + b) := by omega
      rw [e]
      exact dw
    . have e : W + a * (i + 1) + b * (j + 1) = (a + (S + b)) * (i + 1) + (b * (j - i) - ((i + 1) * S - W)) := by
        have x1 : (a + (S + b)) * (i + 1) = a * (i + 1) + (i + 1) * S + b * (i + 1) := by rw [Int.add_mul, Int.add_mul, Int.mul_comm S]; omega
        have x3 : b * (j - i) = b * (j + 1) - b * (i + 1) := by rw [<- Int.mul_sub]; congr 1; omega
        rw [x1, x3]
        omega
      rw [e]
      exact Int.dvd_add (Int.dvd_mul_of_dvd_left dw) d0
theorem Zel {α : Type} (f : Int -> List α) : ∀ (n : Nat) (c : Int), (∀ a, c <= a -> a < c + n -> f a = []) -> (rngI c n).flatMap f = []
  | 0, c, _ => rfl
  | n + 1, c, h => by
    rw [rngI, List.flatMap_cons, h c (Int.le_refl c) (by omega), Zel f n (c + 1) fun a h1 h2 => h a (by omega) (by omega)]
    rfl
theorem ZgL {α : Type} (f : Int -> List α) (w : Int) : ∀ (n : Nat) (c : Int), c <= w -> w < c + n -> (∀ a, c <= a -> a < c + n -> a ≠ w -> f a = []) -> (rngI c n).flatMap f = f w
  | 0, c, h1, h2, _ => by omega
  | n + 1, c, h1, h2, h => by
    rw [rngI, List.flatMap_cons]
    by_cases e : c = w
    . subst e
      rw [Zel f n (c + 1) fun a h1 h2 => h a (by omega) (by omega) (by omega), List.append_nil]
    . rw [h c (Int.le_refl c) (by omega) e, ZgL f w n (c + 1) (by omega) (by omega) fun a h1 h2 => h a (by omega) (by omega)]
      rfl
theorem fm2 {α : Type} (p w v : Int) (f : Int -> Int -> List α) (w0 : 0 <= w) (w1 : w < p) (v0 : 0 <= v) (v1 : v < p) (h : ∀ a b, 0 <= a -> a < p -> 0 <= b -> b < p -> ¬(a = w /\ b = v) -> f a b = []) : (rngI 0 p.toNat).flatMap (fun a => (rngI 0 p.toNat).flatMap (f a)) = f w v := by
  rw [ZgL (fun a => (rngI 0 p.toNat).flatMap (f a)) w p.toNat 0 w0 (by omega) fun a h1 h2 hn => Zel (f a) p.toNat 0 fun b h3 h4 => h a b h1 (by omega) h3 (by omega) fun q => hn q.1]
  exact ZgL (f w) v p.toNat 0 v0 (by omega) fun b h1 h2 hn => h w b w0 w1 h1 (by omega) fun q => hn q.2
theorem Zj0 (p S : Int) (hp : 0 < p) (a : Int) (a0 : 0 <= a) (a1 : a < p) : (S % p + a + 0) % p = 0 ↔ a = -(S % p) % p := by
  have h0 := Int.emod_nonneg S (show p ≠ 0 by omega)
  have h1 := Int.emod_lt_of_pos S hp
  generalize S % p = s at h0 h1
  rw [Int.add_zero]
  by_cases e : s = 0
  . subst e
    rw [Int.neg_zero, Int.zero_emod, Int.zero_add, Int.emod_eq_of_lt a0 a1]
  . have e2 : -s % p = p - s := by
      rw [<- Int.add_emod_right]
      rw [Int.emod_eq_of_lt (by omega) (by omega)]
      omega
    rw [e2]
    constructor
    . intro h
      by_cases q : s + a < p
      . rw [Int.emod_eq_of_lt (by omega) q] at h; omega
      . have : (s + a) % p = s + a - p := by rw [<- Int.sub_emod_right, Int.emod_eq_of_lt (by omega) (by omega)]
        omega
    . rintro rfl
      have : s + (p - s) = p := by omega
      rw [this, Int.emod_self]
theorem Zj1 (p S W k : Int) (hp : 0 < p) (hS : S % p ≠ 0) (m : Int) (m0 : m = p - S % p) : (W % p + m * (k + 1)) % p = 0 ↔ ((k + 1) * (S % p)) % p = W % p := by
  subst m0
  have e : W % p + (p - S % p) * (k + 1) = W % p - (k + 1) * (S % p) + p * (k + 1) := by
    rw [Int.sub_mul, Int.mul_comm (S % p)]
    omega
  rw [e, Int.add_mul_emod_self_left]
  constructor
  . intro h
    have := Int.emod_eq_emod_iff_emod_sub_eq_zero.mpr h
    rw [Int.emod_emod] at this
    exact this.symm
  . intro h
    rw [Int.sub_emod, Int.emod_emod, h, Int.sub_self, Int.zero_emod]
theorem Zqf (p : Int) (hp : p ∈ PR) (S : Int) (hS : S % p ≠ 0) (h5 : 5 <= p) (k r : Nat) (hk : (k : Int) < p) (hr : (r : Int) < p) (e1 : (((k : Int) + 1) * (S % p)) % p = (((r : Int) + 1) * (S % p)) % p) : k = r := by
  have h0 := Int.emod_nonneg S (show p ≠ 0 by omega)
  have h1 := Int.emod_lt_of_pos S (show 0 < p by omega)
  have d := Int.dvd_of_emod_eq_zero (Int.emod_eq_emod_iff_emod_sub_eq_zero.mp e1)
  rw [<- Int.sub_mul] at d
  have e : (k : Int) + 1 - (r + 1) = (k : Int) - r := by omega
  rw [e] at d
  have := ZhO p hp k r (S % p) (by omega) h1 (by omega) hk (by omega) hr d
  omega
theorem ZjN (q : Nat -> Prop) [DecidablePred q] : ∀ n, (∃ r, r < n /\ q r /\ ∀ i, i < r -> ¬ q i) \/ ∀ i, i < n -> ¬ q i
  | 0 => .inr fun i h => by omega
  | n + 1 => by
    rcases ZjN q n with ⟨r, h1, h2, h3⟩ | h
    . exact .inl ⟨r, by omega, h2, h3⟩
    . by_cases e : q n
      . exact .inl ⟨n, by omega, e, h⟩
      . refine .inr fun i hi => ?_
        by_cases x : i = n
        . rw [x]; exact e
        . exact h i (by omega)
theorem ZjO (os : List (Option Int)) (k : Nat) (v : Int) : fill (os.set k (some v)) = (fill os).set k v := List.map_set
theorem Zqg {os : List (Option Int)} (h : holes 0 os = []) : ∀ o ∈ os, o ≠ none := fun o ho e => by
  obtain ⟨k, hk, rfl⟩ := List.mem_iff_getElem.mp ho
  have := Ziu os 0 k hk (by rw [List.getD_eq_getElem?_getD, List.getElem?_eq_getElem hk, Option.getD_some]; exact e)
  rw [h] at this
  simp at this
theorem Zlr {os : List (Option Int)} {i j : Int} (h : ∀ x ∈ holes 0 os, x = i \/ x = j) (hi : 0 <= i) (hj : 0 <= j) (v w : Int) : ∀ o ∈ (os.set j.toNat (some v)).set i.toNat (some w), o ≠ none := fun o ho e => by
  obtain ⟨k, hk, rfl⟩ := List.mem_iff_getElem.mp ho
  rw [List.length_set, List.length_set] at hk
  rw [List.getElem_set] at e
  split at e
  . cases e
  . rename_i ni
    rw [List.getElem_set] at e
    split at e
    . cases e
    . rename_i nj
      have := h _ (Ziu os 0 k hk (by rw [List.getD_eq_getElem?_getD, List.getElem?_eq_getElem hk, Option.getD_some]; exact e))
      omega
theorem Zdj (p : Int) (os : List (Option Int)) (R : Rs (D × List D)) (hp : 0 < p) (hp2 : p < 1000) (h1 : 2 <= os.length) (h2 : (os.length : Int) <= p) (hx : ∀ x ∈ fill os, 0 <= x /\ x < p)
    (hend : (2 < (holes 0 os).length /\ R = .exc SP [I p, Lo true os]) \/
      (∃ i j ys, holes 0 os = [i, j] /\ Z9.run [I p, Ls true (fill os), I i, I j] = .ok (Ls true ys, [I p, Ls true (fill os), I i, I j]) /\ R = .ok (Ls true ys, [I p, Lo true os])) \/
      (∃ i, holes 0 os = [i] /\ 0 <= i /\ i < os.length /\ good p ((fill os).set i.toNat (-((fill os).sum % p) % p)) = true /\ R = .ok (Ls true ((fill os).set i.toNat (-((fill os).sum % p) % p)), [I p, Lo true os])) \/
      (holes 0 os = [] /\ good p (fill os) = true /\ R = .ok (Ls true (fill os), [I p, Lo true os])) \/
      (∃ i, holes 0 os = [i] /\ 0 <= i /\ i < os.length /\ good p ((fill os).set i.toNat (-((fill os).sum % p) % p)) = false /\ ZR.run [I p, Ls false ((fill os).set i.toNat (-((fill os).sum % p) % p))] = .exc SP [I p, Ls false ((fill os).set i.toNat (-((fill os).sum % p) % p))] /\ R = .exc SP [I p, Lo true os]) \/
      (holes 0 os = [] /\ good p (fill os) = false /\ ZR.run [I p, Ls false (fill os)] = .exc SP [I p, Ls false (fill os)] /\ R = .exc SP [I p, Lo true os]) \/
      (∃ ys, holes 0 os = [] /\ good p (fill os) = false /\ ZR.run [I p, Ls false (fill os)] = .ok (Ls true ys, [I p, Ls false (fill os)]) /\ R = .ok (Ls true ys, [I p, Lo true os]))) :
    Zap.run [I p, Lo true os] = R := by
  have hfl := Ziw os
  have hl : (fill os).length <= 1000 := by omega
  rw [show Zap.run = Zi C0 2 4 Zfw from rfl]
  rw [runA (show [I p, Lo true os].length = 2 from rfl)]
  unfold Zfw
  simp only [List.replicate, Nat.reduceSub]
  obtain ⟨a1, hc1⟩ := ZjM (fun i => decide (1 <= i)) (fun _ _ => false) 0 rfl os [] .hole
  obtain ⟨a2, b2, hc2⟩ := Znn (fun i => decide (2 <= i)) (fun _ _ => false) 0 rfl rfl os 0 [] .hole .hole
  rw [List.nil_append] at hc1 hc2
  have hz : (dI (fill os)).length <= sizeLine := by rw [ZP, szl]; omega
  have hz2 : (dI (holes 0 os)).length <= sizeLine := by have := Zg2 os 0; rw [ZP, szl]; omega
  replace hc1 : Zb0 (fun _ _ => false) 0 1 (.name 0) [] (.ife (.isN true (.v 0)) (.k (.int 0)) (.v 0)) (dO os) [] [.hole] = _ := hc1
  replace hc2 : Zb0 (fun _ _ => false) 0 2 (.tup [0, 1]) [.isN true (.v 1)] (.v 0) (Za3 0 (dO os)) [] [.hole, .hole] = _ := hc2
  have hm1 : ∀ δ : List D, Zb6 1 [] (Zb0 (fun _ _ => false) 0 1 (.name 0) [] (.ife (.isN true (.v 0)) (.k (.int 0)) (.v 0)) (dO os) []) δ = .ok (Ls true (fill os), δ) := fun δ => by
    rw [ZbH (js := []) (caps := []) rfl hc1 hz, Zcz]
    rfl
  have hm2 : ∀ δ : List D, Zb6 2 [] (Zb0 (fun _ _ => false) 0 2 (.tup [0, 1]) [.isN true (.v 1)] (.v 0) (Za3 0 (dO os)) []) δ = .ok (Ls true (holes 0 os), δ) := fun δ => by
    rw [ZbH (js := []) (caps := []) rfl hc2 hz2, Zcz]
    rfl
  have l1 : Zay.lend = true := rfl
  have l2 : Zee.lend = true := rfl
  have l3 : Z9.lend = true := rfl
  have l4 : ZG.lend = true := rfl
  have r1 := fun o => ZjK p (fill os) o hx
  have q1 : (2 : Int) <= ((dI (fill os)).length : Int) := by rw [ZP]; omega
  have q2 : ((dI (fill os)).length : Int) <= p := by rw [ZP]; omega
  have c2 : ((2 : Nat) : Int) = 2 := rfl
  have c1 : ((1 : Nat) : Int) = 1 := rfl
  have c0 : ((0 : Nat) : Int) = 0 := rfl
  have z1 : ¬ (2 : Int) < 2 := by decide
  have z2 : ¬ (2 : Int) < 1 := by decide
  have z3 : ¬ (1 : Int) = 2 := by decide
  have z4 : ¬ (2 : Int) < 0 := by decide
  have z5 : ¬ (0 : Int) = 2 := by decide
  have z6 : ¬ (0 : Int) = 1 := by decide
  have i20 : ixN' 2 0 = some 0 := rfl
  have i21 : ixN' 2 1 = some 1 := rfl
  have i10 : ixN' 1 0 = some 0 := rfl
  have l5 : ZR.lend = false := rfl
  rcases hend with ⟨hh, rfl⟩ | ⟨i, j, ys, hh, r3, rfl⟩ | ⟨i, hh, hi, hi2, hg, rfl⟩ | ⟨hh, hg, rfl⟩ | ⟨i, hh, hi, hi2, hg, r5, rfl⟩ | ⟨hh, hg, r5, rfl⟩ | ⟨ys, hh, hg, r5, rfl⟩
  . have z0 : (2 : Int) < ((dI (holes 0 os)).length : Int) := by rw [ZP]; omega
    (repeat (first | walk_at "ev" | simp only [Zr, Zah, hm1, hm2, it_e _ 0 (by decide), l1, r1, Zc1, q1, q2, z0, V.int.injEq, Zki, ZhN])) <;> rfl
  . rw [hh] at hm2
    simp only [Ls, Zx, Zbd] at hm2
    (repeat (first | walk_at "ev" | simp only [Zr, Zah, hm1, hm2, it_e _ 0 (by decide), l1, l3, r1, r3, Zc1, q1, q2, c2, z1, i20, i21, V.int.injEq])) <;> rfl
  . rw [hh] at hm2
    simp only [Ls, Zx, Zbd] at hm2
    have r4 := fun o => ZbG p (fill os) o hp
    have r2 := Zgk p ((fill os).set i.toNat (-((fill os).sum % p) % p)) true hp (by rw [List.length_set]; omega)
    have s1 : ∀ (δ : List D) (u : Int), mdR 2 δ (ZaL (.sc (.int i)) (.sc (.int u))) (some (.node .lst true (dI (fill os)))) = .ok (.sc .non, δ.set 2 (.node .lst true (dI ((fill os).set i.toNat u)))) := fun δ u => ZfS 2 δ u (fill os) i hi (by rw [hfl]; exact hi2)
    (repeat (first | walk_at "ev" | simp only [Zr, Zah, hm1, hm2, it_e _ 0 (by decide), l1, l2, l4, r1, r2, r4, hg, s1, Zc1, q1, q2, c1, z2, z3, i10, ZF _ _ hp, V.int.injEq])) <;> rfl
  . rw [hh] at hm2
    simp only [Ls, Zbd] at hm2
    have r2 := Zgk p (fill os) true hp hl
    (repeat (first | walk_at "ev" | simp only [Zr, Zah, hm1, hm2, it_e _ 0 (by decide), l1, l2, r1, r2, hg, Zc1, q1, q2, c0, z4, z5, z6, V.int.injEq])) <;> rfl
  . rw [hh] at hm2
    simp only [Ls, Zx, Zbd] at hm2
    have r4 := fun o => ZbG p (fill os) o hp
    have r2 := Zgk p ((fill os).set i.toNat (-((fill os).sum % p) % p)) true hp (by rw [List.length_set]; omega)
    have s1 : ∀ (δ : List D) (u : Int), mdR 2 δ (ZaL (.sc (.int i)) (.sc (.int u))) (some (.node .lst true (dI (fill os)))) = .ok (.sc .non, δ.set 2 (.node .lst true (dI ((fill os).set i.toNat u)))) := fun δ u => ZfS 2 δ u (fill os) i hi (by rw [hfl]; exact hi2)
    (repeat (first | walk_at "ev" | simp only [Zr, Zah, hm1, hm2, it_e _ 0 (by decide), l1, l2, l4, l5, r1, r2, r4, r5, hg, s1, Zc1, q1, q2, c1, z2, z3, i10, ZF _ _ hp, V.int.injEq, Zki, ZhN])) <;> rfl
  . rw [hh] at hm2
    simp only [Ls, Zbd] at hm2
    have r2 := Zgk p (fill os) true hp hl
    (repeat (first | walk_at "ev" | simp only [Zr, Zah, hm1, hm2, it_e _ 0 (by decide), l1, l2, l5, r1, r2, r5, hg, Zc1, q1, q2, c0, z4, z5, z6, V.int.injEq, Zki, ZhN])) <;> rfl
  . rw [hh] at hm2
    simp only [Ls, Zbd] at hm2
    have r2 := Zgk p (fill os) true hp hl
    (repeat (first | walk_at "ev" | simp only [Zr, Zah, hm1, hm2, it_e _ 0 (by decide), l1, l2, l5, r1, r2, r5, hg, Zc1, q1, q2, c0, z4, z5, z6, V.int.injEq])) <;> rfl
theorem Zqh (p : Int) (ds : List D) (ys : List Int) (hr : Zap.run [I p, .node .lst true ds] = .ok (Ls true ys, [I p, .node .lst true ds])) : ZaR.run [I p, .node .lst true ds, I 1] = .ok (.node .tup true [I 0, Ls false ys], [I p, .node .lst true ds, I 1]) := by
  rw [show ZaR.run = Zi C0 3 7 Zbw from rfl]
  rw [runA (show [I p, D.node .lst true ds, I 1].length = 3 from rfl)]
  unfold Zbw
  simp only [List.replicate, Nat.reduceSub]
  have l1 : Zap.lend = true := rfl
  have z1 : ¬ (1 : Int) = 0 := by decide
  have hw : ∀ u v : D, newT [u, v] = some (.node .tup true [u, v]) := fun u v => by unfold newT; rw [if_pos (by rw [szl]; simp)]
  have hb : exs { C0 with lock := fun i => decide (i < 3) } [.iff (.cmp .Eq (.v 2) (.k (.int 0))) [.asg 4 (.call Zai [.v 0, .v 1])] [.asgX 4 Zap [.v 0, .v 1]]] [I p, .node .lst true ds, I 1, .sc .non, .sc .non, .hole, .hole] = .ok (.nx, [I p, .node .lst true ds, I 1, .sc .non, Ls true ys, .hole, .hole]) := by
    repeat (first | walk_at "ev" | simp only [l1, hr, z1, V.int.injEq])
  have ht := Zse (lk := fun i => decide (i < 3)) (c := "LabelError") (nm := some 5) (suite := exs { C0 with lock := fun i => decide (i < 3) } [.asg 3 (.v 5)]) hb
  have hx : ∀ δ, ex { C0 with lock := fun i => decide (i < 3) } (.try_ [.iff (.cmp .Eq (.v 2) (.k (.int 0))) [.asg 4 (.call Zai [.v 0, .v 1])] [.asgX 4 Zap [.v 0, .v 1]]] "LabelError" (some 5) [.asg 3 (.v 5)]) δ = tryM (fun i => decide (i < 3)) (exs { C0 with lock := fun i => decide (i < 3) } [.iff (.cmp .Eq (.v 2) (.k (.int 0))) [.asg 4 (.call Zai [.v 0, .v 1])] [.asgX 4 Zap [.v 0, .v 1]]]) "LabelError" (some 5) (exs { C0 with lock := fun i => decide (i < 3) } [.asg 3 (.v 5)]) δ := fun δ => rfl
  simp only [C0] at ht hx
  (repeat (first | walk_at "ev" | simp only [hx, ht, Zr, Zkh, hw])) <;> rfl
theorem Zqi (p : Int) (ds : List D) (hr : Zap.run [I p, .node .lst true ds] = .exc SP [I p, .node .lst true ds]) : ZaR.run [I p, .node .lst true ds, I 1] = .ok (.node .tup true [I 3, .sc .non], [I p, .node .lst true ds, I 1]) := by
  rw [show ZaR.run = Zi C0 3 7 Zbw from rfl]
  rw [runA (show [I p, D.node .lst true ds, I 1].length = 3 from rfl)]
  unfold Zbw
  simp only [List.replicate, Nat.reduceSub]
  have l1 : Zap.lend = true := rfl
  have l2 : Zcx.lend = true := rfl
  have z1 : ¬ (1 : Int) = 0 := by decide
  have hw : ∀ u v : D, newT [u, v] = some (.node .tup true [u, v]) := fun u v => by unfold newT; rw [if_pos (by rw [szl]; simp)]
  have hw3 : ∀ u v w : D, newL [u, v, w] = some (.node .lst true [u, v, w]) := fun u v w => Zas _ (by rw [szl]; simp)
  have hb : exs { C0 with lock := fun i => decide (i < 3) } [.iff (.cmp .Eq (.v 2) (.k (.int 0))) [.asg 4 (.call Zai [.v 0, .v 1])] [.asgX 4 Zap [.v 0, .v 1]]] [I p, .node .lst true ds, I 1, .sc .non, .sc .non, .hole, .hole] = .exc SP [I p, .node .lst true ds, I 1, .sc .non, .sc .non, .hole, .hole] := by
    repeat (first | walk_at "ev" | simp only [l1, hr, z1, V.int.injEq, Zki, ZhN])
  have ht := Zqb (lk := fun i => decide (i < 3)) (c := "LabelError") (i := 5) (suite := exs { C0 with lock := fun i => decide (i < 3) } [.asg 3 (.v 5)]) hb (by walk_at "d") (show 5 < 7 by decide) rfl
  have hx : ∀ δ, ex { C0 with lock := fun i => decide (i < 3) } (.try_ [.iff (.cmp .Eq (.v 2) (.k (.int 0))) [.asg 4 (.call Zai [.v 0, .v 1])] [.asgX 4 Zap [.v 0, .v 1]]] "LabelError" (some 5) [.asg 3 (.v 5)]) δ = tryM (fun i => decide (i < 3)) (exs { C0 with lock := fun i => decide (i < 3) } [.iff (.cmp .Eq (.v 2) (.k (.int 0))) [.asg 4 (.call Zai [.v 0, .v 1])] [.asgX 4 Zap [.v 0, .v 1]]]) "LabelError" (some 5) (exs { C0 with lock := fun i => decide (i < 3) } [.asg 3 (.v 5)]) δ := fun δ => rfl
  simp only [C0] at ht hx
  have m1 : decide ((Str.ofString "NoSymbol") ∈ [Str.ofString "Spoilt", Str.ofString "LabelError"]) = false := by walk_at "d"
  have m2 : decide ((Str.ofString "TooLong") ∈ [Str.ofString "Spoilt", Str.ofString "LabelError"]) = false := by walk_at "d"
  have m3 : decide ((Str.ofString "Spoilt") ∈ [Str.ofString "Spoilt", Str.ofString "LabelError"]) = true := by walk_at "d"
  have hcnt : bfW (.cnt (.bl true)) [.nd .lst [.sc (.bl false), .sc (.bl false), .sc (.bl true)]] = some (.sc (.int 1)) := rfl
  have ho := Znm
  (repeat (first | walk_at "ev" | simp only [hx, ht, Zom, Zu1, m1, m2, m3, hw3, l2, ho, hcnt, hw])) <;> rfl
theorem Zop (h0 : lk 0 = false) (p : Int) : ∀ (xs : List Int) (acc : List D) (a : D), (∀ x ∈ xs, 0 <= x /\ x < p) -> (∀ d ∈ acc, d = .sc (.bl true)) -> ∃ (a' : D) (bs : List D), bs.length = acc.length + xs.length /\ (∀ d ∈ bs, d = .sc (.bl true)) /\
    ZaM (asgT lk (.name 0)) (tsts ⟨lk, fok, fuel⟩ []) (evb ⟨lk, fok, fuel⟩ (.and (.bf (.isi .int) [.v 0]) (.and (.nt (.bf (.isi .bool) [.v 0])) (.chain .LtE .Lt (.k (.int 0)) (.v 0) (.v 1))))).1 (dI xs) acc [a, I p] = .ok (bs, [a', I p]) := by
  intro xs
  induction xs with
  | nil => exact fun acc a _ ha => ⟨a, acc, rfl, ha, rfl⟩
  | cons x xs ih =>
    intro acc a hx ha
    obtain ⟨a', bs, b1, b2, ih⟩ := ih (acc ++ [.sc (.bl true)]) (I x) (fun y hy => hx y (List.mem_cons_of_mem _ hy)) fun d hd => by
      rcases List.mem_append.mp hd with h | h
      . exact ha d h
      . exact List.mem_singleton.mp h
    refine ⟨a', bs, by rw [b1, List.length_append]; simp only [List.length_cons, List.length_nil]; omega, b2, ?_⟩
    have q := hx x List.mem_cons_self
    rw [<- ih, Zx, Zd3]
    repeat (first | walk_at "ev" | simp only [h0, ZoM, ZoH, ZoK, ZoL, Zc1, q.1, q.2])
theorem ZiW : ∀ bs : List D, (∀ d ∈ bs, d = .sc (.bl true)) -> ∃ cs, ZdZ bs = some cs /\ cs.all id = true
  | [], _ => ⟨[], rfl, rfl⟩
  | d :: bs, h => by
    obtain ⟨cs, c1, c2⟩ := ZiW bs fun x hx => h x (List.mem_cons_of_mem _ hx)
    obtain rfl := h d List.mem_cons_self
    refine ⟨true :: cs, ?_, ?_⟩
    . rw [ZdZ, c1]; rfl
    . rw [List.all_cons, c2]; rfl
theorem Zoq (bs : List D) (h : ∀ d ∈ bs, d = .sc (.bl true)) : bfW .all [.nd .lst bs] = some (.sc (.bl true)) := by
  obtain ⟨cs, c1, c2⟩ := ZiW bs h
  show (ZdZ bs).map (fun bs => D.sc (.bl (bs.all id))) = _
  rw [c1, Option.map_some, c2]
theorem Zqj (p : Int) (xs : List Int) (hx : ∀ x ∈ xs, 0 <= x /\ x < p) (hl : xs.length <= 1000) : Zcm.run [Ls false xs, I p] = .ok (.sc (.bl true), [Ls false xs, I p]) := by
  rw [show Zcm.run = Zi C0 2 2 ZdB from rfl]
  rw [runA (show [Ls false xs, I p].length = 2 from rfl)]
  unfold ZdB
  simp only [List.replicate, Nat.reduceSub]
  obtain ⟨a', bs, b1, b2, hc⟩ := Zop (fun i => decide (1 <= i)) (fun _ _ => false) 0 rfl p xs [] .hole hx (by simp)
  replace hc : Zb0 (fun _ _ => false) 0 1 (.name 0) [] (.and (.bf (.isi .int) [.v 0]) (.and (.nt (.bf (.isi .bool) [.v 0])) (.chain .LtE .Lt (.k (.int 0)) (.v 0) (.v 1)))) (dI xs) [] [.hole, I p] = _ := hc
  have hm : Zb6 1 [1] (Zb0 (fun _ _ => false) 0 1 (.name 0) [] (.and (.bf (.isi .int) [.v 0]) (.and (.nt (.bf (.isi .bool) [.v 0])) (.chain .LtE .Lt (.k (.int 0)) (.v 0) (.v 1)))) (dI xs) []) [Ls false xs, I p] = .ok (.node .lst true bs, [Ls false xs, I p]) := by
    rw [ZbH (js := [1]) (caps := [I p]) (δ1 := [Ls false xs, .hole]) rfl hc (by rw [b1, szl, List.length_nil]; omega)]
    rfl
  have ha := Zoq bs b2
  (repeat (first | walk_at "ev" | simp only [Zr, Zuz, Zu0, hm, ha])) <;> rfl
noncomputable def oP : Option Int -> PyData
  | some x => .int x
  | none => .none
theorem Zsj (os : List (Option Int)) : pyL (dO os) = some (os.map oP) := by
  induction os with
  | nil => rfl
  | cons o os ih => cases o <;> simp only [List.map_cons, oD, oP, pyL, py] at ih ⊢ <;> rw [ih] <;> rfl
theorem Zsk (os : List (Option Int)) : PyData.canLayAll0 (os.map oP) = true := by
  induction os with
  | nil => rfl
  | cons o os ih => cases o <;> simp only [List.map_cons, oP, PyData.canLayAll0, PyData.canLay0, ih, Bool.and_self]
theorem Zqk (os : List (Option Int)) : PyData.depthAll (os.map oP) = 0 := by
  induction os with
  | nil => rfl
  | cons o os ih => cases o <;> simp only [List.map_cons, oP, PyData.depthAll, PyData.depth, ih, Nat.max_self]
theorem ZjP (os : List (Option Int)) : SeqAt.shaped (.list (os.map oP)) = true := by
  simp only [SeqAt.shaped, PyData.canLay0, PyData.depth, Zsk, Zqk]
  decide
theorem ZkX : ∀ os : List (Option Int), PyData.eqvAll (os.map oP) (os.map oP) = true
  | [] => by simp only [List.map_nil, PyData.eqvAll]
  | none :: os => by simp only [List.map_cons, oP, PyData.eqvAll, PyData.eqv, ZkX os, Bool.and_self]
  | some x :: os => by simp only [List.map_cons, oP, PyData.eqvAll, PyData.eqv, ZkX os, beq_self_eq_true, Bool.and_self]
theorem Zu8 (os : List (Option Int)) : Zb5 .NotEq (.nd .lst (dO os)) (.nd .lst (dO os)) = some false := by
  show ((py (.node .lst false (dO os))).bind (fun a => (py (.node .lst false (dO os))).bind fun b => eqPy a b)).map (!·) = _
  simp only [py, Zsj, Option.map_some, Option.bind_some]
  unfold eqPy
  rw [if_pos ⟨ZjP os, ZjP os⟩]
  simp only [PyData.eqv, ZkX, Option.map_some, Bool.not_true]
noncomputable def ZeM : List S := [.asg 7 (.bin .Add (.ix (.v 3) (.k (.int 1))) (.bin .Mult (.v 5) (.bin .Add (.ix (.v 2) (.k (.int 0))) (.k (.int 1))))), .iff (.cmp .Gt (.bf .len [.v 2]) (.k (.int 1))) [.asg 7 (.bin .Add (.v 7) (.bin .Mult (.v 6) (.bin .Add (.ix (.v 2) (.neg (.k (.int 1)))) (.k (.int 1)))))] [], .iff (.and (.cmp .Eq (.bin .Mod (.bin .Add (.bin .Add (.ix (.v 3) (.k (.int 0))) (.v 5)) (.v 6)) (.v 0)) (.k (.int 0))) (.cmp .Eq (.bin .Mod (.v 7) (.v 0)) (.k (.int 0)))) [.asg 8 (.bf .list [.v 1]), .sub 8 [] (.ix (.v 2) (.neg (.k (.int 1)))) (.v 6), .sub 8 [] (.ix (.v 2) (.k (.int 0))) (.v 5), .ex (.mut .append 4 [] [.v 8])] []]
noncomputable def put2 (os : List (Option Int)) (i j a b : Int) : D := .node .lst false (((dO os).set j.toNat (I b)).set i.toNat (I a))
noncomputable def hit2 (p S W : Int) (os : List (Option Int)) (i j a b : Int) : List D := if (S + a + b) % p = 0 /\ (W + a * (i + 1) + b * (j + 1)) % p = 0 then [put2 os i j a b] else []
noncomputable def hit1 (p S W : Int) (os : List (Option Int)) (i a : Int) : List D := if (S + a + 0) % p = 0 /\ (W + a * (i + 1)) % p = 0 then [put2 os i i a 0] else []
theorem Zor (p S W : Int) (os : List (Option Int)) (i j a b : Int) : (hit2 p S W os i j a b).length <= 1 := by unfold hit2; split <;> simp
theorem Zos (p S W : Int) (os : List (Option Int)) (i a : Int) : (hit1 p S W os i a).length <= 1 := by unfold hit1; split <;> simp
theorem ZhP (ds : List D) (h : shrL ds = ds) (k : Nat) (v : Int) : shrL (ds.set k (.sc (.int v))) = ds.set k (.sc (.int v)) := by
  induction ds generalizing k with
  | nil => rfl
  | cons d ds ih =>
    rw [shrL] at h
    injection h with h1 h2
    cases k with
    | zero => show shrL (D.sc (.int v) :: ds) = _; rw [shrL, h2]; rfl
    | succ k => show shrL (d :: ds.set k (.sc (.int v))) = _; rw [shrL, h1, ih h2]; rfl
theorem Zsl (h4 : lk 4 = false) (h6 : lk 6 = false) (h7 : lk 7 = false) (h8 : lk 8 = false) (p S W i j a : Int) (os : List (Option Int)) (hp : 0 < p) (hp2 : p <= 47) (hi : 0 <= i) (hi2 : i < os.length) (hj : 0 <= j) (hj2 : j < os.length) (ha : 0 <= a /\ a < p) : ∀ (bs : List Int) (acc : List D) (x6 x7 x8 : D), (∀ b ∈ bs, 0 <= b /\ b < p) -> acc.length + bs.length <= 10000 -> ∃ x6' x7' x8',
    forL (asgT lk (.name 6)) (exs ⟨lk, fok, fuel⟩ ZeM) (dI bs) [I p, Lo true os, .node .lst true [I i, I j], .node .lst true [I S, I W], .node .lst true acc, I a, x6, x7, x8]
      = .ok (.nx, [I p, Lo true os, .node .lst true [I i, I j], .node .lst true [I S, I W], .node .lst true (acc ++ bs.flatMap (hit2 p S W os i j a)), I a, x6', x7', x8']) := by
  intro bs
  induction bs with
  | nil => exact fun acc x6 x7 x8 _ _ => ⟨x6, x7, x8, by rw [List.flatMap_nil, List.append_nil]; rfl⟩
  | cons b bs ih =>
    intro acc x6 x7 x8 hb hl
    rw [List.length_cons] at hl
    have b1 := hb b List.mem_cons_self
    have hb' := fun c hc => hb c (List.mem_cons_of_mem _ hc)
    have c2 : ((2 : Nat) : Int) = 2 := rfl
    have g1 : (1 : Int) < 2 := by decide
    have i20 : ixN' 2 0 = some 0 := rfl
    have i21 : ixN' 2 1 = some 1 := rfl
    have i2m : ixN' 2 (-1) = some 1 := rfl
    have m1 : ∀ u : Int, binW .Mult (.sc (.int a)) (.sc (.int u)) = some (.sc (.int (a * u))) := fun u => ZbO _ _ (.inl (by omega))
    have m2 : ∀ u : Int, binW .Mult (.sc (.int b)) (.sc (.int u)) = some (.sc (.int (b * u))) := fun u => ZbO _ _ (.inl (by omega))
    have s1 : ∀ (δ : List D) (u : D), mdR 8 δ (ZaL (.sc (.int j)) u) (some (.node .lst true (dO os))) = .ok (.sc .non, δ.set 8 (.node .lst true ((dO os).set j.toNat u))) := fun δ u => ZcP 8 δ u _ j j.toNat (by
      have := Zc0 (dO os).length j.toNat (by rw [Zgm]; omega)
      rwa [Int.toNat_of_nonneg hj] at this)
    have s2 : ∀ (δ : List D) (u u' : D), mdR 8 δ (ZaL (.sc (.int i)) u) (some (.node .lst true ((dO os).set j.toNat u'))) = .ok (.sc .non, δ.set 8 (.node .lst true (((dO os).set j.toNat u').set i.toNat u))) := fun δ u u' => ZcP 8 δ u _ i i.toNat (by
      have := Zc0 ((dO os).set j.toNat u').length i.toNat (by rw [List.length_set, Zgm]; omega)
      rwa [Int.toNat_of_nonneg hi] at this)
    have sh : shrL (((dO os).set j.toNat (.sc (.int b))).set i.toNat (.sc (.int a))) = ((dO os).set j.toNat (.sc (.int b))).set i.toNat (.sc (.int a)) := ZhP _ (ZhP _ (Zah os) _ _) _ _
    have ap : ∀ (δ : List D) (u : D), mdR 4 δ (appD u) (some (.node .lst true acc)) = .ok (.sc .non, δ.set 4 (.node .lst true (acc ++ [u]))) := fun δ u => Zk5 4 δ u acc (by rw [szl]; omega)
    rw [Zx, ZbA, List.flatMap_cons]
    by_cases e1 : (S + a + b) % p = 0
    . by_cases e2 : (W + a * (i + 1) + b * (j + 1)) % p = 0
      . have hh : hit2 p S W os i j a b = [put2 os i j a b] := if_pos ⟨e1, e2⟩
        obtain ⟨x6', x7', x8', ih⟩ := ih (acc ++ [put2 os i j a b]) (I b) (I (W + a * (i + 1) + b * (j + 1))) (put2 os i j a b) hb' (by rw [List.length_append, List.length_singleton]; omega)
        refine ⟨x6', x7', x8', ?_⟩
        rw [hh, <- List.append_assoc, <- ih]
        unfold ZeM put2
        repeat (first | walk_at "ev" | simp only [h4, h6, h7, h8, c2, g1, i20, i21, i2m, m1, m2, e1, e2, s1, s2, ap, sh, Zah, ZF _ _ hp, V.int.injEq])
      . have hh : hit2 p S W os i j a b = [] := if_neg fun h => e2 h.2
        obtain ⟨x6', x7', x8', ih⟩ := ih acc (I b) (I (W + a * (i + 1) + b * (j + 1))) x8 hb' (by omega)
        refine ⟨x6', x7', x8', ?_⟩
        rw [hh, List.nil_append, <- ih]
        unfold ZeM
        repeat (first | walk_at "ev" | simp only [h4, h6, h7, h8, c2, g1, i20, i21, i2m, m1, m2, e1, e2, Zah, ZF _ _ hp, V.int.injEq])
    . have hh : hit2 p S W os i j a b = [] := if_neg fun h => e1 h.1
      obtain ⟨x6', x7', x8', ih⟩ := ih acc (I b) (I (W + a * (i + 1) + b * (j + 1))) x8 hb' (by omega)
      refine ⟨x6', x7', x8', ?_⟩
      rw [hh, List.nil_append, <- ih]
      unfold ZeM
      repeat (first | walk_at "ev" | simp only [h4, h6, h7, h8, c2, g1, i20, i21, i2m, m1, m2, e1, Zah, ZF _ _ hp, V.int.injEq])
theorem Zsm (h4 : lk 4 = false) (h6 : lk 6 = false) (h7 : lk 7 = false) (h8 : lk 8 = false) (p S W i a : Int) (os : List (Option Int)) (hp : 0 < p) (hp2 : p <= 47) (hi : 0 <= i) (hi2 : i < os.length) (ha : 0 <= a /\ a < p) (acc : List D) (x6 x7 x8 : D) (hl : acc.length <= 10000) : ∃ x6' x7' x8',
    forL (asgT lk (.name 6)) (exs ⟨lk, fok, fuel⟩ ZeM) (dI [0]) [I p, Lo true os, .node .lst true [I i], .node .lst true [I S, I W], .node .lst true acc, I a, x6, x7, x8]
      = .ok (.nx, [I p, Lo true os, .node .lst true [I i], .node .lst true [I S, I W], .node .lst true (acc ++ hit1 p S W os i a), I a, x6', x7', x8']) := by
  have c1 : ((1 : Nat) : Int) = 1 := rfl
  have g1 : ¬ (1 : Int) < 1 := by decide
  have i10 : ixN' 1 0 = some 0 := rfl
  have i1m : ixN' 1 (-1) = some 0 := rfl
  have i20 : ixN' 2 0 = some 0 := rfl
  have i21 : ixN' 2 1 = some 1 := rfl
  have m1 : ∀ u : Int, binW .Mult (.sc (.int a)) (.sc (.int u)) = some (.sc (.int (a * u))) := fun u => ZbO _ _ (.inl (by omega))
  have s1 : ∀ (δ : List D) (u : D), mdR 8 δ (ZaL (.sc (.int i)) u) (some (.node .lst true (dO os))) = .ok (.sc .non, δ.set 8 (.node .lst true ((dO os).set i.toNat u))) := fun δ u => ZcP 8 δ u _ i i.toNat (by
    have := Zc0 (dO os).length i.toNat (by rw [Zgm]; omega)
    rwa [Int.toNat_of_nonneg hi] at this)
  have s2 : ∀ (δ : List D) (u u' : D), mdR 8 δ (ZaL (.sc (.int i)) u) (some (.node .lst true ((dO os).set i.toNat u'))) = .ok (.sc .non, δ.set 8 (.node .lst true (((dO os).set i.toNat u').set i.toNat u))) := fun δ u u' => ZcP 8 δ u _ i i.toNat (by
    have := Zc0 ((dO os).set i.toNat u').length i.toNat (by rw [List.length_set, Zgm]; omega)
    rwa [Int.toNat_of_nonneg hi] at this)
  have sh : shrL (((dO os).set i.toNat (.sc (.int 0))).set i.toNat (.sc (.int a))) = ((dO os).set i.toNat (.sc (.int 0))).set i.toNat (.sc (.int a)) := ZhP _ (ZhP _ (Zah os) _ _) _ _
  have ap : ∀ (δ : List D) (u : D), mdR 4 δ (appD u) (some (.node .lst true acc)) = .ok (.sc .non, δ.set 4 (.node .lst true (acc ++ [u]))) := fun δ u => Zk5 4 δ u acc (by rw [szl]; omega)
  rw [Zx, ZbA]
  unfold hit1
  by_cases e1 : (S + a + 0) % p = 0
  . by_cases e2 : (W + a * (i + 1)) % p = 0
    . rw [if_pos ⟨e1, e2⟩]
      refine ⟨I 0, I (W + a * (i + 1)), put2 os i i a 0, ?_⟩
      unfold ZeM put2
      (repeat (first | walk_at "ev" | simp only [h4, h6, h7, h8, c1, g1, i10, i1m, i20, i21, m1, e1, e2, s1, s2, ap, sh, Zah, ZF _ _ hp, V.int.injEq])) <;> rfl
    . rw [if_neg fun h => e2 h.2, List.append_nil]
      refine ⟨I 0, I (W + a * (i + 1)), x8, ?_⟩
      unfold ZeM
      (repeat (first | walk_at "ev" | simp only [h4, h6, h7, h8, c1, g1, i10, i1m, i20, i21, m1, e1, e2, Zah, ZF _ _ hp, V.int.injEq])) <;> rfl
  . rw [if_neg fun h => e1 h.1, List.append_nil]
    refine ⟨I 0, I (W + a * (i + 1)), x8, ?_⟩
    unfold ZeM
    (repeat (first | walk_at "ev" | simp only [h4, h6, h7, h8, c1, g1, i10, i1m, i20, i21, m1, e1, Zah, ZF _ _ hp, V.int.injEq])) <;> rfl
noncomputable def ZhQ : List S := [.for_ (.name 6) .rng1 [.ix (.lst [.k (.int 1), .v 0]) (.bin .Sub (.bf .len [.v 2]) (.k (.int 1)))] ZeM]
theorem ZkY {f : Int -> List D} (hf : ∀ a, (f a).length <= 1) : ∀ xs : List Int, (xs.flatMap f).length <= xs.length
  | [] => Nat.le_refl _
  | x :: xs => by
    have h1 := ZkY hf xs
    have h2 := hf x
    rw [List.flatMap_cons, List.length_append, List.length_cons]
    omega
theorem Zsn (h4 : lk 4 = false) (h5 : lk 5 = false) (h6 : lk 6 = false) (h7 : lk 7 = false) (h8 : lk 8 = false) (p S W i j : Int) (os : List (Option Int)) (hp : 0 < p) (hp2 : p <= 47) (hi : 0 <= i) (hi2 : i < os.length) (hj : 0 <= j) (hj2 : j < os.length) : ∀ (as : List Int) (acc : List D) (x5 x6 x7 x8 : D), (∀ a ∈ as, 0 <= a /\ a < p) -> acc.length + 47 * as.length <= 5000 -> ∃ x5' x6' x7' x8',
    forL (asgT lk (.name 5)) (exs ⟨lk, fok, fuel⟩ ZhQ) (dI as) [I p, Lo true os, .node .lst true [I i, I j], .node .lst true [I S, I W], .node .lst true acc, x5, x6, x7, x8]
      = .ok (.nx, [I p, Lo true os, .node .lst true [I i, I j], .node .lst true [I S, I W], .node .lst true (acc ++ as.flatMap fun a => (rngI 0 p.toNat).flatMap (hit2 p S W os i j a)), x5', x6', x7', x8']) := by
  intro as
  induction as with
  | nil => exact fun acc x5 x6 x7 x8 _ _ => ⟨x5, x6, x7, x8, by rw [List.flatMap_nil, List.append_nil]; rfl⟩
  | cons a as ih =>
    intro acc x5 x6 x7 x8 hb hl
    rw [List.length_cons] at hl
    have a1 := hb a List.mem_cons_self
    have hn := ZkY (Zor p S W os i j a) (rngI 0 p.toNat)
    rw [Zcc] at hn
    obtain ⟨y6, y7, y8, hin⟩ := Zsl (fun k => lk k || walked [.ix (.lst [.k (.int 1), .v 0]) (.bin .Sub (.bf .len [.v 2]) (.k (.int 1)))] k) fok fuel (by simp only [walked, Bool.or_false]; exact h4) (by simp only [walked, Bool.or_false]; exact h6) (by simp only [walked, Bool.or_false]; exact h7) (by simp only [walked, Bool.or_false]; exact h8) p S W i j a os hp hp2 hi hi2 hj hj2 a1 (rngI 0 p.toNat) acc x6 x7 x8 (fun b h => by rw [Zbs] at h; omega) (by rw [Zcc]; omega)
    obtain ⟨x5', x6', x7', x8', ih⟩ := ih (acc ++ (rngI 0 p.toNat).flatMap (hit2 p S W os i j a)) (I a) y6 y7 y8 (fun b h => hb b (List.mem_cons_of_mem _ h)) (by rw [List.length_append]; omega)
    refine ⟨x5', x6', x7', x8', ?_⟩
    have c2 : ((2 : Nat) : Int) - 1 = 1 := rfl
    have i21 : ixN' 2 1 = some 1 := rfl
    have hn2 : ∀ u v : D, newL [u, v] = some (.node .lst true [u, v]) := fun u v => Zas _ (by rw [szl]; simp)
    have hr := Zeu p (by omega)
    simp only [walked, Bool.or_false] at hin
    rw [List.flatMap_cons, <- List.append_assoc, <- ih, Zx, ZbA]
    unfold ZhQ
    repeat (first | walk_at "ev" | simp only [h5, c2, i21, hn2, hr, hin])
theorem Zso (h4 : lk 4 = false) (h5 : lk 5 = false) (h6 : lk 6 = false) (h7 : lk 7 = false) (h8 : lk 8 = false) (p S W i : Int) (os : List (Option Int)) (hp : 0 < p) (hp2 : p <= 47) (hi : 0 <= i) (hi2 : i < os.length) : ∀ (as : List Int) (acc : List D) (x5 x6 x7 x8 : D), (∀ a ∈ as, 0 <= a /\ a < p) -> acc.length + as.length <= 5000 -> ∃ x5' x6' x7' x8',
    forL (asgT lk (.name 5)) (exs ⟨lk, fok, fuel⟩ ZhQ) (dI as) [I p, Lo true os, .node .lst true [I i], .node .lst true [I S, I W], .node .lst true acc, x5, x6, x7, x8]
      = .ok (.nx, [I p, Lo true os, .node .lst true [I i], .node .lst true [I S, I W], .node .lst true (acc ++ as.flatMap (hit1 p S W os i)), x5', x6', x7', x8']) := by
  intro as
  induction as with
  | nil => exact fun acc x5 x6 x7 x8 _ _ => ⟨x5, x6, x7, x8, by rw [List.flatMap_nil, List.append_nil]; rfl⟩
  | cons a as ih =>
    intro acc x5 x6 x7 x8 hb hl
    rw [List.length_cons] at hl
    have a1 := hb a List.mem_cons_self
    have hn := Zos p S W os i a
    obtain ⟨y6, y7, y8, hin⟩ := Zsm (fun k => lk k || walked [.ix (.lst [.k (.int 1), .v 0]) (.bin .Sub (.bf .len [.v 2]) (.k (.int 1)))] k) fok fuel (by simp only [walked, Bool.or_false]; exact h4) (by simp only [walked, Bool.or_false]; exact h6) (by simp only [walked, Bool.or_false]; exact h7) (by simp only [walked, Bool.or_false]; exact h8) p S W i a os hp hp2 hi hi2 a1 acc x6 x7 x8 (by omega)
    obtain ⟨x5', x6', x7', x8', ih⟩ := ih (acc ++ hit1 p S W os i a) (I a) y6 y7 y8 (fun b h => hb b (List.mem_cons_of_mem _ h)) (by rw [List.length_append]; omega)
    refine ⟨x5', x6', x7', x8', ?_⟩
    have c1 : ((1 : Nat) : Int) - 1 = 0 := rfl
    have i20 : ixN' 2 0 = some 0 := rfl
    have hn2 : ∀ u v : D, newL [u, v] = some (.node .lst true [u, v]) := fun u v => Zas _ (by rw [szl]; simp)
    have hr : itW .rng1 [.sc (.int 1)] = some (dI [0]) := Zeu 1 (by decide)
    simp only [walked, Bool.or_false] at hin
    rw [List.flatMap_cons, <- List.append_assoc, <- ih, Zx, ZbA]
    unfold ZhQ
    simp only [Zx, Zbd] at hin hr
    repeat (first | walk_at "ev" | simp only [h5, c1, i20, hn2, hr, hin])
theorem ZiX (p : Int) (os : List (Option Int)) (hs : List Int) (R : List D) (hp : 0 < p) (hp2 : p <= 47) (hl : os.length <= 1000)
    (he : (∃ i j, hs = [i, j] /\ 0 <= i /\ i < os.length /\ 0 <= j /\ j < os.length /\ R = (rngI 0 p.toNat).flatMap fun a => (rngI 0 p.toNat).flatMap (hit2 p ((fill os).sum % p) ((wts 1 (fill os)).sum % p) os i j a)) \/
      (∃ i, hs = [i] /\ 0 <= i /\ i < os.length /\ R = (rngI 0 p.toNat).flatMap (hit1 p ((fill os).sum % p) ((wts 1 (fill os)).sum % p) os i))) :
    Zba.run [I p, Lo true os, Ls true hs] = .ok (.node .lst true R, [I p, Lo true os, Ls true hs]) := by
  rw [show Zba.run = Zi C0 3 9 Zca from rfl]
  rw [runA (show [I p, Lo true os, Ls true hs].length = 3 from rfl)]
  unfold Zca
  simp only [List.replicate, Nat.reduceSub]
  have hfl := Ziw os
  obtain ⟨a1, hc1⟩ := ZjM (fun i => decide (1 <= i)) (fun _ _ => false) 0 rfl os [] .hole
  rw [List.nil_append] at hc1
  have hz : (dI (fill os)).length <= sizeLine := by rw [ZP, szl]; omega
  replace hc1 : Zb0 (fun _ _ => false) 0 1 (.name 0) [] (.ife (.isN true (.v 0)) (.k (.int 0)) (.v 0)) (dO os) [] [.hole] = _ := hc1
  have hm1 : ∀ δ : List D, Zb6 1 [] (Zb0 (fun _ _ => false) 0 1 (.name 0) [] (.ife (.isN true (.v 0)) (.k (.int 0)) (.v 0)) (dO os) []) δ = .ok (Ls true (fill os), δ) := fun δ => by
    rw [ZbH (js := []) (caps := []) rfl hc1 hz, Zcz]
    rfl
  have l1 : Zal.lend = true := rfl
  have r1 := Zis p (fill os) true hp (by omega)
  simp only [Ls, Zx, Zbd] at r1
  have hn0 : newL [] = some (.node .lst true []) := Zas _ (by simp)
  have hr := Zeu p (by omega)
  rcases he with ⟨i, j, rfl, a1, a2, a3, a4, rfl⟩ | ⟨i, rfl, a1, a2, rfl⟩
  . obtain ⟨x5, x6, x7, x8, ho⟩ := Zsn (fun k => decide (k < 3) || walked [.v 0] k) (fun _ _ => false) 0 rfl rfl rfl rfl rfl p ((fill os).sum % p) ((wts 1 (fill os)).sum % p) i j os hp hp2 a1 a2 a3 a4 (rngI 0 p.toNat) [] .hole .hole .hole .hole (fun b h => by rw [Zbs] at h; omega) (by rw [Zcc]; simp only [List.length_nil]; omega)
    simp only [walked, Bool.or_false, List.nil_append, ZhQ, ZeM] at ho
    simp only [Ls, Zx, Zbd]
    (repeat (first | walk_at "ev" | simp only [Zah, hm1, l1, r1, hn0, hr, ho])) <;> rfl
  . obtain ⟨x5, x6, x7, x8, ho⟩ := Zso (fun k => decide (k < 3) || walked [.v 0] k) (fun _ _ => false) 0 rfl rfl rfl rfl rfl p ((fill os).sum % p) ((wts 1 (fill os)).sum % p) i os hp hp2 a1 a2 (rngI 0 p.toNat) [] .hole .hole .hole .hole (fun b h => by rw [Zbs] at h; omega) (by rw [Zcc]; simp only [List.length_nil]; omega)
    simp only [walked, Bool.or_false, List.nil_append, ZhQ, ZeM] at ho
    simp only [Ls, Zx, Zbd]
    (repeat (first | walk_at "ev" | simp only [Zah, hm1, l1, r1, hn0, hr, ho])) <;> rfl
noncomputable def ZhR : List S := [.iff (.and (.cmp .Eq (.bin .Mod (.bin .Add (.ix (.v 2) (.k (.int 0))) (.v 5)) (.v 0)) (.k (.int 0))) (.cmp .Eq (.bin .Mod (.bin .Add (.ix (.v 2) (.k (.int 1))) (.bin .Mult (.v 5) (.bin .Add (.v 4) (.k (.int 1))))) (.v 0)) (.k (.int 0)))) [.asg 6 (.bf .list [.v 1]), .sub 6 [] (.v 4) (.bin .Mod (.bin .Add (.ix (.v 1) (.v 4)) (.v 5)) (.v 0)), .ex (.mut .append 3 [] [.v 6])] []]
noncomputable def hitM (p S W : Int) (xs : List Int) (k m : Int) : List D := if (S + m) % p = 0 /\ (W + m * (k + 1)) % p = 0 then [Ls false (xs.set k.toNat ((xs.getD k.toNat 0 + m) % p))] else []
theorem Zot (p S W : Int) (xs : List Int) (k m : Int) : (hitM p S W xs k m).length <= 1 := by unfold hitM; split <;> simp
theorem Zsp (h3 : lk 3 = false) (h5 : lk 5 = false) (h6 : lk 6 = false) (p S W k : Int) (xs : List Int) (hp : 0 < p) (hp2 : p <= 47) (hk : 0 <= k) (hk2 : k < xs.length) : ∀ (ms : List Int) (acc : List D) (x5 x6 : D), (∀ m ∈ ms, 0 <= m /\ m < p) -> acc.length + ms.length <= 10000 -> ∃ x5' x6',
    forL (asgT lk (.name 5)) (exs ⟨lk, fok, fuel⟩ ZhR) (dI ms) [I p, Ls true xs, .node .lst true [I S, I W], .node .lst true acc, I k, x5, x6]
      = .ok (.nx, [I p, Ls true xs, .node .lst true [I S, I W], .node .lst true (acc ++ ms.flatMap (hitM p S W xs k)), I k, x5', x6']) := by
  intro ms
  induction ms with
  | nil => exact fun acc x5 x6 _ _ => ⟨x5, x6, by rw [List.flatMap_nil, List.append_nil]; rfl⟩
  | cons m ms ih =>
    intro acc x5 x6 hb hl
    rw [List.length_cons] at hl
    have m1 := hb m List.mem_cons_self
    have hb' := fun c hc => hb c (List.mem_cons_of_mem _ hc)
    have i20 : ixN' 2 0 = some 0 := rfl
    have i21 : ixN' 2 1 = some 1 := rfl
    have mm : ∀ u : Int, binW .Mult (.sc (.int m)) (.sc (.int u)) = some (.sc (.int (m * u))) := fun u => ZbO _ _ (.inl (by omega))
    have ix := ixI xs k hk hk2
    have s1 : ∀ (δ : List D) (u : Int), mdR 6 δ (ZaL (.sc (.int k)) (.sc (.int u))) (some (.node .lst true (dI xs))) = .ok (.sc .non, δ.set 6 (.node .lst true (dI (xs.set k.toNat u)))) := fun δ u => ZfS 6 δ u xs k hk hk2
    have ap : ∀ (δ : List D) (u : D), mdR 3 δ (appD u) (some (.node .lst true acc)) = .ok (.sc .non, δ.set 3 (.node .lst true (acc ++ [u]))) := fun δ u => Zk5 3 δ u acc (by rw [szl]; omega)
    rw [Zx, ZbA, List.flatMap_cons]
    by_cases e1 : (S + m) % p = 0
    . by_cases e2 : (W + m * (k + 1)) % p = 0
      . have hh : hitM p S W xs k m = [Ls false (xs.set k.toNat ((xs.getD k.toNat 0 + m) % p))] := if_pos ⟨e1, e2⟩
        obtain ⟨x5', x6', ih⟩ := ih (acc ++ [Ls false (xs.set k.toNat ((xs.getD k.toNat 0 + m) % p))]) (I m) (Ls false (xs.set k.toNat ((xs.getD k.toNat 0 + m) % p))) hb' (by rw [List.length_append, List.length_singleton]; omega)
        refine ⟨x5', x6', ?_⟩
        rw [hh, <- List.append_assoc, <- ih]
        unfold ZhR
        repeat (first | walk_at "ev" | simp only [h3, h5, h6, i20, i21, mm, ix, e1, e2, s1, ap, Zr, ZF _ _ hp, V.int.injEq])
      . have hh : hitM p S W xs k m = [] := if_neg fun h => e2 h.2
        obtain ⟨x5', x6', ih⟩ := ih acc (I m) x6 hb' (by omega)
        refine ⟨x5', x6', ?_⟩
        rw [hh, List.nil_append, <- ih]
        unfold ZhR
        repeat (first | walk_at "ev" | simp only [h3, h5, h6, i20, i21, mm, ix, e1, e2, Zr, ZF _ _ hp, V.int.injEq])
    . have hh : hitM p S W xs k m = [] := if_neg fun h => e1 h.1
      obtain ⟨x5', x6', ih⟩ := ih acc (I m) x6 hb' (by omega)
      refine ⟨x5', x6', ?_⟩
      rw [hh, List.nil_append, <- ih]
      unfold ZhR
      repeat (first | walk_at "ev" | simp only [h3, h5, h6, i20, i21, mm, ix, e1, Zr, ZF _ _ hp, V.int.injEq])
theorem Zsq (h3 : lk 3 = false) (h4 : lk 4 = false) (h5 : lk 5 = false) (h6 : lk 6 = false) (p S W : Int) (xs : List Int) (hp : 0 < p) (hp2 : p <= 47) : ∀ (ks : List Int) (acc : List D) (x4 x5 x6 : D), (∀ k ∈ ks, 0 <= k /\ k < xs.length) -> acc.length + 47 * ks.length <= 5000 -> ∃ x4' x5' x6',
    forL (asgT lk (.name 4)) (exs ⟨lk, fok, fuel⟩ [.for_ (.name 5) .rng2 [.k (.int 1), .v 0] ZhR]) (dI ks) [I p, Ls true xs, .node .lst true [I S, I W], .node .lst true acc, x4, x5, x6]
      = .ok (.nx, [I p, Ls true xs, .node .lst true [I S, I W], .node .lst true (acc ++ ks.flatMap fun k => (rngI 1 (p - 1).toNat).flatMap (hitM p S W xs k)), x4', x5', x6']) := by
  intro ks
  induction ks with
  | nil => exact fun acc x4 x5 x6 _ _ => ⟨x4, x5, x6, by rw [List.flatMap_nil, List.append_nil]; rfl⟩
  | cons k ks ih =>
    intro acc x4 x5 x6 hb hl
    rw [List.length_cons] at hl
    have k1 := hb k List.mem_cons_self
    have hn := ZkY (Zot p S W xs k) (rngI 1 (p - 1).toNat)
    rw [Zcc] at hn
    obtain ⟨y5, y6, hin⟩ := Zsp (fun c => lk c || walked [.k (.int 1), .v 0] c) fok fuel (by show (lk 3 || walked [.k (.int 1), .v 0] 3) = false; rw [h3]; rfl) (by show (lk 5 || walked [.k (.int 1), .v 0] 5) = false; rw [h5]; rfl) (by show (lk 6 || walked [.k (.int 1), .v 0] 6) = false; rw [h6]; rfl) p S W k xs hp hp2 k1.1 k1.2 (rngI 1 (p - 1).toNat) acc x5 x6 (fun b h => by rw [Zbs] at h; omega) (by rw [Zcc]; omega)
    obtain ⟨x4', x5', x6', ih⟩ := ih (acc ++ (rngI 1 (p - 1).toNat).flatMap (hitM p S W xs k)) (I k) y5 y6 (fun b h => hb b (List.mem_cons_of_mem _ h)) (by rw [List.length_append]; omega)
    refine ⟨x4', x5', x6', ?_⟩
    have hr := ZoI 1 p (by omega)
    simp only [walked, Bool.or_false, Bool.false_or] at hin
    rw [List.flatMap_cons, <- List.append_assoc, <- ih, Zx, ZbA]
    repeat (first | walk_at "ev" | simp only [h4, hr, hin])
theorem Zls (p : Int) (xs : List Int) (hp : 0 < p) (hp2 : p <= 47) (hl : xs.length <= 60) :
    (good p xs = true -> Za8.run [I p, Ls true xs] = .ok (.node .lst true [Ls false xs], [I p, Ls false xs])) /\
    (good p xs = false -> Za8.run [I p, Ls true xs] = .ok (.node .lst true ((rngI 0 xs.length).flatMap fun k => (rngI 1 (p - 1).toNat).flatMap (hitM p (xs.sum % p) ((wts 1 xs).sum % p) xs k)), [I p, Ls true xs])) := by
  rw [show Za8.run = Zi C0 2 7 ZbF from rfl]
  rw [runA (show [I p, Ls true xs].length = 2 from rfl)]
  unfold ZbF
  simp only [List.replicate, Nat.reduceSub]
  have l1 : Zal.lend = true := rfl
  have r1 := Zis p xs true hp (by omega)
  have hn0 : newL [] = some (.node .lst true []) := Zas _ (by simp)
  have hn1 : ∀ u : D, newL [u] = some (.node .lst true [u]) := fun u => Zas _ (by rw [szl]; simp)
  have hn2 : ∀ u v : D, newL [u, v] = some (.node .lst true [u, v]) := fun u v => Zas _ (by rw [szl]; simp)
  have hq := fun u v : Int => ZiC [u, v] [0, 0]
  simp only [Zx, Zbd] at hq
  have hd : decide ([xs.sum % p, (wts 1 xs).sum % p] = [0, 0]) = good p xs := by
    unfold good
    by_cases h1 : xs.sum % p = 0 <;> by_cases h2 : (wts 1 xs).sum % p = 0 <;> simp [h1, h2]
  have hdl := ZP xs
  have hr : itW .rng1 [.sc (.int (xs.length : Int))] = some (dI (rngI 0 xs.length)) := by
    have := Zeu (xs.length : Int) (by omega)
    rwa [Int.toNat_natCast] at this
  constructor
  . intro hg
    rw [hg] at hd
    simp only [Ls, Zx, Zbd] at r1
    (repeat (first | walk_at "ev" | simp only [Zr, l1, r1, hn1, hn2, hq, hd])) <;> rfl
  . intro hg
    rw [hg] at hd
    simp only [Ls, Zx, Zbd] at r1
    obtain ⟨x4, x5, x6, ho⟩ := Zsq (fun c => decide (c < 2) || walked [.bf .len [.v 1]] c) (fun _ _ => false) 0 rfl rfl rfl rfl p (xs.sum % p) ((wts 1 xs).sum % p) xs hp hp2 (rngI 0 xs.length) [] .hole .hole .hole (fun b h => by rw [Zbs] at h; omega) (by rw [Zcc]; simp only [List.length_nil]; omega)
    simp only [walked, Bool.or_false, List.nil_append, ZhR] at ho
    (repeat (first | walk_at "ev" | simp only [Zr, l1, r1, hn0, hn2, hq, hd, hdl, hr, ho])) <;> rfl
theorem Znp {os : List (Option Int)} (h : ∀ o ∈ os, o ≠ none) : dO os = dI (fill os) := by
  induction os with
  | nil => rfl
  | cons o os ih =>
    cases o with
    | none => exact absurd rfl (h none List.mem_cons_self)
    | some x => rw [ZgK, ih fun y hy => h y (List.mem_cons_of_mem _ hy)]; rfl
theorem ZlH {os : List (Option Int)} {i j : Int} (h : ∀ x ∈ holes 0 os, x = i \/ x = j) (hi : 0 <= i) (hj : 0 <= j) (a b : Int) : put2 os i j a b = Ls false (((fill os).set j.toNat b).set i.toNat a) := by
  have e := Znp (Zlr h hi hj b a)
  rw [ZjO, ZjO] at e
  unfold put2 Ls
  rw [<- e]
  congr 1
  show _ = List.map oD _
  rw [List.map_set, List.map_set]
  rfl
theorem Zmu (h0 : lk 0 = false) (os : List (Option Int)) : ∀ (n k : Nat) (acc : List Int) (a : D), k + n = os.length -> ∃ a',
    ZaM (asgT lk (.name 0)) (tsts ⟨lk, fok, fuel⟩ [.isN true (.ix (.v 1) (.v 0))]) (evb ⟨lk, fok, fuel⟩ (.v 0)).1 (dI (rngI k n)) (dI acc) [a, Lo true os] = .ok (dI (acc ++ holes k (os.drop k)), [a', Lo true os]) := by
  intro n
  induction n with
  | zero => exact fun k acc a hk => ⟨a, by rw [List.drop_of_length_le (by omega), show holes k [] = [] from rfl, List.append_nil]; rfl⟩
  | succ n ih =>
    intro k acc a hk
    have hlt : k < os.length := by omega
    have e1 : ((k + 1 : Nat) : Int) = (k : Int) + 1 := by omega
    have hix : ∀ d, oD os[k] = d -> ((ixN' (dO os).length (k : Int)).bind fun j => (dO os)[j]?) = some d := fun d hd => by
      rw [Zc0 _ _ (by rw [Zgm]; exact hlt), Option.bind_some, List.getElem?_map, List.getElem?_eq_getElem hlt, <- hd]
      rfl
    rw [List.drop_eq_getElem_cons hlt, rngI, Zx, Zd3]
    cases ho : os[k] with
    | none =>
      rw [ho] at hix
      have hix := hix _ rfl
      obtain ⟨a', ih⟩ := ih (k + 1) (acc ++ [(k : Int)]) (I k) (by omega)
      refine ⟨a', ?_⟩
      rw [e1] at ih
      have e : acc ++ holes k (none :: os.drop (k + 1)) = acc ++ [(k : Int)] ++ holes (k + 1) (os.drop (k + 1)) := by rw [List.append_assoc]; rfl
      rw [e, <- ih, ZbB]
      simp only [oD] at hix
      repeat (first | walk_at "ev" | simp only [h0, hix, Zah, Zkh])
    | some x =>
      rw [ho] at hix
      have hix := hix _ rfl
      obtain ⟨a', ih⟩ := ih (k + 1) acc (I k) (by omega)
      refine ⟨a', ?_⟩
      rw [e1] at ih
      rw [show holes k (some x :: os.drop (k + 1)) = holes (k + 1) (os.drop (k + 1)) from rfl, <- ih]
      simp only [oD] at hix
      repeat (first | walk_at "ev" | simp only [h0, hix, Zah, Zms])
theorem Zem (p : Int) (os : List (Option Int)) (R : D) (o : Bool) (hl : os.length <= 60)
    (he : (2 < (holes 0 os).length /\ R = .node .lst true [] /\ o = true) \/ ((holes 0 os).length <= 2 /\ holes 0 os ≠ [] /\ Zba.run [I p, Lo true os, Ls true (holes 0 os)] = .ok (R, [I p, Lo true os, Ls true (holes 0 os)]) /\ o = true) \/
      (holes 0 os = [] /\ Za8.run [I p, Lo true os] = .ok (R, [I p, Lo o os]))) :
    Zbl.run [I p, Lo true os] = .ok (R, [I p, Lo o os]) := by
  rw [show Zbl.run = Zi C0 2 3 ZdE from rfl]
  rw [runA (show [I p, Lo true os].length = 2 from rfl)]
  unfold ZdE
  simp only [List.replicate, Nat.reduceSub]
  obtain ⟨a1, hc⟩ := Zmu (fun i => decide (1 <= i)) (fun _ _ => false) 0 rfl os os.length 0 [] .hole (by omega)
  have c0 : ((0 : Nat) : Int) = 0 := rfl
  rw [List.nil_append, List.drop_zero, c0] at hc
  replace hc : Zb0 (fun _ _ => false) 0 1 (.name 0) [.isN true (.ix (.v 1) (.v 0))] (.v 0) (dI (rngI 0 os.length)) [] [.hole, Lo true os] = _ := hc
  have hle := Zg2 os 0
  have hm : Zb6 1 [1] (Zb0 (fun _ _ => false) 0 1 (.name 0) [.isN true (.ix (.v 1) (.v 0))] (.v 0) (dI (rngI 0 os.length)) []) [I p, Lo true os, .hole] = .ok (Ls true (holes 0 os), [I p, Lo true os, .hole]) := by
    rw [ZbH (js := [1]) (caps := [Lo true os]) (δ1 := [I p, .hole, .hole]) rfl hc (by rw [ZP, szl]; omega)]
    rfl
  have hdl := Zgm os
  have hhl := ZP (holes 0 os)
  have hr : itW .rng1 [.sc (.int (os.length : Int))] = some (dI (rngI 0 os.length)) := by
    have := Zeu (os.length : Int) (by omega)
    rwa [Int.toNat_natCast] at this
  have hn0 : newL [] = some (.node .lst true []) := Zas _ (by simp)
  have l1 : Zba.lend = true := rfl
  have l2 : Za8.lend = true := rfl
  have hq : Zb5 .NotEq (.nd .lst (dI (holes 0 os))) (.nd .lst []) = some (!decide (holes 0 os = [])) := Zu3 (holes 0 os) []
  rcases he with ⟨h1, rfl, rfl⟩ | ⟨h1, h2, r, rfl⟩ | ⟨h1, r⟩
  . have g : (2 : Int) < ((holes 0 os).length : Int) := by omega
    (repeat (first | walk_at "ev" | simp only [Zah, Zr, hm, hdl, hhl, hr, hn0, g])) <;> rfl
  . have g : ¬ (2 : Int) < ((holes 0 os).length : Int) := by omega
    rw [decide_eq_false h2] at hq
    (repeat (first | walk_at "ev" | simp only [Zah, Zr, hm, hdl, hhl, hr, hn0, g, hq, l1, r])) <;> rfl
  . have g : ¬ (2 : Int) < ((holes 0 os).length : Int) := by rw [h1]; decide
    rw [decide_eq_true h1] at hq
    cases o <;> (repeat (first | walk_at "ev" | simp only [Zah, Zr, hm, hdl, hhl, hr, hn0, g, hq, l2, r])) <;> rfl
theorem ZhS {p : Int} {xs : List Int} (hx : ∀ x ∈ xs, 0 <= x /\ x < p) (k : Nat) (v : Int) (hv : 0 <= v /\ v < p) : ∀ x ∈ xs.set k v, 0 <= x /\ x < p := fun x h => by
  rcases List.mem_or_eq_of_mem_set h with h | h
  . exact hx x h
  . rw [h]; exact hv
theorem Zou (p : Int) (hpr : p ∈ PR) (hp1 : 5 <= p) (hp2 : p <= 47) (os : List (Option Int)) (h2 : 2 <= os.length) (hl : (os.length : Int) <= p) (hx : ∀ x ∈ fill os, 0 <= x /\ x < p) :
    ∃ (o : Bool) (L : List (List Int)), (L = [] /\ Zbl.run [I p, Lo true os] = .ok (.node .lst true [], [I p, Lo o os]) /\ Zap.run [I p, Lo true os] = .exc SP [I p, Lo true os]) \/
      (∃ ys, L = [ys] /\ (∀ y ∈ ys, 0 <= y /\ y < p) /\ ys.length = os.length /\ Zbl.run [I p, Lo true os] = .ok (.node .lst true [Ls false ys], [I p, Lo o os]) /\ Zap.run [I p, Lo true os] = .ok (Ls true ys, [I p, Lo true os])) := by
  have hpp : 0 < p := by omega
  have hfl := Ziw os
  by_cases hh : 2 < (holes 0 os).length
  . exact ⟨true, [], .inl ⟨rfl, Zem p os _ true (by omega) (.inl ⟨hh, rfl, rfl⟩), Zdj p os _ hpp (by omega) h2 hl hx (.inl ⟨hh, rfl⟩)⟩⟩
  match hq : holes 0 os with
  | [] =>
    have hos := Znp (Zqg hq)
    have hlo : ∀ o, Lo o os = Ls o (fill os) := fun o => by unfold Lo Ls; rw [hos]
    obtain ⟨c1, c2⟩ := Zls p (fill os) hpp hp2 (by omega)
    cases hg : good p (fill os) with
    | true => exact ⟨false, [fill os], .inr ⟨fill os, rfl, hx, hfl, Zem p os _ false (by omega) (.inr (.inr ⟨hq, by rw [hlo, hlo]; exact c1 hg⟩)), Zdj p os _ hpp (by omega) h2 hl hx (.inr (.inr (.inr (.inl ⟨hq, hg, rfl⟩))))⟩⟩
    | false =>
      have c2 := c2 hg
      by_cases hS : (fill os).sum % p = 0
      . have hW : (wts 1 (fill os)).sum % p ≠ 0 := fun e => by rw [Zit.mpr ⟨hS, e⟩] at hg; cases hg
        have hR : ((rngI 0 (fill os).length).flatMap fun k => (rngI 1 (p - 1).toNat).flatMap (hitM p ((fill os).sum % p) ((wts 1 (fill os)).sum % p) (fill os) k)) = [] := Zel _ _ _ fun k _ _ => Zel _ _ _ fun m m1 m2 => if_neg fun q => by
          have q1 := q.1
          rw [hS, Int.zero_add, Int.emod_eq_of_lt (by omega) (by omega)] at q1
          omega
        rw [hR] at c2
        exact ⟨true, [], .inl ⟨rfl, Zem p os _ true (by omega) (.inr (.inr ⟨hq, by rw [hlo]; exact c2⟩)), Zdj p os _ hpp (by omega) h2 hl hx (.inr (.inr (.inr (.inr (.inr (.inl ⟨hq, hg, Zf9 p (fill os) hpp (by omega) (by omega) (fun i _ e => hW (by rw [hS, Int.mul_zero, Int.zero_emod] at e; exact e.symm)), rfl⟩))))))⟩⟩
      . have s0 := Int.emod_nonneg (fill os).sum (show p ≠ 0 by omega)
        have s1 := Int.emod_lt_of_pos (fill os).sum hpp
        have hm : ∀ m, 1 <= m -> m < p -> (((fill os).sum % p + m) % p = 0 ↔ m = p - (fill os).sum % p) := fun m m1 m2 => by
          have := Zj0 p (fill os).sum hpp m (by omega) m2
          rw [Int.add_zero] at this
          rw [this]
          have e2 : -((fill os).sum % p) % p = p - (fill os).sum % p := by
            rw [<- Int.add_emod_right, Int.emod_eq_of_lt (by omega) (by omega)]
            omega
          rw [e2]
        rcases ZjN (fun i : Nat => (((i : Int) + 1) * ((fill os).sum % p)) % p = (wts 1 (fill os)).sum % p) (fill os).length with ⟨r, r1, r2, r3⟩ | hn
        . have hgr := Zok hx r1
          have hR : ((rngI 0 (fill os).length).flatMap fun k => (rngI 1 (p - 1).toNat).flatMap (hitM p ((fill os).sum % p) ((wts 1 (fill os)).sum % p) (fill os) k)) = [Ls false ((fill os).set r (((fill os).getD r 0 - (fill os).sum % p) % p))] := by
            rw [ZgL (fun k => (rngI 1 (p - 1).toNat).flatMap (hitM p ((fill os).sum % p) ((wts 1 (fill os)).sum % p) (fill os) k)) (r : Int) _ 0 (by omega) (by omega) fun k k1 k2 kn => Zel _ _ _ fun m m1 m2 => if_neg fun q => by
              have q1 := (hm m m1 (by omega)).mp q.1
              have q2 := (Zj1 p (fill os).sum (wts 1 (fill os)).sum k hpp hS m q1).mp q.2
              have kk : ((k.toNat : Nat) : Int) = k := Int.toNat_of_nonneg k1
              have := Zqf p hpr (fill os).sum hS hp1 k.toNat r (by omega) (by omega) (by rw [kk, q2, r2])
              omega]
            rw [ZgL (hitM p ((fill os).sum % p) ((wts 1 (fill os)).sum % p) (fill os) (r : Int)) (p - (fill os).sum % p) _ 1 (by omega) (by omega) fun m m1 m2 mn => if_neg fun q => mn ((hm m m1 (by omega)).mp q.1)]
            unfold hitM
            rw [if_pos ⟨(hm _ (by omega) (by omega)).mpr rfl, (Zj1 p (fill os).sum (wts 1 (fill os)).sum r hpp hS _ rfl).mpr r2⟩, Int.toNat_natCast]
            have e : ((fill os).getD r 0 + (p - (fill os).sum % p)) % p = ((fill os).getD r 0 - (fill os).sum % p) % p := by
              have : (fill os).getD r 0 + (p - (fill os).sum % p) = (fill os).getD r 0 - (fill os).sum % p + p := by omega
              rw [this, Int.add_emod_right]
            rw [e]
          rw [hR] at c2
          refine ⟨true, [(fill os).set r (((fill os).getD r 0 - (fill os).sum % p) % p)], .inr ⟨_, rfl, ZhS hx r _ ⟨Int.emod_nonneg _ (by omega), Int.emod_lt_of_pos _ hpp⟩, by rw [List.length_set]; exact hfl, Zem p os _ true (by omega) (.inr (.inr ⟨hq, by rw [hlo]; exact c2⟩)), Zdj p os _ hpp (by omega) h2 hl hx (.inr (.inr (.inr (.inr (.inr (.inr ⟨_, hq, hg, Zlq p (fill os) hpp (by omega) (by omega) r r1 r2 r3, rfl⟩))))))⟩⟩
        . have hR : ((rngI 0 (fill os).length).flatMap fun k => (rngI 1 (p - 1).toNat).flatMap (hitM p ((fill os).sum % p) ((wts 1 (fill os)).sum % p) (fill os) k)) = [] := Zel _ _ _ fun k k1 k2 => Zel _ _ _ fun m m1 m2 => if_neg fun q => by
            have q1 := (hm m m1 (by omega)).mp q.1
            have q2 := (Zj1 p (fill os).sum (wts 1 (fill os)).sum k hpp hS m q1).mp q.2
            have kk : ((k.toNat : Nat) : Int) = k := Int.toNat_of_nonneg k1
            exact hn k.toNat (by omega) (by rw [kk]; exact q2)
          rw [hR] at c2
          exact ⟨true, [], .inl ⟨rfl, Zem p os _ true (by omega) (.inr (.inr ⟨hq, by rw [hlo]; exact c2⟩)), Zdj p os _ hpp (by omega) h2 hl hx (.inr (.inr (.inr (.inr (.inr (.inl ⟨hq, hg, Zf9 p (fill os) hpp (by omega) (by omega) hn, rfl⟩))))))⟩⟩
  | [i] =>
    obtain ⟨a1, a2, a3⟩ := Zfh os 0 i (by rw [hq]; exact List.mem_cons_self)
    have a2 : i < os.length := by omega
    have a3' : os.getD i.toNat none = none := by rwa [Int.sub_zero] at a3
    have gi : (fill os).getD i.toNat 0 = 0 := by rw [ZkW, a3']; rfl
    have hin : i.toNat < (fill os).length := by omega
    have hmem : ∀ x ∈ holes 0 os, x = i \/ x = i := fun x h => by rw [hq] at h; exact .inl (List.mem_singleton.mp h)
    have w0 := Int.emod_nonneg (-((fill os).sum % p)) (show p ≠ 0 by omega)
    have w1 := Int.emod_lt_of_pos (-((fill os).sum % p)) hpp
    have hfr := fun R hR => ZiX p os [i] R hpp hp2 (by omega) (.inr ⟨i, rfl, a1, a2, hR⟩)
    have e1 : ((fill os).set i.toNat (-((fill os).sum % p) % p)).sum % p = 0 := by
      rw [Zjy _ _ _ hin, gi, Int.sub_zero]
      have := (Zj0 p (fill os).sum hpp _ w0 w1).mpr rfl
      rw [Int.add_zero, Int.emod_add_emod] at this
      exact this
    have e2 : (wts 1 ((fill os).set i.toNat (-((fill os).sum % p) % p))).sum % p = ((wts 1 (fill os)).sum % p + -((fill os).sum % p) % p * (i + 1)) % p := by
      rw [ZlG _ _ _ _ hin, gi, Int.sub_zero, Int.toNat_of_nonneg a1, Int.emod_add_emod, Int.mul_comm, Int.add_comm 1 i]
    generalize hw : -((fill os).sum % p) % p = w at w0 w1 e1 e2
    have hu : ∀ a, 0 <= a -> a < p -> ((((fill os).sum % p + a + 0) % p = 0) ↔ a = w) := fun a h1 h2 => by rw [<- hw]; exact Zj0 p (fill os).sum hpp a h1 h2
    have hR : (rngI 0 p.toNat).flatMap (hit1 p ((fill os).sum % p) ((wts 1 (fill os)).sum % p) os i) = hit1 p ((fill os).sum % p) ((wts 1 (fill os)).sum % p) os i w := ZgL _ w _ 0 w0 (by omega) fun a h1 h2 hn => if_neg fun q => hn ((hu a h1 (by omega)).mp q.1)
    by_cases hW : ((wts 1 (fill os)).sum % p + w * (i + 1)) % p = 0
    . have hg : good p ((fill os).set i.toNat w) = true := Zit.mpr ⟨e1, by rw [e2]; exact hW⟩
      have hh1 : hit1 p ((fill os).sum % p) ((wts 1 (fill os)).sum % p) os i w = [Ls false ((fill os).set i.toNat w)] := by
        unfold hit1
        rw [if_pos ⟨(hu w w0 w1).mpr rfl, hW⟩, ZlH hmem a1 a1, List.set_set]
      refine ⟨true, [(fill os).set i.toNat w], .inr ⟨_, rfl, ZhS hx _ _ ⟨w0, w1⟩, by rw [List.length_set]; exact hfl, Zem p os _ true (by omega) (.inr (.inl ⟨by rw [hq]; simp, by rw [hq]; simp, by rw [hq]; exact hfr _ (by rw [hR, hh1]), rfl⟩)), Zdj p os _ hpp (by omega) h2 hl hx (.inr (.inr (.inl ⟨i, hq, a1, a2, by rw [hw]; exact hg, by rw [hw]⟩)))⟩⟩
    . have hg : good p ((fill os).set i.toNat w) = false := by
        rw [Bool.eq_false_iff]
        exact fun h => hW (by rw [<- e2]; exact (Zit.mp h).2)
      have hh1 : hit1 p ((fill os).sum % p) ((wts 1 (fill os)).sum % p) os i w = [] := if_neg fun q => hW q.2
      refine ⟨true, [], .inl ⟨rfl, Zem p os _ true (by omega) (.inr (.inl ⟨by rw [hq]; simp, by rw [hq]; simp, by rw [hq]; exact hfr _ (by rw [hR, hh1]), rfl⟩)), Zdj p os _ hpp (by omega) h2 hl hx (.inr (.inr (.inr (.inr (.inl ⟨i, hq, a1, a2, by rw [hw]; exact hg, by
        rw [hw]
        exact Zf9 p _ hpp (by omega) (by rw [List.length_set]; omega) (fun k _ e => hW (by rw [e1, Int.mul_zero, Int.zero_emod, e2] at e; exact e.symm)), rfl⟩)))))⟩⟩
  | [i, j] =>
    obtain ⟨a1, a2, a3⟩ := Zfh os 0 i (by rw [hq]; exact List.mem_cons_self)
    obtain ⟨b1, b2, b3⟩ := Zfh os 0 j (by rw [hq]; exact List.mem_cons_of_mem _ List.mem_cons_self)
    have hij := Ziv os 0
    rw [hq] at hij
    have hij := (List.pairwise_cons.mp hij).1 j List.mem_cons_self
    have a2 : i < os.length := by omega
    have b2 : j < os.length := by omega
    have b3' : os.getD j.toNat none = none := by rwa [Int.sub_zero] at b3
    have gj : (fill os).getD j.toNat 0 = 0 := by rw [ZkW, b3']; rfl
    have hmem : ∀ x ∈ holes 0 os, x = i \/ x = j := fun x h => by rw [hq] at h; simpa using h
    obtain ⟨v, w, v0, v1, w0, w1, hv, hw, hu⟩ := Zqe p hpr hp1 ((fill os).sum % p) ((wts 1 (fill os)).sum % p) i j a1 hij (by omega)
    have hR : ((rngI 0 p.toNat).flatMap fun a => (rngI 0 p.toNat).flatMap (hit2 p ((fill os).sum % p) ((wts 1 (fill os)).sum % p) os i j a)) = [Ls false (((fill os).set j.toNat v).set i.toNat w)] := by
      rw [fm2 p w v (hit2 p ((fill os).sum % p) ((wts 1 (fill os)).sum % p) os i j) w0 w1 v0 v1 fun a b h1 h2 h3 h4 hn => if_neg fun q => hn ((hu a b h1 h2 h3 h4).mp q)]
      unfold hit2
      rw [if_pos ((hu w v w0 w1 v0 v1).mpr ⟨rfl, rfl⟩), ZlH hmem a1 b1]
    rw [Int.emod_emod, Int.emod_emod] at hv
    rw [Int.emod_add_emod] at hw
    have r := Zoo p (fill os) i j v w hpp (by omega) (by omega) a1 hij (by omega) v0 v1 hv (fun s s0 s1 e => ZhO p hpr s v (j - i) (by omega) (by omega) s0 s1 v0 v1 (by rw [Int.sub_mul]; exact Int.dvd_of_emod_eq_zero (Int.emod_eq_emod_iff_emod_sub_eq_zero.mp e))) (by rw [Zjy _ _ _ (by omega), gj, Int.sub_zero]; exact hw.symm)
    exact ⟨true, [((fill os).set j.toNat v).set i.toNat w], .inr ⟨_, rfl, ZhS (ZhS hx _ _ ⟨v0, v1⟩) _ _ ⟨w0, w1⟩, by rw [List.length_set, List.length_set]; exact hfl, Zem p os _ true (by omega) (.inr (.inl ⟨by rw [hq]; simp, by rw [hq]; simp, by rw [hq]; exact ZiX p os [i, j] _ hpp hp2 (by omega) (.inl ⟨i, j, rfl, a1, a2, b1, b2, hR.symm⟩), rfl⟩)), Zdj p os _ hpp (by omega) h2 hl hx (.inr (.inl ⟨i, j, _, hq, r, rfl⟩))⟩⟩
  | _ :: _ :: _ :: _ => rw [hq] at hh; simp at hh
theorem Zov (os : List (Option Int)) (k : Nat) : fill (os.set k none) = (fill os).set k 0 := List.map_set
theorem Znq (xs : List Int) : fill (xs.map some) = xs := by
  unfold fill
  rw [List.map_map]
  exact List.map_id' xs
theorem Znr (h3 : lk 3 = false) (h4 : lk 4 = false) (h5 : lk 5 = false) (h6 : lk 6 = false) (p c : Int) (xs : List Int) (hp : 5 <= p) (hp2 : p <= 47) (h1 : 1 <= xs.length) (h2 : xs.length <= 60) : ∀ (cs : List Int) (zs : List Int) (n t : Int) (a b : D), zs.length = xs.length -> (∀ x ∈ zs, 0 <= x /\ x < p) -> ∃ (zs' : List Int) (n' t' : Int) (a' b' : D), zs'.length = xs.length /\ (∀ x ∈ zs', 0 <= x /\ x < p) /\
    forL (asgT lk (.name 5)) (exs ⟨lk, fok, fuel⟩ [.asg 6 (.call ZK [.v 4, .bf .len [.v 0]]), .sub 3 [] (.v 6) (.bin .Mod (.bin .Add (.bin .Add (.ix (.v 0) (.v 6)) (.k (.int 1))) (.call ZK [.v 4, .bin .Sub (.v 1) (.k (.int 1))])) (.v 1))]) (dI cs) [Ls true xs, I p, I c, Ls true zs, .node .lst true [I c, I n, I t], a, b]
      = .ok (.nx, [Ls true xs, I p, I c, Ls true zs', .node .lst true [I c, I n', I t'], a', b']) := by
  intro cs
  induction cs with
  | nil => exact fun zs n t a b hz hs => ⟨zs, n, t, a, b, hz, hs, rfl⟩
  | cons k cs ih =>
    intro zs n t a b hz hs
    have hpp : 0 < p := by omega
    obtain ⟨r, n1, t1, q1, q2, hn1⟩ := Zgl c n t (xs.length : Int) (by omega) (by omega)
    obtain ⟨d, n2, t2, q3, q4, hn2⟩ := Zgl c n1 t1 (p - 1) (by omega) (by omega)
    obtain ⟨zs', n', t', a', b', hz', hs', ih⟩ := ih (zs.set r.toNat ((xs.getD r.toNat 0 + 1 + d) % p)) n2 t2 (I k) (I r) (by rw [List.length_set]; exact hz) (fun x h => by
      rcases List.mem_or_eq_of_mem_set h with h | h
      . exact hs x h
      . rw [h]; exact ⟨Int.emod_nonneg _ (by omega), Int.emod_lt_of_pos _ hpp⟩)
    refine ⟨zs', n', t', a', b', hz', hs', ?_⟩
    have ql : ((dI xs).length : Int) = (xs.length : Int) := by rw [ZP]
    have k2 : ZK.lend = true := rfl
    have ix := ixI xs r q1 q2
    have s1 : ∀ (δ : List D) (v : Int), mdR 3 δ (ZaL (.sc (.int r)) (.sc (.int v))) (some (.node .lst true (dI zs))) = .ok (.sc .non, δ.set 3 (.node .lst true (dI (zs.set r.toNat v)))) := fun δ v => ZfS 3 δ v zs r q1 (by omega)
    rw [<- ih, Zx, ZbA]
    repeat (first | walk_at "ev" | simp only [h3, h4, h5, h6, k2, hn1, hn2, ql, ix, s1, Zr, ZF _ _ hpp])
theorem Zns (h3 : lk 3 = false) (h4 : lk 4 = false) (h5 : lk 5 = false) (p c : Int) (xs : List Int) (hp : 5 <= p) (h1 : 1 <= xs.length) (h2 : xs.length <= 60) (b : D) : ∀ (cs : List Int) (os : List (Option Int)) (n t : Int) (a : D), os.length = xs.length -> (∀ x ∈ fill os, 0 <= x /\ x < p) -> ∃ (os' : List (Option Int)) (n' t' : Int) (a' : D), os'.length = xs.length /\ (∀ x ∈ fill os', 0 <= x /\ x < p) /\
    forL (asgT lk (.name 5)) (exs ⟨lk, fok, fuel⟩ [.sub 3 [] (.call ZK [.v 4, .bf .len [.v 0]]) (.k .non)]) (dI cs) [Ls true xs, I p, I c, Lo true os, .node .lst true [I c, I n, I t], a, b]
      = .ok (.nx, [Ls true xs, I p, I c, Lo true os', .node .lst true [I c, I n', I t'], a', b]) := by
  intro cs
  induction cs with
  | nil => exact fun os n t a hz hs => ⟨os, n, t, a, hz, hs, rfl⟩
  | cons k cs ih =>
    intro os n t a hz hs
    obtain ⟨r, n1, t1, q1, q2, hn1⟩ := Zgl c n t (xs.length : Int) (by omega) (by omega)
    obtain ⟨os', n', t', a', hz', hs', ih⟩ := ih (os.set r.toNat none) n1 t1 (I k) (by rw [List.length_set]; exact hz) (fun x h => by
      rw [Zov] at h
      rcases List.mem_or_eq_of_mem_set h with h | h
      . exact hs x h
      . rw [h]; omega)
    refine ⟨os', n', t', a', hz', hs', ?_⟩
    have ql : ((dI xs).length : Int) = (xs.length : Int) := by rw [ZP]
    have k2 : ZK.lend = true := rfl
    have hi : ixN' (dO os).length r = some r.toNat := by
      have := Zc0 (dO os).length r.toNat (by rw [Zgm]; omega)
      rwa [Int.toNat_of_nonneg q1] at this
    have s1 : ∀ δ : List D, mdR 3 δ (ZaL (.sc (.int r)) (.sc .non)) (some (.node .lst true (dO os))) = .ok (.sc .non, δ.set 3 (.node .lst true (dO (os.set r.toNat none)))) := fun δ => by rw [ZcP 3 δ _ _ r r.toNat hi, Zsg]
    rw [<- ih, Zx, ZbA]
    repeat (first | walk_at "ev" | simp only [h3, h4, h5, k2, hn1, ql, s1, Zr, Zah])
theorem Zu9 (r : Int) (h0 : 0 <= r) (h1 : r < 5) : ∃ k : Int, 0 <= k /\ k <= 5 /\ ((ixN' 5 r).bind fun j => [D.sc (.int 0), D.sc (.int 1), D.sc (.int 1), D.sc (.int 2), D.sc (.int 3)][j]?) = some (.sc (.int k)) := by
  have hb : ∀ k : Nat, k < 5 -> 0 <= ([0, 1, 1, 2, 3] : List Int).getD k 0 /\ ([0, 1, 1, 2, 3] : List Int).getD k 0 <= 5 := by decide
  obtain ⟨b1, b2⟩ := hb r.toNat (by omega)
  exact ⟨_, b1, b2, ixI [0, 1, 1, 2, 3] r h0 (by simpa using h1)⟩
theorem ZuA (r : Int) (h0 : 0 <= r) (h1 : r < 6) : ∃ k : Int, 0 <= k /\ k <= 5 /\ ((ixN' 6 r).bind fun j => [D.sc (.int 0), D.sc (.int 0), D.sc (.int 1), D.sc (.int 2), D.sc (.int 2), D.sc (.int 3)][j]?) = some (.sc (.int k)) := by
  have hb : ∀ k : Nat, k < 6 -> 0 <= ([0, 0, 1, 2, 2, 3] : List Int).getD k 0 /\ ([0, 0, 1, 2, 2, 3] : List Int).getD k 0 <= 5 := by decide
  obtain ⟨b1, b2⟩ := hb r.toNat (by omega)
  exact ⟨_, b1, b2, ixI [0, 0, 1, 2, 2, 3] r h0 (by simpa using h1)⟩
theorem Zmv (p c : Int) (xs : List Int) (hp : 5 <= p) (hp2 : p <= 47) (h1 : 1 <= xs.length) (h2 : xs.length <= 60) (hx : ∀ x ∈ xs, 0 <= x /\ x < p) : ∃ os : List (Option Int), os.length = xs.length /\ (∀ x ∈ fill os, 0 <= x /\ x < p) /\ Zbb.run [Ls true xs, I p, I c] = .ok (Lo true os, [Ls true xs, I p, I c]) := by
  obtain ⟨n0, hs0⟩ := Zmq c
  obtain ⟨r, n1, t1, q1, q2, hn1⟩ := Zgl c n0 0 5 (by decide) (by decide)
  obtain ⟨k, k0, k5, hk⟩ := Zu9 r q1 q2
  obtain ⟨zs, n2, t2, a2, b2, hz, hs, hl1⟩ := Znr (fun j => decide (j < 3) || walked [.ix (.kl [(.int 0), (.int 1), (.int 1), (.int 2), (.int 3)]) (.call ZK [.v 4, .k (.int 5)])] j) (fun _ _ => false) 0 rfl rfl rfl rfl p c xs hp hp2 h1 h2 (rngI 0 k.toNat) xs n1 t1 .hole .hole rfl hx
  obtain ⟨r', n3, t3, q3, q4, hn3⟩ := Zgl c n2 t2 6 (by decide) (by decide)
  obtain ⟨k', k0', k5', hk'⟩ := ZuA r' q3 q4
  obtain ⟨os, n4, t4, a4, ho, hos, hl2⟩ := Zns (fun j => decide (j < 3) || walked [.ix (.kl [(.int 0), (.int 0), (.int 1), (.int 2), (.int 2), (.int 3)]) (.call ZK [.v 4, .k (.int 6)])] j) (fun _ _ => false) 0 rfl rfl rfl p c xs hp h1 h2 b2 (rngI 0 k'.toNat) (zs.map some) n3 t3 a2 (by rw [List.length_map]; exact hz) (by rw [Znq]; exact hs)
  refine ⟨os, ho, hos, ?_⟩
  rw [show Zbb.run = Zi C0 3 7 Zcb from rfl]
  rw [runA (show [Ls true xs, I p, I c].length = 3 from rfl)]
  unfold Zcb
  simp only [List.replicate, Nat.reduceSub]
  rw [Zqd] at hl2
  simp only [walked, Bool.or_false] at hl1 hl2
  have it1 := Zeu k (by omega)
  have it2 := Zeu k' (by omega)
  have l1 : Zct.lend = true := rfl
  have l2 : ZK.lend = true := rfl
  have hw5 : ∀ u1 u2 u3 u4 u5 : D, newL [u1, u2, u3, u4, u5] = some (.node .lst true [u1, u2, u3, u4, u5]) := fun u1 u2 u3 u4 u5 => Zas _ (by rw [szl]; simp)
  have hw6 : ∀ u1 u2 u3 u4 u5 u6 : D, newL [u1, u2, u3, u4, u5, u6] = some (.node .lst true [u1, u2, u3, u4, u5, u6]) := fun u1 u2 u3 u4 u5 u6 => Zas _ (by rw [szl]; simp)
  (repeat (first | walk_at "ev" | simp only [l1, l2, hs0, hn1, hn3, hk, hk', it1, it2, hl1, hl2, hw5, hw6, Zr, Zah])) <;> rfl
theorem Zql (ys : List Int) : SeqAt.shaped (.list [.list (ys.map PyData.int)]) = true := by
  have h : (PyData.list [.list (ys.map PyData.int)]).canLay0 = true /\ (PyData.list [.list (ys.map PyData.int)]).depth <= 64 := by
    simp only [PyData.canLay0, PyData.canLayAll0, PyData.depth, PyData.depthAll, Zij, Zhp]
    decide
  simp only [SeqAt.shaped, h.1, h.2, decide_true, Bool.and_self]
theorem Znt (ys : List Int) : eqW (.nd .lst [.node .lst false (dI ys)]) (.nd .lst []) = some false := by
  show (py (.node .lst false [.node .lst false (dI ys)])).bind (fun a => (py (.node .lst false [])).bind fun b => eqPy a b) = _
  simp only [py, pyL, Zii, Option.map_some, Option.bind_some]
  unfold eqPy
  rw [if_pos ⟨Zql ys, by decide⟩]
  rfl
theorem c_e1 (ys : List Int) : Zb5 .Eq (.nd .lst [.node .lst false (dI ys)]) (.nd .lst []) = some false := Znt ys
theorem c_n1 (ys : List Int) : Zb5 .NotEq (.nd .lst [.node .lst false (dI ys)]) (.nd .lst []) = some true := by
  show (eqW (.nd .lst [.node .lst false (dI ys)]) (.nd .lst [])).map (!·) = _
  rw [Znt]
  rfl
theorem c_e0 : Zb5 .Eq (.nd .lst []) (.nd .lst []) = some true := by kernel_rfl
theorem c_n0 : Zb5 .NotEq (.nd .lst []) (.nd .lst []) = some false := by kernel_rfl
noncomputable def ZiY : List S := [.asg 5 (.call Zbb [.v 3, .v 1, .v 4]), .asg 6 (.bf .list [.v 5]), .asg 7 (.call ZaR [.v 1, .v 6, .k (.int 1)]), .asg 8 (.call Zbl [.v 1, .v 5]), .iff (.or (.cmp .NotEq (.v 6) (.v 5)) (.cmp .Gt (.bf .len [.v 8]) (.k (.int 1)))) [.ret (.k (.bl false))] [], .iff (.and (.cmp .Eq (.v 8) (.lst [])) (.cmp .NotEq (.v 7) (.tup [.k (.int 3), .k .non]))) [.ret (.k (.bl false))] [], .iff (.or (.and (.cmp .NotEq (.v 8) (.lst [])) (.cmp .NotEq (.v 7) (.tup [.k (.int 0), .ix (.v 8) (.k (.int 0))]))) (.and (.cmp .NotEq (.v 8) (.lst [])) (.nt (.call Zcm [.ix (.v 7) (.k (.int 1)), .v 1])))) [.ret (.k (.bl false))] []]
theorem Zsr (h4 : lk 4 = false) (h5 : lk 5 = false) (h6 : lk 6 = false) (h7 : lk 7 = false) (h8 : lk 8 = false) (s z : D) (p : Int) (hpr : p ∈ PR) (hp : 5 <= p) (hp2 : p <= 47) (xs : List Int) (hx1 : 2 <= xs.length) (hx2 : (xs.length : Int) <= p) (hx : ∀ x ∈ xs, 0 <= x /\ x < p) : ∀ (cs : List Int) (a b c d e : D), ∃ (a' b' c' d' e' : D),
    forL (asgT lk (.name 4)) (exs ⟨lk, fok, fuel⟩ ZiY) (dI cs) [s, I p, z, Ls true xs, a, b, c, d, e] = .ok (.nx, [s, I p, z, Ls true xs, a', b', c', d', e']) := by
  intro cs
  induction cs with
  | nil => exact fun a b c d e => ⟨a, b, c, d, e, rfl⟩
  | cons x cs ih =>
    intro a b c d e
    obtain ⟨os, ho, hos, ht⟩ := Zmv p x xs hp hp2 (by omega) (by omega) hx
    obtain ⟨o, L, hd⟩ := Zou p hpr hp hp2 os (by omega) (by omega) hos
    have k1 : Zbb.lend = true := rfl
    have k2 : ZaR.lend = true := rfl
    have k3 : Zbl.lend = true := rfl
    have k4 : Zcm.lend = true := rfl
    have hwt : ∀ u v : D, newT [u, v] = some (.node .tup true [u, v]) := fun u v => by unfold newT; rw [if_pos (by rw [szl]; simp)]
    have hn0 : newL [] = some (.node .lst true []) := Zas _ (by simp)
    have ix0 : ∀ u v : D, ((ixN' 2 0).bind fun j => [u, v][j]?) = some u := fun u v => rfl
    have ix1 : ∀ u v : D, ((ixN' 2 1).bind fun j => [u, v][j]?) = some v := fun u v => rfl
    have ix10 : ∀ u : D, ((ixN' 1 0).bind fun j => [u][j]?) = some u := fun u => rfl
    have cn := Zu8 os
    have z1 : ¬ (1 : Int) < ((0 : Nat) : Int) := by decide
    have z2 : ¬ (1 : Int) < ((1 : Nat) : Int) := by decide
    rcases hd with ⟨_, d1, d2⟩ | ⟨ys, _, y1, y2, d1, d2⟩
    . have m1 := Zqi p _ d2
      have c33 := Zsf
      have q1 := c_e0
      have q2 := c_n0
      obtain ⟨a', b', c', d', e', ih⟩ := ih (I x) (Lo o os) (Lo true os) (.node .tup true [I 3, .sc .non]) (.node .lst true [])
      refine ⟨a', b', c', d', e', ?_⟩
      rw [<- ih, Zx, ZbA]
      unfold ZiY
      cases o <;> (repeat (first | walk_at "ev" | simp only [h4, h5, h6, h7, h8, k1, k2, k3, ht, m1, d1, cn, c33, q1, q2, hwt, hn0, z1, Zr, Zah, V.int.injEq]))
    . have m1 := Zqh p _ ys d2
      have cq := Zu6 ys
      have q1 := c_e1 ys
      have q2 := c_n1 ys
      have rr := Zqj p ys y1 (by omega)
      obtain ⟨a', b', c', d', e', ih⟩ := ih (I x) (Lo o os) (Lo true os) (.node .tup true [I 0, Ls false ys]) (.node .lst true [Ls false ys])
      refine ⟨a', b', c', d', e', ?_⟩
      rw [<- ih, Zx, ZbA]
      unfold ZiY
      cases o <;> (repeat (first | walk_at "ev" | simp only [h4, h5, h6, h7, h8, k1, k2, k3, k4, ht, m1, d1, cn, cq, q1, q2, rr, hwt, hn0, ix0, ix1, ix10, z2, Zr, Zah, V.int.injEq]))
theorem Zss (p : Int) (xs : List Int) (l : Int) (l1 : 0 <= l) (l2 : l < p) (l3 : (wts 1 (xs ++ [other p xs l, l])).sum % p = 0) : xs ++ [other p xs l, l] = lab p xs := by
  rw [ZkT] at l3
  have e : l = lst2 p xs := by
    unfold lst2
    generalize ((xs.length : Int) + 1) * xs.sum = A at l3 ⊢
    generalize (wts 1 xs).sum = B at l3 ⊢
    rw [<- Int.emod_eq_of_lt l1 l2]
    refine Int.emod_eq_emod_iff_emod_sub_eq_zero.mpr ?_
    rw [<- l3]
    congr 1
    omega
  unfold lab
  rw [<- e]
theorem Zow (xs : List Int) (a b : Int) : cutD (dI (xs ++ [a, b])) none (some (-2)) = dI xs := by
  rw [ZfY]
  congr 1
  unfold cutI
  have e : HT.sIx (xs ++ [a, b]).length (xs ++ [a, b]).length (some (-2)) = xs.length := by
    rw [List.length_append]
    show HT.sIx (xs.length + 2) (xs.length + 2) (some (-2)) = xs.length
    unfold HT.sIx
    simp
    try omega
  rw [e]
  show List.take (xs.length - 0) (List.drop 0 (xs ++ [a, b])) = xs
  simp
theorem ZlI (a : E) (c : M Op) : ZdH (.neg a) c = ((c.bnd view).bnd fun w => lift (intP w)) := (rfl)
theorem Zox (ns : List Int) (h : ns.length <= 63) : ∃ ds', Zmp.run [scr ns] = .ok (.sc (.bl true), ds') := by
  obtain ⟨p, hp1, hp2, hpr, hp⟩ := Zng (ns.getD 0 0)
  have hpp : 0 < p := by omega
  have hp0 : 0 < p - 1 := by omega
  have n0 : ZZ.run [scr ns, I 0] = .ok (I (ns.getD 0 0), [scr ns, I 0]) := ZhM ns 0
  have n1 : ZZ.run [scr ns, I 1] = .ok (I (ns.getD 1 0), [scr ns, I 1]) := ZhM ns 1
  have n2 : ZZ.run [scr ns, I 2] = .ok (I (ns.getD 2 0), [scr ns, I 2]) := ZhM ns 2
  generalize ns.getD 0 0 = w0 at n0 hp
  generalize ns.getD 1 0 = w1 at n1
  generalize ns.getD 2 0 = w2 at n2
  have hz : ∃ z : Nat, (2 + w1 / 3 % (p - 1) : Int) = z /\ (z : Int) <= p /\ 2 <= z := by
    have a1 := Int.emod_nonneg (w1 / 3) (show p - 1 ≠ 0 by omega)
    have a2 := Int.emod_lt_of_pos (w1 / 3) hp0
    exact ⟨(2 + w1 / 3 % (p - 1)).toNat, by omega, by omega, by omega⟩
  obtain ⟨z, hz, hz2, hz3⟩ := hz
  obtain ⟨xs, a0, hxl, hxs, hrow⟩ := Znl (fun i => decide (1 <= i)) (fun _ _ => false) 0 rfl p hpp ns z 0 [] .hole (by simp)
  rw [List.length_nil, Nat.zero_add] at hxl
  have hit : itW .rng1 [.sc (.int (z : Int))] = some (dI (rngI 0 z)) := by
    have := Zeu (z : Int) (by omega)
    rwa [Int.toNat_natCast] at this
  have k1 : ZZ.lend = true := rfl
  have k2 : Zda.lend = true := rfl
  have k3 : ZbZ.lend = true := rfl
  have k4 : Zai.lend = true := rfl
  have b3 : ∀ a : Int, binW .FloorDiv (.sc (.int a)) (.sc (.int 3)) = some (.sc (.int (a / 3))) := fun a => ZiB _ _ (by decide)
  have b4 : ∀ a : Int, binW .Mod (.sc (.int a)) (.sc (.int 3)) = some (.sc (.int (a % 3))) := fun a => ZF _ _ (by decide)
  have hcm : ∀ a b c d e f g : D, Zb6 1 [1, 0] (Zb0 (fun _ _ => false) 0 1 (.name 0) [] (.bin .Mod (.call ZZ [.v 2, .bin .Add (.k (.int 3)) (.v 0)]) (.v 1)) (dI (rngI 0 z)) []) [scr ns, I p, a, b, c, d, e, f, g] = .ok (Ls true xs, [scr ns, I p, a, b, c, d, e, f, g]) := fun a b c d e f g => by
    replace hrow : Zb0 (fun _ _ => false) 0 1 (.name 0) [] (.bin .Mod (.call ZZ [.v 2, .bin .Add (.k (.int 3)) (.v 0)]) (.v 1)) (dI (rngI 0 z)) [] [.hole, I p, scr ns] = _ := hrow
    rw [ZbH (js := [1, 0]) (caps := [I p, scr ns]) (δ1 := [.hole, .hole, a, b, c, d, e, f, g]) rfl hrow (by rw [ZP, hxl, szl]; omega)]
    rfl
  have cut_sym : ∀ ys : List Int, (∀ y ∈ ys, 0 <= y /\ y < p) -> ∀ y ∈ cutI ys none (some (-2)), 0 <= y /\ y < p := fun ys hy y h => hy y (List.mem_of_mem_drop (List.mem_of_mem_take h))
  have hce : ∀ ys : List Int, 2 <= ys.length -> (cutI ys none (some (-2))).length = ys.length - 2 := fun ys h => ZnT ys 2 h (by decide)
  have hcut := ZfY ns (some 50) (some 62)
  have hcl := ZpB ns (some 50) (some 62)
  generalize cutI ns (some 50) (some 62) = cs at hcut hcl
  have hcat : binW .Add (.nd .lst [.sc (.int w2)]) (.nd .lst (dI cs)) = some (Ls true (w2 :: cs)) := by
    rw [Zmj [.sc (.int w2)] (dI cs) (by rw [List.length_append, ZP, szl]; show 1 + cs.length <= _; omega)]
    rfl
  have hw : ∀ u : D, newL [u] = some (.node .lst true [u]) := fun u => Zas _ (by rw [szl]; simp)
  have end_ : ∀ ys : List Int, ys.length = z -> (∀ y ∈ ys, 0 <= y /\ y < p) -> ∃ vs ws : List Int, cutD (dI ys) none (some (-2)) = dI vs /\ Zai.run [I p, Ls true vs] = .ok (Ls true ws, [I p, Ls true vs]) /\ cutD (dI ws) none (some (-2)) = dI vs := fun ys hl hy => by
    refine ⟨cutI ys none (some (-2)), lab p (cutI ys none (some (-2))), ZfY _ _ _, ?_, Zow _ _ _⟩
    have hl2 := hce ys (by omega)
    exact ZkV p _ true hpp (by omega) (by omega) (by omega) (cut_sym ys hy)
  have hc := ZfY xs none (some (-2))
  have hs := cut_sym xs hxs
  have hl2 := hce xs (by omega)
  generalize cutI xs none (some (-2)) = us at hc hs hl2
  obtain ⟨l, l1, l2, l3, hlab⟩ := Zni p us true hpp hp2 (by omega)
  rw [Zss p us l l1 l2 l3] at hlab
  have hsym := ZpZ p hpp us hs
  have hyl : (lab p us).length = z := by rw [Zqa, hl2, hxl]; omega
  generalize lab p us = ls at hlab hsym hyl
  show ∃ ds', Zi C0 1 9 Zh5 [scr ns] = .ok (.sc (.bl true), ds')
  rw [runA (show [scr ns].length = 1 from rfl)]
  unfold Zh5
  simp only [List.replicate, Nat.reduceSub]
  simp only [scr] at hcm n0 n1 n2
  have main := fun ys (hl : ys.length = z) hy => Zsr (fun j => decide (j < 1)) (fun _ _ => false) 0 rfl rfl rfl rfl rfl (D.node .frl false (ns.map fun i => D.sc (.int i))) (I z) p hpr hp1 hp2 ys (by omega) (by omega) hy (w2 :: cs) .hole .hole .hole .hole .hole
  simp only [Zx] at main
  unfold ZiY at main
  by_cases hc3 : 0 < w1 % 3
  . obtain ⟨vs, ws, e1, e2, e3⟩ := end_ ls hyl hsym
    obtain ⟨a', b', c', d', e', hfor⟩ := main ls hyl hsym
    have q1 := ZiC vs vs
    (repeat (first | walk_at "ev" | simp only [k1, k2, k3, k4, hp, n0, n1, n2, b3, b4, hz, hit, hcm, hc3, hc, ZF _ _ hp0, hlab, hw, hcut, hcat, Zr, hfor, ZlI, e1, e2, e3, q1])) <;> exact ⟨_, rfl⟩
  . obtain ⟨vs, ws, e1, e2, e3⟩ := end_ xs hxl hxs
    obtain ⟨a', b', c', d', e', hfor⟩ := main xs hxl hxs
    have q1 := ZiC vs vs
    (repeat (first | walk_at "ev" | simp only [k1, k2, k3, k4, hp, n0, n1, n2, b3, b4, hz, hit, hcm, hc3, ZF _ _ hp0, hw, hcut, hcat, Zr, hfor, ZlI, e1, e2, e3, q1])) <;> exact ⟨_, rfl⟩
end My
open PySem PySem.W PyProof.Rows
set_option maxRecDepth 100000 in
set_option maxHeartbeats 0 in
theorem PySem.Challenge.cw_barlabel_k25_whole_scanned_rows_holds : PySem.Challenge.rw_barlabel_k25_whole_scanned_rows.Holds := by
  w_on; o_law; k_head; (case hw => w_witness2)
  k_fill
  refine T.ZnQ (l := PySem.Challenge.rw_barlabel_k25_whole_scanned_rows) (k := 6) (x := "_law_script") (R := fun _ => My.Zmp.run) rfl rfl ⟨rfl, by decide, by decide⟩ (fun w h Y => PySem.W.kIn_of Y) ?F (fun _ ns hl => My.Zox ns hl)
  case F =>
    intro w mg fa h KX G hmg
    refine' My.Zsc KX G hmg ?xx_a ?xl_a ?xs_a ?xg_a ?xk_a ?xn_a ?xe_a ?xj_a ?xx_b ?xl_b ?xs_b ?xg_b ?xk_b ?xx_c ?xl_c ?xs_c ?xg_c ?xk_c ?xx_d ?xl_d ?xs_d ?xg_d ?xk_d ?xx_e ?xl_e ?xs_e ?xg_e ?xk_e ?xx_f ?xl_f ?xs_f ?xg_f ?xk_f ?xx_g ?xl_g ?xs_g ?xg_g ?xk_g ?xx_h ?xl_h ?xs_h ?xg_h ?xk_h ?xx_i ?xl_i ?xs_i ?xg_i ?xk_i ?xx_j ?xl_j ?xs_j ?xg_j ?xk_j ?xx_k ?xl_k ?xs_k ?xg_k ?xk_k ?xx_l ?xl_l ?xs_l ?xg_l ?xk_l ?xx_m ?xl_m ?xs_m ?xg_m ?xk_m ?xh_m ?xc_m ?x0_m ?x1_m ?x2_m ?x3_m ?xi_m ?xx_n ?xl_n ?xs_n ?xg_n ?xk_n ?xo1 ?xo2 ?x0 ?l0 ?c0 ?k0 ?x1 ?l1 ?c1 ?k1 ?x2 ?l2 ?c2 ?k2 ?x3 ?l3 ?c3 ?k3 ?x4 ?l4 ?c4 ?k4 ?x5 ?l5 ?c5 ?k5 ?x6 ?l6 ?c6 ?k6 ?x7 ?l7 ?c7 ?k7 ?x8 ?l8 ?c8 ?k8 ?x9 ?l9 ?c9 ?k9 ?x10 ?l10 ?c10 ?k10 ?x11 ?l11 ?c11 ?k11 ?x12 ?l12 ?c12 ?k12 ?x13 ?l13 ?c13 ?k13 ?x14 ?l14 ?c14 ?k14 ?x15 ?l15 ?c15 ?k15 ?x16 ?l16 ?c16 ?k16 ?x17 ?l17 ?c17 ?k17 ?x18 ?l18 ?c18 ?k18 ?x19 ?l19 ?c19 ?k19 ?x20 ?l20 ?c20 ?k20 ?x21 ?l21 ?c21 ?k21 ?x22 ?l22 ?c22 ?k22 ?x23 ?l23 ?c23 ?k23 ?x24 ?l24 ?c24 ?k24 ?x25 ?l25 ?c25 ?k25 ?z0 ?z1 ?z2 ?z3 ?z4 ?z5 ?z6 ?z7 ?z8 ?z9 ?z10 ?zc0
    (case xx_a => k_is); (case xl_a => k_is); (case xs_a => k_is); (case xg_a => k_is); (case xk_a => k_is); (case xn_a => k_is)
    (case xe_a => simp [L2.ZkG]); (case xj_a => k_is); (case xx_b => k_is); (case xl_b => k_is); (case xs_b => k_is); (case xg_b => k_is)
    (case xk_b => k_is); (case xx_c => k_is); (case xl_c => k_is); (case xs_c => k_is); (case xg_c => k_is); (case xk_c => k_is)
    (case xx_d => k_is); (case xl_d => k_is); (case xs_d => k_is); (case xg_d => k_is); (case xk_d => k_is); (case xx_e => k_is)
    (case xl_e => k_is); (case xs_e => k_is); (case xg_e => k_is); (case xk_e => k_is); (case xx_f => k_is); (case xl_f => k_is)
    (case xs_f => k_is); (case xg_f => k_is); (case xk_f => k_is); (case xx_g => k_is); (case xl_g => k_is); (case xs_g => k_is)
    (case xg_g => k_is); (case xk_g => k_is); (case xx_h => k_is); (case xl_h => k_is); (case xs_h => k_is); (case xg_h => k_is)
    (case xk_h => k_is); (case xx_i => k_is); (case xl_i => k_is); (case xs_i => k_is); (case xg_i => k_is); (case xk_i => k_is)
    (case xx_j => k_is); (case xl_j => k_is); (case xs_j => k_is); (case xg_j => k_is); (case xk_j => k_is); (case xx_k => k_is)
    (case xl_k => k_is); (case xs_k => k_is); (case xg_k => k_is); (case xk_k => k_is); (case xx_l => k_is); (case xl_l => k_is)
    (case xs_l => k_is); (case xg_l => k_is); (case xk_l => k_is); (case xx_m => k_is); (case xl_m => k_is); (case xs_m => k_is)
    (case xg_m => k_is); (case xk_m => k_is); (case xh_m => k_is); (case xc_m => k_is); (case x0_m => k_is); (case x1_m => k_is)
    (case x2_m => k_is); (case x3_m => k_is); (case xi_m => k_is); (case xx_n => k_is); (case xl_n => k_is); (case xs_n => k_is)
    (case xg_n => k_is); (case xk_n => k_is); (case xo1 => k_is); (case xo2 => k_is); (case x0 => k_is); (case l0 => k_is)
    (case c0 => k_is); (case k0 => k_is); (case x1 => k_is); (case l1 => k_is); (case c1 => k_is); (case k1 => k_is)
    (case x2 => k_is); (case l2 => k_is); (case c2 => k_is); (case k2 => k_is); (case x3 => k_is); (case l3 => k_is)
    (case c3 => k_is); (case k3 => k_is); (case x4 => k_is); (case l4 => k_is); (case c4 => k_is); (case k4 => k_is)
    (case x5 => k_is); (case l5 => k_is); (case c5 => k_is); (case k5 => k_is); (case x6 => k_is); (case l6 => k_is)
    (case c6 => k_is); (case k6 => k_is); (case x7 => k_is); (case l7 => k_is); (case c7 => k_is); (case k7 => k_is)
    (case x8 => k_is); (case l8 => k_is); (case c8 => k_is); (case k8 => k_is); (case x9 => k_is); (case l9 => k_is)
    (case c9 => k_is); (case k9 => k_is); (case x10 => k_is); (case l10 => k_is); (case c10 => k_is); (case k10 => k_is)
    (case x11 => k_is); (case l11 => k_is); (case c11 => k_is); (case k11 => k_is); (case x12 => k_is); (case l12 => k_is)
    (case c12 => k_is); (case k12 => k_is); (case x13 => k_is); (case l13 => k_is); (case c13 => k_is); (case k13 => k_is)
    (case x14 => k_is); (case l14 => k_is); (case c14 => k_is); (case k14 => k_is); (case x15 => k_is); (case l15 => k_is)
    (case c15 => k_is); (case k15 => k_is); (case x16 => k_is); (case l16 => k_is); (case c16 => k_is); (case k16 => k_is)
    (case x17 => k_is); (case l17 => k_is); (case c17 => k_is); (case k17 => k_is); (case x18 => k_is); (case l18 => k_is)
    (case c18 => k_is); (case k18 => k_is); (case x19 => k_is); (case l19 => k_is); (case c19 => k_is); (case k19 => k_is)
    (case x20 => k_is); (case l20 => k_is); (case c20 => k_is); (case k20 => k_is); (case x21 => k_is); (case l21 => k_is)
    (case c21 => k_is); (case k21 => k_is); (case x22 => k_is); (case l22 => k_is); (case c22 => k_is); (case k22 => k_is)
    (case x23 => k_is); (case l23 => k_is); (case c23 => k_is); (case k23 => k_is); (case x24 => k_is); (case l24 => k_is)
    (case c24 => k_is); (case k24 => k_is); (case x25 => k_is); (case l25 => k_is); (case c25 => k_is); (case k25 => k_is)
    (case z0 => k_is); (case z1 => k_is); (case z2 => k_is); (case z3 => k_is); (case z4 => k_is); (case z5 => k_is)
    (case z6 => k_is); (case z7 => k_is); (case z8 => k_is); (case z9 => k_is); (case z10 => k_is); (case zc0 => k_is)
