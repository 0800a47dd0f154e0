import PyProof.Rows.All
import Wide.All
import OpenK.AllK
import Wide.FinOn
import Lean
import PyProof.EqAt
import PyProof.EqKinds
import PyProof.TupleCall
import PySem.Challenge.RW_barlabel_k41_whole_scanned_as_the_row
set_option Elab.async false
set_option compiler.extract_closed false
set_option linter.all false
set_option maxRecDepth 100000
set_option maxHeartbeats 4100000
abbrev Fg := PySem.W.Frag
namespace PySem.W.Fast
def tw6536536932192567088 := ()
def tw5093591562812525495 := ()
def tw4768949917798766175 := ()
def tw13018781272922690517 := ()
def tw4786322743807358157 := ()
def tw5884823757194611628 := ()
def tw9719526544941837543 := ()
def tw9918628213806696610 := ()
def tw17926933080145638166 := ()
def tw14865539091647451136 := ()
def tw3890357382029496371 := ()
def tw3145755783012788596 := ()
def tw2292853398421435965 := ()
def tw10006367718512644485 := ()
def tw15035777222369198268 := ()
def tw2344310456791301420 := ()
def tw3991104402711635770 := ()
def tw2177527337023636467 := ()
def tw3499910673911856224 := ()
def tw14427499002126824061 := ()
def tw10435933760610347427 := ()
def tw2572928508612353936 := ()
def tw5152510701632254671 := ()
def tw11086750241806088380 := ()
def tw11522002216749678862 := ()
def tw16151566121134519316 := ()
def tw10593411928559274213 := ()
def tw11365049775554761937 := ()
def tw7406905902427540758 := ()
def tw6562824280330461195 := ()
def tw14092566511269596472 := ()
def tw5254809746306921930 := ()
def tw13856129837810618073 := ()
def tw16781882888323709461 := ()
def tw3364502356866729459 := ()
def tw10098716371933678337 := ()
def tw12578833503966225127 := ()
def tw505153487745003208 := ()
def tw8398720921846065563 := ()
def tw16936088293646691365 := ()
def tw3937210923485914646 := ()
def tw10474012198274274990 := ()
def tw4009801031129850597 := ()
def tw16125325346175353027 := ()
def tw2257447058852982766 := ()
def tw16598184282595702176 := ()
def tw10649964628360897654 := ()
def tw15230723316022930527 := ()
def tw13640207630187862233 := ()
def tw14461388070496836477 := ()
def tw14608690501787637625 := ()
def tw6762706916596023237 := ()
def tw16087463764663064146 := ()
def tw17663065062048686533 := ()
def tw17613659096071652412 := ()
def tw8024819074709144935 := ()
def tw11422824692823915980 := ()
def tw5605996724604744900 := ()
def tw10201921716259921680 := ()
def tw1141644450658358127 := ()
def tw1968500456558041907 := ()
def tw15776401206437803736 := ()
def tw17293067753356563026 := ()
def tw4358582395147850524 := ()
def tw13852002439035609496 := ()
def tw13980100730664667060 := ()
end PySem.W.Fast
namespace L2
open PySem PySem.Spec PyProof.Rows
noncomputable abbrev Key := Sum Int Str
noncomputable def Zhl : Key -> Value -> Bool
 | .inl k, v => Value.isInt k v
 | .inr x, v => Value.isStrOf x v
noncomputable def keyH (w : World) : Key -> Int
 | .inl k => hashInt k
 | .inr x => hashStr w x
theorem ZaB : ∀ {k : Key} {v : Value}, Zhl k v = true -> (∃ i t, k = Sum.inl i /\ v = Value.int i t) \/ (∃ x t, k = Sum.inr x /\ v = Value.str x t)
 | .inl i, v, h => by
  obtain ⟨t, e⟩ := Value.isInt_shape (k := i) (v := v) h
  exact .inl ⟨i, t, rfl, e⟩
 | .inr x, v, h => by
  obtain ⟨t, e⟩ := Value.isStrOf_shape (x := x) (v := v) h
  exact .inr ⟨x, t, rfl, e⟩
theorem Zmv (i : Int) (t : Tok) : Zhl (.inl i) (.int i t) = true := by simp [Zhl, Value.isInt]
theorem Zmw (x : Str) (t : Tok) : Zhl (.inr x) (.str x t) = true := by simp [Zhl, Value.isStrOf]
theorem Zq2 (a b : Int) : decide ((Sum.inl a : Key) = Sum.inl b) = (a == b) := by
 by_cases e : a = b
 . subst e; simp
 . have h : ¬ (Sum.inl a : Key) = Sum.inl b := fun q => e (Sum.inl.inj q)
   rw [decide_eq_false h]
   exact (beq_eq_false_iff_ne.mpr e).symm
theorem Zq3 (a b : Str) : decide ((Sum.inr a : Key) = Sum.inr b) = decide (a = b) := by
 by_cases e : a = b
 . subst e; simp
 . have h : ¬ (Sum.inr a : Key) = Sum.inr b := fun q => e (Sum.inr.inj q)
   rw [decide_eq_false h, decide_eq_false e]
theorem Zq4 (a : Int) (b : Str) : decide ((Sum.inl a : Key) = Sum.inr b) = false := decide_eq_false (fun q => nomatch q)
theorem Zq5 (a : Str) (b : Int) : decide ((Sum.inr a : Key) = Sum.inl b) = false := decide_eq_false (fun q => nomatch q)
noncomputable def Zaz (prog : Program) (w : World) : PySem.KeyKind prog w Key where
 is := Zhl
 hash := keyH w
 inj := fun v a b ha hb => by
  rcases ZaB ha with ⟨i, t, rfl, rfl⟩ | ⟨x, t, rfl, rfl⟩
  . rcases ZaB hb with ⟨j, u, rfl, e⟩ | ⟨y, u, rfl, e⟩
    . injection e with e1 _; rw [e1]
    . exact nomatch e
  . rcases ZaB hb with ⟨j, u, rfl, e⟩ | ⟨y, u, rfl, e⟩
    . exact nomatch e
    . injection e with e1 _; rw [e1]
 byValue := fun k v h => by
  rcases ZaB h with ⟨i, t, rfl, rfl⟩ | ⟨x, t, rfl, rfl⟩ <;> rfl
 pyHash := fun hv h => by
  rcases ZaB hv with ⟨i, t, rfl, rfl⟩ | ⟨x, t, rfl, rfl⟩
  . exact wpAny_pyHash_int h
  . exact wpAny_pyHash_str h
 eqBool := fun hu hv h => by
  rcases ZaB hu with ⟨i, t, rfl, rfl⟩ | ⟨x, t, rfl, rfl⟩
  . rcases ZaB hv with ⟨j, u, rfl, rfl⟩ | ⟨y, u, rfl, rfl⟩
    . rw [Zq2] at h; exact wpAny_eqBool_int h
    . rw [Zq4] at h; exact SeqAt.EqAt.int_str i t y u _ _ _ _ h
  . rcases ZaB hv with ⟨j, u, rfl, rfl⟩ | ⟨y, u, rfl, rfl⟩
    . rw [Zq5] at h; exact SeqAt.EqAt.str_int x t j u _ _ _ _ h
    . rw [Zq3] at h; exact wpAny_eqBool_str h
 «strs» := fun k x t v h => by
  rcases ZaB h with ⟨i, u, rfl, e⟩ | ⟨y, u, rfl, e⟩
  . exact nomatch e
  . injection e with e1 _
    subst e1
    cases v <;> rfl
theorem ZkG (prog : Program) (w : World) (i : Int) (t : Tok) : (Zaz prog w).is (.inl i) (.int i t) = true := Zmv i t
theorem ZkH (prog : Program) (w : World) (x : Str) (t : Tok) : (Zaz prog w).is (.inr x) (.str x t) = true := Zmw x t
end L2
namespace L2
open PySem PySem.Spec PyProof.Rows
inductive V where
 | non | bl (b : Bool) | int (i : Int) | str (x : Str) | byt (b : Array UInt8) | flt (b : UInt64) | ref (a : Addr) | ty (n : String)
 deriving DecidableEq
def RelV : V -> Value -> Prop
 | .non, u => u = Value.none
 | .bl b, u => u = Value.bool b
 | .int i, u => ∃ t, u = Value.int i t
 | .str x, u => ∃ t, u = Value.str x t
 | .byt b, u => ∃ t, u = Value.bytes b t
 | .flt b, u => ∃ t, u = Value.float b t
 | .ref a, u => u = Value.ref a
 | .ty n, u => u = Value.type n
abbrev Vals : List V -> List Value -> Prop := Paired RelV
theorem Vals.length {xs : List V} {us : List Value} (r : Vals xs us) : xs.length = us.length := Paired.length r
theorem Vals.get : ∀ {xs : List V} {us : List Value} {i : Nat} {x : V}, Vals xs us -> xs[i]? = some x -> ∃ u, us[i]? = some u /\ RelV x u
 | _, _, _, _, .nil, e => by simp at e
 | _, _, 0, _, .cons r _, e => by simp at e; subst e; exact ⟨_, rfl, r⟩
 | _, _, i + 1, x, .cons _ t, e => by
  obtain ⟨u, h1, h2⟩ := Vals.get (i := i) (x := x) t (by simpa using e)
  exact ⟨u, by simpa using h1, h2⟩
theorem Vals.set {x : V} {u : Value} (r : RelV x u) : ∀ {xs : List V} {us : List Value} (i : Nat), Vals xs us -> Vals (xs.set i x) (us.set i u)
 | _, _, _, .nil => .nil
 | _, _, 0, .cons _ t => .cons r t
 | _, _, i + 1, .cons q t => .cons q (Vals.set r i t)
theorem Vals.append : ∀ {xs ys : List V} {us ws : List Value}, Vals xs us -> Vals ys ws -> Vals (xs ++ ys) (us ++ ws)
 | _, _, _, _, .nil, s => s
 | _, _, _, _, .cons r t, s => .cons r (Vals.append t s)
theorem Vals.take : ∀ {xs : List V} {us : List Value} (n : Nat), Vals xs us -> Vals (xs.take n) (us.take n)
 | _, _, 0, _ => .nil
 | _, _, _ + 1, .nil => .nil
 | _, _, n + 1, .cons r t => .cons r (Vals.take n t)
theorem Vals.drop : ∀ {xs : List V} {us : List Value} (n : Nat), Vals xs us -> Vals (xs.drop n) (us.drop n)
 | _, _, 0, r => r
 | _, _, _ + 1, .nil => .nil
 | _, _, n + 1, .cons _ t => Vals.drop n t
def RelO : Option V -> Option Value -> Prop
 | some v, some u => RelV v u
 | none, none => True
 | _, _ => False
def KV {κ : Type} : List (κ × V) -> List (κ × Value) -> Prop := Paired fun (p : κ × V) (q : κ × Value) => p.1 = q.1 /\ RelV p.2 q.2
noncomputable def kV : Key -> V
 | .inl i => .int i
 | .inr x => .str x
inductive HO where
 | lst (xs : List V)
 | tup (xs : List V)
 | dK (kvs : List (Key × V)) | dT (kvs : List (List Key × V))
 | set (S : Int -> Bool) (n : Nat)
 | ins (C dx : Addr) (fs : List (Str × V))
 | own (x : Addr)
 | xd (fs : List (Str × V))
 | met (f x : Addr)
 | rng (lo hi : Int)
 | frz (o : Obj) (u : HO)
 | tbl (ps : Array Value)
 | ext (φ : Heap -> Prop)
noncomputable abbrev Hp := Addr -> Option HO
noncomputable def upd (H : Hp) (a : Addr) (o : HO) : Hp := fun b => if b = a then some o else H b
theorem Zr {H : Hp} {a : Addr} {o : HO} : upd H a o a = some o := by unfold upd; rw [if_pos rfl]
theorem Zv {H : Hp} {a b : Addr} {o : HO} (h : b ≠ a) : upd H a o b = H b := by unfold upd; rw [if_neg h]
theorem Zs3 {H : Hp} {a b : Addr} {o u : HO} (h : H a = some o) (h' : H b = some u) (d : o ≠ u) : a ≠ b := by
 intro e; subst e; rw [h] at h'; exact d (Option.some.inj h')
theorem ZcS {H : Hp} {a b : Addr} {o : HO} (h : H a = some o) (h' : H b = none) : a ≠ b := by
 intro e; subst e; rw [h] at h'; cases h'
section
variable (P : Program) (w : World)
def Zah (H : Hp) (h : Heap) (a : Addr) : HO -> Prop
 | .lst xs => xs.length <= sizeLine /\ ∃ (its : List Value) (n : Nat), Vals xs its /\ h.get? a = some { cls := .type "list", data := .seq its.toArray n }
 | .tup xs => xs.length <= sizeLine /\ ∃ its : List Value, Vals xs its /\ IsTup h a its.toArray
 | .dK kvs => kvs.length <= sizeLine /\ (a == sysModules) = false /\ ∃ vs, KV kvs vs /\ h.DictOf (Zaz P w) a vs
 | .dT kvs => kvs.length <= sizeLine /\ (a == sysModules) = false /\ ∃ xs : List (List Key × Addr × Value),
  Paired (fun (p : List Key × V) (q : List Key × Addr × Value) => p.1 = q.1 /\ H q.2.1 = some (.tup (p.1.map kV)) /\ RelV p.2 q.2.2) kvs xs /\
  ∃ o es ep, h.get? a = some o /\ o.ExactDict /\ o.data = .dict es ep /\ es.toList = xs.map (entryOfKey (tupleKind (Zaz P w))) /\ (xs.map (·.1)).Nodup
 | .set S n => h.SetOf (intKind P w) a S n
 | .ins C dx fs => H dx = some (.own a) /\ fs.length <= 1000 /\ dx ≠ a /\ h.get? a = some (PySem.W.instObj C dx) /\
  ∃ mA, h.Ns1 dx mA /\ (∀ f, RelO (fs.lookup f) (mA f)) /\ PySem.Within mA (fs.map (·.1))
 | .own _ => ∃ o, h.get? a = some o
 | .xd fs => ∃ mA, h.Ns1 a mA /\ ∀ f, RelO (fs.lookup f) (mA f)
 | .rng lo hi => ∃ t u v, h.get? a = some { cls := .type "range", data := .fields #[.int lo t, .int hi u, .int 1 v] }
 | .frz o u => h.get? a = some o /\ Zah H h a u
 | .tbl ps => h.get? a = some { cls := .none, data := .fields ps }
 | .met f x => h.get? a = some (PySem.W.methodObj (.ref f) (.ref x))
 | .ext φ => φ h /\ (∃ o, h.get? a = some o) /\ ∀ h1 h2 : Heap, φ h1 -> (∀ o, h1.get? a = some o -> h2.get? a = some o) -> φ h2
def HOk (H : Hp) (h : Heap) : Prop := ∀ a o, H a = some o -> Zah P w H h a o
end
section
variable {P : Program} {w : World} {H H' : Hp} {h h' : Heap} {a : Addr} {o : HO}
theorem Zah.lt (x : Zah P w H h a o) : a < h.objs.size := by
 cases o with
 | lst xs => obtain ⟨_, _, _, _, e⟩ := x; exact Heap.lt_size e
 | tup xs => obtain ⟨_, _, _, p⟩ := x; exact p.lt
 | dK kvs => obtain ⟨_, _, _, _, o, _, _, e, _⟩ := x; exact Heap.lt_size e
 | dT kvs => obtain ⟨_, _, _, _, o, _, _, e, _⟩ := x; exact Heap.lt_size e
 | set S n => obtain ⟨o, _, _, _, e, _⟩ := x; exact Heap.lt_size e
 | ins C dx fs => obtain ⟨_, _, _, e, _⟩ := x; exact Heap.lt_size e
 | own y => obtain ⟨_, e⟩ := x; exact Heap.lt_size e
 | xd fs => obtain ⟨_, ⟨_, _, _, e, _⟩, _⟩ := x; exact Heap.lt_size e
 | rng lo hi => obtain ⟨_, _, _, e⟩ := x; exact Heap.lt_size e
 | frz ob u => obtain ⟨e, _⟩ := x; exact Heap.lt_size e
 | tbl ps => exact Heap.lt_size (show h.get? a = some _ from x)
 | met f y => exact Heap.lt_size (show h.get? a = some _ from x)
 | ext φ => obtain ⟨_, ⟨_, e⟩, _⟩ := x; exact Heap.lt_size e
theorem Paired.mapP {α β : Type} {F G : α -> β -> Prop} : ∀ {l₁ : List α} {l₂ : List β}, Paired F l₁ l₂ -> (∀ a b, F a b -> G a b) -> Paired G l₁ l₂
 | _, _, .nil, _ => .nil
 | _, _, .cons r t, f => .cons (f _ _ r) (Paired.mapP t f)
theorem Zah.stay (x : Zah P w H h a o) (k : ∀ b u, (b = a \/ H b = some (.own a)) -> h.get? b = some u -> h'.get? b = some u)
 (ho : ∀ b, H b = some (.own a) -> H' b = some (.own a)) (ht : ∀ b xs, H b = some (.tup xs) -> H' b = some (.tup xs)) : Zah P w H' h' a o := by
 induction o with
 | lst xs => obtain ⟨z, its, n, r, e⟩ := x; exact ⟨z, its, n, r, k _ _ (.inl rfl) e⟩
 | tup xs => obtain ⟨z, its, r, ob, e, c⟩ := x; exact ⟨z, its, r, ob, k _ _ (.inl rfl) e, c⟩
 | dK kvs => obtain ⟨z, y, vs, r, ob, es, ep, e, c⟩ := x; exact ⟨z, y, vs, r, ob, es, ep, k _ _ (.inl rfl) e, c⟩
 | dT kvs =>
  obtain ⟨z, y, xs, r, ob, es, ep, e, c⟩ := x
  exact ⟨z, y, xs, Paired.mapP r fun p q z => ⟨z.1, ht _ _ z.2.1, z.2.2⟩, ob, es, ep, k _ _ (.inl rfl) e, c⟩
 | set S n => obtain ⟨ob, es, ep, t, e, c⟩ := x; exact ⟨ob, es, ep, t, k _ _ (.inl rfl) e, c⟩
 | ins C dx fs =>
  obtain ⟨d, z, ne, e, mA, ⟨od, es, ep, e2, c⟩, r⟩ := x
  exact ⟨ho _ d, z, ne, k _ _ (.inl rfl) e, mA, ⟨od, es, ep, k _ _ (.inr d) e2, c⟩, r⟩
 | own y => obtain ⟨ob, e⟩ := x; exact ⟨ob, k _ _ (.inl rfl) e⟩
 | xd fs => obtain ⟨mA, ⟨od, es, ep, e, c⟩, r⟩ := x; exact ⟨mA, ⟨od, es, ep, k _ _ (.inl rfl) e, c⟩, r⟩
 | rng lo hi => obtain ⟨t, u, v, e⟩ := x; exact ⟨t, u, v, k _ _ (.inl rfl) e⟩
 | frz ob u ih => obtain ⟨e, q⟩ := x; exact ⟨k _ _ (.inl rfl) e, ih q⟩
 | tbl ps =>
  have e : h.get? a = some { cls := .none, data := .fields ps } := x
  show h'.get? a = some { cls := .none, data := .fields ps }
  exact k a _ (.inl rfl) e
 | met f y =>
  have e : h.get? a = some (PySem.W.methodObj (.ref f) (.ref y)) := x
  show h'.get? a = some (PySem.W.methodObj (.ref f) (.ref y))
  exact k a _ (.inl rfl) e
 | ext φ => obtain ⟨p, ⟨o, e⟩, st⟩ := x; exact ⟨st _ _ p fun o q => k _ _ (.inl rfl) q, ⟨o, k _ _ (.inl rfl) e⟩, st⟩
theorem HOk.lt (x : HOk P w H h) (e : H a = some o) : a < h.objs.size := (x a o e).lt
theorem HOk.fresh (x : HOk P w H h) (e : h.objs.size <= a) : H a = none := by
 cases q : H a with
 | none => rfl
 | some u => exact absurd (Nat.lt_of_lt_of_le (x.lt q) e) (Nat.lt_irrefl _)
theorem HOk.kept (x : HOk P w H h) (k : ∀ b u, h.get? b = some u -> h'.get? b = some u) : HOk P w H h' := fun a o e =>
 (x a o e).stay (fun b u _ q => k b u q) (fun _ q => q) fun _ _ q => q
theorem HOk.laid (x : HOk P w H h) (k : ∀ b u, h.get? b = some u -> h'.get? b = some u) (hp : h.objs.size <= a) (new : Zah P w (upd H a o) h' a o) : HOk P w (upd H a o) h' := fun b u e => by
 have hn := x.fresh hp
 by_cases hb : b = a
 . subst hb; rw [Zr] at e; cases e; exact new
 . rw [Zv hb] at e
   exact (x b u e).stay (fun c v _ q => k c v q) (fun c q => by rw [Zv (ZcS q hn)]; exact q) fun c xs q => by rw [Zv (ZcS q hn)]; exact q
end
def Rd (H : Hp) (a : Addr) (u : HO) : Prop := H a = some u \/ ∃ o, H a = some (.frz o u)
theorem Rd.ok {P : Program} {w : World} {H : Hp} {h : Heap} {a : Addr} {u : HO} (r : Rd H a u) (x : HOk P w H h) : Zah P w H h a u := by
 rcases r with r | ⟨o, r⟩
 . exact x a u r
 . obtain ⟨_, q⟩ := x a _ r
   exact q
def Mut : Option HO -> Prop
 | some (.lst _) => True
 | some (.dK _) => True
 | some (.dT _) => True
 | some (.set _ _) => True
 | some (.ins _ _ _) => True
 | some (.ext _) => True
 | _ => False
section
variable {P : Program} {w : World} {H : Hp} {h h' : Heap} {x e : Addr} {o' : HO}
theorem HOk.write (ok : HOk P w H h) (mu : Mut (H x)) (he : e = x \/ H e = some (.own x)) (k : ∀ b u, b ≠ e -> h.get? b = some u -> h'.get? b = some u) (heo : ∃ u, h'.get? e = some u)
 (new : Zah P w (upd H x o') h' x o') : HOk P w (upd H x o') h' := fun b u q => by
 have nown : ∀ c y, H c = some (.own y) -> c ≠ x := fun c y r z => by subst z; rw [r] at mu; exact mu
 have ntup : ∀ c xs, H c = some (.tup xs) -> c ≠ x := fun c xs r z => by subst z; rw [r] at mu; exact mu
 by_cases hb : b = x
 . subst hb; rw [Zr] at q; cases q; exact new
 . rw [Zv hb] at q
   by_cases hbe : b = e
   . have q' : H b = some (.own x) := by
      rcases he with z | z
      . exact absurd (hbe.trans z) hb
      . rw [hbe]; exact z
     rw [q] at q'; cases q'
     obtain ⟨v, hv⟩ := heo
     exact ⟨v, by rw [hbe]; exact hv⟩
   . refine (ok b u q).stay (fun c v hc r => k c v ?_ r) (fun c r => by rw [Zv (nown c b r)]; exact r) fun c xs r => by rw [Zv (ntup c xs r)]; exact r
     rcases hc with rfl | hc
     . exact hbe
     . rintro rfl
       rcases he with z | z
       . exact nown c b hc z
       . rw [hc] at z; cases z; exact hb rfl
end
structure Un (fs ex : List Addr) (H H' : Hp) (h h' : Heap) : Prop where
 keep : ∀ b o, h.get? b = some o -> H b = none -> b ∉ fs -> b ∉ ex -> h'.get? b = some o
 slot : ∀ b o, h.get? b = some o -> H b = none -> b ∈ fs -> b ∉ ex -> ∃ sl, h'.get? b = some { o with slots := sl }
 free : ∀ b o, h.get? b = some o -> H b = none -> b ∉ ex -> H' b = none
 there : ∀ b o, h.get? b = some o -> b ∉ ex -> ∃ o', h'.get? b = some o'
 tups : ∀ b xs, H b = some (.tup xs) -> H' b = some (.tup xs)
 frzs : ∀ b o u, H b = some (.frz o u) -> H' b = some (.frz o u)
 tbls : ∀ b ps, H b = some (.tbl ps) -> ∃ more, H' b = some (.tbl (ps ++ more))
section
variable {fs fs' ex ex' : List Addr} {H H1 H2 : Hp} {h h1 h2 h' : Heap} {a x e : Addr} {o : HO}
theorem Un.any (u : Un fs ex H H1 h h1) {b : Addr} {ob : Obj} (q : h.get? b = some ob) (n : H b = none) (hx : b ∉ ex) : ∃ sl, h1.get? b = some { ob with slots := sl } := by
 by_cases hb : b ∈ fs
 . exact u.slot b ob q n hb hx
 . exact ⟨ob.slots, u.keep b ob q n hb hx⟩
theorem Un.kept (k : ∀ b u, h.get? b = some u -> h'.get? b = some u) : Un fs ex H H h h' :=
 ⟨fun b ob q _ _ _ => k b ob q, fun b ob q _ _ _ => ⟨ob.slots, k b ob q⟩, fun _ _ _ n _ => n, fun b ob q _ => ⟨ob, k b ob q⟩, fun _ _ q => q, fun _ _ _ q => q, fun _ ps q => ⟨#[], by rw [q]; simp⟩⟩
theorem Un.refl : Un fs ex H H h h := Un.kept fun _ _ q => q
theorem Un.laid (k : ∀ b u, h.get? b = some u -> h'.get? b = some u) (hp : h.objs.size <= a) (hn : H a = none) : Un fs ex H (upd H a o) h h' where
 keep := fun b u q _ _ _ => k b u q
 slot := fun b u q _ _ _ => ⟨u.slots, k b u q⟩
 free := fun b u q n _ => by rw [Zv (Nat.ne_of_lt (Nat.lt_of_lt_of_le (Heap.lt_size q) hp))]; exact n
 there := fun b u q _ => ⟨u, k b u q⟩
 tups := fun b xs q => by rw [Zv (ZcS q hn)]; exact q
 frzs := fun b u xs q => by rw [Zv (ZcS q hn)]; exact q
 tbls := fun b ps q => ⟨#[], by rw [Zv (ZcS q hn), q]; simp⟩
theorem Un.write (mu : Mut (H x)) (he : e = x \/ H e = some (.own x)) (k : ∀ b u, b ≠ e -> h.get? b = some u -> h'.get? b = some u) (heo : ∃ u, h'.get? e = some u) : Un fs ex H (upd H x o) h h' := by
 have hx : ∀ b, H b = none -> b ≠ x := fun b n z => by subst z; rw [n] at mu; exact mu
 have hb : ∀ b, H b = none -> b ≠ e := fun b n z => by
  subst z
  rcases he with r | r
  . exact hx b n r
  . rw [n] at r; cases r
 have hm : ∀ b u, H b = some u -> ¬ Mut (some u) -> b ≠ x := fun b u q nm z => by subst z; rw [q] at mu; exact nm mu
 refine ⟨fun b u q n _ _ => k b u (hb b n) q, fun b u q n _ _ => ⟨u.slots, k b u (hb b n) q⟩, fun b u q n _ => by rw [Zv (hx b n)]; exact n, fun b u q _ => ?_,
  fun b xs q => by rw [Zv (hm b _ q fun z => z)]; exact q, fun b u xs q => by rw [Zv (hm b _ q fun z => z)]; exact q, fun b ps q => ⟨#[], by rw [Zv (hm b _ q fun z => z), q]; simp⟩⟩
 by_cases hbe : b = e
 . subst hbe; exact heo
 . exact ⟨u, k b u hbe q⟩
end
noncomputable def trk (h : Heap) (H : Hp) : List Addr := (List.range h.objs.size).filter fun a => (H a).isSome
noncomputable def hidT (h : Heap) (H : Hp) : Heap := PySem.W.hideAll h (trk h H)
theorem Zmx (h : Heap) (H : Hp) : (hidT h H).objs.size = h.objs.size := PySem.W.hideAll_size _ _
theorem ZnA {h : Heap} {H : Hp} {b : Addr} {o : Obj} (e : h.get? b = some o) (n : H b = none) : (hidT h H).get? b = some o :=
 PySem.W.hideAll_get _ e fun hm => by
  have q : (H b).isSome = true := (List.mem_filter.mp hm).2
  rw [n] at q; simp at q
theorem Zpc {h : Heap} {H : Hp} {b : Addr} {o : Obj} (e : (hidT h H).get? b = some o) : h.get? b = some o /\ H b = none := by
 have e' : h.get? b = some o := PySem.W.of_hideAll (trk h H) e
 refine ⟨e', ?_⟩
 cases q : H b with
 | none => rfl
 | some x =>
  have hm : b ∈ trk h H := List.mem_filter.mpr ⟨List.mem_range.mpr (Heap.lt_size e'), by simp [q]⟩
  have z : (hidT h H).get? b = none := PySem.W.hideAll_none (trk h H) hm
  rw [z] at e; cases e
noncomputable def Zpd (g h : Heap) (L : Addr) : List (Addr × Obj) := (List.range h.objs.size).filterMap fun a => if a = L \/ (g.get? a).isSome = true then none else (h.get? a).map fun o => (a, o)
noncomputable def rest (g h : Heap) (L d : Addr) : List (Addr × Obj) := (Zpd g h L).filter fun p => decide (p.1 ≠ d)
end L2
namespace L2
open PySem PySem.Spec PyProof.Rows
structure Mod (K : Fg) (mg : Str -> Option Value) (base : Heap) : Prop where
 kin : K.In base
 glob : base.Ns mainGlobals mg
 blt : ∃ mb, base.Ns builtinsNs mb /\ ∀ x : Str, x ≠ "__name__" -> mb x = bootBuiltins x
 nolimit : base.NoLimit
structure Cx where
 prog : Program
 w : World
 K : Fg
 mg : Str -> Option Value
 base : Heap
 A : Around
 N : List Str
 s₀ : Shared
 H₀ : Hp
 env : Env
 outer : List Env
 stack : List Env
 ex : List Addr
 fn : Str -> Bool
 calm : Bool
 pn : List (Addr × Obj)
 xe : Value -> Shared -> Prop
noncomputable def frs (l : List Env) : List Addr := l.filterMap (·.frame)
noncomputable abbrev Cx.fs (X : Cx) : List Addr := frs X.outer
def Vis (sc : Scope) (x : Str) : Prop := sc.names.lookup x = some .local \/ sc.names.lookup x = some .cell \/ sc.names.lookup x = some .free
def Loc (sc : Scope) (x : Str) : Prop := sc.names.lookup x = some .local \/ sc.names.lookup x = some .cell
def Look (env : Env) (h : Heap) (m : Str -> Option Value) (x : Str) (u : Value) : Prop :=
 (env.kindOf x = some .local /\ m x = some u) \/ ((env.kindOf x = some .cell \/ env.kindOf x = some .free) /\ ∃ c, env.cells.lookup x = some c /\ h.IsCell c (some u))
structure Cx.Ok (X : Cx) : Prop where
 mod : Mod X.K X.mg X.base
 kind : X.env.scope.kind = .function
 glob : X.env.globals = mainGlobals
 blt : X.env.builtins = builtinsNs
 above : X.s₀.heap.objs.size <= X.env.locals
 inj : ∀ x y c, X.env.cells.lookup x = some c -> X.env.cells.lookup y = some c -> x = y
 has : ∀ x, (X.env.kindOf x = some .cell \/ X.env.kindOf x = some .free) -> ∃ c, X.env.cells.lookup x = some c
 cab : ∀ x c, X.fn x = true -> X.env.cells.lookup x = some c -> X.s₀.heap.objs.size <= c
 hd : X.calm = true -> X.A.handled = none
 frames : X.A.frames = some X.stack
 stk : X.stack = X.outer \/ (X.stack = X.env :: X.outer /\ X.env.frame = some X.env.locals)
 exf : ∀ b ∈ X.ex, b ≠ X.env.locals /\ ∀ x c, X.env.cells.lookup x = some c -> c ≠ b
 bs : ∀ b o, X.base.get? b = some o -> X.s₀.heap.get? b = some o /\ X.H₀ b = none
 bsz : X.base.objs.size <= X.s₀.heap.objs.size
 noex : ∀ b o, X.base.get? b = some o -> b ∉ X.ex
 exfs : ∀ b ∈ X.ex, b ∉ X.fs
 funs : X.s₀.heap.FunFrames X.base X.outer
 frf : ∀ b ∈ X.fs, X.H₀ b = none
structure Inv (X : Cx) (pins : List (Addr × Obj)) (σ : List (Option V)) (H : Hp) (s : Shared) : Prop where
 ok : X.Ok
 os : s.os = X.s₀.os
 bare : AllBare s.gens
 base : Un X.fs X.ex X.H₀ H X.s₀.heap s.heap
 loc : ∃ m, s.heap.Ns X.env.locals m /\ ∀ (i : Nat) (x : Str) (v : V), X.N[i]? = some x -> σ[i]? = some (some v) -> Vis X.env.scope x -> ∃ u, RelV v u /\ Look X.env s.heap m x u
 cell : ∀ x c, X.env.cells.lookup x = some c -> ∃ v, s.heap.IsCell c v
 free : H X.env.locals = none
 freeC : ∀ x c, X.env.cells.lookup x = some c -> H c = none
 pin : ∀ p ∈ X.pn ++ pins, s.heap.get? p.1 = some p.2 /\ H p.1 = none /\ p.1 ≠ X.env.locals /\ p.1 ∉ X.fs /\ ∀ v, p.2.data ≠ .cell v
 hok : HOk X.prog X.w H s.heap
 len : σ.length = X.N.length
section
variable {X : Cx} {pins : List (Addr × Obj)} {σ : List (Option V)} {H H' : Hp} {s : Shared} {h' : Heap}
theorem Cx.Ok.nofr (ok : X.Ok) {b : Addr} {o : Obj} (e : X.base.get? b = some o) : b ∉ X.fs := fun hb => by
 have := (ok.funs.mem hb).1
 rw [e] at this; cases this
theorem Inv.bs (I : Inv X pins σ H s) : ∀ b o, X.base.get? b = some o -> s.heap.get? b = some o /\ H b = none := fun b o e =>
 ⟨I.base.keep b o (I.ok.bs b o e).1 (I.ok.bs b o e).2 (I.ok.nofr e) (I.ok.noex b o e), I.base.free b o (I.ok.bs b o e).1 (I.ok.bs b o e).2 (I.ok.noex b o e)⟩
theorem Inv.bk (I : Inv X pins σ H s) : ∀ b o, X.base.get? b = some o -> s.heap.get? b = some o := fun b o e => (I.bs b o e).1
theorem Inv.mod (I : Inv X pins σ H s) : Mod X.K X.mg X.base := I.ok.mod
theorem Inv.kIn (I : Inv X pins σ H s) : X.K.In s.heap := I.ok.mod.kin.keeps I.bk
theorem Inv.lt (I : Inv X pins σ H s) : X.env.locals < s.heap.objs.size := let ⟨_, hn, _⟩ := I.loc; hn.lt
theorem Inv.sz (I : Inv X pins σ H s) : X.s₀.heap.objs.size <= s.heap.objs.size := Nat.le_trans I.ok.above (Nat.le_of_lt I.lt)
theorem Inv.nofs (I : Inv X pins σ H s) {a : Addr} (h : s.heap.objs.size <= a) : a ∉ X.fs := fun hb => by
 obtain ⟨_, o, ho, _⟩ := I.ok.funs.mem hb
 exact absurd (Nat.lt_of_lt_of_le (Heap.lt_size ho) (Nat.le_trans I.sz h)) (Nat.lt_irrefl _)
theorem Inv.cne (I : Inv X pins σ H s) : ∀ x c, X.env.cells.lookup x = some c -> c ≠ X.env.locals := fun x c e z => by
 obtain ⟨v, o, ho, hd⟩ := I.cell x c e
 obtain ⟨m, ⟨o', es, ep, ho', hd', _⟩, _⟩ := I.loc
 rw [z, ho'] at ho; cases ho; rw [hd'] at hd; cases hd
theorem Inv.funs (I : Inv X pins σ H s) : s.heap.FunFrames X.base X.outer := by
 have all : ∀ (l : List Env), (∀ b ∈ frs l, b ∈ X.fs) -> X.s₀.heap.FunFrames X.base l -> s.heap.FunFrames X.base l := by
  intro l
  induction l with
  | nil => intro _ _; trivial
  | cons env r ih =>
   intro hs hl
   obtain ⟨hk, ⟨L, o, hf, hn, ho, hd⟩, hr⟩ := hl
   have hL : L ∈ X.fs := hs L (by unfold frs; rw [List.filterMap_cons, hf]; exact List.mem_cons_self)
   obtain ⟨sl, e⟩ := I.base.slot L o ho (I.ok.frf L hL) hL fun z => I.ok.exfs L z hL
   exact ⟨hk, ⟨L, _, hf, hn, e, hd⟩, ih (fun b hb => hs b (by unfold frs; rw [List.filterMap_cons, hf]; exact List.mem_cons_of_mem _ hb)) hr⟩
 exact all X.outer (fun _ hb => hb) I.ok.funs
theorem Inv.stack (I : Inv X pins σ H s) : s.heap.FunFrames X.base X.stack := by
 rcases I.ok.stk with e | ⟨e, hf⟩
 . rw [e]; exact I.funs
 . rw [e]
   obtain ⟨m, hn, _⟩ := I.loc
   refine .cons (by rw [I.ok.kind]; decide) hf hn ?_ I.funs
   exact Heap.get?_none_of_le (Nat.le_trans I.ok.bsz I.ok.above)
theorem Inv.stkSub (I : Inv X pins σ H s) : ∀ b ∈ frs X.stack, b ∈ X.env.locals :: X.fs := fun b hb => by
 rcases I.ok.stk with e | ⟨e, hf⟩
 . rw [e] at hb; exact List.mem_cons_of_mem _ hb
 . rw [e] at hb
   unfold frs at hb
   rw [List.filterMap_cons, hf] at hb
   exact hb
theorem Inv.stkFree (I : Inv X pins σ H s) : ∀ b ∈ frs X.stack, H b = none := fun b hb => by
 rcases List.mem_cons.mp (I.stkSub b hb) with e | hb
 . rw [e]; exact I.free
 . obtain ⟨_, o, ho, _⟩ := I.ok.funs.mem hb
   exact I.base.free b o ho (I.ok.frf b hb) fun z => I.ok.exfs b z hb
theorem Inv.step {g' : Array GenState} {t' : Nat} {d' : Drawn} {ch : List Addr} (I : Inv X pins σ H s)
 (hch : ∀ b ∈ ch, (b ∈ X.ex \/ X.s₀.heap.objs.size <= b) /\ b ≠ X.env.locals /\ (∀ x c, X.env.cells.lookup x = some c -> c ≠ b) /\ ∀ p ∈ X.pn ++ pins, p.1 ≠ b)
 (keep : ∀ b o, b ≠ X.env.locals -> b ∉ X.fs -> b ∉ ch -> s.heap.get? b = some o -> H b = none -> h'.get? b = some o)
 (slot : ∀ b o, b ≠ X.env.locals -> b ∈ X.fs -> b ∉ ch -> s.heap.get? b = some o -> H b = none -> ∃ sl, h'.get? b = some { o with slots := sl }) (free : ∀ b o, b ∉ ch -> s.heap.get? b = some o -> H b = none -> H' b = none)
 (there : ∀ b o, b ∉ ch -> s.heap.get? b = some o -> ∃ o', h'.get? b = some o')
 (tups : ∀ b xs, H b = some (.tup xs) -> H' b = some (.tup xs)) (frzs : ∀ b o u, H b = some (.frz o u) -> H' b = some (.frz o u)) (tbls : ∀ b ps, H b = some (.tbl ps) -> ∃ more, H' b = some (.tbl (ps ++ more)))
 (ns : ∀ m, s.heap.Ns X.env.locals m -> h'.Ns X.env.locals m) (hok : HOk X.prog X.w H' h') (hg : AllBare g') :
 Inv X pins σ H' { s with heap := h', gens := g', drawn := d', toks := t' } := by
 have neL : ∀ b o, X.s₀.heap.get? b = some o -> b ≠ X.env.locals := fun b o e => Nat.ne_of_lt (Nat.lt_of_lt_of_le (Heap.lt_size e) I.ok.above)
 have neC : ∀ b o, X.s₀.heap.get? b = some o -> b ∉ X.ex -> b ∉ ch := fun b o e hx hb => by
  rcases (hch b hb).1 with z | z
  . exact hx z
  . exact absurd (Nat.lt_of_lt_of_le (Heap.lt_size e) z) (Nat.lt_irrefl _)
 have cellK : ∀ x c, X.env.cells.lookup x = some c -> ∀ v, s.heap.IsCell c v -> h'.IsCell c v := fun x c e v ⟨o, ho, hd⟩ => by
  have nch : c ∉ ch := fun z => (hch c z).2.2.1 x c e rfl
  by_cases hc : c ∈ X.fs
  . obtain ⟨sl, q⟩ := slot c o (I.cne x c e) hc nch ho (I.freeC x c e)
    exact ⟨_, q, hd⟩
  . exact ⟨o, keep c o (I.cne x c e) hc nch ho (I.freeC x c e), hd⟩
 refine ⟨I.ok, I.os, hg, ⟨fun b o e n hb hx => ?_, fun b o e n hb hx => ?_, fun b o e n hx => ?_, fun b o e hx => ?_, fun b xs e => tups b xs (I.base.tups b xs e), fun b o xs e => frzs b o xs (I.base.frzs b o xs e), fun b ps e => ?_⟩, ?_, fun x c e => ?_, ?_, fun x c e => ?_, fun p hp => ?_, hok, I.len⟩
 . exact keep b o (neL b o e) hb (neC b o e hx) (I.base.keep b o e n hb hx) (I.base.free b o e n hx)
 . obtain ⟨sl, e1⟩ := I.base.slot b o e n hb hx
   obtain ⟨sl', e2⟩ := slot b _ (neL b o e) hb (neC b o e hx) e1 (I.base.free b o e n hx)
   exact ⟨sl', e2⟩
 . obtain ⟨o', e1⟩ := I.base.there b o e hx
   exact free b o' (neC b o e hx) e1 (I.base.free b o e n hx)
 . obtain ⟨o', e1⟩ := I.base.there b o e hx
   exact there b o' (neC b o e hx) e1
 . obtain ⟨m1, e1⟩ := I.base.tbls b ps e
   obtain ⟨m2, e2⟩ := tbls b _ e1
   exact ⟨m1 ++ m2, by rw [e2, Array.append_assoc]⟩
 . obtain ⟨m, hn, hl⟩ := I.loc
   refine ⟨m, ns m hn, fun i x v e1 e2 e3 => ?_⟩
   obtain ⟨u, r, l⟩ := hl i x v e1 e2 e3
   refine ⟨u, r, ?_⟩
   rcases l with l | ⟨k, c, e, z⟩
   . exact .inl l
   . exact .inr ⟨k, c, e, cellK x c e _ z⟩
 . obtain ⟨v, z⟩ := I.cell x c e
   exact ⟨v, cellK x c e v z⟩
 . obtain ⟨m, ⟨o, _, _, ho, _⟩, _⟩ := I.loc
   exact free _ o (fun z => (hch _ z).2.1 rfl) ho I.free
 . obtain ⟨v, o, ho, hd⟩ := I.cell x c e
   exact free c o (fun z => (hch c z).2.2.1 x c e rfl) ho (I.freeC x c e)
 . obtain ⟨e, n, ne, nf, d⟩ := I.pin p hp
   have nch : p.1 ∉ ch := fun z => (hch p.1 z).2.2.2 p hp rfl
   exact ⟨keep p.1 p.2 ne nf nch e n, free p.1 p.2 nch e n, ne, nf, d⟩
theorem Inv.un {t' : Nat} (I : Inv X pins σ H s) (u : Un X.fs [] H H' s.heap h') (hok : HOk X.prog X.w H' h') : Inv X pins σ H' { s with heap := h', toks := t' } := by
 obtain ⟨m, ⟨o, es, ep, ho, r⟩, _⟩ := id I.loc
 obtain ⟨sl, hL⟩ := u.any ho I.free (by simp)
 exact I.step (g' := s.gens) (d' := s.drawn) (ch := []) (fun _ z => nomatch z) (fun b o _ hb _ e n => u.keep b o e n hb (by simp)) (fun b o _ hb _ e n => u.slot b o e n hb (by simp)) (fun b o _ e n => u.free b o e n (by simp)) (fun b o _ e => u.there b o e (by simp)) u.tups u.frzs u.tbls (fun m' hm => by
  obtain ⟨o', es', ep', ho', r'⟩ := hm
  rw [ho] at ho'; cases ho'
  exact ⟨_, es', ep', hL, r'⟩) hok I.bare
theorem Inv.call {g' : Array GenState} {t' : Nat} {d' : Drawn} {ch : List Addr} (I : Inv X pins σ H s) (u : Un (frs X.stack) ch H H' s.heap h') (hok : HOk X.prog X.w H' h') (hg : AllBare g')
 (hch : ∀ b ∈ ch, (b ∈ X.ex \/ X.s₀.heap.objs.size <= b) /\ b ≠ X.env.locals /\ (∀ x c, X.env.cells.lookup x = some c -> c ≠ b) /\ ∀ p ∈ X.pn ++ pins, p.1 ≠ b) :
 Inv X pins σ H' { s with heap := h', gens := g', drawn := d', toks := t' } := by
 obtain ⟨m, ⟨o, es, ep, ho, r⟩, _⟩ := id I.loc
 obtain ⟨sl, hL⟩ := u.any ho I.free fun z => (hch _ z).2.1 rfl
 exact I.step (ch := ch) hch (fun b o hL hb hc e n => u.keep b o e n (fun z => (List.mem_cons.mp (I.stkSub b z)).elim hL hb) hc) (fun b o _ _ hc e n => u.any e n hc) (fun b o hc e n => u.free b o e n hc) (fun b o hc e => u.there b o e hc) u.tups u.frzs u.tbls (fun m' hm => by
  obtain ⟨o', es', ep', ho', r'⟩ := hm
  rw [ho] at ho'; cases ho'
  exact ⟨_, es', ep', hL, r'⟩) hok hg
theorem Inv.turned {t' : Nat} {it : Addr} (I : Inv X pins σ H s) (k : ∀ b o, b ≠ it -> s.heap.get? b = some o -> h'.get? b = some o) (hn : H it = none) (hL : it ≠ X.env.locals)
 (h1 : it ∈ X.ex \/ X.s₀.heap.objs.size <= it) (h2 : ∀ x c, X.env.cells.lookup x = some c -> c ≠ it) (h3 : ∀ p ∈ X.pn ++ pins, p.1 ≠ it) : Inv X pins σ H { s with heap := h', toks := t' } := by
 have nit : ∀ b u, H b = some u -> b ≠ it := fun b u e z => by rw [z, hn] at e; cases e
 refine I.step (g' := s.gens) (d' := s.drawn) (ch := [it]) (fun b hb => ?_) (fun b o _ _ hc e _ => k b o (fun z => hc (by simp [z])) e) (fun b o _ _ hc e _ => ⟨o.slots, k b o (fun z => hc (by simp [z])) e⟩) (fun _ _ _ _ n => n)
  (fun b o hc e => ⟨o, k b o (fun z => hc (by simp [z])) e⟩) (fun _ _ e => e) (fun _ _ _ e => e) (fun b ps e => ⟨#[], by rw [e]; simp⟩) (fun m hm => ?_) (fun b u e => ?_) I.bare
 . have e : b = it := by simpa using hb
   subst e
   exact ⟨h1, hL, h2, h3⟩
 . obtain ⟨o, es, ep, ho, r⟩ := hm
   exact ⟨o, es, ep, k _ o (Ne.symm hL) ho, r⟩
 . refine (I.hok b u e).stay (fun c v hc q => k c v ?_ q) (fun _ q => q) fun _ _ q => q
   rcases hc with z | z
   . rw [z]; exact nit b u e
   . exact nit c _ z
theorem Inv.tok (I : Inv X pins σ H s) (t : Nat) : Inv X pins σ H { s with toks := t } := I.un (h' := s.heap) (t' := t) Un.refl I.hok
theorem Inv.kept {t' : Nat} (I : Inv X pins σ H s) (k : ∀ b u, s.heap.get? b = some u -> h'.get? b = some u) : Inv X pins σ H { s with heap := h', toks := t' } := I.un (Un.kept k) (I.hok.kept k)
theorem Inv.laid {a : Addr} {o : HO} {t' : Nat} (I : Inv X pins σ H s) (k : ∀ b u, s.heap.get? b = some u -> h'.get? b = some u) (hp : s.heap.objs.size <= a) (new : Zah X.prog X.w (upd H a o) h' a o) :
 Inv X pins σ (upd H a o) { s with heap := h', toks := t' } := I.un (Un.laid k hp (I.hok.fresh hp)) (I.hok.laid k hp new)
theorem Inv.write {x e : Addr} {o : HO} {t' : Nat} (I : Inv X pins σ H s) (mu : Mut (H x)) (he : e = x \/ H e = some (.own x)) (k : ∀ b u, b ≠ e -> s.heap.get? b = some u -> h'.get? b = some u) (heo : ∃ u, h'.get? e = some u)
 (new : Zah X.prog X.w (upd H x o) h' x o) : Inv X pins σ (upd H x o) { s with heap := h', toks := t' } := I.un (Un.write mu he k heo) (I.hok.write mu he k heo new)
theorem Inv.pins_of {pins' : List (Addr × Obj)} (I : Inv X pins σ H s) (h : ∀ p ∈ pins', s.heap.get? p.1 = some p.2 /\ H p.1 = none /\ p.1 ≠ X.env.locals /\ p.1 ∉ X.fs /\ ∀ v, p.2.data ≠ .cell v) : Inv X pins' σ H s :=
 ⟨I.ok, I.os, I.bare, I.base, I.loc, I.cell, I.free, I.freeC, fun p hp => (List.mem_append.mp hp).elim (fun z => I.pin p (List.mem_append_left _ z)) (h p), I.hok, I.len⟩
theorem ZjZ {N : List Str} (hN : N.Nodup) {i j : Nat} {x : Str} (a : N[i]? = some x) (b : N[j]? = some x) : i = j := by
 obtain ⟨h1, e1⟩ := List.getElem?_eq_some_iff.mp a
 obtain ⟨h2, e2⟩ := List.getElem?_eq_some_iff.mp b
 exact (List.getElem_inj hN).mp (e1.trans e2.symm)
theorem Zmy {M : Model} {A : Around} {E : Value -> Shared -> Prop} {i : Nat} {x : Str} {v : V} {u : Value} {Q : Unit -> Shared -> Prop} (I : Inv X pins σ H s) (hN : X.N.Nodup) (hi : X.N[i]? = some x) (hx : Loc X.env.scope x) (r : RelV v u)
 (h : ∀ s', Inv X pins (σ.set i (some v)) H s' -> (∃ a, Heap.SameBut a s.heap s'.heap /\ (a = X.env.locals \/ X.env.cells.lookup x = some a)) -> Q () s') (hf : X.fn x = true \/ X.env.scope.names.lookup x = some .local := by first | exact .inl rfl | exact .inr rfl | assumption) : wpAny M A (storeName X.env x u) Q E s := by
 obtain ⟨m, hn, hl⟩ := id I.loc
 have hcls : (X.env.scope.kind == .class || (X.env.scope.kind == .module && X.env.locals != X.env.globals)) = false := by rw [I.ok.kind]; rfl
 have hiσ : i < σ.length := by rw [I.len]; exact (List.getElem?_eq_some_iff.mp hi).1
 have cne := I.cne
 have tracked : ∀ {a : Addr} {h' : Heap}, (∃ o, s.heap.get? a = some o /\ H a = none) -> Heap.SameBut a s.heap h' -> HOk X.prog X.w H h' := fun {a h'} ha hs b ob e => by
  obtain ⟨_, _, hfree⟩ := ha
  refine (I.hok b ob e).stay (fun c w' hc q => (hs.2 c ?_).trans q) (fun _ q => q) fun _ _ q => q
  rintro rfl
  rcases hc with rfl | hc
  . rw [hfree] at e; cases e
  . rw [hfree] at hc; cases hc
 rcases hx with hk | hk
 . refine wpAny_storeName_local hk hn (fun h' hn' hs => ?_) hcls
   obtain ⟨oL, _, _, hoL, _⟩ := id hn
   refine h _ ⟨I.ok, I.os, I.bare, ⟨fun b o e n hb hx => ?_, fun b o e n hb hx => ?_, I.base.free, fun b o e hx => ?_, I.base.tups, I.base.frzs, I.base.tbls⟩, ⟨_, hn', fun j y v' e1 e2 e3 => ?_⟩, fun y c e => ?_, I.free, I.freeC, fun p hp => ?_, tracked ⟨oL, hoL, I.free⟩ hs, by simpa using I.len⟩ ⟨_, hs, .inl rfl⟩
   . exact (hs.2 b (Nat.ne_of_lt (Nat.lt_of_lt_of_le (Heap.lt_size e) I.ok.above))).trans (I.base.keep b o e n hb hx)
   . obtain ⟨sl, e1⟩ := I.base.slot b o e n hb hx
     exact ⟨sl, (hs.2 b (Nat.ne_of_lt (Nat.lt_of_lt_of_le (Heap.lt_size e) I.ok.above))).trans e1⟩
   . obtain ⟨o', e1⟩ := I.base.there b o e hx
     exact ⟨o', (hs.2 b (Nat.ne_of_lt (Nat.lt_of_lt_of_le (Heap.lt_size e) I.ok.above))).trans e1⟩
   . by_cases hj : j = i
     . subst hj
       rw [hi] at e1; cases e1
       rw [List.getElem?_set_self hiσ] at e2
       cases e2
       exact ⟨u, r, .inl ⟨hk, by simp⟩⟩
     . rw [List.getElem?_set_ne (Ne.symm hj)] at e2
       obtain ⟨u', r', q⟩ := hl j y v' e1 e2 e3
       refine ⟨u', r', ?_⟩
       rcases q with ⟨k, e⟩ | ⟨k, c, e, z⟩
       . refine .inl ⟨k, ?_⟩
         have : y ≠ x := fun e => hj (ZjZ hN e1 (e ▸ hi))
         simp [this, e]
       . exact .inr ⟨k, c, e, z.sameBut hs (cne y c e)⟩
   . obtain ⟨w', z⟩ := I.cell y c e
     exact ⟨w', z.sameBut hs (cne y c e)⟩
   . obtain ⟨e, n, ne, nf, d⟩ := I.pin p hp
     exact ⟨(hs.2 p.1 ne).trans e, n, ne, nf, d⟩
 . have hfn : X.fn x = true := by
    rcases hf with z | z
    . exact z
    . rw [z] at hk; cases hk
   obtain ⟨c, hc⟩ := I.ok.has x (.inl hk)
   obtain ⟨w', z⟩ := I.cell x c hc
   refine wpAny_storeName_cell I.ok.kind hk hc z (fun h' hc' hs => ?_)
   obtain ⟨oc, hoc, hocd⟩ := id z
   refine h { s with heap := h' } ⟨I.ok, I.os, I.bare, ⟨fun b o e n hb hx => ?_, fun b o e n hb hx => ?_, I.base.free, fun b o e hx => ?_, I.base.tups, I.base.frzs, I.base.tbls⟩, ⟨m, hn.sameBut hs (Ne.symm (cne x c hc)), fun j y v' e1 e2 e3 => ?_⟩, fun y c' e => ?_, I.free, I.freeC, fun p hp => ?_, tracked ⟨oc, hoc, I.freeC x c hc⟩ hs, by simpa using I.len⟩ ⟨c, hs, .inr hc⟩
   . exact (hs.2 b (Nat.ne_of_lt (Nat.lt_of_lt_of_le (Heap.lt_size e) (I.ok.cab x c hfn hc)))).trans (I.base.keep b o e n hb hx)
   . obtain ⟨sl, e1⟩ := I.base.slot b o e n hb hx
     exact ⟨sl, (hs.2 b (Nat.ne_of_lt (Nat.lt_of_lt_of_le (Heap.lt_size e) (I.ok.cab x c hfn hc)))).trans e1⟩
   . obtain ⟨o', e1⟩ := I.base.there b o e hx
     exact ⟨o', (hs.2 b (Nat.ne_of_lt (Nat.lt_of_lt_of_le (Heap.lt_size e) (I.ok.cab x c hfn hc)))).trans e1⟩
   . by_cases hj : j = i
     . subst hj
       rw [hi] at e1; cases e1
       rw [List.getElem?_set_self hiσ] at e2
       cases e2
       exact ⟨u, r, .inr ⟨.inl hk, c, hc, hc'⟩⟩
     . rw [List.getElem?_set_ne (Ne.symm hj)] at e2
       obtain ⟨u', r', q⟩ := hl j y v' e1 e2 e3
       refine ⟨u', r', ?_⟩
       rcases q with q | ⟨k, c', e, z'⟩
       . exact .inl q
       . refine .inr ⟨k, c', e, z'.sameBut hs ?_⟩
         rintro rfl
         exact hj (ZjZ hN e1 (I.ok.inj _ _ _ e hc ▸ hi))
   . by_cases hcc : c' = c
     . subst hcc; exact ⟨_, hc'⟩
     . obtain ⟨w2, z2⟩ := I.cell y c' e
       exact ⟨w2, z2.sameBut hs hcc⟩
   . obtain ⟨e, n, ne, nf, d⟩ := I.pin p hp
     refine ⟨(hs.2 p.1 ?_).trans e, n, ne, nf, d⟩
     intro q
     rw [q, hoc] at e
     have q' : oc = p.2 := Option.some.inj e
     exact d w' (by rw [<- q']; exact hocd)
theorem ZhQ {M : Model} {A : Around} {E : Value -> Shared -> Prop} {i : Nat} {x : Str} {v : V} {u : Value} {Q : Unit -> Shared -> Prop} (I : Inv X pins σ H s) (hN : X.N.Nodup) (hi : X.N[i]? = some x) (hx : Loc X.env.scope x) (r : RelV v u)
 (h : ∀ s', Inv X pins (σ.set i (some v)) H s' -> Q () s') (hf : X.fn x = true \/ X.env.scope.names.lookup x = some .local := by first | exact .inl rfl | exact .inr rfl | assumption) : wpAny M A (storeName X.env x u) Q E s :=
 Zmy I hN hi hx r (fun s' I' _ => h s' I') hf
theorem Inv.call' {s' : Shared} {ch : List Addr} (I : Inv X pins σ H s) (ho : s'.os = s.os) (u : Un (frs X.stack) ch H H' s.heap s'.heap) (hok : HOk X.prog X.w H' s'.heap) (hg : AllBare s'.gens)
 (hch : ∀ b ∈ ch, (b ∈ X.ex \/ X.s₀.heap.objs.size <= b) /\ b ≠ X.env.locals /\ (∀ x c, X.env.cells.lookup x = some c -> c ≠ b) /\ ∀ p ∈ X.pn ++ pins, p.1 ≠ b) : Inv X pins σ H' s' := by
 obtain ⟨h', g', d', t', o'⟩ := s'
 have e : o' = s.os := ho
 subst e
 exact I.call (g' := g') (t' := t') (d' := d') u hok hg hch
end
abbrev XK := Value -> Option Addr -> Hp -> Prop
noncomputable abbrev St := List (Option V)
abbrev VK := V -> Hp -> Prop
abbrev TE := St -> Hp -> VK -> Prop
abbrev TT := St -> Hp -> (Bool -> Hp -> Prop) -> Prop
abbrev TA := St -> Hp -> (List V -> Hp -> Prop) -> Prop
structure Ends where
 nx : St -> Hp -> Prop
 rt : VK
 bk : St -> Hp -> Prop := fun _ _ => False
 ct : St -> Hp -> Prop := fun _ _ => False
abbrev TS := Ends -> St -> Hp -> Prop
def EP (X : Cx) (pins : List (Addr × Obj)) (σ : St) (Q : VK) (u : Value) (s' : Shared) : Prop := ∃ v H', Inv X pins σ H' s' /\ RelV v u /\ Q v H'
def TP (X : Cx) (pins : List (Addr × Obj)) (σ : St) (Q : Bool -> Hp -> Prop) (b : Bool) (s' : Shared) : Prop := ∃ H', Inv X pins σ H' s' /\ Q b H'
def AP (X : Cx) (pins : List (Addr × Obj)) (σ : St) (Q : List V -> Hp -> Prop) (us : List Value) (s' : Shared) : Prop := ∃ vs H', Inv X pins σ H' s' /\ Vals vs us /\ Q vs H'
def SP (X : Cx) (pins : List (Addr × Obj)) (D : Ends) (f : Flow) (s' : Shared) : Prop :=
 match f with
 | .next => ∃ σ' H', Inv X pins σ' H' s' /\ D.nx σ' H'
 | .brk => ∃ σ' H', Inv X pins σ' H' s' /\ D.bk σ' H'
 | .cont => ∃ σ' H', Inv X pins σ' H' s' /\ D.ct σ' H'
 | .ret u => ∃ v σ' H', Inv X pins σ' H' s' /\ RelV v u /\ D.rt v H'
def PE (X : Cx) (e : Expr) (t : TE) : Prop :=
 ∀ (pins : List (Addr × Obj)) (s : Shared) (σ : St) (H : Hp) (Q : VK), Inv X pins σ H s -> t σ H Q -> wpAny (model X.prog X.w) X.A (eval e X.env) (EP X pins σ Q) X.xe s
def PT (X : Cx) (e : Expr) (t : TT) : Prop :=
 ∀ (pins : List (Addr × Obj)) (s : Shared) (σ : St) (H : Hp) (Q : Bool -> Hp -> Prop), Inv X pins σ H s -> t σ H Q -> wpAny (model X.prog X.w) X.A (isTrue e X.env (eval e X.env)) (TP X pins σ Q) X.xe s
def PW (X : Cx) (e : Expr) (t : TT) : Prop :=
 ∀ (whole : Sem Value) (pins : List (Addr × Obj)) (s : Shared) (σ : St) (H : Hp) (Q : Bool -> Hp -> Prop), Inv X pins σ H s -> t σ H Q -> wpAny (model X.prog X.w) X.A (isTrue e X.env whole) (TP X pins σ Q) X.xe s
theorem PW.pt {X : Cx} {e : Expr} {t : TT} (h : PW X e t) : PT X e t := h _
def PA (X : Cx) (es : List Expr) (t : TA) : Prop :=
 ∀ (pos : Pos) (pins : List (Addr × Obj)) (s : Shared) (σ : St) (H : Hp) (Q : List V -> Hp -> Prop), Inv X pins σ H s -> t σ H Q -> wpAny (model X.prog X.w) X.A (spliced (backTo pos (starEach es X.env))) (AP X pins σ Q) X.xe s
def PS (X : Cx) (st : Stmt) (t : TS) : Prop :=
 ∀ (pins : List (Addr × Obj)) (s : Shared) (σ : St) (H : Hp) (D : Ends), Inv X pins σ H s -> t D σ H -> wpAny (model X.prog X.w) X.A (exec st X.env) (SP X pins D) X.xe s
def PSs (X : Cx) (st : List Stmt) (t : TS) : Prop :=
 ∀ (pins : List (Addr × Obj)) (s : Shared) (σ : St) (H : Hp) (D : Ends), Inv X pins σ H s -> t D σ H -> wpAny (model X.prog X.w) X.A (execs st X.env) (SP X pins D) X.xe s
theorem thn {α : Type} {t : Sem α} {Q Q' : α -> Shared -> Prop} {M : Model} {A : Around} {E : Value -> Shared -> Prop} {s : Shared} (h : wpAny M A t Q E s) (hQ : ∀ a s, Q a s -> Q' a s) : wpAny M A t Q' E s := wpAny_mono h hQ fun _ _ x => x
end L2
namespace L2
open PySem PySem.Spec PyProof.Rows
section
variable {X : Cx}
theorem bin {a b : Expr} {ta tb : TE} (ha : PE X a ta) (hb : PE X b tb) {pins : List (Addr × Obj)} {s : Shared} {σ : St} {H : Hp} {R : V -> V -> Hp -> Prop} (I : Inv X pins σ H s) (h : ta σ H fun x H1 => tb σ H1 fun y H2 => R x y H2)
 {α : Type} {Q : α -> Shared -> Prop} {f : Value -> Value -> Sem α}
 (hf : ∀ v u s2 x y H2, Inv X pins σ H2 s2 -> RelV x v -> RelV y u -> R x y H2 -> wpAny (model X.prog X.w) X.A (f v u) Q X.xe s2) :
 wpAny (model X.prog X.w) X.A (eval a X.env) (fun v s₁ => wpAny (model X.prog X.w) X.A (eval b X.env) (fun u s₂ => wpAny (model X.prog X.w) X.A (f v u) Q X.xe s₂) X.xe s₁) X.xe s := by
 refine thn (ha pins s σ H _ I h) fun v s1 ⟨x, H1, I1, r1, q1⟩ => ?_
 refine thn (hb pins s1 σ H1 _ I1 q1) fun u s2 ⟨y, H2, I2, r2, q2⟩ => ?_
 exact hf v u s2 x y H2 I2 r1 r2 q2
def tVar (i : Nat) : TE := fun σ H Q => ∃ v, σ[i]? = some (some v) /\ Q v H
def tC (v : V) : TE := fun _ H Q => Q v H
theorem Zmz {i : Nat} {x : Str} {pos : Pos} (hN : X.N[i]? = some x) (hv : Vis X.env.scope x) (hd : (x == ("__debug__" : Str)) = false := by decide) (hcd : (x == ("__classdict__" : Str)) = false := by decide) : PE X (.Name x pos) (tVar i) := by
 intro pins s σ H Q I h
 obtain ⟨v, e, h⟩ := h
 obtain ⟨m, hn, hl⟩ := I.loc
 obtain ⟨u, r, l⟩ := hl i x v hN e hv
 have fin : EP X pins σ Q u s := ⟨v, H, I, r, h⟩
 rcases l with ⟨hk, hm⟩ | ⟨hk, c, hc, hcell⟩
 . exact wpAny_Name (wpAny_loadName_local I.ok.kind hk hn hm fin) hd
 . rcases hk with hk | hk
   . exact wpAny_Name (wpAny_loadName_cell I.ok.kind hk hc hcell fin) hd
   . exact wpAny_Name (wpAny_loadName_free I.ok.kind hk hc hcell fin hcd) hd
theorem ZaU {i j pos} : PE X (.Constant (.int i) j pos) (tC (.int i)) := fun _ _ _ H _ I h => wpAny_Constant_int ⟨.int i, H, I.tok _, ⟨_, rfl⟩, h⟩
theorem ZdV {b j pos} : PE X (.Constant (.bool b) j pos) (tC (.bl b)) := fun _ _ _ H _ I h => Constant_bool ⟨.bl b, H, I, rfl, h⟩
theorem Zm0 {j pos} : PE X (.Constant .none j pos) (tC .non) := fun _ _ _ H _ I h => Constant_none ⟨.non, H, I, rfl, h⟩
theorem Zq6 {x j pos} : PE X (.Constant (.str x) j pos) (tC (.str x)) := fun _ _ _ H _ I h => Calls.Constant_str ⟨.str x, H, I.tok _, ⟨_, rfl⟩, h⟩
def Gl (X : Cx) (x : Str) : Prop := X.env.kindOf x = some .globalImplicit
theorem ZiI {E : Value -> Shared -> Prop} {pins : List (Addr × Obj)} {s : Shared} {σ : St} {H : Hp} {x : Str} {u : Value} {pos : Pos} {Q : Value -> Shared -> Prop} (I : Inv X pins σ H s) (hg : Gl X x) (hm : X.mg x = some u) (h : Q u s)
 (hd : (x == ("__debug__" : Str)) = false := by decide) : wpAny (model X.prog X.w) X.A (eval (.Name x pos) X.env) Q E s :=
 Calls.Name_function_global I.ok.kind hg (Calls.loadGlobal_global (by rw [I.ok.glob]; exact I.mod.glob.keeps I.bk) hm h) hd
theorem Zds {E : Value -> Shared -> Prop} {pins : List (Addr × Obj)} {s : Shared} {σ : St} {H : Hp} {x : Str} {u : Value} {pos : Pos} {Q : Value -> Shared -> Prop} (I : Inv X pins σ H s) (hg : Gl X x) (hm : X.mg x = none) (hv : bootBuiltins x = some u) (h : Q u s)
 (hn : x ≠ "__name__" := by decide) (hd : (x == ("__debug__" : Str)) = false := by decide) : wpAny (model X.prog X.w) X.A (eval (.Name x pos) X.env) Q E s := by
 obtain ⟨mb, h1, h2⟩ := I.mod.blt
 exact Calls.Name_function_global I.ok.kind hg (Calls.loadGlobal_builtin (by rw [I.ok.glob]; exact I.mod.glob.keeps I.bk) hm (by rw [I.ok.blt]; exact h1.keeps I.bk) ((h2 x hn).trans hv) h) hd
theorem Zlh {x : Str} {v : V} {u : Value} {pos : Pos} (hg : Gl X x) (hm : X.mg x = some u) (r : RelV v u) (hd : (x == ("__debug__" : Str)) = false := by decide) : PE X (.Name x pos) (tC v) :=
 fun _ _ _ H _ I h => ZiI I hg hm ⟨v, H, I, r, h⟩ hd
theorem Zfn {x : Str} {v : V} {u : Value} {pos : Pos} (hg : Gl X x) (hm : X.mg x = none) (hv : bootBuiltins x = some u) (r : RelV v u) (hn : x ≠ "__name__" := by decide) (hd : (x == ("__debug__" : Str)) = false := by decide) : PE X (.Name x pos) (tC v) :=
 fun _ _ _ H _ I h => Zds I hg hm hv ⟨v, H, I, r, h⟩ hn hd
variable {a b : Expr} {ta tb : TE} {pos : Pos}
def PC (X : Cx) (op : CmpOp) (a b : Expr) (t : TE) : Prop :=
 ∀ (pins : List (Addr × Obj)) (s : Shared) (σ : St) (H : Hp) (Q : VK), Inv X pins σ H s -> t σ H Q ->
  wpAny (model X.prog X.w) X.A (eval a X.env) (fun v s₁ => wpAny (model X.prog X.w) X.A (eval b X.env) (fun u s₂ => wpAny (model X.prog X.w) X.A (compareOp op v u) (EP X pins σ Q) X.xe s₂) X.xe s₁) X.xe s
theorem ZnB (b : Expr) {op : CmpOp} (h : op ≠ .In) (h2 : op ≠ .NotIn) : behindInMarks op b = false := by
 have e1 : (op == CmpOp.In) = false := by cases op <;> first | rfl | exact absurd rfl h
 have e2 : (op == CmpOp.NotIn) = false := by cases op <;> first | rfl | exact absurd rfl h2
 cases b <;> simp [behindInMarks, e1, e2]
def tIsN (ta : TE) : TE := fun σ H Q => ta σ H fun x H1 => Q (.bl (decide (x = .non))) H1
theorem RelV.none_iff {x : V} {v : Value} (r : RelV x v) : (v == Value.none) = decide (x = .non) := by
 cases x with
 | non => cases r; rfl
 | bl _ => cases r; rfl
 | int _ => obtain ⟨t, rfl⟩ := r; rfl
 | str _ => obtain ⟨t, rfl⟩ := r; rfl
 | byt _ => obtain ⟨t, rfl⟩ := r; rfl
 | flt _ => obtain ⟨t, rfl⟩ := r; rfl
 | ref _ => cases r; rfl
 | ty _ => cases r; rfl
theorem Zq7 {j pos'} (ha : PE X a ta) : PC X .Is a (.Constant .none j pos') (tIsN ta) := by
 intro pins s σ H Q I h
 refine thn (ha pins s σ H _ I h) fun v s1 ⟨x, H1, I1, r1, q1⟩ => ?_
 exact Constant_none (is_none_gen ⟨.bl _, H1, I1, by rw [r1.none_iff]; rfl, q1⟩)
def tB (t : TE) : TT := fun σ H Q => t σ H fun x H1 => ∃ c, x = .bl c /\ Q c H1
theorem Zq8 {op : CmpOp} {t : TE} (h : PC X op a b t) (h1 : behindInMarks op b = false := by first | exact ZnB _ (by decide) (by decide) | rfl) : PT X (.Compare a [op] [b] pos) (tB t) := by
 intro pins s σ H Q I hw
 refine wpAny_isTrue_Compare1 (thn (h pins s σ H _ I hw) fun v s1 h1 => thn h1 fun u s2 h2 => thn h2 fun c s3 ⟨x, H1, I1, r1, q1⟩ => ?_) h1
 obtain ⟨d, rfl, q⟩ := q1
 cases r1
 exact wpAny_truthy_bool ⟨H1, I1, q⟩
variable {tA tB' : TT} {rest : List Expr}
def tAnd (t u : TT) : TT := fun σ H Q => t σ H fun c H1 => if c = true then u σ H1 Q else Q false H1
def tOr (t u : TT) : TT := fun σ H Q => t σ H fun c H1 => if c = true then Q true H1 else u σ H1 Q
def tNot (t : TT) : TT := fun σ H Q => t σ H fun c H1 => Q (!c) H1
theorem Zpe (ha : PT X a tA) : PW X (.BoolOp .And [a] pos) tA := by
 intro wh pins s σ H Q I h
 refine isTrue_and (thn (ha pins s σ H Q I h) fun c s1 e => ?_)
 cases c with
 | true => exact isTrue_and_nil e
 | false => exact e
theorem Zq9 (ha : PT X a tA) : PW X (.BoolOp .Or [a] pos) tA := by
 intro wh pins s σ H Q I h
 refine isTrue_or (thn (ha pins s σ H Q I h) fun c s1 e => ?_)
 cases c with
 | false => exact isTrue_or_nil e
 | true => exact e
theorem ZqA (ha : PT X a tA) (hb : PW X (.BoolOp .And (b :: rest) pos) tB') : PW X (.BoolOp .And (a :: b :: rest) pos) (tAnd tA tB') := by
 intro wh pins s σ H Q I h
 refine isTrue_and (thn (ha pins s σ H _ I h) fun c s1 ⟨H1, I1, q1⟩ => ?_)
 cases c with
 | true => exact hb wh pins s1 σ H1 Q I1 q1
 | false => exact ⟨H1, I1, q1⟩
theorem Zs4 (ha : PT X a tA) (hb : PW X (.BoolOp .Or (b :: rest) pos) tB') : PW X (.BoolOp .Or (a :: b :: rest) pos) (tOr tA tB') := by
 intro wh pins s σ H Q I h
 refine isTrue_or (thn (ha pins s σ H _ I h) fun c s1 ⟨H1, I1, q1⟩ => ?_)
 cases c with
 | true => exact ⟨H1, I1, q1⟩
 | false => exact hb wh pins s1 σ H1 Q I1 q1
theorem ZqB (ha : PT X a tA) : PT X (.UnaryOp .Not a pos) (tNot tA) := by
 intro pins s σ H Q I h
 exact isTrue_not (ha pins s σ H (fun c H1 => Q (!c) H1) I h)
def Zs5 (ta tb : TE) : TE := fun σ H Q => ta σ H fun x H1 => ∃ c, x = .bl c /\ if c = true then tb σ H1 Q else Q (.bl false) H1
def Zs6 (ta : TE) : TE := fun σ H Q => ta σ H fun x H1 => ∃ c, x = .bl c /\ Q (.bl (!c)) H1
theorem ZqC {op} {t : TE} (h : PE X a t) : PE X (.BoolOp op [a] pos) t := fun pins s σ H Q I hw => BoolOp_one (h pins s σ H Q I hw)
theorem ZqD (ha : PE X a ta) (hb : PE X (.BoolOp .And (b :: rest) pos) tb) : PE X (.BoolOp .And (a :: b :: rest) pos) (Zs5 ta tb) := by
 intro pins s σ H Q I h
 refine BoolOp_and (thn (ha pins s σ H _ I h) fun v s1 ⟨x, H1, I1, r1, q1⟩ => ?_)
 obtain ⟨c, rfl, q1⟩ := q1
 cases r1
 refine wpAny_truthy_bool ?_
 cases c with
 | true => exact hb pins s1 σ H1 Q I1 q1
 | false => exact ⟨.bl false, H1, I1, rfl, q1⟩
theorem ZqE (ha : PE X a ta) : PE X (.UnaryOp .Not a pos) (Zs6 ta) := by
 intro pins s σ H Q I h
 refine UnaryOp_ (thn (ha pins s σ H _ I h) fun v s1 ⟨x, H1, I1, r1, q1⟩ => ?_)
 obtain ⟨c, rfl, q1⟩ := q1
 cases r1
 exact not_of (wpAny_truthy_bool ⟨.bl (!c), H1, I1, rfl, q1⟩)
def tIf (t : TT) (ta tb : TE) : TE := fun σ H Q => t σ H fun c H1 => if c = true then ta σ H1 Q else tb σ H1 Q
theorem ZnC {c : Expr} (hc : PT X c tA) (ha : PE X a ta) (hb : PE X b tb) : PE X (.IfExp c a b pos) (tIf tA ta tb) := by
 intro pins s σ H Q I h
 refine wpAny_IfExp (thn (hc pins s σ H _ I h) fun d s1 ⟨H1, I1, q1⟩ => ?_)
 cases d with
 | true => exact ha pins s1 σ H1 Q I1 q1
 | false => exact hb pins s1 σ H1 Q I1 q1
end
end L2
namespace L2
open PySem PySem.Spec PyProof.Rows
def SqL (K : Fg) (H : Hp) (a : Addr) (xs : List V) : Prop :=
 Rd H a (.lst xs) \/
  ∃ (o : Obj) (its : Array Value) (n : Nat), K.lookup a = some o /\ o.cls = .type "list" /\ o.dict = none /\ o.data = .seq its n /\ its.size <= sizeLine /\ Vals xs its.toList
def SqT (K : Fg) (H : Hp) (a : Addr) (xs : List V) : Prop :=
 Rd H a (.tup xs) \/
  ∃ (o : Obj) (its : Array Value) (n : Nat), K.lookup a = some o /\ o.cls = .type "tuple" /\ o.data = .seq its n /\ its.size <= sizeLine /\ Vals xs its.toList
noncomputable def absV : Value -> Option V
 | .none => some .non
 | .bool b => some (.bl b)
 | .int i _ => some (.int i)
 | .str x _ => some (.str x)
 | .bytes b _ => some (.byt b)
 | .float b _ => some (.flt b)
 | .ref a => some (.ref a)
 | .type n => some (.ty n)
 | _ => none
theorem RelV.abs {x : V} {u : Value} (r : RelV x u) : absV u = some x := by
 cases x with
 | non => cases r; rfl
 | bl _ => cases r; rfl
 | int _ => obtain ⟨t, rfl⟩ := r; rfl
 | str _ => obtain ⟨t, rfl⟩ := r; rfl
 | byt _ => obtain ⟨t, rfl⟩ := r; rfl
 | flt _ => obtain ⟨t, rfl⟩ := r; rfl
 | ref _ => cases r; rfl
 | ty _ => cases r; rfl
theorem RelV.inj {x y : V} {u : Value} (r : RelV x u) (q : RelV y u) : x = y := Option.some.inj (r.abs.symm.trans q.abs)
theorem Vals.inj : ∀ {xs ys : List V} {us : List Value}, Vals xs us -> Vals ys us -> xs = ys
 | _, _, _, .nil, .nil => rfl
 | _, _, _, .cons r t, .cons r' t' => by rw [r.inj r', Vals.inj t t']
section
variable {X : Cx} {pins : List (Addr × Obj)} {σ : St} {H : Hp} {s : Shared} {a : Addr} {xs ys : List V}
theorem Inv.list (I : Inv X pins σ H s) (h : SqL X.K H a xs) : ∃ its : List Value, Vals xs its /\ PlainL s.heap a its.toArray /\ xs.length <= sizeLine := by
 rcases h with h | ⟨o, its, n, hk, hc, hd, hs, hz, r⟩
 . obtain ⟨z, its, n, r, e⟩ := h.ok I.hok
   exact ⟨its, r, ⟨_, n, e, rfl, rfl, rfl⟩, z⟩
 . refine ⟨its.toList, r, ⟨o, n, I.kIn a o hk, hc, hd, by simpa using hs⟩, ?_⟩
   have e := r.length
   simp only [Array.length_toList] at e
   omega
theorem Inv.tuple (I : Inv X pins σ H s) (h : SqT X.K H a xs) : ∃ its : List Value, Vals xs its /\ IsTup s.heap a its.toArray /\ xs.length <= sizeLine := by
 rcases h with h | ⟨o, its, n, hk, hc, hs, hz, r⟩
 . obtain ⟨z, its, r, p⟩ := h.ok I.hok
   exact ⟨its, r, p, z⟩
 . refine ⟨its.toList, r, ⟨o, I.kIn a o hk, hc, n, by simpa using hs⟩, ?_⟩
   have e := r.length
   simp only [Array.length_toList] at e
   omega
theorem Inv.list_inj (I : Inv X pins σ H s) (h : SqL X.K H a xs) (h' : SqL X.K H a ys) : xs = ys := by
 obtain ⟨its, r, ⟨o, n, e, _, _, d⟩, _⟩ := I.list h
 obtain ⟨its', r', ⟨o', n', e', _, _, d'⟩, _⟩ := I.list h'
 rw [e] at e'; cases e'
 rw [d] at d'
 injection d' with d1 _
 have : its = its' := by simpa using congrArg Array.toList d1
 subst this
 exact r.inj r'
theorem Inv.tuple_inj (I : Inv X pins σ H s) (h : SqT X.K H a xs) (h' : SqT X.K H a ys) : xs = ys := by
 obtain ⟨its, r, ⟨o, e, _, n, d⟩, _⟩ := I.tuple h
 obtain ⟨its', r', ⟨o', e', _, n', d'⟩, _⟩ := I.tuple h'
 rw [e] at e'; cases e'
 rw [d] at d'
 injection d' with d1 _
 have : its = its' := by simpa using congrArg Array.toList d1
 subst this
 exact r.inj r'
end
noncomputable abbrev Cx.wish (X : Cx) (E : Value -> Shared -> Prop) : Cx := { X with xe := E }
noncomputable abbrev Cx.nox (X : Cx) : Cx := X.wish fun _ _ => False
theorem Cx.Ok.wish {X : Cx} (ok : X.Ok) (E : Value -> Shared -> Prop) : (X.wish E).Ok :=
 ⟨ok.mod, ok.kind, ok.glob, ok.blt, ok.above, ok.inj, ok.has, ok.cab, ok.hd, ok.frames, ok.stk, ok.exf, ok.bs, ok.bsz, ok.noex, ok.exfs, ok.funs, ok.frf⟩
theorem Cx.Ok.unwish {X : Cx} {E : Value -> Shared -> Prop} (ok : (X.wish E).Ok) : X.Ok :=
 ⟨ok.mod, ok.kind, ok.glob, ok.blt, ok.above, ok.inj, ok.has, ok.cab, ok.hd, ok.frames, ok.stk, ok.exf, ok.bs, ok.bsz, ok.noex, ok.exfs, ok.funs, ok.frf⟩
section
variable {X : Cx} {pins : List (Addr × Obj)} {σ : St} {H : Hp} {s : Shared} {E : Value -> Shared -> Prop}
theorem Inv.wish (I : Inv X pins σ H s) (E : Value -> Shared -> Prop) : Inv (X.wish E) pins σ H s := ⟨I.ok.wish E, I.os, I.bare, I.base, I.loc, I.cell, I.free, I.freeC, I.pin, I.hok, I.len⟩
theorem Inv.unwish (I : Inv (X.wish E) pins σ H s) : Inv X pins σ H s := ⟨I.ok.unwish, I.os, I.bare, I.base, I.loc, I.cell, I.free, I.freeC, I.pin, I.hok, I.len⟩
theorem SP.unwish {D : Ends} {f : Flow} {s' : Shared} (h : SP (X.wish E) pins D f s') : SP X pins D f s' := by
 cases f with
 | next => obtain ⟨σ', H', I, q⟩ := h; exact ⟨σ', H', I.unwish, q⟩
 | brk => obtain ⟨σ', H', I, q⟩ := h; exact ⟨σ', H', I.unwish, q⟩
 | cont => obtain ⟨σ', H', I, q⟩ := h; exact ⟨σ', H', I.unwish, q⟩
 | ret u => obtain ⟨v, σ', H', I, r, q⟩ := h; exact ⟨v, σ', H', I.unwish, r, q⟩
theorem PSs.nox {st : List Stmt} {t : TS} (h : PSs X.nox st t) : PSs X st t := fun pins s σ H D I hw =>
 wpAny_mono (h pins s σ H D (I.wish _) hw) (fun _ _ q => q.unwish) fun _ _ z => False.elim z
end
section
variable {X : Cx} {st : Stmt} {rest : List Stmt} {t u : TS} {e : Expr} {te : TE} {pos : Pos}
def Zs7 : TS := fun D σ H => D.nx σ H
def tSeq (t u : TS) : TS := fun D σ H => t { D with nx := u D } σ H
theorem Zpf : PSs X [] Zs7 := fun _ _ σ H _ I h => wpAny_execs_nil ⟨σ, H, I, h⟩
theorem ZnD (h1 : PS X st t) (h2 : PSs X rest u) : PSs X (st :: rest) (tSeq t u) := by
 intro pins s σ H D I h
 refine wpAny_execs_cons (thn (h1 pins s σ H { D with nx := u D } I h) fun f s1 q => ?_)
 cases f with
 | next =>
  obtain ⟨σ', H', I', q⟩ := q
  exact h2 pins s1 σ' H' D I' q
 | ret v => exact q
 | brk => exact q
 | cont => exact q
theorem Inv.quiet {pins : List (Addr × Obj)} {σ : St} {H : Hp} {s : Shared} (I : Inv X pins σ H s) : interactive X.env = false := by simp [interactive, I.ok.kind]
def Zs8 (te : TE) : TS := fun D σ H => te σ H fun _ H1 => D.nx σ H1
theorem Zpg (he : PE X e te) (hs : swapsWith e none pos.line X.env = pure false := by rfl) : PS X (.Expr e pos) (Zs8 te) := by
 intro pins s σ H D I h
 exact wpAny_Expr_any (thn (he pins s σ H _ I h) fun v s1 ⟨x, H1, I1, r1, q1⟩ => ⟨σ, H1, I1, q1⟩) I.quiet hs
def tRet (te : TE) : TS := fun D σ H => te σ H D.rt
theorem ZqF (he : PE X e te) : PS X (.Return (some e) pos) (tRet te) := by
 intro pins s σ H D I h
 exact wpAny_Return_some (thn (he pins s σ H _ I h) fun v s1 ⟨x, H1, I1, r1, q1⟩ => ⟨x, σ, H1, I1, r1, q1⟩)
def tIfS (c : TT) (t u : TS) : TS := fun D σ H => c σ H fun b H1 => if b = true then t D σ H1 else u D σ H1
theorem Zs9 {c : Expr} {a b : List Stmt} {tc : TT} (hc : PT X c tc) (ha : PSs X a t) (hb : PSs X b u) : PS X (.If c a b pos) (tIfS tc t u) := by
 intro pins s σ H D I h
 refine wpAny_If (thn (hc pins s σ H _ I h) fun d s1 ⟨H1, I1, q1⟩ => ?_)
 cases d with
 | true => exact ha pins s1 σ H1 D I1 q1
 | false => exact hb pins s1 σ H1 D I1 q1
end
abbrev TG := V -> St -> Hp -> (St -> Hp -> Prop) -> Prop
abbrev TGs := List V -> St -> Hp -> (St -> Hp -> Prop) -> Prop
def PG (X : Cx) (target : Expr) (t : TG) : Prop :=
 ∀ (pins : List (Addr × Obj)) (s : Shared) (σ : St) (H : Hp) (v : V) (u : Value) (Q : St -> Hp -> Prop), Inv X pins σ H s -> RelV v u -> t v σ H Q ->
  wpAny (model X.prog X.w) X.A (assign target X.env u) (fun _ s' => ∃ σ' H', Inv X pins σ' H' s' /\ Q σ' H') X.xe s
def PGs (X : Cx) (ts : List Expr) (t : TGs) : Prop :=
 ∀ (pins : List (Addr × Obj)) (s : Shared) (σ : St) (H : Hp) (vs : List V) (us : List Value) (Q : St -> Hp -> Prop), Inv X pins σ H s -> Vals vs us -> t vs σ H Q ->
  wpAny (model X.prog X.w) X.A (assignInOrder ((assignEach ts X.env).map (·.2)) us) (fun _ s' => ∃ σ' H', Inv X pins σ' H' s' /\ Q σ' H') X.xe s
abbrev TSet := V -> V -> V -> Hp -> (Hp -> Prop) -> Prop
def PSet (X : Cx) (t : TSet) : Prop :=
 ∀ (pins : List (Addr × Obj)) (s : Shared) (σ : St) (H : Hp) (o i v : V) (ov iv u : Value) (Q : Hp -> Prop), Inv X pins σ H s -> RelV o ov -> RelV i iv -> RelV v u -> t o i v H Q ->
  wpAny (model X.prog X.w) X.A (setItem ov iv u) (fun _ s' => ∃ H', Inv X pins σ H' s' /\ Q H') X.xe s
section
variable {X : Cx} {pos : Pos}
noncomputable def ZfE (i : Nat) : TG := fun v σ H Q => Q (σ.set i (some v)) H
theorem Zli {i : Nat} {x : Str} (hN : X.N.Nodup) (hi : X.N[i]? = some x) (hx : Loc X.env.scope x) (hf : X.fn x = true \/ X.env.scope.names.lookup x = some .local := by first | exact .inl rfl | exact .inr rfl | assumption) : PG X (.Name x pos) (ZfE i) := by
 intro pins s σ H v u Q I r h
 exact wpAny_assign_Name (ZhQ I hN hi hx r (fun s' I' => ⟨_, H, I', h⟩) hf)
noncomputable def gNil : TGs := fun vs σ H Q => vs = [] /\ Q σ H
noncomputable def ZoA (t : TG) (u : TGs) : TGs := fun vs σ H Q => ∃ v r, vs = v :: r /\ t v σ H fun σ' H' => u r σ' H' Q
theorem Zph : PGs X [] gNil := by
 intro pins s σ H vs us Q I r h
 obtain ⟨e, h⟩ := h
 subst e
 cases r
 exact assignInOrder_nil ⟨σ, H, I, h⟩
theorem ZnE {e : Expr} {es : List Expr} {t : TG} {u : TGs} (h1 : PG X e t) (h2 : PGs X es u)
 (hs : (assignEach (e :: es) X.env).map (·.2) = assign e X.env :: (assignEach es X.env).map (·.2) := by rfl) : PGs X (e :: es) (ZoA t u) := by
 intro pins s σ H vs us Q I r h
 obtain ⟨v, vr, e1, h⟩ := h
 subst e1
 cases r with
 | cons r rr =>
  rw [hs]
  refine assignInOrder_cons (thn (h1 pins s σ H _ _ _ I r h) fun _ s1 ⟨σ1, H1, I1, q1⟩ => ?_)
  exact h2 pins s1 σ1 H1 _ _ Q I1 rr q1
noncomputable def gTup (K : Fg) (n : Nat) (t : TGs) : TG := fun v σ H Q => ∃ a xs, v = .ref a /\ SqT K H a xs /\ xs.length = n /\ t xs σ H Q
theorem ZqG {es : List Expr} {k : Nat} {t : TGs} {n : Nat} (hc : X.calm = true) (h : PGs X es t)
 (hn : (assignEach es X.env).length = n := by rfl) (hst : (assignEach es X.env).findIdx? (·.1) = none := by rfl) : PG X (.Tuple es k pos) (gTup X.K n t) := by
 intro pins s σ H v u Q I r hw
 obtain ⟨a, xs, e1, hq, hl, hw⟩ := hw
 subst e1
 cases r
 obtain ⟨its, rv, ht, hz⟩ := I.tuple hq
 refine assign_Tuple_tuple (I.ok.hd hc) ht (by simp [hn, <- hl, rv.length]) hst fun h' hx => ?_
 have I1 : Inv X pins σ H { s with heap := h' } := I.kept (t' := s.toks) fun b o e => hx b o (Nat.ne_of_lt (Heap.lt_size e)) e
 exact h pins _ σ H xs _ Q I1 (by simpa using rv) hw
noncomputable def gSub (to ti : TE) (t : TSet) : TG := fun v σ H Q => to σ H fun o H1 => ti σ H1 fun i H2 => t o i v H2 fun H3 => Q σ H3
theorem ZqH {o i : Expr} {to ti : TE} {t : TSet} (ho : PE X o to) (hi : PE X i ti) (hs : PSet X t)
 (ha : ∀ v, assign (.Subscript o i pos) X.env v = (do
  let ov <- holding [v] (eval o X.env)
  let iv <- holding [v, ov] (eval i X.env)
  standAt pos
  holding [v, ov, iv] (setItem ov iv v)
  release [v, ov, iv] []) := by intro _; rfl) : PG X (.Subscript o i pos) (gSub to ti t) := by
 intro pins s σ H v u Q I r h
 rw [ha]
 refine wpAny_bind (wpAny_holding (thn (ho pins s σ H _ I h) fun ov s1 ⟨x, H1, I1, r1, q1⟩ => ?_))
 refine wpAny_bind (wpAny_holding (thn (hi pins s1 σ H1 _ I1 q1) fun iv s2 ⟨y, H2, I2, r2, q2⟩ => ?_))
 refine wpAny_bind (wpAny_standAt (wpAny_bind (wpAny_holding (thn (hs pins s2 σ H2 x y v ov iv u _ I2 r1 r2 r q2) fun _ s3 ⟨H3, I3, q3⟩ => ?_))))
 exact wpAny_release ⟨σ, H3, I3, q3⟩
def tAsg (te : TE) (g : TG) : TS := fun D σ H => te σ H fun x H1 => g x σ H1 D.nx
theorem Zm1 {tg e : Expr} {te : TE} {g : TG} (he : PE X e te) (hg : PG X tg g) (hs : swapsWithSole [tg] e pos.line X.env = pure false := by rfl) (hw : swappedStores [tg] e X.env = pure none := by rfl)
 (h1 : (assignEach [tg] X.env).map (·.2) = [assign tg X.env] := by rfl) : PS X (.Assign [tg] e pos) (tAsg te g) := by
 intro pins s σ H D I h
 refine wpAny_Assign_stores (thn (he pins s σ H _ I h) fun v s1 ⟨x, H1, I1, r1, q1⟩ => ?_) hs hw
 rw [h1]
 exact thn (hg pins s1 σ H1 x v _ I1 r1 q1) fun _ s2 q => q
theorem ZqI {i : Nat} {x : Str} {e : Expr} {te : TE} {pos' : Pos} (hN : X.N.Nodup) (hi : X.N[i]? = some x) (hx : Loc X.env.scope x) (he : PE X e te) (hs : swapsWith e (some (.Name x pos')) pos.line X.env = pure false := by rfl) (hf : X.fn x = true \/ X.env.scope.names.lookup x = some .local := by first | exact .inl rfl | exact .inr rfl | assumption) :
 PS X (.Assign [.Name x pos'] e pos) (tAsg te (ZfE i)) := by
 intro pins s σ H D I h
 refine wpAny_Assign_Name (thn (he pins s σ H _ I h) fun v s1 ⟨y, H1, I1, r1, q1⟩ => ?_) hs
 exact ZhQ I1 hN hi hx r1 (fun s2 I2 => ⟨_, H1, I2, q1⟩) hf
end
structure It where
 go : Nat -> Hp -> Prop
 yld : Nat -> Hp -> V -> Hp -> Prop
 stop : Nat -> Hp -> Prop
def FpOk (X : Cx) (pins : List (Addr × Obj)) (H : Hp) (b : Addr) : Prop :=
 H b = none /\ b ≠ X.env.locals /\ b ∉ X.fs /\ (b ∈ X.ex \/ X.s₀.heap.objs.size <= b) /\ (∀ x c, X.env.cells.lookup x = some c -> c ≠ b) /\ ∀ p ∈ X.pn ++ pins, p.1 ≠ b
theorem Inv.fpOk {X : Cx} {pins : List (Addr × Obj)} {σ : St} {H H' : Hp} {s : Shared} {b : Addr} (I : Inv X pins σ H s) (hb : s.heap.objs.size <= b) (hn : H' b = none) : FpOk X pins H' b := by
 refine ⟨hn, Nat.ne_of_gt (Nat.lt_of_lt_of_le I.lt hb), I.nofs hb, .inr (Nat.le_trans I.sz hb), fun x c e z => ?_, fun p hp z => ?_⟩
 . obtain ⟨v, q⟩ := I.cell x c e
   exact absurd (Nat.lt_of_lt_of_le q.lt (by rw [z]; exact hb)) (Nat.lt_irrefl _)
 . exact absurd (Nat.lt_of_lt_of_le (Heap.lt_size (I.pin p hp).1) (by rw [z]; exact hb)) (Nat.lt_irrefl _)
structure Turn (P : Program) (w : World) (K : Fg) (tg : Expr) (J : It) (fp : List Addr) (it : Addr) (tn : Nat -> Heap -> Prop) : Prop where
 mem : it ∈ fp
 obj : ∀ i h, tn i h -> ∀ b ∈ fp, ∃ o, h.get? b = some o /\ ∀ v, o.data ≠ .cell v
 keep : ∀ i h h', tn i h -> (∀ b ∈ fp, ∀ o, h.get? b = some o -> h'.get? b = some o) -> tn i h'
 item : ∀ (X : Cx), X.prog = P -> X.w = w -> X.K = K -> X.calm = true -> ∀ (i : Nat) (pins : List (Addr × Obj)) (s : Shared) (σ : St) (H : Hp) (E : Value -> Shared -> Prop), Inv X pins σ H s -> (∀ b ∈ fp, FpOk X pins H b) -> tn i s.heap -> J.go i H ->
  wpAny (model P w) X.A (pyNext (.ref it)) (fun r s1 => ∃ u, r = some u /\
   wpAny (model P w) X.A (letOwnedTupleGo tg (.ref it) u) (fun _ s2 => ∃ x H', Inv X pins σ H' s2 /\ RelV x u /\ J.yld i H x H' /\ tn (i + 1) s2.heap /\ ∀ b ∈ fp, H' b = none) E s1) E s
 done : ∀ (X : Cx), X.prog = P -> X.w = w -> X.K = K -> X.calm = true -> ∀ (i : Nat) (pins : List (Addr × Obj)) (s : Shared) (σ : St) (H : Hp) (E : Value -> Shared -> Prop), Inv X pins σ H s -> (∀ b ∈ fp, FpOk X pins H b) -> tn i s.heap -> J.stop i H ->
  wpAny (model P w) X.A (pyNext (.ref it)) (fun r s1 => r = none /\ Inv X pins σ H s1) E s
 self : ∀ (A : Around) (i : Nat) (s : Shared) (Q : Value -> Shared -> Prop) (E : Value -> Shared -> Prop), tn i s.heap -> Q (.ref it) s -> wpAny (model P w) A (pyIter (.ref it)) Q E s
abbrev TI := St -> Hp -> (It -> Hp -> Prop) -> Prop
def PIE (X : Cx) (pins : List (Addr × Obj)) (σ : St) (tg : Expr) (R : It -> Hp -> Prop) (itv : Value) (s2 : Shared) : Prop :=
 ∃ (it : Addr) (fp : List Addr) (tn : Nat -> Heap -> Prop) (J : It) (H' : Hp), itv = .ref it /\ Inv X pins σ H' s2 /\ Turn X.prog X.w X.K tg J fp it tn /\ tn 0 s2.heap /\ (∀ b ∈ fp, FpOk X pins H' b) /\ R J H'
def PI (X : Cx) (tg iter : Expr) (wi : TI) : Prop :=
 ∀ (pins : List (Addr × Obj)) (s : Shared) (σ : St) (H : Hp) (R : It -> Hp -> Prop), Inv X pins σ H s -> wi σ H R ->
  wpAny (model X.prog X.w) X.A (eval iter X.env) (fun v s1 => wpAny (model X.prog X.w) X.A (pyIter v) (PIE X pins σ tg R) X.xe s1) X.xe s
theorem Zij {M : Model} {A : Around} {E : Value -> Shared -> Prop} {s : Shared} {tg : Expr} {it : Addr} {u : Value} {o : Obj} {n : String} {vs : Array Value} {Q : Unit -> Shared -> Prop} (ho : s.heap.get? it = some o) (hc : o.cls = .type n) (hd : o.data = .fields vs)
 (hn : ["enumerate", "zip", "dict_itemiterator", "dict_reverseitemiterator", "odict_iterator", "itertools.zip_longest", "itertools.pairwise"].contains n = false) (hQ : Q () s) : wpAny M A (letOwnedTupleGo tg (.ref it) u) Q E s := by
 unfold letOwnedTupleGo
 cases tg <;> first
  | exact wpAny_pure hQ
  | (cases u <;> first
   | exact wpAny_pure hQ
   | (refine wpAny_bind (wpAny_load ho ?_)
      rw [hc, hd]
      show wpAny M A (if (["enumerate", "zip", "dict_itemiterator", "dict_reverseitemiterator", "odict_iterator", "itertools.zip_longest", "itertools.pairwise"].contains n && vs[0]? == some (rawInt _)) = true then _ else _) Q E s
      rw [if_neg (by intro h; rw [hn, Bool.false_and] at h; cases h)]
      exact wpAny_pure hQ))
noncomputable def Itl (K : Fg) (a : Addr) : It :=
 ⟨fun i H => ∃ xs x, SqL K H a xs /\ xs[i]? = some x, fun i H x H' => H' = H /\ ∀ xs, SqL K H a xs -> xs[i]? = some x, fun i H => ∃ xs, SqL K H a xs /\ xs.length <= i⟩
noncomputable def Itt (K : Fg) (a : Addr) : It :=
 ⟨fun i H => ∃ xs x, SqT K H a xs /\ xs[i]? = some x, fun i H x H' => H' = H /\ ∀ xs, SqT K H a xs -> xs[i]? = some x, fun i H => ∃ xs, SqT K H a xs /\ xs.length <= i⟩
noncomputable def Itr (lo : Int) (n : Nat) : It := ⟨fun i _ => i < n, fun i H x H' => H' = H /\ x = .int (lo + i), fun i _ => n <= i⟩
theorem Zm2 {P : Program} {w : World} {K : Fg} {tg : Expr} (a it : Addr) : Turn P w K tg (Itl K a) [it] it (fun i h => h.IsListIter it a i) where
 mem := by simp
 obj := fun i h st b hb => by
  have e : b = it := by simpa using hb
  subst e
  obtain ⟨o, e, c, d⟩ := st
  exact ⟨o, e, fun v z => by rw [d] at z; cases z⟩
 keep := fun i h h' st k => st.at fun o e => k it (by simp) o e
 item := by
  intro X hP hw hK hc i pins s σ H E I hf st hg
  subst hP hw hK
  obtain ⟨xs, x, hq, hx⟩ := hg
  obtain ⟨its, rv, p, hz⟩ := I.list hq
  obtain ⟨u, hu, ru⟩ := rv.get hx
  obtain ⟨f0, f1, f2, f3, f4, f5⟩ := hf it (by simp)
  refine wpAny_pyNext_list_item st p.isList (x := u) (by simpa using hu) fun h' st' sb => ?_
  have I1 : Inv X pins σ H { s with heap := h' } := I.turned (t' := s.toks) (fun b o hb e => (sb.2 b hb).trans e) f0 f1 f3 f4 f5
  obtain ⟨o, e, c, d⟩ := id st'
  exact ⟨u, rfl, Zij (s := { s with heap := h' }) e c d (by decide) ⟨x, H, I1, ru, ⟨rfl, fun ys hy => by rw [I.list_inj hy hq]; exact hx⟩, st', fun b hb => (hf b hb).1⟩⟩
 done := by
  intro X hP hw hK hc i pins s σ H E I hf st hg
  subst hP hw hK
  obtain ⟨xs, hq, hx⟩ := hg
  obtain ⟨its, rv, p, hz⟩ := I.list hq
  obtain ⟨f0, f1, f2, f3, f4, f5⟩ := hf it (by simp)
  have hl := rv.length
  exact wpAny_pyNext_list_end (I.ok.hd hc) st p.isList (by simp; omega) fun h' eb => ⟨rfl, I.turned (t' := s.toks) (fun b o hb e => eb b o hb e) f0 f1 f3 f4 f5⟩
 self := fun _ _ _ _ _ st h => wpAny_pyIter_listiter st h
theorem ZlH {P : Program} {w : World} {K : Fg} {tg : Expr} (a it : Addr) : Turn P w K tg (Itt K a) [it] it (fun i h => h.IsTupleIter it a i) where
 mem := by simp
 obj := fun i h st b hb => by
  have e : b = it := by simpa using hb
  subst e
  obtain ⟨o, e, c, d⟩ := st
  exact ⟨o, e, fun v z => by rw [d] at z; cases z⟩
 keep := fun i h h' st k => st.at fun o e => k it (by simp) o e
 item := by
  intro X hP hw hK hc i pins s σ H E I hf st hg
  subst hP hw hK
  obtain ⟨xs, x, hq, hx⟩ := hg
  obtain ⟨its, rv, p, hz⟩ := I.tuple hq
  obtain ⟨u, hu, ru⟩ := rv.get hx
  obtain ⟨f0, f1, f2, f3, f4, f5⟩ := hf it (by simp)
  refine wpAny_pyNext_tuple_item st (show s.heap.IsTuple a its.toArray from p) (x := u) (by simpa using hu) fun h' st' sb => ?_
  have I1 : Inv X pins σ H { s with heap := h' } := I.turned (t' := s.toks) (fun b o hb e => (sb.2 b hb).trans e) f0 f1 f3 f4 f5
  obtain ⟨o, e, c, d⟩ := id st'
  exact ⟨u, rfl, Zij (s := { s with heap := h' }) e c d (by decide) ⟨x, H, I1, ru, ⟨rfl, fun ys hy => by rw [I.tuple_inj hy hq]; exact hx⟩, st', fun b hb => (hf b hb).1⟩⟩
 done := by
  intro X hP hw hK hc i pins s σ H E I hf st hg
  subst hP hw hK
  obtain ⟨xs, hq, hx⟩ := hg
  obtain ⟨its, rv, p, hz⟩ := I.tuple hq
  obtain ⟨f0, f1, f2, f3, f4, f5⟩ := hf it (by simp)
  have hl := rv.length
  exact wpAny_pyNext_tuple_end (I.ok.hd hc) st (show s.heap.IsTuple a its.toArray from p) (by simp; omega) fun h' eb => ⟨rfl, I.turned (t' := s.toks) (fun b o hb e => eb b o hb e) f0 f1 f3 f4 f5⟩
 self := fun _ _ _ _ _ st h => wpAny_pyIter_tupleiter st h
theorem ZlI {P : Program} {w : World} {K : Fg} {tg : Expr} (it : Addr) (lo : Int) (n : Nat) : Turn P w K tg (Itr lo n) [it] it (fun i h => IsRangeIter h it (lo + (i : Nat) * 1) ((n : Int) - (i : Nat)) 1) where
 mem := by simp
 obj := fun i h st b hb => by
  have e : b = it := by simpa using hb
  subst e
  exact ⟨_, st, fun v z => by
   have z' : Data.fields _ = Data.cell v := z
   cases z'⟩
 keep := fun i h h' st k => k it (by simp) _ st
 item := by
  intro X hP hw hK hc i pins s σ H E I hf st hg
  subst hP hw hK
  obtain ⟨f0, f1, f2, f3, f4, f5⟩ := hf it (by simp)
  have W := Walks.range (prog := X.prog) (w := X.w) (I.ok.hd hc) it lo 1 n
  refine W.item i s _ _ hg st fun v h' tk hv st' kk => ?_
  obtain ⟨t, rfl⟩ := hv
  have I1 : Inv X pins σ H { s with heap := h', toks := tk } := I.turned (fun b o hb e => kk b o (by simpa using hb) e) f0 f1 f3 f4 f5
  refine ⟨_, rfl, Zij (s := { s with heap := h', toks := tk }) (n := "range_iterator") st' rfl rfl (by decide) ⟨.int (lo + i), H, I1, ⟨t, ?_⟩, ⟨rfl, rfl⟩, st', fun b hb => (hf b hb).1⟩⟩
  rw [Int.mul_one]
 done := by
  intro X hP hw hK hc i pins s σ H E I hf st hg
  subst hP hw hK
  obtain ⟨f0, f1, f2, f3, f4, f5⟩ := hf it (by simp)
  exact wpAny_pyNext_range_end (I.ok.hd hc) st (by have : n <= i := hg; omega) fun h' eb => ⟨rfl, I.turned (t' := s.toks) (fun b o hb e => eb b o hb e) f0 f1 f3 f4 f5⟩
 self := fun _ _ _ _ _ st h => wpAny_pyIter_rangeiter st h
end L2
namespace L2
open PySem PySem.Spec PyProof.Rows
section
variable {X : Cx} {tg : Expr}
noncomputable def ZsA (K : Fg) (tl : TE) : TI := fun σ H R => tl σ H fun x H1 => ∃ a, x = .ref a /\ (∃ xs, SqL K H1 a xs) /\ R (Itl K a) H1
noncomputable def iTup (K : Fg) (tl : TE) : TI := fun σ H R => tl σ H fun x H1 => ∃ a, x = .ref a /\ (∃ xs, SqT K H1 a xs) /\ R (Itt K a) H1
theorem Zlj {l : Expr} {tl : TE} (hl : PE X l tl) : PI X tg l (ZsA X.K tl) := by
 intro pins s σ H R I h
 refine thn (hl pins s σ H _ I h) fun v s1 ⟨x, H1, I1, r1, q1⟩ => ?_
 obtain ⟨a, e, ⟨xs, hq⟩, q⟩ := q1
 subst e
 cases r1
 obtain ⟨its, rv, p, hz⟩ := I1.list hq
 refine wpAny_pyIter_list p.isList ?_
 refine ⟨s1.heap.objs.size, [s1.heap.objs.size], _, _, H1, rfl, I1.kept (t' := s1.toks) fun b o e => Heap.get?_push_of_some _ e, Zm2 a _, ⟨_, Heap.get?_push_size _ rfl, rfl, rfl⟩, fun b hb => ?_, q⟩
 have e : b = s1.heap.objs.size := by simpa using hb
 subst e
 exact I1.fpOk (Nat.le_refl _) (I1.hok.fresh (Nat.le_refl _))
theorem Zm3 {l : Expr} {tl : TE} (hl : PE X l tl) : PI X tg l (iTup X.K tl) := by
 intro pins s σ H R I h
 refine thn (hl pins s σ H _ I h) fun v s1 ⟨x, H1, I1, r1, q1⟩ => ?_
 obtain ⟨a, e, ⟨xs, hq⟩, q⟩ := q1
 subst e
 cases r1
 obtain ⟨its, rv, p, hz⟩ := I1.tuple hq
 refine wpAny_pyIter_tuple (show s1.heap.IsTuple a its.toArray from p) ?_
 refine ⟨s1.heap.objs.size, [s1.heap.objs.size], _, _, H1, rfl, I1.kept (t' := s1.toks) fun b o e => Heap.get?_push_of_some _ e, ZlH a _, ⟨_, Heap.get?_push_size _ rfl, rfl, rfl⟩, fun b hb => ?_, q⟩
 have e : b = s1.heap.objs.size := by simpa using hb
 subst e
 exact I1.fpOk (Nat.le_refl _) (I1.hok.fresh (Nat.le_refl _))
theorem Zka {pins : List (Addr × Obj)} {σ : St} {H : Hp} {s : Shared} {R : It -> Hp -> Prop} {E : Value -> Shared -> Prop} {lo hi : Int} {t u v : Tok} {tk : Nat} (I : Inv X pins σ H s) (h1 : -(2 ^ 62) <= lo) (h2 : lo < 2 ^ 62) (h3 : -(2 ^ 62) <= hi) (h4 : hi < 2 ^ 62)
 (q : R (Itr lo (hi - lo).toNat) H) : wpAny (model X.prog X.w) X.A (pyIter (.ref s.heap.objs.size)) (PIE X pins σ tg R) E { s with heap := s.heap.push { cls := .type "range", data := .fields #[.int lo t, .int hi u, .int 1 v] }, toks := tk } := by
 refine wpAny_pyIter_range (IsRange.new ..) (small_one h1 h2 h3 h4) ?_
 have I1 : Inv X pins σ H { s with heap := s.heap.push { cls := .type "range", data := .fields #[.int lo t, .int hi u, .int 1 v] }, toks := tk } := I.kept fun b o e => Heap.get?_push_of_some _ e
 refine ⟨(s.heap.push { cls := .type "range", data := .fields #[.int lo t, .int hi u, .int 1 v] }).objs.size, [(s.heap.push { cls := .type "range", data := .fields #[.int lo t, .int hi u, .int 1 v] }).objs.size], _, _, H, rfl,
  I1.kept (t' := tk) fun b o e => Heap.get?_push_of_some _ e, ZlI _ lo (hi - lo).toNat, ?_, fun b hb => ?_, q⟩
 . have e1 : lo + ((0 : Nat) : Int) * 1 = lo := by simp
   have e2 : (((hi - lo).toNat : Nat) : Int) - ((0 : Nat) : Int) = Builtin.Range.rangeSize lo hi 1 := by rw [rangeSize_one]; split <;> omega
   show IsRangeIter _ _ (lo + ((0 : Nat) : Int) * 1) ((((hi - lo).toNat : Nat) : Int) - ((0 : Nat) : Int)) 1
   rw [e1, e2]
   exact Heap.get?_push_size _ rfl
 . have e : b = (s.heap.push { cls := .type "range", data := .fields #[.int lo t, .int hi u, .int 1 v] }).objs.size := by simpa using hb
   subst e
   exact I1.fpOk (Nat.le_refl _) (I1.hok.fresh (Nat.le_refl _))
noncomputable def ZsB (ta : TA) : TI := fun σ H R => ta σ H fun vs H1 => ∃ j : Int, vs = [.int j] /\ -(2 ^ 62) <= j /\ j < 2 ^ 62 /\ R (Itr 0 j.toNat) H1
noncomputable def ZsC (ta : TA) : TI := fun σ H R => ta σ H fun vs H1 => ∃ i j : Int, vs = [.int i, .int j] /\ (-(2 ^ 62) <= i /\ i < 2 ^ 62 /\ -(2 ^ 62) <= j /\ j < 2 ^ 62) /\ R (Itr i (j - i).toNat) H1
theorem Zm4 {a : Expr} {ta : TA} {p pos : Pos} (hg : Gl X "range") (hm : X.mg "range" = none) (ha : PA X [a] ta) (hs : starEach [a] X.env = [(false, eval a X.env)] := by rfl) : PI X tg (.Call (.Name "range" p) [a] [] pos) (ZsB ta) := by
 intro pins s σ H R I h
 refine Call_ (Zds I hg hm boot_range (PyProof.Rows.callWith_type1 (thn (ha pos pins s σ H _ I h) fun us s1 ⟨vs, H1, I1, r1, q1⟩ => ?_) hs rfl))
 obtain ⟨j, e, q1, q2, q⟩ := q1
 subst e
 cases r1 with
 | cons r rr =>
  cases rr
  obtain ⟨t, rfl⟩ := r
  exact call_range_1 (Zka I1 (by omega) (by omega) q1 q2 (by simpa using q))
theorem Zm5 {a b : Expr} {ta : TA} {p pos : Pos} (hg : Gl X "range") (hm : X.mg "range" = none) (ha : PA X [a, b] ta) (hs : starEach [a, b] X.env = [(false, eval a X.env), (false, eval b X.env)] := by rfl) (hs2 : starEach [b] X.env = [(false, eval b X.env)] := by rfl) :
 PI X tg (.Call (.Name "range" p) [a, b] [] pos) (ZsC ta) := by
 intro pins s σ H R I h
 refine Call_ (Zds I hg hm boot_range (PyProof.Rows.callWith_type1 (thn (ha pos pins s σ H _ I h) fun us s1 ⟨vs, H1, I1, r1, q1⟩ => ?_) (by rw [hs, hs2]) (by rw [hs2]; rfl)))
 obtain ⟨i, j, e, ⟨q1, q2, q3, q4⟩, q⟩ := q1
 subst e
 cases r1 with
 | cons r rr =>
  cases rr with
  | cons r' rr =>
   cases rr
   obtain ⟨t, rfl⟩ := r
   obtain ⟨t', rfl⟩ := r'
   exact call_range_2 (Zka I1 q1 q2 q3 q4 q)
def tFor (wi : TI) (g : TG) (tb : TS) : TS := fun D σ H => wi σ H fun J H1 => ∃ W : Nat -> Nat -> St -> Hp -> Prop, (∃ m, W 0 m σ H1) /\ ∀ i m σ H, W i m σ H ->
 (J.stop i H /\ D.nx σ H) \/ (J.go i H /\ ∃ N : St -> Hp -> Prop, (∀ σ' H', N σ' H' -> ∃ m', m' < m /\ W (i + 1) m' σ' H') /\ ∀ x H', J.yld i H x H' -> g x σ H' fun σ2 H2 => tb { D with nx := N, ct := N, bk := D.nx } σ2 H2)
noncomputable def ZgI (fp : List Addr) (h : Heap) : List (Addr × Obj) := fp.filterMap fun b => (h.get? b).map fun o => (b, o)
theorem Zfj {fp : List Addr} {h : Heap} {b : Addr} {o : Obj} (hb : b ∈ fp) (e : h.get? b = some o) : (b, o) ∈ ZgI fp h := List.mem_filterMap.mpr ⟨b, hb, by rw [e]; rfl⟩
theorem Zm6 {fp : List Addr} {h : Heap} {p : Addr × Obj} (hp : p ∈ ZgI fp h) : p.1 ∈ fp /\ h.get? p.1 = some p.2 := by
 obtain ⟨b, hb, e⟩ := List.mem_filterMap.mp hp
 cases q : h.get? b with
 | none => rw [q] at e; cases e
 | some o =>
  rw [q] at e
  have e' : (b, o) = p := Option.some.inj e
  subst e'
  exact ⟨hb, q⟩
theorem Inv.pinned {pins : List (Addr × Obj)} {σ : St} {H : Hp} {s : Shared} {fp : List Addr} (I : Inv X pins σ H s) (hf : ∀ b ∈ fp, FpOk X pins H b) (ho : ∀ b ∈ fp, ∃ o, s.heap.get? b = some o /\ ∀ v, o.data ≠ .cell v) : Inv X (pins ++ ZgI fp s.heap) σ H s :=
 I.pins_of fun p hp => (List.mem_append.mp hp).elim (fun z => I.pin p (List.mem_append_right _ z)) fun z => by
  obtain ⟨hb, e⟩ := Zm6 z
  obtain ⟨f0, f1, f2, _⟩ := hf p.1 hb
  obtain ⟨o, e', d⟩ := ho p.1 hb
  rw [e] at e'; cases e'
  exact ⟨e, f0, f1, f2, d⟩
theorem Inv.unpinned {pins pl : List (Addr × Obj)} {σ : St} {H : Hp} {s : Shared} (I : Inv X (pins ++ pl) σ H s) : Inv X pins σ H s := I.pins_of fun p hp => I.pin p (List.mem_append_right _ (List.mem_append_left _ hp))
theorem ZqJ {iter : Expr} {body : List Stmt} {wi : TI} {g : TG} {tb : TS} {pos : Pos} (hp : PassesOwn (model X.prog X.w) X.A X.env X.xe) (hc : X.calm = true) (hi : PI X tg iter wi) (hg : PG X tg g) (hb : PSs X body tb)
 (hs : ∀ x, foldedSetIterable iter X.env x = pure x := by intro _; rfl) : PS X (.For tg iter body [] pos) (tFor wi g tb) := by
 intro pins s σ H D I h
 refine wpAny_For (thn (hi pins s σ H _ I h) fun v s1 h1 => thn h1 fun itv s2 h2 => ?_) hs
 obtain ⟨it, fp, tn, J, H2, e, I2, T, st2, f2, W, ⟨m0, w0⟩, turn⟩ := h2
 subst e
 have stat : ∀ {H' : Hp}, (∀ b ∈ fp, H' b = none) -> ∀ b ∈ fp, FpOk X pins H' b := fun hn b hb => ⟨hn b hb, (f2 b hb).2⟩
 refine codeAny_forLoop_any (fun n s' => ∃ i σ' H', Inv X pins σ' H' s' /\ tn i s'.heap /\ (∀ b ∈ fp, H' b = none) /\ W i n σ' H') ?_ m0 ⟨0, σ, H2, I2, st2, fun b hb => (f2 b hb).1, w0⟩
 rintro n s3 ⟨i, σ3, H3, I3, st3, fr3, w3⟩
 rcases turn i n σ3 H3 w3 with ⟨stop, qn⟩ | ⟨go, N, hN, step⟩
 . refine wpAny_passesOwn hp (thn (T.done X rfl rfl rfl hc i pins s3 σ3 H3 X.xe I3 (stat fr3) st3 stop) fun r s4 ⟨hr, I4⟩ => ?_)
   subst hr
   exact wpAny_execs_nil ⟨σ3, H3, I4, qn⟩
 . refine wpAny_passesOwn hp (thn (T.item X rfl rfl rfl hc i pins s3 σ3 H3 X.xe I3 (stat fr3) st3 go) fun r s4 ⟨u, hr, h4⟩ => ?_)
   subst hr
   refine wpAny_passesOwn hp (thn h4 fun _ s5 ⟨x, H5, I5, r5, y5, st5, fr5⟩ => ?_)
   have I5' := I5.pinned (stat fr5) (T.obj _ _ st5)
   refine wpAny_passesOwn hp (thn (hg _ s5 σ3 H5 x u _ I5' r5 (step x H5 y5)) fun _ s6 ⟨σ6, H6, I6, q6⟩ => ?_)
   refine wpAny_passesOwn hp (thn (hb _ s6 σ6 H6 _ I6 q6) fun f s7 q7 => ?_)
   have again : ∀ {σ7 : St} {H7 : Hp}, Inv X (pins ++ ZgI fp s5.heap) σ7 H7 s7 -> N σ7 H7 -> ∃ m, m < n /\ ∃ i σ' H', Inv X pins σ' H' s7 /\ tn i s7.heap /\ (∀ b ∈ fp, H' b = none) /\ W i m σ' H' := fun {σ7 H7} I7 n7 => by
    obtain ⟨m', hm, w7⟩ := hN σ7 H7 n7
    refine ⟨m', hm, i + 1, σ7, H7, I7.unpinned, T.keep _ _ _ st5 fun b hb o e => (I7.pin (b, o) (List.mem_append_right _ (List.mem_append_right _ (Zfj hb e)))).1, fun b hb => ?_, w7⟩
    obtain ⟨o, e, d⟩ := T.obj _ _ st5 b hb
    exact (I7.pin (b, o) (List.mem_append_right _ (List.mem_append_right _ (Zfj hb e)))).2.1
   cases f with
   | next => obtain ⟨σ7, H7, I7, n7⟩ := q7; exact again I7 n7
   | cont => obtain ⟨σ7, H7, I7, n7⟩ := q7; exact again I7 n7
   | brk => obtain ⟨σ7, H7, I7, q7⟩ := q7; exact ⟨σ7, H7, I7.unpinned, q7⟩
   | ret v => obtain ⟨x7, σ7, H7, I7, r7, q7⟩ := q7; exact ⟨x7, σ7, H7, I7.unpinned, r7, q7⟩
end
end L2
namespace L2
open PySem PySem.Spec PyProof.Rows
abbrev R2 := V -> V -> Hp -> VK -> Prop
def OpR (X : Cx) (f : Value -> Value -> Sem Value) (r : R2) : Prop :=
 ∀ (pins : List (Addr × Obj)) (s : Shared) (σ : St) (H : Hp) (x y : V) (v u : Value) (Q : VK), Inv X pins σ H s -> RelV x v -> RelV y u -> r x y H Q ->
  wpAny (model X.prog X.w) X.A (f v u) (EP X pins σ Q) X.xe s
def UnR (X : Cx) (f : Value -> Sem Value) (r : V -> Hp -> VK -> Prop) : Prop :=
 ∀ (pins : List (Addr × Obj)) (s : Shared) (σ : St) (H : Hp) (x : V) (v : Value) (Q : VK), Inv X pins σ H s -> RelV x v -> r x H Q ->
  wpAny (model X.prog X.w) X.A (f v) (EP X pins σ Q) X.xe s
def Zat (X : Cx) (f : Value) (r : List V -> Hp -> VK -> Prop) : Prop :=
 ∀ (pins : List (Addr × Obj)) (s : Shared) (σ : St) (H : Hp) (xs : List V) (us : List Value) (Q : VK), Inv X pins σ H s -> Vals xs us -> r xs H Q ->
  wpAny (model X.prog X.w) X.A (call f us) (EP X pins σ Q) X.xe s
def TruR (X : Cx) (r : V -> Hp -> (Bool -> Hp -> Prop) -> Prop) : Prop :=
 ∀ (pins : List (Addr × Obj)) (s : Shared) (σ : St) (H : Hp) (x : V) (v : Value) (Q : Bool -> Hp -> Prop), Inv X pins σ H s -> RelV x v -> r x H Q ->
  wpAny (model X.prog X.w) X.A (truthy v) (TP X pins σ Q) X.xe s
def tOp (r : R2) (ta tb : TE) : TE := fun σ H Q => ta σ H fun x H1 => tb σ H1 fun y H2 => r x y H2 Q
def tUn (r : V -> Hp -> VK -> Prop) (ta : TE) : TE := fun σ H Q => ta σ H fun x H1 => r x H1 Q
def rI (C : Int -> Int -> Prop) (g : Int -> Int -> V) : R2 := fun x y H Q => ∃ i j, x = .int i /\ y = .int j /\ C i j /\ Q (g i j) H
def rI0 (g : Int -> Int -> V) : R2 := fun x y H Q => ∃ i j, x = .int i /\ y = .int j /\ Q (g i j) H
def rU (g : Int -> V) : V -> Hp -> VK -> Prop := fun x H Q => ∃ i, x = .int i /\ Q (g i) H
section
variable {X : Cx} {a b c : Expr} {ta tb tc : TE} {pos : Pos}
theorem binT (ha : PE X a ta) (hb : PE X b tb) {pins : List (Addr × Obj)} {s : Shared} {σ : St} {H : Hp} {R : V -> V -> Hp -> Prop} (I : Inv X pins σ H s)
 (h : ta σ H fun x H1 => tb σ H1 fun y H2 => R x y H2) {Q : Value -> Shared -> Prop} {f : Value -> Value -> Sem Value}
 (hf : ∀ v u s2 x y H2, Inv X pins σ H2 s2 -> RelV x v -> RelV y u -> R x y H2 -> wpAny (model X.prog X.w) X.A (f v u) Q X.xe s2) :
 wpAny (model X.prog X.w) X.A (eval a X.env) (fun v s₁ => wpAny (model X.prog X.w) X.A (eval b X.env) (fun u s₂ => wpAny (model X.prog X.w) X.A (f v u) Q X.xe s₂) X.xe s₁) X.xe s := by
 refine thn (ha pins s σ H _ I h) fun v s1 ⟨x, H1, I1, r1, q1⟩ => ?_
 refine thn (hb pins s1 σ H1 _ I1 q1) fun u s2 ⟨y, H2, I2, r2, q2⟩ => ?_
 exact hf v u s2 x y H2 I2 r1 r2 q2
theorem ZsD {op : Operator} {r : R2} (ho : OpR X (binaryOp op) r) (ha : PE X a ta) (hb : PE X b tb) : PE X (.BinOp a op b pos) (tOp r ta tb) := by
 intro pins s σ H Q I h
 exact wpAny_BinOp (binT ha hb I h fun v u s2 x y H2 I2 rx ry q => ho pins s2 σ H2 x y v u Q I2 rx ry q)
theorem ZoB {op : UnaryOp} {r : V -> Hp -> VK -> Prop} (ho : UnR X (unaryOp op) r) (ha : PE X a ta) : PE X (.UnaryOp op a pos) (tUn r ta) := by
 intro pins s σ H Q I h
 exact UnaryOp_ (thn (ha pins s σ H _ I h) fun v s1 ⟨x, H1, I1, r1, q1⟩ => ho pins s1 σ H1 x v Q I1 r1 q1)
theorem opI {f : Value -> Value -> Sem Value} {C : Int -> Int -> Prop} {g : Int -> Int -> Int}
 (rule : ∀ (i j : Int) (t u : Tok) (s : Shared) (Q : Value -> Shared -> Prop) (E : Value -> Shared -> Prop), C i j -> Q (.int (g i j) s.toks) { s with toks := s.toks + 1 } -> wpAny (model X.prog X.w) X.A (f (.int i t) (.int j u)) Q E s) :
 OpR X f (rI C fun i j => .int (g i j)) := by
 intro pins s σ H x y v u Q I rx ry h
 obtain ⟨i, j, rfl, rfl, hc, q⟩ := h
 obtain ⟨t, rfl⟩ := rx
 obtain ⟨t', rfl⟩ := ry
 exact rule i j t t' s _ _ hc ⟨.int (g i j), H, I.tok _, ⟨_, rfl⟩, q⟩
theorem opI0 {f : Value -> Value -> Sem Value} {g : Int -> Int -> Int}
 (rule : ∀ (i j : Int) (t u : Tok) (s : Shared) (Q : Value -> Shared -> Prop) (E : Value -> Shared -> Prop), Q (.int (g i j) s.toks) { s with toks := s.toks + 1 } -> wpAny (model X.prog X.w) X.A (f (.int i t) (.int j u)) Q E s) :
 OpR X f (rI0 fun i j => .int (g i j)) := by
 intro pins s σ H x y v u Q I rx ry h
 obtain ⟨i, j, rfl, rfl, q⟩ := h
 obtain ⟨t, rfl⟩ := rx
 obtain ⟨t', rfl⟩ := ry
 exact rule i j t t' s _ _ ⟨.int (g i j), H, I.tok _, ⟨_, rfl⟩, q⟩
theorem opB0 {f : Value -> Value -> Sem Value} {g : Int -> Int -> Bool}
 (rule : ∀ (i j : Int) (t u : Tok) (s : Shared) (Q : Value -> Shared -> Prop) (E : Value -> Shared -> Prop), Q (.bool (g i j)) s -> wpAny (model X.prog X.w) X.A (f (.int i t) (.int j u)) Q E s) :
 OpR X f (rI0 fun i j => .bl (g i j)) := by
 intro pins s σ H x y v u Q I rx ry h
 obtain ⟨i, j, rfl, rfl, q⟩ := h
 obtain ⟨t, rfl⟩ := rx
 obtain ⟨t', rfl⟩ := ry
 exact rule i j t t' s _ _ ⟨.bl (g i j), H, I, rfl, q⟩
def CPow (i j : Int) : Prop := 0 <= j /\ j <= 1000000 /\ i.natAbs < 2 ^ 64
def CMul (i j : Int) : Prop := (-(2 ^ 64) < i /\ i < 2 ^ 64) \/ (-(2 ^ 64) < j /\ j < 2 ^ 64)
theorem CMul.ok {i j : Int} (h : CMul i j) : IntMulOk i j := by
 rcases h with ⟨h1, h2⟩ | ⟨h1, h2⟩
 . exact .of_left (intBits_le_64 h1 h2)
 . exact .of_right (intBits_le_64 h1 h2)
theorem ZqK : OpR X (binaryOp .Add) (rI0 fun i j => .int (i + j)) := opI0 fun _ _ _ _ _ _ _ q => add_int q
theorem ZqL : OpR X (binaryOp .Sub) (rI0 fun i j => .int (i - j)) := opI0 fun _ _ _ _ _ _ _ q => sub_int q
theorem ZqM : OpR X (binaryOp .Mult) (rI CMul fun i j => .int (i * j)) := opI fun _ _ _ _ _ _ _ hc q => mul_int q hc.ok
theorem ZqN : OpR X (binaryOp .Mod) (rI (fun _ j => 0 < j) fun i j => .int (i % j)) := opI fun i j _ _ _ _ _ hc q => by
 have h1 : (0 : Int) < j := hc
 exact mod_int' (by omega) (by rw [Int.fmod_eq_emod_of_nonneg i (by omega)]; exact q)
theorem ZqO : OpR X (binaryOp .Pow) (rI CPow fun i j => .int (i ^ j.toNat)) := opI fun _ _ _ _ _ _ _ hc q => pow_int_small hc.1 hc.2.1 hc.2.2 q
theorem unI {f : Value -> Sem Value} {g : Int -> Int}
 (rule : ∀ (i : Int) (t : Tok) (s : Shared) (Q : Value -> Shared -> Prop) (E : Value -> Shared -> Prop), Q (.int (g i) s.toks) { s with toks := s.toks + 1 } -> wpAny (model X.prog X.w) X.A (f (.int i t)) Q E s) :
 UnR X f (rU fun i => .int (g i)) := by
 intro pins s σ H x v Q I rx h
 obtain ⟨i, rfl, q⟩ := h
 obtain ⟨t, rfl⟩ := rx
 exact rule i t s _ _ ⟨.int (g i), H, I.tok _, ⟨_, rfl⟩, q⟩
theorem Zm7 : UnR X (unaryOp .USub) (rU fun i => .int (-i)) := unI fun _ _ _ _ _ q => neg_int q
end
noncomputable def scal : V -> V -> Bool
 | .non, .non => true | .non, .int _ => true | .int _, .non => true | .non, .bl _ => true | .bl _, .non => true | .non, .str _ => true | .str _, .non => true
 | .int _, .int _ => true | .bl _, .bl _ => true | .str _, .str _ => true | .byt _, .byt _ => true
 | .int _, .str _ => true | .str _, .int _ => true | .bl _, .str _ => true | .str _, .bl _ => true
 | _, _ => false
def rEq : R2 := fun x y H Q => scal x y = true /\ Q (.bl (decide (x = y))) H
def rNe : R2 := fun x y H Q => scal x y = true /\ Q (.bl (!decide (x = y))) H
theorem Zlk {i j : Int} : decide (V.int i = V.int j) = (i == j) := by
 rw [Bool.eq_iff_iff]
 simp
theorem Zm8 {i j : Bool} : decide (V.bl i = V.bl j) = (i == j) := by
 rw [Bool.eq_iff_iff]
 simp
theorem Zll {i j : Str} : decide (V.str i = V.str j) = (i == j) := by
 rw [Bool.eq_iff_iff]
 simp
theorem Zlm {i j : Array UInt8} : decide (V.byt i = V.byt j) = (i.toList == j.toList) := by
 rw [Bool.eq_iff_iff]
 cases i
 cases j
 simp
section
variable {X : Cx} {a b c : Expr} {ta tb tc : TE} {pos : Pos}
theorem ZI {pins : List (Addr × Obj)} {σ : St} {H : Hp} {s : Shared} {Q : VK} {k k' : Bool} (I : Inv X pins σ H s) (q : Q (.bl k) H) (e : k = k') : EP X pins σ Q (.bool k') s := by
 subst e
 exact ⟨.bl k, H, I, rfl, q⟩
theorem ZoC : OpR X (compareOp .Eq) rEq := by
 intro pins s σ H x y v u Q I rx ry h
 obtain ⟨hs, q⟩ := h
 cases x with
 | non =>
  cases rx
  cases y with
  | non => cases ry; exact PySem.EqNone.eq_none_none (ZI I q (by simp))
  | bl j => cases ry; exact PySem.EqNone.eq_none_bool (ZI I q (by simp))
  | int j => obtain ⟨t', rfl⟩ := ry; exact PySem.EqNone.eq_none_int (ZI I q (by simp))
  | str j => obtain ⟨t', rfl⟩ := ry; exact PySem.EqNone.eq_none_str (ZI I q (by simp))
  | _ => exact absurd (show false = true from hs) Bool.false_ne_true
 | bl i =>
  cases rx
  cases y with
  | non => cases ry; exact PySem.EqNone.eq_bool_none (ZI I q (by simp))
  | bl j => cases ry; exact eq_bool (ZI I q Zm8)
  | str j => obtain ⟨t', rfl⟩ := ry; exact PySem.EqMixed.eq_bool_str (ZI I q (by simp))
  | _ => exact absurd (show false = true from hs) Bool.false_ne_true
 | int i =>
  obtain ⟨t, rfl⟩ := rx
  cases y with
  | non => cases ry; exact PySem.EqNone.eq_int_none (ZI I q (by simp))
  | int j => obtain ⟨t', rfl⟩ := ry; exact eq_int (ZI I q Zlk)
  | str j => obtain ⟨t', rfl⟩ := ry; exact PySem.EqMixed.eq_int_str (ZI I q (by simp))
  | _ => exact absurd (show false = true from hs) Bool.false_ne_true
 | str i =>
  obtain ⟨t, rfl⟩ := rx
  cases y with
  | non => cases ry; exact PySem.EqNone.eq_str_none (ZI I q (by simp))
  | bl j => cases ry; exact PySem.EqMixed.eq_str_bool (ZI I q (by simp))
  | int j => obtain ⟨t', rfl⟩ := ry; exact PySem.EqMixed.eq_str_int (ZI I q (by simp))
  | str j => obtain ⟨t', rfl⟩ := ry; exact eq_str (ZI I q Zll)
  | _ => exact absurd (show false = true from hs) Bool.false_ne_true
 | byt i =>
  obtain ⟨t, rfl⟩ := rx
  cases y with
  | byt j => obtain ⟨t', rfl⟩ := ry; exact PySem.W.eq_bytes (ZI I q Zlm)
  | _ => exact absurd (show false = true from hs) Bool.false_ne_true
 | _ => cases y <;> exact absurd (show false = true from hs) Bool.false_ne_true
theorem ZoD : OpR X (compareOp .NotEq) rNe := by
 intro pins s σ H x y v u Q I rx ry h
 obtain ⟨hs, q⟩ := h
 cases x with
 | non =>
  cases rx
  cases y with
  | non => cases ry; exact PySem.EqNone.ne_none_none (ZI I q (by simp))
  | bl j => cases ry; exact PySem.EqNone.ne_none_bool (ZI I q (by simp))
  | int j => obtain ⟨t', rfl⟩ := ry; exact PySem.EqNone.ne_none_int (ZI I q (by simp))
  | str j => obtain ⟨t', rfl⟩ := ry; exact PySem.EqNone.ne_none_str (ZI I q (by simp))
  | _ => exact absurd (show false = true from hs) Bool.false_ne_true
 | bl i =>
  cases rx
  cases y with
  | non => cases ry; exact PySem.EqNone.ne_bool_none (ZI I q (by simp))
  | bl j => cases ry; exact ne_bool (ZI I q (congrArg not Zm8))
  | str j => obtain ⟨t', rfl⟩ := ry; exact PySem.EqMixed.ne_bool_str (ZI I q (by simp))
  | _ => exact absurd (show false = true from hs) Bool.false_ne_true
 | int i =>
  obtain ⟨t, rfl⟩ := rx
  cases y with
  | non => cases ry; exact PySem.EqNone.ne_int_none (ZI I q (by simp))
  | int j => obtain ⟨t', rfl⟩ := ry; exact ne_int (ZI I q (congrArg not Zlk))
  | str j => obtain ⟨t', rfl⟩ := ry; exact PySem.EqMixed.ne_int_str (ZI I q (by simp))
  | _ => exact absurd (show false = true from hs) Bool.false_ne_true
 | str i =>
  obtain ⟨t, rfl⟩ := rx
  cases y with
  | non => cases ry; exact PySem.EqNone.ne_str_none (ZI I q (by simp))
  | bl j => cases ry; exact PySem.EqMixed.ne_str_bool (ZI I q (by simp))
  | int j => obtain ⟨t', rfl⟩ := ry; exact PySem.EqMixed.ne_str_int (ZI I q (by simp))
  | str j => obtain ⟨t', rfl⟩ := ry; exact ne_str (ZI I q (congrArg not Zll))
  | _ => exact absurd (show false = true from hs) Bool.false_ne_true
 | byt i =>
  obtain ⟨t, rfl⟩ := rx
  cases y with
  | byt j => obtain ⟨t', rfl⟩ := ry; exact PySem.W.ne_bytes (ZI I q (congrArg not Zlm))
  | _ => exact absurd (show false = true from hs) Bool.false_ne_true
 | _ => cases y <;> exact absurd (show false = true from hs) Bool.false_ne_true
theorem ZoE : OpR X (compareOp .Lt) (rI0 fun i j => .bl (decide (i < j))) := opB0 fun _ _ _ _ _ _ _ q => lt_int q
theorem ZoF : OpR X (compareOp .LtE) (rI0 fun i j => .bl (decide (i <= j))) := opB0 fun _ _ _ _ _ _ _ q => le_int q
theorem ZoG : OpR X (compareOp .Gt) (rI0 fun i j => .bl (decide (j < i))) := opB0 fun _ _ _ _ _ _ _ q => gt_int q
theorem ZoH : OpR X (compareOp .GtE) (rI0 fun i j => .bl (decide (j <= i))) := opB0 fun _ _ _ _ _ _ _ q => ge_int q
theorem nomark (b : Expr) {op : CmpOp} (h : op ≠ .In := by decide) (h2 : op ≠ .NotIn := by decide) : behindInMarks op b = false := by
 have e1 : (op == CmpOp.In) = false := by cases op <;> first | rfl | exact absurd rfl h
 have e2 : (op == CmpOp.NotIn) = false := by cases op <;> first | rfl | exact absurd rfl h2
 cases b <;> simp [behindInMarks, e1, e2]
theorem Zpi {op : CmpOp} {r : R2} (ho : OpR X (compareOp op) r) (ha : PE X a ta) (hb : PE X b tb) (hm : behindInMarks op b = false) : PE X (.Compare a [op] [b] pos) (tOp r ta tb) := by
 intro pins s σ H Q I h
 exact wpAny_Compare1 (binT ha hb I h fun v u s2 x y H2 I2 rx ry q => ho pins s2 σ H2 x y v u Q I2 rx ry q) hm
def ZoI (t : TE) : TT := fun σ H Q => t σ H fun x H' => ∃ k, x = .bl k /\ Q k H'
theorem Zpj {op : CmpOp} {r : R2} (ho : OpR X (compareOp op) r) (ha : PE X a ta) (hb : PE X b tb) (hm : behindInMarks op b = false) : PT X (.Compare a [op] [b] pos) (ZoI (tOp r ta tb)) := by
 intro pins s σ H Q I h
 refine wpAny_isTrue_Compare1 (thn (ha pins s σ H _ I h) fun v s1 ⟨x, H1, I1, r1, q1⟩ => thn (hb pins s1 σ H1 _ I1 q1) fun u s2 ⟨y, H2, I2, r2, q2⟩ =>
  thn (ho pins s2 σ H2 x y v u _ I2 r1 r2 q2) fun c s3 ⟨z, H3, I3, r3, k, e, q3⟩ => ?_) hm
 subst e
 cases r3
 exact wpAny_truthy_bool ⟨H3, I3, q3⟩
def Zkb (r r' : R2) (ta tb tc : TE) : TE := fun σ H Q => ta σ H fun x H1 => tb σ H1 fun y H2 => r x y H2 fun z H3 => ∃ k, z = .bl k /\
 (if k = true then tc σ H3 fun w' H4 => r' y w' H4 Q else Q (.bl false) H3)
theorem ZnF {op op' : CmpOp} {r r' : R2} (ho : OpR X (compareOp op) r) (ho' : OpR X (compareOp op') r') (ha : PE X a ta) (hb : PE X b tb) (hc : PE X c tc)
 (hm : lastMarks [op, op'] [b, c] = false := by with_unfolding_all rfl) : PE X (.Compare a [op, op'] [b, c] pos) (Zkb r r' ta tb tc) := by
 intro pins s σ H Q I h
 refine Compare_chain (thn (ha pins s σ H _ I h) fun v s1 ⟨x, H1, I1, r1, q1⟩ => chain_link (thn (hb pins s1 σ H1 _ I1 q1) fun u s2 ⟨y, H2, I2, r2, q2⟩ =>
  thn (ho pins s2 σ H2 x y v u _ I2 r1 r2 q2) fun d s3 ⟨z, H3, I3, r3, k, e, q3⟩ => ?_)) hm
 subst e
 cases r3
 refine wpAny_truthy_bool ?_
 cases k with
 | false => exact ite_ff ⟨.bl false, H3, I3, rfl, q3⟩
 | true => exact ite_tt (chain_last (thn (hc pins s3 σ H3 _ I3 q3) fun w' s4 ⟨z', H4, I4, r4, q4⟩ => ho' pins s4 σ H4 y z' u w' Q I4 r2 r4 q4))
theorem ZnG {op op' : CmpOp} {r r' : R2} (ho : OpR X (compareOp op) r) (ho' : OpR X (compareOp op') r') (ha : PE X a ta) (hb : PE X b tb) (hc : PE X c tc)
 (hm : lastMarks [op, op'] [b, c] = false := by with_unfolding_all rfl) : PT X (.Compare a [op, op'] [b, c] pos) (ZoI (Zkb r r' ta tb tc)) := by
 intro pins s σ H Q I h
 refine isTrue_chain (thn (ha pins s σ H _ I h) fun v s1 ⟨x, H1, I1, r1, q1⟩ => test_link (thn (hb pins s1 σ H1 _ I1 q1) fun u s2 ⟨y, H2, I2, r2, q2⟩ =>
  thn (ho pins s2 σ H2 x y v u _ I2 r1 r2 q2) fun d s3 ⟨z, H3, I3, r3, k, e, q3⟩ => ?_)) hm
 subst e
 cases r3
 refine wpAny_truthy_bool ?_
 cases k with
 | false =>
  obtain ⟨k', e', q'⟩ := q3
  cases e'
  exact ite_ff ⟨H3, I3, q'⟩
 | true =>
  refine ite_tt (test_last (thn (hc pins s3 σ H3 _ I3 q3) fun w' s4 ⟨z', H4, I4, r4, q4⟩ => thn (ho' pins s4 σ H4 y z' u w' _ I4 r2 r4 q4) fun d' s5 ⟨z2, H5, I5, r5, k2, e2, q5⟩ => ?_))
  subst e2
  cases r5
  exact wpAny_truthy_bool ⟨H5, I5, q5⟩
def TruV (K : Fg) (x : V) (H : Hp) (k : Bool) : Prop :=
 match x with
 | .non => k = false
 | .bl b => k = b
 | .int i => k = (i != 0)
 | .str y => y.length <= sizeLine /\ k = ((y.length : Int) != 0)
 | .byt y => y.size <= sizeLine /\ k = ((y.size : Int) != 0)
 | .ref p => (∃ xs, SqL K H p xs /\ k = !xs.isEmpty) \/ (∃ xs, SqT K H p xs /\ k = !xs.isEmpty) \/ ∃ kvs, H p = some (.dK kvs) /\ k = !kvs.isEmpty
 | _ => False
theorem ZlJ {κ : Type} {kvs : List (κ × V)} {vs : List (κ × Value)} (r : KV kvs vs) : (!vs.isEmpty) = !kvs.isEmpty := by
 cases r <;> rfl
theorem Zik {xs : List V} {its : List Value} (r : Vals xs its) : (!its.toArray.isEmpty) = !xs.isEmpty := by
 cases r <;> simp
theorem Zfs : (sizeLine : Nat) < 2 ^ 63 := by rw [sizeLine_eq]; decide
theorem ZqP : TruR X (fun x H Q => ∃ k, TruV X.K x H k /\ Q k H) := by
 intro pins s σ H x v Q I rx h
 obtain ⟨k, e, q⟩ := h
 have hl := Zfs
 have hs : sizeLine = 16777216 := sizeLine_eq
 cases x with
 | non =>
  cases rx
  have e' : k = false := e
  subst e'
  exact truthy_none ⟨H, I, q⟩
 | bl b =>
  cases rx
  have e' : k = b := e
  subst e'
  exact wpAny_truthy_bool ⟨H, I, q⟩
 | int i =>
  obtain ⟨t, rfl⟩ := rx
  have e' : k = (i != 0) := e
  subst e'
  exact PySem.P.truthy_int ⟨H, I, q⟩
 | str y =>
  obtain ⟨t, rfl⟩ := rx
  obtain ⟨hy, e'⟩ : y.length <= sizeLine /\ k = ((y.length : Int) != 0) := e
  subst e'
  exact PySem.P.truthy_str (by omega) ⟨H, I.tok _, q⟩
 | byt y =>
  obtain ⟨t, rfl⟩ := rx
  obtain ⟨hy, e'⟩ : y.size <= sizeLine /\ k = ((y.size : Int) != 0) := e
  subst e'
  exact PySem.W.truthy_bytes (by omega) ⟨H, I.tok _, q⟩
 | ref p =>
  cases rx
  have e' : (∃ xs, SqL X.K H p xs /\ k = !xs.isEmpty) \/ (∃ xs, SqT X.K H p xs /\ k = !xs.isEmpty) \/ ∃ kvs, H p = some (.dK kvs) /\ k = !kvs.isEmpty := e
  rcases e' with ⟨xs, hx, e'⟩ | ⟨xs, hx, e'⟩ | ⟨kvs, hx, e'⟩
  . subst e'
    obtain ⟨its, r, pl, hz⟩ := I.list hx
    have hlen := r.length
    exact wpAny_truthy_list pl.isList (by simp only [List.size_toArray]; omega) ⟨H, I.tok _, by rw [Zik r]; exact q⟩
  . subst e'
    obtain ⟨its, r, pl, hz⟩ := I.tuple hx
    have hlen := r.length
    exact truthy_tuple pl (by simp only [List.size_toArray]; omega) ⟨H, I.tok _, by rw [Zik r]; exact q⟩
  . subst e'
    obtain ⟨hz, hS, vs, r, m⟩ : kvs.length <= sizeLine /\ (p == sysModules) = false /\ ∃ vs, KV kvs vs /\ s.heap.DictOf (Zaz X.prog X.w) p vs := I.hok p _ hx
    have hlen : kvs.length = vs.length := Paired.length r
    exact wpAny_truthy_dict hS m (by omega) ⟨H, I.tok _, by rw [ZlJ r]; exact q⟩
 | _ => exact (show False from e).elim
theorem ZnH (ha : PE X a ta) (he : ∀ whole, isTrue a X.env whole = (do let v <- whole; standAt a.pos; holding [v] (truthy v))) :
 PT X a (fun σ H Q => ta σ H fun x H' => ∃ k, TruV X.K x H' k /\ Q k H') := by
 intro pins s σ H Q I h
 exact isTrue_plain (thn (ha pins s σ H _ I h) fun v s1 ⟨x, H1, I1, r1, q1⟩ => ZqP pins s1 σ H1 x v Q I1 r1 q1) (he _)
theorem ZlK : OpR X (binaryOp .Add) (fun x y H Q => ∃ i j, x = .str i /\ y = .str j /\ i.length + j.length <= sizeLine /\ Q (.str (i ++ j)) H) := by
 intro pins s σ H x y v u Q I rx ry h
 obtain ⟨i, j, rfl, rfl, hz, q⟩ := h
 obtain ⟨t, rfl⟩ := rx
 obtain ⟨t', rfl⟩ := ry
 exact add_str (fun t' tk => ⟨.str (i ++ j), H, I.tok _, ⟨_, rfl⟩, q⟩) hz
theorem Zhm {x : V} {us : List Value} (r : Vals [x] us) : ∃ u, us = [u] /\ RelV x u := by
 cases r with
 | cons r1 r2 => cases r2; exact ⟨_, rfl, r1⟩
theorem ZoJ {x y : V} {us : List Value} (r : Vals [x, y] us) : ∃ u w', us = [u, w'] /\ RelV x u /\ RelV y w' := by
 cases r with
 | cons r1 r2 =>
  cases r2 with
  | cons r3 r4 => cases r4; exact ⟨_, _, rfl, r1, r3⟩
theorem ZnI : Zat X (.builtin "abs") (fun xs H Q => ∃ i, xs = [.int i] /\ Q (.int (if i < 0 then -i else i)) H) := by
 intro pins s σ H xs us Q I r h
 obtain ⟨i, rfl, q⟩ := h
 obtain ⟨u, rfl, t, rfl⟩ := Zhm r
 exact call_abs_int fun u tk => ⟨.int (if i < 0 then -i else i), H, I.tok _, ⟨_, rfl⟩, q⟩
theorem Zm9 (hc : X.calm = true) : Zat X (.builtin "max") (fun xs H Q => ∃ i j, xs = [.int i, .int j] /\ Q (.int (if j > i then j else i)) H) := by
 intro pins s σ H xs us Q I r h
 obtain ⟨i, j, rfl, q⟩ := h
 obtain ⟨u, w', rfl, ⟨t, rfl⟩, ⟨t', rfl⟩⟩ := ZoJ r
 refine max_two_ints (I.ok.hd hc) fun h' tk k => ⟨_, H, I.kept k, ?_, q⟩
 by_cases hj : j > i
 . rw [if_pos hj, if_pos hj]; exact ⟨_, rfl⟩
 . rw [if_neg hj, if_neg hj]; exact ⟨_, rfl⟩
theorem ZmA (hc : X.calm = true) : Zat X (.builtin "min") (fun xs H Q => ∃ i j, xs = [.int i, .int j] /\ Q (.int (if j < i then j else i)) H) := by
 intro pins s σ H xs us Q I r h
 obtain ⟨i, j, rfl, q⟩ := h
 obtain ⟨u, w', rfl, ⟨t, rfl⟩, ⟨t', rfl⟩⟩ := ZoJ r
 refine min_two_ints (I.ok.hd hc) fun h' tk k => ⟨_, H, I.kept k, ?_, q⟩
 by_cases hj : j < i
 . rw [if_pos hj, if_pos hj]; exact ⟨_, rfl⟩
 . rw [if_neg hj, if_neg hj]; exact ⟨_, rfl⟩
end
end L2
namespace L2
open PySem PySem.Spec PyProof.Rows
structure ObjM (h : Heap) (x dx C : Addr) (mA : Str -> Option Value) : Prop where
 obj : h.get? x = some (PySem.W.instObj C dx)
 ns : h.Ns1 dx mA
 ne : dx ≠ x
theorem ZmB {h : Heap} {dx : Addr} {mA : Str -> Option Value} (n : h.Ns1 dx mA) : ∃ od, h.get? dx = some od /\ ∀ name, PySem.W.lookIn name od = some (mA name) := by
 obtain ⟨o, es, ep, ho, hd, hk, _, hm⟩ := n
 refine ⟨o, ho, fun name => ?_⟩
 have e := hm name
 unfold nsFind findBy at e
 rw [<- Array.find?_toList] at e
 unfold PySem.W.lookIn
 rw [hd]
 dsimp only
 split
 . rename_i y q
   rw [q] at e
   exact congrArg some e
 . rename_i q
   rw [q] at e
   have a : es.toList.any (·.refKey) = false := by
    rw [List.any_eq_false]
    intro y hy
    obtain ⟨z, t, hkey⟩ := hk y (Array.mem_toList_iff.mp hy)
    simp [DictEntry.refKey, hkey]
   have a' : ¬ es.toList.any (·.refKey) = true := by rw [a]; exact Bool.false_ne_true
   rw [if_neg a']
   exact congrArg some e
theorem ObjM.look {h : Heap} {x dx C : Addr} {mA : Str -> Option Value} (I : ObjM h x dx C mA) : ∃ od, PySem.W.InstAt h x (PySem.W.instObj C dx) C (some od) /\ ∀ name, PySem.W.lookIn name od = some (mA name) :=
 let ⟨od, ho, hl⟩ := ZmB I.ns
 ⟨od, ⟨I.obj, rfl, rfl, ho⟩, hl⟩
section
variable {prog : Program} {w : World} {A : Around} {E : Value -> Shared -> Prop} {s : Shared} {K : Fg} {x dx C f : Addr} {mA : Str -> Option Value} {name : Str} {v : Value}
theorem Zpk {expr : Bool} {Q : Value -> Shared -> Prop} (X : K.In s.heap) (I : ObjM s.heap x dx C mA) (hg : PySem.W.plainGet K C name = true) (hh : PySem.W.hasDictIn K C = true)
 (ha : PySem.W.findIn K (.ref C) name = some none) (hv : mA name = some v) (hv' : PySem.W.handedIn v = true) (h : Q v { s with toks := s.toks + 1 }) :
 wpAny (model prog w) A (getAttr (.ref x) name expr) Q E s := by
 obtain ⟨od, J, hl⟩ := I.look
 exact PySem.W.get_value X J (PySem.W.plainGet_of hg).1 (PySem.W.findObj_own hh ha rfl (by rw [hl, hv])) hv' h
theorem ZnJ {pl : Sem Bool} {Q : Value × List Value -> Shared -> Prop} (X : K.In s.heap) (I : ObjM s.heap x dx C mA) (hg : PySem.W.plainGet K C name = true)
 (hf : PySem.W.findIn K (.ref C) name = some (some (.ref f))) (ht : PySem.W.isFn K (.ref f) = true) (hv : mA name = none) (h : Q (.ref f, [.ref x]) s) :
 wpAny (model prog w) A (getMethod (.ref x) name pl) Q E s := by
 obtain ⟨od, J, hl⟩ := I.look
 exact PySem.W.method_fn X J (PySem.W.plainGet_of hg).1 (PySem.W.plainGet_of hg).2 hf (beq_iff_eq.mp ht) (by show (PySem.W.lookIn name od).map (·.isSome) = some false; rw [hl, hv]; rfl) h
theorem Zpl {ns : List Str} {Q : Unit -> Shared -> Prop} (X : K.In s.heap) (I : ObjM s.heap x dx C mA)
 (hs : PySem.W.findIn K (.ref C) "__setattr__" = some (some (.builtin "object.__setattr__"))) (hp : PySem.W.plainOver K C = true) (ht : PySem.W.takerIn K C name = some none) (hh : PySem.W.hasDictIn K C = true)
 (hw : PySem.Within mA ns) (hsz : ns.length <= sizeLine)
 (h : ∀ h', ObjM h' x dx C (fun y => if y = name then some v else mA y) -> Heap.SameBut dx s.heap h' -> Q () { s with heap := h', toks := s.toks + 2 }) :
 wpAny (model prog w) A (setAttr (.ref x) name v) Q E s := by
 obtain ⟨od, J, hl⟩ := I.look
 refine PySem.W.set_plain X J hs (PySem.W.osa_open (s := { s with toks := s.toks + 1 }) (r := none) X J hp ht fun b => ?_)
 obtain ⟨cd, hc, hd'⟩ := PySem.W.any_some hh
 have hx : s.heap.get? x = some ⟨.ref C, some dx, .plain, #[]⟩ := I.obj
 refine wpAny_bind (wpAny_pure (wpAny_bind (wpAny_bind (wpAny_loadPart hx (wpAny_bind (PySem.W.Looks.here (s := { s with toks := s.toks + 1 }) (PySem.W.looks_clsIn X hc) ?_))))))
 rw [hd']
 refine wpAny_pure (a := some dx) (wpAny_bind (wpAny_pure (wpAny_bind ?_)))
 refine wpAny_nsSet1 (s := { s with toks := s.toks + 1 }) I.ns fun h' hn2 hs2 => ?_
 obtain ⟨oD, esD, epD, hoD, hdD, hcD⟩ := hn2.count (PySem.Within.cons name v hw)
 refine wpAny_bind (wpAny_lookBehind hoD (by rw [hdD]; exact pastItsLine_dict (Nat.le_trans hcD (by rw [List.length_cons]; omega))) ?_)
 exact wpAny_pure (h _ ⟨(hs2.2 _ (Ne.symm I.ne)).trans I.obj, hn2, I.ne⟩ hs2)
theorem ZnK {R : Result -> Shared -> Prop} {vs : List Value} {kw : List (Str × Value)} (X : K.In s.heap) (hm : PySem.W.makesIn K C = true)
 (hi : PySem.W.findIn K (.ref C) "__init__" = some (some (.ref f))) (hf : PySem.W.typeIn K (.ref f) = some (.type "function"))
 (h : codeAny (model prog w) (A.under (.builtin "type.__call__" ⟨.ref C :: vs, kw⟩)) (.call (.ref f) ⟨.ref (s.heap.objs.size + 1) :: vs, kw⟩) (PySem.W.InitBack (s.heap.objs.size + 1) R)
  { s with heap := (s.heap.push PySem.W.emptyDict).push (PySem.W.instObj C s.heap.objs.size) }) :
 codeAny (model prog w) A (.call (.ref C) ⟨vs, kw⟩) R s := by
 obtain ⟨hh, g, d, t, os⟩ := s
 exact PySem.W.make_core (PySem.W.makes_of X hm) (PySem.W.looks_findIn X hi) (fun self => PySem.W.bind_fn X self hf) (.inl rfl) h
end
noncomputable def putF (f : Str) (v : V) : List (Str × V) -> List (Str × V)
 | [] => [(f, v)]
 | (g, x) :: r => if g = f then (g, v) :: r else (g, x) :: putF f v r
theorem ZhI (f g : Str) (v : V) : ∀ fs : List (Str × V), (putF f v fs).lookup g = if g = f then some v else fs.lookup g
 | [] => by
  show List.lookup g [(f, v)] = _
  by_cases h : g = f
  . have hb : (g == f) = true := beq_iff_eq.mpr h
    simp only [List.lookup, hb, if_pos h]
  . have hb : (g == f) = false := beq_eq_false_iff_ne.mpr h
    simp only [List.lookup, hb, if_neg h]
 | (k, x) :: r => by
  have ih := ZhI f g v r
  rw [show putF f v ((k, x) :: r) = (if k = f then (k, v) :: r else (k, x) :: putF f v r) from rfl]
  by_cases hk : k = f
  . rw [if_pos hk]
    by_cases h : g = k
    . have hb : (g == k) = true := beq_iff_eq.mpr h
      simp only [List.lookup, hb, if_pos (h.trans hk)]
    . have hb : (g == k) = false := beq_eq_false_iff_ne.mpr h
      simp only [List.lookup, hb, if_neg (fun e : g = f => h (e.trans hk.symm))]
  . rw [if_neg hk]
    by_cases h : g = k
    . have hb : (g == k) = true := beq_iff_eq.mpr h
      simp only [List.lookup, hb, if_neg (fun e : g = f => hk (h.symm.trans e))]
    . have hb : (g == k) = false := beq_eq_false_iff_ne.mpr h
      simp only [List.lookup, hb]
      exact ih
theorem ZgJ (f : Str) (v : V) : ∀ fs : List (Str × V), f ∈ (putF f v fs).map (·.1) /\ ∀ g, g ∈ fs.map (·.1) -> g ∈ (putF f v fs).map (·.1)
 | [] => ⟨by simp [putF], fun g h => by simp at h⟩
 | (k, x) :: r => by
  obtain ⟨i1, i2⟩ := ZgJ f v r
  rw [show putF f v ((k, x) :: r) = (if k = f then (k, v) :: r else (k, x) :: putF f v r) from rfl]
  by_cases hk : k = f
  . rw [if_pos hk]
    subst hk
    exact ⟨by simp, fun g h => by simpa using h⟩
  . rw [if_neg hk]
    refine ⟨?_, fun g h => ?_⟩
    . rw [List.map_cons]
      exact List.mem_cons_of_mem _ i1
    . rw [List.map_cons] at h ⊢
      rcases List.mem_cons.mp h with e | e
      . exact List.mem_cons.mpr (.inl e)
      . exact List.mem_cons_of_mem _ (i2 g e)
theorem ZhJ (f : Str) (v : V) : ∀ fs : List (Str × V), (putF f v fs).length <= fs.length + 1
 | [] => by simp [putF]
 | (k, x) :: r => by
  have ih := ZhJ f v r
  rw [show putF f v ((k, x) :: r) = (if k = f then (k, v) :: r else (k, x) :: putF f v r) from rfl]
  by_cases hk : k = f
  . rw [if_pos hk, List.length_cons, List.length_cons]; omega
  . rw [if_neg hk, List.length_cons, List.length_cons]; omega
theorem RelO.some_of {v : V} {o : Option Value} (r : RelO (some v) o) : ∃ u, o = some u /\ RelV v u := by
 cases o with
 | none => exact (show False from r).elim
 | some u => exact ⟨u, rfl, r⟩
theorem RelO.none_of {o : Option Value} (r : RelO none o) : o = none := by
 cases o with
 | none => rfl
 | some u => exact (show False from r).elim
theorem ZmC {v : V} {u : Value} (r : RelV v u) : PySem.W.handedIn u = true := by
 cases v with
 | non => cases (show u = Value.none from r); rfl
 | bl b => cases (show u = Value.bool b from r); rfl
 | int i => obtain ⟨t, e⟩ := (show ∃ t, u = Value.int i t from r); cases e; rfl
 | str x => obtain ⟨t, e⟩ := (show ∃ t, u = Value.str x t from r); cases e; rfl
 | byt b => obtain ⟨t, e⟩ := (show ∃ t, u = Value.bytes b t from r); cases e; rfl
 | flt b => obtain ⟨t, e⟩ := (show ∃ t, u = Value.float b t from r); cases e; rfl
 | ref a => cases (show u = Value.ref a from r); rfl
 | ty n => cases (show u = Value.type n from r); rfl
section
variable {P : Program} {w : World} {H H' : Hp} {h h' : Heap} {a C dx : Addr} {fs fs' : List (Str × V)}
theorem Zhn (hok : HOk P w H h) (e : H a = some (.ins C dx fs)) : ∃ mA, ObjM h a dx C mA /\ (∀ f, RelO (fs.lookup f) (mA f)) /\ PySem.Within mA (fs.map (·.1)) /\ fs.length <= 1000 /\ H dx = some (.own a) := by
 obtain ⟨d, z, ne, ob, mA, n, r, q⟩ := (show Zah P w H h a (.ins C dx fs) from hok a _ e)
 exact ⟨mA, ⟨ob, n, ne⟩, r, q, z, d⟩
end
structure Cls (K : Fg) (C : Addr) : Prop where
 pg : PySem.W.plainGet K C Str.empty = true
 hd : PySem.W.hasDictIn K C = true
 po : PySem.W.plainOver K C = true
 sa : PySem.W.findIn K (.ref C) "__setattr__" = some (some (.builtin "object.__setattr__"))
theorem Cls.get {K : Fg} {C : Addr} (c : Cls K C) (f : Str) : PySem.W.plainGet K C f = true := c.pg
def Za5 (K : Fg) (C : Addr) (f : Str) : Prop := PySem.W.findIn K (.ref C) f = some none
theorem Za5.taker {K : Fg} {C : Addr} {f : Str} (n : Za5 K C f) : PySem.W.takerIn K C f = some none := by
 unfold PySem.W.takerIn
 rw [show PySem.W.findIn K (.ref C) f = some none from n]
 rfl
structure Meth (K : Fg) (C : Addr) (m : Str) (f : Addr) : Prop where
 at_ : PySem.W.findIn K (.ref C) m = some (some (.ref f))
 fn : PySem.W.isFn K (.ref f) = true
 kp : PySem.W.keepIn K (.ref f) = true
section
variable {X : Cx} {pins : List (Addr × Obj)} {σ : St} {H : Hp} {s : Shared} {a C dx : Addr} {fs : List (Str × V)} {f : Str} {v : V} {A : Around} {E : Value -> Shared -> Prop}
theorem ZlL {b : Bool} {Q : Value -> Shared -> Prop} (I : Inv X pins σ H s) (e : H a = some (.ins C dx fs)) (c : Cls X.K C) (n : Za5 X.K C f) (l : fs.lookup f = some v)
 (h : ∀ u s', Inv X pins σ H s' -> RelV v u -> Q u s') : wpAny (model X.prog X.w) A (getAttr (.ref a) f b) Q E s := by
 obtain ⟨mA, O, r, _, _, _⟩ := Zhn I.hok e
 obtain ⟨u, hu, ru⟩ := RelO.some_of (v := v) (o := mA f) (by rw [<- l]; exact r f)
 exact Zpk I.kIn O (c.get f) c.hd n hu (ZmC ru) (h u _ (I.tok _) ru)
theorem Zil {m : Str} {g : Addr} {pl : Sem Bool} {Q : Value × List Value -> Shared -> Prop} (I : Inv X pins σ H s) (e : H a = some (.ins C dx fs)) (c : Cls X.K C) (k : Meth X.K C m g) (l : fs.lookup m = none)
 (h : Q (.ref g, [.ref a]) s) : wpAny (model X.prog X.w) A (getMethod (.ref a) m pl) Q E s := by
 obtain ⟨mA, O, r, _, _, _⟩ := Zhn I.hok e
 have hn : mA m = none := RelO.none_of (by rw [<- l]; exact r m)
 exact ZnJ I.kIn O (c.get m) k.at_ k.fn hn h
theorem ZlM {y : V} {u : Value} {Q : Unit -> Shared -> Prop} (I : Inv X pins σ H s) (e : H a = some (.ins C dx fs)) (c : Cls X.K C) (n : Za5 X.K C f) (hl : fs.length < 1000) (ry : RelV y u)
 (h : ∀ s', Inv X pins σ (upd H a (.ins C dx (putF f y fs))) s' -> Q () s') : wpAny (model X.prog X.w) A (setAttr (.ref a) f u) Q E s := by
 obtain ⟨mA, O, r, wi, _, ho⟩ := Zhn I.hok e
 have hz : (fs.map (·.1)).length <= sizeLine := by rw [List.length_map, sizeLine_eq]; omega
 refine Zpl I.kIn O c.sa c.po n.taker c.hd wi hz fun h' O' sb => h _ ?_
 have hd : ∃ o, h'.get? dx = some o := let ⟨o, _, _, e', _⟩ := O'.ns; ⟨o, e'⟩
 refine I.write (x := a) (e := dx) (by rw [e]; exact True.intro) (.inr ho) (fun b q hb z => (sb.2 b hb).trans z) hd ?_
 refine ⟨by rw [Zv O.ne]; exact ho, ?_, O.ne, O'.obj, _, O'.ns, fun g => ?_, fun g hg => ?_⟩
 . have := ZhJ f y fs; omega
 . show RelO ((putF f y fs).lookup g) (if g = f then some u else mA g)
   rw [ZhI]
   by_cases q : g = f
   . rw [if_pos q, if_pos q]; exact ry
   . rw [if_neg q, if_neg q]; exact r g
 . by_cases q : g = f
   . rw [q]; exact (ZgJ f y fs).1
   . refine (ZgJ f y fs).2 g (wi g fun z => hg ?_)
     show (if g = f then some u else mA g) = none
     rw [if_neg q]; exact z
theorem Inv.made (I : Inv X pins σ H s) : Inv X pins σ (upd (upd H s.heap.objs.size (.own (s.heap.objs.size + 1))) (s.heap.objs.size + 1) (.ins C s.heap.objs.size []))
 { s with heap := (s.heap.push PySem.W.emptyDict).push (PySem.W.instObj C s.heap.objs.size) } := by
 have e1 : (s.heap.push PySem.W.emptyDict).get? s.heap.objs.size = some PySem.W.emptyDict := Heap.get?_push_size s.heap rfl
 have e2 : ((s.heap.push PySem.W.emptyDict).push (PySem.W.instObj C s.heap.objs.size)).get? (s.heap.objs.size + 1) = some (PySem.W.instObj C s.heap.objs.size) := by
  have := Heap.get?_push_size (s.heap.push PySem.W.emptyDict) (o := PySem.W.instObj C s.heap.objs.size) rfl
  rwa [Heap.size_push] at this
 have e3 : (s.heap.push PySem.W.emptyDict).Ns s.heap.objs.size (fun _ => none) := ⟨PySem.W.emptyDict, #[], _, e1, rfl, (fun e he => absurd he (by simp)), fun _ => rfl⟩
 have I1 := I.laid (a := s.heap.objs.size) (o := .own (s.heap.objs.size + 1)) (h' := s.heap.push PySem.W.emptyDict) (t' := s.toks) (fun b u q => Heap.get?_push_of_some _ q) (Nat.le_refl _) ⟨_, e1⟩
 refine I1.laid (a := s.heap.objs.size + 1) (o := .ins C s.heap.objs.size []) (t' := s.toks) (fun b u q => Heap.get?_push_of_some _ q) (Nat.le_of_eq (Heap.size_push _ _)) ?_
 have ne : s.heap.objs.size ≠ s.heap.objs.size + 1 := Nat.ne_of_lt (Nat.lt_succ_self _)
 refine ⟨by rw [Zv ne, Zr], Nat.zero_le _, ne, e2, fun _ => none, (Heap.Ns1.of_empty e3).at fun o q => Heap.get?_push_of_some _ q, fun _ => True.intro, fun y hy => absurd rfl hy⟩
theorem Zpm {prog : Program} {w : World} {env : Env} {e : Expr} {f : Str} {pos : Pos} {s : Shared} {Q : Value -> Shared -> Prop} (hb : attributeBase e f env (eval e env) = eval e env)
 (h : wpAny (model prog w) A (eval e env) (fun o s₁ => wpAny (model prog w) A (getAttr o f true) Q E s₁) E s) : wpAny (model prog w) A (eval (.Attribute e f pos) env) Q E s :=
 Attribute_any_ h (by rw [arm_eval_Attribute, hb])
end
def tFld (K : Fg) (ta : TE) (f : Str) : TE := fun σ H Q => ta σ H fun x H1 => ∃ a C dx fs v, x = .ref a /\ H1 a = some (.ins C dx fs) /\ Cls K C /\ Za5 K C f /\ fs.lookup f = some v /\ Q v H1
def sFld (K : Fg) (ta tv : TE) (f : Str) : TS := fun D σ H => tv σ H fun y H1 => ta σ H1 fun x H2 => ∃ a C dx fs, x = .ref a /\ H2 a = some (.ins C dx fs) /\ Cls K C /\ Za5 K C f /\ fs.length < 1000 /\
 D.nx σ (upd H2 a (.ins C dx (putF f y fs)))
section
variable {X : Cx} {o e value : Expr} {f : Str} {pos pos' tpos : Pos} {ta tv : TE}
theorem Zkc (he : PE X e ta) (hb : attributeBase e f X.env (eval e X.env) = eval e X.env) : PE X (.Attribute e f pos) (tFld X.K ta f) := by
 intro pins s σ H Q I h
 refine Zpm hb (thn (he pins s σ H _ I h) fun u s1 ⟨x, H1, I1, rx, a, C, dx, fs, v, ex, ea, c, n, l, q⟩ => ?_)
 subst ex
 obtain rfl : u = Value.ref a := rx
 exact ZlL I1 ea c n l fun u' s2 I2 ru => ⟨v, H1, I2, ru, q⟩
theorem ZqQ (ha : PE X o ta) (hv : PE X value tv) (hs : swapsWith value (some (.Attribute o f pos')) pos.line X.env = pure false) : PS X (.Assign [.Attribute o f pos'] value pos) (sFld X.K ta tv f) := by
 intro pins s σ H D I h
 refine plainObj_wpAny_Assign_Attribute (thn (hv pins s σ H _ I h) fun u s1 ⟨y, H1, I1, ry, q⟩ => thn (ha pins s1 σ H1 _ I1 q) fun ov s2 ⟨x, H2, I2, rx, a, C, dx, fs, ex, ea, c, n, l, q2⟩ => ?_) hs
 subst ex
 obtain rfl : ov = Value.ref a := rx
 exact ZlM I2 ea c n l ry fun s3 I3 => ⟨σ, _, I3, q2⟩
end
section
variable {X : Cx} {pins : List (Addr × Obj)} {σ : St} {H : Hp} {s : Shared} {A : Around} {E : Value -> Shared -> Prop} {Q : Value -> Shared -> Prop} {c : Value} {b : Bool}
inductive TyOf (K : Fg) (H : Hp) : V -> Value -> Prop where
 | non : TyOf K H .non (.type "NoneType")
 | bl (x : Bool) : TyOf K H (.bl x) (.type "bool")
 | int (i : Int) : TyOf K H (.int i) (.type "int")
 | str (x : Str) : TyOf K H (.str x) (.type "str")
 | flt (x : UInt64) : TyOf K H (.flt x) (.type "float")
 | lst {a : Addr} {xs : List V} (e : H a = some (.lst xs)) : TyOf K H (.ref a) (.type "list")
 | frz {a : Addr} {o : Obj} {xs : List V} (e : H a = some (.frz o (.lst xs))) : TyOf K H (.ref a) (.type "list")
 | tup {a : Addr} {xs : List V} (e : H a = some (.tup xs)) : TyOf K H (.ref a) (.type "tuple")
 | dK {a : Addr} {kvs : List (Key × V)} (e : H a = some (.dK kvs)) : TyOf K H (.ref a) (.type "dict")
 | dT {a : Addr} {kvs : List (List Key × V)} (e : H a = some (.dT kvs)) : TyOf K H (.ref a) (.type "dict")
 | ins {a C dx : Addr} {fs : List (Str × V)} (e : H a = some (.ins C dx fs)) (cl : Cls K C) (ha : PySem.W.findIn K (.ref C) "__class__" = some (some (.builtin "object.__class__")))
  (hn : PySem.W.specialIn K (.builtin "object.__class__") "__get__" = some (some (.builtin "getset_descriptor.__get__"))) (htk : PySem.W.takesIn K (.builtin "object.__class__") = some true)
  (hm : PySem.W.mroIn K C (.type "object") = some true) : TyOf K H (.ref a) (.ref C)
theorem ZmD {x : V} {u t : Value} (I : Inv X pins σ H s) (rx : RelV x u) (ty : TyOf X.K H x t) (e : PySem.W.kitOne X.K t c = some b) (h : ∀ tk, Q (.bool b) { s with toks := tk }) :
 wpAny (model X.prog X.w) A (call (.builtin "isinstance") [u, c]) Q E s := by
 cases ty with
 | non => cases (show u = Value.none from rx); exact PySem.W.kia_one PySem.W.kitx_none I.kIn True.intro e (fun z => nomatch z) h
 | bl y => cases (show u = Value.bool y from rx); exact PySem.W.kia_one PySem.W.kitx_bool I.kIn True.intro e (fun z => nomatch z) h
 | int i => obtain ⟨t, q⟩ := (show ∃ t, u = Value.int i t from rx); cases q; exact PySem.W.kia_one PySem.W.kitx_int I.kIn True.intro e (fun z => nomatch z) h
 | str y => obtain ⟨t, q⟩ := (show ∃ t, u = Value.str y t from rx); cases q; exact PySem.W.kia_one PySem.W.kitx_str I.kIn True.intro e (fun z => nomatch z) h
 | flt y => obtain ⟨t, q⟩ := (show ∃ t, u = Value.float y t from rx); cases q; exact PySem.W.kia_one PySem.W.kitx_float I.kIn True.intro e (fun z => nomatch z) h
 | @lst a xs ea =>
  cases (show u = Value.ref a from rx)
  obtain ⟨_, _, n, _, h1⟩ := (show Zah X.prog X.w H s.heap a (.lst xs) from I.hok a _ ea)
  exact PySem.W.kia_one PySem.W.kitx_list I.kIn ⟨_, h1, rfl⟩ e (fun z => nomatch z) h
 | @frz a ob xs ea =>
  cases (show u = Value.ref a from rx)
  obtain ⟨_, _, _, n, _, h1⟩ := (show Zah X.prog X.w H s.heap a (.frz ob (.lst xs)) from I.hok a _ ea)
  exact PySem.W.kia_one PySem.W.kitx_list I.kIn ⟨_, h1, rfl⟩ e (fun z => nomatch z) h
 | @tup a xs ea =>
  cases (show u = Value.ref a from rx)
  obtain ⟨_, _, _, p⟩ := (show Zah X.prog X.w H s.heap a (.tup xs) from I.hok a _ ea)
  obtain ⟨o, h1, h2, _⟩ := p
  exact PySem.W.kia_one PySem.W.kitx_tuple I.kIn ⟨o, h1, h2⟩ e (fun z => nomatch z) h
 | @dK a kvs ea =>
  cases (show u = Value.ref a from rx)
  obtain ⟨_, _, vs, _, p⟩ := (show Zah X.prog X.w H s.heap a (.dK kvs) from I.hok a _ ea)
  obtain ⟨o, es, ep, h1, h2, _⟩ := p
  exact PySem.W.kia_one PySem.W.kitx_dict I.kIn ⟨o, h1, h2.1⟩ e (fun z => nomatch z) h
 | @dT a kvs ea =>
  cases (show u = Value.ref a from rx)
  obtain ⟨_, _, xs, _, o, es, ep, h1, h2, _⟩ := (show Zah X.prog X.w H s.heap a (.dT kvs) from I.hok a _ ea)
  exact PySem.W.kia_one PySem.W.kitx_dict I.kIn ⟨o, h1, h2.1⟩ e (fun z => nomatch z) h
 | @ins a C dx fs ea cl ha hn htk hm =>
  cases (show u = Value.ref a from rx)
  obtain ⟨mA, O, _⟩ := Zhn I.hok ea
  obtain ⟨od, J, _⟩ := O.look
  exact PySem.W.kia_one (PySem.W.kitx_own (cl.get _) cl.hd ha hn htk hm) I.kIn J e (fun z => nomatch z) h
end
end L2
namespace L2
open PySem PySem.Spec PyProof.Rows
structure Room (k : Nat) (A : Around) : Prop where
 hd : A.handled = none
 dp : A.depth + 3 * k + 5 < recursionLimit
 un : A.units + 16 * k + 200 < cLine
theorem Room.mono {j k : Nat} {A : Around} (r : Room k A) (h : j <= k) : Room j A := ⟨r.hd, by have := r.dp; omega, by have := r.un; omega⟩
theorem Room.deeper {k : Nat} {A : Around} (r : Room (k + 1) A) (env : Env) : Room k (A.deeper env) :=
 ⟨r.hd, by have := r.dp; show A.depth + 1 + 3 * k + 5 < _; omega, by have := r.un; show A.units + 3 + 16 * k + 200 < _; omega⟩
theorem ZlN {A : Around} {C : Addr} {us : List Value} {kw : List (Str × Value)} : (A.under (.builtin "type.__call__" ⟨.ref C :: us, kw⟩)).depth = A.depth + 1 := by
 first | rfl | simp [Around.under, Code.weight, Code.isCreation, Code.isGuard, Code.isCaller, Code.frames, Code.isFrame, guardIds]
theorem ZlO {A : Around} {C : Addr} {us : List Value} {kw : List (Str × Value)} : (A.under (.builtin "type.__call__" ⟨.ref C :: us, kw⟩)).units = A.units + 1 := by
 first | rfl | simp [Around.under, Code.cUnits, Code.frames, Code.isFrame]
theorem Room.make {k : Nat} {A : Around} (r : Room (k + 1) A) (C : Addr) (us : List Value) (kw : List (Str × Value)) : Room k (A.under (.builtin "type.__call__" ⟨.ref C :: us, kw⟩)) :=
 ⟨r.hd, by have := r.dp; rw [ZlN]; omega, by have := r.un; rw [ZlO]; omega⟩
theorem Room.depth {k : Nat} {A : Around} (r : Room k A) : A.depth < recursionLimit := by have := r.dp; omega
theorem Room.units {k : Nat} {A : Around} (r : Room k A) : A.units + 64 < cLine := by have := r.un; omega
def tNil : TA := fun _ H Q => Q [] H
def ZjQ (ta : TE) (tr : TA) : TA := fun σ H Q => ta σ H fun x H1 => tr σ H1 fun xs H2 => Q (x :: xs) H2
section
variable {X : Cx} {e : Expr} {es : List Expr} {te : TE} {t : TA} {pos : Pos}
theorem Zdt : PA X [] tNil := fun _ _ _ _ H Q I h => Calls.spliced_nil ⟨[], H, I, .nil, h⟩
theorem Zbg (ha : PE X e te) (hr : PA X es t) (hs : starEach (e :: es) X.env = (false, eval e X.env) :: starEach es X.env := by rfl) : PA X (e :: es) (ZjQ te t) := by
 intro pos pins s σ H Q I h
 rw [hs]
 show wpAny _ _ (spliced ((false, eval e X.env) :: backTo pos (starEach es X.env))) _ _ s
 refine Calls.spliced_cons (thn (ha pins s σ H _ I h) fun u s1 ⟨x, H1, I1, r1, q1⟩ => ?_)
 exact thn (hr pos pins s1 σ H1 _ I1 q1) fun us s2 ⟨xs, H2, I2, r2, q2⟩ => ⟨x :: xs, H2, I2, .cons r1 r2, q2⟩
def tTup (t : TA) : TE := fun σ H Q => t σ H fun xs H1 => xs.length <= sizeLine /\ ∀ p, H1 p = none -> Q (.ref p) (upd H1 p (.tup xs))
def tLst (t : TA) : TE := fun σ H Q => t σ H fun xs H1 => xs.length <= sizeLine /\ ∀ p, H1 p = none -> Q (.ref p) (upd H1 p (.lst xs))
theorem ZqR {x1} (h : PA X es t) : PE X (.Tuple es x1 pos) (tTup t) := by
 intro pins s σ H Q I hq
 refine wpAny_Tuple_spliced (thn (h pos pins s σ H _ I hq) fun us s1 ⟨xs, H1, I1, r, z, q⟩ => ⟨by rw [<- r.length]; exact z, ?_⟩)
 have hf : H1 s1.heap.objs.size = none := I1.hok.fresh (Nat.le_refl _)
 refine ⟨.ref s1.heap.objs.size, upd H1 s1.heap.objs.size (.tup xs), I1.laid (t' := s1.toks) (fun b u e => Heap.get?_push_of_some _ e) (Nat.le_refl _) ?_, rfl, q _ hf⟩
 exact ⟨z, us, r, ⟨_, Heap.get?_push_size _ rfl, rfl, _, rfl⟩⟩
theorem ZmE (h : PA X es t) : PE X (.List es pos) (tLst t) := by
 intro pins s σ H Q I hq
 refine wpAny_List_spliced (thn (h pos pins s σ H _ I hq) fun us s1 ⟨xs, H1, I1, r, z, q⟩ => ⟨by rw [<- r.length]; exact z, ?_⟩)
 have hf : H1 s1.heap.objs.size = none := I1.hok.fresh (Nat.le_refl _)
 refine ⟨.ref s1.heap.objs.size, upd H1 s1.heap.objs.size (.lst xs), I1.laid (t' := s1.toks) (fun b u e => Heap.get?_push_of_some _ e) (Nat.le_refl _) ?_, rfl, q _ hf⟩
 exact ⟨z, us, 0, r, Heap.get?_push_size _ rfl⟩
end
abbrev Sp := List V -> Hp -> VK -> XK -> Prop
abbrev CXT := List Env -> Hp -> Shared -> XK -> Value -> Shared -> Prop
structure Env0 (P : Program) (w : World) (K : Fg) (mg : Str -> Option Value) (base : Heap) (A : Around) (outer : List Env) (s : Shared) (H : Hp) : Prop where
 frames : A.frames = some outer
 mod : Mod K mg base
 bs : ∀ b o, base.get? b = some o -> s.heap.get? b = some o /\ H b = none
 bsz : base.objs.size <= s.heap.objs.size
 funs : s.heap.FunFrames base outer
 frf : ∀ b ∈ frs outer, H b = none
 hok : HOk P w H s.heap
 bare : AllBare s.gens
def CE (outer : List Env) (P : Program) (w : World) (H : Hp) (s : Shared) (Q : VK) (u : Value) (s' : Shared) : Prop :=
 ∃ v H', s'.os = s.os /\ AllBare s'.gens /\ Un (frs outer) [] H H' s.heap s'.heap /\ HOk P w H' s'.heap /\ RelV v u /\ Q v H'
def CR (CX : CXT) (outer : List Env) (P : Program) (w : World) (H : Hp) (s : Shared) (Q : VK) (E : XK) (r : Result) (s' : Shared) : Prop :=
 match r with
 | .ok (.ret u) => CE outer P w H s Q u s'
 | .ok _ => False
 | .error e => CX outer H s E e s'
structure FnOk (P : Program) (w : World) (K : Fg) (mg : Str -> Option Value) (base : Heap) (CX : CXT) (k : Nat) (f : Addr) (fd : FuncData) (ps : List Str) (sp : Sp) : Prop where
 len : ∀ vs H Q E, sp vs H Q E -> vs.length = ps.length
 run : ∀ (A : Around) (outer : List Env) (s : Shared) (H : Hp) (args : Args) (us : List Value) (vs : List V) (Q : VK) (E : XK), Room k A -> Env0 P w K mg base A outer s H -> BindsTo s fd args (ps.zip us) -> Vals vs us -> sp vs H Q E ->
  codeAny (model P w) A (.call (.ref f) args) (CR CX outer P w H s Q E) s
theorem Env0.make {P : Program} {w : World} {K : Fg} {mg : Str -> Option Value} {base : Heap} {A : Around} {outer : List Env} {s : Shared} {H : Hp} (e : Env0 P w K mg base A outer s H) (C : Addr) (us : List Value) (kw : List (Str × Value)) :
 Env0 P w K mg base (A.under (.builtin "type.__call__" ⟨.ref C :: us, kw⟩)) outer s H := ⟨by first | exact e.frames | (simpa [Around.under, Code.envs, Code.isFrame, pushEnvs] using e.frames), e.mod, e.bs, e.bsz, e.funs, e.frf, e.hok, e.bare⟩
section
variable {X : Cx} {pins : List (Addr × Obj)} {σ : St} {H : Hp} {s s' : Shared}
theorem Inv.env0 (I : Inv X pins σ H s) : Env0 X.prog X.w X.K X.mg X.base X.A X.stack s H :=
 ⟨I.ok.frames, I.ok.mod, I.bs, Nat.le_trans I.ok.bsz I.sz, I.stack, I.stkFree, I.hok, I.bare⟩
theorem Inv.after {Q : VK} {u : Value} (I : Inv X pins σ H s) (h : CE X.stack X.prog X.w H s Q u s') : EP X pins σ Q u s' := by
 obtain ⟨v, H', os, bare, un, hok, r, q⟩ := h
 obtain ⟨hh, g, d, t, os'⟩ := s'
 obtain rfl : os' = s.os := os
 exact ⟨v, H', I.call (h' := hh) (g' := g) (d' := d) (t' := t) (ch := []) un hok bare (fun b z => absurd z (by simp)), r, q⟩
end
def ZoK (sp : Sp) (dvs : List V) (E : XK) (t : TA) : TE := fun σ H Q => t σ H fun vs H1 => sp (vs ++ dvs) H1 Q E
def ZjR (C : Addr) (m : Str) (sp : Sp) (dvs : List V) (E : XK) (ta : TE) (t : TA) : TE := fun σ H Q => ta σ H fun x H1 => ∃ a dx fs, x = .ref a /\ H1 a = some (.ins C dx fs) /\ fs.lookup m = none /\
 t σ H1 fun vs H2 => sp (x :: (vs ++ dvs)) H2 Q E
def ZoL (C : Addr) (sp : Sp) (dvs : List V) (E : XK) (t : TA) : TE := fun σ H Q => t σ H fun vs H1 => ∀ x dx, H1 x = none -> H1 dx = none -> dx ≠ x ->
 sp (.ref x :: (vs ++ dvs)) (upd (upd H1 dx (.own x)) x (.ins C dx [])) (fun v H2 => v = .non /\ Q (.ref x) H2) E
def Binds (K : Fg) (fd : FuncData) (ps : List Str) (ds : List Value) : Prop :=
 ∀ (s : Shared) (us : List Value), K.In s.heap -> (us ++ ds).length = ps.length -> BindsTo s fd ⟨us, []⟩ (ps.zip (us ++ ds))
theorem Binds.all {K : Fg} {fd : FuncData} {ps : List Str} (h : ∀ us : List Value, us.length = ps.length -> bindArgs fd ⟨us, []⟩ = pure (ps.zip us)) : Binds K fd ps [] := fun s us _ hl => by
 rw [List.append_nil] at hl ⊢
 exact .of_eq (h us hl)
def Passes (CX : CXT) (X : Cx) (E : XK) : Prop := ∀ (pins : List (Addr × Obj)) (σ : St) (H : Hp) (s : Shared) (e : Value) (s' : Shared), Inv X pins σ H s -> CX X.stack H s E e s' -> X.xe e s'
section
variable {X : Cx} {CX : CXT} {k : Nat} {f C : Addr} {fd : FuncData} {ps : List Str} {sp : Sp} {dvs : List V} {ds : List Value} {E : XK} {x m : Str} {p pos apos : Pos} {e o : Expr} {es : List Expr} {ta : TE} {t : TA}
theorem Zkd {pins : List (Addr × Obj)} {σ : St} {H : Hp} {s : Shared} {Q : VK} {us : List Value} {vs : List V} (F : FnOk X.prog X.w X.K X.mg X.base CX k f fd ps sp) (hr : Room k X.A) (hb : Binds X.K fd ps ds) (hd : Vals dvs ds) (hx : Passes CX X E)
 (I : Inv X pins σ H s) (r : Vals vs us) (h : sp (vs ++ dvs) H Q E) : wpAny (model X.prog X.w) X.A (call (.ref f) us) (EP X pins σ Q) X.xe s := by
 have r2 : Vals (vs ++ dvs) (us ++ ds) := r.append hd
 have hl : (us ++ ds).length = ps.length := by rw [<- r2.length]; exact F.len _ _ _ _ h
 refine wpAny_call (codeAny_mono (F.run X.A X.stack s H ⟨us, []⟩ (us ++ ds) (vs ++ dvs) Q E hr I.env0 (hb s us I.kIn hl) r2 h) fun r s' hq => ?_)
 cases r with
 | error e => exact hx pins σ H s e s' I hq
 | ok fl =>
  cases fl with
  | ret u => exact I.after hq
  | next => exact False.elim hq
  | brk => exact False.elim hq
  | cont => exact False.elim hq
theorem Zpn (F : FnOk X.prog X.w X.K X.mg X.base CX k f fd ps sp) (hr : Room k X.A) (hg : Gl X x) (hm : X.mg x = some (.ref f)) (hk : PySem.W.keepIn X.K (.ref f) = true) (hb : Binds X.K fd ps ds) (hd : Vals dvs ds) (hx : Passes CX X E)
 (ha : PA X (e :: es) t) (hdb : (x == ("__debug__" : Str)) = false := by decide) (he : starEach (e :: es) X.env = (false, eval e X.env) :: starEach es X.env := by rfl) (hpl : (backTo pos (starEach es X.env)).any (·.1) = false := by rfl) :
 PE X (.Call (.Name x p) (e :: es) [] pos) (ZoK sp dvs E t) := by
 intro pins s σ H Q I h
 refine wpAny_Call_Name_kw (ZiI I hg hm ?_ hdb)
 refine PySem.W.callWith_K (h₀ := X.base) I.ok.mod.kin hk (thn (ha pos pins s σ H _ I h) fun us s1 ⟨vs, H1, I1, r, q⟩ => ⟨I1.kIn, ?_⟩) he hpl
 exact Zkd F hr hb hd hx I1 r q
theorem Zpo {pl : Sem Bool} (he : PE X o ta) (c : Cls X.K C) (hm : Meth X.K C m f) (F : FnOk X.prog X.w X.K X.mg X.base CX k f fd ps sp) (hr : Room k X.A) (hb : Binds X.K fd ps ds) (hd : Vals dvs ds) (hx : Passes CX X E) (ha : PA X (e :: es) t)
 (hst : starEach (e :: es) X.env = (false, eval e X.env) :: starEach es X.env := by rfl) (hpl : (backTo pos (starEach es X.env)).any (·.1) = false := by rfl)
 (ht : eval (.Call (.Attribute o m apos) (e :: es) [] pos) X.env = (do
  let ov <- eval o X.env
  standAt apos.atName
  let (f, first) <- holding [ov] (getMethod ov m pl)
  callWith pos f first (backTo pos (starEach (e :: es) X.env)) (backToKw pos (keywordEach [] X.env))) := by rfl) :
 PE X (.Call (.Attribute o m apos) (e :: es) [] pos) (ZjR C m sp dvs E ta t) := by
 intro pins s σ H Q I h
 refine PySem.W.methodCall_KW (pl := pl) (thn (he pins s σ H _ I h) fun u s1 ⟨x, H1, I1, rx, a, dx, fs, ex, ea, l, q⟩ => ?_) ht
 subst ex
 obtain rfl : u = Value.ref a := rx
 refine Zil I1 ea c hm l ?_
 refine PySem.W.callWith_K (first := [.ref a]) (h₀ := X.base) I.ok.mod.kin hm.kp (thn (ha pos pins s1 σ H1 _ I1 q) fun us s2 ⟨vs, H2, I2, r, q2⟩ => ⟨I2.kIn, ?_⟩) hst hpl
 exact Zkd (us := .ref a :: us) (vs := .ref a :: vs) F hr hb hd hx I2 (.cons rfl r) q2
theorem ZnL {pl : Sem Bool} (he : PE X o ta) (c : Cls X.K C) (hm : Meth X.K C m f) (F : FnOk X.prog X.w X.K X.mg X.base CX k f fd ps sp) (hr : Room k X.A) (hb : Binds X.K fd ps ds) (hd : Vals dvs ds) (hx : Passes CX X E)
 (ht : eval (.Call (.Attribute o m apos) [] [] pos) X.env = (do
  let ov <- eval o X.env
  standAt apos.atName
  let (f, first) <- holding [ov] (getMethod ov m pl)
  callWith pos f first (backTo pos (starEach [] X.env)) (backToKw pos (keywordEach [] X.env))) := by rfl) :
 PE X (.Call (.Attribute o m apos) [] [] pos) (ZjR C m sp dvs E ta tNil) := by
 intro pins s σ H Q I h
 refine PySem.W.methodCall_KW (pl := pl) (thn (he pins s σ H _ I h) fun u s1 ⟨x, H1, I1, rx, a, dx, fs, ex, ea, l, q⟩ => ?_) ht
 subst ex
 obtain rfl : u = Value.ref a := rx
 refine Zil I1 ea c hm l ?_
 exact PySem.W.callWith_K0 (first := [.ref a]) I1.kIn hm.kp (Zkd (us := [.ref a]) (vs := [.ref a]) F hr hb hd hx I1 (.cons rfl .nil) q)
structure Mk (K : Fg) (C f : Addr) : Prop where
 makes : PySem.W.makesIn K C = true
 init : PySem.W.findIn K (.ref C) "__init__" = some (some (.ref f))
 fn : PySem.W.isFn K (.ref f) = true
 kp : PySem.W.keepIn K (.ref C) = true
theorem ZnM {pins : List (Addr × Obj)} {σ : St} {H : Hp} {s : Shared} {Q : VK} {us : List Value} {vs : List V} (M : Mk X.K C f) (F : FnOk X.prog X.w X.K X.mg X.base CX k f fd ps sp) (hr : Room (k + 1) X.A) (hb : Binds X.K fd ps ds) (hd : Vals dvs ds)
 (hx : Passes CX X E) (I : Inv X pins σ H s) (r : Vals vs us)
 (h : ∀ x dx, H x = none -> H dx = none -> dx ≠ x -> sp (.ref x :: (vs ++ dvs)) (upd (upd H dx (.own x)) x (.ins C dx [])) (fun v H2 => v = .non /\ Q (.ref x) H2) E) :
 wpAny (model X.prog X.w) X.A (call (.ref C) us) (EP X pins σ Q) X.xe s := by
 have hq := h (s.heap.objs.size + 1) s.heap.objs.size (I.hok.fresh (Nat.le_succ _)) (I.hok.fresh (Nat.le_refl _)) (Nat.ne_of_lt (Nat.lt_succ_self _))
 have I2 := Inv.made (C := C) I
 have r2 : Vals (V.ref (s.heap.objs.size + 1) :: (vs ++ dvs)) (Value.ref (s.heap.objs.size + 1) :: (us ++ ds)) := .cons rfl (r.append hd)
 have hl : (Value.ref (s.heap.objs.size + 1) :: us ++ ds).length = ps.length := by
  have e := r2.length
  rw [F.len _ _ _ _ hq] at e
  exact e.symm
 refine wpAny_call (ZnK (f := f) I.kIn M.makes M.init (beq_iff_eq.mp M.fn) (codeAny_mono (F.run _ X.stack _ _ ⟨Value.ref (s.heap.objs.size + 1) :: us, []⟩ (Value.ref (s.heap.objs.size + 1) :: (us ++ ds)) _ _ E (hr.make C us [])
  (I2.env0.make C us []) (hb _ (Value.ref (s.heap.objs.size + 1) :: us) I2.kIn hl) r2 hq) fun r s' hq' => ?_))
 cases r with
 | error e => exact hx pins σ _ _ e s' I2 hq'
 | ok fl =>
  cases fl with
  | ret u =>
   obtain ⟨v, H', I3, rv, ev, q3⟩ := I2.after hq'
   subst ev
   exact ⟨rv, ⟨V.ref (s.heap.objs.size + 1), H', I3, rfl, q3⟩⟩
  | next => exact False.elim hq'
  | brk => exact False.elim hq'
  | cont => exact False.elim hq'
theorem Zpp (M : Mk X.K C f) (F : FnOk X.prog X.w X.K X.mg X.base CX k f fd ps sp) (hr : Room (k + 1) X.A) (hg : Gl X x) (hm : X.mg x = some (.ref C)) (hb : Binds X.K fd ps ds) (hd : Vals dvs ds) (hx : Passes CX X E)
 (ha : PA X (e :: es) t) (hdb : (x == ("__debug__" : Str)) = false := by decide) (he : starEach (e :: es) X.env = (false, eval e X.env) :: starEach es X.env := by rfl) (hpl : (backTo pos (starEach es X.env)).any (·.1) = false := by rfl) :
 PE X (.Call (.Name x p) (e :: es) [] pos) (ZoL C sp dvs E t) := by
 intro pins s σ H Q I h
 refine wpAny_Call_Name_kw (ZiI I hg hm ?_ hdb)
 refine PySem.W.callWith_K (h₀ := X.base) I.ok.mod.kin M.kp (thn (ha pos pins s σ H _ I h) fun us s1 ⟨vs, H1, I1, r, q⟩ => ⟨I1.kIn, ?_⟩) he hpl
 exact ZnM M F hr hb hd hx I1 r q
end
structure FnScope (N P : List Str) (sc : Scope) : Prop where
 kind : sc.kind = .function
 co : sc.isCoroutine = false
 gen : sc.isGenerator = false
 nd : N.Nodup
 pre : N.take P.length = P
 par : ∀ x ∈ P, sc.names.lookup x = some .local \/ sc.names.lookup x = some .cell
 nofree : ∀ y ∈ sc.names, y.2 ≠ .free
theorem Zjs {kindOf : Str -> Option NameKind} {x : Str} : ∀ {binds : List (Str × Value)} {m : Str -> Option Value}, (∀ v, (x, v) ∉ binds) -> bindL kindOf binds m x = m x
 | [], _, _ => rfl
 | (n, v) :: r, m, h => by
  unfold bindL
  rw [Zjs fun w hw => h w (List.mem_cons_of_mem _ hw)]
  split
  . have : x ≠ n := by rintro rfl; exact h v List.mem_cons_self
    simp [this]
  . rfl
theorem Zjt {kindOf : Str -> Option NameKind} {x : Str} : ∀ {binds : List (Str × Value)} {m : Str -> Option Value}, (∀ v, (x, v) ∉ binds) -> bindC kindOf binds m x = m x
 | [], _, _ => rfl
 | (n, v) :: r, m, h => by
  unfold bindC
  rw [Zjt fun w hw => h w (List.mem_cons_of_mem _ hw)]
  split
  . rfl
  . have : x ≠ n := by rintro rfl; exact h v List.mem_cons_self
    simp [this]
theorem Zju {kindOf : Str -> Option NameKind} {x : Str} {v : Value} : ∀ {P : List Str} {vs : List Value} {i : Nat} {m : Str -> Option Value}, P.Nodup -> P[i]? = some x -> vs[i]? = some v -> kindOf x = some .local ->
 bindL kindOf (P.zip vs) m x = some v
 | [], _, _, _, _, h, _, _ => by simp at h
 | _ :: _, [], _, _, _, _, h, _ => by simp at h
 | p :: P, w :: vs, 0, m, nd, h1, h2, hk => by
  simp at h1 h2; subst h1; subst h2
  show bindL kindOf ((p, w) :: P.zip vs) m p = _
  unfold bindL
  rw [Zjs fun v hv => (List.nodup_cons.mp nd).1 (List.of_mem_zip hv).1, if_pos hk]
  simp
 | p :: P, w :: vs, i + 1, m, nd, h1, h2, hk => by
  show bindL kindOf ((p, w) :: P.zip vs) m x = _
  unfold bindL
  exact Zju (i := i) (List.nodup_cons.mp nd).2 (by simpa using h1) (by simpa using h2) hk
theorem Zjv {kindOf : Str -> Option NameKind} {x : Str} {v : Value} : ∀ {P : List Str} {vs : List Value} {i : Nat} {m : Str -> Option Value}, P.Nodup -> P[i]? = some x -> vs[i]? = some v -> kindOf x ≠ some .local ->
 bindC kindOf (P.zip vs) m x = some v
 | [], _, _, _, _, h, _, _ => by simp at h
 | _ :: _, [], _, _, _, _, h, _ => by simp at h
 | p :: P, w :: vs, 0, m, nd, h1, h2, hk => by
  simp at h1 h2; subst h1; subst h2
  show bindC kindOf ((p, w) :: P.zip vs) m p = _
  unfold bindC
  rw [Zjt fun v hv => (List.nodup_cons.mp nd).1 (List.of_mem_zip hv).1, if_neg hk]
  simp
 | p :: P, w :: vs, i + 1, m, nd, h1, h2, hk => by
  show bindC kindOf ((p, w) :: P.zip vs) m x = _
  unfold bindC
  exact Zjv (i := i) (List.nodup_cons.mp nd).2 (by simpa using h1) (by simpa using h2) hk
noncomputable def start (N : List Str) (vs : List V) : St := vs.map some ++ List.replicate (N.length - vs.length) none
noncomputable def cxOf (CX : CXT) (P : Program) (w : World) (K : Fg) (mg : Str -> Option Value) (base : Heap) (N : List Str) (qual : Str) (scope : Scope) (f : Addr) (cd : Value) (A : Around) (outer : List Env) (s : Shared) (H : Hp) (E : XK) : Cx where
 prog := P
 w := w
 K := K
 mg := mg
 base := base
 A := A.deeper (envOfC qual scope s.heap.objs.size f cd)
 N := N
 s₀ := s
 H₀ := H
 env := envOfC qual scope s.heap.objs.size f cd
 outer := outer
 stack := envOfC qual scope s.heap.objs.size f cd :: outer
 ex := []
 calm := true
 fn := fun _ => true
 pn := []
 xe := fun e s' => wpAny (model P w) (A.deeper (envOfC qual scope s.heap.objs.size f cd)) (leaving (envOfC qual scope s.heap.objs.size f cd) e) (fun _ s'' => CX outer H s E e s'') (fun e' s'' => CX outer H s E e' s'') s'
theorem Zgl {sc : Scope} {n : Nat} {x : Str} (h : sc.names.lookup x = some .cell) : ∃ c, (cellsFrom n sc.names []).lookup x = some c := by
 have q := PySem.W.cellsFrom_some sc.names n [] (.inl h)
 exact Option.isSome_iff_exists.mp q
theorem ZmF {CX : CXT} {P : Program} {w : World} {K : Fg} {mg : Str -> Option Value} {base : Heap} {N ps : List Str} {qual : Str} {scope : Scope} {f : Addr} {cd : Value} {A : Around} {outer : List Env} {s s1 : Shared} {H : Hp} {E : XK} {us : List Value} {vs : List V}
 (S : FnScope N ps scope) (hd : A.handled = none) (e0 : Env0 P w K mg base A outer s H) (hl : vs.length = ps.length) (r : Vals vs us)
 (x : InCallC s s.heap.objs.size (bindL (envOfC qual scope s.heap.objs.size f cd).kindOf (ps.zip us) fun _ => none) (cellsFrom (s.heap.objs.size + 1) scope.names []) (bindC (envOfC qual scope s.heap.objs.size f cd).kindOf (ps.zip us) fun _ => none) s1) :
 Inv (cxOf CX P w K mg base N qual scope f cd A outer s H E) [] (start N vs) H s1 := by
 have hpl : ps.length <= N.length := by have := congrArg List.length S.pre; rw [List.length_take] at this; omega
 obtain ⟨h1, tk, rfl, hk⟩ := x.done
 have noA : ∀ b : Addr, b ∉ (cxOf CX P w K mg base N qual scope f cd A outer s H E).ex := fun b z => absurd (show b ∈ ([] : List Addr) from z) (by simp)
 refine ⟨⟨e0.mod, S.kind, rfl, rfl, Nat.le_refl _, fun y z c h1 h2 => ?_, fun y hy => ?_, fun y c _ h => ?_, fun _ => hd, Around.frames_deeper e0.frames, .inr ⟨rfl, rfl⟩, fun b z => absurd z (noA b), e0.bs, e0.bsz, fun b _ _ => noA b, fun b z => absurd z (noA b), e0.funs, e0.frf⟩,
  rfl, e0.bare, Un.kept hk, ⟨_, x.toInCall.ns, fun i y v h1 h2 h3 => ?_⟩, fun y c h => ⟨_, x.cell y c h⟩, e0.hok.fresh (Nat.le_refl _), fun y c h => ?_, fun p hp => absurd (show p ∈ ([] : List (Addr × Obj)) from hp) (by simp), e0.hok.kept hk, ?_⟩
 . exact name_of_addr x.apart (PySem.mem_of_lookup h1) (PySem.mem_of_lookup h2)
 . have hy : scope.names.lookup y = some .cell \/ scope.names.lookup y = some .free := hy
   rcases hy with hy | hy
   . exact Zgl hy
   . exact absurd rfl (S.nofree _ (PySem.mem_of_lookup hy))
 . exact Nat.le_of_lt (x.above y c (PySem.mem_of_lookup h))
 . have hi : i < vs.length := by
    unfold start at h2
    by_cases hi : i < vs.length
    . exact hi
    . rw [List.getElem?_append_right (by simpa using hi)] at h2
      rw [List.getElem?_replicate] at h2
      split at h2 <;> cases h2
   have ha : vs[i]? = some v := by
    unfold start at h2
    rw [List.getElem?_append_left (by simpa using hi), List.getElem?_map] at h2
    cases e : vs[i]? with
    | none => rw [e] at h2; cases h2
    | some a => rw [e] at h2; cases h2; rfl
   obtain ⟨u, hu, rv⟩ := r.get ha
   have hp : ps[i]? = some y := by
    rw [<- S.pre, List.getElem?_take_of_lt (by omega)]; exact h1
   have ndP : ps.Nodup := by rw [<- S.pre]; exact S.nd.sublist (List.take_sublist _ _)
   refine ⟨u, rv, ?_⟩
   rcases S.par y (List.mem_of_getElem? hp) with k | k
   . exact .inl ⟨k, Zju ndP hp hu k⟩
   . obtain ⟨c, e⟩ := Zgl (n := s.heap.objs.size + 1) k
     refine .inr ⟨.inl k, c, e, ?_⟩
     have q := x.cell y c e
     rw [Zjv ndP hp hu (by show scope.names.lookup y ≠ _; rw [k]; decide)] at q
     exact q
 . exact e0.hok.fresh (Nat.le_of_lt (x.above y c (PySem.mem_of_lookup h)))
 . unfold start
   show _ = N.length
   rw [List.length_append, List.length_map, List.length_replicate]
   omega
theorem ZsE {CX : CXT} {P : Program} {w : World} {K : Fg} {mg : Str -> Option Value} {base : Heap} {k : Nat} {f : Addr} {name qual : Str} {params : Arguments} {body : List Stmt} {scope : Scope} {dV kV doc pm cdv ct oc : Value} {an od : Option Addr}
 {osl : Array (Option Value)} {N ps : List Str} {sp : Sp} (lk : K.lookup f = some ⟨oc, od, .func (PySem.W.fnOf name qual params body scope dV kV doc pm an cdv ct), osl⟩) (hcd : PySem.W.codeIn K cdv qual = true) (S : FnScope N ps scope)
 (len : ∀ vs H Q E, sp vs H Q E -> vs.length = ps.length)
 (hbody : ∀ (A : Around) (outer : List Env) (s : Shared) (H : Hp) (vs : List V) (Q : VK) (E : XK), Room k (A.deeper (envOfC qual scope s.heap.objs.size f cdv)) -> sp vs H Q E ->
  ∃ t, PSs (cxOf CX P w K mg base N qual scope f cdv A outer s H E) body t /\ t { nx := fun _ H' => Q .non H', rt := Q } (start N vs) H) :
 FnOk P w K mg base CX (k + 1) f (PySem.W.fnOf name qual params body scope dV kV doc pm an cdv ct) ps sp := by
 refine ⟨len, fun A outer s H args us vs Q E hr e0 hb r hsp => ?_⟩
 have hl := len _ _ _ _ hsp
 have KX : K.In s.heap := e0.mod.kin.keeps fun b o e => (e0.bs b o e).1
 have lim : s.heap.NoLimit := e0.mod.nolimit.keeps fun b o e => (e0.bs b o e).1
 have hkind : ∀ y ∈ ps.zip us, scope.names.lookup y.1 = some .local \/ (scope.names.lookup y.1 = some .cell /\ ((cellsFrom (s.heap.objs.size + 1) scope.names []).lookup y.1).isSome = true) := fun ⟨n, v⟩ hy => by
  rcases S.par n (List.of_mem_zip hy).1 with q | q
  . exact .inl q
  . exact .inr ⟨q, PySem.W.cellsFrom_some _ _ _ (.inl q)⟩
 refine codeAny_call_function hr.depth (KX _ _ lk) rfl S.co S.gen rfl (PySem.W.codeRec_of KX hcd) (hb _ _ _ _ ?_)
 refine wpAny_newFunctionEnv_cells S.kind hkind fun env he s1 x => ?_
 subst he
 refine ⟨lim.keeps x.toInCall.keep, codeAny_func ?_⟩
 obtain ⟨t, ht, hq⟩ := hbody A outer s H vs Q E (hr.deeper _) hsp
 have I : Inv (cxOf CX P w K mg base N qual scope f cdv A outer s H E) [] (start N vs) H s1 := ZmF S hr.hd e0 hl r x
 refine wpAny_mono (ht [] s1 (start N vs) H _ I hq) (fun fl s' hs => ?_) fun e s' hs => hs
 have fin : ∀ {σ' : St} {H' : Hp} {v : V} {u : Value}, Inv (cxOf CX P w K mg base N qual scope f cdv A outer s H E) [] σ' H' s' -> RelV v u -> Q v H' -> CE outer P w H s Q u s' :=
  fun {σ' H' v u} J rv q => ⟨v, H', J.os, J.bare, J.base, J.hok, rv, q⟩
 cases fl with
 | ret u =>
  obtain ⟨v, σ', H', J, rv, q⟩ := hs
  exact fin J rv q
 | next =>
  obtain ⟨σ', H', J, q⟩ := hs
  exact fin (v := V.non) (u := Value.none) J rfl q
 | brk =>
  obtain ⟨_, _, _, q⟩ := hs
  exact False.elim q
 | cont =>
  obtain ⟨_, _, _, q⟩ := hs
  exact False.elim q
end L2
namespace L2
open PySem PySem.Spec PyProof.Rows
section
variable {X : Cx} {x : Str} {p pos : Pos} {e : Expr} {es : List Expr} {t : TA} {id T : String} {r : List V -> Hp -> VK -> Prop}
def tCB (r : List V -> Hp -> VK -> Prop) (t : TA) : TE := fun σ H Q => t σ H fun vs H1 => r vs H1 Q
theorem Zke (hc : Zat X (.builtin id) r) (hg : Gl X x) (hm : X.mg x = none) (hv : bootBuiltins x = some (.builtin id)) (ha : PA X (e :: es) t) (hn : x ≠ "__name__" := by decide) (hdb : (x == ("__debug__" : Str)) = false := by decide)
 (he : starEach (e :: es) X.env = (false, eval e X.env) :: starEach es X.env := by rfl) (hpl : (backTo pos (starEach es X.env)).any (·.1) = false := by rfl) : PE X (.Call (.Name x p) (e :: es) [] pos) (tCB r t) := by
 intro pins s σ H Q I h
 refine wpAny_Call_Name_kw (Zds I hg hm hv ?_ hn hdb)
 exact PyProof.Rows.callWith_builtin1 (thn (ha pos pins s σ H _ I h) fun us s1 ⟨vs, H1, I1, r1, q1⟩ => hc pins s1 σ H1 vs us Q I1 r1 q1) he hpl
theorem ZgK (hc : Zat X (.type T) r) (hg : Gl X x) (hm : X.mg x = none) (hv : bootBuiltins x = some (.type T)) (ha : PA X (e :: es) t) (hn : x ≠ "__name__" := by decide) (hdb : (x == ("__debug__" : Str)) = false := by decide)
 (he : starEach (e :: es) X.env = (false, eval e X.env) :: starEach es X.env := by rfl) (hpl : (backTo pos (starEach es X.env)).any (·.1) = false := by rfl) : PE X (.Call (.Name x p) (e :: es) [] pos) (tCB r t) := by
 intro pins s σ H Q I h
 refine wpAny_Call_Name_kw (Zds I hg hm hv ?_ hn hdb)
 exact PyProof.Rows.callWith_type1 (thn (ha pos pins s σ H _ I h) fun us s1 ⟨vs, H1, I1, r1, q1⟩ => hc pins s1 σ H1 vs us Q I1 r1 q1) he hpl
end
end L2
namespace HT
open PySem PyProof.Rows
section
variable {prog : Program} {w : World} {A : Around} {E : Value -> Shared -> Prop} {s : Shared}
noncomputable def sIx (n d : Nat) : Option Int -> Nat
 | none => d
 | some v => if v < 0 then (v + (n : Int)).toNat else min v.toNat n
theorem Zfo (n d k : Nat) : sIx n d (some (k : Int)) = min k n := by
 show (if (k : Int) < 0 then ((k : Int) + (n : Int)).toNat else min (k : Int).toNat n) = min k n
 rw [if_neg (by omega), Int.toNat_natCast]
end
end HT
namespace L2
open PySem PySem.Spec PyProof.Rows
abbrev TO := St -> Hp -> (Option Int -> Hp -> Prop) -> Prop
def PO (X : Cx) (e : Option Expr) (t : TO) : Prop :=
 ∀ (pins : List (Addr × Obj)) (s : Shared) (σ : St) (H : Hp) (Q : Option Int -> Hp -> Prop), Inv X pins σ H s -> t σ H Q ->
  wpAny (model X.prog X.w) X.A (evalPart e X.env) (fun u s' => ∃ o H', Inv X pins σ H' s' /\ IsPart u o /\ Q o H') X.xe s
noncomputable def Zpq : TO := fun _ H Q => Q none H
noncomputable def ZsF (t : TE) : TO := fun σ H Q => t σ H fun x H1 => ∃ i, x = .int i /\ Q (some i) H1
section
variable {X : Cx} {e : Expr} {te : TE} {lo hi : Option Expr} {tl th : TO} {pos p2 : Pos}
theorem ZiJ : PO X none Zpq := by
 intro pins s σ H Q I h
 rw [evalPart_none]
 exact wpAny_pure ⟨none, H, I, .none, h⟩
theorem Zln (h : PE X e te) : PO X (some e) (ZsF te) := by
 intro pins s σ H Q I hw
 rw [evalPart_some]
 refine thn (h pins s σ H _ I hw) fun u s1 ⟨x, H1, I1, r1, q1⟩ => ?_
 obtain ⟨i, rfl, q⟩ := q1
 obtain ⟨t, rfl⟩ := r1
 exact ⟨some i, H1, I1, .int i t, q⟩
def SlR (X : Cx) (r : V -> Option Int -> Option Int -> Hp -> VK -> Prop) : Prop :=
 ∀ (pins : List (Addr × Obj)) (s : Shared) (σ : St) (H : Hp) (x : V) (v vl vu : Value) (lo hi : Option Int) (sl : Addr) (Q : VK), Inv X pins σ H s -> RelV x v -> s.heap.IsSliceOf sl vl vu .none -> IsPart vl lo -> IsPart vu hi -> r x lo hi H Q ->
  ∃ T id, typeLookup (.type T) "__getitem__" = pure (some (.builtin id)) /\ s.TypeIs v T /\ wpAny (model X.prog X.w) X.A (getItem v (.ref sl)) (EP X pins σ Q) X.xe s
def tSl (r : V -> Option Int -> Option Int -> Hp -> VK -> Prop) (te : TE) (tl th : TO) : TE := fun σ H Q => te σ H fun x H1 => tl σ H1 fun l H2 => th σ H2 fun u H3 => r x l u H3 Q
theorem ZnN {r : V -> Option Int -> Option Int -> Hp -> VK -> Prop} (hr : SlR X r) (he : PE X e te) (hl : PO X lo tl) (hu : PO X hi th) : PE X (.Subscript e (.Slice lo hi none p2) pos) (tSl r te tl th) := by
 intro pins s σ H Q I h
 refine Subscript_ (thn (he pins s σ H _ I h) fun v s1 ⟨x, H1, I1, r1, q1⟩ => ?_)
 refine wpAny_Slice (thn (hl pins s1 σ H1 _ I1 q1) fun vl s2 ⟨l, H2, I2, pl, q2⟩ => thn (hu pins s2 σ H2 _ I2 q2) fun vu s3 ⟨u, H3, I3, pu, q3⟩ => ?_)
 rw [evalPart_none]
 refine wpAny_pure ?_
 have I4 : Inv X pins σ H3 { s3 with heap := s3.heap.push { cls := .type "slice", data := .fields #[vl, vu, .none] } } := I3.kept (t' := s3.toks) fun b ob q => Heap.get?_push_of_some _ q
 obtain ⟨T, id, hT, ht, hg⟩ := hr pins { s3 with heap := s3.heap.push { cls := .type "slice", data := .fields #[vl, vu, .none] } } σ H3 x v vl vu l u s3.heap.objs.size Q I4 r1 (Heap.IsSliceOf.new ..) pl pu q3
 show wpAny (model X.prog X.w) X.A (subscriptTail e (.Slice lo hi none p2) v (.ref s3.heap.objs.size)) (EP X pins σ Q) X.xe { s3 with heap := s3.heap.push { cls := .type "slice", data := .fields #[vl, vu, .none] } }
 exact tail_any (ops := [.ref s3.heap.objs.size, v]) ht hT hg (by with_unfolding_all rfl)
noncomputable def cutV (xs : List V) (lo hi : Option Int) : List V := (xs.drop (HT.sIx xs.length 0 lo)).take (HT.sIx xs.length xs.length hi - HT.sIx xs.length 0 lo)
theorem ZkI (xs : List V) (lo hi : Option Int) : (cutV xs lo hi).length <= xs.length := by
 unfold cutV
 rw [List.length_take, List.length_drop]
 omega
end
end L2
namespace L2
open PySem PySem.Spec PyProof.Rows
noncomputable def ixN (n : Nat) (i : Int) : Option Nat := if 0 <= i then (if i < n then some i.toNat else none) else if -(n : Int) <= i then some (i + n).toNat else none
noncomputable def atI {α : Type} (xs : List α) (i : Int) : Option α := (ixN xs.length i).bind fun j => xs[j]?
theorem Zlo {n : Nat} {i : Int} {j : Nat} (h : ixN n i = some j) : seqIndex? i n = some j /\ j < n /\ -(n : Int) <= i /\ i < n := by
 unfold ixN at h
 by_cases h0 : 0 <= i
 . rw [if_pos h0] at h
   by_cases h1 : i < n
   . rw [if_pos h1] at h
     have e : i.toNat = j := Option.some.inj h
     exact ⟨by rw [seqIndex_of h0 h1, e], by omega, by omega, h1⟩
   . rw [if_neg h1] at h; cases h
 . rw [if_neg h0] at h
   by_cases h1 : -(n : Int) <= i
   . rw [if_pos h1] at h
     have e : (i + n).toNat = j := Option.some.inj h
     exact ⟨by rw [seqIndex_neg (by omega) h1, e], by omega, h1, by omega⟩
   . rw [if_neg h1] at h; cases h
theorem ZiK {α : Type} {xs : List α} {i : Int} {v : α} (h : atI xs i = some v) : ∃ j, seqIndex? i xs.length = some j /\ xs[j]? = some v /\ j < xs.length /\ -(xs.length : Int) <= i /\ i < xs.length := by
 unfold atI at h
 cases e : ixN xs.length i with
 | none => rw [e] at h; cases h
 | some j =>
  rw [e] at h
  obtain ⟨h1, h2, h3, h4⟩ := Zlo e
  exact ⟨j, h1, h, h2, h3, h4⟩
def ZiL (b : Expr) : Prop := ∀ o i, subscripted b false o i = operate [o, i] (getItem o i)
def IxR (X : Cx) (r : R2) : Prop :=
 ∀ (value slice : Expr) (pins : List (Addr × Obj)) (s : Shared) (σ : St) (H : Hp) (x y : V) (v u : Value) (Q : VK), Inv X pins σ H s -> RelV x v -> RelV y u -> r x y H Q ->
  subscripted slice false v u = operate [v, u] (getItem v u) -> wpAny (model X.prog X.w) X.A (subscriptTail value slice v u) (EP X pins σ Q) X.xe s
def MtR (X : Cx) (id : String) (r : V -> List V -> Hp -> VK -> Prop) : Prop :=
 ∀ (pins : List (Addr × Obj)) (s : Shared) (σ : St) (H : Hp) (x : V) (xs : List V) (v : Value) (us : List Value) (Q : VK), Inv X pins σ H s -> RelV x v -> Vals xs us -> r x xs H Q ->
  wpAny (model X.prog X.w) X.A (call (.builtin id) (v :: us)) (EP X pins σ Q) X.xe s
section
variable {X : Cx} {a b : Expr} {ta tb : TE} {pos : Pos}
theorem ZsG {r : R2} (hr : IxR X r) (ha : PE X a ta) (hb : PE X b tb) (hs : ZiL b) : PE X (.Subscript a b pos) (tOp r ta tb) := by
 intro pins s σ H Q I h
 exact Subscript_ (binT ha hb I h fun v u s2 x y H2 I2 rx ry q => hr a b pins s2 σ H2 x y v u Q I2 rx ry q (hs _ _))
def rIxL (K : Fg) : R2 := fun x y H Q => ∃ p xs i v, x = .ref p /\ y = .int i /\ SqL K H p xs /\ atI xs i = some v /\ Q v H
def rIxT (K : Fg) : R2 := fun x y H Q => ∃ p xs i v, x = .ref p /\ y = .int i /\ SqT K H p xs /\ atI xs i = some v /\ Q v H
def rIxS : R2 := fun x y H Q => ∃ z i c, x = .str z /\ y = .int i /\ z.length <= sizeLine /\ atI z.cps.toList i = some c /\ Q (.str ⟨#[c]⟩) H
theorem Zlp : IxR X (rIxL X.K) := by
 intro value slice pins s σ H x y v u Q I rx ry h hs
 obtain ⟨p, xs, i, z, rfl, rfl, hq, he, q⟩ := h
 cases rx
 obtain ⟨t, rfl⟩ := ry
 obtain ⟨its, r, pl, hz⟩ := I.list hq
 obtain ⟨j, h1, h2, h3, h4, h5⟩ := ZiK he
 obtain ⟨w, ew, rw'⟩ := r.get h2
 have hl := r.length
 have hn := Zfs
 have fin : EP X pins σ Q w s := ⟨z, H, I, rw', q⟩
 by_cases h0 : 0 <= i
 . have hj : i.toNat = j := by
    rw [seqIndex_of h0 h5] at h1
    exact Option.some.inj h1
   exact item_listR pl.isList h0 (by omega) (by rw [hj]; simpa using ew) fin hs
 . have hj : (i + (its.toArray.size : Int)).toNat = j := by
    rw [seqIndex_neg (by omega) h4] at h1
    rw [List.size_toArray, <- hl]
    exact Option.some.inj h1
   exact subscriptTail_builtinR (x := w) pl.isList.typeIs slot_list_getitem.lookup
    (wpAny_getItem_list_neg (Q := fun r s' => r = w /\ EP X pins σ Q r s') pl.isList (by omega) (by rw [List.size_toArray] <;> omega) (by omega) (by rw [hj]; simpa using ew) ⟨rfl, fin⟩) hs
theorem ZmG : IxR X (rIxT X.K) := by
 intro value slice pins s σ H x y v u Q I rx ry h hs
 obtain ⟨p, xs, i, z, rfl, rfl, hq, he, q⟩ := h
 cases rx
 obtain ⟨t, rfl⟩ := ry
 obtain ⟨its, r, pl, hz⟩ := I.tuple hq
 obtain ⟨j, h1, h2, h3, h4, h5⟩ := ZiK he
 obtain ⟨w, ew, rw'⟩ := r.get h2
 have hl := r.length
 have hn := Zfs
 have fin : EP X pins σ Q w s := ⟨z, H, I, rw', q⟩
 exact subscriptTail_builtinR (x := w) pl.typeIs slot_tuple_getitem.lookup
  (getItem_tuple (j := j) (Q := fun r s' => r = w /\ EP X pins σ Q r s') pl (by omega) (by omega) (by rw [List.size_toArray, <- hl]; exact h1) (by simpa using ew) ⟨rfl, fin⟩) hs
theorem ZqS : IxR X rIxS := by
 intro value slice pins s σ H x y v u Q I rx ry h hs
 obtain ⟨z, i, c, rfl, rfl, hz, he, q⟩ := h
 obtain ⟨t, rfl⟩ := rx
 obtain ⟨t', rfl⟩ := ry
 obtain ⟨j, h1, h2, h3, h4, h5⟩ := ZiK he
 have hl : z.cps.toList.length = z.length := by simp [Str.length]
 rw [hl] at h1 h4 h5
 have hn := Zfs
 exact tail_any (typeIs_str s z t) slot_str_getitem.lookup (getItem_str (c := c) (by
  have e1 : decide (i < -(2 ^ 63 : Int)) = false := decide_eq_false (by omega)
  have e2 : decide (i ≥ 2 ^ 63) = false := decide_eq_false (by omega)
  rw [e1, e2, Bool.or_false]) (by rw [h1]; simpa using h2) ⟨.str ⟨#[c]⟩, H, I.tok _, ⟨_, rfl⟩, q⟩) hs
theorem ZlP (its : List Value) (n j : Nat) (u : Value) : Obj.mapSeq (·.setIfInBounds j u) { cls := .type "list", data := .seq its.toArray n } = { cls := .type "list", data := .seq (its.set j u).toArray n } := by
 simp [Obj.mapSeq]
theorem Inv.lst {pins : List (Addr × Obj)} {σ : St} {H : Hp} {s : Shared} {p : Addr} {xs : List V} (I : Inv X pins σ H s) (h : H p = some (.lst xs)) :
 ∃ (its : List Value) (n : Nat), Vals xs its /\ s.heap.get? p = some { cls := .type "list", data := .seq its.toArray n } /\ xs.length <= sizeLine := by
 obtain ⟨z, its, n, r, e⟩ := I.hok p _ h
 exact ⟨its, n, r, e, z⟩
theorem Inv.lstUpd {pins : List (Addr × Obj)} {σ : St} {H : Hp} {s : Shared} {p : Addr} {xs ys : List V} {its its' : List Value} {n n' : Nat} {f : Obj -> Obj} (I : Inv X pins σ H s) (h : H p = some (.lst xs))
 (ho : s.heap.get? p = some { cls := .type "list", data := .seq its.toArray n }) (hf : f { cls := .type "list", data := .seq its.toArray n } = { cls := .type "list", data := .seq its'.toArray n' }) (r : Vals ys its') (hz : ys.length <= sizeLine) (t : Nat) :
 Inv X pins σ (upd H p (.lst ys)) { s with heap := s.heap.update p f, toks := t } := by
 have e : (s.heap.update p f).get? p = some { cls := .type "list", data := .seq its'.toArray n' } := by
  rw [Heap.get?_update_self f ho (by rw [hf] <;> rfl), hf]
 refine I.write (x := p) (e := p) (by rw [h]; trivial) (.inl rfl) (fun b u hb q => (Heap.get?_update_other _ _ (Ne.symm hb)).trans q) ⟨_, e⟩ ?_
 exact ⟨hz, its', n', r, e⟩
def ZsH : V -> V -> V -> Hp -> (Hp -> Prop) -> Prop := fun o i v H Q => ∃ p xs k j, o = .ref p /\ i = .int k /\ H p = some (.lst xs) /\ ixN xs.length k = some j /\ Q (upd H p (.lst (xs.set j v)))
theorem ZnO : PSet X ZsH := by
 intro pins s σ H o i v ov iv u Q I ro ri rv h
 obtain ⟨p, xs, k, j, rfl, rfl, hp, hj, q⟩ := h
 cases ro
 obtain ⟨t, rfl⟩ := ri
 obtain ⟨its, n, r, ho, hz⟩ := I.lst hp
 obtain ⟨h1, h2, h3, h4⟩ := Zlo hj
 have hl := r.length
 have hn := Zfs
 have I' : Inv X pins σ (upd H p (.lst (xs.set j v))) { s with heap := s.heap.update p (Obj.mapSeq (·.setIfInBounds j u)) } :=
  I.lstUpd hp ho (ZlP its n j u) (r.set rv j) (by rw [List.length_set]; exact hz) s.toks
 by_cases h0 : 0 <= k
 . have hk : k.toNat = j := by
    rw [seqIndex_of h0 h4] at h1
    exact Option.some.inj h1
   exact PySem.W.ki_setAt ho h0 (by omega) (by rw [List.size_toArray, <- hl]; exact h4) (by rw [hk]; exact ⟨_, I', q⟩)
 . have hk : (k + (its.toArray.size : Int)).toNat = j := by
    rw [seqIndex_neg (by omega) h3] at h1
    rw [List.size_toArray, <- hl]
    exact Option.some.inj h1
   exact PySem.W.ki_setBack ho (by omega) (by rw [List.size_toArray, <- hl]; exact h3) (by omega) (by rw [hk]; exact ⟨_, I', q⟩)
theorem Zkf (lo hi : Option Int) (n : Nat) : (sliceBounds lo hi none n).1 = ((HT.sIx n 0 lo : Nat) : Int) /\ (sliceBounds lo hi none n).2.1 = ((HT.sIx n n hi : Nat) : Int) /\ (sliceBounds lo hi none n).2.2 = 1 := by
 refine ⟨?_, ?_, rfl⟩
 . cases lo with
   | none => simp [sliceBounds, HT.sIx]
   | some i =>
    simp only [sliceBounds, HT.sIx, Option.getD_none, show (1 : Int) > 0 by decide, if_true]
    by_cases h : i < 0
    . simp only [h, if_true] <;> omega
    . simp only [h, if_false] <;> omega
 . cases hi with
   | none => simp [sliceBounds, HT.sIx]
   | some i =>
    simp only [sliceBounds, HT.sIx, Option.getD_none, show (1 : Int) > 0 by decide, if_true]
    by_cases h : i < 0
    . simp only [h, if_true] <;> omega
    . simp only [h, if_false] <;> omega
theorem ZjB (its : List Value) (lo hi : Option Int) : slicePick its.toArray lo hi none = ((its.drop (HT.sIx its.length 0 lo)).take (HT.sIx its.length its.length hi - HT.sIx its.length 0 lo)).toArray := by
 obtain ⟨h1, h2, h3⟩ := Zkf lo hi its.toArray.size
 unfold slicePick
 rw [h1, h2, h3]
 simp only [sliceRange_one, pick_run, List.size_toArray] <;> rfl
def rSlL (K : Fg) : V -> Option Int -> Option Int -> Hp -> VK -> Prop := fun x lo hi H Q => ∃ a xs, x = .ref a /\ SqL K H a xs /\ ∀ p, H p = none -> Q (.ref p) (upd H p (.lst (cutV xs lo hi)))
theorem Zlq : SlR X (rSlL X.K) := by
 intro pins s σ H x v vl vu lo hi sl Q I rx hs pl pu h
 obtain ⟨a, xs, rfl, hx, q⟩ := h
 cases rx
 obtain ⟨its, r, ht, hz⟩ := I.list hx
 have hlen := r.length
 refine ⟨"list", _, slot_list_getitem.lookup, ht.isList.typeIs, ?_⟩
 refine wpAny_getItem_list_slice ht.isList hs pl pu .none (by simp) ?_ (by rw [List.size_toArray] <;> omega)
 rw [ZjB, <- hlen]
 refine ⟨.ref s.heap.objs.size, _, I.laid (t' := s.toks) (o := .lst (cutV xs lo hi)) (fun b ob q => Heap.get?_push_of_some _ q) (Nat.le_refl _) ?_, rfl, q _ (I.hok.fresh (Nat.le_refl _))⟩
 exact ⟨Nat.le_trans (ZkI xs lo hi) hz, _, 0, (r.drop (HT.sIx xs.length 0 lo)).take (HT.sIx xs.length xs.length hi - HT.sIx xs.length 0 lo), Heap.get?_push_size _ rfl⟩
noncomputable def Zfk : V -> Bool
 | .non => true
 | .bl _ => true
 | .int _ => true
 | .str _ => true
 | _ => false
noncomputable def eqV : V -> V -> Bool
 | .non, .non => true
 | .bl a, .bl b => a == b
 | .bl a, .int b => (if a then 1 else 0) == b
 | .int a, .bl b => a == (if b then 1 else 0)
 | .int a, .int b => a == b
 | .str a, .str b => a == b
 | _, _ => false
theorem ZqT {A : Around} {s : Shared} {y x : V} {u v : Value} (ry : RelV y u) (rx : RelV x v) (fy : Zfk y = true) (fx : Zfk x = true) : SeqAt.EqAt A s u v (eqV y x) := by
 cases y with
 | non =>
  cases ry
  cases x with
  | non => cases rx; exact SeqAt.EqAt.same _
  | bl b => cases rx; exact SeqAt.EqAt.none_bool b
  | int b => obtain ⟨t, rfl⟩ := rx; exact SeqAt.EqAt.none_int b t
  | str b => obtain ⟨t, rfl⟩ := rx; exact SeqAt.EqAt.none_str b t
  | _ => exact absurd (show false = true from fx) Bool.false_ne_true
 | bl a =>
  cases ry
  cases x with
  | non => cases rx; exact SeqAt.EqAt.bool_none a
  | bl b => cases rx; exact SeqAt.EqAt.bool_bool a b
  | int b => obtain ⟨t, rfl⟩ := rx; exact SeqAt.EqAt.bool_int a b t
  | str b => obtain ⟨t, rfl⟩ := rx; exact SeqAt.EqAt.bool_str a b t
  | _ => exact absurd (show false = true from fx) Bool.false_ne_true
 | int a =>
  obtain ⟨t', rfl⟩ := ry
  cases x with
  | non => cases rx; exact SeqAt.EqAt.int_none a t'
  | bl b => cases rx; exact SeqAt.EqAt.int_bool a t' b
  | int b => obtain ⟨t, rfl⟩ := rx; exact SeqAt.EqAt.int_int a t' b t
  | str b => obtain ⟨t, rfl⟩ := rx; exact SeqAt.EqAt.int_str a t' b t
  | _ => exact absurd (show false = true from fx) Bool.false_ne_true
 | str a =>
  obtain ⟨t', rfl⟩ := ry
  cases x with
  | non => cases rx; exact SeqAt.EqAt.str_none a t'
  | bl b => cases rx; exact SeqAt.EqAt.str_bool a t' b
  | int b => obtain ⟨t, rfl⟩ := rx; exact SeqAt.EqAt.str_int a t' b t
  | str b => obtain ⟨t, rfl⟩ := rx; exact SeqAt.EqAt.str_str a t' b t
  | _ => exact absurd (show false = true from fx) Bool.false_ne_true
 | _ => exact absurd (show false = true from fy) Bool.false_ne_true
noncomputable def eqU (x : V) (u : Value) : Bool := match u with
 | .none => eqV .non x
 | .bool b => eqV (.bl b) x
 | .int i _ => eqV (.int i) x
 | .str z _ => eqV (.str z) x
 | _ => false
theorem ZmH {x y : V} {u : Value} (r : RelV y u) (f : Zfk y = true) : eqU x u = eqV y x := by
 cases y with
 | non => cases r; rfl
 | bl b => cases r; rfl
 | int i => obtain ⟨t, rfl⟩ := r; rfl
 | str z => obtain ⟨t, rfl⟩ := r; rfl
 | _ => exact absurd (show false = true from f) Bool.false_ne_true
theorem ZiM {x : V} : ∀ {xs : List V} {us : List Value}, Vals xs us -> xs.all Zfk = true -> us.any (eqU x) = xs.any fun y => eqV y x
 | _, _, .nil, _ => rfl
 | y :: xs, u :: us, .cons r t, f => by
  rw [List.all_cons, Bool.and_eq_true] at f
  rw [List.any_cons, List.any_cons, ZmH r f.1, ZiM t f.2]
theorem ZhR {A : Around} {s : Shared} {x : V} {v : Value} (rx : RelV x v) (fx : Zfk x = true) : ∀ {xs : List V} {us : List Value}, Vals xs us -> xs.all Zfk = true -> ∀ u ∈ us, SeqAt.EqAt A s u v (eqU x u)
 | _, _, .nil, _ => fun u hu => by cases hu
 | y :: xs, u :: us, .cons r t, f => fun u' hu => by
  rw [List.all_cons, Bool.and_eq_true] at f
  rcases List.mem_cons.mp hu with rfl | hu
  . rw [ZmH r f.1]; exact ZqT r rx f.1 fx
  . exact ZhR rx fx t f.2 u' hu
noncomputable def inV (x : V) (xs : List V) : Bool := xs.any fun y => eqV y x
def rIn (K : Fg) (neg : Bool) : R2 := fun x y H Q => ∃ p xs, y = .ref p /\ (SqL K H p xs \/ SqT K H p xs) /\ Zfk x = true /\ xs.all Zfk = true /\ Q (.bl (if neg then !inV x xs else inV x xs)) H
theorem ZgL : OpR X (compareOp .NotIn) (rIn X.K true) := by
 intro pins s σ H x y v u Q I rx ry h
 obtain ⟨p, xs, rfl, hq, fx, fs, q⟩ := h
 cases ry
 rcases hq with hq | hq
 . obtain ⟨its, r, pl, hz⟩ := I.list hq
   refine SeqAt.notIn_listAt (eqU x) pl.isList (fun w hw => ZhR rx fx r fs w (by simpa using hw)) ⟨.bl _, H, I, rfl, ?_⟩
   rw [show its.toArray.any (eqU x) = its.any (eqU x) by simp, ZiM r fs]
   exact q
 . obtain ⟨its, r, pl, hz⟩ := I.tuple hq
   refine SeqAt.notIn_tupleAt (eqU x) pl (fun w hw => ZhR rx fx r fs w (by simpa using hw)) ⟨.bl _, H, I, rfl, ?_⟩
   rw [show its.toArray.any (eqU x) = its.any (eqU x) by simp, ZiM r fs]
   exact q
theorem ZdW : Zat X (.builtin "len") (fun xs H Q => ∃ p ys, xs = [.ref p] /\ (SqL X.K H p ys \/ SqT X.K H p ys) /\ Q (.int ys.length) H) := by
 intro pins s σ H xs us Q I r h
 obtain ⟨p, ys, rfl, hq, q⟩ := h
 obtain ⟨u, rfl, rx⟩ := Zhm r
 cases rx
 have hn := Zfs
 rcases hq with hq | hq
 . obtain ⟨its, r', pl, hz⟩ := I.list hq
   have hlen := r'.length
   exact Calls.call_len_list pl.isList (by simp only [List.size_toArray] <;> omega) ⟨.int ys.length, H, I.tok _, ⟨s.toks + 1, by rw [List.size_toArray, hlen]⟩, q⟩
 . obtain ⟨its, r', pl, hz⟩ := I.tuple hq
   have hlen := r'.length
   exact len_tuple pl (by simp only [List.size_toArray] <;> omega) ⟨.int ys.length, H, I.tok _, ⟨s.toks + 1, by rw [List.size_toArray, hlen]⟩, q⟩
theorem Zkg : Zat X (.builtin "len") (fun xs H Q => ∃ z, xs = [.str z] /\ z.length <= sizeLine /\ Q (.int z.length) H) := by
 intro pins s σ H xs us Q I r h
 obtain ⟨z, rfl, hz, q⟩ := h
 obtain ⟨u, rfl, t, rfl⟩ := Zhm r
 have hn := Zfs
 exact len_str (by omega) ⟨.int z.length, H, I.tok _, ⟨_, rfl⟩, q⟩
theorem ZdX : Zat X (.type "list") (fun xs H Q => ∃ p ys, xs = [.ref p] /\ (SqL X.K H p ys \/ SqT X.K H p ys) /\ ∀ l, H l = none -> Q (.ref l) (upd H l (.lst ys))) := by
 intro pins s σ H xs us Q I r h
 obtain ⟨p, ys, rfl, hq, q⟩ := h
 obtain ⟨u, rfl, rx⟩ := Zhm r
 cases rx
 have fin : ∀ (its : List Value), Vals ys its -> ys.length <= sizeLine -> ∀ (h' : Heap) (c' : Nat), (∀ b o', s.heap.get? b = some o' -> h'.get? b = some o') ->
  h'.get? s.heap.objs.size = some { cls := .type "list", dict := none, data := .seq its.toArray c', slots := #[] } -> EP X pins σ Q (.ref s.heap.objs.size) { s with heap := h' } := fun its r' hz h' c' kp e =>
  ⟨.ref s.heap.objs.size, _, I.laid (t' := s.toks) kp (Nat.le_refl _) (show Zah X.prog X.w _ h' _ (.lst ys) from ⟨hz, its, c', r', e⟩), rfl, q _ (I.hok.fresh (Nat.le_refl _))⟩
 rcases hq with hq | hq
 . obtain ⟨its, r', pl, hz⟩ := I.list hq
   have hlen := r'.length
   obtain ⟨o, ho, hc, n, hd⟩ := pl.isList
   exact call_list_seq p (.inl rfl) ho hc hd (fun h' c' kp e => fin its r' hz h' c' kp e) (by simp only [List.size_toArray] <;> omega)
 . obtain ⟨its, r', pl, hz⟩ := I.tuple hq
   have hlen := r'.length
   obtain ⟨o, ho, hc, n, hd⟩ := pl
   exact call_list_seq p (.inr rfl) ho hc hd (fun h' c' kp e => fin its r' hz h' c' kp e) (by simp only [List.size_toArray] <;> omega)
theorem Zg7 : Zat X (.type "tuple") (fun xs H Q => ∃ p ys, xs = [.ref p] /\ ((SqL X.K H p ys /\ ∀ l, H l = none -> Q (.ref l) (upd H l (.tup ys))) \/ (SqT X.K H p ys /\ Q (.ref p) H))) := by
 intro pins s σ H xs us Q I r h
 obtain ⟨p, ys, rfl, h⟩ := h
 obtain ⟨u, rfl, rx⟩ := Zhm r
 cases rx
 rcases h with ⟨hq, q⟩ | ⟨hq, q⟩
 . obtain ⟨its, r', pl, hz⟩ := I.list hq
   have hlen := r'.length
   refine call_tuple_list pl.isList (fun h' kp => ?_) (by simp only [List.size_toArray] <;> omega)
   have I1 : Inv X pins σ H { s with heap := h' } := I.kept (t' := s.toks) kp
   have I2 : Inv X pins σ (upd H h'.objs.size (.tup ys)) { s with heap := h'.push { cls := .type "tuple", data := .seq its.toArray } } :=
    I1.laid (t' := s.toks) (fun b o e => Heap.get?_push_of_some _ e) (Nat.le_refl _) (show Zah X.prog X.w _ _ _ (.tup ys) from ⟨hz, its, r', IsTup.new _ _⟩)
   exact ⟨.ref h'.objs.size, _, I2, rfl, q _ (I1.hok.fresh (Nat.le_refl _))⟩
 . obtain ⟨its, r', pl, hz⟩ := I.tuple hq
   exact call_tuple_same pl ⟨.ref p, H, I, rfl, q⟩
def tyV (K : Fg) (T : String) (x : V) (H : Hp) : Prop := match x with
 | .str _ => T = "str"
 | .int _ => T = "int"
 | .ref p => (T = "list" /\ ∃ xs, SqL K H p xs) \/ (T = "tuple" /\ ∃ o, K.lookup p = some o /\ o.cls = .type "tuple" /\ o.dict = none) \/
  (T = "dict" /\ ((∃ kvs, H p = some (.dK kvs)) \/ ∃ kvs, H p = some (.dT kvs))) \/ (T = "set" /\ ∃ S n, H p = some (.set S n))
 | _ => False
theorem ZqU {pins : List (Addr × Obj)} {σ : St} {H : Hp} {s : Shared} {T : String} {x : V} {v : Value} (I : Inv X pins σ H s) (r : RelV x v) (ty : tyV X.K T x H) :
 s.TypeIs v T /\ ∀ a, v = .ref a -> ∃ ob, s.heap.get? a = some ob /\ ob.dict = none := by
 cases x with
 | str z =>
  obtain ⟨t, rfl⟩ := r
  cases (show T = "str" from ty)
  exact ⟨typeIs_str s z t, fun _ e => nomatch e⟩
 | int i =>
  obtain ⟨t, rfl⟩ := r
  cases (show T = "int" from ty)
  exact ⟨typeIs_int s i t, fun _ e => nomatch e⟩
 | ref p =>
  cases r
  rcases ty with ⟨rfl, xs, hq⟩ | ⟨rfl, o, hk, hc, hd⟩ | ⟨rfl, hk⟩ | ⟨rfl, S, n, hk⟩
  . obtain ⟨its, _, pl, _⟩ := I.list hq
    refine ⟨pl.isList.typeIs, fun a e => ?_⟩
    cases e
    obtain ⟨o, n, e, c, hd, _⟩ := pl
    exact ⟨o, e, hd⟩
  . refine ⟨⟨o, I.kIn p o hk, hc⟩, fun a e => ?_⟩
    cases e
    exact ⟨o, I.kIn _ o hk, hd⟩
  . have z : ∃ o, s.heap.get? p = some o /\ o.ExactDict := by
     rcases hk with ⟨kvs, hk⟩ | ⟨kvs, hk⟩
     . obtain ⟨_, _, _, _, o, _, _, e, ex, _⟩ := I.hok p _ hk
       exact ⟨o, e, ex⟩
     . obtain ⟨_, _, _, _, o, _, _, e, ex, _⟩ := I.hok p _ hk
       exact ⟨o, e, ex⟩
    obtain ⟨o, e, ex⟩ := z
    refine ⟨⟨o, e, ex.1⟩, fun a e2 => ?_⟩
    cases e2
    exact ⟨o, e, ex.2.1⟩
  . obtain ⟨o, _, _, _, e, ex, _⟩ := I.hok p _ hk
    refine ⟨⟨o, e, ex.1⟩, fun a e2 => ?_⟩
    cases e2
    exact ⟨o, e, ex.2.1⟩
 | _ => exact False.elim ty
def tBM (K : Fg) (T : String) (r : V -> List V -> Hp -> VK -> Prop) (to : TE) (t : TA) : TE := fun σ H Q => to σ H fun x H1 => tyV K T x H1 /\ t σ H1 fun xs H2 => r x xs H2 Q
variable {o e : Expr} {es : List Expr} {to : TE} {t : TA} {name : Str} {apos cpos : Pos} {T id : String} {r : V -> List V -> Hp -> VK -> Prop}
theorem ZoM (pa : PlainAttrs T) (slot : Slot T name id) (hty : typeOf (.builtin id) = pure (.type "method_descriptor")) (hm : MtR X id r) (ho : PE X o to) (ha : PA X (e :: es) t)
 (hbase : attributeBase o name X.env (eval o X.env) = eval o X.env := by rfl)
 (hfew : ((backTo cpos (starEach (e :: es) X.env)).all (fun x => !x.1) && (backToKw cpos (keywordEach [] X.env)).all (fun x => x.1.isSome)
  && decide ((e :: es).length + ([] : List Keyword).length + (if ([] : List Keyword).isEmpty then 0 else 1) < 30)) = true := by rfl)
 (hline : (apos.endLine == cpos.line) = true := by rfl) (hs : starEach (e :: es) X.env = (false, eval e X.env) :: starEach es X.env := by rfl) (hplain : (backTo cpos (starEach es X.env)).any (·.1) = false := by rfl) :
 PE X (.Call (.Attribute o name apos) (e :: es) [] cpos) (tBM X.K T r to t) := by
 intro pins s σ H Q I h
 refine wpAny_Call_method_late hbase hfew hline rfl (thn (ho pins s σ H _ I h) fun v s1 ⟨x, H1, I1, r1, ty, q1⟩ => ?_)
 obtain ⟨h1, h2⟩ := ZqU I1 r1 ty
 refine ⟨T, id, pa, slot, hty, h1, h2, ?_⟩
 have hA := ha cpos pins s1 σ H1 _ I1 q1
 rw [hs] at hA ⊢
 refine Calls.callWith_builtin (by show (false || (backTo cpos (starEach es X.env)).any (·.1)) = false; rw [hplain] <;> rfl) (Calls.evalArgs_plain ?_)
 exact thn hA fun us s2 ⟨vs, H2, I2, r2, q2⟩ => hm pins s2 σ H2 x vs v us Q I2 r1 r2 q2
end
end L2
namespace L2
open PySem PySem.Spec PyProof.Rows
def MtM (X : Cx) (id : String) (r : V -> List V -> Hp -> VK -> Prop) : Prop :=
 ∀ (pins : List (Addr × Obj)) (s : Shared) (σ : St) (H : Hp) (x : V) (xs : List V) (v : Value) (us : List Value) (Q : VK), Inv X pins σ H s -> RelV x v -> Vals xs us -> r x xs H Q ->
  wpAny (model X.prog X.w) X.A (call (.builtin id) (v :: us)) (EP X pins σ Q) X.xe s
theorem Vals.one : ∀ {x : V} {us : List Value}, Vals [x] us -> ∃ u, us = [u] /\ RelV x u
 | _, _, .cons r .nil => ⟨_, rfl, r⟩
theorem Vals.two : ∀ {x y : V} {us : List Value}, Vals [x, y] us -> ∃ u v, us = [u, v] /\ RelV x u /\ RelV y v
 | _, _, _, .cons r (.cons q .nil) => ⟨_, _, rfl, r, q⟩
theorem Vals.reverse {xs : List V} {us : List Value} (h : Vals xs us) : Vals xs.reverse us.reverse := by
 induction h with
 | nil => exact .nil
 | cons r t ih => rw [List.reverse_cons, List.reverse_cons]; exact Vals.append ih (.cons r .nil)
theorem Vals.rep {xs : List V} {us : List Value} (h : Vals xs us) : ∀ k : Nat, Vals (List.replicate k xs).flatten (List.replicate k us).flatten
 | 0 => .nil
 | k + 1 => by
  rw [List.replicate_succ, List.replicate_succ, List.flatten_cons, List.flatten_cons]
  exact Vals.append h (Vals.rep h k)
theorem Zjw (its : List Value) : ∀ (k : Nat) (acc : List Value),
 List.foldl (fun x1 x2 => x1 ++ x2) acc.toArray (List.replicate k its.toArray) = (acc ++ (List.replicate k its).flatten).toArray
 | 0, acc => by simp
 | k + 1, acc => by
  have e : acc.toArray ++ its.toArray = (acc ++ its).toArray := by simp
  have e2 : (acc ++ its) ++ (List.replicate k its).flatten = acc ++ (List.replicate (k + 1) its).flatten := by
   rw [List.replicate_succ, List.flatten_cons, List.append_assoc]
  rw [<- e2, <- Zjw its k (acc ++ its), <- e, List.replicate_succ, List.foldl_cons]
section
variable {X : Cx} {pins : List (Addr × Obj)} {σ : St} {H : Hp} {s : Shared} {l b : Addr} {xs ys zs : List V}
theorem Inv.lset {its its' : List Value} {n : Nat} {f : Array Value -> Array Value} {t' : Nat} (I : Inv X pins σ H s) (hH : H l = some (.lst xs))
 (e : s.heap.get? l = some { cls := .type "list", data := .seq its.toArray n }) (hf : f its.toArray = its'.toArray) (hv : Vals ys its') (hz : ys.length <= sizeLine) :
 Inv X pins σ (upd H l (.lst ys)) { s with heap := s.heap.update l (Obj.mapSeq f), toks := t' } := by
 have q := PySem.IsL.update e f
 rw [hf] at q
 refine I.write (x := l) (e := l) (by rw [hH]; exact trivial) (.inl rfl) (fun b' u hb hu => (Heap.get?_update_other s.heap (Obj.mapSeq f) (Ne.symm hb)).trans hu) ⟨_, q⟩ ?_
 exact ⟨hz, its', _, hv, q⟩
theorem Inv.lnew {its : List Value} {t' : Nat} (I : Inv X pins σ H s) (hv : Vals ys its) (hz : ys.length <= sizeLine) :
 Inv X pins σ (upd H s.heap.objs.size (.lst ys)) { s with heap := s.heap.push { cls := .type "list", data := .seq its.toArray }, toks := t' } :=
 I.laid (fun _ _ q => Heap.get?_push_of_some _ q) (Nat.le_refl _) ⟨hz, its, 0, hv, Heap.get?_push_size _ rfl⟩
theorem Inv.fresh (I : Inv X pins σ H s) : H s.heap.objs.size = none := I.hok.fresh (Nat.le_refl _)
theorem Inv.lstM (I : Inv X pins σ H s) (hH : H l = some (.lst xs)) : xs.length <= sizeLine /\ ∃ (its : List Value) (n : Nat), Vals xs its /\ xs.length = its.length /\ s.heap.get? l = some { cls := .type "list", data := .seq its.toArray n } := by
 obtain ⟨z, its, n, r, e⟩ := I.hok l _ hH
 exact ⟨z, its, n, r, r.length, e⟩
theorem Zkh {n : Nat} (h : n <= sizeLine) : Builtin.List.listTooLong n = false := by
 unfold Builtin.List.listTooLong
 exact decide_eq_false (by omega)
end
section
variable {X : Cx}
def Zpr : V -> List V -> Hp -> VK -> Prop := fun x vs H Q => ∃ l xs y, x = .ref l /\ vs = [y] /\ H l = some (.lst xs) /\ xs.length < sizeLine /\ Q .non (upd H l (.lst (xs ++ [y])))
theorem Zjx : MtM X "list.append" Zpr := by
 intro pins s σ H x vs v us Q I rx rv h
 obtain ⟨l, xs, y, rfl, rfl, hH, hz, q⟩ := h
 cases rx
 obtain ⟨u, rfl, ru⟩ := rv.one
 obtain ⟨z, its, n, r, hl, e⟩ := I.lstM hH
 refine call_meets F.slot_list_append ⟨_, e, rfl⟩ F.entry_list_append (F.args_list_append_2 _ _) (PySem.list_append l its.toArray n u (by rw [List.size_toArray]; omega)) ⟨e, ?_⟩
 refine ⟨.non, _, I.lset (its' := its ++ [u]) hH e (by simp) (r.append (.cons ru .nil)) ?_, rfl, q⟩
 rw [List.length_append, List.length_singleton]
 omega
def Zps : V -> List V -> Hp -> VK -> Prop := fun x vs H Q => ∃ l b xs zs, x = .ref l /\ vs = [.ref b] /\ H l = some (.lst xs) /\ H b = some (.lst zs) /\ xs.length + zs.length <= sizeLine /\ Q .non (upd H l (.lst (xs ++ zs)))
theorem ZmI : MtM X "list.extend" Zps := by
 intro pins s σ H x vs v us Q I rx rv h
 obtain ⟨l, b, xs, zs, rfl, rfl, hH, hB, hz, q⟩ := h
 cases rx
 obtain ⟨u, rfl, ru⟩ := rv.one
 cases ru
 obtain ⟨z, its, n, r, hl, e⟩ := I.lstM hH
 obtain ⟨z2, its2, n2, r2, hl2, e2⟩ := I.lstM hB
 have hsz : its.toArray.size + its2.toArray.size <= sizeLine := by rw [List.size_toArray, List.size_toArray]; omega
 have hlong : ¬ (!its.toArray.isEmpty && Builtin.List.listTooLong (its.toArray.size + its2.toArray.size)) = true := by
  rw [Zkh hsz, Bool.and_false]
  exact Bool.false_ne_true
 refine call_meets F.slot_list_extend ⟨_, e, rfl⟩ F.entry_list_extend (F.args_list_extend_2 _ _)
  (AutoSeq1.list_extend_list_list_0 l its.toArray n b its2.toArray n2 hlong (by rw [List.size_toArray]; omega) (by omega)) ⟨e, e2, ?_⟩
 refine ⟨.non, _, I.lset (its' := its ++ its2) hH e (by simp) (r.append r2) ?_, rfl, q⟩
 rw [List.length_append]
 omega
def rCat : R2 := fun x y H Q => ∃ l b xs zs, x = .ref l /\ y = .ref b /\ H l = some (.lst xs) /\ H b = some (.lst zs) /\ xs.length + zs.length <= sizeLine /\ ∀ p, H p = none -> Q (.ref p) (upd H p (.lst (xs ++ zs)))
theorem ZqV : OpR X (binaryOp .Add) rCat := by
 intro pins s σ H x y v u Q I rx ry h
 obtain ⟨l, b, xs, zs, rfl, rfl, hH, hB, hz, q⟩ := h
 cases rx
 cases ry
 obtain ⟨z, its, n, r, hl, e⟩ := I.lstM hH
 obtain ⟨z2, its2, n2, r2, hl2, e2⟩ := I.lstM hB
 refine PySem.P.add_list e e2 ?_ (by rw [List.size_toArray, List.size_toArray]; omega)
 have ea : its.toArray ++ its2.toArray = (its ++ its2).toArray := by simp
 rw [ea]
 exact ⟨.ref _, _, I.lnew (t' := s.toks) (r.append r2) (by rw [List.length_append]; omega), rfl, q _ I.fresh⟩
def rRep : R2 := fun x y H Q => ∃ l k xs, x = .ref l /\ y = .int k /\ H l = some (.lst xs) /\ -(2 ^ 63) <= k /\ k < 2 ^ 63 /\ xs.length * k.toNat <= sizeLine /\
 ∀ p, H p = none -> Q (.ref p) (upd H p (.lst (List.replicate k.toNat xs).flatten))
theorem Zpt {α : Type} (xs : List α) (k : Nat) : (List.replicate k xs).flatten.length = k * xs.length := by
 induction k with
 | zero => simp
 | succ k ih => rw [List.replicate_succ, List.flatten_cons, List.length_append, ih, Nat.succ_mul, Nat.add_comm]
theorem ZqW : OpR X (binaryOp .Mult) rRep := by
 intro pins s σ H x y v u Q I rx ry h
 obtain ⟨l, k, xs, rfl, rfl, hH, h1, h2, hz, q⟩ := h
 cases rx
 obtain ⟨t, rfl⟩ := ry
 obtain ⟨z, its, n, r, hl, e⟩ := I.lstM hH
 have hlen : its.toArray.size * k.toNat <= sizeLine := by rw [List.size_toArray, <- hl]; exact hz
 have hcap : ¬ its.toArray.size * k.toNat > (2 ^ 63 - 1) / 8 := by
  have : (sizeLine : Nat) <= (2 ^ 63 - 1) / 8 := by decide
  omega
 have hfit : ¬ (!Builtin.List.listFitsIndex k) = true := by
  rw [fitsIndex_both h1 h2]
  exact Bool.false_ne_true
 have hlong : ¬ Builtin.List.listTooLong (its.toArray.size * k.toNat) = true := by
  rw [Zkh hlen]
  exact Bool.false_ne_true
 have hnew : List.foldl (fun x1 x2 => x1 ++ x2) #[] (List.replicate (if its.toArray.isEmpty = true then 0 else k.toNat) its.toArray) = (List.replicate k.toNat its).flatten.toArray := by
  have f0 : ∀ m : Nat, List.foldl (fun x1 x2 => x1 ++ x2) #[] (List.replicate m its.toArray) = (List.replicate m its).flatten.toArray := fun m => by
   have := Zjw its m []
   rw [List.nil_append] at this
   exact this
  rw [f0]
  cases its with
  | nil => simp
  | cons a r' => rw [if_neg (by simp)]
 refine wpAny_binaryOp_repeat_ref (T := "list") (U := "int") (by decide) ⟨_, e, rfl⟩ (fun s' => typeIs_int s' k t) noFill_list_mul F.fills_int_mul F.slot_int_rmul repeat_list F.slot_int_index.lookup
  (call_meets F.slot_int_rmul (typeIs_int s k t) F.entry_int_rmul (F.args_int_rmul_2 _ _) (int___rmul___int_list k t l its.toArray n)
   ⟨e, rfl, ⟨_, e, rfl⟩, call_meets F.slot_list_mul ⟨_, e, rfl⟩ F.entry_list_mul (F.args_list_mul_2 _ _) (AutoListH.list___mul___list_int_3 l its.toArray n k t hfit hcap hlong) ⟨e, ?_⟩⟩)
 rw [hnew]
 exact ⟨.ref _, _, I.lnew (t' := s.toks) (r.rep k.toNat) (by rw [Zpt, Nat.mul_comm]; exact hz), rfl, q _ I.fresh⟩
end
end L2
namespace L2
open PySem PySem.Spec PyProof.Rows
section
variable {κ : Type} [DecidableEq κ]
noncomputable def valV (kvs : List (κ × V)) (k : κ) : Option V := (kvs.find? fun kv => decide (kv.1 = k)).map (·.2)
noncomputable def putK (kvs : List (κ × V)) (k : κ) (v : V) : List (κ × V) :=
 if (kvs.any fun kv => decide (kv.1 = k)) = true then kvs.map (fun kv => if kv.1 = k then (kv.1, v) else kv) else kvs ++ [(k, v)]
theorem Zki {k : κ} : valV ([] : List (κ × V)) k = none := rfl
theorem Zgm {p : κ × V} {r : List (κ × V)} {k : κ} (e : p.1 = k) : valV (p :: r) k = some p.2 := by simp [valV, List.find?_cons, e]
theorem Zgn {p : κ × V} {r : List (κ × V)} {k : κ} (e : ¬ p.1 = k) : valV (p :: r) k = valV r k := by simp [valV, List.find?_cons, e]
theorem Zkj (k : κ) : ∀ kvs : List (κ × V), (kvs.any fun kv => decide (kv.1 = k)) = (valV kvs k).isSome
 | [] => rfl
 | p :: r => by
  rw [List.any_cons]
  by_cases e : p.1 = k
  . simp only [Zgm e, decide_eq_true e, Bool.true_or, Option.isSome_some]
  . rw [Zgn e, decide_eq_false e, Bool.false_or]; exact Zkj k r
theorem ZhK (kvs : List (κ × V)) (k : κ) (v : V) : (putK kvs k v).length <= kvs.length + 1 := by
 unfold putK
 split
 . rw [List.length_map]; omega
 . rw [List.length_append, List.length_cons, List.length_nil]; omega
theorem RelO.isSome_eq {o : Option V} {u : Option Value} (r : RelO o u) : o.isSome = u.isSome := by
 cases o with
 | none => cases u with
  | none => rfl
  | some _ => exact (show False from r).elim
 | some _ => cases u with
  | none => exact (show False from r).elim
  | some _ => rfl
theorem RelO.getD {o : Option V} {u : Option Value} {d : V} {d' : Value} (r : RelO o u) (rd : RelV d d') : RelV (o.getD d) (u.getD d') := by
 cases o with
 | none => cases u with
  | none => exact rd
  | some _ => exact (show False from r).elim
 | some _ => cases u with
  | none => exact (show False from r).elim
  | some _ => exact r
theorem KV.val {kvs : List (κ × V)} {vs : List (κ × Value)} (r : KV kvs vs) (k : κ) : RelO (valV kvs k) (valueAt vs k) := by
 unfold KV at r
 induction r with
 | nil => exact True.intro
 | @cons p q ps qs h t ih =>
  obtain ⟨h1, h2⟩ := h
  by_cases e : p.1 = k
  . have e' : q.1 = k := h1.symm.trans e
    have b : valueAt (q :: qs) k = some q.2 := by simp [valueAt, List.find?_cons, e']
    rw [Zgm e, b]; exact h2
  . have e' : ¬ q.1 = k := fun z => e (h1.trans z)
    have b : valueAt (q :: qs) k = valueAt qs k := by simp [valueAt, List.find?_cons, e']
    rw [Zgn e, b]; exact ih
theorem KV.any {kvs : List (κ × V)} {vs : List (κ × Value)} (r : KV kvs vs) (k : κ) : (kvs.any fun kv => decide (kv.1 = k)) = vs.any fun kv => decide (kv.1 = k) := by
 unfold KV at r
 induction r with
 | nil => rfl
 | cons h t ih => rw [List.any_cons, List.any_cons, ih, h.1]
theorem KV.repl {kvs : List (κ × V)} {vs : List (κ × Value)} (r : KV kvs vs) (k : κ) {y : V} {u : Value} (ry : RelV y u) :
 KV (kvs.map fun kv => if kv.1 = k then (kv.1, y) else kv) (vs.map fun kv => if kv.1 = k then (kv.1, u) else kv) := by
 unfold KV at r ⊢
 induction r with
 | nil => exact .nil
 | @cons p q ps qs h t ih =>
  rw [List.map_cons, List.map_cons]
  refine .cons ?_ ih
  obtain ⟨h1, h2⟩ := h
  by_cases e : p.1 = k
  . rw [if_pos e, if_pos (h1.symm.trans e)]; exact ⟨h1, ry⟩
  . rw [if_neg e, if_neg (fun z => e (h1.trans z))]; exact ⟨h1, h2⟩
theorem KV.put {kvs : List (κ × V)} {vs : List (κ × Value)} (r : KV kvs vs) (k : κ) {y : V} {u : Value} (ry : RelV y u) : KV (putK kvs k y) (stored vs k u) := by
 unfold putK stored
 rw [r.any k]
 by_cases e : (vs.any fun kv => decide (kv.1 = k)) = true
 . rw [if_pos e, if_pos e]; exact r.repl k ry
 . rw [if_neg e, if_neg e]; exact Paired.snoc r ⟨rfl, ry⟩
theorem KV.length {kvs : List (κ × V)} {vs : List (κ × Value)} (r : KV kvs vs) : kvs.length = vs.length := Paired.length r
end
theorem ZlQ {P : Program} {w : World} {k : Key} {u : Value} (r : RelV (kV k) u) : (Zaz P w).is k u = true := by
 cases k with
 | inl i => obtain ⟨t, e⟩ := (show ∃ t, u = Value.int i t from r); subst e; exact ZkG P w i t
 | inr x => obtain ⟨t, e⟩ := (show ∃ t, u = Value.str x t from r); subst e; exact ZkH P w x t
theorem Zjy {P : Program} {w : World} : ∀ {ks : List Key} {us : List Value}, Vals (ks.map kV) us -> ItemsAre (Zaz P w) ks us
 | [], _, r => by rw [List.map_nil] at r; cases r; exact .nil
 | k :: ks, _, r => by
  rw [List.map_cons] at r
  cases r with
  | cons h t => exact .cons (ZlQ h) (Zjy t)
abbrev KT (H : Hp) : List (List Key × V) -> List (List Key × Addr × Value) -> Prop := Paired fun p q => p.1 = q.1 /\ H q.2.1 = some (.tup (p.1.map kV)) /\ RelV p.2 q.2.2
theorem KT.val {H : Hp} {kvs : List (List Key × V)} {xs : List (List Key × Addr × Value)} (r : KT H kvs xs) (k : List Key) : RelO (valV kvs k) ((atKey xs k).map (·.2)) := by
 induction r with
 | nil => exact True.intro
 | @cons p q ps qs h t ih =>
  obtain ⟨h1, _, h2⟩ := h
  by_cases e : p.1 = k
  . have e' : q.1 = k := h1.symm.trans e
    have b : atKey (q :: qs) k = some q.2 := by simp [atKey, List.find?_cons, e']
    rw [Zgm e, b]; exact h2
  . have e' : ¬ q.1 = k := fun z => e (h1.trans z)
    have b : atKey (q :: qs) k = atKey qs k := by simp [atKey, List.find?_cons, e']
    rw [Zgn e, b]; exact ih
theorem KT.repl {H : Hp} {kvs : List (List Key × V)} {xs : List (List Key × Addr × Value)} (r : KT H kvs xs) (k : List Key) {y : V} {u : Value} (ry : RelV y u) :
 KT H (kvs.map fun kv => if kv.1 = k then (kv.1, y) else kv) (xs.map (putAt k u)) := by
 induction r with
 | nil => exact .nil
 | @cons p q ps qs h t ih =>
  rw [List.map_cons, List.map_cons]
  refine .cons ?_ ih
  obtain ⟨h1, h2, h3⟩ := h
  unfold putAt
  by_cases e : p.1 = k
  . rw [if_pos e, if_pos (h1.symm.trans e)]; exact ⟨h1, h2, ry⟩
  . rw [if_neg e, if_neg (fun z => e (h1.trans z))]; exact ⟨h1, h2, h3⟩
theorem KT.put {H : Hp} {kvs : List (List Key × V)} {xs : List (List Key × Addr × Value)} (r : KT H kvs xs) (k : List Key) {b : Addr} {y : V} {u : Value} (hb : H b = some (.tup (k.map kV))) (ry : RelV y u) :
 KT H (putK kvs k y) (storedH xs k b u) := by
 have e : (kvs.any fun kv => decide (kv.1 = k)) = (atKey xs k).isSome := by
  rw [Zkj, (r.val k).isSome_eq, Option.isSome_map]
 unfold putK storedH
 rw [e]
 by_cases q : (atKey xs k).isSome = true
 . rw [if_pos q, if_pos q]; exact r.repl k ry
 . rw [if_neg q, if_neg q]; exact Paired.snoc r ⟨rfl, hb, ry⟩
theorem KT.keeps {H H' : Hp} {kvs : List (List Key × V)} {xs : List (List Key × Addr × Value)} (r : KT H kvs xs) (ht : ∀ b ys, H b = some (.tup ys) -> H' b = some (.tup ys)) : KT H' kvs xs :=
 Paired.mapP r fun _ _ z => ⟨z.1, ht _ _ z.2.1, z.2.2⟩
section
variable {P : Program} {w : World} {H : Hp} {h : Heap} {a : Addr}
theorem ZoN {u : HO} (ok : HOk P w H h) (e : Rd H a u) : Zah P w H h a u := e.ok ok
theorem ZjS {kvs : List (Key × V)} (ok : HOk P w H h) (e : Rd H a (.dK kvs)) : kvs.length <= sizeLine /\ (a == sysModules) = false /\ ∃ vs, KV kvs vs /\ h.DictOf (Zaz P w) a vs :=
 show Zah P w H h a (.dK kvs) from ZoN ok e
theorem ZsI {kvs : List (Key × V)} (ok : HOk P w H h) (e : H a = some (.dK kvs)) : kvs.length <= sizeLine /\ (a == sysModules) = false /\ ∃ vs, KV kvs vs /\ h.DictOf (Zaz P w) a vs := ZjS ok (.inl e)
theorem Zkk {ks : List Key} (ok : HOk P w H h) (e : H a = some (.tup (ks.map kV))) : (tupleKind (Zaz P w)).is h ks a := by
 obtain ⟨_, its, r, o, h1, h2, n, h3⟩ := (show Zah P w H h a (.tup (ks.map kV)) from ok a _ e)
 exact ⟨o, its.toArray, n, h1, h2, h3, by simpa using Zjy r⟩
theorem ZlR {kvs : List (List Key × V)} (ok : HOk P w H h) (e : Rd H a (.dT kvs)) : kvs.length <= sizeLine /\ (a == sysModules) = false /\
 ∃ xs, KT H kvs xs /\ h.DictOfH (tupleKind (Zaz P w)) a xs := by
 obtain ⟨z, y, xs, r, o, es, ep, h1, h2, h3, h4, h5⟩ := (show Zah P w H h a (.dT kvs) from ZoN ok e)
 refine ⟨z, y, xs, r, o, es, ep, h1, h2, h3, h4, fun x hx => ?_, h5⟩
 have all : ∀ {l : List (List Key × V)} {m : List (List Key × Addr × Value)}, KT H l m -> ∀ x ∈ m, (tupleKind (Zaz P w)).is h x.1 x.2.1 := by
  intro l m q
  induction q with
  | nil => intro x hx; exact nomatch hx
  | @cons p q ps qs hq t ih =>
   intro x hx
   rcases List.mem_cons.mp hx with e | hx
   . subst e
     exact Zkk ok (by rw [<- hq.1]; exact hq.2.1)
   . exact ih x hx
 exact all r x hx
theorem ZsJ {kvs : List (List Key × V)} (ok : HOk P w H h) (e : H a = some (.dT kvs)) : kvs.length <= sizeLine /\ (a == sysModules) = false /\
 ∃ xs, KT H kvs xs /\ h.DictOfH (tupleKind (Zaz P w)) a xs := ZlR ok (.inl e)
end
def DGet (H : Hp) (a : Addr) (y : V) (r : Option V) : Prop :=
 (∃ kvs k, Rd H a (.dK kvs) /\ y = kV k /\ r = valV kvs k) \/ ∃ kvs k b, Rd H a (.dT kvs) /\ y = .ref b /\ H b = some (.tup (k.map kV)) /\ r = valV kvs k
def DPut (H : Hp) (a : Addr) (y v : V) (H' : Hp) : Prop :=
 (∃ kvs k, H a = some (.dK kvs) /\ y = kV k /\ kvs.length < sizeLine /\ H' = upd H a (.dK (putK kvs k v))) \/
 ∃ kvs k b, H a = some (.dT kvs) /\ y = .ref b /\ H b = some (.tup (k.map kV)) /\ kvs.length < sizeLine /\ H' = upd H a (.dT (putK kvs k v))
theorem DGet.t {H : Hp} {a b : Addr} {kvs : List (List Key × V)} {k : List Key} (e : H a = some (.dT kvs)) (eb : H b = some (.tup (k.map kV))) : DGet H a (.ref b) (valV kvs k) := .inr ⟨kvs, k, b, .inl e, rfl, eb, rfl⟩
theorem DPut.t {H : Hp} {a b : Addr} {kvs : List (List Key × V)} {k : List Key} {v : V} (e : H a = some (.dT kvs)) (eb : H b = some (.tup (k.map kV))) (hl : kvs.length < sizeLine) :
 DPut H a (.ref b) v (upd H a (.dT (putK kvs k v))) := .inr ⟨kvs, k, b, e, rfl, eb, hl, rfl⟩
section
variable {X : Cx} {pins : List (Addr × Obj)} {σ : St} {H : Hp} {s : Shared} {a : Addr} {y v : V} {u r : Value} {o : Option V} {A : Around} {E : Value -> Shared -> Prop}
theorem Inv.big (I : Inv X pins σ H s) : sysModules < s.heap.objs.size := by
 have h : mainGlobals < s.heap.objs.size := (I.mod.glob.keeps I.bk).lt
 exact Nat.lt_trans (by decide) h
theorem Zlr {h' : Heap} {t' : Nat} {ob : HO} (I : Inv X pins σ H s) (mu : Mut (H a)) (hs : Heap.SameBut a s.heap h') (he : ∃ q, h'.get? a = some q) (new : Zah X.prog X.w (upd H a ob) h' a ob) :
 Inv X pins σ (upd H a ob) { s with heap := h', toks := t' } :=
 I.write (x := a) (e := a) mu (.inl rfl) (fun b q hb z => (hs.2 b hb).trans z) he new
theorem ZqX {P : Program} {w : World} {H' : Hp} {h' : Heap} {kvs : List (Key × V)} {vs : List (Key × Value)} (z : kvs.length <= sizeLine) (hd : (a == sysModules) = false) (rel : KV kvs vs) (dd : h'.DictOf (Zaz P w) a vs) :
 Zah P w H' h' a (.dK kvs) := ⟨z, hd, vs, rel, dd⟩
theorem ZmJ {H' : Hp} {Q : Unit -> Shared -> Prop} (hu : A.units + 1 < cLine) (I : Inv X pins σ H s) (g : DPut H a y v H') (ry : RelV y u) (rv : RelV v r) (h : ∀ s', Inv X pins σ H' s' -> Q () s') :
 wpAny (model X.prog X.w) A (setItem (.ref a) u r) Q E s := by
 rcases g with ⟨kvs, k, e, ey, l, eH⟩ | ⟨kvs, k, b, e, ey, eb, l, eH⟩
 . subst ey eH
   obtain ⟨z, hd, vs, rel, dd⟩ := ZsI I.hok e
   have hz : vs.length <= sizeLine := by rw [<- rel.length]; exact z
   have hl : (putK kvs k v).length <= sizeLine := by have := ZhK kvs k v; omega
   refine wpAny_setItem_pairs (hsz := hz) (ZlQ ry) dd fun h' dd' hs => h _ ?_
   have he : ∃ q, h'.get? a = some q := let ⟨q, _, _, hq, _⟩ := dd'; ⟨q, hq⟩
   exact Zlr I (by rw [e]; exact True.intro) hs he (ZqX hl hd (rel.put k rv) dd')
 . subst ey eH
   cases (show u = Value.ref b from ry)
   obtain ⟨z, hd, xs, rel, dd⟩ := ZsJ I.hok e
   have hz : xs.length <= sizeLine := by rw [<- Paired.length rel]; exact z
   have hl : (putK kvs k v).length <= sizeLine := by have := ZhK kvs k v; omega
   refine wpAny_setItem_heap (hsz := hz) (tupleKind_room_in1 hu) (Zkk I.hok eb) dd fun h' dd' hs => h _ ?_
   obtain ⟨q, es, ep, hq, h2, h3, h4, _, h5⟩ := dd'
   refine Zlr I (by rw [e]; exact True.intro) hs ⟨q, hq⟩ ⟨hl, hd, _, (rel.put k eb rv).keeps fun c ys ec => ?_, q, es, ep, hq, h2, h3, h4, h5⟩
   rw [Zv (Zs3 ec e (fun z => nomatch z))]
   exact ec
end
section
variable {X : Cx} {pins : List (Addr × Obj)} {σ : St} {H : Hp} {s : Shared} {a : Addr} {kvs : List (Key × V)} {k : Key} {u : Value} {A : Around} {E : Value -> Shared -> Prop}
theorem ZsK {Q : Value -> Shared -> Prop} (I : Inv X pins σ H s) (e : Rd H a (.dK kvs)) (h : ∀ t s', Inv X pins σ H s' -> Q (.int kvs.length t) s') : wpAny (model X.prog X.w) A (call (.builtin "len") [.ref a]) Q E s := by
 obtain ⟨z, hd, vs, rel, dd⟩ := ZjS I.hok e
 refine call_len_dict hd dd (by rw [<- rel.length]; rw [sizeLine_eq] at z; omega) ?_
 rw [<- rel.length]
 exact h _ _ (I.tok _)
end
def ZsL (td ty tv : TE) : TS := fun D σ H => tv σ H fun v H1 => td σ H1 fun x H2 => ty σ H2 fun y H3 => ∃ a H4, x = .ref a /\ DPut H3 a y v H4 /\ D.nx σ H4
section
variable {X : Cx} {o i e value : Expr} {pos pos' tpos : Pos} {td ty tv : TE}
theorem Zpu (hu : X.A.units + 1 < cLine) (ho : PE X o td) (hi : PE X i ty) (hv : PE X value tv) (hs : swapsWith value (some (.Subscript o i pos')) pos.line X.env = pure false) :
 PS X (.Assign [.Subscript o i pos'] value pos) (ZsL td ty tv) := by
 intro pins s σ H D I h
 refine wpAny_Assign_Subscript (thn (hv pins s σ H _ I h) fun r s1 ⟨v, H1, I1, rv, q1⟩ => thn (ho pins s1 σ H1 _ I1 q1) fun u s2 ⟨x, H2, I2, rx, q2⟩ => thn (hi pins s2 σ H2 _ I2 q2) fun iv s3 ⟨y, H3, I3, ry, a, H4, ex, g, q3⟩ => ?_) hs
 subst ex
 obtain rfl : u = Value.ref a := rx
 exact ZmJ hu I3 g ry rv fun s4 I4 => ⟨σ, H4, I4, q3⟩
end
theorem ZnP {P : Program} {w : World} {H : Hp} (h : Heap) (hb : sysModules < h.objs.size) : Zah P w H (h.push { cls := .type "dict", data := .dict #[] }) h.objs.size (.dT []) :=
 ⟨Nat.zero_le _, beq_eq_false_iff_ne.mpr (Ne.symm (Nat.ne_of_lt hb)), [], .nil, _, #[], 0, Heap.get?_push_size _ rfl, ⟨rfl, rfl, rfl⟩, rfl, rfl, List.nodup_nil⟩
def ZqY : TE := fun _ H Q => ∀ p, H p = none -> Q (.ref p) (upd H p (.dT []))
section
variable {X : Cx} {pos : Pos}
theorem ZnQ : PE X (.Dict [] [] pos) ZqY := fun pins s σ H Q I h =>
 wpAny_Dict_empty ⟨.ref s.heap.objs.size, _, I.laid (a := s.heap.objs.size) (o := .dT []) (t' := s.toks) (fun _ _ q => Heap.get?_push_of_some _ q) (Nat.le_refl _) (ZnP s.heap I.big), rfl, h _ (I.hok.fresh (Nat.le_refl _))⟩
end
structure M1 (X : Cx) (o : Expr) (m : Str) (apos : Pos) (e : Expr) (cpos : Pos) : Prop where
 base : attributeBase o m X.env (eval o X.env) = eval o X.env
 few : ((backTo cpos (starEach [e] X.env)).all (fun x => !x.1) && (backToKw cpos (keywordEach [] X.env)).all (fun x => x.1.isSome)
  && decide (([e] : List Expr).length + ([] : List Keyword).length + (if ([] : List Keyword).isEmpty then 0 else 1) < 30)) = true
 line : (apos.endLine == cpos.line) = true
 trees : backTo cpos (starEach [e] X.env) = [(false, eval e X.env)]
structure M2 (X : Cx) (o : Expr) (m : Str) (apos : Pos) (e f : Expr) (cpos : Pos) : Prop where
 base : attributeBase o m X.env (eval o X.env) = eval o X.env
 few : ((backTo cpos (starEach [e, f] X.env)).all (fun x => !x.1) && (backToKw cpos (keywordEach [] X.env)).all (fun x => x.1.isSome)
  && decide (([e, f] : List Expr).length + ([] : List Keyword).length + (if ([] : List Keyword).isEmpty then 0 else 1) < 30)) = true
 line : (apos.endLine == cpos.line) = true
 trees : backTo cpos (starEach [e, f] X.env) = [(false, eval e X.env), (false, eval f X.env)]
def IsD (H : Hp) (a : Addr) : Prop := (∃ kvs, Rd H a (.dK kvs)) \/ ∃ kvs, Rd H a (.dT kvs)
theorem ZqZ {X : Cx} {pins : List (Addr × Obj)} {σ : St} {H : Hp} {s : Shared} {a : Addr} (I : Inv X pins σ H s) (d : IsD H a) :
 s.TypeIs (.ref a) "dict" /\ (∀ b, Value.ref a = .ref b -> ∃ ob, s.heap.get? b = some ob /\ ob.dict = none) /\ (a == sysModules) = false := by
 rcases d with ⟨kvs, e⟩ | ⟨kvs, e⟩
 . obtain ⟨_, hd, vs, _, dd⟩ := ZjS I.hok e
   refine ⟨dd.typeIs, fun b q => ?_, hd⟩
   cases q
   obtain ⟨ob, _, _, h1, h2, _⟩ := dd
   exact ⟨ob, h1, h2.2.1⟩
 . obtain ⟨_, hd, xs, _, dd⟩ := ZlR I.hok e
   refine ⟨dd.typeIs, fun b q => ?_, hd⟩
   cases q
   obtain ⟨ob, _, _, h1, h2, _⟩ := dd
   exact ⟨ob, h1, h2.2.1⟩
section
variable {X : Cx} {pins : List (Addr × Obj)} {σ : St} {H : Hp} {s : Shared} {a : Addr} {y d : V} {u r : Value} {o : Option V} {A : Around} {E : Value -> Shared -> Prop}
theorem Zra {Q : Value -> Shared -> Prop} (hu : A.units + 1 < cLine) (I : Inv X pins σ H s) (g : DGet H a y o) (ry : RelV y u) (h : ∀ w' s', Inv X pins σ H s' -> RelV (o.getD .non) w' -> Q w' s') :
 wpAny (model X.prog X.w) A (call (.builtin "dict.get") [.ref a, u]) Q E s := by
 rcases g with ⟨kvs, k, e, ey, l⟩ | ⟨kvs, k, b, e, ey, eb, l⟩
 . subst ey
   obtain ⟨z, hd, vs, rel, dd⟩ := ZjS I.hok e
   refine call_meetsIn PySem.F.slot_dict_get dd.typeIs PySem.F.entry_dict_get (PySem.F.args_dict_get_2 _ _) (meets_dict_get (Zaz X.prog X.w) a (ZlQ ry) hd) ⟨_, dd.mapOf, h _ _ (I.tok _) ?_⟩
   rw [l]
   exact (rel.val k).getD rfl
 . subst ey
   cases (show u = Value.ref b from ry)
   obtain ⟨z, hd, xs, rel, dd⟩ := ZlR I.hok e
   refine call_meetsIn PySem.F.slot_dict_get dd.typeIs PySem.F.entry_dict_get (PySem.F.args_dict_get_2 _ _) (meetsH_dict_get (tupleKind (Zaz X.prog X.w)) a b hd) ⟨tupleKind_room_in1 hu, k, xs, Zkk I.hok eb, dd, h _ _ (I.tok _) ?_⟩
   rw [l]
   exact (rel.val k).getD rfl
end
def Zrb (td ty : TE) : TE := fun σ H Q => td σ H fun x H1 => ∃ a, x = .ref a /\ IsD H1 a /\ ty σ H1 fun y H2 => ∃ o, DGet H2 a y o /\ Q (o.getD .non) H2
section
variable {X : Cx} {o e f : Expr} {apos cpos : Pos} {td ty tx : TE}
theorem ZnR (hu : X.A.units + 1 < cLine) (ho : PE X o td) (he : PE X e ty) (m : M1 X o "get" apos e cpos) : PE X (.Call (.Attribute o "get" apos) [e] [] cpos) (Zrb td ty) := by
 intro pins s σ H Q I h
 refine wpAny_Call_method m.base m.few m.line PySem.F.plainAttrs_dict PySem.F.slot_dict_get PySem.F.type_dict_get (thn (ho pins s σ H _ I h) fun u s1 ⟨x, H1, I1, rx, a, ex, d, q1⟩ => ?_)
 subst ex
 obtain rfl : u = Value.ref a := rx
 obtain ⟨t1, t2, _⟩ := ZqZ I1 d
 refine ⟨t1, t2, ?_⟩
 rw [m.trees]
 refine Calls.callWith_builtin rfl (Calls.evalArgs_plain (Calls.spliced_cons (thn (he pins s1 σ H1 _ I1 q1) fun iv s2 ⟨y, H2, I2, ry, ov, g, q2⟩ => Calls.spliced_nil ?_)))
 exact Zra hu I2 g ry fun w' s3 I3 rw' => ⟨_, H2, I3, rw', q2⟩
end
end L2
namespace Att
open PySem PySem.W PySem.Calls PyProof.Rows
theorem Zim {P : Params} {h : Heap} : ∀ (ns : List Int) (vs : List Value), WellAll P h vs (ns.map WData.int) -> IntsAre vs ns := by
 intro ns
 induction ns with
 | nil =>
  intro vs w
  rw [List.map_nil] at w
  cases w
  exact .nil
 | cons n ns ih =>
  intro vs w
  rw [List.map_cons] at w
  cases w with
  | cons a b =>
   cases a
   exact .cons _ _ (ih _ b)
theorem ZmK {l : OpenLaw} {n : Nat} (hn : l.most = some n) {P : Params} {h : Heap} {args : List WData} {vals : List Value}
 (hpre : l.row.toRowW.claim.pre args = true) (hwl : WellAll P h vals args) :
 ∃ a vs ns, vals = [Value.ref a] /\ args = [WData.list (ns.map WData.int)] /\ h.get? a = some { cls := .type "list", data := .seq vs.toArray } /\ IntsAre vs ns /\ ns.length <= n := by
 have hsh : WShape.hasAll [] args [.list .int] = true := (pre_splitW hpre).1
 have hc : l.pre.holds [] { args := args } = true := (pre_splitW hpre).2
 obtain ⟨d, r, rfl, h1, h2⟩ := hasAllW_cons hsh
 obtain rfl := hasAllW_nil h2
 obtain ⟨xs, rfl, h3⟩ := hasW_list h1
 obtain ⟨ns, rfl⟩ := items_int h3
 have hlen : ns.length <= n := by
  unfold OpenLaw.pre at hc
  have h4 : (WTm.not (.lt (.lit (.int (n : Int))) (.len (.arg 0)))).holds [] { args := [.list (ns.map .int)] } = true := by
   have h4 := (holds_andW hc).1
   rw [hn] at h4
   exact h4
  have h5 := condW_of h4 (w_not (w_lt w_lit (w_len_list (w_arg rfl))))
  rw [List.length_map] at h5
  refine Nat.le_of_not_lt fun q => ?_
  have q' : (n : Int) < ((ns.length : Nat) : Int) := by omega
  first
   | (rw [decide_eq_true q'] at h5; exact absurd h5 (by decide))
   | (simp at h5; omega)
 cases hwl with
 | cons w1 w2 =>
  cases w2
  cases w1 with
  | list ho hall => exact ⟨_, _, ns, rfl, rfl, ho, Zim ns _ hall, hlen⟩
theorem ZmL (l : OpenLaw) (args : List WData) : l.row.toRowW.claim.post args (.bool true) args = true :=
 postW_of (r := l.row.toRowW) (X := (true == true))
  (show WShape.has [] (.bool true) .bool = true by first | rfl | decide | simp [WShape.has, WShape.arms, WShape.armsAll])
  (show (WTm.eq .res (.lit (.bool true))).value [] { args := args, res := some (.bool true), after := args } = some (.bool (true == true)) from w_eq_bool (w_res rfl) w_lit) rfl
theorem ZkJ {l : OpenLaw} {n : Nat} {q : Program} {loose : List Str} {XP : (Str -> Option Value) -> Heap -> Prop} {YP : World -> Heap -> Prop} {d : DefRec}
 (hn : l.most = some n) (hdf : d.params.defaults = [])
 (call : ∀ (w : World) (s₀ s₁ : Shared) (mg mb : Str -> Option Value) (fa : Addr) (o : Obj) (pm cd doc : Value) (a : Addr) (vs : List Value) (ns : List Int),
  Ground q loose [] XP w s₀ mg mb s₁.heap -> YP w s₁.heap ->
  s₁.heap.get? fa = some o -> o.data = .func (docDef d.name d.params d.body d.scope pm cd doc) -> s₁.heap.CodeRec cd d.name -> mg d.name = some (.ref fa) ->
  s₁.heap.get? a = some { cls := .type "list", data := .seq vs.toArray } -> IntsAre vs ns -> ns.length <= n -> s₁.gens = #[] ->
  codeAny (model l.prog w) callerA (.call (.ref fa) ⟨[.ref a], []⟩) (fun r s' => r = .ok (.ret (.bool true)) /\ OldK s₁.heap s'.heap /\ s'.os = s₁.os /\ AllBare s'.gens) s₁) :
 WalkO q loose XP YP l.row.toRowW d [] (fun f vs => PySem.call f vs) := by
 intro w s₀ s₁ mg mb G Y fa o pm cd doc dV kV ho hd hcd hD hmg hg args vals as hpre hlay hrd hwl hlo
 obtain rfl : dV = .none := Dflts.none hD hdf
 obtain rfl : kV = .none := Dflts.noKw hD
 obtain ⟨a, vs, ns, rfl, rfl, hobj, hints, hlen⟩ := ZmK hn hpre hwl
 refine enter_call (codeAny_mono (call w s₀ s₁ mg mb fa o pm cd doc a vs ns G Y ho (fd_plain hd) hcd hmg hobj hints hlen hg) fun r s' hq => ?_)
 obtain ⟨rfl, h2, h3, h4⟩ := hq
 exact ⟨.inl ⟨.bool true, .bool true, [], rfl, fun _ => rfl, .bool true, ZmL l _, fun _ => ⟨List.Pairwise.nil, fun _ hm => (nomatch hm)⟩⟩, h2, h3, h4⟩
end Att
namespace L2
open PySem PySem.Spec PyProof.Rows
theorem ZeG : ∀ {vs : List Value} {ns : List Int}, IntsAre vs ns -> Vals (ns.map V.int) vs
 | _, _, .nil => .nil
 | _, _, .cons n t h => .cons ⟨t, rfl⟩ (ZeG h)
def Only (H : Hp) : Prop := ∀ b, H b = none \/ ∃ o xs, H b = some (.frz o (.lst xs))
theorem ZnS {P : Program} {w : World} {K : Fg} {mg mb : Str -> Option Value} {CX : CXT} {k : Nat} {fa a : Addr} {fd : FuncData} {x : Str} {sp : Sp} {s₁ : Shared} {vs : List Value} {ns : List Int}
 (KX : K.In s₁.heap) (hns : s₁.heap.Ns mainGlobals mg) (hb : s₁.heap.Ns builtinsNs mb) (hbb : ∀ x : Str, x ≠ "__name__" -> mb x = bootBuiltins x) (hlim : s₁.heap.NoLimit) (hg : s₁.gens = #[])
 (ha : s₁.heap.get? a = some { cls := .type "list", data := .seq vs.toArray }) (hi : IntsAre vs ns) (hl : ns.length <= sizeLine) (hr : Room k callerA)
 (F : ∀ base : Heap, K.In base -> base.Ns mainGlobals mg -> FnOk P w K mg base CX k fa fd [x] sp) (hbind : ∀ (s : Shared) (u : Value), BindsTo s fd ⟨[u], []⟩ [(x, u)])
 (hsp : ∀ H : Hp, Only H -> SqL K H a (ns.map V.int) -> sp [.ref a] H (fun v _ => v = .bl true) fun _ _ _ => False)
 (hCX : ∀ H e s', CX [] H s₁ (fun _ _ _ => False) e s' -> False) :
 codeAny (model P w) callerA (.call (.ref fa) ⟨[.ref a], []⟩) (fun r s' => r = .ok (.ret (.bool true)) /\ OldK s₁.heap s'.heap /\ s'.os = s₁.os /\ AllBare s'.gens) s₁ := by
 have rv := ZeG hi
 have lenV := hi.length
 have core : ∀ H : Hp, Only H -> SqL K H a (ns.map V.int) -> HOk P w H s₁.heap -> (∀ b, H b ≠ none -> b = a) -> (H a ≠ none -> K.lookup a = none) ->
  codeAny (model P w) callerA (.call (.ref fa) ⟨[.ref a], []⟩) (fun r s' => r = .ok (.ret (.bool true)) /\ OldK s₁.heap s'.heap /\ s'.os = s₁.os /\ AllBare s'.gens) s₁ := by
  intro H hO hS hok hA hK
  have base_of : ∀ {b : Addr} {o : Obj}, s₁.heap.get? b = some o -> H b = none -> (hidT s₁.heap H).get? b = some o := fun e n => ZnA e n
  have noA : ∀ {b : Addr} {o : Obj} {es : Array DictEntry} {ep : Nat}, s₁.heap.get? b = some o -> o.data = .dict es ep -> H b = none := fun {b o es ep} e d => by
   cases q : H b with
   | none => rfl
   | some u =>
    have e' : b = a := hA b (by rw [q]; simp)
    subst e'
    rw [ha] at e; cases e
    have d' : Data.seq vs.toArray _ = Data.dict es ep := d
    cases d'
  have nsK : ∀ {b : Addr} {m : Str -> Option Value}, s₁.heap.Ns b m -> (hidT s₁.heap H).Ns b m := fun {b m} ⟨o, es, ep, e, d, r⟩ => ⟨o, es, ep, base_of e (noA e d), d, r⟩
  have hKb : K.In (hidT s₁.heap H) := fun b o e => base_of (KX b o e) (by
   cases q : H b with
   | none => rfl
   | some u =>
    have e' : b = a := hA b (by rw [q]; simp)
    subst e'
    rw [hK (by rw [q]; simp)] at e; cases e)
  have hM : Mod K mg (hidT s₁.heap H) := ⟨hKb, nsK hns, ⟨mb, nsK hb, hbb⟩, let ⟨mc, h1, h2⟩ := hlim; ⟨mc, nsK h1, h2⟩⟩
  have e0 : Env0 P w K mg (hidT s₁.heap H) callerA [] s₁ H := ⟨rfl, hM, fun b o e => Zpc e, Nat.le_of_eq (Zmx _ _), trivial, fun b hb => absurd (show b ∈ ([] : List Addr) from hb) (by simp), hok, .of_eq hg⟩
  refine codeAny_mono ((F _ hKb (nsK hns)).run callerA [] s₁ H ⟨[.ref a], []⟩ [.ref a] [.ref a] _ _ hr e0 (hbind s₁ (.ref a)) (.cons rfl .nil) (hsp H hO hS)) fun r s' h => ?_
  cases r with
  | error e => exact (hCX H e s' h).elim
  | ok fl =>
   cases fl with
   | next => exact False.elim h
   | brk => exact False.elim h
   | cont => exact False.elim h
   | ret u =>
    obtain ⟨v, H', os, bare, un, hok', r', q⟩ := h
    have q' : v = .bl true := q
    subst q'
    obtain rfl : u = Value.bool true := r'
    refine ⟨rfl, OldK.of_keep fun b o e => ?_, os, bare⟩
    cases q : H b with
    | none => exact un.keep b o e q (by intro z; exact absurd (show b ∈ ([] : List Addr) from z) (by simp)) (by simp)
    | some u =>
     rcases hO b with z | ⟨ob, xs, z⟩
     . rw [q] at z; cases z
     . have z2 := un.frzs b ob _ z
       obtain ⟨e1, _⟩ := hok b _ z
       obtain ⟨e2, _⟩ := hok' b _ z2
       rw [e] at e1; cases e1
       exact e2
 cases hk : K.lookup a with
 | some o =>
  have e := KX a o hk
  rw [ha] at e
  cases e
  refine core (fun _ => none) (fun _ => .inl rfl) (.inr ⟨_, vs.toArray, _, hk, rfl, rfl, rfl, by rw [List.size_toArray, lenV]; exact hl, by simpa using rv⟩) (fun b u z => by have z' : (none : Option HO) = some u := z; cases z') (fun b z => absurd rfl z) fun z => absurd rfl z
 | none =>
  refine core (fun b => if b = a then some (.frz { cls := .type "list", data := .seq vs.toArray } (.lst (ns.map V.int))) else none) (fun b => ?_) (.inl (.inr ⟨{ cls := .type "list", data := .seq vs.toArray }, if_pos rfl⟩)) (fun b u z => ?_) (fun b z => ?_) fun _ => hk
  . by_cases hb : b = a
    . exact .inr ⟨_, _, if_pos hb⟩
    . exact .inl (if_neg hb)
  . by_cases hb : b = a
    . have z' := (if_pos hb).symm.trans z
      cases z'
      subst hb
      exact ⟨ha, by rw [List.length_map]; exact hl, vs, _, rv, ha⟩
    . have z' := (if_neg hb).symm.trans z
      cases z'
  . by_cases hb : b = a
    . exact hb
    . exact absurd (if_neg hb) z
end L2
namespace L2
open PySem PySem.Spec PyProof.Rows
theorem Zpv {l : PySem.W.OpenLaw} {n k : Nat} {q : Program} {loose : List Str} {XP : (Str -> Option Value) -> Heap -> Prop} {YP : World -> Heap -> Prop} {d : DefRec} {K : Params -> Fg} {CX : World -> CXT} {sp : World -> Sp} {x : Str}
 (hn : l.most = some n) (hn2 : n <= sizeLine) (hdf : d.params.defaults = []) (hr : Room k callerA)
 (hY : ∀ (w : World) (h : Heap), YP w h -> (K w.params).In h)
 (F : ∀ (w : World) (mg : Str -> Option Value) (fa : Addr) (h : Heap), (K w.params).In h -> h.Ns mainGlobals mg -> mg d.name = some (.ref fa) ->
  ∃ fd : FuncData, (∀ (s : Shared) (u : Value), BindsTo s fd ⟨[u], []⟩ [(x, u)]) /\
   ∀ base : Heap, (K w.params).In base -> base.Ns mainGlobals mg -> FnOk l.prog w (K w.params) mg base (CX w) k fa fd [x] (sp w))
 (hsp : ∀ (w : World) (H : Hp) (a : Addr) (ns : List Int), ns.length <= n -> Only H -> SqL (K w.params) H a (ns.map V.int) -> sp w [.ref a] H (fun v _ => v = .bl true) fun _ _ _ => False)
 (hCX : ∀ (w : World) (H : Hp) (s : Shared) (e : Value) (s' : Shared), CX w [] H s (fun _ _ _ => False) e s' -> False) :
 PySem.W.WalkO q loose XP YP l.row.toRowW d [] (fun f vs => PySem.call f vs) := by
 refine Att.ZkJ hn hdf fun w s₀ s₁ mg mb fa o pm cd doc a vs ns G Y ho hd hcd hmg hobj hints hlen hg => ?_
 have KX := hY w _ Y
 obtain ⟨fd, hb, hF⟩ := F w mg fa _ KX G.T.g hmg
 exact ZnS KX G.T.g G.T.b G.T.builtins G.T.nolimit hg hobj hints (Nat.le_trans hlen hn2) hr hF hb (fun H hO hS => hsp w H a ns hlen hO hS) fun H e s' => hCX w H s₁ e s'
theorem ZnT {l : PySem.W.OpenLaw} {n k : Nat} {q : Program} {loose : List Str} {XP : (Str -> Option Value) -> Heap -> Prop} {YP : World -> Heap -> Prop} {d : DefRec} {K : Params -> Fg} {CX : CXT} {sp : Fg -> Sp} {x : Str}
 (hn : l.most = some n) (hn2 : n <= sizeLine) (hdf : d.params.defaults = []) (hr : Room k callerA)
 (hY : ∀ (w : World) (h : Heap), YP w h -> (K w.params).In h)
 (F : ∀ (w : World) (mg : Str -> Option Value) (fa : Addr) (h : Heap), (K w.params).In h -> h.Ns mainGlobals mg -> mg d.name = some (.ref fa) ->
  ∃ fd : FuncData, (∀ (s : Shared) (u : Value), BindsTo s fd ⟨[u], []⟩ [(x, u)]) /\
   ∀ base : Heap, (K w.params).In base -> base.Ns mainGlobals mg -> FnOk l.prog w (K w.params) mg base CX k fa fd [x] (sp (K w.params)))
 (hsp : ∀ (K : Fg) (H : Hp) (a : Addr) (ns : List Int), ns.length <= n -> Only H -> SqL K H a (ns.map V.int) -> sp K [.ref a] H (fun v _ => v = .bl true) fun _ _ _ => False)
 (hCX : ∀ (H : Hp) (s : Shared) (e : Value) (s' : Shared), CX [] H s (fun _ _ _ => False) e s' -> False) :
 PySem.W.WalkO q loose XP YP l.row.toRowW d [] (fun f vs => PySem.call f vs) :=
 Zpv (K := K) (CX := fun _ => CX) (sp := fun w => sp (K w.params)) hn hn2 hdf hr hY F (fun w H a ns h1 h2 h3 => hsp (K w.params) H a ns h1 h2 h3) fun _ H s e s' => hCX H s e s'
end L2
namespace L2
open PySem PySem.Spec PyProof.Rows
noncomputable def Zcx (s : Stmt) (j : Nat) : Stmt := match s with
 | .ClassDef _ _ _ body _ _ _ _ _ _ _ => body.getD j (.Pass ⟨0, 0, 0, 0⟩)
 | _ => .Pass ⟨0, 0, 0, 0⟩
noncomputable def Zy (s : Stmt) : Arguments := match s with
 | .FunctionDef _ a _ _ _ _ _ _ _ _ => a
 | _ => { posonlyargs := [], args := [], vararg := none, kwonlyargs := [], kw_defaults := [], kwarg := none, defaults := [] }
noncomputable def Zt (s : Stmt) : List Stmt := match s with
 | .FunctionDef _ _ b _ _ _ _ _ _ _ => b
 | _ => []
noncomputable def Za (s : Stmt) : Scope := match s with
 | .FunctionDef _ _ _ _ _ _ sc _ _ _ => sc
 | _ => { kind := .function, names := [], isGenerator := false, isCoroutine := false }
noncomputable abbrev CX0 : CXT := fun _ _ _ _ _ _ => False
noncomputable abbrev E0 : XK := fun _ _ _ => False
theorem ZjT {X : Cx} : Passes CX0 X E0 := fun _ _ _ _ _ _ _ h => h.elim
structure Fun (K : Fg) (x qual : Str) (st : Stmt) (f : Addr) (fd : FuncData) : Prop where
 ex : ∃ (oc : Value) (od : Option Addr) (kV doc pm : Value) (an : Option Addr) (cdv ct : Value) (osl : Array (Option Value)),
  fd = PySem.W.fnOf x qual (Zy st) (Zt st) (Za st) .none kV doc pm an cdv ct /\ K.lookup f = some ⟨oc, od, .func fd, osl⟩ /\ PySem.W.codeIn K cdv qual = true
 kp : PySem.W.keepIn K (.ref f) = true
section
variable {P : Program} {w : World} {K : Fg} {mg : Str -> Option Value} {base : Heap}
theorem Fun.ok {x qual : Str} {st : Stmt} {f : Addr} {fd : FuncData} {N ps : List Str} {k : Nat} {sp : Sp} (F : Fun K x qual st f fd) (S : FnScope N ps (Za st)) (len : ∀ vs H Q E, sp vs H Q E -> vs.length = ps.length)
 (hbody : ∀ (cdv : Value) (A : Around) (outer : List Env) (s : Shared) (H : Hp) (vs : List V) (Q : VK) (E : XK), Room k (A.deeper (envOfC qual (Za st) s.heap.objs.size f cdv)) -> sp vs H Q E ->
  ∃ t, PSs (cxOf CX0 P w K mg base N qual (Za st) f cdv A outer s H E).nox (Zt st) t /\ t { nx := fun _ H' => Q .non H', rt := Q } (start N vs) H) : FnOk P w K mg base CX0 (k + 1) f fd ps sp := by
 obtain ⟨oc, od, kV, doc, pm, an, cdv, ct, osl, rfl, lk, hcd⟩ := F.ex
 refine ZsE lk hcd S len fun A outer s H vs Q E hr hsp => ?_
 obtain ⟨t, h, q⟩ := hbody cdv A outer s H vs Q E hr hsp
 exact ⟨t, h.nox, q⟩
theorem Fun.binds {x qual : Str} {st : Stmt} {f : Addr} {fd : FuncData} {ps : List Str} (F : Fun K x qual st f fd)
 (h : ∀ (kV doc pm : Value) (an : Option Addr) (cdv ct : Value) (us : List Value), us.length = ps.length -> bindArgs (PySem.W.fnOf x qual (Zy st) (Zt st) (Za st) .none kV doc pm an cdv ct) ⟨us, []⟩ = pure (ps.zip us)) : Binds K fd ps [] := by
 obtain ⟨oc, od, kV, doc, pm, an, cdv, ct, osl, rfl, lk, hcd⟩ := F.ex
 exact .all (h kV doc pm an cdv ct)
theorem ZJ {x qual : Str} {st : Stmt} {f : Addr} {oc : Value} {od an : Option Addr} {osl : Array (Option Value)} {kV doc pm cdv ct : Value} (l : K.lookup f = some ⟨oc, od, .func (PySem.W.fnOf x qual (Zy st) (Zt st) (Za st) .none kV doc pm an cdv ct), osl⟩)
 (c : PySem.W.codeIn K cdv qual = true) (k : PySem.W.keepIn K (.ref f) = true) : Fun K x qual st f (PySem.W.fnOf x qual (Zy st) (Zt st) (Za st) .none kV doc pm an cdv ct) := ⟨⟨oc, od, kV, doc, pm, an, cdv, ct, osl, rfl, l, c⟩, k⟩
end
def Same (H H' : Hp) : Prop := ∀ b o, H b = some o -> H' b = some o
theorem Same.refl (H : Hp) : Same H H := fun _ _ h => h
theorem Same.trans {H H1 H2 : Hp} (a : Same H H1) (b : Same H1 H2) : Same H H2 := fun c o h => b c o (a c o h)
theorem Same.seq {K : Fg} {H H' : Hp} {a : Addr} {xs : List V} (e : Same H H') (h : SqL K H a xs) : SqL K H' a xs := by
 rcases h with (h | ⟨o, h⟩) | h
 . exact .inl (.inl (e _ _ h))
 . exact .inl (.inr ⟨o, e _ _ h⟩)
 . exact .inr h
section
variable {X : Cx}
theorem ZmM : Zat X (.builtin "len") (fun xs H Q => ∃ a kvs, xs = [V.ref a] /\ H a = some (.dK kvs) /\ Q (.int kvs.length) H) := by
 intro pins s σ H xs us Q I r h
 obtain ⟨a, kvs, rfl, ha, q⟩ := h
 obtain ⟨u, rfl, ru⟩ := Zhm r
 cases ru
 exact ZsK I (.inl ha) fun t s' I' => ⟨.int kvs.length, H, I', ⟨t, rfl⟩, q⟩
end
end L2
namespace L2
open PySem PySem.Spec PyProof.Rows
noncomputable def Zrc (sc : Scope) (x : Str) : Bool := sc.names.lookup x == some .cell
theorem ZeH : ∀ (names : List (Str × NameKind)) (n : Nat) (acc : List (Str × Addr)), cellsFrom n names acc = cellsFrom n names [] ++ acc
 | [], _, _ => rfl
 | (x, k) :: r, n, acc => by
  unfold cellsFrom
  split
  . rw [ZeH r (n + 1) ((x, n) :: acc), ZeH r (n + 1) [(x, n)], List.append_assoc]; rfl
  . exact ZeH r n acc
theorem ZgM : ∀ (names : List (Str × NameKind)) (n : Nat) (x : Str) (c : Addr), (x, c) ∈ cellsFrom n names [] -> (x, .cell) ∈ names
 | [], _, _, _, h => by simp [cellsFrom] at h
 | (y, k) :: r, n, x, c, h => by
  unfold cellsFrom at h
  split at h
  . rename_i hk
    rw [ZeH] at h
    (rcases List.mem_append.mp h with h | h)
    . exact List.mem_cons_of_mem _ (ZgM r _ x c h)
    . have e := List.mem_singleton.mp h
      cases e
      rw [eq_of_beq hk]
      exact List.mem_cons_self
  . exact List.mem_cons_of_mem _ (ZgM r _ x c h)
theorem Zin : ∀ {names : List (Str × NameKind)} {x : Str} {k k' : NameKind}, (names.map (·.1)).Nodup -> names.lookup x = some k -> (x, k') ∈ names -> k = k'
 | [], _, _, _, _, hn, _ => by simp at hn
 | (y, kd) :: r, x, k, k', nd, h, hm => by
  (obtain ⟨n1, n2⟩ := List.nodup_cons.mp nd)
  rw [List.lookup_cons] at h
  cases hb : x == y with
  | true =>
   rw [hb] at h
   have e : kd = k := Option.some.inj h
   have hx := eq_of_beq hb
   subst hx
   rcases List.mem_cons.mp hm with q | q
   . cases q; exact e.symm
   . exact absurd (List.mem_map.mpr ⟨_, q, rfl⟩) n1
  | false =>
   rw [hb] at h
   rcases List.mem_cons.mp hm with q | q
   . cases q; simp at hb
   . exact Zin n2 h q
theorem ZdY {α : Type} (x : Str) : ∀ (l r : List (Str × α)), (l ++ r).lookup x = match l.lookup x with | some c => some c | none => r.lookup x
 | [], r => rfl
 | (y, c) :: l, r => by
  rw [List.cons_append, List.lookup_cons, List.lookup_cons]
  cases x == y with
  | true => rfl
  | false => exact ZdY x l r
noncomputable def cxC (X : Cx) (N' : List Str) (scope : Scope) (cl : List (Str × Addr)) (C : Addr) (s₀ : Shared) (H₀ : Hp) (ex : List Addr) : Cx where
 prog := X.prog
 w := X.w
 K := X.K
 mg := X.mg
 base := X.base
 A := X.A
 N := N'
 s₀ := s₀
 H₀ := H₀
 env := compEnvC scope cl C X.env
 outer := X.stack
 stack := X.stack
 ex := ex
 fn := fun x => Zrc scope x
 calm := X.calm
 pn := []
 xe := fun _ _ => False
theorem Zio {scope : Scope} {env : Env} (h : ∀ y ∈ scope.names, y.2 = .free -> ∃ c, env.cells.lookup y.1 = some c) :
 ∃ cl, closureFor scope env = pure cl /\ (∀ y c, cl.lookup y = some c -> env.cells.lookup y = some c) /\ ∀ y ∈ scope.names, y.2 = .free -> ∃ c, cl.lookup y.1 = some c := by
 have go : ∀ (names : List (Str × NameKind)) (acc : List (Str × Addr)), (∀ y ∈ names, y.2 = .free -> ∃ c, env.cells.lookup y.1 = some c) -> (∀ y c, acc.lookup y = some c -> env.cells.lookup y = some c) ->
  ∃ cl, (forIn names acc fun x r => if (x.2 == NameKind.free) = true then do let c <- cellOf env x.1; pure (ForInStep.yield ((x.1, c) :: r)) else pure (ForInStep.yield r) : Sem _) = pure cl /\
   (∀ y c, cl.lookup y = some c -> env.cells.lookup y = some c) /\ (∀ y c, acc.lookup y = some c -> ∃ c, cl.lookup y = some c) /\ ∀ y ∈ names, y.2 = .free -> ∃ c, cl.lookup y.1 = some c := by
  intro names
  induction names with
  | nil => intro acc _ h2; exact ⟨acc, rfl, h2, fun y c e => ⟨c, e⟩, fun y hy => nomatch hy⟩
  | cons z r ih =>
   intro acc h1 h2
   obtain ⟨n, k⟩ := z
   rw [List.forIn_cons]
   by_cases hk : k = .free
   . subst hk
     obtain ⟨c, hc⟩ := h1 (n, .free) List.mem_cons_self rfl
     obtain ⟨cl, e, a1, a2, a3⟩ := ih ((n, c) :: acc) (fun y hy => h1 y (List.mem_cons_of_mem _ hy)) (fun y d hd => by
      rw [List.lookup_cons] at hd
      cases hb : y == n with
      | true => rw [hb] at hd; simp only at hd; cases hd; rw [eq_of_beq hb]; exact hc
      | false => rw [hb] at hd; exact h2 y d hd)
     refine ⟨cl, ?_, a1, fun y d hd => ?_, fun y hy hf => ?_⟩
     . rw [<- e]
       have e1 : cellOf env n = pure c := by
        unfold cellOf
        rw [hc]
       simp only [beq_self_eq_true, if_true, e1, pure_bind]
     . by_cases hyn : y = n
       . exact a2 y c (by rw [hyn, List.lookup_cons, beq_self_eq_true])
       . exact a2 y d (by rw [List.lookup_cons, show (y == n) = false by simpa using hyn]; exact hd)
     . (rcases List.mem_cons.mp hy with rfl | hy)
       . exact a2 n c (by rw [List.lookup_cons, beq_self_eq_true])
       . exact a3 y hy hf
   . have hb : (k == NameKind.free) = false := by simpa using hk
     obtain ⟨cl, e, a1, a2, a3⟩ := ih acc (fun y hy => h1 y (List.mem_cons_of_mem _ hy)) h2
     refine ⟨cl, ?_, a1, a2, fun y hy hf => ?_⟩
     . rw [<- e]
       simp only [hb, Bool.false_eq_true, if_false, pure_bind]
     . (rcases List.mem_cons.mp hy with rfl | hy)
       . exact absurd hf hk
       . exact a3 y hy hf
 obtain ⟨cl, e, a1, _, a3⟩ := go scope.names [] h (fun y c e => nomatch e)
 refine ⟨cl, ?_, a1, a3⟩
 unfold closureFor
 simp only [] at e ⊢
 rw [e]
 rfl
theorem ZgN {env : Env} : ∀ {names : List (Str × NameKind)} {x : Str}, names.lookup x = some .free ->
 (names.map fun (n, k) => if (k == NameKind.free && env.scope.kind == .function && env.kindOf n == some .cell) then (n, NameKind.cell) else (n, k)).lookup x = some .cell \/
 (names.map fun (n, k) => if (k == NameKind.free && env.scope.kind == .function && env.kindOf n == some .cell) then (n, NameKind.cell) else (n, k)).lookup x = some .free
 | [], _, h => by simp at h
 | (n, k) :: r, x, h => by
  have ih := @ZgN env r x
  show List.lookup x ((if (k == NameKind.free && env.scope.kind == .function && env.kindOf n == some .cell) = true then (n, NameKind.cell) else (n, k)) :: _) = _ \/ List.lookup x ((if (k == NameKind.free && env.scope.kind == .function && env.kindOf n == some .cell) = true then (n, NameKind.cell) else (n, k)) :: _) = _
  cases hx : x == n with
  | true =>
   (simp only [List.lookup_cons, hx] at h)
   cases h
   by_cases hc : (NameKind.free == NameKind.free && env.scope.kind == .function && env.kindOf n == some .cell) = true
   . rw [if_pos hc]; left; simp only [List.lookup_cons, hx]
   . rw [if_neg hc]; right; simp only [List.lookup_cons, hx]
  | false =>
   (simp only [List.lookup_cons, hx] at h)
   (by_cases hc : (k == NameKind.free && env.scope.kind == .function && env.kindOf n == some .cell) = true)
   . (rw [if_pos hc]; simp only [List.lookup_cons, hx]; exact ih h)
   . (rw [if_neg hc]; simp only [List.lookup_cons, hx]; exact ih h)
noncomputable def ZcC (osc : Scope) (oN : List Str) (k : Nat) (js : List Nat) (N' : List Str) (scope : Scope) : Bool :=
 scope.kind == .function && decide (scope.names.map (·.1)).Nodup && scope.names.all (fun y => y.2 != .local || scope.names.lookup y.1 == some .local) &&
 scope.names.all (fun y => y.2 != .free || osc.names.lookup y.1 == some .cell || osc.names.lookup y.1 == some .free) &&
 N'.length == k + js.length && decide N'.Nodup &&
 (List.range js.length).all fun i => match js[i]? with
  | none => false
  | some j => match oN[j]? with
   | none => false
   | some y => N'[k + i]? == some y && scope.names.lookup y == some .free
structure CompScope (X : Cx) (k : Nat) (js : List Nat) (N' : List Str) (scope : Scope) : Prop where
 kind : scope.kind = .function
 ndn : (scope.names.map (·.1)).Nodup
 names : ∀ y ∈ scope.names, y.2 = .local -> scope.names.lookup y.1 = some .local
 free : ∀ y ∈ scope.names, y.2 = .free -> X.env.kindOf y.1 = some .cell \/ X.env.kindOf y.1 = some .free
 len : N'.length = k + js.length
 nd : N'.Nodup
 idx : ∀ i j : Nat, js[i]? = some j -> ∃ y, X.N[j]? = some y /\ N'[k + i]? = some y /\ scope.names.lookup y = some .free
theorem CompScope.of {X : Cx} {osc : Scope} {oN : List Str} {k : Nat} {js : List Nat} {N' : List Str} {scope : Scope} (h : ZcC osc oN k js N' scope = true) (e : X.env.scope = osc) (eN : X.N = oN) : CompScope X k js N' scope := by
 subst e eN
 unfold ZcC at h
 (simp only [Bool.and_eq_true] at h)
 obtain ⟨⟨⟨⟨⟨⟨h1, h2⟩, h3⟩, h4⟩, h5⟩, h6⟩, h7⟩ := h
 refine ⟨eq_of_beq h1, of_decide_eq_true h2, fun y hy hl => ?_, fun y hy hf => ?_, eq_of_beq h5, of_decide_eq_true h6, fun i j hj => ?_⟩
 . have q := List.all_eq_true.mp h3 y hy
   rw [hl] at q
   simpa using q
 . have q := List.all_eq_true.mp h4 y hy
   rw [hf] at q
   simp at q
   exact q
 . have hi : i < js.length := (List.getElem?_eq_some_iff.mp hj).1
   have q := List.all_eq_true.mp h7 i (List.mem_range.mpr hi)
   rw [hj] at q
   simp only at q
   cases hN : X.N[j]? with
   | none => rw [hN] at q; cases q
   | some y =>
    rw [hN] at q
    simp only [Bool.and_eq_true] at q
    exact ⟨y, rfl, eq_of_beq q.1, eq_of_beq q.2⟩
noncomputable def ZdZ (js : List Nat) (σ : St) : St := js.map fun j => (σ[j]?).join
noncomputable def Zdu (k : Nat) (js : List Nat) (σ : St) : St := List.replicate k none ++ ZdZ js σ
section
variable {X : Cx}
theorem ZnU {pins : List (Addr × Obj)} {σ : St} {H : Hp} {s : Shared} {k : Nat} {js : List Nat} {N' : List Str} {scope : Scope} {cl : List (Str × Addr)} {fp : List Addr} {h1 : Heap} {tk : Nat}
 (I : Inv X pins σ H s) (S : CompScope X k js N' scope) (hf : ∀ b ∈ fp, FpOk X pins H b) (hfo : ∀ b ∈ fp, b < s.heap.objs.size)
 (c1 : ∀ y c, cl.lookup y = some c -> X.env.cells.lookup y = some c) (c2 : ∀ y ∈ scope.names, y.2 = .free -> ∃ c, cl.lookup y.1 = some c)
 (ns : ∃ m, h1.Ns (s.heap.objs.size + 1) m) (kp : ∀ b o, s.heap.get? b = some o -> h1.get? b = some o) (hD : h1.get? s.heap.objs.size = some { cls := .type "list", data := .seq #[] }) (ck : CellsOk h1 (s.heap.objs.size + 2) (cellsFrom (s.heap.objs.size + 2) scope.names [])) :
 Inv (cxC X N' scope (cellsFrom (s.heap.objs.size + 2) scope.names cl) (s.heap.objs.size + 1) s H fp) [] (Zdu k js σ) (upd H s.heap.objs.size (.lst [])) { s with heap := h1, toks := tk } := by
 have hfr : H s.heap.objs.size = none := I.hok.fresh (Nat.le_refl _)
 have hfr1 : H (s.heap.objs.size + 1) = none := I.hok.fresh (Nat.le_succ _)
 have cells : ∀ y c, cl.lookup y = some c -> c < s.heap.objs.size := fun y c e => by
  obtain ⟨v, q⟩ := I.cell y c (c1 y c e)
  exact q.lt
 have exb : ∀ b ∈ fp, ∀ o, X.base.get? b = some o -> False := fun b hb o e => by
  rcases (hf b hb).2.2.2.1 with z | z
  . exact I.ok.noex b o e z
  . exact absurd (Nat.lt_of_lt_of_le (Heap.lt_size (I.ok.bs b o e).1) z) (Nat.lt_irrefl _)
 have exs : ∀ b ∈ fp, b ∉ frs X.stack := fun b hb z => by
  rcases List.mem_cons.mp (I.stkSub b z) with q | q
  . exact (hf b hb).2.1 q
  . exact (hf b hb).2.2.1 q
 obtain ⟨m1, hn1⟩ := ns
 rw [ZeH]
 generalize hL : cellsFrom (s.heap.objs.size + 2) scope.names [] = L at ck
 have memL : ∀ x c, (x, c) ∈ L -> scope.names.lookup x ≠ some .free := fun x c h q => by
  have := Zin S.ndn q (ZgM _ _ _ _ (by rw [hL]; exact h))
  cases this
 have cel : ∀ x c, (L ++ cl).lookup x = some c -> ((x, c) ∈ L /\ s.heap.objs.size + 2 <= c /\ h1.IsCell c none) \/ (cl.lookup x = some c /\ L.lookup x = none) := fun x c e => by
  rw [ZdY] at e
  cases q : L.lookup x with
  | some c' =>
   rw [q] at e
   have e' : c' = c := Option.some.inj e
   subst e'
   have hm := PySem.mem_of_lookup q
   exact .inl ⟨hm, (ck.empty _ _ hm).2, (ck.empty _ _ hm).1⟩
  | none => rw [q] at e; exact .inr ⟨e, rfl⟩
 have freeL : ∀ x, scope.names.lookup x = some .free -> (L ++ cl).lookup x = cl.lookup x := fun x hx => by
  rw [ZdY]
  cases q : L.lookup x with
  | some c => exact absurd hx (memL x c (PySem.mem_of_lookup q))
  | none => rfl
 have upk : ∀ y, scope.names.lookup y = some .free -> ((cxC X N' scope (L ++ cl) (s.heap.objs.size + 1) s H fp).env.kindOf y = some .cell \/ (cxC X N' scope (L ++ cl) (s.heap.objs.size + 1) s H fp).env.kindOf y = some .free) := fun y hy => ZgN hy
 have memf : ∀ y, scope.names.lookup y = some .free -> ∃ c, cl.lookup y = some c := fun y hy => c2 (y, .free) (PySem.mem_of_lookup hy) rfl
 have back : ∀ y, ((cxC X N' scope (L ++ cl) (s.heap.objs.size + 1) s H fp).env.kindOf y = some .cell \/ (cxC X N' scope (L ++ cl) (s.heap.objs.size + 1) s H fp).env.kindOf y = some .free) -> scope.names.lookup y = some .free \/ scope.names.lookup y = some .cell := by
  intro y hy
  have key : ∀ names : List (Str × NameKind),
   ((names.map fun (n, k) => if (k == NameKind.free && X.env.scope.kind == .function && X.env.kindOf n == some .cell) then (n, NameKind.cell) else (n, k)).lookup y = some .cell \/
   (names.map fun (n, k) => if (k == NameKind.free && X.env.scope.kind == .function && X.env.kindOf n == some .cell) then (n, NameKind.cell) else (n, k)).lookup y = some .free) -> names.lookup y = some .free \/ names.lookup y = some .cell := by
   intro names
   induction names with
   | nil => intro h; simp at h
   | cons z r ih =>
    intro h
    obtain ⟨n, kd⟩ := z
    have h' : List.lookup y ((if (kd == NameKind.free && X.env.scope.kind == .function && X.env.kindOf n == some .cell) = true then (n, NameKind.cell) else (n, kd)) :: r.map _) = _ \/
     List.lookup y ((if (kd == NameKind.free && X.env.scope.kind == .function && X.env.kindOf n == some .cell) = true then (n, NameKind.cell) else (n, kd)) :: r.map _) = _ := h
    rw [List.lookup_cons]
    cases hx : y == n with
    | true =>
     by_cases hc : (kd == NameKind.free && X.env.scope.kind == .function && X.env.kindOf n == some .cell) = true
     . have : (kd == NameKind.free) = true := by
        (simp only [Bool.and_eq_true] at hc)
        exact hc.1.1
       rw [eq_of_beq this]
       exact .inl rfl
     . rw [if_neg hc] at h'
       simp only [List.lookup_cons, hx] at h'
       rcases h' with q | q
       . exact .inr q
       . exact .inl q
    | false =>
     simp only
     by_cases hc : (kd == NameKind.free && X.env.scope.kind == .function && X.env.kindOf n == some .cell) = true
     . rw [if_pos hc] at h'
       simp only [List.lookup_cons, hx] at h'
       exact ih h'
     . rw [if_neg hc] at h'
       simp only [List.lookup_cons, hx] at h'
       exact ih h'
  exact key scope.names hy
 have hasL : ∀ y, ∀ c, cl.lookup y = some c -> ∃ c, (L ++ cl).lookup y = some c := fun y c e => by
  rw [ZdY]
  cases q : L.lookup y with
  | some c' => exact ⟨c', rfl⟩
  | none => exact ⟨c, e⟩
 refine ⟨⟨I.mod, S.kind, I.ok.glob, I.ok.blt, Nat.le_succ _, fun x y c e1 e2 => ?_, fun y hy => ?_, fun x c hx e => ?_, I.ok.hd, I.ok.frames, .inl rfl,
  fun b hb => ⟨Nat.ne_of_lt (Nat.lt_succ_of_lt (hfo b hb)), fun x c e => ?_⟩, I.bs, Nat.le_trans I.ok.bsz I.sz, fun b o e hb => exb b hb o e, exs, I.stack, I.stkFree⟩,
  rfl, I.bare, Un.laid kp (Nat.le_refl _) hfr, ⟨m1, hn1, fun i x v e1 e2 e3 => ?_⟩, fun x c e => ?_, ?_, fun x c e => ?_, fun p hp => (nomatch hp), I.hok.laid kp (Nat.le_refl _) ⟨by simp, [], 0, .nil, hD⟩, ?_⟩
 . rcases cel x c e1 with ⟨h1', h2', _⟩ | ⟨h1', _⟩ <;> rcases cel y c e2 with ⟨g1', g2', _⟩ | ⟨g1', _⟩
   . exact name_of_addr ck.apart h1' g1'
   . exact absurd (Nat.lt_of_lt_of_le (cells y c g1') (Nat.le_trans (Nat.le_add_right _ _) h2')) (Nat.lt_irrefl _)
   . exact absurd (Nat.lt_of_lt_of_le (cells x c h1') (Nat.le_trans (Nat.le_add_right _ _) g2')) (Nat.lt_irrefl _)
   . exact I.ok.inj x y c (c1 x c h1') (c1 y c g1')
 . rcases back y hy with q | q
   . obtain ⟨c, hc⟩ := memf y q
     exact hasL y c hc
   . obtain ⟨c, hc⟩ := Zgl (sc := scope) (n := s.heap.objs.size + 2) q
     rw [hL] at hc
     refine ⟨c, ?_⟩
     show (L ++ cl).lookup y = some c
     rw [ZdY, hc]
 . have q : scope.names.lookup x = some .cell := eq_of_beq hx
   obtain ⟨c', hc⟩ := Zgl (sc := scope) (n := s.heap.objs.size + 2) q
   rw [hL] at hc
   rcases cel x c e with ⟨_, h2, _⟩ | ⟨_, h2⟩
   . exact Nat.le_trans (Nat.le_add_right _ _) h2
   . rw [hc] at h2; cases h2
 . rcases cel x c e with ⟨_, h2, _⟩ | ⟨h2, _⟩
   . exact fun z => absurd (Nat.lt_of_lt_of_le (hfo b hb) (Nat.le_trans (Nat.le_add_right _ _) h2)) (by rw [z]; exact Nat.lt_irrefl _)
   . exact (hf b hb).2.2.2.2.1 x c (c1 x c h2)
 . -- a name's value within the block
   have hi : ¬ i < k := fun hi => by
    unfold Zdu at e2
    rw [List.getElem?_append_left (by simpa using hi), List.getElem?_replicate, if_pos hi] at e2
    cases e2
   have hik : k <= i := Nat.le_of_not_lt hi
   have e2' : (ZdZ js σ)[i - k]? = some (some v) := by
    unfold Zdu at e2
    rw [List.getElem?_append_right (by simpa using hik), List.length_replicate] at e2
    exact e2
   unfold ZdZ at e2'
   rw [List.getElem?_map] at e2'
   cases hj : js[i - k]? with
   | none => rw [hj] at e2'; cases e2'
   | some j =>
    rw [hj] at e2'
    have e4 : (σ[j]?).join = some v := Option.some.inj e2'
    obtain ⟨y, n1, n2, n3⟩ := S.idx (i - k) j hj
    rw [Nat.add_sub_cancel' hik] at n2
    have e1' : N'[i]? = some x := e1
    rw [e1'] at n2
    obtain rfl : x = y := Option.some.inj n2
    have e5 : σ[j]? = some (some v) := by
     cases q : σ[j]? with
     | none => rw [q] at e4; cases e4
     | some o => rw [q] at e4; exact congrArg some e4
    obtain ⟨m, hn, hl⟩ := I.loc
    have hk := S.free (x, .free) (PySem.mem_of_lookup n3) rfl
    have hv : Vis X.env.scope x := .inr hk
    obtain ⟨u, r, l⟩ := hl j x v n1 e5 hv
    refine ⟨u, r, .inr ⟨upk x n3, ?_⟩⟩
    rcases l with ⟨q, _⟩ | ⟨_, c, hc, hcell⟩
    . rcases hk with z | z <;> (rw [show X.env.kindOf x = some NameKind.local from q] at z; cases z)
    . obtain ⟨c', hc'⟩ := memf x n3
      have : c' = c := Option.some.inj ((c1 x c' hc').symm.trans hc)
      subst this
      obtain ⟨o, ho, hd⟩ := hcell
      exact ⟨c', (freeL x n3).trans hc', o, kp _ _ ho, hd⟩
 . rcases cel x c e with ⟨_, _, h3⟩ | ⟨h2, _⟩
   . exact ⟨_, h3⟩
   . obtain ⟨v, o, ho, hd⟩ := I.cell x c (c1 x c h2)
     exact ⟨v, o, kp _ _ ho, hd⟩
 . show upd H s.heap.objs.size (.lst []) (s.heap.objs.size + 1) = none
   rw [Zv (Nat.succ_ne_self _)]
   exact hfr1
 . show upd H s.heap.objs.size (.lst []) c = none
   rcases cel x c e with ⟨_, h2, _⟩ | ⟨h2, _⟩
   . rw [Zv (fun z : c = s.heap.objs.size => Nat.not_succ_le_self s.heap.objs.size (Nat.le_trans (Nat.le_succ _) (by rw [z] at h2; exact h2)))]
     exact I.hok.fresh (Nat.le_trans (Nat.le_add_right _ _) h2)
   . rw [Zv (Nat.ne_of_lt (cells x c h2))]
     exact I.freeC x c (c1 x c h2)
 . show (Zdu k js σ).length = N'.length
   unfold Zdu ZdZ
   rw [List.length_append, List.length_replicate, List.length_map, S.len]
def PIf (X : Cx) (ifs : List Expr) (t : TT) : Prop :=
 ∀ (pins : List (Addr × Obj)) (s : Shared) (σ : St) (H : Hp) (Q : Bool -> Hp -> Prop), Inv X pins σ H s -> t σ H Q ->
  wpAny (model X.prog X.w) X.A (forIn ifs true fun c r => if r = true then do let ok <- isTrue c X.env (eval c X.env); pure (ForInStep.yield ok) else pure (ForInStep.yield r)) (TP X pins σ Q) X.xe s
def tIf0 : TT := fun _ H Q => Q true H
theorem Zpw : PIf X [] tIf0 := fun _ _ _ H _ I h => wpAny_tests_nil ⟨H, I, h⟩
theorem Zpx {c : Expr} {t : TT} (h : PT X c t) : PIf X [c] t := fun pins s σ H Q I q => wpAny_tests_one (h pins s σ H Q I q)
def ZlS (J : It) (g : TG) (tif : TT) (te : TE) (D : Addr) (Q : VK) (W : Nat -> Nat -> St -> List V -> Hp -> Prop) : Prop :=
 ∀ i m σ ys H, W i m σ ys H -> H D = some (.lst ys) -> (J.stop i H /\ Q (.ref D) H) \/ (J.go i H /\ ∀ x H', J.yld i H x H' -> g x σ H' fun σ2 H2 => tif σ2 H2 fun b H3 =>
  if b = true then te σ2 H3 fun y H4 => H4 D = some (.lst ys) /\ ys.length < sizeLine /\ ∃ m', m' < m /\ W (i + 1) m' σ2 (ys ++ [y]) (upd H4 D (.lst (ys ++ [y])))
  else H3 D = some (.lst ys) /\ ∃ m', m' < m /\ W (i + 1) m' σ2 ys H3)
theorem ZmN {elt tg iter : Expr} {ifs : List Expr} {scope : Scope} {pos : Pos} {it D : Addr} {J : It} {fp : List Addr} {tn : Nat -> Heap -> Prop} {g : TG} {tif : TT} {te : TE} {Q : VK} {R : Result -> Shared -> Prop}
 (hx : ∀ e s', X.xe e s' -> False) (hc : X.calm = true) (T : Turn X.prog X.w X.K tg J fp it tn) (hg : PG X tg g) (hif : PIf X ifs tif) (he : PE X elt te)
 (stat : ∀ {H' : Hp}, (∀ b ∈ fp, H' b = none) -> ∀ b ∈ fp, FpOk X [] H' b)
 {W : Nat -> Nat -> St -> List V -> Hp -> Prop} (turn : ZlS J g tif te D Q W)
 (hR : ∀ σ' H' s', Inv X [] σ' H' s' -> Q (.ref D) H' -> R (.ok .next) s')
 {σ : St} {H : Hp} {s : Shared} {m : Nat} (I : Inv X [] σ H s) (st : tn 0 s.heap) (fr : ∀ b ∈ fp, H b = none) (hD : H D = some (.lst [])) (w0 : W 0 m σ [] H) :
 codeAny (model X.prog X.w) X.A (.compLoop (.ListComp elt [⟨tg, iter, ifs, 0⟩] scope pos) 0 (.ref it) (.ref D) X.env) R s := by
 refine codeAny_loop rfl (fun n s' => ∃ i ys σ' H', Inv X [] σ' H' s' /\ tn i s'.heap /\ (∀ b ∈ fp, H' b = none) /\ H' D = some (.lst ys) /\ W i n σ' ys H') (fun n s3 hI => ?_) m ⟨0, [], σ, H, I, st, fr, hD, w0⟩
 obtain ⟨i, ys, σ3, H3, I3, st3, fr3, d3, w3⟩ := hI
 show wpAny _ X.A ((compTurn (.ListComp elt [⟨tg, iter, ifs, 0⟩] scope pos) 0 (.ref it) (.ref D) X.env).onRaise (fun x => do noteFrame x X.env; theTreesLotGoes x)) _ _ s3
 refine wpAny_noted ?_
 rw [compTurn_list]
 (refine wpAny_bind (wpAny_standAt (wpAny_bind ?_)))
 have sub : ∀ {α : Type} {t : Sem α} {P : α -> Shared -> Prop} {E' : Value -> Shared -> Prop} {s : Shared}, wpAny (model X.prog X.w) X.A t P X.xe s -> wpAny (model X.prog X.w) X.A t P E' s := fun h => wpAny_mono h (fun _ _ q => q) fun e s' q => (hx e s' q).elim
 rcases turn i n σ3 ys H3 w3 d3 with ⟨stop, q⟩ | ⟨go, step⟩
 . refine sub (thn (T.done X rfl rfl rfl hc i [] s3 σ3 H3 X.xe I3 (stat fr3) st3 stop) fun r s4 ⟨hr, I4⟩ => ?_)
   subst hr
   exact wpAny_pure (hR σ3 H3 s4 I4 q)
 . refine sub (thn (T.item X rfl rfl rfl hc i [] s3 σ3 H3 X.xe I3 (stat fr3) st3 go) fun r s4 ⟨u, hr, h4⟩ => ?_)
   subst hr
   refine wpAny_bind (sub (thn h4 fun _ s5 ⟨x, H5, I5, r5, y5, st5, fr5⟩ => ?_))
   have I5' := I5.pinned (stat fr5) (T.obj _ _ st5)
   refine wpAny_bind (sub (thn (hg _ s5 σ3 H5 x u _ I5' r5 (step x H5 y5)) fun _ s6 ⟨σ6, H6, I6, q6⟩ => ?_))
   have again : ∀ {s7 : Shared} {H7 : Hp} {ys7 : List V}, Inv X ([] ++ ZgI fp s5.heap) σ6 H7 s7 -> H7 D = some (.lst ys7) -> (∃ m', m' < n /\ W (i + 1) m' σ6 ys7 H7) ->
    ∃ m, m < n /\ ∃ i ys σ' H', Inv X [] σ' H' s7 /\ tn i s7.heap /\ (∀ b ∈ fp, H' b = none) /\ H' D = some (.lst ys) /\ W i m σ' ys H' := fun {s7 H7 ys7} I7 d7 w7 => by
    obtain ⟨m', hm, w7⟩ := w7
    refine ⟨m', hm, i + 1, ys7, σ6, H7, I7.unpinned, T.keep _ _ _ st5 fun b hb o e => (I7.pin (b, o) (List.mem_append_right _ (List.mem_append_right _ (Zfj hb e)))).1, fun b hb => ?_, d7, w7⟩
    obtain ⟨o, e, d⟩ := T.obj _ _ st5 b hb
    exact (I7.pin (b, o) (List.mem_append_right _ (List.mem_append_right _ (Zfj hb e)))).2.1
   refine wpAny_bind (sub (thn (hif _ s6 σ6 H6 _ I6 q6) fun ok s7 ⟨H7, I7, q7⟩ => ?_))
   cases ok with
   | false =>
    rw [if_neg Bool.false_ne_true] at q7
    exact wpAny_pure ⟨rfl, again I7 q7.1 q7.2⟩
   | true =>
    rw [if_pos rfl] at q7
    refine wpAny_bind (wpAny_bind (sub (thn (he _ s7 σ6 H7 _ I7 q7) fun y s8 ⟨v, H8, I8, r8, d8, z8, w8⟩ => ?_)))
    have ap := Zjx (X := X) _ s8 σ6 H8 (.ref D) [v] (.ref D) [y] (fun _ H9 => H9 = upd H8 D (.lst (ys ++ [v]))) I8 rfl (.cons r8 .nil) ⟨D, ys, v, rfl, rfl, d8, z8, rfl⟩
    refine wpAny_bind (sub (thn ap fun _ s9 ⟨_, H9, I9, _, e9⟩ => ?_))
    subst e9
    exact wpAny_pure (wpAny_pure ⟨rfl, again I9 Zr w8⟩)
def ZjU (k : Nat) (js : List Nat) (wi : TI) (g : TG) (tif : TT) (te : TE) : TE := fun σ H Q => wi σ H fun J H1 => ∀ D, H1 D = none -> ∃ W : Nat -> Nat -> St -> List V -> Hp -> Prop,
 (∃ m, W 0 m (Zdu k js σ) [] (upd H1 D (.lst []))) /\ ZlS J g tif te D Q W
theorem ZkK {M : Model} {A : Around} {E : Value -> Shared -> Prop} {s : Shared} {scope : Scope} {globals : Addr} {cl : List (Str × Addr)} {qual : Str} {outer : Env} {Q : Env -> Shared -> Prop}
 (h : ∀ h', (∃ m, h'.Ns s.heap.objs.size m) -> (∀ b o, s.heap.get? b = some o -> h'.get? b = some o) -> CellsOk h' (s.heap.objs.size + 1) (cellsFrom (s.heap.objs.size + 1) scope.names []) ->
  Q (newEnv scope s.heap.objs.size globals (cellsFrom (s.heap.objs.size + 1) scope.names cl) qual none .none (some outer) builtinsNs) { s with heap := h' }) :
 wpAny M A (newFunctionEnv scope globals cl [] qual none .none (some outer)) Q E s := by
 (simp only [newFunctionEnv, Option.isSome_some, if_true])
 (refine wpAny_bind (wpAny_alloc ?_))
 (refine wpAny_bind (wpAny_layCells _ (fun name kind cells => by cases hkc : kind == NameKind.cell <;> simp [hkc]) _ _ _ _ ?_))
 have ok := cellsFrom_ok scope.names (s.heap.push { cls := .type "dict", data := .dict #[] }) (s.heap.objs.size + 1) [] ⟨fun _ _ hm => (nomatch hm), List.Pairwise.nil⟩ (by rw [Heap.size_push]; exact Nat.le_refl _)
 rw [Heap.size_push] at ok
 rw [show ({ s with heap := s.heap.push { cls := .type "dict", data := .dict #[] } } : Shared).heap.objs.size = s.heap.objs.size + 1 from Heap.size_push ..]
 refine wpAny_bind ?_
 rw [List.forIn_nil]
 exact wpAny_pure (wpAny_pure (h _ ⟨_, (Heap.Ns.new s.heap (.type "dict")).keeps (pushCells_keeps _ _)⟩ (fun b o e => pushCells_keeps _ _ b o (Heap.get?_push_of_some _ e)) ok))
theorem Zip {elt tg iter : Expr} {ifs : List Expr} {scope : Scope} {pos : Pos} {k : Nat} {js : List Nat} {N' : List Str} {J : It} {fp : List Addr} {tn : Nat -> Heap -> Prop} {it : Addr} {g : TG} {tif : TT} {te : TE} {Q : VK} {E : Value -> Shared -> Prop}
 {pins : List (Addr × Obj)} {s : Shared} {σ : St} {H : Hp} {cl : List (Str × Addr)} {RR : Value -> Addr -> Result -> Shared -> Prop}
 (hc : X.calm = true) (S : CompScope X k js N' scope) (T : Turn X.prog X.w X.K tg J fp it tn) (st : tn 0 s.heap) (hf : ∀ b ∈ fp, FpOk X pins H b)
 (c1 : ∀ y c, cl.lookup y = some c -> X.env.cells.lookup y = some c) (c2 : ∀ y ∈ scope.names, y.2 = .free -> ∃ c, cl.lookup y.1 = some c)
 (hin : ∀ (cl : List (Str × Addr)) (C : Addr) (s₀ : Shared) (H₀ : Hp) (ex : List Addr), PG (cxC X N' scope cl C s₀ H₀ ex) tg g /\ PIf (cxC X N' scope cl C s₀ H₀ ex) ifs tif /\ PE (cxC X N' scope cl C s₀ H₀ ex) elt te)
 (I : Inv X pins σ H s) (q : ∀ D, H D = none -> ∃ W : Nat -> Nat -> St -> List V -> Hp -> Prop, (∃ m, W 0 m (Zdu k js σ) [] (upd H D (.lst []))) /\ ZlS J g tif te D Q W)
 (hRR : ∀ (D C : Addr) (s' : Shared) (H' : Hp), s.heap.get? C = none -> (∃ m, s'.heap.Ns C m) -> Inv X pins σ H' s' -> FpOk X pins H' C -> Q (.ref D) H' -> RR (.ref D) C (.ok .next) s') :
 wpAny (model X.prog X.w) X.A (newList []) (fun acc s₃ => wpAny (model X.prog X.w) X.A (newFunctionEnv scope X.env.globals cl [] X.env.qual none .none (some X.env)) (fun cenv s₄ =>
  codeAny (model X.prog X.w) X.A (.compStart (.ListComp elt [⟨tg, iter, ifs, 0⟩] scope pos) 0 (.ref it) acc { cenv with scope := relabel scope X.env }) (RR acc cenv.locals) s₄) E s₃) E s := by
 refine wpAny_newObj_type (ZkK fun h₁ hns₁ hkp₁ hck₁ => ?_)
 dsimp only at hns₁ hkp₁ hck₁ ⊢
 generalize hH2 : s.heap.push { cls := .type "list", dict := none, data := .seq ([] : List Value).toArray } = H2 at hns₁ hkp₁ hck₁ ⊢
 have hC : H2.objs.size = s.heap.objs.size + 1 := by rw [<- hH2, Heap.size_push]
 rw [hC] at hns₁ hck₁ ⊢
 have kp : ∀ b o, s.heap.get? b = some o -> h₁.get? b = some o := fun b o e => hkp₁ b o (hH2 ▸ Heap.get?_push_of_some _ e)
 have hD : h₁.get? s.heap.objs.size = some { cls := .type "list", data := .seq #[] } := hkp₁ _ _ (hH2 ▸ Heap.get?_push_size _ rfl)
 have hfo : ∀ b ∈ fp, b < s.heap.objs.size := fun b hb => by obtain ⟨o, e, _⟩ := T.obj _ _ st b hb; exact Heap.lt_size e
 obtain ⟨W, ⟨m0, w0⟩, turn⟩ := q s.heap.objs.size (I.hok.fresh (Nat.le_refl _))
 obtain ⟨gG, gI, gE⟩ := hin (cellsFrom (s.heap.objs.size + 2) scope.names cl) (s.heap.objs.size + 1) s H fp
 have fresh1 : s.heap.get? (s.heap.objs.size + 1) = none := by
  cases e : s.heap.get? (s.heap.objs.size + 1) with
  | none => rfl
  | some o => exact absurd (Heap.lt_size e) (Nat.not_lt.mpr (Nat.le_succ _))
 have I1 : ∀ tk, Inv (cxC X N' scope (cellsFrom (s.heap.objs.size + 2) scope.names cl) (s.heap.objs.size + 1) s H fp) [] (Zdu k js σ) (upd H s.heap.objs.size (.lst [])) { s with heap := h₁, toks := tk } := fun tk => ZnU I S hf hfo c1 c2 hns₁ kp hD hck₁
 have ffr : ∀ b ∈ fp, upd H s.heap.objs.size (.lst []) b = none := fun b hb => by
  rw [Zv (Nat.ne_of_lt (hfo b hb))]
  exact (hf b hb).1
 have exs : ∀ b ∈ fp, b ∉ frs X.stack := (I1 0).ok.exfs
 have stat : ∀ {H' : Hp}, (∀ b ∈ fp, H' b = none) -> ∀ b ∈ fp, FpOk (cxC X N' scope (cellsFrom (s.heap.objs.size + 2) scope.names cl) (s.heap.objs.size + 1) s H fp) [] H' b := fun hn b hb =>
  ⟨hn b hb, ((I1 0).ok.exf b hb).1, exs b hb, .inl hb, ((I1 0).ok.exf b hb).2, fun p hp => (nomatch hp)⟩
 have st1 : tn 0 h₁ := T.keep _ _ _ st fun b _ o e => kp b o e
 have loop : ∀ tk, codeAny (model X.prog X.w) X.A (.compLoop (.ListComp elt [⟨tg, iter, ifs, 0⟩] scope pos) 0 (.ref it) (.ref s.heap.objs.size) (compEnvC scope (cellsFrom (s.heap.objs.size + 2) scope.names cl) (s.heap.objs.size + 1) X.env))
  (RR (.ref s.heap.objs.size) (s.heap.objs.size + 1)) { s with heap := h₁, toks := tk } := fun tk => by
  refine ZmN (X := cxC X N' scope (cellsFrom (s.heap.objs.size + 2) scope.names cl) (s.heap.objs.size + 1) s H fp) (fun _ _ z => z) hc T gG gI gE stat turn (fun σ' H' s' J q' => ?_) (I1 tk) st1 ffr Zr w0
  have u : Un (frs X.stack) fp H H' s.heap s'.heap := J.base
  have J1 : Inv X pins σ H' s' := I.call' J.os u J.hok J.bare fun b hb => ⟨(hf b hb).2.2.2.1, (hf b hb).2.1, (hf b hb).2.2.2.2.1, (hf b hb).2.2.2.2.2⟩
  obtain ⟨m', hn', _⟩ := J.loc
  refine hRR _ _ s' H' fresh1 ⟨m', hn'⟩ J1 ⟨J.free, Nat.ne_of_gt (Nat.lt_succ_of_lt I.lt), I.nofs (Nat.le_succ _), .inr (Nat.le_trans I.sz (Nat.le_succ _)), fun x c e z => ?_, fun p hp z => ?_⟩ q'
  . obtain ⟨v, qc⟩ := I.cell x c e
    have h1 := qc.lt
    rw [z] at h1
    exact absurd h1 (Nat.not_lt.mpr (Nat.le_succ _))
  . have h1 := Heap.lt_size (I.pin p hp).1
    rw [z] at h1
    exact absurd h1 (Nat.not_lt.mpr (Nat.le_succ _))
 exact codeAny_compStart_list (loop _) (T.self X.A 0 _ _ _ st1 (loop _))
theorem Zpy {elt tg iter : Expr} {ifs : List Expr} {scope : Scope} {pos : Pos} {k : Nat} {js : List Nat} {N' : List Str} {wi : TI} {g : TG} {tif : TT} {te : TE}
 (hc : X.calm = true) (S : CompScope X k js N' scope) (hi : PI X tg iter wi)
 (hin : ∀ (cl : List (Str × Addr)) (C : Addr) (s₀ : Shared) (H₀ : Hp) (ex : List Addr), PG (cxC X N' scope cl C s₀ H₀ ex) tg g /\ PIf (cxC X N' scope cl C s₀ H₀ ex) ifs tif /\ PE (cxC X N' scope cl C s₀ H₀ ex) elt te)
 (hs : ∀ x, foldedSetIterable iter X.env x = pure x := by intro _; rfl) : PE X (.ListComp elt [⟨tg, iter, ifs, 0⟩] scope pos) (ZjU k js wi g tif te) := by
 intro pins s σ H Q I h
 obtain ⟨cl, ec, c1, c2⟩ := Zio (scope := scope) (env := X.env) fun y hy hf => I.ok.has y.1 (S.free y hy hf)
 rw [eval_ListComp]
 refine wpAny_comprehension_free (use := none) rfl hs ec S.kind S.names (thn (hi pins s σ H _ I h) fun xv s1 h1 => thn h1 fun itv s2 h2 => ?_)
 obtain ⟨it, fp, tn, J, H2, e, I2, T, st2, f2, q⟩ := h2
 subst e
 refine Zip (RR := fun acc C => compPost (model X.prog X.w) X.A X.xe none (EP X pins σ Q) acc C) hc S T st2 f2 c1 c2 hin I2 q ?_
 intro D C s' H' _ hn J1 fC q'
 obtain ⟨m', hn⟩ := hn
 obtain ⟨f0, f1, f2, f3, f4, f5⟩ := fC
 exact ⟨m', hn, fun h' hs' => ⟨.ref D, H', J1.turned (t' := s'.toks) (fun b o hb e => hs'.extBut b o hb e) f0 f1 f3 f4 f5, rfl, q'⟩⟩
theorem Zpz {i : Nat} {x : Str} {elt tg iter : Expr} {ifs : List Expr} {scope : Scope} {pos spos pos' : Pos} {k : Nat} {js : List Nat} {N' : List Str} {wi : TI} {g : TG} {tif : TT} {te : TE}
 (hN : X.N.Nodup) (hi : X.N[i]? = some x) (hx : Loc X.env.scope x)
 (hc : X.calm = true) (S : CompScope X k js N' scope) (hit : PI X tg iter wi)
 (hin : ∀ (cl : List (Str × Addr)) (C : Addr) (s₀ : Shared) (H₀ : Hp) (ex : List Addr), PG (cxC X N' scope cl C s₀ H₀ ex) tg g /\ PIf (cxC X N' scope cl C s₀ H₀ ex) ifs tif /\ PE (cxC X N' scope cl C s₀ H₀ ex) elt te)
 (hsw : swapsWith (.ListComp elt [⟨tg, iter, ifs, 0⟩] scope pos) (some (.Name x pos')) spos.line X.env = pure true := by rfl)
 (hf : X.fn x = true \/ X.env.scope.names.lookup x = some .local := by first | exact .inl rfl | exact .inr rfl | assumption)
 (hs : ∀ x, foldedSetIterable iter X.env x = pure x := by intro _; rfl) : PS X (.Assign [.Name x pos'] (.ListComp elt [⟨tg, iter, ifs, 0⟩] scope pos) spos) (tAsg (ZjU k js wi g tif te) (ZfE i)) := by
 intro pins s σ H D I h
 obtain ⟨cl, ec, c1, c2⟩ := Zio (scope := scope) (env := X.env) fun y hy hf => I.ok.has y.1 (S.free y hy hf)
 (rw [exec_Assign_Name_used _ _ _ _ hsw])
 (refine wpAny_bind (wpAny_standAt (wpAny_bind ?_)))
 show wpAny _ X.A (do let _ <- comprehension (.ListComp elt [⟨tg, iter, ifs, 0⟩] scope pos) scope X.env _ (newList []) false (eval iter X.env) (some (assign (.Name x pos') X.env))) _ _ s
 refine wpAny_bind (wpAny_mono (wpAny_comprehension_free (use := some (assign (.Name x pos') X.env)) (Q := fun _ s' => SP X pins D .next s') rfl hs ec S.kind S.names
  (thn (hit pins s σ H _ I h) fun xv s1 h1 => thn h1 fun itv s2 h2 => ?_)) (fun _ s' hq => wpAny_pure (wpAny_pure hq)) fun _ _ e => e)
 obtain ⟨it, fp, tn, J, H2, e, I2, T, st2, f2, q⟩ := h2
 subst e
 refine Zip (Q := fun v H' => ZfE i v σ H' D.nx) (RR := fun acc C => compPost (model X.prog X.w) X.A X.xe (some (assign (.Name x pos') X.env)) (fun _ s' => SP X pins D .next s') acc C) hc S T st2 f2 c1 c2 hin I2 q ?_
 intro Da C s' H' fr hn J1 fC q'
 obtain ⟨m', hn⟩ := hn
 obtain ⟨f0, f1, f2, f3, f4, f5⟩ := fC
 obtain ⟨oC, es, ep, hoC, hdC, hkC, hmC⟩ := id hn
 show wpAny _ X.A (assign (.Name x pos') X.env (.ref Da)) _ _ _
 have J2 : Inv X (pins ++ [(C, oC)]) σ H' s' := J1.pins_of fun p hp => by
  (rcases List.mem_append.mp hp with z | z)
  . exact J1.pin p (List.mem_append_right _ z)
  . have z' : p = (C, oC) := by simpa using z
    subst z'
    exact ⟨hoC, f0, f1, f2, fun v e => by rw [hdC] at e; cases e⟩
 refine wpAny_assign_Name (ZhQ J2 hN hi hx (v := .ref Da) rfl (fun s'' I'' => ?_) hf)
 have hC'' := (I''.pin (C, oC) (List.mem_append_right _ (List.mem_append_right _ (by simp)))).1
 refine ⟨m', ⟨oC, es, ep, hC'', hdC, hkC, hmC⟩, fun h' hs' => ?_⟩
 have I3 : Inv X pins (σ.set i (some (.ref Da))) H' s'' := I''.unpinned
 exact ⟨_, H', I3.turned (t' := s''.toks) (fun b o hb e => hs'.extBut b o hb e) f0 f1 f3 f4 f5, q'⟩
end
end L2
namespace L2
open PySem PySem.Spec PyProof.Rows
mutual
inductive Den (K : Fg) (H : Hp) : V -> PyData -> Prop
 | non : Den K H .non .none
 | bl (b : Bool) : Den K H (.bl b) (.bool b)
 | int (i : Int) : Den K H (.int i) (.int i)
 | str (x : Str) : Den K H (.str x) (.str x)
 | lst {a : Addr} {vs : List V} {ds : List PyData} : SqL K H a vs -> DenL K H vs ds -> Den K H (.ref a) (.list ds)
 | tup {a : Addr} {vs : List V} {ds : List PyData} : SqT K H a vs -> DenL K H vs ds -> Den K H (.ref a) (.tuple ds)
inductive DenL (K : Fg) (H : Hp) : List V -> List PyData -> Prop
 | nil : DenL K H [] []
 | cons {v : V} {d : PyData} {vs : List V} {ds : List PyData} : Den K H v d -> DenL K H vs ds -> DenL K H (v :: vs) (d :: ds)
end
theorem Same.tupq {K : Fg} {H H' : Hp} {a : Addr} {xs : List V} (e : Same H H') (h : SqT K H a xs) : SqT K H' a xs := by
 rcases h with (h | ⟨o, h⟩) | h
 . exact .inl (.inl (e _ _ h))
 . exact .inl (.inr ⟨o, e _ _ h⟩)
 . exact .inr h
mutual
theorem Den.same {K : Fg} {H H' : Hp} (e : Same H H') : ∀ {v : V} {d : PyData}, Den K H v d -> Den K H' v d
 | _, _, .non => .non
 | _, _, .bl b => .bl b
 | _, _, .int i => .int i
 | _, _, .str x => .str x
 | _, _, .lst h r => .lst (e.seq h) (DenL.same e r)
 | _, _, .tup h r => .tup (e.tupq h) (DenL.same e r)
theorem DenL.same {K : Fg} {H H' : Hp} (e : Same H H') : ∀ {vs : List V} {ds : List PyData}, DenL K H vs ds -> DenL K H' vs ds
 | _, _, .nil => .nil
 | _, _, .cons h r => .cons (Den.same e h) (DenL.same e r)
end
section
variable {X : Cx} {pins : List (Addr × Obj)} {σ : St} {H : Hp} {s : Shared}
mutual
theorem Den.reads (I : Inv X pins σ H s) : ∀ {v : V} {d : PyData} {u : Value}, Den X.K H v d -> RelV v u -> ∃ as, Reads s.heap u d as
 | _, _, _, .non, r => by cases (show _ = Value.none from r); exact ⟨_, .none⟩
 | _, _, _, .bl b, r => by cases (show _ = Value.bool b from r); exact ⟨_, .bool b⟩
 | _, _, _, .int i, r => by obtain ⟨t, q⟩ := (show ∃ t, _ = Value.int i t from r); cases q; exact ⟨_, .int i t⟩
 | _, _, _, .str x, r => by obtain ⟨t, q⟩ := (show ∃ t, _ = Value.str x t from r); cases q; exact ⟨_, .str x t⟩
 | _, _, _, .lst (a := a) h q, r => by
  cases (show _ = Value.ref a from r)
  obtain ⟨its, rv, p, hz⟩ := I.list h
  obtain ⟨as, ra⟩ := DenL.reads I q rv
  obtain ⟨o, ho, hc, n, hd⟩ := p.isList
  exact ⟨_, .list ho hc hd (by simpa using ra)⟩
 | _, _, _, .tup (a := a) h q, r => by
  cases (show _ = Value.ref a from r)
  obtain ⟨its, rv, p, hz⟩ := I.tuple h
  obtain ⟨as, ra⟩ := DenL.reads I q rv
  obtain ⟨o, ho, hc, n, hd⟩ := (show s.heap.IsTuple a its.toArray from p)
  exact ⟨_, .tuple ho hc hd (by simpa using ra)⟩
theorem DenL.reads (I : Inv X pins σ H s) : ∀ {vs : List V} {ds : List PyData} {us : List Value}, DenL X.K H vs ds -> Vals vs us -> ∃ as, ReadsAll s.heap us ds as
 | _, _, _, .nil, r => by cases r; exact ⟨_, .nil⟩
 | _, _, _, .cons h q, r => by
  cases r with
  | cons r1 r2 =>
   obtain ⟨as, ra⟩ := Den.reads I h r1
   obtain ⟨bs, rb⟩ := DenL.reads I q r2
   exact ⟨_, .cons ra rb⟩
end
end
section
variable {X : Cx}
def rEqD (K : Fg) : R2 := fun x y H Q => ∃ d e, Den K H x d /\ Den K H y e /\ SeqAt.shaped d = true /\ SeqAt.shaped e = true /\ Q (.bl (PyData.eqv d e)) H
def rNeD (K : Fg) : R2 := fun x y H Q => ∃ d e, Den K H x d /\ Den K H y e /\ SeqAt.shaped d = true /\ SeqAt.shaped e = true /\ Q (.bl (!PyData.eqv d e)) H
theorem ZmO (hu : X.A.units + 64 < cLine) : OpR X (compareOp .Eq) (rEqD X.K) := by
 intro pins s σ H x y v u Q I rx ry h
 obtain ⟨d, e, hd, he, s1, s2, q⟩ := h
 obtain ⟨as, ra⟩ := hd.reads I rx
 obtain ⟨bs, rb⟩ := he.reads I ry
 exact eq_dataH ra rb s1 s2 hu ⟨.bl _, H, I, rfl, q⟩
theorem ZmP (hu : X.A.units + 64 < cLine) : OpR X (compareOp .NotEq) (rNeD X.K) := by
 intro pins s σ H x y v u Q I rx ry h
 obtain ⟨d, e, hd, he, s1, s2, q⟩ := h
 obtain ⟨as, ra⟩ := hd.reads I rx
 obtain ⟨bs, rb⟩ := he.reads I ry
 exact ne_dataH ra rb s1 s2 hu ⟨.bl _, H, I, rfl, q⟩
def rSlS : V -> Option Int -> Option Int -> Hp -> VK -> Prop := fun x lo hi H Q => ∃ z, x = .str z /\ z.length <= sizeLine /\ Q (.str (Txt.slice z lo hi)) H
theorem Zrd : SlR X rSlS := by
 intro pins s σ H x v vl vu lo hi sl Q I rx hs pl pu h
 obtain ⟨z, rfl, hz, q⟩ := h
 obtain ⟨t, rfl⟩ := rx
 refine ⟨"str", _, F.slot_str_getitem.lookup, typeIs_str _ _ _, ?_⟩
 have fin : ∀ t' k, EP X pins σ Q (.str (Txt.slice z lo hi) t') { s with toks := k } := fun t' k => ⟨.str _, H, I.tok k, ⟨t', rfl⟩, q⟩
 have hle := Nat.le_trans (Txt.slice_le z lo hi) hz
 cases pl with
 | none =>
  cases pu with
  | none => exact wpAny_getItem_str_slice (l := none) (u := none) (st := none) hs rfl (post_val_or_str ⟨hle, fin⟩)
  | int j tj => exact wpAny_getItem_str_slice (l := none) (u := some (j, tj)) (st := none) hs rfl (post_val_or_str ⟨hle, fin⟩)
 | int i ti =>
  cases pu with
  | none => exact wpAny_getItem_str_slice (l := some (i, ti)) (u := none) (st := none) hs rfl (post_val_or_str ⟨hle, fin⟩)
  | int j tj => exact wpAny_getItem_str_slice (l := some (i, ti)) (u := some (j, tj)) (st := none) hs rfl (post_val_or_str ⟨hle, fin⟩)
theorem ZnV (c : V) (cu : Value) (rc : RelV c cu) (huniq : ∀ u, RelV c u -> u = cu) : Zat X (.builtin "isinstance") (fun xs H Q => ∃ x t b, xs = [x, c] /\ TyOf X.K H x t /\ PySem.W.kitOne X.K t cu = some b /\ Q (.bl b) H) := by
 intro pins s σ H xs us Q I r h
 obtain ⟨x, t, b, rfl, ty, e, q⟩ := h
 obtain ⟨u, w', rfl, ru, rw'⟩ := r.two
 obtain rfl := huniq w' rw'
 exact ZmD I ru ty e fun tk => ⟨.bl b, H, I.tok tk, rfl, q⟩
theorem Ziq : ∀ (bs : List Bool) (us : List Value), Vals (bs.map V.bl) us -> us = bs.map Value.bool
 | [], us, r => by cases r; rfl
 | b :: bs, us, r => by
  cases r with
  | cons r1 r2 => rw [Ziq bs _ r2, show _ = Value.bool b from r1]; rfl
theorem ZlT (bs : List Bool) : ((List.range bs.length).all fun i => (bs[i]?).getD true) = bs.all id := by
 (rw [Bool.eq_iff_iff, List.all_eq_true, List.all_eq_true])
 constructor
 . intro h b hb
   obtain ⟨i, hi, e⟩ := List.mem_iff_getElem.mp hb
   have q := h i (List.mem_range.mpr hi)
   rw [List.getElem?_eq_getElem hi, Option.getD_some, e] at q
   exact q
 . intro h i hi
   (have hi' := List.mem_range.mp hi)
   rw [List.getElem?_eq_getElem hi', Option.getD_some]
   (exact h _ (List.getElem_mem hi'))
theorem Zls {h h' : Heap} {o : Obj} (hk : ∀ b x, b ∉ [h.objs.size] -> (h.push o).get? b = some x -> h'.get? b = some x) : ∀ b x, h.get? b = some x -> h'.get? b = some x :=
 fun c o e => hk c o (fun hm => by rw [List.mem_singleton.mp hm] at e; exact Nat.lt_irrefl _ (Heap.lt_size e)) (Heap.get?_push_of_some _ e)
theorem ZnW (hc : X.calm = true) : Zat X (.builtin "all") (fun xs H Q => ∃ (l : Addr) (bs : List Bool), xs = [.ref l] /\ SqL X.K H l (bs.map V.bl) /\ Q (.bl (bs.all id)) H) := by
 intro pins s σ H xs us Q I r h
 obtain ⟨l, bs, rfl, hl, q⟩ := h
 obtain ⟨u, rfl, ru⟩ := r.one
 cases (show u = Value.ref l from ru)
 obtain ⟨its, rv, p, hz⟩ := I.list hl
 have ei := Ziq bs its rv
 have hlt : l < s.heap.objs.size := by obtain ⟨_, e, _⟩ := p.isList; exact Heap.lt_size e
 refine call_all_walk (wpAny_pyIter_list p.isList ?_)
 refine ⟨s.heap.objs.size, [s.heap.objs.size, l], [s.heap.objs.size], its.toArray.size, _, _, fun i => (bs[i]?).getD true, rfl, Walks.list (A := X.A.in1) (I.ok.hd hc) _ l (Nat.ne_of_lt hlt) its.toArray,
  ⟨⟨_, Heap.get?_push_size _ rfl, rfl, rfl⟩, p.isList.push _⟩, fun i v s' Q' E' hP hQ => ?_, fun h' tk hk => ?_⟩
 . have hP' : its[i]? = some v := by simpa using hP
   rw [ei, List.getElem?_map] at hP'
   cases e : bs[i]? with
   | none => rw [e] at hP'; cases hP'
   | some b =>
    rw [e] at hP'
    cases hP'
    (simp only [e, Option.getD_some] at hQ)
    exact wpAny_truthy_bool hQ
 . have e : ((List.range its.toArray.size).all fun i => (bs[i]?).getD true) = bs.all id := by
    rw [List.size_toArray, <- rv.length, List.length_map]
    exact ZlT bs
   rw [e]
   exact ⟨.bl _, H, I.kept (t' := tk) (Zls hk), rfl, q⟩
end
end L2
namespace L2
open PySem PySem.Spec PyProof.Rows
noncomputable def Its (x : Str) : It := ⟨fun i _ => i < x.cps.size, fun i H v H' => H' = H /\ ∃ c, x.cps[i]? = some c /\ v = .str ⟨#[c]⟩, fun i _ => x.cps.size <= i⟩
theorem ZnX {P : Program} {w : World} {K : Fg} {tg : Expr} (it : Addr) (x : Str) (t : Tok) {ty : String} (hty : ty = "str_ascii_iterator" \/ ty = "str_iterator") : Turn P w K tg (Its x) [it] it (fun i h => i <= x.cps.size /\ h.IsStrIter it ty x t i) where
 mem := by simp
 obj := fun i h st b hb => by
  have e : b = it := by simpa using hb
  subst e
  obtain ⟨_, o, e, c, d⟩ := st
  exact ⟨o, e, fun v z => by rw [d] at z; cases z⟩
 keep := fun i h h' st k => ⟨st.1, let ⟨o, ho, r⟩ := st.2; ⟨o, k it (by simp) o ho, r⟩⟩
 item := by
  intro X hP hw hK hc i pins s σ H E I hf st hg
  subst hP hw hK
  obtain ⟨f0, f1, f2, f3, f4, f5⟩ := hf it (by simp)
  have go : ∀ {W : Walks X.prog X.w X.A it [it] [it] x.cps.size (SignAt x) (fun i h => h.IsStrIter it ty x t i)}, wpAny (model X.prog X.w) X.A (pyNext (.ref it)) (fun r s1 => ∃ u, r = some u /\
   wpAny (model X.prog X.w) X.A (letOwnedTupleGo tg (.ref it) u) (fun _ s2 => ∃ v H', Inv X pins σ H' s2 /\ RelV v u /\ (Its x).yld i H v H' /\ (i + 1 <= x.cps.size /\ s2.heap.IsStrIter it ty x t (i + 1)) /\ ∀ b ∈ [it], H' b = none) E s1) E s := fun {W} => by
   refine W.item i s _ _ hg st.2 fun v h' tk hv st' kk => ?_
   obtain ⟨c, u, ec, rfl⟩ := hv
   have I1 : Inv X pins σ H { s with heap := h', toks := tk } := I.turned (fun b o hb e => kk b o (by simpa using hb) e) f0 f1 f3 f4 f5
   obtain ⟨o, e, cc, d⟩ := id st'
   refine ⟨_, rfl, Zij (s := { s with heap := h', toks := tk }) e cc d ?_ ⟨.str ⟨#[c]⟩, H, I1, ⟨u, rfl⟩, ⟨rfl, c, ec, rfl⟩, ⟨hg, st'⟩, fun b hb => (hf b hb).1⟩⟩
   rcases hty with rfl | rfl <;> decide
  rcases hty with rfl | rfl
  . exact go (W := Walks.strAscii (I.ok.hd hc) it x t)
  . exact go (W := Walks.strWide (I.ok.hd hc) it x t)
 done := by
  intro X hP hw hK hc i pins s σ H E I hf st hg
  subst hP hw hK
  obtain ⟨f0, f1, f2, f3, f4, f5⟩ := hf it (by simp)
  obtain rfl : i = x.cps.size := Nat.le_antisymm st.1 hg
  rcases hty with rfl | rfl
  . exact (Walks.strAscii (prog := X.prog) (w := X.w) (I.ok.hd hc) it x t).done s _ _ st.2 fun h' tk kk => ⟨rfl, I.turned (fun b o hb e => kk b o (by simpa using hb) e) f0 f1 f3 f4 f5⟩
  . exact (Walks.strWide (prog := X.prog) (w := X.w) (I.ok.hd hc) it x t).done s _ _ st.2 fun h' tk kk => ⟨rfl, I.turned (fun b o hb e => kk b o (by simpa using hb) e) f0 f1 f3 f4 f5⟩
 self := fun A i s Q E st h => by
  rcases hty with rfl | rfl
  . exact wpAny_pyIter_striter_ascii st.2 h
  . exact wpAny_pyIter_striter_wide st.2 h
section
variable {X : Cx} {tg : Expr}
noncomputable def iStr (tl : TE) : TI := fun σ H R => tl σ H fun v H1 => ∃ x, v = .str x /\ R (Its x) H1
theorem Zre {l : Expr} {tl : TE} (hl : PE X l tl) : PI X tg l (iStr tl) := by
 intro pins s σ H R I h
 refine thn (hl pins s σ H _ I h) fun v s1 ⟨y, H1, I1, r1, q1⟩ => ?_
 obtain ⟨x, e, q⟩ := q1
 subst e
 obtain ⟨t, rfl⟩ := r1
 have fin : ∀ (o : Obj) (ty : String), (ty = "str_ascii_iterator" \/ ty = "str_iterator") -> (s1.heap.push o).IsStrIter s1.heap.objs.size ty x t 0 -> PIE X pins σ tg R (.ref s1.heap.objs.size) { s1 with heap := s1.heap.push o } := fun o ty hty hit => by
  refine ⟨s1.heap.objs.size, [s1.heap.objs.size], _, _, H1, rfl, I1.kept (t' := s1.toks) fun b o e => Heap.get?_push_of_some _ e, ZnX _ x t hty, ⟨Nat.zero_le _, hit⟩, fun b hb => ?_, q⟩
  have e : b = s1.heap.objs.size := by simpa using hb
  subst e
  exact I1.fpOk (Nat.le_refl _) (I1.hok.fresh (Nat.le_refl _))
 (cases ha : x.cps.all (· < 128))
 . exact wpAny_pyIter_wide ha (fin _ _ (.inr rfl) ⟨_, Heap.get?_push_size _ rfl, rfl, rfl⟩)
 . exact wpAny_pyIter_ascii ha (fin _ _ (.inl rfl) ⟨_, Heap.get?_push_size _ rfl, rfl, rfl⟩)
end
end L2
namespace L2
open PySem PySem.Spec PyProof.Rows
structure FnAt (P : Program) (w : World) (K : Fg) (mg : Str -> Option Value) (base : Heap) (x : Str) (k : Nat) (ps : List Str) (sp : Sp) : Prop where
 ex : ∃ (f : Addr) (fd : FuncData), FnOk P w K mg base CX0 k f fd ps sp /\ mg x = some (.ref f) /\ PySem.W.keepIn K (.ref f) = true /\ Binds K fd ps []
structure MeAt (P : Program) (w : World) (K : Fg) (mg : Str -> Option Value) (base : Heap) (C : Addr) (m : Str) (k : Nat) (ps : List Str) (sp : Sp) : Prop where
 ex : ∃ (f : Addr) (fd : FuncData), FnOk P w K mg base CX0 k f fd ps sp /\ Meth K C m f /\ Binds K fd ps []
 cl : Cls K C
structure MkAt (P : Program) (w : World) (K : Fg) (mg : Str -> Option Value) (base : Heap) (x : Str) (C : Addr) (k : Nat) (ps : List Str) (sp : Sp) : Prop where
 ex : ∃ (f : Addr) (fd : FuncData), FnOk P w K mg base CX0 k f fd ps sp /\ Mk K C f /\ mg x = some (.ref C) /\ Binds K fd ps []
section
variable {X : Cx} {x m : Str} {j n : Nat} {ps : List Str} {sp : Sp} {C : Addr} {e o : Expr} {es : List Expr} {ta : TE} {t : TA} {p pos apos : Pos}
theorem ZsM (G : FnAt X.prog X.w X.K X.mg X.base x j ps sp) (hr : Room n X.A) (ha : PA X (e :: es) t) (hj : j <= n := by decide) (hg : Gl X x := by rfl) (hdb : (x == ("__debug__" : Str)) = false := by decide)
 (he : starEach (e :: es) X.env = (false, eval e X.env) :: starEach es X.env := by rfl) (hpl : (backTo pos (starEach es X.env)).any (·.1) = false := by rfl) : PE X (.Call (.Name x p) (e :: es) [] pos) (ZoK sp [] E0 t) := by
 obtain ⟨f, fd, F, hm, hk, hb⟩ := G.ex
 exact Zpn F (hr.mono hj) hg hm hk hb .nil ZjT ha hdb he hpl
theorem ZsN {pl : Sem Bool} (G : MeAt X.prog X.w X.K X.mg X.base C m j ps sp) (hr : Room n X.A) (ho : PE X o ta) (ha : PA X (e :: es) t) (hj : j <= n := by decide)
 (hst : starEach (e :: es) X.env = (false, eval e X.env) :: starEach es X.env := by rfl) (hpl : (backTo pos (starEach es X.env)).any (·.1) = false := by rfl)
 (ht : eval (.Call (.Attribute o m apos) (e :: es) [] pos) X.env = (do
  let ov <- eval o X.env
  standAt apos.atName
  let (f, first) <- holding [ov] (getMethod ov m pl)
  callWith pos f first (backTo pos (starEach (e :: es) X.env)) (backToKw pos (keywordEach [] X.env))) := by rfl) : PE X (.Call (.Attribute o m apos) (e :: es) [] pos) (ZjR C m sp [] E0 ta t) := by
 obtain ⟨f, fd, F, hm, hb⟩ := G.ex
 exact Zpo ho G.cl hm F (hr.mono hj) hb .nil ZjT ha hst hpl ht
theorem Zrf {pl : Sem Bool} (G : MeAt X.prog X.w X.K X.mg X.base C m j ps sp) (hr : Room n X.A) (ho : PE X o ta) (hj : j <= n := by decide)
 (ht : eval (.Call (.Attribute o m apos) [] [] pos) X.env = (do
  let ov <- eval o X.env
  standAt apos.atName
  let (f, first) <- holding [ov] (getMethod ov m pl)
  callWith pos f first (backTo pos (starEach [] X.env)) (backToKw pos (keywordEach [] X.env))) := by rfl) : PE X (.Call (.Attribute o m apos) [] [] pos) (ZjR C m sp [] E0 ta tNil) := by
 obtain ⟨f, fd, F, hm, hb⟩ := G.ex
 exact ZnL ho G.cl hm F (hr.mono hj) hb .nil ZjT ht
theorem ZsO (G : MkAt X.prog X.w X.K X.mg X.base x C j ps sp) (hr : Room n X.A) (ha : PA X (e :: es) t) (hj : j + 1 <= n := by decide) (hg : Gl X x := by rfl) (hdb : (x == ("__debug__" : Str)) = false := by decide)
 (he : starEach (e :: es) X.env = (false, eval e X.env) :: starEach es X.env := by rfl) (hpl : (backTo pos (starEach es X.env)).any (·.1) = false := by rfl) : PE X (.Call (.Name x p) (e :: es) [] pos) (ZoL C sp [] E0 t) := by
 obtain ⟨f, fd, F, M, hm, hb⟩ := G.ex
 exact Zpp M F (hr.mono hj) hg hm hb .nil ZjT ha hdb he hpl
end
theorem ZhL (j : Nat) (js : List Nat) (σ : St) : ZdZ (j :: js) σ = (σ[j]?).join :: ZdZ js σ := rfl
end L2
namespace L2
open PySem PySem.Spec PyProof.Rows
theorem Zkl : bootBuiltins "isinstance" = some (.builtin "isinstance") := by decide +kernel
theorem ZoO : bootBuiltins "int" = some (.type "int") := by decide +kernel
theorem ZmQ : bootBuiltins "bool" = some (.type "bool") := by decide +kernel
theorem ZmR : bootBuiltins "list" = some (.type "list") := by decide +kernel
end L2
namespace L2
open PySem PySem.Spec PyProof.Rows
noncomputable def Ze (sc : Scope) (N : List Str) (i : Nat) (x : Str) (b : Bool) : Bool := N[i]? == some x && sc.names.lookup x == some (if b then .cell else .local) && !(x == ("__debug__" : Str)) && !(x == ("__classdict__" : Str))
noncomputable def ZcD (sc : Scope) (N : List Str) (i : Nat) (x : Str) : Bool := N[i]? == some x && (sc.names.lookup x == some .cell || sc.names.lookup x == some .free) && !(x == ("__debug__" : Str)) && !(x == ("__classdict__" : Str))
noncomputable def glOk (sc : Scope) (x : Str) : Bool := sc.names.lookup x == some .globalImplicit && !(x == ("__debug__" : Str)) && !(x == ("__name__" : Str))
noncomputable def ZB (scope osc : Scope) : Scope :=
 { scope with names := scope.names.map fun (n, k) => if (k == .free && osc.kind == .function && osc.names.lookup n == some .cell) then (n, .cell) else (n, k) }
section
variable {X : Cx} {sc : Scope} {N : List Str} {i : Nat} {x : Str} {b : Bool} {pos : Pos}
theorem Ze.at (h : Ze sc N i x b = true) : N[i]? = some x /\ sc.names.lookup x = some (if b then .cell else .local) /\ (x == ("__debug__" : Str)) = false /\ (x == ("__classdict__" : Str)) = false := by
 unfold Ze at h
 (simp only [Bool.and_eq_true, Bool.not_eq_true'] at h)
 exact ⟨eq_of_beq h.1.1.1, eq_of_beq h.1.1.2, h.1.2, h.2⟩
theorem Ze.loc (h : Ze sc N i x b = true) : Loc sc x := by
 have q := (Ze.at h).2.1
 cases b
 . exact .inl q
 . exact .inr q
theorem pvs (h : Ze sc N i x b = true) (e1 : X.env.scope = sc := by rfl) (e2 : X.N = N := by rfl) : PE X (.Name x pos) (tVar i) := by
 obtain ⟨h1, h2, h3, h4⟩ := Ze.at h
 have l := Ze.loc h
 subst e1 e2
 refine Zmz h1 ?_ h3 h4
 rcases l with l | l
 . exact .inl l
 . exact .inr (.inl l)
theorem pvf (h : ZcD sc N i x = true) (e1 : X.env.scope = sc := by rfl) (e2 : X.N = N := by rfl) : PE X (.Name x pos) (tVar i) := by
 unfold ZcD at h
 simp only [Bool.and_eq_true, Bool.not_eq_true', Bool.or_eq_true] at h
 subst e1 e2
 refine Zmz (eq_of_beq h.1.1.1) ?_ h.1.2 h.2
 rcases h.1.1.2 with l | l
 . exact .inr (.inl (eq_of_beq l))
 . exact .inr (.inr (eq_of_beq l))
theorem glk (h : glOk sc x = true) (e1 : X.env.scope = sc := by rfl) : Gl X x := by
 unfold glOk at h
 (simp only [Bool.and_eq_true] at h)
 subst e1
 exact eq_of_beq h.1.1
theorem dbk (h : glOk sc x = true) : (x == ("__debug__" : Str)) = false := by
 unfold glOk at h
 (simp only [Bool.and_eq_true, Bool.not_eq_true'] at h)
 exact h.1.2
theorem nmk (h : glOk sc x = true) : x ≠ "__name__" := by
 unfold glOk at h
 (simp only [Bool.and_eq_true, Bool.not_eq_true'] at h)
 intro e
 have := h.2
 rw [e, beq_self_eq_true] at this
 cases this
theorem ZnY (h : Ze sc N i x b = true) (nd : N.Nodup) (e1 : X.env.scope = sc := by rfl) (e2 : X.N = N := by rfl) (hf : X.fn x = true \/ b = false := by first | exact .inl rfl | exact .inr rfl) : PG X (.Name x pos) (ZfE i) := by
 obtain ⟨h1, h2, h3, h4⟩ := Ze.at h
 have l := Ze.loc h
 subst e1 e2
 refine Zli nd h1 l ?_
 rcases hf with q | q
 . exact .inl q
 . subst q
   exact .inr h2
noncomputable def ZeI (osc scope : Scope) (x : Str) : Bool := osc.kind == .function && osc.names.lookup x == some .local && !(scope.names.any fun (n, k) => n == x && (k == .local || k == .cell))
theorem ZlU {elt : Expr} {gens : List Comprehension} {scope osc : Scope} {pos' : Pos} {line : Nat} {env : Env} (h : ZeI osc scope x = true) (hl : (pos'.line == pos.line) = true) (e : env.scope = osc) :
 swapsWith (.ListComp elt gens scope pos) (some (.Name x pos')) line env = pure true := by
 subst e
 unfold ZeI at h
 (simp only [Bool.and_eq_true, Bool.not_eq_true'] at h)
 obtain ⟨⟨h1, h2⟩, h3⟩ := h
 show (pure (env.blockKind == .function && env.kindOf x == some .local && pos'.line == pos.line && !(scope.names.any fun (n, k) => n == x && (k == .local || k == .cell))) : Sem Bool) = pure true
 have hb : (env.blockKind == ScopeKind.function) = true := by
  unfold Env.blockKind
  rw [eq_of_beq h1]
  rfl
 have hk : (env.kindOf x == some NameKind.local) = true := h2
 rw [hb, hk, hl, h3]
 rfl
theorem ZnZ {elt tg iter : Expr} {ifs : List Expr} {scope : Scope} {spos pos' : Pos} {k : Nat} {js : List Nat} {N' : List Str} {wi : TI} {g : TG} {tif : TT} {te : TE}
 (h : Ze sc N i x false = true) (nd : N.Nodup) (hw : ZeI sc scope x = true)
 (hc : X.calm = true) (S : CompScope X k js N' scope) (hit : PI X tg iter wi)
 (hin : ∀ (cl : List (Str × Addr)) (C : Addr) (s₀ : Shared) (H₀ : Hp) (ex : List Addr), PG (cxC X N' scope cl C s₀ H₀ ex) tg g /\ PIf (cxC X N' scope cl C s₀ H₀ ex) ifs tif /\ PE (cxC X N' scope cl C s₀ H₀ ex) elt te)
 (hl : (pos'.line == pos.line) = true := by rfl) (e1 : X.env.scope = sc := by rfl) (e2 : X.N = N := by rfl)
 (hs : ∀ x, foldedSetIterable iter X.env x = pure x := by intro _; rfl) : PS X (.Assign [.Name x pos'] (.ListComp elt [⟨tg, iter, ifs, 0⟩] scope pos) spos) (tAsg (ZjU k js wi g tif te) (ZfE i)) := by
 obtain ⟨h1, h2, h3, h4⟩ := Ze.at h
 have l := Ze.loc h
 have w := fun (e : X.env.scope = sc) => ZlU (elt := elt) (gens := [⟨tg, iter, ifs, 0⟩]) (pos := pos) (line := spos.line) hw hl e
 have w1 := w e1
 subst e1 e2
 exact Zpz nd h1 l hc S hit hin w1 (.inr h2) hs
end
end L2
namespace L2
open PySem
section
variable {prog : Program} {w : World} {A : Around} {E : Value -> Shared -> Prop} {s : Shared}
theorem Zp0 {e it l : Addr} {i : Nat} {c : Int} {its : Array Value} {x old : Value} {Q : Option Value -> Shared -> Prop} (he : IsEnum s.heap e it c old) (hi : s.heap.IsListIter it l i) (hl : s.heap.IsList l its) (hx : its[i]? = some x) (ne : e ≠ it)
 (hQ : ∀ h', IsEnumOut h' e it (c + 1) x s.heap.objs.size -> h'.IsListIter it l (i + 1) -> h'.get? s.heap.objs.size = some { cls := .type "tuple", data := .seq #[.int c s.toks, x] } ->
  (∀ b o, b ≠ e -> b ≠ it -> s.heap.get? b = some o -> h'.get? b = some o) -> Q (some (.ref s.heap.objs.size)) { s with heap := h', toks := s.toks + 1 }) : wpAny (model prog w) A (pyNext (.ref e)) Q E s := by
 (have hT : s.TypeIs (.ref e) "enumerate" := ⟨_, he, rfl⟩)
 unfold pyNext
 refine wpAny_bind (wpAny_attempt (wpAny_callSpecial?_slot (name := Str.ofString "__next__") hT F.slot_enumerate_next (wpAny_call_entry F.slot_enumerate_next hT F.entry_enumerate_next ?_ (F.args_enumerate_next_1 _))))
 obtain ⟨hp, gs, dr, tk, os⟩ := s
 (have hel : e < hp.objs.size := Heap.lt_size he)
 show wpAny (model prog w) A.in1 (field (.ref e) 2 >>= _) _ _ _
 refine wpAny_bind (wpAny_field he rfl (x := .ref it) rfl (wpAny_bind (wpAny_nextOf_list_item hi hl hx fun g1 i1 k1 => ?_)))
 replace k1 : Heap.SameBut it hp g1 := k1
 have e1 : IsEnum g1 e it c old := (k1.2 e ne).trans he
 show wpAny (model prog w) A.in1 (field (.ref e) 3 >>= _) _ _ ⟨g1, gs, dr, tk, os⟩
 refine wpAny_bind (wpAny_field e1 rfl (x := rawInt c) rfl ?_)
 show wpAny (model prog w) A.in1 (field (.ref e) 4 >>= _) _ _ ⟨g1, gs, dr, tk, os⟩
 refine wpAny_bind (wpAny_field e1 rfl (x := .none) rfl ?_)
 show wpAny (model prog w) A.in1 (mkInt c >>= _) _ _ ⟨g1, gs, dr, tk, os⟩
 (refine wpAny_bind (wpAny_mkInt ?_))
 show wpAny (model prog w) A.in1 (setField (.ref e) 3 (rawInt (c + 1)) >>= _) _ _ ⟨g1, gs, dr, tk + 1, os⟩
 refine wpAny_bind (wpAny_setField_rec e1 (by simp) fun g2 e2 k2 => ?_)
 replace k2 : Heap.SameBut e g1 g2 := k2
 replace e2 : IsEnum g2 e it (c + 1) old := e2
 show wpAny (model prog w) A.in1 (setField (.ref e) 4 .none >>= _) _ _ ⟨g2, gs, dr, tk + 1, os⟩
 refine wpAny_bind (wpAny_setField_rec e2 (by simp) fun g3 e3 k3 => ?_)
 replace k3 : Heap.SameBut e g2 g3 := k3
 replace e3 : IsEnum g3 e it (c + 1) old := e3
 have z3 : g3.objs.size = hp.objs.size := by rw [k3.1, k2.1, k1.1]
 show wpAny (model prog w) A.in1 (newTuple [.int c tk, x] >>= _) _ _ ⟨g3, gs, dr, tk + 1, os⟩
 (refine wpAny_bind (wpAny_newTuple ?_))
 have e4 : IsEnum (g3.push { cls := .type "tuple", data := .seq #[.int c tk, x] }) e it (c + 1) old := Heap.get?_push_of_some _ e3
 have t4 : (g3.push { cls := .type "tuple", data := .seq #[.int c tk, x] }).get? hp.objs.size = some { cls := .type "tuple", data := .seq #[.int c tk, x] } := by rw [<- z3]; exact Heap.get?_push_size _ rfl
 have i4 : (g3.push { cls := .type "tuple", data := .seq #[.int c tk, x] }).IsListIter it l (i + 1) := by
  obtain ⟨o, ho, r⟩ := (i1.extBut k2.extBut (Ne.symm ne)).extBut k3.extBut (Ne.symm ne)
  exact ⟨o, Heap.get?_push_of_some _ ho, r⟩
 have b4 : ∀ b o, b ≠ e -> b ≠ it -> hp.get? b = some o -> (g3.push { cls := .type "tuple", data := .seq #[.int c tk, x] }).get? b = some o := fun b o n1 n2 y => Heap.get?_push_of_some _ (k3.extBut b o n1 (k2.extBut b o n1 (k1.extBut b o n2 y)))
 generalize g3.push { cls := .type "tuple", data := .seq #[.int c tk, x] } = g4 at e4 t4 i4 b4 ⊢
 rw [z3]
 show wpAny (model prog w) A.in1 (Builtin.SmallTypes.ownedTupleIsFree (.ref e) >>= _) _ _ ⟨g4, gs, dr, tk + 1, os⟩
 clear e3 k3 e2 k2 e1 k1 i1 z3 g3 g2 g1
 refine wpAny_bind ?_
 (unfold Builtin.SmallTypes.ownedTupleIsFree)
 refine wpAny_bind (wpAny_field e4 rfl (x := .none) rfl (wpAny_pure ?_))
 simp only [if_true]
 refine wpAny_bind (wpAny_rule (wpAny_bind (wpAny_field e4 rfl (x := old) rfl (wpAny_bind (wpAny_setField_rec e4 (by simp) fun g5 e5 k5 => ?_)))))
 replace k5 : Heap.SameBut e g4 g5 := k5
 replace e5 : IsEnum g5 e it (c + 1) x := e5
 show wpAny (model prog w) A.in1 (Builtin.SmallTypes.ownedTupleHandOut (.ref e) (.ref hp.objs.size) >>= _) _ _ ⟨g5, gs, dr, tk + 1, os⟩
 refine wpAny_bind ?_
 (unfold Builtin.SmallTypes.ownedTupleHandOut)
 refine wpAny_bind (wpAny_setField_rec e5 (by simp) fun g6 e6 k6 => ?_)
 replace k6 : Heap.SameBut e g5 g6 := k6
 replace e6 : IsEnumOut g6 e it (c + 1) x hp.objs.size := e6
 refine wpAny_setField_rec e6 (by simp) fun g7 e7 k7 => ?_
 replace k7 : Heap.SameBut e g6 g7 := k7
 replace e7 : IsEnumOut g7 e it (c + 1) x hp.objs.size := e7
 have up : ∀ b o, b ≠ e -> g4.get? b = some o -> g7.get? b = some o := fun b o n y => k7.extBut b o n (k6.extBut b o n (k5.extBut b o n y))
 refine wpAny_bind (wpAny_letGo (wpAny_pure ⟨_, rfl, wpAny_pure (hQ g7 e7 ?_ (up _ _ (Nat.ne_of_gt hel) t4) fun b o n1 n2 y => up b o n1 (b4 b o n1 n2 y))⟩))
 exact ((i4.extBut k5.extBut (Ne.symm ne)).extBut k6.extBut (Ne.symm ne)).extBut k7.extBut (Ne.symm ne)
theorem Zrg {e it l : Addr} {i : Nat} {c : Int} {its : Array Value} {old : Value} {Q : Option Value -> Shared -> Prop} (hh : A.handled = none) (he : IsEnum s.heap e it c old) (hi : s.heap.IsListIter it l i) (hl : s.heap.IsList l its) (hx : its[i]? = none)
 (hQ : ∀ g, Heap.ExtBut it s.heap g -> Q none { s with heap := g }) : wpAny (model prog w) A (pyNext (.ref e)) Q E s := by
 (have hT : s.TypeIs (.ref e) "enumerate" := ⟨_, he, rfl⟩)
 unfold pyNext
 refine wpAny_bind (wpAny_attempt (wpAny_callSpecial?_slot (name := Str.ofString "__next__") hT F.slot_enumerate_next (wpAny_call_entry F.slot_enumerate_next hT F.entry_enumerate_next ?_ (F.args_enumerate_next_1 _))))
 show wpAny (model prog w) A.in1 (field (.ref e) 2 >>= _) _ _ _
 refine wpAny_bind (wpAny_field he rfl (x := .ref it) rfl (wpAny_bind (wpAny_nextOf_list_end hh hi hl hx fun h' y b1 ⟨o, b2, b3⟩ => ?_)))
 exact wpAny_bind (wpAny_isInstance (T := "StopIteration") (b := true) ⟨o, b2, b3⟩ isSubtype_stop (wpAny_pure (hQ _ b1)))
end
end L2
namespace L2
open PySem PySem.Spec
section
variable {X : Cx} {pins : List (Addr × Obj)} {σ : St} {H : Hp} {s : Shared} {h' : Heap}
theorem Inv.turnedL {t' : Nat} {fp : List Addr} (I : Inv X pins σ H s) (k : ∀ b o, b ∉ fp -> s.heap.get? b = some o -> h'.get? b = some o) (hf : ∀ b ∈ fp, FpOk X pins H b) : Inv X pins σ H { s with heap := h', toks := t' } := by
 have nf : ∀ b u, H b = some u -> b ∉ fp := fun b u e z => by rw [(hf b z).1] at e; cases e
 have hL : X.env.locals ∉ fp := fun z => (hf _ z).2.1 rfl
 refine I.step (g' := s.gens) (d' := s.drawn) (ch := fp) (fun b hb => ?_) (fun b o _ _ hc e _ => k b o hc e) (fun b o _ _ hc e _ => ⟨o.slots, k b o hc e⟩) (fun _ _ _ _ n => n) (fun b o hc e => ⟨o, k b o hc e⟩)
  (fun _ _ e => e) (fun _ _ _ e => e) (fun b ps e => ⟨#[], by rw [e]; simp⟩) (fun m hm => ?_) (fun b u e => ?_) I.bare
 . obtain ⟨f0, f1, f2, f3, f4, f5⟩ := hf b hb
   exact ⟨f3, f1, f4, f5⟩
 . obtain ⟨o, es, ep, ho, r⟩ := hm
   exact ⟨o, es, ep, k _ o hL ho, r⟩
 . refine (I.hok b u e).stay (fun c v hc q => k c v ?_ q) (fun _ q => q) fun _ _ q => q
   exact hc.elim (fun z => by rw [z]; exact nf b u e) fun z => nf c _ z
theorem ZkL {h : Heap} {o o' : Obj} {b : Addr} (hb : b < h.objs.size) (e : (h.push o).get? b = some o') : h.get? b = some o' := by
 (obtain ⟨e1, e2⟩ := Heap.get?_some_iff.mp e)
 refine Heap.get?_some_iff.mpr ⟨?_, e2⟩
 cases h
 simpa [Heap.push, Array.getElem?_push, Nat.ne_of_lt hb] using e1
theorem Inv.laidT {t' : Nat} {fp : List Addr} {xs : List V} {us : List Value} (I : Inv X pins σ H s) (r : Vals xs us) (hz : xs.length <= sizeLine) (ht : h'.get? s.heap.objs.size = some { cls := .type "tuple", data := .seq us.toArray })
 (k : ∀ b o, b ∉ fp -> s.heap.get? b = some o -> h'.get? b = some o) (hf : ∀ b ∈ fp, FpOk X pins H b) (hlt : ∀ b ∈ fp, b < s.heap.objs.size) : Inv X pins σ (upd H s.heap.objs.size (.tup xs)) { s with heap := h', toks := t' } := by
 have I1 : Inv X pins σ (upd H s.heap.objs.size (.tup xs)) { s with heap := s.heap.push { cls := .type "tuple", data := .seq us.toArray }, toks := t' } :=
  I.laid (fun b u e => Heap.get?_push_of_some _ e) (Nat.le_refl _) ⟨hz, us, r, ⟨_, Heap.get?_push_size _ rfl, rfl, _, rfl⟩⟩
 refine (fun (go : ∀ b o, b ∉ fp -> (s.heap.push { cls := .type "tuple", data := .seq us.toArray }).get? b = some o -> h'.get? b = some o) => ?_) fun b o hb e => ?_
 . exact Inv.turnedL (s := { s with heap := s.heap.push { cls := .type "tuple", data := .seq us.toArray }, toks := t' }) (fp := fp) (t' := t') (h' := h') I1 go fun b hb => ⟨by rw [Zv (Nat.ne_of_lt (hlt b hb))]; exact (hf b hb).1, (hf b hb).2⟩
 . by_cases hq : b = s.heap.objs.size
   . subst hq
     rw [Heap.get?_push_size _ rfl] at e
     rw [<- e]
     exact ht
   . have : b < s.heap.objs.size := by
      have := Heap.lt_size e
      rw [Heap.size_push] at this
      exact Nat.lt_of_le_of_ne (Nat.le_of_lt_succ this) hq
     exact k b o hb (ZkL this e)
end
noncomputable def Ite (K : Fg) (a : Addr) (c : Int) : It where
 go i H := ∃ xs x, SqL K H a xs /\ xs[i]? = some x
 yld i H x H' := ∃ A y, x = .ref A /\ H A = none /\ H' = upd H A (.tup [.int (c + i), y]) /\ ∀ xs, SqL K H a xs -> xs[i]? = some y
 stop i H := ∃ xs, SqL K H a xs /\ xs.length <= i
theorem ZmS {P : Program} {w : World} {K : Fg} {es : List Expr} {k1 : Nat} {pos : Pos} (a e it : Addr) (c : Int) (ne : e ≠ it) : Turn P w K (.Tuple es k1 pos) (Ite K a c) [e, it] e (fun i h => (∃ old, IsEnum h e it (c + (i : Nat)) old) /\ h.IsListIter it a i) where
 mem := by simp
 obj := fun i h st b hb => by
  obtain ⟨⟨old, he⟩, o, e1, e2, e3⟩ := st
  (rcases List.mem_cons.mp hb with rfl | hb)
  . exact ⟨_, he, fun v z => by
     have z' : Data.fields _ = Data.cell v := z
     cases z'⟩
  . have : b = it := by simpa using hb
    subst this
    exact ⟨o, e1, fun v z => by rw [e3] at z; cases z⟩
 keep := fun i h h' st k => ⟨st.1.imp fun old he => k e (by simp) _ he, st.2.at fun o y => k it (by simp) o y⟩
 item := by
  intro X hP hw hK hc i pins s σ H E I hf st hg
  subst hP hw hK
  obtain ⟨xs, x, hq, hx⟩ := hg
  obtain ⟨its, rv, p, hz⟩ := I.list hq
  obtain ⟨u, hu, ru⟩ := rv.get hx
  obtain ⟨⟨old, he⟩, hi⟩ := st
  have le : e < s.heap.objs.size := Heap.lt_size he
  have li : it < s.heap.objs.size := by obtain ⟨_, y, _⟩ := hi; exact Heap.lt_size y
  have lt : ∀ b ∈ [e, it], b < s.heap.objs.size := fun b hb => by
   (rcases List.mem_cons.mp hb with rfl | hb)
   . exact le
   . rw [List.mem_singleton.mp hb]; exact li
  refine Zp0 he hi p.isList (x := u) (by simpa using hu) ne fun h' ho hi' ht hk => ⟨_, rfl, ?_⟩
  refine wpAny_letOwnedTupleGo_enum ho fun h2 he2 hs2 => ?_
  have up : ∀ b o, b ≠ e -> h'.get? b = some o -> h2.get? b = some o := fun b o n y => hs2.extBut b o n y
  have I2 := I.laidT (fp := [e, it]) (h' := h2) (t' := s.toks + 1) (xs := [.int (c + i), x]) (us := [.int (c + i) s.toks, u]) (.cons ⟨_, rfl⟩ (.cons ru .nil)) (by simp [sizeLine])
   (up _ _ (Nat.ne_of_gt le) ht) (fun b o hb y => up b o (fun z => hb (by simp [z])) (hk b o (fun z => hb (by simp [z])) (fun z => hb (by simp [z])) y)) hf lt
  refine ⟨.ref s.heap.objs.size, _, I2, rfl, ⟨_, x, rfl, I.hok.fresh (Nat.le_refl _), rfl, fun ys hy => by rw [I.list_inj hy hq]; exact hx⟩, ⟨⟨u, ?_⟩, hi'.at fun o y => up it o (Ne.symm ne) y⟩, fun b hb => ?_⟩
  . have z : c + ((i + 1 : Nat) : Int) = c + i + 1 := by omega
    rw [z]
    exact he2
  . rw [Zv (Nat.ne_of_lt (lt b hb))]
    exact (hf b hb).1
 done := by
  intro X hP hw hK hc i pins s σ H E I hf st hg
  subst hP hw hK
  obtain ⟨xs, hq, hx⟩ := hg
  obtain ⟨its, rv, p, hz⟩ := I.list hq
  obtain ⟨⟨old, he⟩, hi⟩ := st
  have hl := rv.length
  exact Zrg (I.ok.hd hc) he hi p.isList (by simp; omega) fun h' eb => ⟨rfl, I.turnedL (t' := s.toks) (fun b o hb y => eb b o (fun z => hb (by simp [z])) y) hf⟩
 self := fun _ _ _ _ _ st h => by
  obtain ⟨⟨old, he⟩, _⟩ := st
  exact wpAny_pyIter_enum he h
section
variable {X : Cx} {es : List Expr} {k1 : Nat} {l ke : Expr} {t : TA} {p pos q kp : Pos} {c : Int}
noncomputable def ZoP (K : Fg) (c : Int) (t : TA) : TI := fun σ H R => t σ H fun vs H1 => ∃ a, vs = [.ref a] /\ (∃ xs, SqL K H1 a xs) /\ R (Ite K a c) H1
theorem ZsP {pins : List (Addr × Obj)} {σ : St} {H : Hp} {s : Shared} {h' : Heap} {R : It -> Hp -> Prop} {E : Value -> Shared -> Prop} {a : Addr} (I : Inv X pins σ H s) (he : IsEnum h' (s.heap.objs.size + 1) s.heap.objs.size c .none) (hi : h'.IsListIter s.heap.objs.size a 0)
 (hk : ∀ b o, s.heap.get? b = some o -> h'.get? b = some o) (z : R (Ite X.K a c) H) : wpAny (model X.prog X.w) X.A (pyIter (.ref (s.heap.objs.size + 1))) (PIE X pins σ (.Tuple es k1 q) R) E { s with heap := h' } := by
 refine wpAny_pyIter_enum he ⟨_, [s.heap.objs.size + 1, s.heap.objs.size], _, _, H, rfl, I.kept (t' := s.toks) hk, ZmS a _ _ c (Nat.succ_ne_self _), ⟨⟨_, by simpa using he⟩, hi⟩, fun b hb => ?_, z⟩
 have : s.heap.objs.size <= b := by
  (rcases List.mem_cons.mp hb with rfl | hb)
  . omega
  . rw [List.mem_singleton.mp hb]; exact Nat.le_refl _
 exact I.fpOk this (I.hok.fresh this)
theorem Zp1 (hg : Gl X "enumerate") (hm : X.mg "enumerate" = none) (ha : PA X [l] t) (hs : starEach [l] X.env = [(false, eval l X.env)] := by rfl) : PI X (.Tuple es k1 q) (.Call (.Name "enumerate" p) [l] [] pos) (ZoP X.K 0 t) := by
 intro pins s σ H R I h
 refine PyProof.Rows.Call_ (Zds I hg hm PyProof.Rows.boot_enumerate (PyProof.Rows.callWith_type1 (thn (ha pos pins s σ H _ I h) fun us s1 ⟨vs, H1, I1, r1, q1⟩ => ?_) hs rfl))
 obtain ⟨a, e, ⟨xs, hq⟩, z⟩ := q1
 subst e
 cases r1 with
 | cons r rr =>
  cases rr
  cases r
  obtain ⟨its, rv, pl, hz⟩ := I1.list hq
  exact call_enumerate_list pl.isList fun h' he hi _ hk => ZsP I1 he hi hk z
end
end L2
namespace L2
open PySem PySem.Spec
noncomputable def Itz (K : Fg) (a b : Addr) : It where
 go i H := ∃ xs ys x y, SqL K H a xs /\ SqL K H b ys /\ xs[i]? = some x /\ ys[i]? = some y
 yld i H x H' := ∃ A u v, x = .ref A /\ H A = none /\ H' = upd H A (.tup [u, v]) /\ (∀ xs, SqL K H a xs -> xs[i]? = some u) /\ ∀ ys, SqL K H b ys -> ys[i]? = some v
 stop i H := ∃ xs ys, SqL K H a xs /\ SqL K H b ys /\ (xs.length <= i \/ ys.length <= i)
theorem mem5 {P : Addr -> Prop} {z t u v w : Addr} (h1 : P z) (h2 : P t) (h3 : P u) (h4 : P v) (h5 : P w) : ∀ b ∈ [z, t, u, v, w], P b := fun b hb => by
 (simp only [List.mem_cons, List.not_mem_nil, or_false] at hb)
 rcases hb with rfl | rfl | rfl | rfl | rfl <;> assumption
theorem Zoa {P : Program} {w : World} {K : Fg} {es : List Expr} {k1 : Nat} {pos : Pos} (a b z TI TO i1 i2 : Addr) (ap : ZipApart z TI TO i1 i2 a b) : Turn P w K (.Tuple es k1 pos) (Itz K a b) [z, TI, TO, i1, i2] z
 (fun i h => IsZip h z TI TO .none /\ IsPair h TI (.ref i1) (.ref i2) /\ (∃ u v, IsPair h TO u v) /\ h.IsListIter i1 a i /\ h.IsListIter i2 b i) where
 mem := by simp
 obj := fun i h st => by
  obtain ⟨hz, hI, ⟨u, v, hO⟩, ⟨o1, e1, c1, d1⟩, ⟨o2, e2, c2, d2⟩⟩ := st
  refine mem5 (P := fun b => ∃ o, h.get? b = some o /\ ∀ v, o.data ≠ .cell v) ⟨_, hz, fun v q => ?_⟩ ⟨_, hI, fun v q => ?_⟩ ⟨_, hO, fun v q => ?_⟩ ⟨o1, e1, fun v q => by rw [d1] at q; cases q⟩ ⟨o2, e2, fun v q => by rw [d2] at q; cases q⟩
  . have q' : Data.fields _ = Data.cell v := q
    cases q'
  . have q' : Data.seq _ _ = Data.cell v := q
    cases q'
  . have q' : Data.seq _ _ = Data.cell _ := q
    cases q'
 keep := fun i h h' st k => ⟨k z (by simp) _ st.1, k TI (by simp) _ st.2.1, st.2.2.1.imp fun u hu => hu.imp fun v hv => k TO (by simp) _ hv, st.2.2.2.1.at fun o y => k i1 (by simp) o y, st.2.2.2.2.at fun o y => k i2 (by simp) o y⟩
 item := by
  intro X hP hw hK hc i pins s σ H E I hf st hg
  subst hP hw hK
  obtain ⟨xs, ys, x, y, hqx, hqy, hx, hy⟩ := hg
  obtain ⟨its, rv, p, _⟩ := I.list hqx
  obtain ⟨jts, rw', p', _⟩ := I.list hqy
  obtain ⟨u, hu, ru⟩ := rv.get hx
  obtain ⟨v, hv, rv'⟩ := rw'.get hy
  obtain ⟨hz, hI, ⟨u0, v0, hO⟩, hi1, hi2⟩ := st
  have lt : ∀ b ∈ [z, TI, TO, i1, i2], b < s.heap.objs.size := mem5 (P := fun b => b < s.heap.objs.size) (Heap.lt_size hz) (Heap.lt_size hI) (Heap.lt_size hO) (by obtain ⟨_, q, _⟩ := hi1; exact Heap.lt_size q) (by obtain ⟨_, q, _⟩ := hi2; exact Heap.lt_size q)
  refine wpAny_pyNext_zip_item ap hz hI hO hi1 hi2 p.isList p'.isList (x := u) (y := v) (by simpa using hu) (by simpa using hv) fun h' ho hO' hi1' hi2' hT _ hk => ⟨_, rfl, ?_⟩
  refine wpAny_letOwnedTupleGo_zip ho fun h2 hz2 hs2 => ?_
  have up : ∀ b o, b ≠ z -> h'.get? b = some o -> h2.get? b = some o := fun b o n q => hs2.extBut b o n q
  have zlt := lt z (by simp)
  have I2 := I.laidT (fp := [z, TI, TO, i1, i2]) (h' := h2) (t' := s.toks) (xs := [x, y]) (us := [u, v]) (.cons ru (.cons rv' .nil)) (by simp [sizeLine])
   (up _ _ (Nat.ne_of_gt zlt) hT) (fun b o hb q => up b o (fun e => hb (by simp [e])) (hk b o (fun e => hb (by simp [e])) (fun e => hb (by simp [e])) (fun e => hb (by simp [e])) (fun e => hb (by simp [e])) q)) hf lt
  have hI' : IsPair h' TI (.ref i1) (.ref i2) := hk TI _ ap.TIz ap.TITO ap.TIi1 ap.TIi2 hI
  refine ⟨.ref s.heap.objs.size, _, I2, rfl, ⟨_, x, y, rfl, I.hok.fresh (Nat.le_refl _), rfl, fun zs q => by rw [I.list_inj q hqx]; exact hx, fun zs q => by rw [I.list_inj q hqy]; exact hy⟩,
   ⟨hz2, up _ _ ap.TIz hI', ⟨u, v, up _ _ ap.TOz hO'⟩, hi1'.at fun o q => up i1 o ap.i1z q, hi2'.at fun o q => up i2 o ap.i2z q⟩, fun b hb => ?_⟩
  rw [Zv (Nat.ne_of_lt (lt b hb))]
  exact (hf b hb).1
 done := by
  intro X hP hw hK hc i pins s σ H E I hf st hg
  subst hP hw hK
  obtain ⟨xs, ys, hqx, hqy, hend⟩ := hg
  obtain ⟨its, rv, p, _⟩ := I.list hqx
  obtain ⟨jts, rw', p', _⟩ := I.list hqy
  obtain ⟨hz, hI, ⟨u0, v0, hO⟩, hi1, hi2⟩ := st
  have l1 := rv.length
  have l2 := rw'.length
  refine wpAny_pyNext_zip_end (I.ok.hd hc) ap hz hI hO hi1 hi2 p.isList p'.isList ?_ fun h' hk => ⟨rfl, I.turnedL (t' := s.toks) (fun b o hb q => hk b o (fun e => hb (by simp [e])) (fun e => hb (by simp [e])) (fun e => hb (by simp [e])) (fun e => hb (by simp [e])) q) hf⟩
  rcases hend with h | h
  . exact .inl (by simp; omega)
  . exact .inr (by simp; omega)
 self := fun _ _ _ _ _ st h => wpAny_pyIter_zip st.1 h
section
variable {X : Cx} {es : List Expr} {k1 : Nat} {l r : Expr} {t : TA} {p pos q : Pos}
noncomputable def iZip (K : Fg) (t : TA) : TI := fun σ H R => t σ H fun vs H1 => ∃ a b, vs = [.ref a, .ref b] /\ (∃ xs, SqL K H1 a xs) /\ (∃ ys, SqL K H1 b ys) /\ R (Itz K a b) H1
theorem Zrh (hg : Gl X "zip") (hm : X.mg "zip" = none) (ha : PA X [l, r] t) (hs : starEach [l, r] X.env = [(false, eval l X.env), (false, eval r X.env)] := by rfl) (hs2 : starEach [r] X.env = [(false, eval r X.env)] := by rfl) : PI X (.Tuple es k1 q) (.Call (.Name "zip" p) [l, r] [] pos) (iZip X.K t) := by
 intro pins s σ H R I h
 refine PyProof.Rows.Call_ (Zds I hg hm PyProof.Rows.boot_zip (PyProof.Rows.callWith_type1 (thn (ha pos pins s σ H _ I h) fun us s1 ⟨vs, H1, I1, r1, q1⟩ => ?_) (by rw [hs, hs2]) (by rw [hs2]; rfl)))
 obtain ⟨a, b, e, ⟨xs, hq⟩, ⟨ys, hq'⟩, y⟩ := q1
 subst e
 cases r1 with
 | cons u uu =>
  cases uu with
  | cons u' uu =>
   cases uu
   cases u
   cases u'
   obtain ⟨its, rv, pl, _⟩ := I1.list hq
   obtain ⟨jts, rw', pl', _⟩ := I1.list hq'
   have la : @LT.lt Nat _ a s1.heap.objs.size := by obtain ⟨o, n, e, _⟩ := pl; exact Heap.lt_size e
   have lb : @LT.lt Nat _ b s1.heap.objs.size := by obtain ⟨o, n, e, _⟩ := pl'; exact Heap.lt_size e
   refine call_zip_2 pl.isList pl'.isList fun h' hz hI hO hi1 hi2 _ hk => wpAny_pyIter_zip hz ?_
   generalize hn : s1.heap.objs.size = n at *
   have ap : ZipApart (n + 4) (n + 2) (n + 3) n (n + 1) a b := by
    have c1 : @LT.lt Nat _ a n := la
    have c2 : @LT.lt Nat _ b n := lb
    constructor <;> (first | exact Nat.ne_of_lt (by omega) | exact Nat.ne_of_gt (by omega))
   refine ⟨_, [n + 4, n + 2, n + 3, n, n + 1], _, _, H1, rfl, I1.kept (t' := s1.toks) hk, Zoa a b _ _ _ _ _ ap, ⟨hz, hI, ⟨_, _, hO⟩, hi1, hi2⟩, ?_, y⟩
   refine mem5 (P := fun b => FpOk X pins H1 b) ?_ ?_ ?_ ?_ ?_ <;> exact I1.fpOk (by rw [hn]; omega) (I1.hok.fresh (by rw [hn]; omega))
end
end L2
namespace L2
open PySem PySem.Spec PyProof.Rows
theorem ZlV : typeLookup (.type "list_reverseiterator") "__len__" = pure none := by rw [typeLookup_type, builtinLookup_eq_fast]; kernel_rfl
theorem Zob : typeLookup (.type "list_reverseiterator") "__length_hint__" = pure (some (.builtin "list_reverseiterator.__length_hint__")) := by rw [typeLookup_type, builtinLookup_eq_fast]; kernel_rfl
section
variable {prog : Program} {w : World} {A : Around} {E : Value -> Shared -> Prop} {s : Shared}
theorem Zoc {it l : Addr} {i : Int} {Q : Bool -> Shared -> Prop} (hit : s.heap.IsRevIter it l i) (h : Q false s) : wpAny (model prog w) A (Builtin.List.listLengthHint (.ref it)) Q E s := by
 (unfold Builtin.List.listLengthHint)
 refine wpAny_bind (wpAny_specialOf hit.typeIs ZlV ?_)
 dsimp only
 (refine wpAny_ite_split (fun hab => absurd hab (by decide +kernel)) (fun _ => ?_))
 (refine wpAny_ite_split (fun hab => absurd hab (by decide +kernel)) (fun _ => ?_))
 refine wpAny_bind (wpAny_specialOf hit.typeIs Zob ?_)
 dsimp only
 generalize hid : ("list_reverseiterator.__length_hint__" : String) = id0
 rw [show splitId id0 = some ("list_reverseiterator", "__length_hint__") from by subst hid; decide +kernel]
 subst hid
 dsimp only
 refine wpAny_bind (wpAny_isInstance (T := "list_reverseiterator") (b := true) hit.typeIs (by rw [isSubtype_type]; kernel_rfl) ?_)
 (refine wpAny_ite_split (fun hab => absurd hab (by decide)) (fun _ => ?_))
 (refine wpAny_ite_split (fun _ => ?_) (fun hab => absurd (by decide +kernel) hab))
 (refine wpAny_ite_split (fun hab => absurd hab (by decide +kernel)) (fun _ => ?_))
 exact wpAny_pure h
theorem ZlW {R : Result -> Shared -> Prop} {r l : Addr} {items : Array Value} (hh : A.handled = none) (hit : s.heap.IsRevIter r l ((items.size : Int) - 1)) (hl : s.heap.IsList l items) (hne : l ≠ r) (hlen : items.size <= sizeLine)
 (S : Addr) (res : Value) (c₀ : Nat) (hS : s.heap.get? S = some { cls := .type "list", data := .seq #[] c₀ }) (hSr : S ≠ r) (hSl : S ≠ l)
 (hR : ∀ h' tk acc' c', (∀ b o, b ≠ S -> b ≠ r -> s.heap.get? b = some o -> h'.get? b = some o) -> h'.get? S = some { cls := .type "list", dict := none, data := .seq acc' c', slots := #[] } ->
  ItemsOf (fun i v => items[items.size - 1 - i]? = some v) acc' items.size -> R (.ok (.ret res)) { s with heap := h', toks := tk }) : wpAny (model prog w) A.in1 (Builtin.List.listExtendWith (.ref S) (.ref r) res)
  (fun fin s' => match fin with | .done f => R (.ok f) s' | .again c' => c'.quiet = true /\ codeAny (model prog w) A c' R s') (fun e s' => R (.error e) s') s := by
 have W := (Walks.listRev (prog := prog) (w := w) (A := A.in1) hh r l hne items).toS
 have hSf : S ∉ [r, l] := fun hm => by
  (rcases List.mem_cons.mp hm with e | hm)
  . exact hSr e
  . exact hSl (List.mem_singleton.mp hm)
 have e0 : (items.size : Int) - 1 - ((0 : Nat) : Int) = (items.size : Int) - 1 := by omega
 have st0 : (0 <= items.size /\ s.heap.IsRevIter r l ((items.size : Int) - 1 - ((0 : Nat) : Int)) /\ s.heap.IsList l items) := ⟨Nat.zero_le _, by rw [e0]; exact hit, hl⟩
 (unfold Builtin.List.listExtendWith)
 refine wpAny_bind (wpAny_typeOf hit.typeIs ?_)
 (have h1 : Builtin.List.listSameRef (.ref S) (.ref r) = false := by simp [Builtin.List.listSameRef, hSr])
 have h2 : (Value.type "list_reverseiterator" == Value.type "list") = false := by decide
 have h3 : (Value.type "list_reverseiterator" == Value.type "tuple") = false := by decide
 (simp only [h1, h2, h3, Bool.or_false, Bool.false_eq_true, if_false])
 refine wpAny_bind (wpAny_pyIter_revIter hit ?_)
 refine wpAny_bind (wpAny_holding (Zoc hit ?_))
 refine wpAny_ite_split (fun hab => absurd hab (by decide)) (fun _ => wpAny_pure ⟨plainId_quiet PySem.F.plain_extend_loop _, ?_⟩)
 refine codeAny_extend_loopS W hlen S hSf res items.size 0 _ #[] c₀ rfl (Nat.zero_le _) st0 hS (ItemsOf.nil _) fun s' acc' c' hm hS' hacc => ?_
 rw [Moved.eq_with hm]
 refine hR s'.heap s'.toks acc' c' (fun b o hb hb2 e => hm.heap b o (fun hmem => ?_) e) hS' hacc
 (rcases List.mem_cons.mp hmem with e' | hmem)
 . exact hb e'
 . exact hb2 (List.mem_singleton.mp hmem)
theorem Zod {R : Result -> Shared -> Prop} {r l : Addr} {items : Array Value} (hh : A.handled = none) (hit : s.heap.IsRevIter r l ((items.size : Int) - 1)) (hl : s.heap.IsList l items) (hne : l ≠ r) (hlen : items.size <= sizeLine)
 (S : Addr) (hS : s.heap.get? S = some { cls := .type "list", data := .seq #[] }) (hSr : S ≠ r) (hSl : S ≠ l)
 (hR : ∀ h' tk acc' c', (∀ b o, b ≠ S -> b ≠ r -> s.heap.get? b = some o -> h'.get? b = some o) -> h'.get? S = some { cls := .type "list", dict := none, data := .seq acc' c', slots := #[] } ->
  ItemsOf (fun i v => items[items.size - 1 - i]? = some v) acc' items.size -> R (.ok (.ret .none)) { s with heap := h', toks := tk }) : wpAny (model prog w) A.in1 (Builtin.«list.__init__» ⟨[.ref S, .ref r], []⟩)
  (fun fin s' => match fin with | .done f => R (.ok f) s' | .again c' => c'.quiet = true /\ codeAny (model prog w) A c' R s') (fun e s' => R (.error e) s') s := by
 (show wpAny _ _ (do let old <- Builtin.List.listItems (.ref S); Builtin.List.listUpdate (.ref S) (fun _ => #[]); letGo old.toList.reverse; Builtin.List.listExtendWith (.ref S) (.ref r) .none) _ _ s)
 refine wpAny_bind ?_
 unfold Builtin.List.listItems
 (refine wpAny_bind (wpAny_seqItems hS rfl (wpAny_pure ?_)))
 (show wpAny _ _ (updateSeq S (fun _ => #[]) >>= fun _ => letGo (#[] : Array Value).toList.reverse >>= fun _ => Builtin.List.listExtendWith (.ref S) (.ref r) .none) _ _ s)
 (refine wpAny_bind (wpAny_updateSeq hS rfl ?_))
 (have hS₂ := Heap.get?_update_self (Obj.mapSeq (fun _ => (#[] : Array Value))) hS rfl)
 have oth : ∀ b o, b ≠ S -> s.heap.get? b = some o -> (s.heap.update S (Obj.mapSeq (fun _ => (#[] : Array Value)))).get? b = some o := fun b o hb e => (Heap.get?_update_other _ _ (Ne.symm hb)).trans e
 refine wpAny_bind (wpAny_letGo ?_)
 refine ZlW hh (hit.at fun o e => oth r o (Ne.symm hSr) e) (hl.at fun o e => oth l o (Ne.symm hSl) e) hne hlen S .none _ hS₂ hSr hSl fun h' tk acc' c' hk hS' hacc => ?_
 exact hR h' tk acc' c' (fun b o hb hb2 e => hk b o hb hb2 (oth b o hb e)) hS' hacc
theorem ZjC {Q : Value -> Shared -> Prop} {r l : Addr} {items : Array Value} (hh : A.handled = none) (hit : s.heap.IsRevIter r l ((items.size : Int) - 1)) (hl : s.heap.IsList l items) (hne : l ≠ r) (hlen : items.size <= sizeLine)
 (hQ : ∀ h' tk acc' c', (∀ b o, b ≠ r -> s.heap.get? b = some o -> h'.get? b = some o) -> h'.get? s.heap.objs.size = some { cls := .type "list", dict := none, data := .seq acc' c', slots := #[] } ->
  ItemsOf (fun i v => items[items.size - 1 - i]? = some v) acc' items.size -> Q (.ref s.heap.objs.size) { s with heap := h', toks := tk }) : wpAny (model prog w) A (call (.type "list") [.ref r]) Q E s := by
 refine callType_codes (Q₁ := fun obj s₁ => obj = .ref s.heap.objs.size /\ s₁ = { s with heap := s.heap.push { cls := .type "list", data := .seq #[] } }) PySem.F.called_list (PySem.F.typeCall_list_1 _) PySem.F.entry_list_init (code_list_new _ ⟨rfl, rfl⟩) fun obj s₁ h₁ => ?_
 obtain ⟨rfl, rfl⟩ := h₁
 (have hS : (s.heap.push { cls := .type "list", data := .seq #[] }).get? s.heap.objs.size = some { cls := .type "list", data := .seq #[] } := Heap.get?_push_size _ rfl)
 have hrlt : r < s.heap.objs.size := by obtain ⟨o, ho, _⟩ := hit; exact Heap.lt_size ho
 have hllt : l < s.heap.objs.size := by obtain ⟨o, ho, _⟩ := hl; exact Heap.lt_size ho
 refine ⟨⟨_, hS, rfl⟩, PySem.F.args_list_init_2 _ _, Zod (A := A.in1) hh (hit.at fun o e => Heap.get?_push_of_some _ e) (hl.at fun o e => Heap.get?_push_of_some _ e) hne hlen _ hS (Nat.ne_of_gt hrlt) (Nat.ne_of_gt hllt) fun h' tk acc' c' hk hS' hacc => ?_⟩
 exact ⟨rfl, hQ h' tk acc' c' (fun b o hb e => hk b o (Nat.ne_of_lt (Heap.lt_size e)) hb (Heap.get?_push_of_some _ e)) hS' hacc⟩
end
end L2
namespace L2
open PySem PySem.Spec PyProof.Rows
theorem ZmT {its : List Value} {acc : Array Value} (h : ItemsOf (fun i v => its.toArray[its.toArray.size - 1 - i]? = some v) acc its.toArray.size) : acc = its.reverse.toArray := by
 obtain ⟨h1, h2⟩ := h
 apply Array.ext'
 apply List.ext_getElem?
 intro i
 have e1 : its.toArray.size = its.length := by simp
 rw [e1] at h1 h2
 by_cases hi : i < its.length
 . have hi' : i < acc.size := by rw [h1]; exact hi
   have q := h2 i acc[i] (Array.getElem?_eq_getElem hi')
   rw [Array.getElem?_toList, Array.getElem?_eq_getElem hi', List.getElem?_reverse hi]
   rw [<- q]
   simp
 . rw [Array.getElem?_toList, Array.getElem?_eq_none (by omega), List.getElem?_eq_none (by simp; omega)]
theorem Vals.reverse' {xs : List V} {its : List Value} (r : Vals xs its) : Vals xs.reverse its.reverse := by
 induction r with
 | nil => exact .nil
 | cons a b ih => rw [List.reverse_cons, List.reverse_cons]; exact ih.append (.cons a .nil)
def tRev (K : Fg) (ta : TE) : TE := fun σ H Q => ta σ H fun x H1 => ∃ l xs, x = .ref l /\ SqL K H1 l xs /\ ∀ p, H1 p = none -> Q (.ref p) (upd H1 p (.lst xs.reverse))
section
variable {X : Cx}
theorem Zri {a : Expr} {ta : TE} {p p2 pos pos2 : Pos} (hc : X.calm = true) (hg : Gl X "list") (hm : X.mg "list" = none) (hg2 : Gl X "reversed") (hm2 : X.mg "reversed" = none) (ha : PE X a ta)
 (hs : starEach [.Call (.Name "reversed" p2) [a] [] pos2] X.env = [(false, eval (.Call (.Name "reversed" p2) [a] [] pos2) X.env)] := by rfl) (hs2 : starEach [a] X.env = [(false, eval a X.env)] := by rfl) :
 PE X (.Call (.Name "list" p) [.Call (.Name "reversed" p2) [a] [] pos2] [] pos) (tRev X.K ta) := by
 intro pins s σ H Q I h
 refine Call_ (Zds I hg hm (by decide +kernel) (PyProof.Rows.callWith_type1 (T := "list") ?_ hs rfl))
 rw [hs]
 show wpAny _ _ (spliced [(false, eval (.Call (.Name "reversed" p2) [a] [] pos2) X.env)]) _ _ s
 refine Calls.spliced_cons ?_
 refine Call_ (Zds I hg2 hm2 boot_reversed (PyProof.Rows.callWith_type1 (T := "reversed") ?_ hs2 rfl))
 rw [hs2]
 show wpAny _ _ (spliced [(false, eval a X.env)]) _ _ s
 refine Calls.spliced_cons (thn (ha pins s σ H _ I h) fun u s1 ⟨x, H1, I1, r1, q1⟩ => Calls.spliced_nil ?_)
 obtain ⟨l, xs, rfl, hq, q⟩ := q1
 cases r1
 obtain ⟨its, rv, pl, hz⟩ := I1.list hq
 have hlen := rv.length
 have hll : l < s1.heap.objs.size := by obtain ⟨o, ho, _⟩ := pl.isList; exact Heap.lt_size ho
 refine call_reversed_list pl.isList (Calls.spliced_nil ?_)
 refine ZjC (I1.ok.hd hc) ⟨_, Heap.get?_push_size _ rfl, rfl, rfl⟩ (pl.isList.at fun o e => Heap.get?_push_of_some _ e) (Nat.ne_of_lt hll) (by simp; omega) fun h' tk acc' c' hk hS hacc => ?_
 have ea := ZmT hacc
 subst ea
 have hsz : (s1.heap.push (revObj l ((its.toArray.size : Int) - 1))).objs.size = s1.heap.objs.size + 1 := Heap.size_push ..
 have hfr : H1 (s1.heap.objs.size + 1) = none := I1.hok.fresh (Nat.le_succ _)
 refine ⟨.ref (s1.heap.objs.size + 1), upd H1 (s1.heap.objs.size + 1) (.lst xs.reverse), I1.laid (t' := tk) (fun b u e => hk b u (Nat.ne_of_lt (Heap.lt_size e)) (Heap.get?_push_of_some _ e)) (Nat.le_succ _) ⟨by rw [List.length_reverse]; exact hz, its.reverse, c', rv.reverse', ?_⟩, ?_, q _ hfr⟩
 . rw [<- hsz]; exact hS
 . rw [hsz]; rfl
end
end L2
namespace L2
open PySem PySem.Spec PyProof.Rows
theorem Zlt {α β : Type} (f : α -> Option β) (g : α -> β) : ∀ l : List α, (∀ a ∈ l, f a = some (g a)) -> l.filterMap f = l.map g
 | [], _ => rfl
 | a :: l, h => by rw [List.filterMap_cons, h a List.mem_cons_self, List.map_cons, Zlt f g l fun x hx => h x (List.mem_cons_of_mem _ hx)]
theorem ZmU (its : List Value) : slicePick its.toArray none none (some (-1)) = its.reverse.toArray := by
 unfold slicePick
 have e : sliceRange (sliceBounds none none (some (-1)) its.toArray.size).1 (sliceBounds none none (some (-1)) its.toArray.size).2.1 (sliceBounds none none (some (-1)) its.toArray.size).2.2 = (List.range its.length).map fun k => its.length - 1 - k := by
  have hs : its.toArray.size = its.length := by simp
  rw [hs]
  show sliceRange ((its.length : Int) - 1) (-1) (-1) = _
  unfold sliceRange
  have hc : (if (-1 : Int) > 0 then (if (its.length : Int) - 1 < -1 then ((-1 : Int) - ((its.length : Int) - 1) + -1 - 1) / -1 else 0) else (if (its.length : Int) - 1 > -1 then ((its.length : Int) - 1 - -1 - -1 - 1) / (- -1) else 0)).toNat = its.length := by
   rw [if_neg (by decide)]
   by_cases hn : (its.length : Int) - 1 > -1
   . rw [if_pos hn, show (- -1 : Int) = 1 by decide, Int.ediv_one]; omega
   . rw [if_neg hn]; omega
  dsimp only
  rw [hc]
  refine List.map_congr_left fun k hk => ?_
  have := List.mem_range.mp hk
  omega
 rw [e, List.filterMap_map]
 congr 1
 rw [Zlt _ (fun k => its.getD (its.length - 1 - k) .none)]
 . apply List.ext_getElem?
   intro i
   rw [List.getElem?_map]
   by_cases hi : i < its.length
   . rw [List.getElem?_range hi, List.getElem?_reverse hi, Option.map_some, List.getD_eq_getElem?_getD, List.getElem?_eq_getElem (by omega)]
     rfl
   . rw [List.getElem?_eq_none (by simp; omega), List.getElem?_eq_none (by simp; omega)]
     rfl
 . intro k hk
   have := List.mem_range.mp hk
   show its.toArray[its.length - 1 - k]? = _
   rw [List.getElem?_toArray, List.getD_eq_getElem?_getD, List.getElem?_eq_getElem (by omega)]
   rfl
section
variable {X : Cx} {e st : Expr} {te : TE} {pos p2 : Pos}
theorem Zp2 (he : PE X e te) (hst : PE X st (tC (.int (-1)))) : PE X (.Subscript e (.Slice none none (some st) p2) pos) (tRev X.K te) := by
 intro pins s σ H Q I h
 refine Subscript_ (thn (he pins s σ H _ I h) fun v s1 ⟨x, H1, I1, r1, q1⟩ => ?_)
 obtain ⟨l, xs, rfl, hq, q⟩ := q1
 refine wpAny_Slice (thn (ZiJ pins s1 σ H1 (fun o H2 => o = none /\ H2 = H1) I1 ⟨rfl, rfl⟩) fun vl s2 ⟨o1, H2, I2, pl, e1, e2⟩ => thn (ZiJ pins s2 σ H2 (fun o H3 => o = none /\ H3 = H2) I2 ⟨rfl, rfl⟩) fun vu s3 ⟨o2, H3, I3, pu, e3, e4⟩ => ?_)
 subst e1 e2 e3 e4
 refine thn (Zln hst pins s3 σ _ (fun o H4 => o = some (-1) /\ H4 = _) I3 ⟨-1, rfl, rfl, rfl⟩) fun vs s4 ⟨o3, H4, I4, ps, e5, e6⟩ => ?_
 subst e5 e6
 have I5 : Inv X pins σ _ { s4 with heap := s4.heap.push { cls := .type "slice", data := .fields #[vl, vu, vs] } } := I4.kept (t' := s4.toks) fun b ob q => Heap.get?_push_of_some _ q
 show wpAny (model X.prog X.w) X.A (subscriptTail e (.Slice none none (some st) p2) v (.ref s4.heap.objs.size)) (EP X pins σ Q) X.xe { s4 with heap := s4.heap.push { cls := .type "slice", data := .fields #[vl, vu, vs] } }
 cases r1
 obtain ⟨its, rv, pL, hz⟩ := I5.list hq
 have hlen := rv.length
 refine tail_any (ops := [.ref l, .ref s4.heap.objs.size]) pL.isList.typeIs slot_list_getitem.lookup ?_ (by with_unfolding_all rfl)
 refine wpAny_getItem_list_slice pL.isList (Heap.IsSliceOf.new ..) pl pu ps (by decide) ?_ (by rw [List.size_toArray] <;> omega)
 rw [ZmU]
 exact ⟨.ref _, _, I5.lnew (t' := s4.toks) rv.reverse (by rw [List.length_reverse]; exact hz), rfl, q _ I5.fresh⟩
end
end L2
namespace T
open PySem L2
inductive Kd where
 | lst | frl | tup | ftp | dic (ks : List (List Key)) | ins (C : Addr) (fs : List Str)
 deriving DecidableEq
inductive D where
 | sc (v : V) | hole | node (k : Kd) (o : Bool) (ds : List D)
mutual
noncomputable def shr : D -> D
 | .sc v => .sc v
 | .hole => .hole
 | .node k _ ds => .node k false (shrL ds)
noncomputable def shrL : List D -> List D
 | [] => []
 | d :: ds => shr d :: shrL ds
end
def Zgo (K : Fg) (H : Hp) (a : Addr) (vs : List V) : Kd -> Prop
 | .lst => H a = some (.lst vs)
 | .frl => SqL K H a vs
 | .tup => H a = some (.tup vs)
 | .ftp => SqT K H a vs
 | .dic ks => ks.length = vs.length /\ H a = some (.dT (ks.zip vs))
 | .ins C fs => fs.length = vs.length /\ ∃ dx, H a = some (.ins C dx (fs.zip vs))
def ZbI (H : Hp) (a : Addr) (vs : List V) : Kd -> Prop
 | .lst => H a = some (.lst vs)
 | .frl => False
 | .tup => H a = some (.tup vs)
 | .ftp => False
 | .dic ks => ks.length = vs.length /\ H a = some (.dT (ks.zip vs))
 | .ins C fs => fs.length = vs.length /\ ∃ dx, H a = some (.ins C dx (fs.zip vs))
theorem ZbI.r {K : Fg} {H : Hp} {a : Addr} {vs : List V} {k : Kd} (h : ZbI H a vs k) : Zgo K H a vs k := by
 cases k with
 | lst => exact h
 | frl => exact h.elim
 | tup => exact h
 | ftp => exact h.elim
 | dic ks => exact h
 | ins C fs => exact h
theorem ZbI.at {H : Hp} {a : Addr} {vs : List V} {k : Kd} (h : ZbI H a vs k) : H a ≠ none := by
 cases k with
 | lst => rw [show H a = _ from h]; simp
 | frl => exact h.elim
 | tup => rw [show H a = _ from h]; simp
 | ftp => exact h.elim
 | dic ks => rw [h.2]; simp
 | ins C fs => obtain ⟨_, dx, e⟩ := h; rw [e]; simp
theorem ZbI.eq {H H' : Hp} {a : Addr} {vs : List V} {k : Kd} (h : ZbI H a vs k) (e : H' a = H a) : ZbI H' a vs k := by
 cases k with
 | lst => exact e.trans h
 | frl => exact h.elim
 | tup => exact e.trans h
 | ftp => exact h.elim
 | dic ks => exact ⟨h.1, e.trans h.2⟩
 | ins C fs => obtain ⟨l, dx, q⟩ := h; exact ⟨l, dx, e.trans q⟩
theorem Same.tupq' {K : Fg} {H H' : Hp} {a : Addr} {xs : List V} (e : Same H H') (h : SqT K H a xs) : SqT K H' a xs := by
 rcases h with (h | ⟨o, h⟩) | h
 . exact .inl (.inl (e _ _ h))
 . exact .inl (.inr ⟨o, e _ _ h⟩)
 . exact .inr h
theorem Zgo.same {K : Fg} {H H' : Hp} {a : Addr} {vs : List V} {k : Kd} (e : Same H H') (h : Zgo K H a vs k) : Zgo K H' a vs k := by
 cases k with
 | lst => exact e _ _ h
 | frl => exact e.seq h
 | tup => exact e _ _ h
 | ftp => exact Same.tupq' e h
 | dic ks => exact ⟨h.1, e _ _ h.2⟩
 | ins C fs => obtain ⟨l, dx, q⟩ := h; exact ⟨l, dx, e _ _ q⟩
noncomputable abbrev Bud := Addr -> Nat
noncomputable def one (a : Addr) : Bud := fun b => if b = a then 1 else 0
mutual
inductive Rep (K : Fg) (H Hs : Hp) : V -> D -> Bud -> Prop
 | sc (v : V) (m : Bud) : Rep K H Hs v (.sc v) m
 | hole (v : V) (m : Bud) : Rep K H Hs v .hole m
 | own {a : Addr} {k : Kd} {vs : List V} {ds : List D} {m m' : Bud} : ZbI H a vs k -> RepL K H Hs vs ds m' -> (∀ b, one a b + m' b <= m b) -> Rep K H Hs (.ref a) (.node k true ds) m
 | shd {a : Addr} {k : Kd} {vs : List V} {ds : List D} {m : Bud} : Zgo K Hs a vs k -> RepL K H Hs vs ds (fun _ => 0) -> Rep K H Hs (.ref a) (.node k false ds) m
inductive RepL (K : Fg) (H Hs : Hp) : List V -> List D -> Bud -> Prop
 | nil (m : Bud) : RepL K H Hs [] [] m
 | cons {v : V} {d : D} {vs : List V} {ds : List D} {m1 m2 m : Bud} : Rep K H Hs v d m1 -> RepL K H Hs vs ds m2 -> (∀ b, m1 b + m2 b <= m b) -> RepL K H Hs (v :: vs) (d :: ds) m
end
structure Good (H Hs : Hp) (M : Bud) : Prop where
 sub : Same Hs H
 le : ∀ b, M b <= 1
 ne : ∀ b, M b = 1 -> Hs b = none
 has : ∀ b, M b = 1 -> H b ≠ none
structure Stp (H Hs : Hp) (M : Bud) (H' Hs' : Hp) (M' : Bud) : Prop where
 keep : ∀ b o, H b = some o -> M b = 0 -> H' b = some o
 own : ∀ b, M' b = 1 -> M b = 1 \/ H b = none
 grow : Same Hs Hs'
 shr : ∀ b, Hs b = none -> Hs' b ≠ none -> M b = 1 \/ H b = none
 stay : ∀ b, H b ≠ none -> H' b ≠ none
section
variable {K : Fg} {H Hs H' Hs' H1 Hs1 H2 Hs2 : Hp} {M M' M1 M2 m m1 m2 m' : Bud}
mutual
theorem Rep.mono : ∀ {v : V} {d : D} {m m' : Bud}, Rep K H Hs v d m -> (∀ b, m b <= m' b) -> Rep K H Hs v d m'
 | _, _, _, _, .sc v _, _ => .sc v _
 | _, _, _, _, .hole v _, _ => .hole v _
 | _, _, _, _, .own n r h, l => .own n r fun b => Nat.le_trans (h b) (l b)
 | _, _, _, _, .shd n r, _ => .shd n r
end
theorem RepL.mono {vs : List V} {ds : List D} {m m' : Bud} (h : RepL K H Hs vs ds m) (l : ∀ b, m b <= m' b) : RepL K H Hs vs ds m' := by
 cases h with
 | nil => exact .nil _
 | cons a b c => exact .cons a b fun x => Nat.le_trans (c x) (l x)
mutual
theorem Rep.frame (g : Same Hs Hs') : ∀ {v : V} {d : D} {m : Bud}, (∀ b, m b ≥ 1 -> H b ≠ none -> H' b = H b) -> Rep K H Hs v d m -> Rep K H' Hs' v d m
 | _, _, _, _, .sc v _ => .sc v _
 | _, _, _, _, .hole v _ => .hole v _
 | _, _, m, k, .own (a := a) (m' := m') n r h => by
  have h1 : m a ≥ 1 := by have := h a; simp only [one, if_pos] at this; omega
  refine .own (n.eq (k a h1 n.at)) (RepL.frame g (fun b hb hn => k b ?_ hn) r) h
  have := h b
  omega
 | _, _, _, k, .shd n r => .shd (n.same g) (RepL.frame g (fun b hb => absurd hb (by simp)) r)
theorem RepL.frame (g : Same Hs Hs') : ∀ {vs : List V} {ds : List D} {m : Bud}, (∀ b, m b ≥ 1 -> H b ≠ none -> H' b = H b) -> RepL K H Hs vs ds m -> RepL K H' Hs' vs ds m
 | _, _, _, _, .nil _ => .nil _
 | _, _, m, k, .cons (m1 := m1) (m2 := m2) x y h => by
  refine .cons (Rep.frame g (fun b hb => k b ?_) x) (RepL.frame g (fun b hb => k b ?_) y) h
  . have := h b; omega
  . have := h b; omega
end
theorem Good.drop (g : Good H Hs M) (l : ∀ b, M' b <= M b) : Good H Hs M' :=
 ⟨g.sub, fun b => Nat.le_trans (l b) (g.le b), fun b h => g.ne b (by have := l b; have := g.le b; omega), fun b h => g.has b (by have := l b; have := g.le b; omega)⟩
theorem Stp.drop (s : Stp H Hs M H' Hs' M1) (l : ∀ b, M2 b <= M1 b) (le : ∀ b, M1 b <= 1) : Stp H Hs M H' Hs' M2 :=
 ⟨s.keep, fun b h => s.own b (by have := l b; have := le b; omega), s.grow, s.shr, s.stay⟩
theorem Stp.refl (H Hs : Hp) (M : Bud) : Stp H Hs M H Hs M := ⟨fun _ _ h _ => h, fun _ h => .inl h, Same.refl _, fun _ h h' => absurd h h', fun _ h => h⟩
theorem Zx (g : Good H Hs M) (g1 : Good H1 Hs1 (fun b => m1 b + M1 b)) (s1 : Stp H Hs M H1 Hs1 (fun b => m1 b + M1 b)) (g2 : Good H2 Hs2 M2) (s2 : Stp H1 Hs1 M1 H2 Hs2 M2) :
 Good H2 Hs2 (fun b => m1 b + M2 b) /\ Stp H Hs M H2 Hs2 (fun b => m1 b + M2 b) /\ (∀ b, m1 b ≥ 1 -> H1 b ≠ none -> H2 b = H1 b) := by
 have d : ∀ b, m1 b = 1 -> M2 b = 0 := fun b h => by
  have l1 : m1 b + M1 b <= 1 := g1.le b
  have l2 := g2.le b
  have : M2 b ≠ 1 := fun e => by
   rcases s2.own b e with q | q
   . omega
   . exact g1.has b (by show m1 b + M1 b = 1; omega) q
  omega
 have k1 : ∀ b, m1 b ≥ 1 -> H1 b ≠ none -> H2 b = H1 b := fun b h n => by
  have l1 : m1 b + M1 b <= 1 := g1.le b
  cases q : H1 b with
  | none => exact absurd q n
  | some o => exact s2.keep b o q (by omega)
 refine ⟨⟨g2.sub, fun b => ?_, fun b h => ?_, fun b h => ?_⟩, ⟨fun b o e z => ?_, fun b h => ?_, s1.grow.trans s2.grow, fun b n n' => ?_, fun b n => s2.stay b (s1.stay b n)⟩, k1⟩
 . have l1 : m1 b + M1 b <= 1 := g1.le b
   have l2 := g2.le b
   show m1 b + M2 b <= 1
   by_cases h : m1 b = 1
   . have := d b h; omega
   . omega
 . have h : m1 b + M2 b = 1 := h
   have l1 : m1 b + M1 b <= 1 := g1.le b
   by_cases h1 : m1 b = 1
   . cases q : Hs2 b with
     | none => rfl
     | some o =>
      have n1 : Hs1 b = none := g1.ne b (by show m1 b + M1 b = 1; omega)
      rcases s2.shr b n1 (by rw [q]; simp) with z | z
      . omega
      . exact absurd z (g1.has b (by show m1 b + M1 b = 1; omega))
   . exact g2.ne b (by omega)
 . have h : m1 b + M2 b = 1 := h
   have l1 : m1 b + M1 b <= 1 := g1.le b
   by_cases h1 : m1 b = 1
   . have n := g1.has b (by show m1 b + M1 b = 1; omega)
     rw [k1 b (by omega) n]; exact n
   . exact g2.has b (by omega)
 . have e1 := s1.keep b o e z
   have : ¬ (m1 b + M1 b = 1) := fun q => by
    rcases s1.own b q with w | w
    . omega
    . rw [e] at w; cases w
   have l1 : m1 b + M1 b <= 1 := g1.le b
   exact s2.keep b o e1 (by omega)
 . have h : m1 b + M2 b = 1 := h
   have l1 : m1 b + M1 b <= 1 := g1.le b
   by_cases h1 : m1 b = 1
   . exact s1.own b (by show m1 b + M1 b = 1; omega)
   . rcases s2.own b (by omega) with q | q
     . exact s1.own b (by show m1 b + M1 b = 1; omega)
     . cases w : H b with
       | none => exact .inr rfl
       | some o => exact absurd q (s1.stay b (by rw [w]; simp))
 . cases q : Hs1 b with
   | some o => exact s1.shr b n (by rw [q]; simp)
   | none =>
    rcases s2.shr b q n' with z | z
    . have l1 : m1 b + M1 b <= 1 := g1.le b
      exact s1.own b (by show m1 b + M1 b = 1; omega)
    . cases w : H b with
      | none => exact .inr rfl
      | some o => exact absurd z (s1.stay b (by rw [w]; simp))
end
end T
namespace T
open PySem L2
inductive Rs (α : Type) where
 | ok (a : α) | exc (x : D) (δ : List D) | stuck
noncomputable abbrev M (α : Type) := List D -> Rs (α × List D)
noncomputable def M.ret {α : Type} (a : α) : M α := fun δ => .ok (a, δ)
noncomputable def M.bnd {α β : Type} (c : M α) (f : α -> M β) : M β := fun δ => match c δ with
 | .ok (a, δ') => f a δ'
 | .exc x δ' => .exc x δ'
 | .stuck => .stuck
noncomputable def lift {α : Type} : Option α -> M α
 | some a => M.ret a
 | none => fun _ => .stuck
noncomputable def stk {α : Type} : M α := fun _ => .stuck
inductive Ty where
 | int | bool | str | list | tuple | dict | own (C : Addr)
 deriving DecidableEq
inductive BF where
 | len | abs | str | int | bool | sum | min | max | list | tuple | all | any | sorted | isi (t : Ty) | dict | ord | minL
 deriving DecidableEq
inductive BM where
 | split | join | get | index | count | find | replace | strip | startswith | endswith | isdigit | copy | lower | upper
 deriving DecidableEq
inductive MM where
 | append | extend | pop | popAt | reverse | clear | insert | update | popKey | remove
 deriving DecidableEq
inductive IK where
 | rng1 | rng2 | rng3 | val | valS | enum | zip | rev | items | values
 deriving DecidableEq
inductive Tg where
 | name (i : Nat) | tup (is : List Nat)
structure FI where
 lend : Bool
 run : List D -> Rs (D × List D)
inductive E where
 | k (v : V)
 | g (d : D)
 | v (i : Nat)
 | bin (op : Operator) (a b : E)
 | neg (a : E)
 | cmp (op : CmpOp) (a b : E)
 | chain (op op' : CmpOp) (a b c : E)
 | isN (p : Bool) (a : E)
 | isB (c p : Bool) (a : E)
 | nt (a : E)
 | and (a b : E)
 | or (a b : E)
 | ife (c a b : E)
 | ix (a i : E)
 | sl (a lo hi : E)
 | fld (a : E) (f : Str)
 | lst (es : List E)
 | tup (es : List E)
 | kl (vs : List V)
 | kt (vs : List V)
 | dct0
 | call (f : FI) (es : List E)
 | bf (f : BF) (es : List E)
 | bm (m : BM) (o : E) (es : List E)
 | mut (m : MM) (i : Nat) (ps : List E) (es : List E)
 | meth (A : Addr) (m : Str) (f : FI) (o : E) (es : List E)
 | new (A : Addr) (f : FI) (es : List E)
 | comp (k : Nat) (js : List Nat) (tg : Tg) (ik : IK) (ies : List E) (cond : List E) (elt : E)
 | fs (es : List E)
 | bor (e : E)
 | rev (a : E)
 | dget (o k : E)
 | fldV (i : Nat) (f : Str)
 | tclr (o : E)
 | tapp (o : E) (v : V)
 | newC (A : Addr) (f : FI) (i a b : Nat)
inductive S where
 | asg (i : Nat) (e : E)
 | unp (is : List Nat) (e : E)
 | sub (i : Nat) (ps : List E) (ix : E) (e : E)
 | attr (i : Nat) (f : Str) (e : E)
 | dput (i : Nat) (f : Str) (jx jy : Nat)
 | ex (e : E)
 | ret (e : E)
 | retN
 | iff (c : E) (a b : List S)
 | for_ (tg : Tg) (ik : IK) (ies : List E) (body : List S)
 | while_ (c : E) (body : List S)
 | pass | brk | cnt
 | raise (e : E)
inductive Op where
 | late (i : Nat) | tmp (d : D)
inductive W where
 | sc (v : V) | nd (k : Kd) (ds : List D)
noncomputable def Zbr (i : Nat) : M Op := fun δ => match δ[i]? with
 | some (.sc _) => .ok (.late i, δ)
 | some (.node _ _ _) => .ok (.late i, δ)
 | _ => .stuck
noncomputable def Zo (e : E) (c : M D) : M Op := match e with
 | .v i => Zbr i
 | _ => c.bnd fun d => M.ret (.tmp d)
noncomputable def view : Op -> M W
 | .tmp (.sc v) => M.ret (.sc v)
 | .tmp (.node k _ ds) => M.ret (.nd k ds)
 | .tmp .hole => stk
 | .late i => fun δ => match δ[i]? with
  | some (.sc v) => .ok (.sc v, δ)
  | some (.node k false ds) => .ok (.nd k ds, δ)
  | some (.node k true ds) => .ok (.nd k (shrL ds), δ.set i (.node k true (shrL ds)))
  | _ => .stuck
noncomputable def views : List Op -> M (List W)
 | [] => M.ret []
 | p :: ps => (view p).bnd fun w => (views ps).bnd fun ws => M.ret (w :: ws)
noncomputable def valV (i : Nat) : M D := fun δ => match δ[i]? with
 | some (.sc v) => .ok (.sc v, δ)
 | some (.node k false ds) => .ok (.node k false ds, δ)
 | some (.node k true ds) => .ok (.node k false (shrL ds), δ.set i (.node k false (shrL ds)))
 | _ => .stuck
noncomputable def newL (ds : List D) : Option D := if ds.length <= sizeLine then some (.node .lst true ds) else none
noncomputable def newT (ds : List D) : Option D := if ds.length <= sizeLine then some (.node .tup true ds) else none
noncomputable def Zb2 : List D -> Option (List Int)
 | [] => some []
 | .sc (.int i) :: r => (Zb2 r).map (i :: ·)
 | _ => none
noncomputable def binW : Operator -> W -> W -> Option D
 | .Add, .sc (.int i), .sc (.int j) => some (.sc (.int (i + j)))
 | .Sub, .sc (.int i), .sc (.int j) => some (.sc (.int (i - j)))
 | .Mult, .sc (.int i), .sc (.int j) => if (-(2 ^ 64) < i /\ i < 2 ^ 64) \/ (-(2 ^ 64) < j /\ j < 2 ^ 64) then some (.sc (.int (i * j))) else none
 | .FloorDiv, .sc (.int i), .sc (.int j) => if 0 < j /\ j < 18446744073709551616 then some (.sc (.int (i / j))) else none
 | .Mod, .sc (.int i), .sc (.int j) => if 0 < j then some (.sc (.int (i % j))) else none
 | .Pow, .sc (.int i), .sc (.int j) => if 0 <= j /\ j <= 1000000 /\ i.natAbs < 2 ^ 64 then some (.sc (.int (i ^ j.toNat))) else none
 | .Add, .sc (.str x), .sc (.str y) => if x.length + y.length <= sizeLine then some (.sc (.str (x ++ y))) else none
 | .Add, .nd .lst xs, .nd .lst ys => newL (xs ++ ys)
 | .Mult, .nd .lst xs, .sc (.int n) => if -(2 ^ 63) <= n /\ n < 2 ^ 63 /\ xs.length * n.toNat <= sizeLine then (Zb2 xs).map fun is => .node .lst true ((List.replicate n.toNat is).flatten.map fun i => .sc (.int i)) else none
 | _, _, _ => none
noncomputable def cmpI (op : CmpOp) (i j : Int) : Option Bool := match op with
 | .Lt => some (decide (i < j)) | .LtE => some (decide (i <= j)) | .Gt => some (decide (j < i)) | .GtE => some (decide (j <= i))
 | _ => none
mutual
noncomputable def py : D -> Option PyData
 | .sc .non => some .none
 | .sc (.bl b) => some (.bool b)
 | .sc (.int i) => some (.int i)
 | .sc (.str x) => some (.str x)
 | .node .lst _ ds => (pyL ds).map .list
 | .node .frl _ ds => (pyL ds).map .list
 | .node .tup _ ds => (pyL ds).map .tuple
 | .node .ftp _ ds => (pyL ds).map .tuple
 | _ => none
noncomputable def pyL : List D -> Option (List PyData)
 | [] => some []
 | d :: ds => (py d).bind fun a => (pyL ds).map (a :: ·)
end
noncomputable def toD : W -> D
 | .sc v => .sc v
 | .nd k ds => .node k false ds
noncomputable def eqPy (a b : PyData) : Option Bool := if SeqAt.shaped a = true /\ SeqAt.shaped b = true then some (PyData.eqv a b) else none
noncomputable def eqW : W -> W -> Option Bool
 | .sc u, .sc v => if scal u v = true then some (decide (u = v)) else (py (.sc u)).bind fun a => (py (.sc v)).bind fun b => eqPy a b
 | x, y => (py (toD x)).bind fun a => (py (toD y)).bind fun b => eqPy a b
noncomputable def cmpW : CmpOp -> W -> W -> Option Bool
 | .Eq, x, y => eqW x y
 | .NotEq, x, y => (eqW x y).map (!·)
 | .NotIn, .sc (.int i), .nd .ftp ds => (Zb2 ds).map fun is => !decide (i ∈ is)
 | op, .sc (.int i), .sc (.int j) => cmpI op i j
 | _, _, _ => none
noncomputable def ixN' (n : Nat) (i : Int) : Option Nat := if 0 <= i then (if i < n then some i.toNat else none) else if -(n : Int) <= i then some (i + n).toNat else none
noncomputable def ixW : W -> W -> Option D
 | .nd .lst ds, .sc (.int i) => (ixN' ds.length i).bind fun j => ds[j]?
 | .nd .frl ds, .sc (.int i) => (ixN' ds.length i).bind fun j => ds[j]?
 | .nd .tup ds, .sc (.int i) => (ixN' ds.length i).bind fun j => ds[j]?
 | .nd .ftp ds, .sc (.int i) => (ixN' ds.length i).bind fun j => ds[j]?
 | .sc (.str z), .sc (.int i) => if z.length <= sizeLine then ((ixN' z.cps.toList.length i).bind fun j => z.cps.toList[j]?).map fun c => .sc (.str ⟨#[c]⟩) else none
 | _, _ => none
noncomputable def ixW2 (x y : W) : Option D := ixW x y
noncomputable def Zc6 (op : CmpOp) (x y : W) : Option Bool := cmpW op x y
noncomputable def Zgp (f : Str) : List Str -> List D -> Option D
 | g :: fs, d :: ds => if g = f then some d else Zgp f fs ds
 | _, _ => none
noncomputable def fldW (ok : Addr -> Str -> Bool) (f : Str) : W -> Option D
 | .nd (.ins C fs) ds => if ok C f then Zgp f fs ds else none
 | _ => none
noncomputable def truW : W -> Option Bool
 | .sc (.bl b) => some b
 | .sc (.int i) => some (decide (i ≠ 0))
 | .sc (.str x) => if x.length <= sizeLine then some (decide (x.length ≠ 0)) else none
 | .sc .non => some false
 | .nd .lst ds => some (!ds.isEmpty)
 | .nd .frl ds => some (!ds.isEmpty)
 | .nd .tup ds => some (!ds.isEmpty)
 | .nd .ftp ds => some (!ds.isEmpty)
 | _ => none
noncomputable def tyW : Ty -> W -> Option Bool
 | .int, .sc (.int _) => some true | .int, .sc (.bl _) => some true | .int, .sc (.str _) => some false | .int, .sc .non => some false
 | .int, .nd .lst _ => some false | .int, .nd .tup _ => some false
 | .bool, .sc (.bl _) => some true | .bool, .sc (.int _) => some false | .bool, .sc (.str _) => some false | .bool, .sc .non => some false
 | .bool, .nd .lst _ => some false | .bool, .nd .tup _ => some false
 | .str, .sc (.str _) => some true | .str, .sc (.int _) => some false | .str, .sc (.bl _) => some false | .str, .sc .non => some false
 | .str, .nd .lst _ => some false | .str, .nd .tup _ => some false
 | .list, .nd .lst _ => some true | .list, .nd .tup _ => some false | .list, .sc (.int _) => some false | .list, .sc (.bl _) => some false | .list, .sc (.str _) => some false | .list, .sc .non => some false
 | .tuple, .nd .tup _ => some true | .tuple, .nd .lst _ => some false | .tuple, .sc (.int _) => some false | .tuple, .sc (.bl _) => some false | .tuple, .sc (.str _) => some false | .tuple, .sc .non => some false
 | _, _ => none
noncomputable def ZdK : List D -> Option (List Bool)
 | [] => some []
 | .sc (.bl b) :: r => (ZdK r).map (b :: ·)
 | _ => none
noncomputable def cutD (xs : List D) (lo hi : Option Int) : List D := (xs.drop (HT.sIx xs.length 0 lo)).take (HT.sIx xs.length xs.length hi - HT.sIx xs.length 0 lo)
noncomputable def slD : W -> Option Int -> Option Int -> Option D
 | .nd .lst ds, lo, hi => some (.node .lst true (cutD ds lo hi))
 | .nd .frl ds, lo, hi => some (.node .lst true (cutD ds lo hi))
 | .sc (.str z), lo, hi => if z.length <= sizeLine then some (.sc (.str (Txt.slice z lo hi))) else none
 | _, _, _ => none
noncomputable def intP : W -> Option (Option Int)
 | .sc (.int i) => some (some i)
 | _ => none
noncomputable def ZeC (e : E) (c : M Op) : M (Option Int) := match e with
 | .k .non => M.ret none
 | _ => (c.bnd view).bnd fun w => lift (intP w)
noncomputable def ZmV : List D -> Option (List Str)
 | [] => some []
 | .sc (.str x) :: r => (ZmV r).map (x :: ·)
 | _ => none
noncomputable def lenB : List W -> Option D
 | [.nd .lst ds] => some (.sc (.int ds.length))
 | [.nd .frl ds] => some (.sc (.int ds.length))
 | [.nd .tup ds] => some (.sc (.int ds.length))
 | [.nd .ftp ds] => some (.sc (.int ds.length))
 | [.sc (.str x)] => if x.length <= sizeLine then some (.sc (.int x.length)) else none
 | _ => none
noncomputable def absB : List W -> Option D
 | [.sc (.int i)] => some (.sc (.int (if i < 0 then -i else i)))
 | _ => none
noncomputable def strB : List W -> Option D
 | [.sc (.int i)] => if i.natAbs.log2 < 1920 then some (.sc (.str (Str.ofString (toString i)))) else none
 | _ => none
noncomputable def intB : List W -> Option D
 | [.sc (.int i)] => some (.sc (.int i))
 | [.sc (.bl b)] => some (.sc (.int (if b then 1 else 0)))
 | [.sc (.str z)] => match intText? z with
  | some n => if z.length <= 640 then some (.sc (.int n)) else none
  | none => none
 | _ => none
noncomputable def ZlX : List W -> Option D
 | [.nd .lst ds] => some (.node .lst true ds)
 | [.nd .frl ds] => some (.node .lst true ds)
 | [.nd .tup ds] => some (.node .lst true ds)
 | [.nd .ftp ds] => some (.node .lst true ds)
 | _ => none
noncomputable def Zrj : List W -> Option D
 | [.nd .lst ds] => some (.node .tup true ds)
 | _ => none
noncomputable def isiB (t : Ty) : List W -> Option D
 | [w] => (tyW t w).map fun b => .sc (.bl b)
 | _ => none
noncomputable def allB : List W -> Option D
 | [.nd .lst ds] => (ZdK ds).map fun bs => .sc (.bl (bs.all id))
 | _ => none
noncomputable def sumB : List W -> Option D
 | [.nd .lst ds] => (Zb2 ds).map fun is => .sc (.int is.sum)
 | _ => none
noncomputable def minB : List W -> Option D
 | [.sc (.int i), .sc (.int j)] => some (.sc (.int (if j < i then j else i)))
 | _ => none
noncomputable def maxB : List W -> Option D
 | [.sc (.int i), .sc (.int j)] => some (.sc (.int (if j > i then j else i)))
 | _ => none
noncomputable def ZlY : List W -> Option D
 | [.nd .lst ds] => (Zb2 ds).bind fun is => match is with
  | [] => none
  | i :: is => some (.sc (.int (is.foldl (fun a b => if b < a then b else a) i)))
 | _ => none
noncomputable def bfW : BF -> List W -> Option D
 | .len, ws => lenB ws
 | .abs, ws => absB ws
 | .str, ws => strB ws
 | .int, ws => intB ws
 | .list, ws => ZlX ws
 | .tuple, ws => Zrj ws
 | .isi t, ws => isiB t ws
 | .all, ws => allB ws
 | .sum, ws => sumB ws
 | .min, ws => minB ws
 | .max, ws => maxB ws
 | .minL, ws => ZlY ws
 | _, _ => none
noncomputable def strW : W -> Option Str
 | .sc (.str z) => some z
 | _ => none
noncomputable def bmW : BM -> Str -> List W -> Option D
 | .split, z, [.sc (.str s)] => if s.cps.size = 1 /\ z.length + 2 <= sizeLine then some (.node .lst true ((Txt.split z s).map fun x => .sc (.str x))) else none
 | .join, z, [.nd .lst ds] => (ZmV ds).bind fun ts => if JoinOk z ts = true then some (.sc (.str (Txt.join z ts))) else none
 | _, _, _ => none
noncomputable def rng (a b : Int) : List D := (List.range (b - a).toNat).map fun (k : Nat) => .sc (.int (a + k))
noncomputable def okR (i : Int) : Bool := decide (-(2 ^ 62) <= i) && decide (i < 2 ^ 62)
noncomputable def Zcc : Int -> List D -> List D
 | _, [] => []
 | c, d :: ds => .node .tup false [.sc (.int c), d] :: Zcc (c + 1) ds
noncomputable def zipD : List D -> List D -> List D
 | d :: ds, e :: es => .node .tup false [d, e] :: zipD ds es
 | _, _ => []
noncomputable def zipI : List W -> Option (List D)
 | [.nd k ds, .nd k' es] => if (k = .lst \/ k = .frl) /\ (k' = .lst \/ k' = .frl) then some (zipD ds es) else none
 | _ => none
noncomputable def ZoQ : List W -> Option (List D)
 | [.nd k ds, .sc (.int c)] => if (k = .lst \/ k = .frl) /\ okR c = true then some (Zcc c ds) else none
 | _ => none
noncomputable def ZlZ : List W -> Option (List D)
 | [.sc (.int n)] => if okR n then some (rng 0 n) else none
 | _ => none
noncomputable def Zma : List W -> Option (List D)
 | [.sc (.int a), .sc (.int b)] => if okR a && okR b then some (rng a b) else none
 | _ => none
noncomputable def rngS (a b c : Int) : List Int := (List.range (Builtin.Range.rangeSize a b c).toNat).map fun (k : Nat) => a + k * c
noncomputable def Zmb : List W -> Option (List D)
 | [.sc (.int a), .sc (.int b), .sc (.int c)] => if okR a && okR b && (decide (c ≠ 0) && decide (-1000000 <= c) && decide (c <= 1000000)) then some ((rngS a b c).map fun i => .sc (.int i)) else none
 | _ => none
noncomputable def valI : List W -> Option (List D)
 | [.nd .lst ds] => some ds
 | [.nd .frl ds] => some ds
 | [.nd .tup ds] => some ds
 | [.nd .ftp ds] => some ds
 | [.sc (.str x)] => some (x.cps.toList.map fun c => .sc (.str ⟨#[c]⟩))
 | _ => none
noncomputable def itW : IK -> List W -> Option (List D)
 | .zip, ws => zipI ws
 | .enum, ws => ZoQ ws
 | .rng1, ws => ZlZ ws
 | .rng2, ws => Zma ws
 | .rng3, ws => Zmb ws
 | .val, ws => valI ws
 | _, _ => none
noncomputable def Zb3 : Op -> M (W × Option (Nat × D))
 | .tmp (.sc v) => M.ret (.sc v, none)
 | .tmp (.node k _ ds) => M.ret (.nd k (shrL ds), none)
 | .tmp .hole => stk
 | .late i => fun δ => match δ[i]? with
  | some (.sc v) => .ok ((.sc v, none), δ)
  | some (.node k false ds) => .ok ((.nd k ds, none), δ)
  | some (.node k true ds) => .ok ((.nd k (shrL ds), some (i, .node k true (shrL ds))), δ.set i .hole)
  | _ => .stuck
noncomputable def Zac : List Op -> M (List W × List (Nat × D))
 | [] => M.ret ([], [])
 | p :: ps => (Zb3 p).bnd fun w => (Zac ps).bnd fun ws => M.ret (w.1 :: ws.1, w.2.toList ++ ws.2)
noncomputable def Zcd : List (Nat × D) -> M Unit
 | [] => M.ret ()
 | (i, d) :: r => fun δ => Zcd r (δ.set i d)
noncomputable def walked : List E -> Nat -> Bool
 | [], _ => false
 | .v i :: r, j => i == j || walked r j
 | _ :: r, j => walked r j
noncomputable def Zgq (lend : Bool) : Op -> M D
 | .tmp d => M.ret d
 | .late i => fun δ => match δ[i]? with
  | some (.sc v) => .ok (.sc v, δ)
  | some (.node k false ds) => .ok (.node k false ds, δ)
  | some (.node k true ds) => if lend then .ok (.node k true ds, δ.set i .hole) else .ok (.node k false (shrL ds), δ.set i (.node k false (shrL ds)))
  | _ => .stuck
noncomputable def Zea (lend : Bool) : List Op -> M (List D)
 | [] => M.ret []
 | p :: ps => (Zgq lend p).bnd fun d => (Zea lend ps).bnd fun ds => M.ret (d :: ds)
noncomputable def Zho : Op -> D -> M Unit
 | .tmp _, _ => M.ret ()
 | .late i, d => fun δ => match δ[i]? with
  | some .hole => .ok ((), δ.set i d)
  | _ => .ok ((), δ)
noncomputable def Zcp : List Op -> List D -> M Unit
 | p :: ps, d :: ds => (Zho p d).bnd fun _ => Zcp ps ds
 | _, _ => M.ret ()
noncomputable def ZcT (fi : FI) (ps : List Op) : M D := (Zea fi.lend ps).bnd fun ds => match fi.run ds with
 | .ok (d, ds') => (Zcp ps ds').bnd fun _ => M.ret d
 | .exc x _ => fun δ => .exc x δ
 | .stuck => stk
noncomputable def chkI (A : Addr) (m : Str) : Op -> M Unit
 | .late i => fun δ => match δ[i]? with
  | some (.node (.ins B fs) _ _) => if B = A /\ m ∉ fs then .ok ((), δ) else .stuck
  | _ => .stuck
 | .tmp (.node (.ins B fs) _ _) => fun δ => if B = A /\ m ∉ fs then .ok ((), δ) else .stuck
 | _ => stk
noncomputable def newF (C : Addr) (fi : FI) (ps : List Op) : M D := (Zea fi.lend ps).bnd fun ds => match fi.run (.node (.ins C []) true [] :: ds) with
 | .ok (.sc .non, d :: ds') => (Zcp ps ds').bnd fun _ => M.ret d
 | .ok _ => stk
 | .exc x _ => fun δ => .exc x δ
 | .stuck => stk
noncomputable def asgN (lock : Nat -> Bool) (i : Nat) (d : D) : M Unit := fun δ => if i < δ.length && !lock i then .ok ((), δ.set i d) else .stuck
noncomputable def Zd7 (lock : Nat -> Bool) : List Nat -> List D -> M Unit
 | [], [] => M.ret ()
 | i :: is, d :: ds => (asgN lock i d).bnd fun _ => Zd7 lock is ds
 | _, _ => stk
noncomputable def asgT (lock : Nat -> Bool) : Tg -> D -> M Unit
 | .name i, d => asgN lock i d
 | .tup is, .node .tup _ ds => Zd7 lock is ds
 | .tup _, _ => stk
noncomputable def modS (i : Nat) (f : Kd -> List D -> Option (D × Kd × List D)) : M D := fun δ => match δ[i]? with
 | some (.node k true ds) => match f k ds with
  | some (r, k', ds') => .ok (r, δ.set i (.node k' true ds'))
  | none => .stuck
 | _ => .stuck
noncomputable def mutD : MM -> List W -> Kd -> List D -> Option (D × Kd × List D)
 | .extend, [.nd .lst es], .lst, ds => if ds.length + es.length <= sizeLine then some (.sc .non, .lst, ds ++ es) else none
 | .pop, [], .lst, ds => ds.getLast?.map fun d => (d, .lst, ds.dropLast)
 | .popAt, [.sc (.int i)], .lst, ds => if -(2 ^ 63) <= i /\ i < 2 ^ 63 then (ixN' ds.length i).bind fun j => ds[j]?.map fun d => (d, .lst, ds.eraseIdx j) else none
 | .reverse, [], .lst, ds => some (.sc .non, .lst, ds.reverse)
 | .clear, [], .lst, _ => some (.sc .non, .lst, [])
 | _, _, _, _ => none
noncomputable def appD (d : D) : Kd -> List D -> Option (D × Kd × List D)
 | .lst, ds => if ds.length < sizeLine then some (.sc .non, .lst, ds ++ [d]) else none
 | _, _ => none
noncomputable def appM (i : Nat) : List D -> M D
 | [d] => modS i (appD d)
 | _ => stk
noncomputable def chkL (i : Nat) : M Unit := fun δ => match δ[i]? with
 | some (.node .lst _ _) => .ok ((), δ)
 | _ => .stuck
noncomputable def setD (w : W) (d : D) : Kd -> List D -> Option (D × Kd × List D)
 | .lst, ds => match w with
  | .sc (.int i) => (ixN' ds.length i).map fun j => (.sc .non, .lst, ds.set j d)
  | _ => none
 | _, _ => none
noncomputable def Zgr (w : W) (d : D) (k : Kd) (ds : List D) : Option (D × Kd × List D) := setD w d k ds
noncomputable def putN (f : Str) : List Str -> List Str
 | [] => [f]
 | g :: r => if g = f then g :: r else g :: putN f r
noncomputable def putV {α : Type} (f : Str) (d : α) : List Str -> List α -> List α
 | g :: r, x :: ds => if g = f then d :: ds else x :: putV f d r ds
 | _, _ => [d]
noncomputable def putD (ok : Addr -> Str -> Bool) (f : Str) (d : D) : Kd -> List D -> Option (D × Kd × List D)
 | .ins C fs, ds => if fs.length < 1000 /\ ok C f = true then some (.sc .non, .ins C (putN f fs), putV f d fs ds) else none
 | _, _ => none
structure Ctx where
 lock : Nat -> Bool
 fok : Addr -> Str -> Bool
 fuel : Nat
noncomputable def ZfV : List Nat -> M (List D)
 | [] => M.ret []
 | j :: js => fun δ => match δ[j]? with
  | some d => ((ZfV js).bnd fun ds => M.ret (d :: ds)) (δ.set j .hole)
  | none => .stuck
noncomputable def ZdL : List Nat -> List D -> M Unit
 | j :: js, d :: ds => fun δ => ZdL js ds (δ.set j d)
 | _, _ => M.ret ()
noncomputable def Za4 (asg : D -> M Unit) (cond : M Bool) (elt : M D) : List D -> List D -> M (List D)
 | [], acc => M.ret acc
 | d :: ds, acc => (asg d).bnd fun _ => cond.bnd fun b => if b then elt.bnd fun x => Za4 asg cond elt ds (acc ++ [x]) else Za4 asg cond elt ds acc
noncomputable def Zb4 (k : Nat) (js : List Nat) (loop : M (List D)) : M D := (ZfV js).bnd fun caps δ => match loop (List.replicate k .hole ++ caps) with
 | .ok (acc, δ') => ((ZdL js (δ'.drop k)).bnd fun _ => lift (newL acc)) δ
 | .exc _ _ => .stuck
 | .stuck => .stuck
noncomputable def fmtD : V -> Option Str
 | .int i => if i.natAbs.log2 < 1920 then some (Str.ofString (toString i)) else none
 | .str x => some x
 | .non => some (Str.ofString "None")
 | _ => none
noncomputable def fmtW (acc : Str) : W -> Option Str
 | .sc v => (fmtD v).bind fun z => if z.length <= sizeLine /\ (acc ++ z).length <= sizeLine then some (acc ++ z) else none
 | _ => none
noncomputable def isNW (p : Bool) : W -> D
 | .sc v => .sc (.bl (decide (v = .non) == p))
 | .nd _ _ => .sc (.bl (!p))
noncomputable def isBW (c p : Bool) : W -> Option D
 | .sc (.bl b) => some (.sc (.bl ((b == c) == p)))
 | _ => none
noncomputable def negW : W -> Option D
 | .sc (.int i) => some (.sc (.int (-i)))
 | _ => none
noncomputable def notW : W -> Option D
 | .sc (.bl t) => some (.sc (.bl (!t)))
 | _ => none
noncomputable def andM (b : M D) : W -> M D
 | .sc (.bl true) => b
 | .sc (.bl false) => M.ret (.sc (.bl false))
 | _ => stk
noncomputable def orM (b : M D) : W -> M D
 | .sc (.bl false) => b
 | .sc (.bl true) => M.ret (.sc (.bl true))
 | _ => stk
noncomputable def Zeb (c : M D) : M Bool := c.bnd fun d => lift (match d with | .sc (.bl b) => some b | _ => none)
noncomputable def tdef (e : E) (c : M D) : M Bool := (Zo e c).bnd fun p => (view p).bnd fun w => lift (truW w)
noncomputable def vdef (e : E) (c : M D) : M W := (Zo e c).bnd view
noncomputable def borV (c : M D) : M D := fun δ => match c (shrL δ) with
 | .ok (.sc v, _) => .ok (.sc v, δ)
 | _ => .stuck
noncomputable def Zmc (i : Nat) (n : Int) (f : Kd -> List D -> Option (D × Kd × List D)) : M D := fun δ => match δ[i]? with
 | some (.node .lst true ds) => match ixN' ds.length n with
  | some j => match ds[j]? with
   | some (.node .lst true es) => match f .lst es with
    | some (r, k', es') => .ok (r, δ.set i (.node .lst true (ds.set j (.node k' true es'))))
    | none => .stuck
   | _ => .stuck
  | none => .stuck
 | _ => .stuck
noncomputable def mutK : MM -> Int -> Nat -> List E -> M D
 | .append, n, i, [.k v] => Zmc i n (appD (.sc v))
 | .clear, n, i, [] => Zmc i n (mutD .clear [])
 | _, _, _, _ => stk
noncomputable def Zce {α : Type} (k : List Key) : List (List Key) -> List α -> Option α
 | j :: ks, d :: ds => if j = k then some d else Zce k ks ds
 | _, _ => none
noncomputable def dicS : D -> M Unit
 | .node (.dic _) false _ => M.ret ()
 | _ => stk
noncomputable def Zhp : D -> D -> Option D
 | .node (.dic ks) _ vs, .node .lst _ es => (Zb2 es).bind fun is => match Zce (is.map Sum.inl) ks vs with
  | none => some (.sc .non)
  | some (.sc v) => some (.sc v)
  | some _ => none
 | _, _ => none
noncomputable def revW : W -> Option D
 | .nd .lst ds => some (.node .lst true ds.reverse)
 | .nd .frl ds => some (.node .lst true ds.reverse)
 | _ => none
noncomputable def idxF (f : Str) : List Str -> Option Nat
 | [] => none
 | g :: fs => if g = f then some 0 else (idxF f fs).map (· + 1)
noncomputable def fldS (ok : Addr -> Str -> Bool) (i : Nat) (f : Str) : M D := fun δ => match δ[i]? with
 | some (.node (.ins C fs) true ds) => if ok C f = true then match idxF f fs with
  | some j => match ds[j]? with
   | some d => .ok (shr d, δ.set i (.node (.ins C fs) true (ds.set j (shr d))))
   | none => .stuck
  | none => .stuck
  else .stuck
 | _ => .stuck
noncomputable def ownL : D -> M D
 | .node .lst true _ => M.ret (.sc .non)
 | _ => stk
noncomputable def Zrk : D -> M D
 | .node .lst true ds => if ds.length < sizeLine then M.ret (.sc .non) else stk
 | _ => stk
noncomputable def ZsQ (A : Addr) (fi : FI) (i a b : Nat) : M D := fun δ => match δ[i]?, δ[a]?, δ[b]? with
 | some (.node .lst true [c1, c2]), some (.sc _), some (.sc _) => match newF A fi [.late a, .late b, .late δ.length, .late (δ.length + 1)] (δ.set i .hole ++ [c1, c2]) with
  | .ok (d, δ') => match δ'.drop δ.length with
   | [c1', c2'] => .ok (d, (δ'.take δ.length).set i (.node .lst true [c1', c2']))
   | _ => .stuck
  | _ => .stuck
 | _, _, _ => .stuck
noncomputable def kPut (k : List Key) (ks : List (List Key)) : List (List Key) := if (ks.any fun j => decide (j = k)) = true then ks else ks ++ [k]
noncomputable def vPut {α : Type} (k : List Key) (d : α) (ks : List (List Key)) (ds : List α) : List α := if (ks.any fun j => decide (j = k)) = true then List.zipWith (fun j x => if j = k then d else x) ks ds else ds ++ [d]
mutual
noncomputable def evb (C : Ctx) : E -> M D × M Bool
 | .k v => let c : M D := M.ret (.sc v); (c, tdef (.k v) c)
 | .g d => let c : M D := M.ret d; (c, tdef (.g d) c)
 | .v i => (valV i, tdef (.v i) (valV i))
 | .bin op a b =>
  let c : M D := (Zo a (evb C a).1).bnd fun p => (Zo b (evb C b).1).bnd fun q => (view p).bnd fun x => (view q).bnd fun y => lift (binW op x y)
  (c, tdef (.bin op a b) c)
 | .neg a =>
  let c : M D := (vdef a (evb C a).1).bnd fun x => lift (negW x)
  (c, tdef (.neg a) c)
 | .cmp op a b =>
  let c : M D := (Zo a (evb C a).1).bnd fun p => (Zo b (evb C b).1).bnd fun q => (view p).bnd fun x => (view q).bnd fun y => lift ((Zc6 op x y).map fun t => .sc (.bl t))
  (c, Zeb c)
 | .chain op op' a b e =>
  let c : M D := (Zo a (evb C a).1).bnd fun p => (Zo b (evb C b).1).bnd fun q => (view p).bnd fun x => (view q).bnd fun y => (lift (cmpW op x y)).bnd fun t => if t then (Zo e (evb C e).1).bnd fun r => (view q).bnd fun y => (view r).bnd fun z => lift ((cmpW op' y z).map fun t => .sc (.bl t)) else M.ret (.sc (.bl false))
  (c, Zeb c)
 | .isN p a =>
  let c : M D := (vdef a (evb C a).1).bnd fun x => M.ret (isNW p x)
  (c, tdef (.isN p a) c)
 | .isB c p a =>
  let r : M D := (vdef a (evb C a).1).bnd fun x => lift (isBW c p x)
  (r, tdef (.isB c p a) r)
 | .nt a => ((vdef a (evb C a).1).bnd fun w => lift (notW w), (evb C a).2.bnd fun b => M.ret (!b))
 | .and a b => ((vdef a (evb C a).1).bnd (andM (evb C b).1), (evb C a).2.bnd fun t => if t then (evb C b).2 else M.ret false)
 | .or a b => ((vdef a (evb C a).1).bnd (orM (evb C b).1), (evb C a).2.bnd fun t => if t then M.ret true else (evb C b).2)
 | .ife c a b =>
  let r : M D := (evb C c).2.bnd fun t => if t then (evb C a).1 else (evb C b).1
  (r, tdef (.ife c a b) r)
 | .ix a i =>
  let c : M D := (Zo a (evb C a).1).bnd fun p => (Zo i (evb C i).1).bnd fun q => (view p).bnd fun x => (view q).bnd fun y => lift (ixW2 x y)
  (c, tdef (.ix a i) c)
 | .sl a lo hi =>
  let c : M D := (Zo a (evb C a).1).bnd fun p => (ZeC lo (Zo lo (evb C lo).1)).bnd fun l => (ZeC hi (Zo hi (evb C hi).1)).bnd fun h => (view p).bnd fun x => lift (slD x l h)
  (c, tdef (.sl a lo hi) c)
 | .fld a f =>
  let c : M D := (vdef a (evb C a).1).bnd fun x => lift (fldW C.fok f x)
  (c, tdef (.fld a f) c)
 | .lst es =>
  let c : M D := (evs C es).bnd fun ds => lift (newL ds)
  (c, tdef (.lst es) c)
 | .tup es =>
  let c : M D := (evs C es).bnd fun ds => lift (newT ds)
  (c, tdef (.tup es) c)
 | .kl vs =>
  let c : M D := lift (newL (vs.map D.sc))
  (c, tdef (.kl vs) c)
 | .kt vs =>
  let c : M D := lift (newT (vs.map D.sc))
  (c, tdef (.kt vs) c)
 | .dct0 =>
  let c : M D := M.ret (.node (.dic []) true [])
  (c, tdef .dct0 c)
 | .call f es =>
  let c : M D := (opds C es).bnd fun ps => ZcT f ps
  (c, tdef (.call f es) c)
 | .bf f es =>
  let c : M D := (opds C es).bnd fun ps => (views ps).bnd fun ws => lift (bfW f ws)
  (c, tdef (.bf f es) c)
 | .bm m o es =>
  let c : M D := (vdef o (evb C o).1).bnd fun w => (lift (strW w)).bnd fun z => (opds C es).bnd fun ps => (views ps).bnd fun ws => lift (bmW m z ws)
  (c, tdef (.bm m o es) c)
 | .mut m i ps es =>
  let c : M D := match m, ps with
   | .append, [] => (chkL i).bnd fun _ => (evs C es).bnd fun ds => appM i ds
   | m, [] => (chkL i).bnd fun _ => (opds C es).bnd fun ps => (views ps).bnd fun ws => modS i (mutD m ws)
   | m, [.k (.int n)] => mutK m n i es
   | _, _ => stk
  (c, tdef (.mut m i ps es) c)
 | .meth A m f o es =>
  let c : M D := (Zo o (evb C o).1).bnd fun p => (chkI A m p).bnd fun _ => (opds C es).bnd fun ps => ZcT f (p :: ps)
  (c, tdef (.meth A m f o es) c)
 | .new A f es =>
  let c : M D := (opds C es).bnd fun ps => newF A f ps
  (c, tdef (.new A f es) c)
 | .comp k js tg ik ies cond elt =>
  let C' : Ctx := { C with lock := fun i => decide (k <= i) }
  let loop (items : List D) : M (List D) := Za4 (asgT C'.lock tg) (tsts C' cond) (evb C' elt).1 items []
  let c : M D := (opds C ies).bnd fun ps => (Zac ps).bnd fun h => (lift (itW ik h.1)).bnd fun items => (Zb4 k js (loop items)).bnd fun d => (Zcd h.2).bnd fun _ => M.ret d
  (c, tdef (.comp k js tg ik ies cond elt) c)
 | .fs es =>
  let c : M D := fss C es Str.empty
  (c, tdef (.fs es) c)
 | .bor e =>
  let c : M D := borV (evb C e).1
  (c, tdef (.bor e) c)
 | .dget o k =>
  let c : M D := (evb C o).1.bnd fun d => (dicS d).bnd fun _ => (evb C k).1.bnd fun kd => lift (Zhp d kd)
  (c, tdef (.dget o k) c)
 | .rev a =>
  let c : M D := (vdef a (evb C a).1).bnd fun x => lift (revW x)
  (c, tdef (.rev a) c)
 | .fldV i f =>
  let c : M D := fldS C.fok i f
  (c, tdef (.fldV i f) c)
 | .tclr o =>
  let c : M D := (evb C o).1.bnd ownL
  (c, tdef (.tclr o) c)
 | .tapp o v =>
  let c : M D := (evb C o).1.bnd Zrk
  (c, tdef (.tapp o v) c)
 | .newC A f i a b =>
  let c : M D := ZsQ A f i a b
  (c, tdef (.newC A f i a b) c)
noncomputable def fss (C : Ctx) : List E -> Str -> M D
 | [], acc => M.ret (.sc (.str acc))
 | e :: es, acc => (vdef e (evb C e).1).bnd fun w => (lift (fmtW acc w)).bnd fun acc' => fss C es acc'
noncomputable def opds (C : Ctx) : List E -> M (List Op)
 | [] => M.ret []
 | e :: es => (Zo e (evb C e).1).bnd fun p => (opds C es).bnd fun ps => M.ret (p :: ps)
noncomputable def evs (C : Ctx) : List E -> M (List D)
 | [] => M.ret []
 | e :: es => (evb C e).1.bnd fun p => (evs C es).bnd fun ps => M.ret (p :: ps)
noncomputable def tsts (C : Ctx) : List E -> M Bool
 | [] => M.ret true
 | e :: es => (evb C e).2.bnd fun b => if b then tsts C es else M.ret false
end
noncomputable abbrev ev (C : Ctx) (e : E) : M D := (evb C e).1
noncomputable abbrev tst (C : Ctx) (e : E) : M Bool := (evb C e).2
inductive Fl where
 | nx | rt (d : D) | bk | ct
noncomputable def forL (asg : D -> M Unit) (body : M Fl) : List D -> M Fl
 | [] => M.ret .nx
 | d :: ds => (asg d).bnd fun _ => body.bnd fun f => match f with
  | .nx => forL asg body ds
  | .ct => forL asg body ds
  | .bk => M.ret .nx
  | .rt x => M.ret (.rt x)
noncomputable def Zkm (c : M Bool) (body : M Fl) : Nat -> M Fl
 | 0 => stk
 | n + 1 => c.bnd fun b => if b then body.bnd fun f => match f with
  | .nx => Zkm c body n
  | .ct => Zkm c body n
  | .bk => M.ret .nx
  | .rt x => M.ret (.rt x)
  else M.ret .nx
noncomputable def movV (i : Nat) : M D := fun δ => match δ[i]? with
 | some (.sc v) => .ok (.sc v, δ)
 | some (.node k o ds) => .ok (.node k o ds, δ.set i .hole)
 | _ => .stuck
noncomputable def retV (C : Ctx) (e : E) : M D := match e with
 | .v i => if C.lock i then valV i else movV i
 | e => ev C e
noncomputable def seqL (c : M Fl) (r : M Fl) : M Fl := c.bnd fun f => match f with
 | .nx => r
 | f => M.ret f
noncomputable def unpM (lock : Nat -> Bool) (is : List Nat) : W -> M Unit
 | .nd .tup ds => Zd7 lock is ds
 | .nd .lst ds => Zd7 lock is ds
 | _ => stk
noncomputable def subK (i : Nat) (n : Int) (c : M D) : E -> M Fl
 | .k (.int m) => c.bnd fun d => (Zmc i n (setD (.sc (.int m)) d)).bnd fun _ => M.ret .nx
 | _ => stk
noncomputable def Zhq (ok : Addr -> Str -> Bool) (i : Nat) (f : Str) (jx jy : Nat) : M Fl := fun δ => match δ[i]?, δ[jx]?, δ[jy]? with
 | some (.node (.ins C fs) true ds), some (.node .lst _ es), some (.sc v) => if ok C f = true then match idxF f fs, Zb2 es with
  | some j, some is => match ds[j]? with
   | some (.node (.dic ks) true vs) => if vs.length < sizeLine then .ok (.nx, δ.set i (.node (.ins C fs) true (ds.set j (.node (.dic (kPut (is.map Sum.inl) ks)) true (vPut (is.map Sum.inl) (.sc v) ks vs))))) else .stuck
   | _ => .stuck
  | _, _ => .stuck
  else .stuck
 | _, _, _ => .stuck
mutual
noncomputable def ex (C : Ctx) : S -> M Fl
 | .asg i e => (ev C e).bnd fun d => (asgN C.lock i d).bnd fun _ => M.ret .nx
 | .unp is e => (vdef e (ev C e)).bnd fun w => (unpM C.lock is w).bnd fun _ => M.ret .nx
 | .sub i ps ix e => match ps with
  | [] => (ev C e).bnd fun d => (Zbr i).bnd fun _ => (vdef ix (ev C ix)).bnd fun w => (modS i (Zgr w d)).bnd fun _ => M.ret .nx
  | [.k (.int n)] => subK i n (ev C e) ix
  | _ => stk
 | .attr i f e => (ev C e).bnd fun d => (Zbr i).bnd fun _ => (modS i (putD C.fok f d)).bnd fun _ => M.ret .nx
 | .dput i f jx jy => Zhq C.fok i f jx jy
 | .ex e => (ev C e).bnd fun _ => M.ret .nx
 | .ret e => (retV C e).bnd fun d => M.ret (.rt d)
 | .retN => M.ret (.rt (.sc .non))
 | .iff c a b => (tst C c).bnd fun t => if t then exs C a else exs C b
 | .for_ tg ik ies body =>
  let lk : Nat -> Bool := fun j => C.lock j || walked ies j
  (opds C ies).bnd fun ps => (Zac ps).bnd fun h => (lift (itW ik h.1)).bnd fun items => (forL (asgT lk tg) (exs { C with lock := lk } body) items).bnd fun f => (Zcd h.2).bnd fun _ => M.ret f
 | .while_ c body => Zkm (tst C c) (exs C body) C.fuel
 | .pass => M.ret .nx
 | .brk => M.ret .bk
 | .cnt => M.ret .ct
 | .raise _ => stk
noncomputable def exs (C : Ctx) : List S -> M Fl
 | [] => M.ret .nx
 | s :: r => seqL (ex C s) (exs C r)
end
noncomputable def ZmW (n : Nat) : Rs (Fl × List D) -> Rs (D × List D)
 | .ok (.rt d, δ) => .ok (d, δ.take n)
 | .ok (.nx, δ) => .ok (.sc .non, δ.take n)
 | .ok _ => .stuck
 | .exc x _ => .exc x []
 | .stuck => .stuck
noncomputable def Zh (C : Ctx) (n N : Nat) (body : List S) (ds : List D) : Rs (D × List D) :=
 if ds.length = n then ZmW n (exs { C with lock := fun i => decide (i < n) } body (ds ++ List.replicate (N - n) .hole)) else .stuck
end T
namespace T
open PySem L2
inductive Sep {α : Type} (R : α -> D -> Bud -> Prop) : List α -> List D -> Bud -> Prop
 | nil (m : Bud) : Sep R [] [] m
 | cons {a : α} {d : D} {as : List α} {ds : List D} {m1 m2 m : Bud} : R a d m1 -> Sep R as ds m2 -> (∀ b, m1 b + m2 b <= m b) -> Sep R (a :: as) (d :: ds) m
theorem RepL.sep {K : Fg} {H Hs : Hp} : ∀ {vs : List V} {ds : List D} {m : Bud}, RepL K H Hs vs ds m -> Sep (Rep K H Hs) vs ds m
 | _, _, _, .nil _ => .nil _
 | _, _, _, .cons a b c => .cons a b.sep c
theorem Sep.repL {K : Fg} {H Hs : Hp} : ∀ {vs : List V} {ds : List D} {m : Bud}, Sep (Rep K H Hs) vs ds m -> RepL K H Hs vs ds m
 | _, _, _, .nil _ => .nil _
 | _, _, _, .cons a b c => .cons a b.repL c
section
variable {α β : Type} {R R' : α -> D -> Bud -> Prop}
theorem Sep.length : ∀ {as : List α} {ds : List D} {m : Bud}, Sep R as ds m -> as.length = ds.length
 | _, _, _, .nil _ => rfl
 | _, _, _, .cons _ b _ => by rw [List.length_cons, List.length_cons, b.length]
theorem Sep.mono {as : List α} {ds : List D} {m m' : Bud} (h : Sep R as ds m) (l : ∀ b, m b <= m' b) : Sep R as ds m' := by
 cases h with
 | nil => exact .nil _
 | cons a b c => exact .cons a b fun x => Nat.le_trans (c x) (l x)
theorem Sep.imp : ∀ {as : List α} {ds : List D} {m : Bud}, (∀ a d m', (∀ b, m' b <= m b) -> R a d m' -> R' a d m') -> Sep R as ds m -> Sep R' as ds m
 | _, _, _, _, .nil _ => .nil _
 | _, _, m, f, .cons (m1 := m1) (m2 := m2) x y c => .cons (f _ _ _ (fun b => by have := c b; omega) x) (y.imp fun a d m' l => f a d m' fun b => by have := c b; have := l b; (try dsimp only at *); omega) c
theorem Sep.focus : ∀ {as : List α} {ds : List D} {m : Bud} {i : Nat} {d : D}, Sep R as ds m -> ds[i]? = some d -> ∃ (a : α) (m1 m2 : Bud), as[i]? = some a /\ R a d m1 /\ (∀ b, m1 b + m2 b <= m b) /\
 ∀ (R' : α -> D -> Bud -> Prop) (a' : α) (d' : D) (m' : Bud), (∀ a d m', (∀ b, m' b <= m2 b) -> R a d m' -> R' a d m') -> R' a' d' m' -> Sep R' (as.set i a') (ds.set i d') (fun b => m' b + m2 b)
 | _, _, _, _, _, .nil _, h => by simp at h
 | _, _, m, 0, _, .cons (a := a) (m1 := m1) (m2 := m2) x y c, h => by
  (simp only [List.getElem?_cons_zero, Option.some.injEq] at h)
  subst h
  exact ⟨a, m1, m2, rfl, x, c, fun R' a' d' m' f x' => .cons x' (y.imp f) fun b => Nat.le_refl _⟩
 | _, _, m, i + 1, d, .cons (a := a) (m1 := m1) (m2 := m2) x y c, h => by
  obtain ⟨a', n1, n2, e, r, l, f⟩ := Sep.focus (i := i) y (by simpa using h)
  refine ⟨a', n1, fun b => m1 b + n2 b, by simpa using e, r, fun b => by have := c b; have := l b; (try dsimp only at *); omega, fun R' a'' d'' m' g x' => ?_⟩
  have q := f R' a'' d'' m' (fun a d m' l' => g a d m' fun b => by have := l' b; (try dsimp only at *); omega) x'
  exact .cons (m2 := fun b => m' b + n2 b) (g _ _ _ (fun b => by (try dsimp only at *); omega) x) q fun b => by (try dsimp only at *); omega
theorem Sep.append : ∀ {as bs : List α} {ds es : List D} {m1 m2 : Bud}, Sep R as ds m1 -> Sep R bs es m2 -> Sep R (as ++ bs) (ds ++ es) (fun b => m1 b + m2 b)
 | _, _, _, _, _, _, .nil _, y => y.mono fun b => by (try dsimp only at *); omega
 | _, _, _, _, _, m2, .cons (m2 := n2) x y c, z => .cons (m2 := fun b => n2 b + m2 b) x (y.append z) fun b => by have := c b; omega
theorem Sep.get {as : List α} {ds : List D} {m : Bud} {i : Nat} {d : D} (h : Sep R as ds m) (e : ds[i]? = some d) : ∃ (a : α) (m1 : Bud), as[i]? = some a /\ R a d m1 /\ ∀ b, m1 b <= m b := by
 obtain ⟨a, m1, m2, e, r, l, _⟩ := h.focus e
 exact ⟨a, m1, e, r, fun b => by have := l b; omega⟩
theorem Sep.split : ∀ {as : List α} {ds es : List D} {m : Bud}, Sep R as (ds ++ es) m -> ∃ (a1 a2 : List α) (m1 m2 : Bud), as = a1 ++ a2 /\ Sep R a1 ds m1 /\ Sep R a2 es m2 /\ ∀ b, m1 b + m2 b <= m b
 | as, [], es, m, h => ⟨[], as, fun _ => 0, m, rfl, .nil _, h, fun b => by (try dsimp only at *); omega⟩
 | _, d :: ds, es, m, .cons (a := a) (m1 := m1) x y c => by
  obtain ⟨a1, a2, n1, n2, e, p, q, l⟩ := Sep.split (ds := ds) (es := es) y
  subst e
  exact ⟨a :: a1, a2, fun b => m1 b + n1 b, n2, rfl, .cons x p fun b => Nat.le_refl _, q, fun b => by have := c b; have := l b; (try dsimp only at *); omega⟩
theorem Sep.take {as : List α} {ds : List D} {m : Bud} (h : Sep R as ds m) (n : Nat) : Sep R (as.take n) (ds.take n) m := by
 have e : ds.take n ++ ds.drop n = ds := List.take_append_drop n ds
 rw [<- e] at h
 obtain ⟨a1, a2, m1, m2, q, p, p', l⟩ := h.split
 have hl := p.length
 have hd := h.length
 subst q
 have : (a1 ++ a2).take n = a1 := by
  by_cases hn : n <= ds.length
  . rw [List.take_left' (by rw [hl, List.length_take]; omega)]
  . have e2 : a2 = [] := by
     have := p'.length
     rw [List.length_drop] at this
     exact List.length_eq_zero_iff.mp (by (try dsimp only at *); omega)
    rw [e2, List.append_nil]
    exact List.take_of_length_le (by rw [hl, List.length_take]; omega)
 rw [this]
 exact p.mono fun b => by have := l b; omega
theorem Sep.drop {as : List α} {ds : List D} {m : Bud} (h : Sep R as ds m) (n : Nat) : Sep R (as.drop n) (ds.drop n) m := by
 have e : ds.take n ++ ds.drop n = ds := List.take_append_drop n ds
 rw [<- e] at h
 obtain ⟨a1, a2, m1, m2, q, p, p', l⟩ := h.split
 have hl := p.length
 subst q
 have : (a1 ++ a2).drop n = a2 := by
  by_cases hn : n <= ds.length
  . rw [List.drop_left' (by rw [hl, List.length_take]; omega)]
  . have e2 : a2 = [] := by
     have := p'.length
     rw [List.length_drop] at this
     exact List.length_eq_zero_iff.mp (by (try dsimp only at *); omega)
    rw [e2, List.append_nil]
    exact List.drop_of_length_le (by rw [hl, List.length_take]; omega)
 rw [this]
 exact p'.mono fun b => by have := l b; omega
end
section
variable {K : Fg} {H Hs Hs' : Hp}
mutual
theorem Rep.share (g : Same Hs Hs') : ∀ {v : V} {d : D} {m : Bud}, (∀ b, m b ≥ 1 -> H b ≠ none -> Hs' b = H b) -> Rep K H Hs v d m -> Rep K H Hs' v (shr d) (fun _ => 0)
 | _, _, _, _, .sc v _ => .sc v _
 | _, _, _, _, .hole v _ => .hole v _
 | _, _, m, k, .own (a := a) (m' := m') n r h => by
  have h1 : m a ≥ 1 := by have := h a; simp only [one, if_pos] at this; omega
  refine .shd (ZbI.r (n.eq (k a h1 n.at))) (RepL.share g (fun b hb => k b ?_) r)
  have := h b
  omega
 | _, _, _, _, .shd n r => .shd (n.same g) (RepL.share g (fun b hb => absurd hb (by simp)) r)
theorem RepL.share (g : Same Hs Hs') : ∀ {vs : List V} {ds : List D} {m : Bud}, (∀ b, m b ≥ 1 -> H b ≠ none -> Hs' b = H b) -> RepL K H Hs vs ds m -> RepL K H Hs' vs (shrL ds) (fun _ => 0)
 | _, _, _, _, .nil _ => .nil _
 | _, _, m, k, .cons x y h => by
  refine .cons (Rep.share g (fun b hb => k b ?_) x) (RepL.share g (fun b hb => k b ?_) y) fun b => Nat.le_refl _
  . have := h b; omega
  . have := h b; omega
end
noncomputable def shH (H Hs : Hp) (m : Bud) : Hp := fun b => if m b ≥ 1 then H b else Hs b
theorem ZdD {M : Bud} {m : Bud} (g : Good H Hs M) (l : ∀ b, m b <= M b) : Same Hs (shH H Hs m) := fun b o e => by
 unfold shH
 split
 . exact g.sub b o e
 . exact e
theorem ZfW {m : Bud} : ∀ b, m b ≥ 1 -> H b ≠ none -> shH H Hs m b = H b := fun b h _ => if_pos h
theorem Good.share {m M : Bud} (g : Good H Hs (fun b => m b + M b)) : Good H (shH H Hs m) M where
 sub := fun b o e => by
  unfold shH at e
  split at e
  . exact e
  . exact g.sub b o e
 le := fun b => by have : m b + M b <= 1 := g.le b; omega
 ne := fun b h => by
  have : m b + M b <= 1 := g.le b
  unfold shH
  rw [if_neg (by (try dsimp only at *); omega)]
  exact g.ne b (by show m b + M b = 1; omega)
 has := fun b h => by
  have : m b + M b <= 1 := g.le b
  exact g.has b (by show m b + M b = 1; omega)
theorem Stp.share {m M : Bud} (g : Good H Hs (fun b => m b + M b)) : Stp H Hs (fun b => m b + M b) H (shH H Hs m) M where
 keep := fun _ _ h _ => h
 own := fun b h => .inl (by have : m b + M b <= 1 := g.le b; show m b + M b = 1; omega)
 grow := ZdD g fun b => by (try dsimp only at *); omega
 shr := fun b h h' => by
  unfold shH at h'
  split at h'
  . have : m b + M b <= 1 := g.le b
    exact .inl (by show m b + M b = 1; omega)
  . exact absurd h h'
 stay := fun _ h => h
end
def RepO (K : Fg) (H Hs : Hp) (o : Option V) (d : D) (m : Bud) : Prop := d = .hole \/ ∃ v, o = some v /\ Rep K H Hs v d m
abbrev RepS (K : Fg) (H Hs : Hp) (σ : St) (δ : List D) (m : Bud) : Prop := Sep (RepO K H Hs) σ δ m
section
variable {K : Fg} {H Hs H' Hs' : Hp}
theorem RepO.frame {o : Option V} {d : D} {m : Bud} (g : Same Hs Hs') (k : ∀ b, m b ≥ 1 -> H b ≠ none -> H' b = H b) (h : RepO K H Hs o d m) : RepO K H' Hs' o d m := by
 rcases h with h | ⟨v, e, r⟩
 . exact .inl h
 . exact .inr ⟨v, e, r.frame g k⟩
theorem RepS.frame {σ : St} {δ : List D} {m : Bud} (g : Same Hs Hs') (k : ∀ b, m b ≥ 1 -> H b ≠ none -> H' b = H b) (h : RepS K H Hs σ δ m) : RepS K H' Hs' σ δ m :=
 h.imp fun a d m' l r => RepO.frame g (fun b hb => k b (Nat.le_trans hb (l b))) r
theorem RepL.slots : ∀ {vs : List V} {ds : List D} {m : Bud}, RepL K H Hs vs ds m -> RepS K H Hs (vs.map some) ds m
 | _, _, _, .nil _ => .nil _
 | _, _, _, .cons x y c => .cons (.inr ⟨_, rfl, x⟩) (RepL.slots y) c
theorem holes (o : Nat -> Option V) : ∀ (n : Nat) (m : Bud) (σ : St), σ.length = n -> RepS K H Hs σ (List.replicate n .hole) m
 | 0, m, [], _ => .nil _
 | n + 1, m, o :: σ, h => .cons (m1 := fun _ => 0) (.inl rfl) (holes (fun _ => none) n m σ (by simpa using h)) fun b => by (try dsimp only at *); omega
theorem RepS.slot {σ : St} {δ : List D} {m : Bud} {i : Nat} {d : D} (h : RepS K H Hs σ δ m) (e : δ[i]? = some d) (hd : d ≠ .hole) : ∃ (v : V) (m1 m2 : Bud), σ[i]? = some (some v) /\ Rep K H Hs v d m1 /\ (∀ b, m1 b + m2 b <= m b) /\
 ∀ (H' Hs' : Hp) (o : Option V) (d' : D) (m' : Bud), Same Hs Hs' -> (∀ b, m2 b ≥ 1 -> H b ≠ none -> H' b = H b) -> RepO K H' Hs' o d' m' -> RepS K H' Hs' (σ.set i o) (δ.set i d') (fun b => m' b + m2 b) := by
 obtain ⟨o, m1, m2, e1, r, l, f⟩ := h.focus e
 rcases r with r | ⟨v, rfl, r⟩
 . exact absurd r hd
 . exact ⟨v, m1, m2, e1, r, l, fun H' Hs' o d' m' g k x => f _ o d' m' (fun a d m'' l' q => RepO.frame g (fun b hb => k b (Nat.le_trans hb (l' b))) q) x⟩
theorem Zak {α : Type} : ∀ {l : List α} {i : Nat} {a : α}, l[i]? = some a -> l.set i a = l
 | [], _, _, h => by simp at h
 | b :: l, 0, a, h => by simp at h; subst h; rfl
 | b :: l, i + 1, a, h => by rw [List.set_cons_succ, Zak (by simpa using h)]
end
end T
namespace T
open PySem PySem.Spec L2
theorem Zd {α β : Type} {c : M α} {f : α -> M β} {δ : List D} {r : β × List D} (h : c.bnd f δ = .ok r) : ∃ a δ', c δ = .ok (a, δ') /\ f a δ' = .ok r := by
 unfold M.bnd at h
 split at h
 . rename_i a δ' e
   exact ⟨a, δ', e, h⟩
 . cases h
 . cases h
theorem Zi {α : Type} {a : α} {δ : List D} {r : α × List D} (h : M.ret a δ = .ok r) : r = (a, δ) := by
 unfold M.ret at h
 injection h with h
 exact h.symm
theorem Za0 {α : Type} {o : Option α} {δ : List D} {a : α} {δ' : List D} (h : lift o δ = .ok (a, δ')) : o = some a /\ δ' = δ := by
 cases o with
 | none => cases h
 | some x =>
  have := Zi h
  cases this
  exact ⟨rfl, rfl⟩
def RepP (K : Fg) (H Hs : Hp) (σ : St) (v : V) : Op -> Bud -> Prop
 | .late i, _ => σ[i]? = some (some v)
 | .tmp d, m => Rep K H Hs v d m
theorem RepP.frame {K : Fg} {H Hs H' Hs' : Hp} {σ : St} {v : V} {p : Op} {m : Bud} (g : Same Hs Hs') (k : ∀ b, m b ≥ 1 -> H b ≠ none -> H' b = H b) (h : RepP K H Hs σ v p m) : RepP K H' Hs' σ v p m := by
 cases p with
 | late i => exact h
 | tmp d => exact Rep.frame g k h
inductive View (K : Fg) (H Hs : Hp) : V -> W -> Bud -> Prop
 | sc (v : V) (m : Bud) : View K H Hs v (.sc v) m
 | nd {a : Addr} {k : Kd} {vs : List V} {ds : List D} {m : Bud} : Zgo K H a vs k -> RepL K H Hs vs ds m -> View K H Hs (.ref a) (.nd k ds) m
theorem View.frame {K : Fg} {H Hs Hs' : Hp} {v : V} {w : W} {m : Bud} (g : Same Hs Hs') (h : View K H Hs v w m) : View K H Hs' v w m := by
 cases h with
 | sc v m => exact .sc v m
 | nd n r => exact .nd n (r.frame g fun _ _ _ => rfl)
section
variable {K : Fg} {H Hs H' Hs' H1 Hs1 H2 Hs2 : Hp} {σ : St} {δ δ' : List D} {M M' B m : Bud}
theorem Good.re (g : Good H Hs M) (l : ∀ b, M' b <= M b := by intro b; (try dsimp only); omega) : Good H Hs M' := g.drop l
theorem Zcy {p : Op} {v : V} {w : W} (g : Good H Hs (fun b => B b + M b)) (s : RepS K H Hs σ δ M) (r : RepP K H Hs σ v p m) (e : view p δ = .ok (w, δ')) :
 ∃ Hs' M', Good H Hs' (fun b => B b + M' b) /\ Stp H Hs (fun b => B b + M b) H Hs' (fun b => B b + M' b) /\ View K H Hs' v w m /\ RepS K H Hs' σ δ' M' := by
 cases p with
 | tmp d =>
  cases d with
  | sc u =>
   have := Zi e
   cases this
   cases r
   exact ⟨Hs, M, g, Stp.refl _ _ _, .sc _ _, s⟩
  | hole => cases e
  | node k o ds =>
   have := Zi e
   cases this
   refine ⟨Hs, M, g, Stp.refl _ _ _, ?_, s⟩
   cases r with
   | own n q l => exact .nd n.r (q.mono fun b => by have := l b; omega)
   | shd n q => exact .nd (n.same g.sub) (q.mono fun b => Nat.zero_le _)
 | late i =>
  have r : σ[i]? = some (some v) := r
  unfold view at e
  dsimp only at e
  split at e
  . rename_i u hi
    cases e
    obtain ⟨v', m1, m2, e1, q, l, f⟩ := s.slot hi (by simp)
    rw [r] at e1
    cases e1
    cases q
    exact ⟨Hs, M, g, Stp.refl _ _ _, .sc _ _, s⟩
  . rename_i k ds hi
    cases e
    obtain ⟨v', m1, m2, e1, q, l, f⟩ := s.slot hi (by simp)
    rw [r] at e1
    cases e1
    cases q with
    | shd n q => exact ⟨Hs, M, g, Stp.refl _ _ _, .nd (n.same g.sub) (q.mono fun b => Nat.zero_le _), s⟩
  . rename_i k ds hi
    cases e
    obtain ⟨v', m1, m2, e1, q, l, f⟩ := s.slot hi (by simp)
    rw [r] at e1
    cases e1
    cases q with
    | @own a _ vs _ _ m' n q l' =>
     have g2 : Good H Hs (fun b => m' b + (B b + (one a b + m2 b))) := g.re fun b => by have := l b; have := l' b; omega
     have hsame := ZdD g2 (m := m') fun b => by omega
     have q2 := RepL.share hsame (ZfW (H := H) (Hs := Hs) (m := m')) q
     refine ⟨shH H Hs m', fun b => one a b + m2 b, g2.share, ?_, .nd n.r (q2.mono fun b => Nat.zero_le _), ?_⟩
     . have s1 := Stp.share g2
       exact ⟨fun b o h z => h, fun b h => by
        rcases s1.own b h with q | q
        . left
          have : B b + M b <= 1 := g.le b
          have h1 := l b
          have h2 := l' b
          have h3 : m' b + (B b + (one a b + m2 b)) = 1 := q
          show B b + M b = 1
          omega
        . exact .inr q, s1.grow, fun b h h' => by
        rcases s1.shr b h h' with q | q
        . left
          have : B b + M b <= 1 := g.le b
          have h1 := l b
          have h2 := l' b
          have h3 : m' b + (B b + (one a b + m2 b)) = 1 := q
          show B b + M b = 1
          omega
        . exact .inr q, fun b h => h⟩
     . have z := f H (shH H Hs m') (some (.ref a)) (.node k true (shrL ds)) (one a) hsame (fun _ _ _ => rfl) (.inr ⟨_, rfl, .own n q2 fun b => by simp⟩)
       rw [Zak r] at z
       exact z
  . cases e
def Outs (K : Fg) (H Hs : Hp) (m : Bud) (d : D) (Q : VK) : Prop := ∀ (v : V) (H' : Hp) (m' : Bud), Same H H' -> (∀ b, m' b <= 1) -> (∀ b, m' b = 1 -> H' b ≠ none) -> (∀ b, H b ≠ none -> m' b <= m b) -> Rep K H' Hs v d m' -> Q v H'
theorem Outs.sc {u : V} {Q : VK} (h : Outs K H Hs m (.sc u) Q) : Q u H := h u H (fun _ => 0) (Same.refl _) (fun _ => Nat.zero_le _) (fun _ h => by simp at h) (fun _ _ => Nat.zero_le _) (.sc u _)
theorem ZgO {H : Hp} {p : Addr} {o : HO} (h : H p = none) : Same H (upd H p o) := fun b u e => by
 rw [Zv (ZcS e h)]
 exact e
theorem Outs.new {k : Kd} {ds : List D} {vs : List V} {o : HO} {p : Addr} {Q : VK} (h : Outs K H Hs m (.node k true ds) Q) (hm : ∀ b, m b <= 1) (hh : ∀ b, m b = 1 -> H b ≠ none) (hp : H p = none) (n : ZbI (upd H p o) p vs k) (r : RepL K H Hs vs ds m) : Q (.ref p) (upd H p o) := by
 have hs := ZgO (o := o) hp
 have mp : m p = 0 := by
  have := hm p
  by_cases q : m p = 1
  . exact absurd hp (hh p q)
  . omega
 refine h (.ref p) (upd H p o) (fun b => one p b + m b) hs (fun b => ?_) (fun b q => ?_) (fun b q => ?_) (.own n (r.frame (Same.refl _) fun b hb hn => ?_) fun b => Nat.le_refl _)
 . unfold one
   have := hm b
   split
   . rename_i e; subst e; omega
   . omega
 . by_cases e : b = p
   . subst e; rw [Zr]; simp
   . rw [Zv e]
     exact hh b (by simp only [one, if_neg e] at q; omega)
 . have e : b ≠ p := fun e => by subst e; exact q hp
   simp only [one, if_neg e]
   omega
 . have e : b ≠ p := fun e => by subst e; exact hn hp
   rw [Zv e]
theorem Ze4 {H0 Hs0 : Hp} {M0 : Bud} {d : D} {Q : VK} (st : Stp H0 Hs0 M0 H Hs (fun b => B b + M b)) (g : Good H Hs (fun b => B b + M b)) (s : RepS K H Hs σ δ M)
 (q : ∀ (v : V) (H' Hs' : Hp) (m M' : Bud), Good H' Hs' (fun b => m b + M' b) -> Stp H0 Hs0 M0 H' Hs' (fun b => m b + M' b) -> Rep K H' Hs' v d m -> RepS K H' Hs' σ δ M' -> Q v H') : Outs K H Hs B d Q := by
 intro v H' m' hs h1 h2 h3 r
 have hz : ∀ b, H b = none -> M b = 0 /\ B b = 0 := fun b hb => by
  have := g.has b
  have l : B b + M b <= 1 := g.le b
  by_cases e : B b + M b = 1
  . exact absurd hb (this e)
  . omega
 have hst : ∀ b, H b ≠ none -> H' b ≠ none := fun b hb => by
  cases e : H b with
  | none => exact absurd e hb
  | some o => rw [hs b o e]; simp
 refine q v H' Hs m' M ⟨fun b o e => hs b o (g.sub b o e), fun b => ?_, fun b h => ?_, fun b h => ?_⟩ ⟨fun b o e z => hs b o (st.keep b o e z), fun b h => ?_, st.grow, st.shr, fun b h => hst b (st.stay b h)⟩ r (s.frame (Same.refl _) fun b hb hn => ?_)
 . have l : B b + M b <= 1 := g.le b
   have := h1 b
   by_cases e : H b = none
   . have := hz b e; show m' b + M b <= 1; omega
   . have := h3 b e; show m' b + M b <= 1; omega
 . have h : m' b + M b = 1 := h
   have l : B b + M b <= 1 := g.le b
   by_cases e : H b = none
   . cases q : Hs b with
     | none => rfl
     | some o => rw [g.sub b o q] at e; cases e
   . have := h3 b e
     exact g.ne b (by show B b + M b = 1; omega)
 . have h : m' b + M b = 1 := h
   have l : B b + M b <= 1 := g.le b
   by_cases e : m' b = 1
   . exact h2 b e
   . exact hst b (g.has b (by show B b + M b = 1; omega))
 . have h : m' b + M b = 1 := h
   have l : B b + M b <= 1 := g.le b
   by_cases e : H b = none
   . right
     cases w : H0 b with
     | none => rfl
     | some o => exact absurd e (st.stay b (by rw [w]; simp))
   . have := h3 b e
     exact st.own b (by show B b + M b = 1; omega)
 . cases e : H b with
   | none => exact absurd e hn
   | some o => exact hs b o e
theorem RepL.app {vs ws : List V} {ds es : List D} {m1 m2 : Bud} (a : RepL K H Hs vs ds m1) (b : RepL K H Hs ws es m2) : RepL K H Hs (vs ++ ws) (ds ++ es) (fun b => m1 b + m2 b) := (a.sep.append b.sep).repL
theorem RepL.len {vs : List V} {ds : List D} {m : Bud} (a : RepL K H Hs vs ds m) : vs.length = ds.length := a.sep.length
end
end T
namespace T
open PySem PySem.Spec L2
def tG {α : Type} (K : Fg) (c : M α) (R : Hp -> Hp -> St -> α -> V -> Bud -> Prop) : TE := fun σ H Q => ∃ (δ : List D) (Hs : Hp) (M : Bud) (a : α) (δ' : List D), Good H Hs M /\ RepS K H Hs σ δ M /\ c δ = .ok (a, δ') /\
 ∀ (v : V) (H' Hs' : Hp) (m M' : Bud), Good H' Hs' (fun b => m b + M' b) -> Stp H Hs M H' Hs' (fun b => m b + M' b) -> R H' Hs' σ a v m -> RepS K H' Hs' σ δ' M' -> Q v H'
def tM (K : Fg) (c : M D) : TE := tG K c fun H Hs _ d v m => Rep K H Hs v d m
def tP (K : Fg) (c : M Op) : TE := tG K c fun H Hs σ p v m => RepP K H Hs σ v p m
def tT (K : Fg) (c : M Bool) : TT := fun σ H Q => ∃ (δ : List D) (Hs : Hp) (M : Bud) (b : Bool) (δ' : List D), Good H Hs M /\ RepS K H Hs σ δ M /\ c δ = .ok (b, δ') /\
 ∀ (H' Hs' : Hp) (M' : Bud), Good H' Hs' M' -> Stp H Hs M H' Hs' M' -> RepS K H' Hs' σ δ' M' -> Q b H'
def Zd8 (K : Fg) (H Hs : Hp) (σ : St) : List V -> List Op -> Bud -> Prop
 | [], [], _ => True
 | v :: vs, p :: ps, m => ∃ m1 m2 : Bud, RepP K H Hs σ v p m1 /\ Zd8 K H Hs σ vs ps m2 /\ ∀ b, m1 b + m2 b <= m b
 | _, _, _ => False
theorem Zd8.frame {K : Fg} {H Hs H' Hs' : Hp} {σ : St} (g : Same Hs Hs') : ∀ {vs : List V} {ps : List Op} {m : Bud}, (∀ b, m b ≥ 1 -> H b ≠ none -> H' b = H b) -> Zd8 K H Hs σ vs ps m -> Zd8 K H' Hs' σ vs ps m
 | [], [], _, _, h => h
 | v :: vs, p :: ps, m, k, ⟨m1, m2, a, b, l⟩ => ⟨m1, m2, a.frame g fun c hc => k c (by have := l c; omega), b.frame g fun c hc => k c (by have := l c; omega), l⟩
 | [], _ :: _, _, _, h => h.elim
 | _ :: _, [], _, _, h => h.elim
def tPs (K : Fg) (c : M (List Op)) : TA := fun σ H Q => ∃ (δ : List D) (Hs : Hp) (M : Bud) (a : List Op) (δ' : List D), Good H Hs M /\ RepS K H Hs σ δ M /\ c δ = .ok (a, δ') /\
 ∀ (vs : List V) (H' Hs' : Hp) (m M' : Bud), Good H' Hs' (fun b => m b + M' b) -> Stp H Hs M H' Hs' (fun b => m b + M' b) -> Zd8 K H' Hs' σ vs a m -> RepS K H' Hs' σ δ' M' -> Q vs H'
def tDs (K : Fg) (c : M (List D)) : TA := fun σ H Q => ∃ (δ : List D) (Hs : Hp) (M : Bud) (a : List D) (δ' : List D), Good H Hs M /\ RepS K H Hs σ δ M /\ c δ = .ok (a, δ') /\
 ∀ (vs : List V) (H' Hs' : Hp) (m M' : Bud), Good H' Hs' (fun b => m b + M' b) -> Stp H Hs M H' Hs' (fun b => m b + M' b) -> RepL K H' Hs' vs a m -> RepS K H' Hs' σ δ' M' -> Q vs H'
section
variable {X : Cx} {e a b : Expr} {es : List Expr} {pos : Pos}
theorem PE.imp {t t' : TE} (h : PE X e t) (w : ∀ σ H Q, t' σ H Q -> t σ H Q) : PE X e t' := fun pins s σ H Q I q => h pins s σ H Q I (w σ H Q q)
theorem PT.imp {t t' : TT} (h : PT X e t) (w : ∀ σ H Q, t' σ H Q -> t σ H Q) : PT X e t' := fun pins s σ H Q I q => h pins s σ H Q I (w σ H Q q)
theorem PA.imp {t t' : TA} (h : PA X es t) (w : ∀ σ H Q, t' σ H Q -> t σ H Q) : PA X es t' := fun pos pins s σ H Q I q => h pos pins s σ H Q I (w σ H Q q)
theorem ZbJ {H Hs : Hp} {M : Bud} (g : Good H Hs M) : Good H Hs (fun b => (fun _ => 0) b + M b) := g.drop fun b => by simp
theorem stp0 (H Hs : Hp) (M : Bud) : Stp H Hs M H Hs (fun b => (fun _ => 0) b + M b) := by
 have e : (fun b => (fun _ => 0) b + M b) = M := by funext b; simp
 rw [e]
 exact Stp.refl H Hs M
theorem ok_k {v : V} (h : PE X e (tC v)) : PE X e (tM X.K (M.ret (.sc v))) := PE.imp h fun σ H Q ⟨δ, Hs, M, d, δ', g, r, e, q⟩ => by
 have := Zi e
 cases this
 exact q v H Hs (fun _ => 0) M (ZbJ g) (stp0 H Hs M) (.sc v _) r
theorem Zcz {i : Nat} (h : PE X e (tVar i)) : PE X e (tP X.K (Zbr i)) := PE.imp h fun σ H Q ⟨δ, Hs, M, p, δ', g, r, e, q⟩ => by
 have fin : ∀ {d : D}, δ[i]? = some d -> d ≠ .hole -> p = .late i -> δ' = δ -> tVar i σ H Q := fun hd hn e1 e2 => by
  subst e1 e2
  obtain ⟨v, m1, m2, e3, _⟩ := r.slot hd hn
  exact ⟨v, e3, q v H Hs (fun _ => 0) M (ZbJ g) (stp0 H Hs M) e3 r⟩
 unfold Zbr at e
 split at e
 . rename_i hd
   injection e with e
   cases e
   exact fin hd (by simp) rfl rfl
 . rename_i hd
   injection e with e
   cases e
   exact fin hd (by simp) rfl rfl
 . cases e
theorem ok_v {i : Nat} (h : PE X e (tVar i)) : PE X e (tM X.K (valV i)) := PE.imp h fun σ H Q ⟨δ, Hs, M, d, δ', g, s, e, q⟩ => by
 unfold valV at e
 split at e
 . rename_i u hd
   injection e with e
   cases e
   obtain ⟨v, m1, m2, e3, r, _⟩ := s.slot hd (by simp)
   cases r
   exact ⟨u, e3, q u H Hs (fun _ => 0) M (ZbJ g) (stp0 H Hs M) (.sc _ _) s⟩
 . rename_i k ds hd
   injection e with e
   cases e
   obtain ⟨v, m1, m2, e3, r, _⟩ := s.slot hd (by simp)
   cases r with
   | shd n r => exact ⟨_, e3, q _ H Hs (fun _ => 0) M (ZbJ g) (stp0 H Hs M) (.shd n r) s⟩
 . rename_i k ds hd
   injection e with e
   cases e
   obtain ⟨v, m1, m2, e3, r, l, f⟩ := s.slot hd (by simp)
   refine ⟨v, e3, ?_⟩
   have g2 : Good H Hs (fun b => m1 b + m2 b) := g.re fun b => by have := l b; omega
   have hsame := ZdD g2 (m := m1) fun b => by omega
   have r2 := Rep.share hsame (ZfW (H := H) (Hs := Hs) (m := m1)) r
   have st := Stp.share g2
   refine q v H (shH H Hs m1) (fun _ => 0) m2 (ZbJ g2.share) ⟨fun b o h _ => h, fun b h => ?_, st.grow, fun b h h' => ?_, fun b h => h⟩ r2 ?_
   . have h : (fun _ => 0) b + m2 b = 1 := h
     have := l b
     have := g.le b
     left; simp at h; omega
   . rcases st.shr b h h' with z | z
     . have z : m1 b + m2 b = 1 := z
       have := l b
       have := g.le b
       left; omega
     . exact .inr z
   . have z := f H (shH H Hs m1) (some v) (.node k false (shrL ds)) (fun _ => 0) hsame (fun _ _ _ => rfl) (.inr ⟨v, rfl, r2⟩)
     rw [Zak e3] at z
     exact z.mono fun b => by simp
 . cases e
theorem Zc {c : M D} (h : PE X e (tM X.K c)) : PE X e (tP X.K (c.bnd fun d => M.ret (.tmp d))) := PE.imp h fun σ H Q ⟨δ, Hs, M, p, δ', g, s, e, q⟩ => by
 obtain ⟨d, δ1, e1, e2⟩ := Zd e
 have := Zi e2
 cases this
 exact ⟨δ, Hs, M, d, _, g, s, e1, fun v H' Hs' m M' g' st r s' => q v H' Hs' m M' g' st r s'⟩
theorem seq2 {K : Fg} {ca cb : M Op} {σ : St} {H Hs : Hp} {M : Bud} {δ δ1 δ2 : List D} {p q : Op} {R : V -> V -> Hp -> Prop} (g : Good H Hs M) (s : RepS K H Hs σ δ M) (e1 : ca δ = .ok (p, δ1)) (e2 : cb δ1 = .ok (q, δ2))
 (h : ∀ (x y : V) (H2 Hs2 : Hp) (m1 m2 M2 : Bud), Good H2 Hs2 (fun b => (m1 b + m2 b) + M2 b) -> Stp H Hs M H2 Hs2 (fun b => (m1 b + m2 b) + M2 b) -> RepP K H2 Hs2 σ x p m1 -> RepP K H2 Hs2 σ y q m2 -> RepS K H2 Hs2 σ δ2 M2 -> R x y H2) :
 tP K ca σ H fun x H1 => tP K cb σ H1 fun y H2 => R x y H2 := by
 refine ⟨δ, Hs, M, p, δ1, g, s, e1, fun x H1 Hs1 m1 M1 g1 st1 r1 s1 => ⟨δ1, Hs1, M1, q, δ2, g1.re, s1, e2, fun y H2 Hs2 m2 M2 g2 st2 r2 s2 => ?_⟩⟩
 obtain ⟨G, S, k⟩ := Zx g g1 st1 g2 st2
 have le : ∀ b, m1 b + (m2 b + M2 b) <= 1 := G.le
 exact h x y H2 Hs2 m1 m2 M2 G.re (S.drop (fun b => by omega) le) (r1.frame st2.grow k) r2 s2
theorem Zmd {K : Fg} {σ : St} {H Hs : Hp} {m1 m2 M : Bud} {δ δ1 δ2 : List D} {p q : Op} {x y : V} {w1 w2 : W} (g : Good H Hs (fun b => (m1 b + m2 b) + M b)) (s : RepS K H Hs σ δ M) (r1 : RepP K H Hs σ x p m1) (r2 : RepP K H Hs σ y q m2)
 (e1 : view p δ = .ok (w1, δ1)) (e2 : view q δ1 = .ok (w2, δ2)) : ∃ Hs' M', Good H Hs' (fun b => (m1 b + m2 b) + M' b) /\ Stp H Hs (fun b => (m1 b + m2 b) + M b) H Hs' (fun b => (m1 b + m2 b) + M' b) /\ View K H Hs' x w1 m1 /\ View K H Hs' y w2 m2 /\ RepS K H Hs' σ δ2 M' := by
 obtain ⟨Hs1, M1, g1, st1, v1, s1⟩ := Zcy (B := fun b => m1 b + m2 b) g s r1 e1
 obtain ⟨Hs2, M2, g2, st2, v2, s2⟩ := Zcy (B := fun b => m1 b + m2 b) g1 s1 (r2.frame st1.grow fun _ _ _ => rfl) e2
 refine ⟨Hs2, M2, g2, ?_, v1.frame st2.grow, v2, s2⟩
 have z := Zx (m1 := fun _ => 0) g (g1.re fun b => by simp) (st1.drop (fun b => by simp) g1.le) g2 st2
 exact z.2.1.drop (fun b => by simp) z.1.le
def r2W (K : Fg) (f : W -> W -> Option D) : R2 := fun x y H Q => ∃ (Hs : Hp) (w1 w2 : W) (m1 m2 : Bud) (d : D), Same Hs H /\ (∀ b, m1 b + m2 b <= 1) /\ (∀ b, m1 b + m2 b = 1 -> H b ≠ none) /\ View K H Hs x w1 m1 /\ View K H Hs y w2 m2 /\ f w1 w2 = some d /\ Outs K H Hs (fun b => m1 b + m2 b) d Q
theorem op2 {K : Fg} {ca cb : M Op} {f : W -> W -> Option D} {σ : St} {H : Hp} {Q : VK} (h : tM K (ca.bnd fun p => cb.bnd fun q => (view p).bnd fun x => (view q).bnd fun y => lift (f x y)) σ H Q) : tOp (r2W K f) (tP K ca) (tP K cb) σ H Q := by
 obtain ⟨δ, Hs, M, d, δ', g, s, e, q⟩ := h
 obtain ⟨p, δ1, e1, e⟩ := Zd e
 obtain ⟨p2, δ2, e2, e⟩ := Zd e
 obtain ⟨w1, δ3, e3, e⟩ := Zd e
 obtain ⟨w2, δ4, e4, e⟩ := Zd e
 obtain ⟨e5, rfl⟩ := Za0 e
 refine seq2 g s e1 e2 fun x y H2 Hs2 m1 m2 M2 g2 st2 r1 r2 s2 => ?_
 obtain ⟨Hs3, M3, g3, st3, v1, v2, s3⟩ := Zmd g2 s2 r1 r2 e3 e4
 have z := Zx (m1 := fun _ => 0) g (g2.re fun b => by simp) (st2.drop (fun b => by simp) g2.le) g3 st3
 have st : Stp H Hs M H2 Hs3 (fun b => (m1 b + m2 b) + M3 b) := z.2.1.drop (fun b => by simp) z.1.le
 exact ⟨Hs3, w1, w2, m1, m2, d, g3.sub, fun b => by have : (m1 b + m2 b) + M3 b <= 1 := g3.le b; omega, fun b hb => g3.has b (by have : (m1 b + m2 b) + M3 b <= 1 := g3.le b; show (m1 b + m2 b) + M3 b = 1; omega), v1, v2, e5, Ze4 st g3 s3 q⟩
theorem Zj {op : Operator} {ca cb : M Op} (ho : OpR X (binaryOp op) (r2W X.K (binW op))) (ha : PE X a (tP X.K ca)) (hb : PE X b (tP X.K cb)) :
 PE X (.BinOp a op b pos) (tM X.K (ca.bnd fun p => cb.bnd fun q => (view p).bnd fun x => (view q).bnd fun y => lift (binW op x y))) := PE.imp (ZsD ho ha hb) fun σ H Q h => op2 h
theorem Zoe : OpR X (binaryOp .FloorDiv) (rI (fun _ j => 0 < j /\ j < 18446744073709551616) fun i j => .int (i / j)) := opI fun i j _ _ _ _ _ hc q => by
 have h1 : (0 : Int) < j := hc.1
 have h2 : j < 18446744073709551616 := hc.2
 refine PyProof.Rows.floordiv_int (by omega) (by rw [Int.fdiv_eq_ediv_of_nonneg i (by omega)]; exact q) (.inl (PyProof.noPylong_of_log2 ?_))
 by_cases h0 : j.natAbs = 0
 . rw [h0]; decide +kernel
 . have : j.natAbs.log2 < 64 := (Nat.log2_lt h0).mpr (by omega)
   omega
theorem ZbD {K : Fg} {H Hs : Hp} : ∀ {ds : List D} {vs : List V} {m : Bud} {is : List Int}, RepL K H Hs vs ds m -> Zb2 ds = some is -> vs = is.map V.int
 | [], _, _, is, .nil _, h => by simp only [Zb2, Option.some.injEq] at h; subst h; rfl
 | d :: ds, _, _, is, .cons x y _, h => by
  unfold Zb2 at h
  split at h
  . rename_i hh; cases hh
  . rename_i i r hh
    injection hh with h1 h2
    subst h1 h2
    (simp only [Option.map_eq_some_iff] at h)
    obtain ⟨js, h, rfl⟩ := h
    cases x
    rw [ZbD y h]
    rfl
  . cases h
theorem Zgs {K : Fg} {H Hs : Hp} : ∀ (l : List Int), RepL K H Hs (l.map V.int) (l.map fun i => D.sc (.int i)) (fun _ => 0)
 | [] => .nil _
 | i :: l => .cons (m1 := fun _ => 0) (m2 := fun _ => 0) (.sc _ _) (Zgs l) fun b => by simp
theorem Zof {K : Fg} {H Hs : Hp} (k : Nat) (is : List Int) : RepL K H Hs (List.replicate k (is.map V.int)).flatten ((List.replicate k is).flatten.map fun i => D.sc (.int i)) (fun _ => 0) := by
 have z := Zgs (K := K) (H := H) (Hs := Hs) (List.replicate k is).flatten
 rw [List.map_flatten, List.map_replicate] at z
 exact z
theorem Zk (op : Operator) : OpR X (binaryOp op) (r2W X.K (binW op)) := by
 intro pins s σ H x y v u Q I rx ry h
 obtain ⟨Hs, w1, w2, m1, m2, d, hs, h1, h2, v1, v2, e, o⟩ := h
 unfold binW at e
 split at e
 . cases e; cases v1; cases v2; exact ZqK pins s σ H _ _ v u Q I rx ry ⟨_, _, rfl, rfl, o.sc⟩
 . cases e; cases v1; cases v2; exact ZqL pins s σ H _ _ v u Q I rx ry ⟨_, _, rfl, rfl, o.sc⟩
 . split at e
   . rename_i hc; cases e; cases v1; cases v2; exact ZqM pins s σ H _ _ v u Q I rx ry ⟨_, _, rfl, rfl, hc, o.sc⟩
   . cases e
 . split at e
   . rename_i hc; cases e; cases v1; cases v2; exact Zoe pins s σ H _ _ v u Q I rx ry ⟨_, _, rfl, rfl, hc, o.sc⟩
   . cases e
 . split at e
   . rename_i hc; cases e; cases v1; cases v2; exact ZqN pins s σ H _ _ v u Q I rx ry ⟨_, _, rfl, rfl, hc, o.sc⟩
   . cases e
 . split at e
   . rename_i hc; cases e; cases v1; cases v2; exact ZqO pins s σ H _ _ v u Q I rx ry ⟨_, _, rfl, rfl, hc, o.sc⟩
   . cases e
 . split at e
   . rename_i hc; cases e; cases v1; cases v2; exact ZlK pins s σ H _ _ v u Q I rx ry ⟨_, _, rfl, rfl, hc, o.sc⟩
   . cases e
 . unfold newL at e
   split at e
   . rename_i hc
     cases e
     cases v1 with
     | nd n1 r1 => cases v2 with
      | nd n2 r2 =>
       have l1 := r1.len
       have l2 := r2.len
       rw [List.length_append] at hc
       exact ZqV pins s σ H _ _ v u Q I rx ry ⟨_, _, _, _, rfl, rfl, n1, n2, by omega, fun p hp => o.new h1 h2 hp (show upd H p _ p = _ from Zr) (r1.app r2)⟩
   . cases e
 . split at e
   . rename_i hc
     simp only [Option.map_eq_some_iff] at e
     obtain ⟨is, ei, rfl⟩ := e
     cases v1 with
     | nd n1 r1 =>
      cases v2
      have hl := r1.len
      have ex := ZbD r1 ei
      subst ex
      refine ZqW pins s σ H _ _ v u Q I rx ry ⟨_, _, _, rfl, rfl, n1, hc.1, hc.2.1, by rw [hl]; exact hc.2.2, fun p hp => o.new h1 h2 hp (show upd H p _ p = _ from Zr) ?_⟩
      exact (Zof _ is).mono fun b => Nat.zero_le _
   . cases e
 . cases e
end
end T
namespace T
open PySem PySem.Spec L2
mutual
theorem Rep.den {K : Fg} {H Hs : Hp} (g : Same Hs H) : ∀ {v : V} {d : D} {m : Bud} {a : PyData}, Rep K H Hs v d m -> py d = some a -> Den K H v a
 | _, _, _, _, .sc .non _, h => by simp only [py, Option.some.injEq] at h; subst h; exact .non
 | _, _, _, _, .sc (.bl b) _, h => by simp only [py, Option.some.injEq] at h; subst h; exact .bl b
 | _, _, _, _, .sc (.int b) _, h => by simp only [py, Option.some.injEq] at h; subst h; exact .int b
 | _, _, _, _, .sc (.str b) _, h => by simp only [py, Option.some.injEq] at h; subst h; exact .str b
 | _, _, _, _, .sc (.byt b) _, h => by simp [py] at h
 | _, _, _, _, .sc (.flt b) _, h => by simp [py] at h
 | _, _, _, _, .sc (.ref b) _, h => by simp [py] at h
 | _, _, _, _, .sc (.ty b) _, h => by simp [py] at h
 | _, _, _, _, .hole v _, h => by simp [py] at h
 | _, _, _, _, .own (k := .lst) n r _, h => by
  simp only [py, Option.map_eq_some_iff] at h
  obtain ⟨x, h, rfl⟩ := h
  exact .lst (.inl (.inl n)) (RepL.den g r h)
 | _, _, _, _, .own (k := .frl) n r _, h => n.elim
 | _, _, _, _, .own (k := .tup) n r _, h => by
  simp only [py, Option.map_eq_some_iff] at h
  obtain ⟨x, h, rfl⟩ := h
  exact .tup (.inl (.inl n)) (RepL.den g r h)
 | _, _, _, _, .own (k := .ftp) n r _, h => n.elim
 | _, _, _, _, .own (k := .dic _) n r _, h => by simp [py] at h
 | _, _, _, _, .own (k := .ins _ _) n r _, h => by simp [py] at h
 | _, _, _, _, .shd (k := .lst) n r, h => by
  simp only [py, Option.map_eq_some_iff] at h
  obtain ⟨x, h, rfl⟩ := h
  exact .lst (.inl (.inl (g _ _ n))) (RepL.den g r h)
 | _, _, _, _, .shd (k := .frl) n r, h => by
  simp only [py, Option.map_eq_some_iff] at h
  obtain ⟨x, h, rfl⟩ := h
  exact .lst (g.seq n) (RepL.den g r h)
 | _, _, _, _, .shd (k := .tup) n r, h => by
  simp only [py, Option.map_eq_some_iff] at h
  obtain ⟨x, h, rfl⟩ := h
  exact .tup (.inl (.inl (g _ _ n))) (RepL.den g r h)
 | _, _, _, _, .shd (k := .ftp) n r, h => by
  simp only [py, Option.map_eq_some_iff] at h
  obtain ⟨x, h, rfl⟩ := h
  exact .tup (Same.tupq' g n) (RepL.den g r h)
 | _, _, _, _, .shd (k := .dic _) n r, h => by simp [py] at h
 | _, _, _, _, .shd (k := .ins _ _) n r, h => by simp [py] at h
theorem RepL.den {K : Fg} {H Hs : Hp} (g : Same Hs H) : ∀ {vs : List V} {ds : List D} {m : Bud} {as : List PyData}, RepL K H Hs vs ds m -> pyL ds = some as -> DenL K H vs as
 | _, _, _, _, .nil _, h => by simp only [pyL, Option.some.injEq] at h; subst h; exact .nil
 | _, _, _, _, .cons x y _, h => by
  simp only [pyL, Option.bind_eq_some_iff, Option.map_eq_some_iff] at h
  obtain ⟨a, h1, as, h2, rfl⟩ := h
  exact .cons (Rep.den g x h1) (RepL.den g y h2)
end
theorem View.den {K : Fg} {H Hs : Hp} (g : Same Hs H) {v : V} {w : W} {m : Bud} {a : PyData} (h : View K H Hs v w m) (e : py (toD w) = some a) : Den K H v a := by
 cases h with
 | sc v m => exact Rep.den g (.sc v m) e
 | @nd ad k vs ds m n r =>
  cases k with
  | lst =>
   simp only [toD, py, Option.map_eq_some_iff] at e
   obtain ⟨x, e, rfl⟩ := e
   exact .lst (.inl (.inl n)) (r.den g e)
  | frl =>
   simp only [toD, py, Option.map_eq_some_iff] at e
   obtain ⟨x, e, rfl⟩ := e
   exact .lst n (r.den g e)
  | tup =>
   simp only [toD, py, Option.map_eq_some_iff] at e
   obtain ⟨x, e, rfl⟩ := e
   exact .tup (.inl (.inl n)) (r.den g e)
  | ftp =>
   simp only [toD, py, Option.map_eq_some_iff] at e
   obtain ⟨x, e, rfl⟩ := e
   exact .tup n (r.den g e)
  | dic ks => simp [toD, py] at e
  | ins C fs => simp [toD, py] at e
section
variable {X : Cx} {e a b c : Expr} {es rest : List Expr} {pos : Pos}
theorem Zp3 {a b : PyData} {t : Bool} (h : eqPy a b = some t) : SeqAt.shaped a = true /\ SeqAt.shaped b = true /\ PyData.eqv a b = t := by
 unfold eqPy at h
 split at h
 . rename_i q
   exact ⟨q.1, q.2, Option.some.inj h⟩
 . cases h
theorem Zir {K : Fg} {H Hs : Hp} (g : Same Hs H) {x y : V} {w1 w2 : W} {m1 m2 : Bud} {t : Bool} (v1 : View K H Hs x w1 m1) (v2 : View K H Hs y w2 m2) (h : eqW w1 w2 = some t) :
 (scal x y = true /\ decide (x = y) = t) \/ ∃ d e, Den K H x d /\ Den K H y e /\ SeqAt.shaped d = true /\ SeqAt.shaped e = true /\ PyData.eqv d e = t := by
 have go : ((py (toD w1)).bind fun a => (py (toD w2)).bind fun b => eqPy a b) = some t -> ∃ d e, Den K H x d /\ Den K H y e /\ SeqAt.shaped d = true /\ SeqAt.shaped e = true /\ PyData.eqv d e = t := fun q => by
  simp only [Option.bind_eq_some_iff] at q
  obtain ⟨d, q1, e, q2, q3⟩ := q
  obtain ⟨s1, s2, s3⟩ := Zp3 q3
  exact ⟨d, e, v1.den g q1, v2.den g q2, s1, s2, s3⟩
 cases v1 with
 | sc u _ => cases v2 with
  | sc v _ =>
   have h : (if scal x y = true then some (decide (x = y)) else (py (.sc x)).bind fun a => (py (.sc y)).bind fun b => eqPy a b) = some t := h
   by_cases q : scal x y = true
   . rw [if_pos q] at h
     exact .inl ⟨q, Option.some.inj h⟩
   . rw [if_neg q] at h
     exact .inr (go h)
  | nd n r => exact .inr (go h)
 | nd n r => exact .inr (go h)
theorem ZhS (i : Int) : ∀ is : List Int, inV (.int i) (is.map V.int) = decide (i ∈ is)
 | [] => rfl
 | j :: is => by
  have h := ZhS i is
  unfold inV at h ⊢
  rw [List.map_cons, List.any_cons, h]
  by_cases e : j = i
  . subst e; simp [eqV]
  . have e' : ¬ i = j := fun q => e q.symm
    simp [eqV, e, e']
theorem ZgP : ∀ is : List Int, (is.map V.int).all Zfk = true
 | [] => rfl
 | j :: is => by rw [List.map_cons, List.all_cons, ZgP is]; rfl
theorem ZmX (op : CmpOp) (hu : X.A.units + 64 < cLine) : OpR X (compareOp op) (r2W X.K fun x y => (cmpW op x y).map fun t => .sc (.bl t)) := by
 intro pins s σ H x y v u Q I rx ry h
 obtain ⟨Hs, w1, w2, m1, m2, d, hs, h1, h2, v1, v2, e, o⟩ := h
 simp only [Option.map_eq_some_iff] at e
 obtain ⟨t, e, rfl⟩ := e
 have q := o.sc
 unfold cmpW at e
 split at e
 . rcases Zir hs v1 v2 e with ⟨h3, rfl⟩ | ⟨d, f, h3, h4, h5, h6, rfl⟩
   . exact ZoC pins s σ H _ _ v u Q I rx ry ⟨h3, q⟩
   . exact ZmO hu pins s σ H _ _ v u Q I rx ry ⟨d, f, h3, h4, h5, h6, q⟩
 . simp only [Option.map_eq_some_iff] at e
   obtain ⟨t, e, rfl⟩ := e
   rcases Zir hs v1 v2 e with ⟨h3, rfl⟩ | ⟨d, f, h3, h4, h5, h6, rfl⟩
   . exact ZoD pins s σ H _ _ v u Q I rx ry ⟨h3, q⟩
   . exact ZmP hu pins s σ H _ _ v u Q I rx ry ⟨d, f, h3, h4, h5, h6, q⟩
 . simp only [Option.map_eq_some_iff] at e
   obtain ⟨is, e, rfl⟩ := e
   cases v1
   cases v2 with
   | nd n r =>
    have ei := ZbD r e
    subst ei
    exact ZgL pins s σ H _ _ v u Q I rx ry ⟨_, _, rfl, .inr n, rfl, ZgP _, by rw [if_pos rfl, ZhS]; exact q⟩
 . rename_i i j _ _
   cases v1; cases v2
   cases op with
   | Lt => cases e; exact ZoE pins s σ H _ _ v u Q I rx ry ⟨_, _, rfl, rfl, q⟩
   | LtE => cases e; exact ZoF pins s σ H _ _ v u Q I rx ry ⟨_, _, rfl, rfl, q⟩
   | Gt => cases e; exact ZoG pins s σ H _ _ v u Q I rx ry ⟨_, _, rfl, rfl, q⟩
   | GtE => cases e; exact ZoH pins s σ H _ _ v u Q I rx ry ⟨_, _, rfl, rfl, q⟩
   | _ => cases e
 . cases e
theorem Zrl {op : CmpOp} {ca cb : M Op} (hu : X.A.units + 64 < cLine) (ha : PE X a (tP X.K ca)) (hb : PE X b (tP X.K cb)) (hm : behindInMarks op b = false := by first | exact nomark _ | with_unfolding_all rfl) :
 PE X (.Compare a [op] [b] pos) (tM X.K (ca.bnd fun p => cb.bnd fun q => (view p).bnd fun x => (view q).bnd fun y => lift ((cmpW op x y).map fun t => .sc (.bl t)))) := PE.imp (Zpi (ZmX op hu) ha hb hm) fun σ H Q h => op2 h
theorem Zog {c : M D} {δ : List D} {r : Bool × List D} (h : Zeb c δ = .ok r) : c δ = .ok (.sc (.bl r.1), r.2) := by
 obtain ⟨d, δ1, e1, e2⟩ := Zd h
 obtain ⟨b, δ2⟩ := r
 obtain ⟨e3, rfl⟩ := Za0 e2
 cases d with
 | sc v => cases v with
  | bl t => cases e3; exact e1
  | _ => cases e3
 | _ => cases e3
theorem ZiN {c : M D} {σ : St} {H : Hp} {Q : Bool -> Hp -> Prop} {K : Fg} (h : tT K (Zeb c) σ H Q) : tM K c σ H fun x H' => ∃ k, x = .bl k /\ Q k H' := by
 obtain ⟨δ, Hs, M, b, δ', g, s, e, q⟩ := h
 refine ⟨δ, Hs, M, .sc (.bl b), δ', g, s, Zog e, fun v H' Hs' m M' g' st r s' => ?_⟩
 cases r
 exact ⟨b, rfl, q H' Hs' M' g'.re (st.drop (fun b => by omega) g'.le) s'⟩
theorem Zp4 {op : CmpOp} {ca cb : M Op} (hu : X.A.units + 64 < cLine) (ha : PE X a (tP X.K ca)) (hb : PE X b (tP X.K cb)) (hm : behindInMarks op b = false := by first | exact nomark _ | with_unfolding_all rfl) :
 PT X (.Compare a [op] [b] pos) (tT X.K (Zeb (ca.bnd fun p => cb.bnd fun q => (view p).bnd fun x => (view q).bnd fun y => lift ((cmpW op x y).map fun t => .sc (.bl t))))) := PT.imp (Zpj (ZmX op hu) ha hb hm) fun σ H Q h => op2 (ZiN h)
theorem op1 {K : Fg} {ca : M Op} {f : W -> Option D} {σ : St} {H : Hp} {Q : VK} {r : V -> Hp -> VK -> Prop} (h : tM K ((ca.bnd view).bnd fun x => lift (f x)) σ H Q)
 (hr : ∀ (x : V) (H Hs : Hp) (w : W) (m : Bud) (d : D), Same Hs H -> (∀ b, m b <= 1) -> (∀ b, m b = 1 -> H b ≠ none) -> View K H Hs x w m -> f w = some d -> Outs K H Hs m d Q -> r x H Q) : tUn r (tP K ca) σ H Q := by
 obtain ⟨δ, Hs, M, d, δ', g, s, e, q⟩ := h
 obtain ⟨w, δ2, e, e5⟩ := Zd e
 obtain ⟨p, δ1, e1, e3⟩ := Zd e
 obtain ⟨e6, rfl⟩ := Za0 e5
 refine ⟨δ, Hs, M, p, δ1, g, s, e1, fun x H2 Hs2 m1 M2 g2 st2 r1 s2 => ?_⟩
 obtain ⟨Hs3, M3, g3, st3, v1, s3⟩ := Zcy (B := m1) g2 s2 r1 e3
 have z := Zx (m1 := fun _ => 0) g (g2.re fun b => by simp) (st2.drop (fun b => by simp) g2.le) g3 st3
 have st : Stp H Hs M H2 Hs3 (fun b => m1 b + M3 b) := z.2.1.drop (fun b => by simp) z.1.le
 exact hr x H2 Hs3 w m1 d g3.sub (fun b => by have : m1 b + M3 b <= 1 := g3.le b; omega) (fun b hb => g3.has b (by have : m1 b + M3 b <= 1 := g3.le b; show m1 b + M3 b = 1; omega)) v1 e6 (Ze4 st g3 s3 q)
theorem ZeJ {ca : M Op} (ha : PE X a (tP X.K ca)) : PE X (.UnaryOp .USub a pos) (tM X.K ((ca.bnd view).bnd fun x => lift (negW x))) :=
 PE.imp (ZoB Zm7 ha) fun σ H Q h => op1 h fun x H Hs w m d g h1 h2 v e o => by
  unfold negW at e
  split at e
  . cases e; cases v; exact ⟨_, rfl, o.sc⟩
  . cases e
theorem Zrm {K : Fg} {H Hs : Hp} {v : V} {w : W} {m : Bud} {t : Bool} (h : View K H Hs v w m) (e : truW w = some t) : TruV K v H t := by
 cases h with
 | sc v m =>
  cases v with
  | bl b => cases e; rfl
  | int i => cases e; show decide (i ≠ 0) = (i != 0); rw [Bool.eq_iff_iff]; simp
  | str x =>
   have e : (if x.length <= sizeLine then some (decide (x.length ≠ 0)) else none) = some t := e
   split at e
   . rename_i q
     cases e
     exact ⟨q, by rw [Bool.eq_iff_iff]; simp⟩
   . cases e
  | non => cases e; rfl
  | _ => cases e
 | @nd a k vs ds m n r =>
  have l : (!vs.isEmpty) = !ds.isEmpty := by
   have := r.len
   cases vs <;> cases ds <;> simp at this ⊢
  cases k with
  | lst => cases e; exact .inl ⟨vs, .inl (.inl n), by rw [l]⟩
  | frl => cases e; exact .inl ⟨vs, n, by rw [l]⟩
  | tup => cases e; exact .inr (.inl ⟨vs, .inl (.inl n), by rw [l]⟩)
  | ftp => cases e; exact .inr (.inl ⟨vs, n, by rw [l]⟩)
  | dic ks => cases e
  | ins C fs => cases e
theorem ZbN {ca : M Op} (ha : PE X e (tP X.K ca)) (he : ∀ whole, isTrue e X.env whole = (do let v <- whole; standAt e.pos; holding [v] (truthy v)) := by intro _; rfl) :
 PT X e (tT X.K (ca.bnd fun p => (view p).bnd fun w => lift (truW w))) := PT.imp (ZnH ha he) fun σ H Q h => by
 obtain ⟨δ, Hs, M, t, δ', g, s, e, q⟩ := h
 obtain ⟨p, δ1, e1, e⟩ := Zd e
 obtain ⟨w, δ2, e3, e5⟩ := Zd e
 obtain ⟨e6, rfl⟩ := Za0 e5
 refine ⟨δ, Hs, M, p, δ1, g, s, e1, fun x H2 Hs2 m1 M2 g2 st2 r1 s2 => ?_⟩
 obtain ⟨Hs3, M3, g3, st3, v1, s3⟩ := Zcy (B := m1) g2 s2 r1 e3
 have z := Zx (m1 := fun _ => 0) g (g2.re fun b => by simp) (st2.drop (fun b => by simp) g2.le) g3 st3
 exact ⟨t, Zrm v1 e6, q H2 Hs3 M3 g3.re (z.2.1.drop (fun b => by simp) z.1.le) s3⟩
end
end T
namespace T
open PySem PySem.Spec L2
section
variable {X : Cx} {e a b c : Expr} {es rest : List Expr} {pos : Pos}
theorem PW.imp {t t' : TT} (h : PW X e t) (w : ∀ σ H Q, t' σ H Q -> t σ H Q) : PW X e t' := fun wh pins s σ H Q I q => h wh pins s σ H Q I (w σ H Q q)
theorem Zkn {K : Fg} {ca : M Bool} {f : Bool -> M Bool} {σ : St} {H : Hp} {Q : Bool -> Hp -> Prop} (h : tT K (ca.bnd f) σ H Q) : tT K ca σ H fun t H1 => tT K (f t) σ H1 Q := by
 obtain ⟨δ, Hs, M, b, δ', g, s, e, q⟩ := h
 obtain ⟨t, δ1, e1, e2⟩ := Zd e
 refine ⟨δ, Hs, M, t, δ1, g, s, e1, fun H1 Hs1 M1 g1 st1 s1 => ⟨δ1, Hs1, M1, b, δ', g1, s1, e2, fun H2 Hs2 M2 g2 st2 s2 => ?_⟩⟩
 have z := Zx (m1 := fun _ => 0) g (g1.re fun b => by simp) (st1.drop (fun b => by simp) g1.le) g2 st2
 exact q H2 Hs2 M2 g2 (z.2.1.drop (fun b => by simp) z.1.le) s2
theorem Zis {K : Fg} {t : Bool} {σ : St} {H : Hp} {Q : Bool -> Hp -> Prop} (h : tT K (M.ret t) σ H Q) : Q t H := by
 obtain ⟨δ, Hs, M, b, δ', g, s, e, q⟩ := h
 have := Zi e
 cases this
 exact q H Hs M g (Stp.refl _ _ _) s
theorem Zrn {K : Fg} {ca : M Bool} {f : Bool -> M D} {σ : St} {H : Hp} {Q : VK} (h : tM K (ca.bnd f) σ H Q) : tT K ca σ H fun t H1 => tM K (f t) σ H1 Q := by
 obtain ⟨δ, Hs, M, b, δ', g, s, e, q⟩ := h
 obtain ⟨t, δ1, e1, e2⟩ := Zd e
 refine ⟨δ, Hs, M, t, δ1, g, s, e1, fun H1 Hs1 M1 g1 st1 s1 => ⟨δ1, Hs1, M1, b, δ', g1, s1, e2, fun v H2 Hs2 m2 M2 g2 st2 r2 s2 => ?_⟩⟩
 have z := Zx (m1 := fun _ => 0) g (g1.re fun b => by simp) (st1.drop (fun b => by simp) g1.le) g2 st2
 exact q v H2 Hs2 m2 M2 g2 (z.2.1.drop (fun b => by simp) z.1.le) r2 s2
theorem Zp5 {ca : M Bool} (ha : PT X a (tT X.K ca)) : PW X (.BoolOp .And [a] pos) (tT X.K ca) := Zpe ha
theorem Zec {ca : M Bool} (ha : PT X a (tT X.K ca)) : PW X (.BoolOp .Or [a] pos) (tT X.K ca) := Zq9 ha
theorem Zp6 {ca cb : M Bool} (ha : PT X a (tT X.K ca)) (hb : PW X (.BoolOp .And (b :: rest) pos) (tT X.K cb)) : PW X (.BoolOp .And (a :: b :: rest) pos) (tT X.K (ca.bnd fun t => if t then cb else M.ret false)) :=
 PW.imp (ZqA ha hb) fun σ H Q h => by
  obtain ⟨δ, Hs, M, t, δ', g, s, e, q⟩ := Zkn h
  refine ⟨δ, Hs, M, t, δ', g, s, e, fun H' Hs' M' g' st s' => ?_⟩
  have z := q H' Hs' M' g' st s'
  cases t with
  | true => exact z
  | false => exact Zis z
theorem ZcE {ca cb : M Bool} (ha : PT X a (tT X.K ca)) (hb : PW X (.BoolOp .Or (b :: rest) pos) (tT X.K cb)) : PW X (.BoolOp .Or (a :: b :: rest) pos) (tT X.K (ca.bnd fun t => if t then M.ret true else cb)) :=
 PW.imp (Zs4 ha hb) fun σ H Q h => by
  obtain ⟨δ, Hs, M, t, δ', g, s, e, q⟩ := Zkn h
  refine ⟨δ, Hs, M, t, δ', g, s, e, fun H' Hs' M' g' st s' => ?_⟩
  have z := q H' Hs' M' g' st s'
  cases t with
  | false => exact z
  | true => exact Zis z
theorem Zbw {ca : M Bool} (ha : PT X a (tT X.K ca)) : PT X (.UnaryOp .Not a pos) (tT X.K (ca.bnd fun t => M.ret (!t))) :=
 PT.imp (ZqB ha) fun σ H Q h => by
  obtain ⟨δ, Hs, M, t, δ', g, s, e, q⟩ := Zkn h
  exact ⟨δ, Hs, M, t, δ', g, s, e, fun H' Hs' M' g' st s' => Zis (q H' Hs' M' g' st s')⟩
theorem Zro {ct : M Bool} {ca cb : M D} (hc : PT X c (tT X.K ct)) (ha : PE X a (tM X.K ca)) (hb : PE X b (tM X.K cb)) : PE X (.IfExp c a b pos) (tM X.K (ct.bnd fun t => if t then ca else cb)) :=
 PE.imp (ZnC hc ha hb) fun σ H Q h => by
  obtain ⟨δ, Hs, M, t, δ', g, s, e, q⟩ := Zrn h
  refine ⟨δ, Hs, M, t, δ', g, s, e, fun H' Hs' M' g' st s' => ?_⟩
  have z := q H' Hs' M' g' st s'
  cases t with
  | true => exact z
  | false => exact z
theorem ZmY {K : Fg} {ca : M Op} {f : W -> M D} {σ : St} {H : Hp} {Q : VK} (h : tM K ((ca.bnd view).bnd f) σ H Q) : tP K ca σ H fun x H1 => ∃ (Hs : Hp) (w : W) (m : Bud), View K H1 Hs x w m /\ tM K (f w) σ H1 Q := by
 obtain ⟨δ, Hs, M, d, δ', g, s, e, q⟩ := h
 obtain ⟨w, δ2, e, e5⟩ := Zd e
 obtain ⟨p, δ1, e1, e3⟩ := Zd e
 refine ⟨δ, Hs, M, p, δ1, g, s, e1, fun x H2 Hs2 m1 M2 g2 st2 r1 s2 => ?_⟩
 obtain ⟨Hs3, M3, g3, st3, v1, s3⟩ := Zcy (B := m1) g2 s2 r1 e3
 refine ⟨Hs3, w, m1, v1, δ2, Hs3, M3, d, δ', g3.re, s3, e5, fun v H4 Hs4 m4 M4 g4 st4 r4 s4 => ?_⟩
 have z := Zx (m1 := fun _ => 0) g (g2.re fun b => by simp) (st2.drop (fun b => by simp) g2.le) g3 st3
 have st : Stp H Hs M H2 Hs3 (fun b => m1 b + M3 b) := z.2.1.drop (fun b => by simp) z.1.le
 have z := Zx (m1 := m1) (M1 := M3) g g3 st g4 st4
 exact q v H4 Hs4 m4 M4 g4 (z.2.1.drop (fun b => by omega) z.1.le) r4 s4
theorem ZmZ {K : Fg} {v : V} {σ : St} {H : Hp} {Q : VK} (h : tM K (M.ret (.sc v)) σ H Q) : Q v H := by
 obtain ⟨δ, Hs, M, b, δ', g, s, e, q⟩ := h
 have := Zi e
 cases this
 exact q v H Hs (fun _ => 0) M (ZbJ g) (stp0 _ _ _) (.sc v _) s
theorem Zit {K : Fg} {σ : St} {H : Hp} {Q : VK} (h : tM K stk σ H Q) : False := by
 obtain ⟨δ, Hs, M, b, δ', g, s, e, q⟩ := h
 cases e
theorem Ziu {op} {ca : M D} (ha : PE X a (tM X.K ca)) : PE X (.BoolOp op [a] pos) (tM X.K ca) := ZqC ha
theorem Zhr {ca : M Op} {cb : M D} (ha : PE X a (tP X.K ca)) (hb : PE X (.BoolOp .And (b :: rest) pos) (tM X.K cb)) : PE X (.BoolOp .And (a :: b :: rest) pos) (tM X.K ((ca.bnd view).bnd (andM cb))) :=
 PE.imp (ZqD ha hb) fun σ H Q h => by
  obtain ⟨δ, Hs, M, t, δ', g, s, e, q⟩ := ZmY h
  refine ⟨δ, Hs, M, t, δ', g, s, e, fun v H' Hs' m M' g' st r s' => ?_⟩
  obtain ⟨Hs2, w, m2, v2, z⟩ := q v H' Hs' m M' g' st r s'
  cases v2 with
  | sc u _ => cases v with
   | bl t => cases t with
    | true => exact ⟨true, rfl, z⟩
    | false => exact ⟨false, rfl, ZmZ z⟩
   | _ => exact (Zit z).elim
  | nd n r => exact (Zit z).elim
theorem Zp7 {ca : M Op} (ha : PE X a (tP X.K ca)) : PE X (.UnaryOp .Not a pos) (tM X.K ((ca.bnd view).bnd fun w => lift (notW w))) :=
 PE.imp (ZqE ha) fun σ H Q h => by
  obtain ⟨δ, Hs, M, t, δ', g, s, e, q⟩ := ZmY h
  refine ⟨δ, Hs, M, t, δ', g, s, e, fun v H' Hs' m M' g' st r s' => ?_⟩
  obtain ⟨Hs2, w, m2, v2, z⟩ := q v H' Hs' m M' g' st r s'
  cases v2 with
  | sc u _ => cases v with
   | bl t => exact ⟨t, rfl, ZmZ z⟩
   | _ => exact (Zit z).elim
  | nd n r => exact (Zit z).elim
theorem RepL.at {K : Fg} {H Hs : Hp} {vs : List V} {ds : List D} {m : Bud} {j : Nat} {d : D} (r : RepL K H Hs vs ds m) (e : ds[j]? = some d) : ∃ (v : V) (m1 : Bud), vs[j]? = some v /\ Rep K H Hs v d m1 /\ ∀ b, m1 b <= m b := r.sep.get e
theorem Outs.part {K : Fg} {H Hs : Hp} {m m1 : Bud} {v : V} {d : D} {Q : VK} (h : Outs K H Hs m d Q) (hm : ∀ b, m b <= 1) (hh : ∀ b, m b = 1 -> H b ≠ none) (l : ∀ b, m1 b <= m b) (r : Rep K H Hs v d m1) : Q v H :=
 h v H m1 (Same.refl _) (fun b => Nat.le_trans (l b) (hm b)) (fun b e => hh b (by have := l b; have := hm b; omega)) (fun b _ => l b) r
theorem Zrp (n : Nat) (i : Int) : ixN' n i = ixN n i := rfl
theorem ZsR : IxR X (r2W X.K ixW) := by
 intro value slice pins s σ H x y v u Q I rx ry h hsl
 obtain ⟨Hs, w1, w2, m1, m2, d, hs, h1, h2, v1, v2, e, o⟩ := h
 have fin : ∀ {ds : List D} {vs : List V} {i : Int}, RepL X.K H Hs vs ds m1 -> ((ixN' ds.length i).bind fun j => ds[j]?) = some d -> ∃ z, atI vs i = some z /\ Q z H := fun {ds vs i} r e => by
  simp only [Option.bind_eq_some_iff] at e
  obtain ⟨j, e1, e2⟩ := e
  obtain ⟨z, m3, e3, rz, l⟩ := r.at e2
  refine ⟨z, ?_, o.part h1 h2 (fun b => by have := l b; omega) rz⟩
  unfold atI
  rw [r.len, <- Zrp, e1]
  exact e3
 unfold ixW at e
 split at e
 . cases v1 with
   | nd n r => cases v2; obtain ⟨z, e1, q⟩ := fin r e; exact Zlp value slice pins s σ H _ _ v u Q I rx ry ⟨_, _, _, z, rfl, rfl, .inl (.inl n), e1, q⟩ hsl
 . cases v1 with
   | nd n r => cases v2; obtain ⟨z, e1, q⟩ := fin r e; exact Zlp value slice pins s σ H _ _ v u Q I rx ry ⟨_, _, _, z, rfl, rfl, n, e1, q⟩ hsl
 . cases v1 with
   | nd n r => cases v2; obtain ⟨z, e1, q⟩ := fin r e; exact ZmG value slice pins s σ H _ _ v u Q I rx ry ⟨_, _, _, z, rfl, rfl, .inl (.inl n), e1, q⟩ hsl
 . cases v1 with
   | nd n r => cases v2; obtain ⟨z, e1, q⟩ := fin r e; exact ZmG value slice pins s σ H _ _ v u Q I rx ry ⟨_, _, _, z, rfl, rfl, n, e1, q⟩ hsl
 . split at e
   . rename_i z i hz
     cases v1; cases v2
     simp only [Option.map_eq_some_iff] at e
     obtain ⟨c, e, rfl⟩ := e
     exact ZqS value slice pins s σ H _ _ v u Q I rx ry ⟨_, _, c, rfl, rfl, hz, e, o.sc⟩ hsl
   . cases e
 . cases e
theorem ZsS {ca cb : M Op} (ha : PE X a (tP X.K ca)) (hb : PE X b (tP X.K cb)) (hs : ZiL b := by intro _ _; rfl) :
 PE X (.Subscript a b pos) (tM X.K (ca.bnd fun p => cb.bnd fun q => (view p).bnd fun x => (view q).bnd fun y => lift (ixW x y))) := PE.imp (ZsG ZsR ha hb hs) fun σ H Q h => op2 h
end
end T
namespace T
open PySem PySem.Spec L2
section
variable {X : Cx} {e a b c : Expr} {es rest : List Expr} {pos : Pos}
theorem tG.mono {α : Type} {K : Fg} {c : M α} {R : Hp -> Hp -> St -> α -> V -> Bud -> Prop} {σ : St} {H : Hp} {Q Q' : VK} (h : tG K c R σ H Q) (w : ∀ v H', Q v H' -> Q' v H') : tG K c R σ H Q' := by
 obtain ⟨δ, Hs, M, a, δ', g, s, e, q⟩ := h
 exact ⟨δ, Hs, M, a, δ', g, s, e, fun v H' Hs' m M' g' st r s' => w v H' (q v H' Hs' m M' g' st r s')⟩
theorem RepL.take {K : Fg} {H Hs : Hp} {vs : List V} {ds : List D} {m : Bud} (r : RepL K H Hs vs ds m) (n : Nat) : RepL K H Hs (vs.take n) (ds.take n) m := (r.sep.take n).repL
theorem RepL.drop {K : Fg} {H Hs : Hp} {vs : List V} {ds : List D} {m : Bud} (r : RepL K H Hs vs ds m) (n : Nat) : RepL K H Hs (vs.drop n) (ds.drop n) m := (r.sep.drop n).repL
def rSlW (K : Fg) : V -> Option Int -> Option Int -> Hp -> VK -> Prop := fun x lo hi H Q => ∃ (Hs : Hp) (w : W) (m : Bud) (d : D), Same Hs H /\ (∀ b, m b <= 1) /\ (∀ b, m b = 1 -> H b ≠ none) /\ View K H Hs x w m /\ slD w lo hi = some d /\ Outs K H Hs m d Q
theorem ZsT : SlR X (rSlW X.K) := by
 intro pins s σ H x v vl vu lo hi sl Q I rx hsl pl pu h
 obtain ⟨Hs, w, m, d, hs, h1, h2, v1, e, o⟩ := h
 have go : ∀ {a : Addr} {vs : List V} {ds : List D}, RepL X.K H Hs vs ds m -> d = .node .lst true (cutD ds lo hi) -> ∀ p, H p = none -> Q (.ref p) (upd H p (.lst (cutV vs lo hi))) := fun {a vs ds} r e p hp => by
  subst e
  refine o.new h1 h2 hp (vs := cutV vs lo hi) Zr ?_
  unfold cutV cutD
  rw [r.len]
  exact (r.drop _).take _
 unfold slD at e
 split at e
 . cases v1 with
   | nd n r => exact Zlq pins s σ H _ v vl vu lo hi sl Q I rx hsl pl pu ⟨_, _, rfl, .inl (.inl n), go (a := 0) r (Option.some.inj e).symm⟩
 . cases v1 with
   | nd n r => exact Zlq pins s σ H _ v vl vu lo hi sl Q I rx hsl pl pu ⟨_, _, rfl, n, go (a := 0) r (Option.some.inj e).symm⟩
 . split at e
   . rename_i hz
     cases e
     cases v1
     exact Zrd pins s σ H _ v vl vu lo hi sl Q I rx hsl pl pu ⟨_, rfl, hz, o.sc⟩
   . cases e
 . cases e
noncomputable def tW (K : Fg) (c : M (Option Int)) : TO := fun σ H Q => ∃ (δ : List D) (Hs : Hp) (M : Bud) (l : Option Int) (δ' : List D), Good H Hs M /\ RepS K H Hs σ δ M /\ c δ = .ok (l, δ') /\
 ∀ (H' Hs' : Hp) (M' : Bud), Good H' Hs' M' -> Stp H Hs M H' Hs' M' -> RepS K H' Hs' σ δ' M' -> Q l H'
theorem PO.imp {o : Option Expr} {t t' : TO} (h : PO X o t) (w : ∀ σ H Q, t' σ H Q -> t σ H Q) : PO X o t' := fun pins s σ H Q I q => h pins s σ H Q I (w σ H Q q)
theorem Zhs : PO X none (tW X.K (M.ret none)) := PO.imp ZiJ fun σ H Q h => by
 obtain ⟨δ, Hs, M, b, δ', g, s, e, q⟩ := h
 have := Zi e
 cases this
 exact q H Hs M g (Stp.refl _ _ _) s
theorem Zc0 {ca : M Op} (ha : PE X a (tP X.K ca)) : PO X (some a) (tW X.K ((ca.bnd view).bnd fun w => lift (intP w))) := PO.imp (Zln ha) fun σ H Q h => by
 obtain ⟨δ, Hs, M, l, δ', g, s, e, q⟩ := h
 obtain ⟨w, δ2, e, e5⟩ := Zd e
 obtain ⟨p, δ1, e1, e3⟩ := Zd e
 obtain ⟨e6, rfl⟩ := Za0 e5
 refine ⟨δ, Hs, M, p, δ1, g, s, e1, fun x H2 Hs2 m1 M2 g2 st2 r1 s2 => ?_⟩
 obtain ⟨Hs3, M3, g3, st3, v1, s3⟩ := Zcy (B := m1) g2 s2 r1 e3
 have z := Zx (m1 := fun _ => 0) g (g2.re fun b => by simp) (st2.drop (fun b => by simp) g2.le) g3 st3
 have fin := q H2 Hs3 M3 g3.re (z.2.1.drop (fun b => by simp) z.1.le) s3
 cases v1 with
 | sc u _ => cases x with
  | int i => cases e6; exact ⟨i, rfl, fin⟩
  | _ => cases e6
 | nd n r => cases e6
variable {lo hi : Option Expr} {ca : M Op} {cl ch : M (Option Int)} {p2 : Pos}
theorem ZfF (ha : PE X a (tP X.K ca)) (hl : PO X lo (tW X.K cl)) (hh : PO X hi (tW X.K ch)) :
 PE X (.Subscript a (.Slice lo hi none p2) pos) (tM X.K (ca.bnd fun p => cl.bnd fun l => ch.bnd fun h => (view p).bnd fun x => lift (slD x l h))) :=
 PE.imp (ZnN ZsT ha hl hh) fun σ H Q h => by
  obtain ⟨δ, Hs, M, d, δ', g, s, e, q⟩ := h
  obtain ⟨p, δ1, e1, e⟩ := Zd e
  obtain ⟨l, δ2, e2, e⟩ := Zd e
  obtain ⟨u, δ3, e3, e⟩ := Zd e
  obtain ⟨w, δ4, e4, e⟩ := Zd e
  obtain ⟨e7, rfl⟩ := Za0 e
  refine ⟨δ, Hs, M, p, δ1, g, s, e1, fun x H1 Hs1 m1 M1 g1 st1 r1 s1 => ⟨δ1, Hs1, M1, l, δ2, g1.re, s1, e2, fun H2 Hs2 M2 g2 st2 s2 => ⟨δ2, Hs2, M2, u, δ3, g2, s2, e3, fun H3 Hs3 M3 g3 st3 s3 => ?_⟩⟩⟩
  obtain ⟨G2, S2, k2⟩ := Zx g g1 st1 g2 st2
  obtain ⟨G3, S3, k3⟩ := Zx g G2 S2 g3 st3
  have r2 := RepP.frame st2.grow k2 r1
  have r3 := RepP.frame st3.grow (fun b hb hn => k3 b hb hn) r2
  obtain ⟨Hs4, M4, g4, st4, v4, s4⟩ := Zcy (B := m1) G3 s3 r3 e4
  have z := Zx (m1 := fun _ => 0) g (G3.re fun b => by simp) (S3.drop (fun b => by simp) G3.le) g4 st4
  have S4 : Stp H Hs M H3 Hs4 (fun b => m1 b + M4 b) := z.2.1.drop (fun b => by simp) z.1.le
  have le : ∀ b, m1 b + M4 b <= 1 := g4.le
  exact ⟨Hs4, w, m1, d, g4.sub, fun b => by have := le b; omega, fun b hb => g4.has b (by have := le b; show m1 b + M4 b = 1; omega), v4, e7, Ze4 S4 g4 s4 q⟩
theorem Zht {K : Fg} {H Hs : Hp} {f : Str} : ∀ {fs : List Str} {vs : List V} {ds : List D} {m : Bud} {d : D}, RepL K H Hs vs ds m -> fs.length = vs.length -> Zgp f fs ds = some d -> ∃ (v : V) (m1 : Bud), (fs.zip vs).lookup f = some v /\ Rep K H Hs v d m1 /\ ∀ b, m1 b <= m b
 | [], _, _, _, _, _, _, h => by simp [Zgp] at h
 | _ :: _, _, _, _, _, .nil _, hl, h => by simp at hl
 | g :: fs, v :: vs, d' :: ds, m, d, .cons (m1 := m1) (m2 := m2) x y c, hl, h => by
  simp only [Zgp] at h
  by_cases e : g = f
  . rw [if_pos e] at h
    cases h
    refine ⟨v, m1, ?_, x, fun b => by have := c b; omega⟩
    subst e
    simp [List.lookup]
  . rw [if_neg e] at h
    obtain ⟨v', m', h1, h2, h3⟩ := Zht y (by simpa using hl) h
    refine ⟨v', m', ?_, h2, fun b => by have := c b; have := h3 b; omega⟩
    rw [List.zip_cons_cons]
    have hb : (f == g) = false := beq_eq_false_iff_ne.mpr (fun q => e q.symm)
    simp only [List.lookup, hb]
    exact h1
theorem ZaV {f : Str} {ok : Addr -> Str -> Bool} (hf : ∀ C f, ok C f = true -> Cls X.K C /\ Za5 X.K C f) (ha : PE X a (tP X.K ca)) (hb : attributeBase a f X.env (eval a X.env) = eval a X.env := by rfl) :
 PE X (.Attribute a f pos) (tM X.K ((ca.bnd view).bnd fun x => lift (fldW ok f x))) :=
 PE.imp (Zkc ha hb) fun σ H Q h => op1 (r := fun x H1 Q => ∃ a C dx fs v, x = .ref a /\ H1 a = some (.ins C dx fs) /\ Cls X.K C /\ Za5 X.K C f /\ fs.lookup f = some v /\ Q v H1) h fun x H Hs w m d g h1 h2 v e o => by
  unfold fldW at e
  split at e
  . split at e
    . rename_i C fs ds hok
      cases v with
      | nd n r =>
       obtain ⟨hl, dx, n⟩ := n
       obtain ⟨z, m1, e1, rz, l⟩ := Zht r hl e
       exact ⟨_, C, dx, _, z, rfl, n, (hf C f hok).1, (hf C f hok).2, e1, o.part h1 h2 l rz⟩
    . cases e
  . cases e
theorem Zl : PA X [] (tPs X.K (M.ret [])) := PA.imp Zdt fun σ H Q h => by
 obtain ⟨δ, Hs, M, b, δ', g, s, e, q⟩ := h
 have := Zi e
 cases this
 exact q [] H Hs (fun _ => 0) M (ZbJ g) (stp0 _ _ _) trivial s
theorem Zg {cs : M (List Op)} (ha : PE X e (tP X.K ca)) (hr : PA X es (tPs X.K cs)) (hs : starEach (e :: es) X.env = (false, eval e X.env) :: starEach es X.env := by rfl) :
 PA X (e :: es) (tPs X.K (ca.bnd fun p => cs.bnd fun ps => M.ret (p :: ps))) := PA.imp (Zbg ha hr hs) fun σ H Q h => by
 obtain ⟨δ, Hs, M, b, δ', g, s, e, q⟩ := h
 obtain ⟨p, δ1, e1, e⟩ := Zd e
 obtain ⟨ps, δ2, e2, e⟩ := Zd e
 have := Zi e
 cases this
 refine ⟨δ, Hs, M, p, δ1, g, s, e1, fun x H1 Hs1 m1 M1 g1 st1 r1 s1 => ⟨δ1, Hs1, M1, ps, _, g1.re, s1, e2, fun xs H2 Hs2 m2 M2 g2 st2 r2 s2 => ?_⟩⟩
 obtain ⟨G2, S2, k2⟩ := Zx g g1 st1 g2 st2
 exact q (x :: xs) H2 Hs2 (fun b => m1 b + m2 b) M2 (G2.re fun b => by omega) (S2.drop (fun b => by omega) G2.le) ⟨m1, m2, r1.frame st2.grow k2, r2, fun b => Nat.le_refl _⟩ s2
theorem Zad : PA X [] (tDs X.K (M.ret [])) := PA.imp Zdt fun σ H Q h => by
 obtain ⟨δ, Hs, M, b, δ', g, s, e, q⟩ := h
 have := Zi e
 cases this
 exact q [] H Hs (fun _ => 0) M (ZbJ g) (stp0 _ _ _) (.nil _) s
theorem ZO {c : M D} {cs : M (List D)} (ha : PE X e (tM X.K c)) (hr : PA X es (tDs X.K cs)) (hs : starEach (e :: es) X.env = (false, eval e X.env) :: starEach es X.env := by rfl) :
 PA X (e :: es) (tDs X.K (c.bnd fun p => cs.bnd fun ps => M.ret (p :: ps))) := PA.imp (Zbg ha hr hs) fun σ H Q h => by
 obtain ⟨δ, Hs, M, b, δ', g, s, e, q⟩ := h
 obtain ⟨p, δ1, e1, e⟩ := Zd e
 obtain ⟨ps, δ2, e2, e⟩ := Zd e
 have := Zi e
 cases this
 refine ⟨δ, Hs, M, p, δ1, g, s, e1, fun x H1 Hs1 m1 M1 g1 st1 r1 s1 => ⟨δ1, Hs1, M1, ps, _, g1.re, s1, e2, fun xs H2 Hs2 m2 M2 g2 st2 r2 s2 => ?_⟩⟩
 obtain ⟨G2, S2, k2⟩ := Zx g g1 st1 g2 st2
 exact q (x :: xs) H2 Hs2 (fun b => m1 b + m2 b) M2 (G2.re fun b => by omega) (S2.drop (fun b => by omega) G2.le) (.cons (r1.frame st2.grow k2) r2 fun b => Nat.le_refl _) s2
theorem Zlu {K : Fg} {cs : M (List D)} {f : List D -> Option D} {σ : St} {H : Hp} {Q : VK} (h : tM K (cs.bnd fun ds => lift (f ds)) σ H Q) : tDs K cs σ H fun vs H1 => ∃ (Hs : Hp) (m : Bud) (ds : List D) (d : D), (∀ b, m b <= 1) /\ (∀ b, m b = 1 -> H1 b ≠ none) /\ RepL K H1 Hs vs ds m /\ f ds = some d /\ Outs K H1 Hs m d Q := by
 obtain ⟨δ, Hs, M, b, δ', g, s, e, q⟩ := h
 obtain ⟨ds, δ1, e1, e⟩ := Zd e
 obtain ⟨e2, rfl⟩ := Za0 e
 refine ⟨δ, Hs, M, ds, _, g, s, e1, fun vs H1 Hs1 m1 M1 g1 st1 r1 s1 => ⟨Hs1, m1, ds, b, fun b => by have : m1 b + M1 b <= 1 := g1.le b; omega, fun b hb => g1.has b (by have : m1 b + M1 b <= 1 := g1.le b; show m1 b + M1 b = 1; omega), r1, e2, Ze4 st1 g1 s1 q⟩⟩
theorem Zbk {cs : M (List D)} (h : PA X es (tDs X.K cs)) : PE X (.List es pos) (tM X.K (cs.bnd fun ds => lift (newL ds))) := PE.imp (ZmE h) fun σ H Q hq => by
 obtain ⟨δ, Hs, M, ds, δ', g, s, e, q⟩ := Zlu hq
 refine ⟨δ, Hs, M, ds, δ', g, s, e, fun vs H1 Hs1 m1 M1 g1 st1 r1 s1 => ?_⟩
 obtain ⟨Hs2, m, ds, d, h1, h2, r, e, o⟩ := q vs H1 Hs1 m1 M1 g1 st1 r1 s1
 unfold newL at e
 split at e
 . rename_i hl
   cases e
   exact ⟨by rw [r.len]; exact hl, fun p hp => o.new h1 h2 hp (vs := vs) Zr r⟩
 . cases e
theorem Zna {cs : M (List D)} {k : Nat} (h : PA X es (tDs X.K cs)) : PE X (.Tuple es k pos) (tM X.K (cs.bnd fun ds => lift (newT ds))) := PE.imp (ZqR h) fun σ H Q hq => by
 obtain ⟨δ, Hs, M, ds, δ', g, s, e, q⟩ := Zlu hq
 refine ⟨δ, Hs, M, ds, δ', g, s, e, fun vs H1 Hs1 m1 M1 g1 st1 r1 s1 => ?_⟩
 obtain ⟨Hs2, m, ds, d, h1, h2, r, e, o⟩ := q vs H1 Hs1 m1 M1 g1 st1 r1 s1
 unfold newT at e
 split at e
 . rename_i hl
   cases e
   exact ⟨by rw [r.len]; exact hl, fun p hp => o.new h1 h2 hp (vs := vs) Zr r⟩
 . cases e
end
end T
namespace T
open PySem PySem.Spec L2
def Views (K : Fg) (H Hs : Hp) : List V -> List W -> Bud -> Prop
 | [], [], _ => True
 | v :: vs, w :: ws, m => ∃ m1 m2 : Bud, View K H Hs v w m1 /\ Views K H Hs vs ws m2 /\ ∀ b, m1 b + m2 b <= m b
 | _, _, _ => False
theorem ZhT {K : Fg} {H : Hp} {σ : St} {B : Bud} : ∀ {ps : List Op} {vs : List V} {Hs : Hp} {δ δ' : List D} {M m : Bud} {ws : List W}, Good H Hs (fun b => B b + M b) -> RepS K H Hs σ δ M -> Zd8 K H Hs σ vs ps m -> views ps δ = .ok (ws, δ') ->
 ∃ Hs' M', Good H Hs' (fun b => B b + M' b) /\ Stp H Hs (fun b => B b + M b) H Hs' (fun b => B b + M' b) /\ Views K H Hs' vs ws m /\ RepS K H Hs' σ δ' M'
 | [], [], Hs, δ, δ', M, m, ws, g, s, r, e => by
  have := Zi e
  cases this
  exact ⟨Hs, M, g, Stp.refl _ _ _, trivial, s⟩
 | [], _ :: _, _, _, _, _, _, _, _, _, r, _ => r.elim
 | _ :: _, [], _, _, _, _, _, _, _, _, r, _ => r.elim
 | p :: ps, v :: vs, Hs, δ, δ', M, m, ws, g, s, ⟨m1, m2, r1, r2, l⟩, e => by
  obtain ⟨w, δ1, e1, e⟩ := Zd e
  obtain ⟨ws', δ2, e2, e⟩ := Zd e
  have := Zi e
  cases this
  obtain ⟨Hs1, M1, g1, st1, v1, s1⟩ := Zcy g s r1 e1
  obtain ⟨Hs2, M2, g2, st2, v2, s2⟩ := ZhT g1 s1 (r2.frame st1.grow fun _ _ _ => rfl) e2
  have z := Zx (m1 := fun _ => 0) g (g1.re fun b => by simp) (st1.drop (fun b => by simp) g1.le) g2 st2
  exact ⟨Hs2, M2, g2, z.2.1.drop (fun b => by simp) z.1.le, ⟨m1, m2, v1.frame st2.grow, v2, l⟩, s2⟩
def rNW (K : Fg) (f : List W -> Option D) : List V -> Hp -> VK -> Prop := fun vs H Q => ∃ (Hs : Hp) (ws : List W) (m : Bud) (d : D), Same Hs H /\ (∀ b, m b <= 1) /\ (∀ b, m b = 1 -> H b ≠ none) /\ Views K H Hs vs ws m /\ f ws = some d /\ Outs K H Hs m d Q
theorem opN {K : Fg} {cs : M (List Op)} {f : List W -> Option D} {σ : St} {H : Hp} {Q : VK} (h : tM K (cs.bnd fun ps => (views ps).bnd fun ws => lift (f ws)) σ H Q) : tPs K cs σ H fun vs H1 => rNW K f vs H1 Q := by
 obtain ⟨δ, Hs, M, d, δ', g, s, e, q⟩ := h
 obtain ⟨ps, δ1, e1, e⟩ := Zd e
 obtain ⟨ws, δ2, e2, e⟩ := Zd e
 obtain ⟨e3, rfl⟩ := Za0 e
 refine ⟨δ, Hs, M, ps, δ1, g, s, e1, fun vs H1 Hs1 m1 M1 g1 st1 r1 s1 => ?_⟩
 obtain ⟨Hs2, M2, g2, st2, v2, s2⟩ := ZhT (B := m1) g1 s1 r1 e2
 have z := Zx (m1 := fun _ => 0) g (g1.re fun b => by simp) (st1.drop (fun b => by simp) g1.le) g2 st2
 have S : Stp H Hs M H1 Hs2 (fun b => m1 b + M2 b) := z.2.1.drop (fun b => by simp) z.1.le
 have le : ∀ b, m1 b + M2 b <= 1 := g2.le
 exact ⟨Hs2, ws, m1, d, g2.sub, fun b => by have := le b; omega, fun b hb => g2.has b (by have := le b; show m1 b + M2 b = 1; omega), v2, e3, Ze4 S g2 s2 q⟩
theorem Views.one {K : Fg} {H Hs : Hp} {vs : List V} {w : W} {m : Bud} (h : Views K H Hs vs [w] m) : ∃ (v : V) (m1 : Bud), vs = [v] /\ View K H Hs v w m1 /\ ∀ b, m1 b <= m b := by
 cases vs with
 | nil => exact h.elim
 | cons v vs =>
  obtain ⟨m1, m2, h1, h2, l⟩ := h
  cases vs with
  | nil => exact ⟨v, m1, rfl, h1, fun b => by have := l b; omega⟩
  | cons _ _ => exact h2.elim
theorem Views.two {K : Fg} {H Hs : Hp} {vs : List V} {w w' : W} {m : Bud} (h : Views K H Hs vs [w, w'] m) : ∃ (v v' : V) (m1 m2 : Bud), vs = [v, v'] /\ View K H Hs v w m1 /\ View K H Hs v' w' m2 /\ ∀ b, m1 b + m2 b <= m b := by
 cases vs with
 | nil => exact h.elim
 | cons v vs =>
  obtain ⟨m1, m2, h1, h2, l⟩ := h
  obtain ⟨v', m3, rfl, h3, l'⟩ := Views.one h2
  exact ⟨v, v', m1, m3, rfl, h1, h3, fun b => by have := l b; have := l' b; omega⟩
section
variable {X : Cx} {e : Expr} {es : List Expr} {pos p : Pos} {x : Str} {id ty : String} {f : BF} {cs : M (List Op)}
theorem ZaF (hc : Zat X (.builtin id) (rNW X.K (bfW f))) (hg : Gl X x) (hm : X.mg x = none) (hv : bootBuiltins x = some (.builtin id)) (ha : PA X (e :: es) (tPs X.K cs)) (hn : x ≠ "__name__" := by decide) (hdb : (x == ("__debug__" : Str)) = false := by decide)
 (he : starEach (e :: es) X.env = (false, eval e X.env) :: starEach es X.env := by rfl) (hpl : (backTo pos (starEach es X.env)).any (·.1) = false := by rfl) :
 PE X (.Call (.Name x p) (e :: es) [] pos) (tM X.K (cs.bnd fun ps => (views ps).bnd fun ws => lift (bfW f ws))) := PE.imp (Zke hc hg hm hv ha hn hdb he hpl) fun σ H Q h => opN h
theorem Zed (hc : Zat X (.type ty) (rNW X.K (bfW f))) (hg : Gl X x) (hm : X.mg x = none) (hv : bootBuiltins x = some (.type ty)) (ha : PA X (e :: es) (tPs X.K cs)) (hn : x ≠ "__name__" := by decide) (hdb : (x == ("__debug__" : Str)) = false := by decide)
 (he : starEach (e :: es) X.env = (false, eval e X.env) :: starEach es X.env := by rfl) (hpl : (backTo pos (starEach es X.env)).any (·.1) = false := by rfl) :
 PE X (.Call (.Name x p) (e :: es) [] pos) (tM X.K (cs.bnd fun ps => (views ps).bnd fun ws => lift (bfW f ws))) := PE.imp (ZgK hc hg hm hv ha hn hdb he hpl) fun σ H Q h => opN h
theorem Zdv : Zat X (.builtin "len") (rNW X.K (bfW .len)) := by
 intro pins s σ H xs us Q I r h
 obtain ⟨Hs, ws, m, d, hs, h1, h2, v, e, o⟩ := h
 replace e : lenB _ = _ := e
 unfold lenB at e
 split at e <;> first | (rename_i z; cases z; done) | skip
 all_goals first
  | (obtain ⟨y, m1, rfl, v, l⟩ := v.one
     cases v with
     | nd n r' =>
      have hl := r'.len
      cases e
      first
      | exact ZdW pins s σ H _ us Q I r ⟨_, _, rfl, .inl (.inl (.inl n)), by rw [hl]; exact o.sc⟩
      | exact ZdW pins s σ H _ us Q I r ⟨_, _, rfl, .inl n, by rw [hl]; exact o.sc⟩
      | exact ZdW pins s σ H _ us Q I r ⟨_, _, rfl, .inr n, by rw [hl]; exact o.sc⟩
      | exact ZdW pins s σ H _ us Q I r ⟨_, _, rfl, .inr (.inl (.inl n)), by rw [hl]; exact o.sc⟩
      | (obtain ⟨n1, n2⟩ := n
         exact ZmM pins s σ H _ us Q I r ⟨_, _, rfl, n2, by rw [List.length_zip, n1, Nat.min_self, hl]; exact o.sc⟩))
  | (obtain ⟨y, m1, rfl, v, l⟩ := v.one
     split at e
     . rename_i hz
       cases e
       cases v
       exact Zkg pins s σ H _ us Q I r ⟨_, rfl, hz, o.sc⟩
     . cases e)
  | cases e
theorem Zrq : Zat X (.builtin "abs") (rNW X.K (bfW .abs)) := by
 intro pins s σ H xs us Q I r h
 obtain ⟨Hs, ws, m, d, hs, h1, h2, v, e, o⟩ := h
 replace e : absB _ = _ := e
 unfold absB at e
 split at e <;> first | (rename_i z; cases z; done) | skip
 all_goals first
  | (obtain ⟨y, m1, rfl, v, l⟩ := v.one
     cases v
     cases e
     exact ZnI pins s σ H _ us Q I r ⟨_, rfl, o.sc⟩)
  | cases e
theorem ZcU : Zat X (.type "list") (rNW X.K (bfW .list)) := by
 intro pins s σ H xs us Q I r h
 obtain ⟨Hs, ws, m, d, hs, h1, h2, v, e, o⟩ := h
 replace e : ZlX _ = _ := e
 unfold ZlX at e
 split at e <;> first | (rename_i z; cases z; done) | skip
 all_goals first
  | (obtain ⟨y, m1, rfl, v, l⟩ := v.one
     cases v with
     | nd n r' =>
      cases e
      have go : ∀ p, H p = none -> Q (.ref p) (upd H p (.lst _)) := fun p hp => o.new h1 h2 hp Zr (r'.mono l)
      first
      | exact ZdX pins s σ H _ us Q I r ⟨_, _, rfl, .inl (.inl (.inl n)), go⟩
      | exact ZdX pins s σ H _ us Q I r ⟨_, _, rfl, .inl n, go⟩
      | exact ZdX pins s σ H _ us Q I r ⟨_, _, rfl, .inr n, go⟩
      | exact ZdX pins s σ H _ us Q I r ⟨_, _, rfl, .inr (.inl (.inl n)), go⟩)
  | cases e
theorem Zjz {K : Fg} {H Hs : Hp} : ∀ {ds : List D} {vs : List V} {m : Bud} {is : List Bool}, RepL K H Hs vs ds m -> ZdK ds = some is -> vs = is.map V.bl
 | [], _, _, is, .nil _, h => by simp only [ZdK, Option.some.injEq] at h; subst h; rfl
 | d :: ds, _, _, is, .cons x y _, h => by
  unfold ZdK at h
  split at h
  . rename_i hh; cases hh
  . rename_i i r hh
    injection hh with h1 h2
    subst h1 h2
    (simp only [Option.map_eq_some_iff] at h)
    obtain ⟨js, h, rfl⟩ := h
    cases x
    rw [Zjz y h]
    rfl
  . cases h
theorem Zj0 : ∀ (is : List Int) (us : List Value), Vals (is.map V.int) us -> ∀ (i : Nat) (v : Value), us[i]? = some v -> ∃ t, v = .int (is.getD i 0) t
 | [], us, r, i, v, h => by cases r; simp at h
 | n :: is, us, r, i, v, h => by
  cases r with
  | cons r rr =>
   cases i with
   | zero =>
    simp at h
    subst h
    obtain ⟨t, rfl⟩ := r
    exact ⟨t, rfl⟩
   | succ i => exact Zj0 is _ rr i v (by simpa using h)
theorem ZkM : ∀ (is : List Int), preSum (fun i => is.getD i 0) is.length = is.sum := by
 intro is
 have h : ∀ n, n <= is.length -> preSum (fun i => is.getD i 0) n = (is.take n).sum := by
  intro n
  induction n with
  | zero => intro _; simp [preSum]
  | succ n ih =>
   intro hn
   have := ih (by omega)
   show preSum (fun i => is.getD i 0) n + is.getD n 0 = _
   rw [this, PyProof.Rows.take_sum_succ is n (by omega)]
 have := h is.length (Nat.le_refl _)
 rw [List.take_length] at this
 exact this
theorem ZjD (hc : X.calm = true) : Zat X (.builtin "sum") (fun xs H Q => ∃ (l : Addr) (is : List Int), xs = [.ref l] /\ SqL X.K H l (is.map V.int) /\ Q (.int is.sum) H) := by
 intro pins s σ H xs us Q I r h
 obtain ⟨l, is, rfl, hl, q⟩ := h
 obtain ⟨u, rfl, ru⟩ := r.one
 cases (show u = Value.ref l from ru)
 obtain ⟨its, rv, p, hz⟩ := I.list hl
 have hlt : l < s.heap.objs.size := by obtain ⟨_, e, _⟩ := p.isList; exact Heap.lt_size e
 refine call_sum_walkG (wpAny_pyIter_list p.isList ?_)
 refine ⟨s.heap.objs.size, [s.heap.objs.size, l], [s.heap.objs.size], its.toArray.size, _, _, fun i => is.getD i 0, rfl, Walks.list (A := X.A.in1) (I.ok.hd hc) _ l (Nat.ne_of_lt hlt) its.toArray,
  ⟨⟨_, Heap.get?_push_size _ rfl, rfl, rfl⟩, p.isList.push _⟩, fun b hb => ?_, fun i v hP => ?_, fun h' tk t' hk => ?_⟩
 . have e : ∀ o, (s.heap.push o).objs.size = s.heap.objs.size + 1 := fun o => by simp [Heap.push]
   rw [e]
   rcases List.mem_cons.mp hb with q | q
   . rw [q]
     exact Nat.lt_succ_self _
   . rw [List.mem_singleton.mp q]
     exact Nat.lt_succ_of_lt hlt
 . exact Zj0 is its rv i v (by simpa using hP)
 . have e : preSum (fun i => is.getD i 0) its.toArray.size = is.sum := by
    rw [List.size_toArray, <- rv.length, List.length_map]
    exact ZkM is
   rw [e]
   exact ⟨.int _, H, I.kept (t' := tk) (Zls hk), ⟨_, rfl⟩, q⟩
theorem Znb (hc : X.calm = true) : Zat X (.builtin "sum") (rNW X.K (bfW .sum)) := by
 intro pins s σ H xs us Q I r h
 obtain ⟨Hs, ws, m, d, hs, h1, h2, v, e, o⟩ := h
 replace e : sumB _ = _ := e
 unfold sumB at e
 split at e <;> first | (rename_i z; cases z; done) | skip
 all_goals first
  | (obtain ⟨y, m1, rfl, v, l⟩ := v.one
     cases v with
     | nd n r' =>
      simp only [Option.map_eq_some_iff] at e
      obtain ⟨is, e, rfl⟩ := e
      have ei := ZbD r' e
      subst ei
      exact ZjD hc pins s σ H _ us Q I r ⟨_, _, rfl, .inl (.inl n), o.sc⟩)
  | cases e
theorem Zrr (hc : X.calm = true) : Zat X (.builtin "all") (rNW X.K (bfW .all)) := by
 intro pins s σ H xs us Q I r h
 obtain ⟨Hs, ws, m, d, hs, h1, h2, v, e, o⟩ := h
 replace e : allB _ = _ := e
 unfold allB at e
 split at e <;> first | (rename_i z; cases z; done) | skip
 all_goals first
  | (obtain ⟨y, m1, rfl, v, l⟩ := v.one
     cases v with
     | nd n r' =>
      simp only [Option.map_eq_some_iff] at e
      obtain ⟨is, e, rfl⟩ := e
      have ei := Zjz r' e
      subst ei
      exact ZnW hc pins s σ H _ us Q I r ⟨_, _, rfl, .inl (.inl n), o.sc⟩)
  | cases e
theorem Zrs (hc : X.calm = true) : Zat X (.builtin "min") (rNW X.K (bfW .min)) := by
 intro pins s σ H xs us Q I r h
 obtain ⟨Hs, ws, m, d, hs, h1, h2, v, e, o⟩ := h
 replace e : minB _ = _ := e
 unfold minB at e
 split at e <;> first | (rename_i z; cases z; done) | skip
 all_goals first
  | (obtain ⟨y, y', m1, m2, rfl, v, v', l⟩ := v.two
     cases v
     cases v'
     cases e
     exact ZmA hc pins s σ H _ us Q I r ⟨_, _, rfl, o.sc⟩)
  | cases e
theorem Zrt (hc : X.calm = true) : Zat X (.builtin "max") (rNW X.K (bfW .max)) := by
 intro pins s σ H xs us Q I r h
 obtain ⟨Hs, ws, m, d, hs, h1, h2, v, e, o⟩ := h
 replace e : maxB _ = _ := e
 unfold maxB at e
 split at e <;> first | (rename_i z; cases z; done) | skip
 all_goals first
  | (obtain ⟨y, y', m1, m2, rfl, v, v', l⟩ := v.two
     cases v
     cases v'
     cases e
     exact Zm9 hc pins s σ H _ us Q I r ⟨_, _, rfl, o.sc⟩)
  | cases e
end
end T
namespace T
open PySem PySem.Spec L2
noncomputable def kitB (a b : String) : Option Bool := if (Value.type a == Value.type b) = true then some true else if PySem.W.kitMeta b = true then (PySem.fastBuiltinMro a).map (·.contains (.type b)) else none
theorem Zfp (K : Fg) (a b : String) : PySem.W.kitOne K (.type a) (.type b) = kitB a b := rfl
noncomputable def tyS : Ty -> Option String
 | .int => some "int" | .bool => some "bool" | .str => some "str" | .list => some "list" | .tuple => some "tuple" | .dict => some "dict" | .own _ => none
theorem ZsU : kitB "int" "int" = some true := by decide +kernel
theorem ZsV : kitB "bool" "int" = some true := by decide +kernel
theorem ZsW : kitB "str" "int" = some false := by decide +kernel
theorem ZsX : kitB "NoneType" "int" = some false := by decide +kernel
theorem ZsY : kitB "list" "int" = some false := by decide +kernel
theorem ZsZ : kitB "tuple" "int" = some false := by decide +kernel
theorem Zta : kitB "bool" "bool" = some true := by decide +kernel
theorem Ztb : kitB "int" "bool" = some false := by decide +kernel
theorem Ztc : kitB "str" "bool" = some false := by decide +kernel
theorem Ztd : kitB "NoneType" "bool" = some false := by decide +kernel
theorem Zte : kitB "list" "bool" = some false := by decide +kernel
theorem Ztf : kitB "tuple" "bool" = some false := by decide +kernel
theorem Ztg : kitB "str" "str" = some true := by decide +kernel
theorem Zth : kitB "int" "str" = some false := by decide +kernel
theorem Zti : kitB "bool" "str" = some false := by decide +kernel
theorem Ztj : kitB "NoneType" "str" = some false := by decide +kernel
theorem Ztk : kitB "list" "str" = some false := by decide +kernel
theorem Ztl : kitB "tuple" "str" = some false := by decide +kernel
theorem Ztm : kitB "list" "list" = some true := by decide +kernel
theorem Ztn : kitB "tuple" "list" = some false := by decide +kernel
theorem Zto : kitB "int" "list" = some false := by decide +kernel
theorem Ztp : kitB "bool" "list" = some false := by decide +kernel
theorem Ztq : kitB "str" "list" = some false := by decide +kernel
theorem Ztr : kitB "NoneType" "list" = some false := by decide +kernel
theorem Zts : kitB "tuple" "tuple" = some true := by decide +kernel
theorem Ztt : kitB "list" "tuple" = some false := by decide +kernel
theorem Ztu : kitB "int" "tuple" = some false := by decide +kernel
theorem Ztv : kitB "bool" "tuple" = some false := by decide +kernel
theorem Ztw : kitB "str" "tuple" = some false := by decide +kernel
theorem Ztx : kitB "NoneType" "tuple" = some false := by decide +kernel
theorem Zty {K : Fg} {H Hs : Hp} {t : Ty} {n : String} {v : V} {w : W} {m : Bud} {b : Bool} (hn : tyS t = some n) (hv : View K H Hs v w m) (h : tyW t w = some b) : ∃ tv, TyOf K H v tv /\ PySem.W.kitOne K tv (.type n) = some b := by
 cases hv with
 | sc v _ =>
  cases t <;> cases hn <;> cases v <;> cases h <;> first
   | exact ⟨_, .int _, by rw [Zfp]; first | exact ZsU | exact Ztb | exact Zth | exact Zto | exact Ztu⟩
   | exact ⟨_, .bl _, by rw [Zfp]; first | exact ZsV | exact Zta | exact Zti | exact Ztp | exact Ztv⟩
   | exact ⟨_, .str _, by rw [Zfp]; first | exact ZsW | exact Ztc | exact Ztg | exact Ztq | exact Ztw⟩
   | exact ⟨_, .non, by rw [Zfp]; first | exact ZsX | exact Ztd | exact Ztj | exact Ztr | exact Ztx⟩
 | @nd a k vs ds m n r =>
  cases t <;> cases hn <;> cases k <;> cases h <;> first
   | exact ⟨_, .lst n, by rw [Zfp]; first | exact ZsY | exact Zte | exact Ztk | exact Ztm | exact Ztt⟩
   | exact ⟨_, .tup n, by rw [Zfp]; first | exact ZsZ | exact Ztf | exact Ztl | exact Ztn | exact Zts⟩
section
variable {X : Cx} {a e c : Expr} {es : List Expr} {pos p : Pos} {x : Str} {n : String} {ca : M Op}
theorem ZfX {t : Ty} (hn : tyS t = some n) (hg : Gl X "isinstance") (hm : X.mg "isinstance" = none) (ha : PE X a (tP X.K ca)) (hc : PE X c (tC (.ty n))) (hs : starEach [a, c] X.env = [(false, eval a X.env), (false, eval c X.env)] := by rfl)
 (hs1 : starEach [c] X.env = [(false, eval c X.env)] := by rfl) :
 PE X (.Call (.Name "isinstance" p) [a, c] [] pos) (tM X.K ((ca.bnd fun p => (M.ret ([] : List Op)).bnd fun ps => M.ret (p :: ps)).bnd fun ps => (views ps).bnd fun ws => lift (bfW (.isi t) ws))) :=
 PE.imp (Zke (ZnV (.ty n) (.type n) rfl fun u h => h) hg hm Zkl (Zbg ha (Zbg hc Zdt (by rw [hs1]; rfl)) (by rw [hs, hs1])) (by decide) (by decide) (by rw [hs, hs1]) (by rw [hs1]; rfl)) fun σ H Q h => by
  have h2 : tM X.K ((ca.bnd view).bnd fun w => lift (bfW (.isi t) [w])) σ H Q := by
   obtain ⟨δ, Hs, M, d, δ', g, s, e, q⟩ := h
   refine ⟨δ, Hs, M, d, δ', g, s, ?_, q⟩
   obtain ⟨ps, δ1, e1, e⟩ := Zd e
   obtain ⟨pp, δ2, e2, e3⟩ := Zd e1
   obtain ⟨z, δ3, e4, e5⟩ := Zd e3
   have := Zi e4
   cases this
   have := Zi e5
   cases this
   obtain ⟨ws, δ4, e6, e⟩ := Zd e
   obtain ⟨w, δ5, e7, e8⟩ := Zd e6
   obtain ⟨z, δ6, e9, e10⟩ := Zd e8
   have := Zi e9
   cases this
   have := Zi e10
   cases this
   show T.M.bnd (ca.bnd view) _ δ = _
   unfold T.M.bnd
   rw [e2]
   dsimp only
   rw [e7]
   exact e
  refine op1 (r := fun x H1 Q => ∃ x' t' b, [x, V.ty n] = [x', V.ty n] /\ TyOf X.K H1 x' t' /\ PySem.W.kitOne X.K t' (.type n) = some b /\ Q (.bl b) H1) h2 fun x H Hs w m d g h1 h2 v e o => ?_
  simp only [bfW, isiB, Option.map_eq_some_iff] at e
  obtain ⟨b, e, rfl⟩ := e
  obtain ⟨tv, h3, h4⟩ := Zty hn v e
  exact ⟨x, tv, b, rfl, h3, h4, o.sc⟩
end
def spF (K : Fg) (F : List D -> Rs (D × List D)) : Sp := fun vs H Q _ => ∃ (ds : List D) (Hs : Hp) (m : Bud) (d : D) (ds' : List D), Good H Hs m /\ RepL K H Hs vs ds m /\ F ds = .ok (d, ds') /\
 ∀ (v : V) (H' Hs' : Hp) (m1 m' : Bud), Good H' Hs' (fun b => m1 b + m' b) -> Stp H Hs m H' Hs' (fun b => m1 b + m' b) -> Rep K H' Hs' v d m1 -> RepL K H' Hs' vs ds' m' -> Q v H'
theorem Zp8 {K : Fg} {H Hs : Hp} {σ : St} {B m M : Bud} {δ δ' : List D} {lend : Bool} {p : Op} {v : V} {d : D} (g : Good H Hs (fun b => B b + (m b + M b))) (s : RepS K H Hs σ δ M) (r : RepP K H Hs σ v p m) (e : Zgq lend p δ = .ok (d, δ')) :
 ∃ Hs' m' M', Good H Hs' (fun b => B b + (m' b + M' b)) /\ Stp H Hs (fun b => B b + (m b + M b)) H Hs' (fun b => B b + (m' b + M' b)) /\ Rep K H Hs' v d m' /\ RepS K H Hs' σ δ' M' /\ ∀ b, m' b + M' b <= m b + M b := by
 cases p with
 | tmp d' =>
  have := Zi e
  cases this
  exact ⟨Hs, m, M, g, Stp.refl _ _ _, r, s, fun b => Nat.le_refl _⟩
 | late i =>
  have r : σ[i]? = some (some v) := r
  have same : ∀ {d : D}, δ[i]? = some d -> d ≠ .hole -> (∀ m1, Rep K H Hs v d m1 -> Rep K H Hs v d (fun _ => 0)) -> ∃ Hs' m' M', Good H Hs' (fun b => B b + (m' b + M' b)) /\ Stp H Hs (fun b => B b + (m b + M b)) H Hs' (fun b => B b + (m' b + M' b)) /\ Rep K H Hs' v d m' /\ RepS K H Hs' σ δ M' /\ ∀ b, m' b + M' b <= m b + M b := fun {d} hi hn hz => by
   obtain ⟨v', m1, m2, e1, q, l, f⟩ := s.slot hi hn
   rw [r] at e1
   cases e1
   exact ⟨Hs, fun _ => 0, M, g.re fun b => by (try simp); (try omega), (Stp.refl H Hs _).drop (fun b => by (try simp); (try omega)) g.le, hz _ q, s, fun b => by (try simp); (try omega)⟩
  unfold Zgq at e
  dsimp only at e
  split at e
  . rename_i u hi
    cases e
    exact same hi (by simp) fun m1 q => by cases q; exact .sc _ _
  . rename_i k ds hi
    cases e
    exact same hi (by simp) fun m1 q => by cases q with | shd n q => exact .shd n q
  . rename_i k ds hi
    obtain ⟨v', m1, m2, e1, q, l, f⟩ := s.slot hi (by simp)
    rw [r] at e1
    cases e1
    split at e
    . cases e
      refine ⟨Hs, m1, m2, g.re fun b => by have := l b; omega, (Stp.refl H Hs _).drop (fun b => by have := l b; omega) g.le, q, ?_, fun b => by have := l b; omega⟩
      have z := f H Hs (some v) .hole (fun _ => 0) (Same.refl _) (fun _ _ _ => rfl) (.inl rfl)
      rw [Zak r] at z
      exact z.mono fun b => by simp
    . cases e
      have g2 : Good H Hs (fun b => m1 b + (B b + m2 b)) := g.re fun b => by have := l b; omega
      have hsame := ZdD g2 (m := m1) fun b => by omega
      have r2 := Rep.share hsame (ZfW (H := H) (Hs := Hs) (m := m1)) q
      have st := Stp.share g2
      refine ⟨shH H Hs m1, fun _ => 0, m2, g2.share.re fun b => by simp, ⟨fun b o h _ => h, fun b h => ?_, st.grow, fun b h h' => ?_, fun b h => h⟩, r2, ?_, fun b => by have := l b; simp; omega⟩
      . have h : B b + (0 + m2 b) = 1 := h
        have l0 : B b + (m b + M b) <= 1 := g.le b
        have := l b
        left
        show B b + (m b + M b) = 1
        omega
      . rcases st.shr b h h' with z | z
        . have z : m1 b + (B b + m2 b) = 1 := z
          have l0 : B b + (m b + M b) <= 1 := g.le b
          have := l b
          left
          show B b + (m b + M b) = 1
          omega
        . exact .inr z
      . have z := f H (shH H Hs m1) (some v) (.node k false (shrL ds)) (fun _ => 0) hsame (fun _ _ _ => rfl) (.inr ⟨v, rfl, r2⟩)
        rw [Zak r] at z
        exact z.mono fun b => by simp
  . cases e
theorem ZhU {K : Fg} {H : Hp} {σ : St} {lend : Bool} : ∀ {ps : List Op} {vs : List V} {Hs : Hp} {δ δ' : List D} {B M m : Bud} {ds : List D}, Good H Hs (fun b => B b + (m b + M b)) -> RepS K H Hs σ δ M -> Zd8 K H Hs σ vs ps m -> Zea lend ps δ = .ok (ds, δ') ->
 ∃ Hs' m' M', Good H Hs' (fun b => B b + (m' b + M' b)) /\ Stp H Hs (fun b => B b + (m b + M b)) H Hs' (fun b => B b + (m' b + M' b)) /\ RepL K H Hs' vs ds m' /\ RepS K H Hs' σ δ' M'
 | [], [], Hs, δ, δ', B, M, m, ds, g, s, r, e => by
  have := Zi e
  cases this
  exact ⟨Hs, m, M, g, Stp.refl _ _ _, .nil _, s⟩
 | [], _ :: _, _, _, _, _, _, _, _, _, _, r, _ => r.elim
 | _ :: _, [], _, _, _, _, _, _, _, _, _, r, _ => r.elim
 | p :: ps, v :: vs, Hs, δ, δ', B, M, m, ds, g, s, ⟨n1, n2, r1, r2, l⟩, e => by
  obtain ⟨d, δ1, e1, e⟩ := Zd e
  obtain ⟨ds', δ2, e2, e⟩ := Zd e
  have := Zi e
  cases this
  have g0 : Good H Hs (fun b => (B b + n2 b) + (n1 b + M b)) := g.re fun b => by have := l b; omega
  obtain ⟨Hs1, m1, M1, g1, st1, q1, s1, l1⟩ := Zp8 g0 s r1 e1
  have g1' : Good H Hs1 (fun b => (B b + m1 b) + (n2 b + M1 b)) := g1.re fun b => by omega
  obtain ⟨Hs2, m2, M2, g2, st2, q2, s2⟩ := ZhU g1' s1 (r2.frame st1.grow fun _ _ _ => rfl) e2
  have S0 : Stp H Hs (fun b => B b + (m b + M b)) H Hs1 (fun b => (B b + m1 b) + (n2 b + M1 b)) := by
   refine ⟨fun b o h _ => h, fun b h => ?_, st1.grow, fun b h h' => ?_, fun b h => h⟩
   . have h : (B b + m1 b) + (n2 b + M1 b) = 1 := h
     rcases st1.own b (show (B b + n2 b) + (m1 b + M1 b) = 1 by omega) with z | z
     . have z : (B b + n2 b) + (n1 b + M b) = 1 := z
       have l0 : B b + (m b + M b) <= 1 := g.le b
       have := l b
       left
       show B b + (m b + M b) = 1
       omega
     . exact .inr z
   . rcases st1.shr b h h' with z | z
     . have z : (B b + n2 b) + (n1 b + M b) = 1 := z
       have l0 : B b + (m b + M b) <= 1 := g.le b
       have := l b
       left
       show B b + (m b + M b) = 1
       omega
     . exact .inr z
  have z := Zx (m1 := fun _ => 0) g (g1'.re fun b => by simp) (S0.drop (fun b => by simp) g1'.le) g2 st2
  have S : Stp H Hs (fun b => B b + (m b + M b)) H Hs2 (fun b => (B b + m1 b) + (m2 b + M2 b)) := z.2.1.drop (fun b => by simp) z.1.le
  exact ⟨Hs2, fun b => m1 b + m2 b, M2, g2.re fun b => by dsimp only; omega, S.drop (fun b => by dsimp only; omega) g2.le, .cons (q1.frame st2.grow fun _ _ _ => rfl) q2 fun b => Nat.le_refl _, s2⟩
theorem ZhV {K : Fg} {H Hs : Hp} {σ : St} : ∀ {ps : List Op} {vs : List V} {δ δ' : List D} {M m : Bud} {ds : List D} {u : Unit}, RepS K H Hs σ δ M -> RepL K H Hs vs ds m -> (∀ i v, (.late i, v) ∈ ps.zip vs -> σ[i]? = some (some v)) -> Zcp ps ds δ = .ok (u, δ') -> RepS K H Hs σ δ' (fun b => m b + M b)
 | [], vs, δ, δ', M, m, ds, u, s, r, hl, e => by
  have := Zi (show T.M.ret () δ = Rs.ok (u, δ') by unfold Zcp at e; exact e)
  cases this
  exact s.mono fun b => by omega
 | p :: ps, [], δ, δ', M, m, ds, u, s, r, hl, e => by
  cases r
  have := Zi (show T.M.ret () δ = Rs.ok (u, δ') by unfold Zcp at e; exact e)
  cases this
  exact s.mono fun b => by omega
 | p :: ps, v :: vs, δ, δ', M, m, ds, u, s, r, hl, e => by
  cases r with
  | @cons _ d _ ds' m1 m2 _ x y l =>
   unfold Zcp at e
   obtain ⟨_, δ1, e1, e2⟩ := Zd e
   have hl' : ∀ i v, (.late i, v) ∈ ps.zip vs -> σ[i]? = some (some v) := fun i v h => hl i v (by rw [List.zip_cons_cons]; exact List.mem_cons_of_mem _ h)
   have go : ∀ {M1 : Bud}, RepS K H Hs σ δ1 M1 -> (∀ b, M1 b <= m1 b + M b) -> RepS K H Hs σ δ' (fun b => m b + M b) := fun {M1} s1 l1 =>
    (ZhV s1 y hl' e2).mono fun b => by have := l b; have := l1 b; omega
   cases p with
   | tmp d' =>
    have := Zi e1
    cases this
    exact go s fun b => by omega
   | late i =>
    have hi := hl i v (by rw [List.zip_cons_cons]; exact List.mem_cons_self)
    unfold Zho at e1
    dsimp only at e1
    split at e1
    . rename_i hh
      cases e1
      obtain ⟨o, n1, n2, q1, q2, q3, f⟩ := s.focus hh
      have z := f (RepO K H Hs) (some v) d m1 (fun a d m' _ q => q) (.inr ⟨v, rfl, x⟩)
      rw [Zak hi] at z
      exact go z fun b => by have := q3 b; omega
    . cases e1
      exact go s fun b => by omega
theorem lates {K : Fg} {H Hs : Hp} {σ : St} : ∀ {ps : List Op} {vs : List V} {m : Bud}, Zd8 K H Hs σ vs ps m -> ∀ i v, (.late i, v) ∈ ps.zip vs -> σ[i]? = some (some v)
 | [], [], _, _, i, v, h => by simp at h
 | [], _ :: _, _, r, _, _, _ => r.elim
 | _ :: _, [], _, r, _, _, _ => r.elim
 | p :: ps, w :: vs, _, ⟨m1, m2, r1, r2, _⟩, i, v, h => by
  rw [List.zip_cons_cons] at h
  rcases List.mem_cons.mp h with e | e
  . injection e with e1 e2
    subst e1 e2
    exact r1
  . exact lates r2 i v e
theorem Zko {K : Fg} {fi : FI} {σ : St} {H H1 Hs Hs1 : Hp} {M m1 M1 : Bud} {δ1 δ' : List D} {d : D} {ps : List Op} {vs : List V} {Q : VK} {E : XK} (g : Good H Hs M) (g1 : Good H1 Hs1 (fun b => m1 b + M1 b)) (st1 : Stp H Hs M H1 Hs1 (fun b => m1 b + M1 b))
 (r1 : Zd8 K H1 Hs1 σ vs ps m1) (s1 : RepS K H1 Hs1 σ δ1 M1) (e : ZcT fi ps δ1 = .ok (d, δ'))
 (q : ∀ (v : V) (H' Hs' : Hp) (m M' : Bud), Good H' Hs' (fun b => m b + M' b) -> Stp H Hs M H' Hs' (fun b => m b + M' b) -> Rep K H' Hs' v d m -> RepS K H' Hs' σ δ' M' -> Q v H') : spF K fi.run vs H1 Q E := by
 unfold ZcT at e
 obtain ⟨ds, δ2, e2, e⟩ := Zd e
 cases hF : fi.run ds with
 | ok r =>
  obtain ⟨d', ds'⟩ := r
  rw [hF] at e
  dsimp only at e
  obtain ⟨u, δ3, e3, e⟩ := Zd e
  have := Zi e
  cases this
  obtain ⟨Hs2, m2, M2, g2, st2, q2, s2⟩ := ZhU (B := fun _ => 0) (g1.re fun b => by simp) s1 r1 e2
  have z0 := Zx (m1 := fun _ => 0) g (g1.re fun b => by simp) (st1.drop (fun b => by simp) g1.le) (g2.re fun b => by simp) (M1 := fun b => m1 b + M1 b) (M2 := fun b => m2 b + M2 b) (by
   have := st2
   exact ⟨fun b o h z => this.keep b o h (by simpa using z), fun b h => by have := this.own b (by simpa using h); simpa using this, this.grow, fun b h h' => by have := this.shr b h h'; simpa using this, this.stay⟩)
  have G2 : Good H1 Hs2 (fun b => M2 b + m2 b) := g2.re fun b => by simp; omega
  have S2 : Stp H Hs M H1 Hs2 (fun b => M2 b + m2 b) := z0.2.1.drop (fun b => by simp; omega) z0.1.le
  refine ⟨ds, Hs2, m2, _, ds', G2.re fun b => by omega, q2, hF, fun v H3 Hs3 n1 n2 g3 st3 r3 r4 => ?_⟩
  obtain ⟨G, S, k⟩ := Zx g G2 S2 g3 st3
  have s3 := RepS.frame st3.grow k s2
  have fin := ZhV s3 r4 (lates r1) e3
  exact q v H3 Hs3 n1 (fun b => n2 b + M2 b) (G.re fun b => by (try dsimp only); omega) (S.drop (fun b => by (try dsimp only); omega) G.le) r3 fin
 | exc x y => rw [hF] at e; cases e
 | stuck => rw [hF] at e; cases e
theorem Zp9 {K : Fg} {fi : FI} {cs : M (List Op)} {σ : St} {H : Hp} {Q : VK} {E : XK} (h : tM K (cs.bnd fun ps => ZcT fi ps) σ H Q) : tPs K cs σ H fun vs H1 => spF K fi.run vs H1 Q E := by
 obtain ⟨δ, Hs, M, d, δ', g, s, e, q⟩ := h
 obtain ⟨ps, δ1, e1, e⟩ := Zd e
 exact ⟨δ, Hs, M, ps, δ1, g, s, e1, fun vs H1 Hs1 m1 M1 g1 st1 r1 s1 => Zko g g1 st1 r1 s1 e q⟩
section
variable {X : Cx} {a e c : Expr} {es : List Expr} {pos p : Pos} {x : Str} {j n : Nat} {fi : FI} {ps : List Str} {cs : M (List Op)}
theorem Z2 (G : FnAt X.prog X.w X.K X.mg X.base x j ps (spF X.K fi.run)) (hr : Room n X.A) (ha : PA X (e :: es) (tPs X.K cs)) (hj : j <= n := by decide) (hg : Gl X x := by rfl) (hdb : (x == ("__debug__" : Str)) = false := by decide)
 (he : starEach (e :: es) X.env = (false, eval e X.env) :: starEach es X.env := by rfl) (hpl : (backTo pos (starEach es X.env)).any (·.1) = false := by rfl) :
 PE X (.Call (.Name x p) (e :: es) [] pos) (tM X.K (cs.bnd fun ps => ZcT fi ps)) := PE.imp (ZsM G hr ha hj hg hdb he hpl) fun σ H Q h => by
 obtain ⟨δ, Hs, M, a, δ', g, s, e, q⟩ := Zp9 (E := E0) h
 refine ⟨δ, Hs, M, a, δ', g, s, e, fun vs H' Hs' m M' g' st r s' => ?_⟩
 show spF X.K fi.run (vs ++ []) H' Q E0
 rw [List.append_nil]
 exact q vs H' Hs' m M' g' st r s'
end
end T
namespace T
open PySem PySem.Spec L2
theorem modL {K : Fg} {H Hs : Hp} {σ : St} {B M : Bud} {δ : List D} {i : Nat} {k : Kd} {ds : List D} (g : Good H Hs (fun b => B b + M b)) (s : RepS K H Hs σ δ M) (hi : δ[i]? = some (.node k true ds)) :
 ∃ (p : Addr) (vs : List V) (m' m2 : Bud), σ[i]? = some (some (.ref p)) /\ ZbI H p vs k /\ RepL K H Hs vs ds m' /\ (∀ b, one p b + m' b + m2 b <= M b) /\
  ∀ (o' : HO) (k' : Kd) (vs' : List V) (ds' : List D) (n' nr : Bud) (rv : V) (r : D), (∀ b, n' b + nr b <= m' b + B b) -> ZbI (upd H p o') p vs' k' -> RepL K H Hs vs' ds' n' -> Rep K H Hs rv r nr ->
   Good (upd H p o') Hs (fun b => nr b + (one p b + n' b + m2 b)) /\ Stp H Hs (fun b => B b + M b) (upd H p o') Hs (fun b => nr b + (one p b + n' b + m2 b)) /\ Rep K (upd H p o') Hs rv r nr /\
   RepS K (upd H p o') Hs σ (δ.set i (.node k' true ds')) (fun b => one p b + n' b + m2 b) := by
 obtain ⟨v, m1, m2, e1, q, l, f⟩ := s.slot hi (by simp)
 cases q with
 | @own p _ vs _ _ m' n r l' =>
  have le : ∀ b, one p b + m' b + m2 b <= M b := fun b => by have := l b; have := l' b; omega
  refine ⟨p, vs, m', m2, e1, n, r, le, fun o' k' vs' ds' n' nr rv rd h1 hn hr hq => ?_⟩
  have one_p : one p p = 1 := by simp [one]
  have tot : ∀ b, nr b + (one p b + n' b + m2 b) <= B b + M b := fun b => by have := le b; have := h1 b; omega
  have zp : m' p = 0 /\ B p = 0 /\ m2 p = 0 := by
   have := le p
   have := g.le p
   try dsimp only at this
   omega
  have zp2 : n' p = 0 /\ nr p = 0 := by have := h1 p; omega
  have Hp : H p ≠ none := n.at
  have eqH : ∀ b, b ≠ p -> upd H p o' b = H b := fun b hb => Zv hb
  have hs2 : Hs p = none := g.ne p (by have := le p; have := g.le p; (try dsimp only at this ⊢); omega)
  refine ⟨⟨fun b o e => ?_, fun b => ?_, fun b h => ?_, fun b h => ?_⟩, ⟨fun b o e z => ?_, fun b h => ?_, Same.refl _, fun b h h' => absurd h h', fun b h => ?_⟩, ?_, ?_⟩
  . have hb : b ≠ p := fun q => by subst q; rw [hs2] at e; cases e
    rw [eqH b hb]
    exact g.sub b o e
  . have := g.le b
    have := tot b
    (try dsimp only at *)
    omega
  . have := g.le b
    have := tot b
    exact g.ne b (by (try dsimp only at *); omega)
  . by_cases hb : b = p
    . subst hb; rw [Zr]; simp
    . rw [eqH b hb]
      have := g.le b
      have := tot b
      exact g.has b (by (try dsimp only at *); omega)
  . have hb : b ≠ p := fun q => by
     subst q
     have := le b
     have := g.le b
     (try dsimp only at *)
     omega
    rw [eqH b hb]
    exact e
  . have := g.le b
    have := tot b
    left
    (try dsimp only at *)
    omega
  . by_cases hb : b = p
    . subst hb; rw [Zr]; simp
    . rw [eqH b hb]; exact h
  . exact hq.frame (Same.refl _) fun b hb hn' => eqH b fun q => by subst q; omega
  . have r' : RepL K (upd H p o') Hs vs' ds' n' := hr.frame (Same.refl _) fun b hb hn' => eqH b fun q => by subst q; omega
    have z := f (upd H p o') Hs (some (.ref p)) (.node k' true ds') (fun b => one p b + n' b) (Same.refl _) (fun b hb hn' => eqH b fun q => by subst q; omega) (.inr ⟨_, rfl, .own hn r' fun b => Nat.le_refl _⟩)
    rw [Zak e1] at z
    exact z.mono fun b => by (try dsimp only); omega
theorem Zhu {i : Nat} {f : Kd -> List D -> Option (D × Kd × List D)} {δ δ' : List D} {d : D} (h : modS i f δ = .ok (d, δ')) : ∃ k ds k' ds', δ[i]? = some (.node k true ds) /\ f k ds = some (d, k', ds') /\ δ' = δ.set i (.node k' true ds') := by
 unfold modS at h
 split at h
 . rename_i k ds hi
   split at h
   . rename_i r k' ds' hf
     cases h
     exact ⟨k, ds, k', ds', hi, hf, rfl⟩
   . cases h
 . cases h
section
variable {X : Cx} {o e : Expr} {es : List Expr} {cpos apos : Pos} {i : Nat} {name : Str} {id : String}
theorem Znc {K : Fg} {H Hs : Hp} {σ : St} {M : Bud} {δ δ' : List D} {u : Unit} (g : Good H Hs M) (s : RepS K H Hs σ δ M) (h : chkL i δ = .ok (u, δ')) : δ' = δ /\ ∃ p, σ[i]? = some (some (.ref p)) /\ tyV K "list" (.ref p) H := by
 unfold chkL at h
 split at h
 . rename_i oo ds hi
   cases h
   obtain ⟨v, m1, m2, e1, q, l, f⟩ := s.slot hi (by simp)
   refine ⟨rfl, ?_⟩
   cases q with
   | own n r _ => exact ⟨_, e1, .inl ⟨rfl, _, .inl (.inl n)⟩⟩
   | shd n r => exact ⟨_, e1, .inl ⟨rfl, _, .inl (.inl (g.sub _ _ n))⟩⟩
 . cases h
theorem ZdM {cs : M (List D)} (ho : PE X o (tVar i)) (ha : PA X [e] (tDs X.K cs))
 (hbase : attributeBase o "append" X.env (eval o X.env) = eval o X.env := by rfl)
 (hfew : ((backTo cpos (starEach [e] X.env)).all (fun x => !x.1) && (backToKw cpos (keywordEach [] X.env)).all (fun x => x.1.isSome)
  && decide ([e].length + ([] : List Keyword).length + (if ([] : List Keyword).isEmpty then 0 else 1) < 30)) = true := by rfl)
 (hline : (apos.endLine == cpos.line) = true := by rfl) (hs : starEach [e] X.env = (false, eval e X.env) :: starEach [] X.env := by rfl) (hplain : (backTo cpos (starEach [] X.env)).any (·.1) = false := by rfl) :
 PE X (.Call (.Attribute o "append" apos) [e] [] cpos) (tM X.K ((chkL i).bnd fun _ => cs.bnd fun ds => appM i ds)) :=
 PE.imp (ZoM PySem.F.plainAttrs_list PySem.F.slot_list_append PySem.F.type_list_append Zjx ho ha hbase hfew hline hs hplain) fun σ H Q h => by
  obtain ⟨δ, Hs, M, d, δ', g, s, ea, q⟩ := h
  obtain ⟨u, δ0, e0, eb⟩ := Zd ea
  obtain ⟨ds, δ1, e1, ec⟩ := Zd eb
  obtain ⟨rfl, p0, h1, h2⟩ := Znc g s e0
  refine ⟨_, h1, h2, δ0, Hs, M, ds, δ1, g, s, e1, fun vs H1 Hs1 m1 M1 g1 st1 r1 s1 => ?_⟩
  unfold appM at ec
  split at ec
  . rename_i x
    obtain ⟨k, ds0, k', ds', hi, hf, rfl⟩ := Zhu ec
    unfold appD at hf
    split at hf
    . split at hf
      . rename_i hl
        cases hf
        cases r1 with
        | @cons y _ _ _ a1 a2 _ rx r2 la =>
         cases r2
         obtain ⟨p, ws, m', m2, e2, n, rl, le, fin⟩ := modL g1 s1 hi
         have e3 : some (some (V.ref p)) = some (some (V.ref p0)) := by rw [<- e2, h1]
         cases e3
         obtain ⟨G, S, R, SS⟩ := fin (.lst (ws ++ [y])) .lst (ws ++ [y]) (ds0 ++ [x]) (fun b => m' b + a1 b) (fun _ => 0) .non (.sc .non) (fun b => by have := la b; (try dsimp only); omega) Zr (rl.app (.cons rx (.nil (fun _ => 0)) fun b => by simp)) (.sc _ _)
         have z := Zx (m1 := fun _ => 0) g (g1.re fun b => by simp) (st1.drop (fun b => by simp) g1.le) G S
         exact ⟨_, ws, y, rfl, rfl, n, by rw [rl.len]; exact hl, q _ _ Hs1 _ _ G (z.2.1.drop (fun b => by simp) z.1.le) R SS⟩
      . cases hf
    . cases hf
  . cases ec
theorem ZpA {K : Fg} {m : MM} {σ : St} {H H1 Hs1 Hs : Hp} {M m1 M1 : Bud} {δ1 δ' : List D} {d : D} {ps : List Op} {vs : List V} {p0 : Addr} {Q : VK} {rr : V -> List V -> Hp -> VK -> Prop}
 (g : Good H Hs M) (g1 : Good H1 Hs1 (fun b => m1 b + M1 b)) (st1 : Stp H Hs M H1 Hs1 (fun b => m1 b + M1 b)) (r1 : Zd8 K H1 Hs1 σ vs ps m1) (s1 : RepS K H1 Hs1 σ δ1 M1) (h1 : σ[i]? = some (some (.ref p0)))
 (e : ((views ps).bnd fun ws => modS i (mutD m ws)) δ1 = .ok (d, δ'))
 (q : ∀ (v : V) (H' Hs' : Hp) (m M' : Bud), Good H' Hs' (fun b => m b + M' b) -> Stp H Hs M H' Hs' (fun b => m b + M' b) -> Rep K H' Hs' v d m -> RepS K H' Hs' σ δ' M' -> Q v H')
 (hr : ∀ (ws : List W) (Hs2 : Hp) (ds ds' : List D) (us : List V) (m2 m' : Bud), mutD m ws .lst ds = some (d, .lst, ds') -> Views K H1 Hs2 vs ws m2 -> H1 p0 = some (.lst us) -> RepL K H1 Hs2 us ds m' ->
  (∀ (us' : List V) (n' nr : Bud) (rv : V), (∀ b, n' b + nr b <= m' b + m2 b) -> RepL K H1 Hs2 us' ds' n' -> Rep K H1 Hs2 rv d nr -> Q rv (upd H1 p0 (.lst us'))) -> rr (.ref p0) vs H1 Q) : rr (.ref p0) vs H1 Q := by
 obtain ⟨ws, δ2, e2, e⟩ := Zd e
 obtain ⟨k, ds0, k', ds', hi, hf, rfl⟩ := Zhu e
 obtain ⟨Hs2, M2, g2, st2, v2, s2⟩ := ZhT (B := m1) g1 s1 r1 e2
 obtain ⟨p, us, m', m2, e3, n, rl, le, fin⟩ := modL g2 s2 hi
 have e4 : some (some (V.ref p)) = some (some (V.ref p0)) := by rw [<- e3, h1]
 cases e4
 have hk : k = .lst /\ k' = .lst := by
  unfold mutD at hf
  split at hf
  . split at hf
    . cases hf; exact ⟨rfl, rfl⟩
    . cases hf
  . simp only [Option.map_eq_some_iff] at hf
    obtain ⟨_, _, hf⟩ := hf
    cases hf
    exact ⟨rfl, rfl⟩
  . split at hf
    . simp only [Option.bind_eq_some_iff, Option.map_eq_some_iff] at hf
      obtain ⟨_, _, _, _, hf⟩ := hf
      cases hf
      exact ⟨rfl, rfl⟩
    . cases hf
  . cases hf; exact ⟨rfl, rfl⟩
  . cases hf; exact ⟨rfl, rfl⟩
  . cases hf
 obtain ⟨rfl, rfl⟩ := hk
 refine hr ws Hs2 ds0 ds' us m1 m' hf v2 n rl fun us' n' nr rv hle rn rd => ?_
 obtain ⟨G, S, R, SS⟩ := fin (.lst us') .lst us' ds' n' nr rv d hle Zr rn rd
 have z1 := Zx (m1 := fun _ => 0) g (g1.re fun b => by simp) (st1.drop (fun b => by simp) g1.le) g2 st2
 have S2 : Stp H Hs M H1 Hs2 (fun b => m1 b + M2 b) := z1.2.1.drop (fun b => by simp) z1.1.le
 have z := Zx (m1 := fun _ => 0) g (g2.re fun b => by simp) (S2.drop (fun b => by simp) g2.le) G S
 exact q _ _ Hs2 _ _ G (z.2.1.drop (fun b => by simp) z.1.le) R SS
end
end T
namespace L2
open PySem PySem.Spec PyProof.Rows
section
variable {prog : Program} {w : World} {A : Around} {E : Value -> Shared -> Prop} {s : Shared}
theorem ZoR {it a : Addr} {us : Array Value} (ne : a ≠ it) : ∀ (m j : Nat) (s : Shared) (Q : List Value -> Shared -> Prop), s.heap.IsListIter it a j -> s.heap.IsList a us -> j + m <= us.size ->
 (∀ g, Heap.IsListIter g it a (j + m) -> Heap.SameBut it s.heap g -> Q ((us.toList.drop j).take m) { s with heap := g }) -> wpAny (model prog w) A (draw (.ref it) m) Q E s
 | 0, j, s, Q, st, _, _, q => wpAny_pure (by simpa using q s.heap st (Heap.SameBut.refl ..))
 | m + 1, j, s, Q, st, hl, le, q => by
  have lt : j < us.size := by omega
  refine wpAny_bind (wpAny_pyNext_list_item st hl (x := us[j]) (by simp [lt]) fun g1 st1 k1 => ?_)
  refine wpAny_bind (wpAny_holding (ZoR ne m (j + 1) _ _ st1 (hl.extBut k1.extBut ne) (by omega) fun g2 st2 k2 => wpAny_pure ?_))
  have z := q g2 (by rw [show j + (m + 1) = j + 1 + m by omega]; exact st2) (k1.trans k2)
  rw [show us.toList.drop j = us[j] :: us.toList.drop (j + 1) by simp [List.drop_eq_getElem_cons, lt], List.take_succ_cons] at z
  exact z
theorem ZpB {a : Addr} {us : Array Value} {Q : List Value -> Shared -> Prop} (hh : A.handled = none) (hl : s.heap.IsList a us)
 (q : ∀ g, Heap.ExtBut s.heap.objs.size s.heap g -> Q us.toList { s with heap := g }) : wpAny (model prog w) A (unpackItems (.ref a) us.size none) Q E s := by
 have ne : a ≠ s.heap.objs.size := Nat.ne_of_lt (by obtain ⟨o, e, _⟩ := hl; exact Heap.lt_size e)
 unfold unpackItems
 refine wpAny_bind (?_ : wpAny _ _ _ _ _ _)
 unfold notIterableAtAll
 refine wpAny_bind (wpAny_specialOf hl.typeIs slot_list_iter.lookup (wpAny_pure ?_))
 simp only [if_false, Bool.false_eq_true]
 refine wpAny_bind (wpAny_holding (wpAny_pyIter_list hl (wpAny_bind (wpAny_holding (ZoR ne us.size 0 _ _ ⟨_, Heap.get?_push_size _ rfl, rfl, rfl⟩ (hl.push _) (by omega) fun g1 st1 k1 => ?_)))))
 rw [show List.take us.size (List.drop 0 us.toList) = us.toList from by rw [List.drop_zero, List.take_of_length_le (by simp)], if_neg (by simp)]
 refine wpAny_bind (wpAny_holding (wpAny_pyNext_list_end hh st1 ((hl.push _).extBut k1.extBut ne) (by simp) fun g2 k2 => ?_))
 simp only [if_false, Bool.false_eq_true, Option.isSome_none]
 exact wpAny_pure (q g2 fun b o hb e => k2 b o hb (k1.extBut b o hb (Heap.get?_push_of_some _ e)))
theorem ZpC {env : Env} {es : List Expr} {k : Nat} {p : Pos} {a : Addr} {us : Array Value} {Q : Unit -> Shared -> Prop} (hh : A.handled = none) (hl : s.heap.IsList a us) (hn : (assignEach es env).length = us.size) (hst : (assignEach es env).findIdx? (·.1) = none)
 (q : ∀ g, Heap.ExtBut s.heap.objs.size s.heap g -> wpAny (model prog w) A (assignInOrder ((assignEach es env).map (·.2)) us.toList) Q E { s with heap := g }) : wpAny (model prog w) A (assign (.Tuple es k p) env (.ref a)) Q E s := by
 rw [assign_Tuple]
 refine wpAny_bind (wpAny_standAt ?_)
 unfold unpack
 rw [hn, hst]
 exact wpAny_bind (wpAny_holding (ZpB hh hl q))
end
noncomputable def gSeq (K : Fg) (n : Nat) (t : TGs) : TG := fun v σ H Q => ∃ a xs, v = .ref a /\ (SqT K H a xs \/ SqL K H a xs) /\ xs.length = n /\ t xs σ H Q
theorem Znd {X : Cx} {pos : Pos} {es : List Expr} {k : Nat} {t : TGs} {n : Nat} (hc : X.calm = true) (h : PGs X es t)
 (hn : (assignEach es X.env).length = n := by rfl) (hst : (assignEach es X.env).findIdx? (·.1) = none := by rfl) : PG X (.Tuple es k pos) (gSeq X.K n t) := by
 intro pins s σ H v u Q I r hw
 obtain ⟨a, xs, e1, hq, hl, hw⟩ := hw
 rcases hq with hq | hq
 . exact ZqG hc h hn hst pins s σ H v u Q I r ⟨a, xs, e1, hq, hl, hw⟩
 . subst e1
   cases r
   obtain ⟨its, rv, ht, hz⟩ := I.list hq
   refine ZpC (I.ok.hd hc) ht.isList (by simp [hn, <- hl, rv.length]) hst fun h' hx => ?_
   have I1 : Inv X pins σ H { s with heap := h' } := I.kept (t' := s.toks) fun b o e => hx b o (Nat.ne_of_lt (Heap.lt_size e)) e
   exact h pins _ σ H xs _ Q I1 (by simpa using rv) hw
end L2
namespace T
open PySem PySem.Spec L2
def Keeps (lk : Nat -> Bool) (σ σ' : St) : Prop := ∀ i, lk i = true -> σ'[i]? = σ[i]?
theorem Keeps.refl (lk : Nat -> Bool) (σ : St) : Keeps lk σ σ := fun _ _ => rfl
theorem Keeps.trans {lk : Nat -> Bool} {σ σ1 σ2 : St} (a : Keeps lk σ σ1) (b : Keeps lk σ1 σ2) : Keeps lk σ σ2 := fun i h => (b i h).trans (a i h)
def Post (K : Fg) (lk : Nat -> Bool) (E : Ends) (σ : St) (H Hs : Hp) (M : Bud) (f : Fl) (δ' : List D) : Prop := match f with
 | .nx => ∀ (σ' : St) (H' Hs' : Hp) (M' : Bud), Keeps lk σ σ' -> Good H' Hs' M' -> Stp H Hs M H' Hs' M' -> RepS K H' Hs' σ' δ' M' -> E.nx σ' H'
 | .bk => ∀ (σ' : St) (H' Hs' : Hp) (M' : Bud), Keeps lk σ σ' -> Good H' Hs' M' -> Stp H Hs M H' Hs' M' -> RepS K H' Hs' σ' δ' M' -> E.bk σ' H'
 | .ct => ∀ (σ' : St) (H' Hs' : Hp) (M' : Bud), Keeps lk σ σ' -> Good H' Hs' M' -> Stp H Hs M H' Hs' M' -> RepS K H' Hs' σ' δ' M' -> E.ct σ' H'
 | .rt d => ∀ (v : V) (σ' : St) (H' Hs' : Hp) (m M' : Bud), Keeps lk σ σ' -> Good H' Hs' (fun b => m b + M' b) -> Stp H Hs M H' Hs' (fun b => m b + M' b) -> Rep K H' Hs' v d m -> RepS K H' Hs' σ' δ' M' -> E.rt v H'
def tS (K : Fg) (lk : Nat -> Bool) (c : M Fl) : TS := fun E σ H => ∃ (δ : List D) (Hs : Hp) (M : Bud) (f : Fl) (δ' : List D), Good H Hs M /\ RepS K H Hs σ δ M /\ c δ = .ok (f, δ') /\ Post K lk E σ H Hs M f δ'
theorem Post.ahead {K : Fg} {lk : Nat -> Bool} {E : Ends} {σ σ1 : St} {H Hs H1 Hs1 : Hp} {M M1 : Bud} {f : Fl} {δ' : List D} (k : Keeps lk σ σ1) (g : Good H Hs M) (g1 : Good H1 Hs1 M1) (st : Stp H Hs M H1 Hs1 M1) (h : Post K lk E σ H Hs M f δ') : Post K lk E σ1 H1 Hs1 M1 f δ' := by
 have tr : ∀ {H' Hs' : Hp} {M' : Bud}, Good H' Hs' M' -> Stp H1 Hs1 M1 H' Hs' M' -> Stp H Hs M H' Hs' M' := fun {H' Hs' M'} g' st' => by
  have z := Zx (m1 := fun _ => 0) g (g1.re fun b => by simp) (st.drop (fun b => by simp) g1.le) g' st'
  exact z.2.1.drop (fun b => by simp) z.1.le
 cases f with
 | nx => exact fun σ' H' Hs' M' k' g' st' r => h σ' H' Hs' M' (k.trans k') g' (tr g' st') r
 | bk => exact fun σ' H' Hs' M' k' g' st' r => h σ' H' Hs' M' (k.trans k') g' (tr g' st') r
 | ct => exact fun σ' H' Hs' M' k' g' st' r => h σ' H' Hs' M' (k.trans k') g' (tr g' st') r
 | rt d => exact fun v σ' H' Hs' m M' k' g' st' rv r => h v σ' H' Hs' m M' (k.trans k') g' (tr g' st') rv r
section
variable {X : Cx} {e a b c o : Expr} {st : Stmt} {rest : List Stmt} {pos pos' : Pos} {lk : Nat -> Bool} {i : Nat} {x : Str}
theorem PS.imp {t t' : TS} (h : PS X st t) (w : ∀ E σ H, t' E σ H -> t E σ H) : PS X st t' := fun pins s σ H E I q => h pins s σ H E I (w E σ H q)
theorem PSs.imp {t t' : TS} (h : PSs X rest t) (w : ∀ E σ H, t' E σ H -> t E σ H) : PSs X rest t' := fun pins s σ H E I q => h pins s σ H E I (w E σ H q)
theorem Zn : PSs X [] (tS X.K lk (M.ret .nx)) := PSs.imp Zpf fun E σ H h => by
 obtain ⟨δ, Hs, M, f, δ', g, s, e, q⟩ := h
 have := Zi e
 cases this
 exact q σ H Hs M (Keeps.refl _ _) g (Stp.refl _ _ _) s
theorem Zf {c r : M Fl} (h1 : PS X st (tS X.K lk c)) (h2 : PSs X rest (tS X.K lk r)) : PSs X (st :: rest) (tS X.K lk (seqL c r)) := PSs.imp (ZnD h1 h2) fun E σ H h => by
 obtain ⟨δ, Hs, M, f, δ', g, s, e, q⟩ := h
 obtain ⟨f1, δ1, e1, e2⟩ := Zd e
 refine ⟨δ, Hs, M, f1, δ1, g, s, e1, ?_⟩
 cases f1 with
 | nx => exact fun σ' H' Hs' M' k g' st' r => ⟨δ1, Hs', M', f, δ', g', r, e2, q.ahead k g g' st'⟩
 | bk => have := Zi e2; cases this; exact q
 | ct => have := Zi e2; cases this; exact q
 | rt d => have := Zi e2; cases this; exact q
theorem Zft : PS X st (tS X.K lk stk) := fun pins s σ H E I ⟨δ, Hs, M, f, δ', g, _, e, q⟩ => by cases e
theorem ZdN {c : M D} (he : PE X e (tM X.K c)) (hs : swapsWith e none pos.line X.env = pure false := by rfl) : PS X (.Expr e pos) (tS X.K lk (c.bnd fun _ => M.ret .nx)) := PS.imp (Zpg he hs) fun E σ H h => by
 obtain ⟨δ, Hs, M, f, δ', g, s, e, q⟩ := h
 obtain ⟨d, δ1, e1, e2⟩ := Zd e
 have := Zi e2
 cases this
 exact ⟨δ, Hs, M, d, _, g, s, e1, fun v H' Hs' m M' g' st' r s' => q σ H' Hs' M' (Keeps.refl _ _) g'.re (st'.drop (fun b => by omega) g'.le) s'⟩
theorem Z0 {c : M D} (he : PE X e (tM X.K c)) : PS X (.Return (some e) pos) (tS X.K lk (c.bnd fun d => M.ret (.rt d))) := PS.imp (ZqF he) fun E σ H h => by
 obtain ⟨δ, Hs, M, f, δ', g, s, e, q⟩ := h
 obtain ⟨d, δ1, e1, e2⟩ := Zd e
 have := Zi e2
 cases this
 exact ⟨δ, Hs, M, d, _, g, s, e1, fun v H' Hs' m M' g' st' r s' => q v σ H' Hs' m M' (Keeps.refl _ _) g' st' r s'⟩
theorem ZfY (h : PE X e (tVar i)) : PE X e (tM X.K (movV i)) := PE.imp h fun σ H Q ⟨δ, Hs, M, d, δ', g, s, e, q⟩ => by
 unfold movV at e
 split at e
 . rename_i u hd
   cases e
   obtain ⟨v, m1, m2, e3, r, _⟩ := s.slot hd (by simp)
   cases r
   exact ⟨u, e3, q u H Hs (fun _ => 0) M (ZbJ g) (stp0 H Hs M) (.sc _ _) s⟩
 . rename_i k oo ds hd
   cases e
   obtain ⟨v, m1, m2, e3, r, l, f⟩ := s.slot hd (by simp)
   have z := f H Hs (some v) .hole (fun _ => 0) (Same.refl _) (fun _ _ _ => rfl) (.inl rfl)
   rw [Zak e3] at z
   exact ⟨v, e3, q v H Hs m1 m2 (g.re fun b => by have := l b; omega) ((Stp.refl H Hs M).drop (fun b => by have := l b; omega) g.le) r (z.mono fun b => by simp)⟩
 . cases e
theorem Zbs {cc : M Bool} {ca cb : M Fl} {A B : List Stmt} (hc : PT X c (tT X.K cc)) (ha : PSs X A (tS X.K lk ca)) (hb : PSs X B (tS X.K lk cb)) : PS X (.If c A B pos) (tS X.K lk (cc.bnd fun t => if t then ca else cb)) := PS.imp (Zs9 hc ha hb) fun E σ H h => by
 obtain ⟨δ, Hs, M, f, δ', g, s, e, q⟩ := h
 obtain ⟨t, δ1, e1, e2⟩ := Zd e
 refine ⟨δ, Hs, M, t, δ1, g, s, e1, fun H' Hs' M' g' st' s' => ?_⟩
 cases t with
 | true => exact ⟨δ1, Hs', M', f, δ', g', s', e2, q.ahead (Keeps.refl _ _) g g' st'⟩
 | false => exact ⟨δ1, Hs', M', f, δ', g', s', e2, q.ahead (Keeps.refl _ _) g g' st'⟩
theorem Zfu {K : Fg} {H Hs : Hp} {σ : St} {δ : List D} {m M : Bud} {v : V} {d : D} (s : RepS K H Hs σ δ M) (hi : i < δ.length) (r : Rep K H Hs v d m) : RepS K H Hs (σ.set i (some v)) (δ.set i d) (fun b => m b + M b) := by
 obtain ⟨o, m1, m2, e1, q, l, f⟩ := s.focus (List.getElem?_eq_getElem hi)
 exact (f (RepO K H Hs) (some v) d m (fun a d m' _ q => q) (.inr ⟨v, rfl, r⟩)).mono fun b => by have := l b; (try dsimp only); omega
theorem Zhv {δ δ' : List D} {d : D} {u : Unit} (h : asgN lk i d δ = .ok (u, δ')) : i < δ.length /\ lk i = false /\ δ' = δ.set i d := by
 unfold asgN at h
 split at h
 . rename_i hc
   simp only [Bool.and_eq_true, decide_eq_true_eq, Bool.not_eq_true'] at hc
   cases h
   exact ⟨hc.1, hc.2, rfl⟩
 . cases h
theorem ZfG {σ : St} {v : Option V} (h : lk i = false) : Keeps lk σ (σ.set i v) := fun j hj => by
 have : i ≠ j := fun q => by subst q; rw [h] at hj; cases hj
 rw [List.getElem?_set_ne this]
theorem Zru {c : M D} (hN : X.N.Nodup) (hi : X.N[i]? = some x) (hx : Loc X.env.scope x) (he : PE X e (tM X.K c)) (hs : swapsWith e (some (.Name x pos')) pos.line X.env = pure false := by rfl)
 (hf : X.fn x = true \/ X.env.scope.names.lookup x = some .local := by first | exact .inl rfl | exact .inr rfl | assumption) :
 PS X (.Assign [.Name x pos'] e pos) (tS X.K lk (c.bnd fun d => (asgN lk i d).bnd fun _ => M.ret .nx)) := PS.imp (ZqI hN hi hx he hs hf) fun E σ H h => by
 obtain ⟨δ, Hs, M, f, δ', g, s, e, q⟩ := h
 obtain ⟨d, δ1, e1, e2⟩ := Zd e
 obtain ⟨u, δ2, e3, e4⟩ := Zd e2
 have := Zi e4
 cases this
 obtain ⟨h1, h2, rfl⟩ := Zhv e3
 exact ⟨δ, Hs, M, d, δ1, g, s, e1, fun v H' Hs' m M' g' st' r s' => q _ H' Hs' _ (ZfG h2) g' st' (Zfu s' h1 r)⟩
end
end T
namespace T
open PySem PySem.Spec L2
noncomputable def gNs : List Nat -> TGs
 | [] => gNil
 | i :: is => ZoA (ZfE i) (gNs is)
theorem Zhw {K : Fg} {H Hs : Hp} {lk : Nat -> Bool} : ∀ {is : List Nat} {ds : List D} {vs : List V} {σ : St} {δ δ' : List D} {m M : Bud} {u : Unit} {Q : St -> Hp -> Prop}, Zd7 lk is ds δ = .ok (u, δ') -> RepL K H Hs vs ds m -> RepS K H Hs σ δ M ->
 (∀ σ', Keeps lk σ σ' -> RepS K H Hs σ' δ' (fun b => m b + M b) -> Q σ' H) -> vs.length = is.length /\ gNs is vs σ H Q
 | [], [], _, σ, δ, δ', m, M, u, Q, e, .nil _, s, q => by
  have := Zi e
  cases this
  exact ⟨rfl, rfl, q σ (Keeps.refl _ _) (s.mono fun b => by omega)⟩
 | [], _ :: _, _, _, _, _, _, _, _, _, e, _, _, _ => by cases e
 | _ :: _, [], _, _, _, _, _, _, _, _, e, _, _, _ => by cases e
 | i :: is, d :: ds, _, σ, δ, δ', m, M, u, Q, e, .cons (v := v) (vs := vs) (m1 := m1) (m2 := m2) x y l, s, q => by
  obtain ⟨u1, δ1, e1, e2⟩ := Zd e
  obtain ⟨h1, h2, rfl⟩ := Zhv e1
  obtain ⟨hl, hq⟩ := Zhw (Q := Q) e2 y (Zfu s h1 x) fun σ' k r => q σ' ((ZfG h2).trans k) (r.mono fun b => by have := l b; (try dsimp only); omega)
  exact ⟨by rw [List.length_cons, List.length_cons, hl], v, vs, rfl, hq⟩
section
variable {X : Cx} {e o k : Expr} {es : List Expr} {pos pos' : Pos} {lk : Nat -> Bool} {i j : Nat} {is : List Nat} {x : Str}
theorem Zhx : PGs X [] (gNs []) := Zph
theorem ok_g (hN : X.N.Nodup) (hi : X.N[i]? = some x) (hx : Loc X.env.scope x) (hr : PGs X es (gNs is)) (hf : X.fn x = true \/ X.env.scope.names.lookup x = some .local := by first | exact .inl rfl | exact .inr rfl | assumption)
 (hs : (assignEach (.Name x pos :: es) X.env).map (·.2) = assign (.Name x pos) X.env :: (assignEach es X.env).map (·.2) := by rfl) : PGs X (.Name x pos :: es) (gNs (i :: is)) := ZnE (Zli hN hi hx hf) hr hs
theorem ZpD {K : Fg} {H Hs : Hp} {σ : St} {δ δ' : List D} {m M : Bud} {x : V} {w : W} {u : Unit} {Q : St -> Hp -> Prop} (v : View K H Hs x w m) (s : RepS K H Hs σ δ M) (e : unpM lk is w δ = .ok (u, δ'))
 (q : ∀ σ', Keeps lk σ σ' -> RepS K H Hs σ' δ' (fun b => m b + M b) -> Q σ' H) : gSeq K is.length (gNs is) x σ H Q := by
 unfold unpM at e
 split at e
 . cases v with
   | nd n r =>
    obtain ⟨hl, hq⟩ := Zhw e r s q
    exact ⟨_, _, rfl, .inl (.inl (.inl n)), hl, hq⟩
 . cases v with
   | nd n r =>
    obtain ⟨hl, hq⟩ := Zhw e r s q
    exact ⟨_, _, rfl, .inr (.inl (.inl n)), hl, hq⟩
 . cases e
theorem Zne {ca : M Op} (hc : X.calm = true) (he : PE X e (tP X.K ca)) (hg : PGs X es (gNs is)) (hn : (assignEach es X.env).length = is.length := by rfl) (hst : (assignEach es X.env).findIdx? (·.1) = none := by rfl)
 (hs : swapsWithSole [.Tuple es j pos'] e pos.line X.env = pure false := by rfl) (hw : swappedStores [.Tuple es j pos'] e X.env = pure none := by rfl)
 (h1 : (assignEach [.Tuple es j pos'] X.env).map (·.2) = [assign (.Tuple es j pos') X.env] := by rfl) :
 PS X (.Assign [.Tuple es j pos'] e pos) (tS X.K lk ((ca.bnd view).bnd fun w => (unpM lk is w).bnd fun _ => M.ret .nx)) := PS.imp (Zm1 he (Znd hc hg hn hst) hs hw h1) fun E σ H h => by
 obtain ⟨δ, Hs, M, f, δ', g, s, ea, q⟩ := h
 obtain ⟨w, δ2, eb, ec⟩ := Zd ea
 obtain ⟨p, δ1, e1, e2⟩ := Zd eb
 obtain ⟨u, δ3, e3, e4⟩ := Zd ec
 have := Zi e4
 cases this
 refine ⟨δ, Hs, M, p, δ1, g, s, e1, fun x H2 Hs2 m1 M2 g2 st2 r1 s2 => ?_⟩
 obtain ⟨Hs3, M3, g3, st3, v1, s3⟩ := Zcy (B := m1) g2 s2 r1 e2
 have z := Zx (m1 := fun _ => 0) g (g2.re fun b => by simp) (st2.drop (fun b => by simp) g2.le) g3 st3
 exact ZpD v1 s3 e3 fun σ' kk r => q σ' H2 Hs3 _ kk g3 (z.2.1.drop (fun b => by simp) z.1.le) r
theorem RepL.set {K : Fg} {H Hs : Hp} {vs : List V} {ds : List D} {m m1 : Bud} {n : Nat} {v : V} {d d0 : D} (r : RepL K H Hs vs ds m) (hn : ds[n]? = some d0) (x : Rep K H Hs v d m1) : RepL K H Hs (vs.set n v) (ds.set n d) (fun b => m b + m1 b) := by
 obtain ⟨a, n1, n2, e1, q, l, f⟩ := r.sep.focus hn
 exact ((f (Rep K H Hs) v d m1 (fun a d m' _ q => q) x).mono fun b => by have := l b; (try dsimp only); omega).repL
theorem Zlv {K : Fg} {H Hs : Hp} {σ : St} {δ δ' : List D} {M : Bud} {p : Op} (s : RepS K H Hs σ δ M) (h : Zbr i δ = .ok (p, δ')) : δ' = δ /\ ∃ v, σ[i]? = some (some v) := by
 unfold Zbr at h
 split at h
 . rename_i hd
   cases h
   obtain ⟨v, _, _, e, _⟩ := s.slot hd (by simp)
   exact ⟨rfl, v, e⟩
 . rename_i hd
   cases h
   obtain ⟨v, _, _, e, _⟩ := s.slot hd (by simp)
   exact ⟨rfl, v, e⟩
 . cases h
theorem Zrv {c : M D} {ck : M Op} (ho : PE X o (tVar i)) (hk : PE X k (tP X.K ck)) (he : PE X e (tM X.K c))
 (ha : ∀ v, assign (.Subscript o k pos') X.env v = (do
  let ov <- holding [v] (eval o X.env)
  let iv <- holding [v, ov] (eval k X.env)
  standAt pos'
  holding [v, ov, iv] (setItem ov iv v)
  release [v, ov, iv] []) := by intro _; rfl)
 (hs : swapsWithSole [.Subscript o k pos'] e pos.line X.env = pure false := by rfl) (hw : swappedStores [.Subscript o k pos'] e X.env = pure none := by rfl)
 (h1 : (assignEach [.Subscript o k pos'] X.env).map (·.2) = [assign (.Subscript o k pos') X.env] := by rfl) :
 PS X (.Assign [.Subscript o k pos'] e pos) (tS X.K lk (c.bnd fun d => (Zbr i).bnd fun _ => (ck.bnd view).bnd fun w => (modS i (setD w d)).bnd fun _ => M.ret .nx)) :=
 PS.imp (Zm1 he (ZqH ho hk ZnO ha) hs hw h1) fun E σ H h => by
 obtain ⟨δ, Hs, M, f, δ', g, s, ea, q⟩ := h
 obtain ⟨d, δ1, e1, eb⟩ := Zd ea
 obtain ⟨p0, δ2, e2, ec⟩ := Zd eb
 obtain ⟨w, δ3, e3, ed⟩ := Zd ec
 obtain ⟨p, δ4, e4, e5⟩ := Zd e3
 obtain ⟨r0, δ5, e6, e7⟩ := Zd ed
 have := Zi e7
 cases this
 obtain ⟨kk, ds0, k', ds', hi, hf, rfl⟩ := Zhu e6
 refine ⟨δ, Hs, M, d, δ1, g, s, e1, fun v H1 Hs1 m1 M1 g1 st1 r1 s1 => ?_⟩
 obtain ⟨rfl, vo, ho⟩ := Zlv s1 e2
 refine ⟨vo, ho, δ2, Hs1, M1, p, δ4, g1.re, s1, e4, fun y H2 Hs2 m2 M2 g2 st2 r2 s2 => ?_⟩
 obtain ⟨G2, S2, k2⟩ := Zx g g1 st1 g2 st2
 have r1' := r1.frame st2.grow k2
 obtain ⟨Hs3, M3, g3, st3, v3, s3⟩ := Zcy (B := fun b => m1 b + m2 b) (G2.re fun b => by (try dsimp only); omega) s2 r2 e5
 have r1'' := r1'.frame (H' := H2) st3.grow fun _ _ _ => rfl
 obtain ⟨p1, us, m', n2, e8, n, rl, le, fin⟩ := modL g3 s3 hi
 rw [ho] at e8
 cases e8
 unfold setD at hf
 split at hf
 . split at hf
   . rename_i nn
     simp only [Option.map_eq_some_iff] at hf
     obtain ⟨jj, hj, hf⟩ := hf
     cases hf
     cases v3
     have hl := rl.len
     have hjj : ixN us.length nn = some jj := by rw [hl]; exact hj
     have hlt : jj < ds0.length := by
      unfold ixN' at hj
      split at hj
      . split at hj
        . cases hj; omega
        . cases hj
      . split at hj
        . cases hj; omega
        . cases hj
     obtain ⟨G, S, R, SS⟩ := fin (.lst (us.set jj v)) .lst (us.set jj v) (ds0.set jj d) (fun b => m' b + m1 b) (fun _ => 0) .non (.sc .non) (fun b => by (try dsimp only); omega) Zr (rl.set (List.getElem?_eq_getElem hlt) r1'') (.sc _ _)
     have S2' : Stp H Hs M H2 Hs2 (fun b => m1 b + m2 b + M2 b) := S2.drop (fun b => by omega) G2.le
     have G2' : Good H2 Hs2 (fun b => m1 b + m2 b + M2 b) := G2.re fun b => by omega
     have z3 := Zx (m1 := fun _ => 0) g (G2'.re fun b => by simp) (S2'.drop (fun b => by simp) G2'.le) g3 st3
     have S3 : Stp H Hs M H2 Hs3 (fun b => m1 b + m2 b + M3 b) := z3.2.1.drop (fun b => by simp) z3.1.le
     have z := Zx (m1 := fun _ => 0) g (g3.re fun b => by simp) (S3.drop (fun b => by simp) g3.le) G S
     exact ⟨_, us, nn, jj, rfl, rfl, n, hjj, q σ _ Hs3 _ (Keeps.refl _ _) (G.re fun b => by (try dsimp only); omega) ((z.2.1.drop (fun b => by simp) z.1.le).drop (fun b => by (try dsimp only); omega) G.le) SS⟩
   . cases hf
 . cases hf
end
end T
namespace T
open PySem PySem.Spec L2
structure WalkV (J : It) (vs : List V) (B : Bud) (Pp : Hp -> Hp -> Prop) : Prop where
 stay : ∀ {H Hs H' Hs' : Hp}, Pp H Hs -> Same Hs Hs' -> (∀ b, B b ≥ 1 -> H b ≠ none -> H' b = H b) -> Pp H' Hs'
 go : ∀ {H Hs : Hp} {i : Nat} {v : V}, Same Hs H -> Pp H Hs -> vs[i]? = some v -> J.go i H
 yld : ∀ {H Hs H' : Hp} {i : Nat} {x v : V}, Same Hs H -> Pp H Hs -> vs[i]? = some v -> J.yld i H x H' -> H' = H /\ x = v
 stop : ∀ {H Hs : Hp} {i : Nat}, Same Hs H -> Pp H Hs -> vs.length <= i -> J.stop i H
def Grow (H Hs H' Hs' : Hp) : Prop := (H' = H /\ Hs' = Hs) \/ ∃ A o, H A = none /\ H' = upd H A o /\ Hs' = upd Hs A o
theorem Grow.same {H Hs H' Hs' : Hp} (w : Grow H Hs H' Hs') (g : Same Hs H) : Same Hs Hs' /\ (∀ b, H b ≠ none -> H' b = H b) /\ Same Hs' H' := by
 rcases w with ⟨rfl, rfl⟩ | ⟨A, o, h, rfl, rfl⟩
 . exact ⟨Same.refl _, fun _ _ => rfl, g⟩
 . have hs : Hs A = none := by
    cases q : Hs A with
    | none => rfl
    | some u => rw [g A u q] at h; cases h
   have ne : ∀ b u, Hs b = some u -> b ≠ A := fun b u e z => by subst z; rw [hs] at e; cases e
   refine ⟨fun b u e => ?_, fun b n => Zv fun z => n (by rw [z]; exact h), fun b u e => ?_⟩
   . rw [Zv (ne b u e)]; exact e
   . by_cases z : b = A
     . subst z; rw [Zr] at e ⊢; exact e
     . rw [Zv z] at e ⊢; exact g b u e
theorem Grow.good {H Hs H' Hs' : Hp} {M : Bud} (w : Grow H Hs H' Hs') (g : Good H Hs M) : Good H' Hs' M := by
 obtain ⟨s1, s2, s3⟩ := w.same g.sub
 refine ⟨s3, g.le, fun b h => ?_, fun b h => ?_⟩
 . rcases w with ⟨rfl, rfl⟩ | ⟨A, o, n, rfl, rfl⟩
   . exact g.ne b h
   . rw [Zv fun z => g.has b h (by rw [z]; exact n)]; exact g.ne b h
 . rw [s2 b (g.has b h)]; exact g.has b h
theorem Grow.stp {H Hs H' Hs' H0 Hs0 : Hp} {M M0 : Bud} (w : Grow H Hs H' Hs') (g : Good H Hs M) (t : Stp H0 Hs0 M0 H Hs M) : Stp H0 Hs0 M0 H' Hs' M := by
 obtain ⟨s1, s2, s3⟩ := w.same g.sub
 refine ⟨fun b o e z => ?_, t.own, t.grow.trans s1, fun b n n' => ?_, fun b n => ?_⟩
 . have e1 := t.keep b o e z
   rw [s2 b (by rw [e1]; simp)]; exact e1
 . by_cases q : Hs b = none
   . rcases w with ⟨rfl, rfl⟩ | ⟨A, o, h, rfl, rfl⟩
     . exact absurd q n'
     . by_cases z : b = A
       . subst z
         cases y : H0 b with
         | none => exact .inr rfl
         | some u => exact absurd h (t.stay b (by rw [y]; simp))
       . rw [Zv z] at n'; exact absurd q n'
   . exact t.shr b n q
 . have := t.stay b n
   rw [s2 b this]; exact this
structure Walk (K : Fg) (J : It) (items : List D) (B : Bud) (Pp : Hp -> Hp -> Prop) : Prop where
 stay : ∀ {H Hs H' Hs' : Hp}, Pp H Hs -> Same Hs Hs' -> (∀ b, B b ≥ 1 -> H b ≠ none -> H' b = H b) -> Pp H' Hs'
 go : ∀ {H Hs : Hp} {i : Nat}, Same Hs H -> Pp H Hs -> i < items.length -> J.go i H
 yld : ∀ {H Hs H' : Hp} {i : Nat} {x : V} {d : D}, Same Hs H -> Pp H Hs -> items[i]? = some d -> J.yld i H x H' -> ∃ Hs', Grow H Hs H' Hs' /\ Rep K H' Hs' x d (fun _ => 0)
 stop : ∀ {H Hs : Hp} {i : Nat}, Same Hs H -> Pp H Hs -> items.length <= i -> J.stop i H
theorem WalkV.w {K : Fg} {J : It} {vs : List V} {items : List D} {B : Bud} {Pp : Hp -> Hp -> Prop} (w : WalkV J vs B Pp) : Walk K J items B (fun H Hs => Pp H Hs /\ RepL K H Hs vs items (fun _ => 0)) where
 stay := fun h g k => ⟨w.stay h.1 g k, h.2.frame g fun b hb => absurd hb (by simp)⟩
 go := fun {H Hs i} g h l => by
  have e := h.2.len
  exact w.go g h.1 (List.getElem?_eq_getElem (show i < vs.length by omega))
 yld := fun {H Hs H' i x d} g h e y => by
  obtain ⟨v, m1, ev, rv, lv⟩ := h.2.at e
  obtain ⟨rfl, rfl⟩ := w.yld g h.1 ev y
  exact ⟨Hs, .inl ⟨rfl, rfl⟩, rv.mono lv⟩
 stop := fun {H Hs i} g h l => w.stop g h.1 (by have := h.2.len; omega)
def Held (K : Fg) (H Hs : Hp) (σ : St) : List (Nat × D) -> Bud -> Prop
 | [], _ => True
 | (i, d) :: r, m => ∃ (v : V) (m1 m2 : Bud), σ[i]? = some (some v) /\ Rep K H Hs v d m1 /\ Held K H Hs σ r m2 /\ ∀ b, m1 b + m2 b <= m b
theorem Held.frame {K : Fg} {H Hs H' Hs' : Hp} {σ : St} (g : Same Hs Hs') : ∀ {hs : List (Nat × D)} {m : Bud}, (∀ b, m b ≥ 1 -> H b ≠ none -> H' b = H b) -> Held K H Hs σ hs m -> Held K H' Hs' σ hs m
 | [], _, _, h => h
 | (i, d) :: r, m, k, ⟨v, m1, m2, e, x, y, l⟩ => ⟨v, m1, m2, e, x.frame g fun b hb => k b (by have := l b; omega), y.frame g fun b hb => k b (by have := l b; omega), l⟩
theorem Held.keeps {K : Fg} {H Hs : Hp} {σ σ' : St} {lk : Nat -> Bool} (k : Keeps lk σ σ') : ∀ {hs : List (Nat × D)} {m : Bud}, (∀ p ∈ hs, lk p.1 = true) -> Held K H Hs σ hs m -> Held K H Hs σ' hs m
 | [], _, _, h => h
 | (i, d) :: r, m, hl, ⟨v, m1, m2, e, x, y, l⟩ => ⟨v, m1, m2, (k i (hl (i, d) List.mem_cons_self)).trans e, x, y.keeps k fun p hp => hl p (List.mem_cons_of_mem _ hp), l⟩
theorem Zgt {K : Fg} {H Hs : Hp} {σ : St} : ∀ {hs : List (Nat × D)} {m M : Bud} {δ δ' : List D} {u : Unit}, Zcd hs δ = .ok (u, δ') -> Held K H Hs σ hs m -> RepS K H Hs σ δ M -> RepS K H Hs σ δ' (fun b => m b + M b)
 | [], m, M, δ, δ', u, e, h, s => by
  have := Zi e
  cases this
  exact s.mono fun b => by omega
 | (i, d) :: r, m, M, δ, δ', u, e, ⟨v, m1, m2, e1, x, y, l⟩, s => by
  have hi : i < δ.length := by
   have := s.length
   have := (List.getElem?_eq_some_iff.mp e1).1
   omega
  have z := Zfu s hi x
  rw [Zak e1] at z
  exact (Zgt (show Zcd r (δ.set i d) = _ from e) y z).mono fun b => by have := l b; (try dsimp only); omega
noncomputable def tI (K : Fg) (ik : IK) (cs : M (List Op)) : TI := fun σ H R => ∃ (δ : List D) (Hs : Hp) (M : Bud) (h : List W × List (Nat × D)) (items : List D) (δ' : List D), Good H Hs M /\ RepS K H Hs σ δ M /\ (cs.bnd Zac) δ = .ok (h, δ') /\ itW ik h.1 = some items /\
 ∀ (J : It) (Pp : Hp -> Hp -> Prop) (H' Hs' : Hp) (B M' : Bud), Good H' Hs' (fun b => B b + M' b) -> Stp H Hs M H' Hs' (fun b => B b + M' b) -> RepS K H' Hs' σ δ' M' -> Held K H' Hs' σ h.2 B -> Walk K J items B Pp -> Pp H' Hs' -> R J H'
theorem PI.imp {X : Cx} {tg it : Expr} {w w' : TI} (h : PI X tg it w) (q : ∀ σ H R, w' σ H R -> w σ H R) : PI X tg it w' := fun pins s σ H R I z => h pins s σ H R I (q σ H R z)
def HW (K : Fg) (H Hs : Hp) (B : Bud) (v : V) : W -> Prop
 | .sc u => v = u
 | .nd k ds => ∃ a vs, v = .ref a /\ RepL K H Hs vs ds (fun _ => 0) /\ (Zgo K Hs a vs k \/ (ZbI H a vs k /\ B a ≥ 1))
theorem Ze5 {K : Fg} {H Hs : Hp} {σ : St} {δ δ' : List D} {m M : Bud} {p : Op} {v : V} {w : W × Option (Nat × D)} (g : Good H Hs (fun b => m b + M b)) (s : RepS K H Hs σ δ M) (r : RepP K H Hs σ v p m) (e : Zb3 p δ = .ok (w, δ')) :
 ∃ Hs' B M', Good H Hs' (fun b => B b + M' b) /\ Stp H Hs (fun b => m b + M b) H Hs' (fun b => B b + M' b) /\ RepS K H Hs' σ δ' M' /\ Held K H Hs' σ w.2.toList B /\ HW K H Hs' B v w.1 := by
 have dropM : ∀ {Hs' : Hp} {M' : Bud}, Good H Hs' M' -> Good H Hs' (fun b => (fun _ => 0) b + M' b) := fun g => g.re fun b => by simp
 cases p with
 | tmp d =>
  cases d with
  | hole => cases e
  | sc u =>
   have := Zi e
   cases this
   cases r
   exact ⟨Hs, fun _ => 0, M, g.re fun b => by simp, (Stp.refl H Hs _).drop (fun b => by simp) g.le, s, trivial, rfl⟩
  | node k o ds =>
   have := Zi e
   cases this
   have hsame := ZdD g (m := m) fun b => by omega
   have r2 := Rep.share hsame (ZfW (H := H) (Hs := Hs) (m := m)) r
   refine ⟨shH H Hs m, fun _ => 0, M, dropM g.share, (Stp.share g).drop (fun b => by simp) g.share.le, s.frame hsame fun _ _ _ => rfl, trivial, ?_⟩
   simp only [shr] at r2
   cases r2 with
   | shd n r3 => exact ⟨_, _, rfl, r3, .inl n⟩
 | late i =>
  have r : σ[i]? = some (some v) := r
  unfold Zb3 at e
  dsimp only at e
  split at e
  . rename_i u hi
    cases e
    obtain ⟨v', m1, m2, e1, q, l, f⟩ := s.slot hi (by simp)
    rw [r] at e1
    cases e1
    cases q
    exact ⟨Hs, fun _ => 0, M, g.re fun b => by simp, (Stp.refl H Hs _).drop (fun b => by simp) g.le, s, trivial, rfl⟩
  . rename_i k ds hi
    cases e
    obtain ⟨v', m1, m2, e1, q, l, f⟩ := s.slot hi (by simp)
    rw [r] at e1
    cases e1
    cases q with
    | shd n q => exact ⟨Hs, fun _ => 0, M, g.re fun b => by simp, (Stp.refl H Hs _).drop (fun b => by simp) g.le, s, trivial, _, _, rfl, q, .inl n⟩
  . rename_i k ds hi
    cases e
    obtain ⟨v', m1, m2, e1, q, l, f⟩ := s.slot hi (by simp)
    rw [r] at e1
    cases e1
    cases q with
    | @own a _ vs _ _ m' n q l' =>
     have g2 : Good H Hs (fun b => m' b + (one a b + m2 b)) := g.re fun b => by have := l b; have := l' b; omega
     have hsame := ZdD g2 (m := m') fun b => by omega
     have q2 := RepL.share hsame (ZfW (H := H) (Hs := Hs) (m := m')) q
     have st := Stp.share g2
     have z := f H (shH H Hs m') (some (.ref a)) .hole (fun _ => 0) hsame (fun _ _ _ => rfl) (.inl rfl)
     rw [Zak r] at z
     refine ⟨shH H Hs m', one a, m2, g2.share, ⟨fun b o h _ => h, fun b h => ?_, st.grow, fun b h h' => ?_, fun b h => h⟩, z.mono fun b => by simp, ⟨_, one a, fun _ => 0, r, .own n q2 fun b => by simp, trivial, fun b => by simp⟩, _, _, rfl, q2, .inr ⟨n, by simp [one]⟩⟩
     . have h : one a b + m2 b = 1 := h
       have l0 : m b + M b <= 1 := g.le b
       have := l b
       have := l' b
       left
       show m b + M b = 1
       omega
     . rcases st.shr b h h' with z | z
       . have z : m' b + (one a b + m2 b) = 1 := z
         have l0 : m b + M b <= 1 := g.le b
         have := l b
         have := l' b
         left
         show m b + M b = 1
         omega
       . exact .inr z
  . cases e
theorem Ziv (lo : Int) (n : Nat) (B : Bud) : WalkV (Itr lo n) ((List.range n).map fun (k : Nat) => V.int (lo + k)) B (fun _ _ => True) where
 stay := fun _ _ _ => trivial
 go := fun {H Hs i v} _ _ h => by
  have := (List.getElem?_eq_some_iff.mp h).1
  simp only [List.length_map, List.length_range] at this
  exact this
 yld := fun {H Hs H' i x v} _ _ h y => by
  obtain ⟨e, y⟩ := y
  have := (List.getElem?_eq_some_iff.mp h).1
  simp only [List.length_map, List.length_range] at this
  rw [List.getElem?_map, List.getElem?_range this] at h
  simp only [Option.map_some, Option.some.injEq] at h
  exact ⟨e, y.trans h⟩
 stop := fun {H Hs i} _ _ h => by
  simp only [List.length_map, List.length_range] at h
  exact h
theorem Zj1 {K : Fg} {a : Addr} {vs : List V} {B : Bud} : WalkV (Itl K a) vs B (fun H Hs => SqL K Hs a vs \/ (H a = some (.lst vs) /\ B a ≥ 1)) := by
 have sq : ∀ {H Hs : Hp}, Same Hs H -> (SqL K Hs a vs \/ (H a = some (.lst vs) /\ B a ≥ 1)) -> SqL K H a vs := fun g h => by
  rcases h with h | h
  . exact g.seq h
  . exact .inl (.inl h.1)
 refine ⟨fun h g k => ?_, fun g h e => ⟨vs, _, sq g h, e⟩, fun g h e y => ?_, fun g h e => ⟨vs, sq g h, e⟩⟩
 . rcases h with h | ⟨h, hb⟩
   . exact .inl (g.seq h)
   . exact .inr ⟨(k a hb (by rw [h]; simp)).trans h, hb⟩
 . obtain ⟨e1, y⟩ := y
   have := y vs (sq g h)
   rw [e] at this
   exact ⟨e1, (Option.some.inj this).symm⟩
theorem Zkp {K : Fg} {a : Addr} {vs : List V} {B : Bud} : WalkV (Itt K a) vs B (fun H Hs => SqT K Hs a vs \/ (H a = some (.tup vs) /\ B a ≥ 1)) := by
 have sq : ∀ {H Hs : Hp}, Same Hs H -> (SqT K Hs a vs \/ (H a = some (.tup vs) /\ B a ≥ 1)) -> SqT K H a vs := fun g h => by
  rcases h with h | h
  . exact Same.tupq' g h
  . exact .inl (.inl h.1)
 refine ⟨fun h g k => ?_, fun g h e => ⟨vs, _, sq g h, e⟩, fun g h e y => ?_, fun g h e => ⟨vs, sq g h, e⟩⟩
 . rcases h with h | ⟨h, hb⟩
   . exact .inl (Same.tupq' g h)
   . exact .inr ⟨(k a hb (by rw [h]; simp)).trans h, hb⟩
 . obtain ⟨e1, y⟩ := y
   have := y vs (sq g h)
   rw [e] at this
   exact ⟨e1, (Option.some.inj this).symm⟩
section
variable {X : Cx} {tg a b l : Expr} {ca cb : M Op} {pos p : Pos}
theorem Zme {c : M Op} {δ δ' : List D} {h : List W × List (Nat × D)} (e : ((c.bnd fun p => (M.ret ([] : List Op)).bnd fun ps => M.ret (p :: ps)).bnd Zac) δ = .ok (h, δ')) : ∃ p δ1 w, c δ = .ok (p, δ1) /\ Zb3 p δ1 = .ok (w, δ') /\ h = ([w.1], w.2.toList) := by
 obtain ⟨ps, δ1, e1, e2⟩ := Zd e
 obtain ⟨p, δ2, e3, e4⟩ := Zd e1
 obtain ⟨z, δ3, e5, e6⟩ := Zd e4
 have := Zi e5
 cases this
 have := Zi e6
 cases this
 obtain ⟨w, δ4, e7, e8⟩ := Zd e2
 obtain ⟨z, δ5, e9, e10⟩ := Zd e8
 have := Zi e9
 cases this
 have := Zi e10
 cases this
 exact ⟨p, δ1, w, e3, e7, by simp⟩
theorem ZgQ {K : Fg} {H Hs : Hp} : ∀ (l : List Int), RepL K H Hs (l.map V.int) (l.map fun i => D.sc (.int i)) (fun _ => 0)
 | [] => .nil _
 | i :: l => .cons (m1 := fun _ => 0) (m2 := fun _ => 0) (.sc _ _) (ZgQ l) fun b => by simp
theorem Zlw {K : Fg} {H Hs : Hp} (lo hi : Int) : RepL K H Hs ((List.range (hi - lo).toNat).map fun (k : Nat) => V.int (lo + k)) (rng lo hi) (fun _ => 0) := by
 have z := ZgQ (K := K) (H := H) (Hs := Hs) ((List.range (hi - lo).toNat).map fun (k : Nat) => lo + k)
 rw [List.map_map, List.map_map] at z
 exact z
theorem ZpE (hg : Gl X "range") (hm : X.mg "range" = none) (ha : PE X a (tP X.K ca)) (hs : starEach [a] X.env = [(false, eval a X.env)] := by rfl) :
 PI X tg (.Call (.Name "range" p) [a] [] pos) (tI X.K .rng1 (ca.bnd fun p => (M.ret ([] : List Op)).bnd fun ps => M.ret (p :: ps))) := PI.imp (Zm4 hg hm (Zbg ha Zdt (by rw [hs]; rfl)) hs) fun σ H R h => by
 obtain ⟨δ, Hs, M, h, items, δ', g, s, e, ei, q⟩ := h
 obtain ⟨p, δ1, w, e1, e2, rfl⟩ := Zme e
 refine ⟨δ, Hs, M, p, δ1, g, s, e1, fun x H2 Hs2 m1 M2 g2 st2 r1 s2 => ?_⟩
 obtain ⟨Hs3, B, M3, g3, st3, s3, hh, hw⟩ := Ze5 g2 s2 r1 e2
 have z := Zx (m1 := fun _ => 0) g (g2.re fun b => by simp) (st2.drop (fun b => by simp) g2.le) g3 st3
 obtain ⟨w1, w2⟩ := w
 replace ei : ZlZ _ = _ := ei
 unfold ZlZ at ei
 split at ei
 rotate_left
 . cases ei
 rename_i n hx
 cases hx
 split at ei
 . rename_i hok
   cases ei
   obtain rfl := hw
   simp only [okR, Bool.and_eq_true, decide_eq_true_eq] at hok
   have hz : (n - 0).toNat = n.toNat := by omega
   refine ⟨n, rfl, hok.1, hok.2, ?_⟩
   have := Zlw (K := X.K) (H := H2) (Hs := Hs3) 0 n
   rw [hz] at this
   exact q _ _ H2 Hs3 B M3 g3 (z.2.1.drop (fun b => by simp) z.1.le) s3 hh (Ziv 0 n.toNat B).w ⟨trivial, this⟩
 . cases ei
theorem Zlx (hg : Gl X "range") (hm : X.mg "range" = none) (ha : PE X a (tP X.K ca)) (hb : PE X b (tP X.K cb)) (hs : starEach [a, b] X.env = [(false, eval a X.env), (false, eval b X.env)] := by rfl) (hs2 : starEach [b] X.env = [(false, eval b X.env)] := by rfl) :
 PI X tg (.Call (.Name "range" p) [a, b] [] pos) (tI X.K .rng2 (ca.bnd fun p => (cb.bnd fun p => (M.ret ([] : List Op)).bnd fun ps => M.ret (p :: ps)).bnd fun ps => M.ret (p :: ps))) := PI.imp (Zm5 hg hm (Zbg ha (Zbg hb Zdt (by rw [hs2]; rfl)) (by rw [hs, hs2])) hs hs2) fun σ H R h => by
 obtain ⟨δ, Hs, M, h, items, δ', g, s, e, ei, q⟩ := h
 obtain ⟨ps, δ1, e1, e2⟩ := Zd e
 obtain ⟨p1, δ2, e3, e4⟩ := Zd e1
 obtain ⟨qs, δ3, e5, e6⟩ := Zd e4
 obtain ⟨p2, δ4, e7, e8⟩ := Zd e5
 obtain ⟨z, δ5, e9, e10⟩ := Zd e8
 have := Zi e9
 cases this
 have := Zi e10
 cases this
 have := Zi e6
 cases this
 obtain ⟨w1, δ6, e11, e12⟩ := Zd e2
 obtain ⟨ws, δ7, e13, e14⟩ := Zd e12
 obtain ⟨w2, δ8, e15, e16⟩ := Zd e13
 obtain ⟨z, δ9, e17, e18⟩ := Zd e16
 have := Zi e17
 cases this
 have := Zi e18
 cases this
 have := Zi e14
 cases this
 obtain ⟨w1, h1⟩ := w1
 obtain ⟨w2, h2⟩ := w2
 replace ei : Zma _ = _ := ei
 unfold Zma at ei
 split at ei
 rotate_left
 . cases ei
 rename_i lo hi hx
 cases hx
 split at ei
 . rename_i hok
   cases ei
   simp only [okR, Bool.and_eq_true, decide_eq_true_eq] at hok
   refine ⟨δ, Hs, M, p1, δ2, g, s, e3, fun x H1 Hs1 m1 M1 g1 st1 r1 s1 => ⟨δ2, Hs1, M1, p2, _, g1.re, s1, e7, fun y H2 Hs2 m2 M2 g2 st2 r2 s2 => ?_⟩⟩
   obtain ⟨G2, S2, k2⟩ := Zx g g1 st1 g2 st2
   have r1' := RepP.frame st2.grow k2 r1
   have r2b : RepP X.K H2 Hs2 σ x p1 (fun b => m1 b + m2 b) := by
    cases p1 with
    | late i => exact r1'
    | tmp d => exact Rep.mono r1' fun b => by omega
   obtain ⟨Hs3, B3, M3, g3, st3, s3, hh3, hw3⟩ := Ze5 (m := fun b => m1 b + m2 b) (G2.re fun b => by (try dsimp only); omega) s2 r2b e11
   obtain rfl := hw3
   have r2' : RepP X.K H2 Hs3 σ y p2 (fun _ => 0) := by
    cases p2 with
    | late i => exact r2
    | tmp d =>
     cases d with
     | sc u => cases r2; exact .sc _ _
     | hole => cases e15
     | node k o ds => cases e15
   have nh1 : h1 = none := by
    cases p1 with
    | tmp d => cases d with
     | sc u => cases e11; rfl
     | hole => cases e11
     | node k o ds => cases e11
    | late i =>
     unfold Zb3 at e11
     dsimp only at e11
     split at e11 <;> cases e11
     rfl
   have nh2 : h2 = none := by
    cases p2 with
    | tmp d => cases d with
     | sc u => cases e15; rfl
     | hole => cases e15
     | node k o ds => cases e15
    | late i =>
     unfold Zb3 at e15
     dsimp only at e15
     split at e15 <;> cases e15
     rfl
   subst nh1 nh2
   obtain ⟨Hs4, B4, M4, g4, st4, s4, hh4, hw4⟩ := Ze5 (m := fun _ => 0) (g3.re fun b => by simp) s3 r2' e15
   obtain rfl := hw4
   have S2' : Stp H Hs M H2 Hs2 (fun b => m1 b + m2 b + M2 b) := S2.drop (fun b => by omega) G2.le
   have G2' : Good H2 Hs2 (fun b => m1 b + m2 b + M2 b) := G2.re fun b => by omega
   have z3 := Zx (m1 := fun _ => 0) g (G2'.re fun b => by simp) (S2'.drop (fun b => by simp) G2'.le) g3 st3
   have S3 : Stp H Hs M H2 Hs3 (fun b => B3 b + M3 b) := z3.2.1.drop (fun b => by simp) z3.1.le
   have st4' : Stp H2 Hs3 (fun b => B3 b + M3 b) H2 Hs4 (fun b => B4 b + M4 b) := ⟨fun b o h _ => h, fun b h => by
    rcases st4.own b h with z | z
    . have z : 0 + M3 b = 1 := z
      have : B3 b + M3 b <= 1 := g3.le b
      left; show B3 b + M3 b = 1; omega
    . exact .inr z, st4.grow, fun b h h' => by
    rcases st4.shr b h h' with z | z
    . have z : 0 + M3 b = 1 := z
      have : B3 b + M3 b <= 1 := g3.le b
      left; show B3 b + M3 b = 1; omega
    . exact .inr z, fun b h => h⟩
   have z4 := Zx (m1 := fun _ => 0) g (g3.re fun b => by simp) (S3.drop (fun b => by simp) g3.le) g4 st4'
   exact ⟨lo, hi, rfl, ⟨hok.1.1, hok.1.2, hok.2.1, hok.2.2⟩, q _ _ H2 Hs4 B4 M4 g4 (z4.2.1.drop (fun b => by simp) z4.1.le) s4 trivial (Ziv lo _ B4).w ⟨trivial, Zlw lo hi⟩⟩
 . cases ei
theorem Ziw {K : Fg} {H Hs : Hp} : ∀ (l : List Nat), RepL K H Hs (l.map fun c => V.str ⟨#[c]⟩) (l.map fun c => D.sc (.str ⟨#[c]⟩)) (fun _ => 0)
 | [] => .nil _
 | i :: l => .cons (m1 := fun _ => 0) (m2 := fun _ => 0) (.sc _ _) (Ziw l) fun b => by simp
theorem Zoh (x : Str) (B : Bud) : WalkV (Its x) (x.cps.toList.map fun c => V.str ⟨#[c]⟩) B (fun _ _ => True) where
 stay := fun _ _ _ => trivial
 go := fun {H Hs i v} _ _ h => by
  have := (List.getElem?_eq_some_iff.mp h).1
  have : i < x.cps.size := by simpa using this
  exact this
 yld := fun {H Hs H' i y v} _ _ h z => by
  obtain ⟨e, c, h1, h2⟩ := z
  refine ⟨e, ?_⟩
  rw [List.getElem?_map, Array.getElem?_toList, h1] at h
  simp only [Option.map_some, Option.some.injEq] at h
  exact h2.trans h
 stop := fun {H Hs i} _ _ h => by
  have h : x.cps.size <= i := by simpa using h
  exact h
theorem ZbO (hl : PE X l (tP X.K ca)) : PI X tg l (tI X.K .val (ca.bnd fun p => (M.ret ([] : List Op)).bnd fun ps => M.ret (p :: ps))) := by
 intro pins st0 σ H R I hh0
 obtain ⟨δ, Hs, M, h, items, δ', g, s, e, ei, q⟩ := hh0
 obtain ⟨p, δ1, w, e1, e2, rfl⟩ := Zme e
 obtain ⟨w1, w2⟩ := w
 have core : ∀ (x : V) (H2 Hs2 : Hp) (m1 M2 : Bud), Good H2 Hs2 (fun b => m1 b + M2 b) -> Stp H Hs M H2 Hs2 (fun b => m1 b + M2 b) -> RepP X.K H2 Hs2 σ x p m1 -> RepS X.K H2 Hs2 σ δ1 M2 ->
  ∃ Hs3 B M3, Good H2 Hs3 (fun b => B b + M3 b) /\ Stp H Hs M H2 Hs3 (fun b => B b + M3 b) /\ RepS X.K H2 Hs3 σ δ' M3 /\ Held X.K H2 Hs3 σ w2.toList B /\ HW X.K H2 Hs3 B x w1 := fun x H2 Hs2 m1 M2 g2 st2 r1 s2 => by
  obtain ⟨Hs3, B, M3, g3, st3, s3, hh, hw⟩ := Ze5 g2 s2 r1 e2
  have z := Zx (m1 := fun _ => 0) g (g2.re fun b => by simp) (st2.drop (fun b => by simp) g2.le) g3 st3
  exact ⟨Hs3, B, M3, g3, z.2.1.drop (fun b => by simp) z.1.le, s3, hh, hw⟩
 cases w1 with
 | sc u =>
  cases u with
  | str z =>
   cases ei
   refine Zre hl pins st0 σ H R I ⟨δ, Hs, M, p, δ1, g, s, e1, fun x H2 Hs2 m1 M2 g2 st2 r1 s2 => ?_⟩
   obtain ⟨Hs3, B, M3, g3, st3, s3, hh, hw⟩ := core x H2 Hs2 m1 M2 g2 st2 r1 s2
   exact ⟨z, hw, q _ _ H2 Hs3 B M3 g3 st3 s3 hh (Zoh z B).w ⟨trivial, Ziw _⟩⟩
  | _ => cases ei
 | nd k ds =>
  cases k with
  | lst =>
   cases ei
   refine Zlj hl pins st0 σ H R I ⟨δ, Hs, M, p, δ1, g, s, e1, fun x H2 Hs2 m1 M2 g2 st2 r1 s2 => ?_⟩
   obtain ⟨Hs3, B, M3, g3, st3, s3, hh, a, vs, hx, hr, hn⟩ := core x H2 Hs2 m1 M2 g2 st2 r1 s2
   have hp : SqL X.K Hs3 a vs \/ (H2 a = some (.lst vs) /\ B a ≥ 1) := hn.elim (fun n => .inl (.inl (.inl n))) fun n => .inr n
   refine ⟨a, hx, ⟨vs, ?_⟩, q _ _ H2 Hs3 B M3 g3 st3 s3 hh Zj1.w ⟨hp, hr⟩⟩
   rcases hp with hp | hp
   . exact g3.sub.seq hp
   . exact .inl (.inl hp.1)
  | frl =>
   cases ei
   refine Zlj hl pins st0 σ H R I ⟨δ, Hs, M, p, δ1, g, s, e1, fun x H2 Hs2 m1 M2 g2 st2 r1 s2 => ?_⟩
   obtain ⟨Hs3, B, M3, g3, st3, s3, hh, a, vs, hx, hr, hn⟩ := core x H2 Hs2 m1 M2 g2 st2 r1 s2
   have hp : SqL X.K Hs3 a vs \/ (H2 a = some (.lst vs) /\ B a ≥ 1) := hn.elim (fun n => .inl n) fun n => n.1.elim
   refine ⟨a, hx, ⟨vs, ?_⟩, q _ _ H2 Hs3 B M3 g3 st3 s3 hh Zj1.w ⟨hp, hr⟩⟩
   rcases hp with hp | hp
   . exact g3.sub.seq hp
   . exact .inl (.inl hp.1)
  | tup =>
   cases ei
   refine Zm3 hl pins st0 σ H R I ⟨δ, Hs, M, p, δ1, g, s, e1, fun x H2 Hs2 m1 M2 g2 st2 r1 s2 => ?_⟩
   obtain ⟨Hs3, B, M3, g3, st3, s3, hh, a, vs, hx, hr, hn⟩ := core x H2 Hs2 m1 M2 g2 st2 r1 s2
   have hp : SqT X.K Hs3 a vs \/ (H2 a = some (.tup vs) /\ B a ≥ 1) := hn.elim (fun n => .inl (.inl (.inl n))) fun n => .inr n
   refine ⟨a, hx, ⟨vs, ?_⟩, q _ _ H2 Hs3 B M3 g3 st3 s3 hh Zkp.w ⟨hp, hr⟩⟩
   rcases hp with hp | hp
   . exact Same.tupq' g3.sub hp
   . exact .inl (.inl hp.1)
  | ftp =>
   cases ei
   refine Zm3 hl pins st0 σ H R I ⟨δ, Hs, M, p, δ1, g, s, e1, fun x H2 Hs2 m1 M2 g2 st2 r1 s2 => ?_⟩
   obtain ⟨Hs3, B, M3, g3, st3, s3, hh, a, vs, hx, hr, hn⟩ := core x H2 Hs2 m1 M2 g2 st2 r1 s2
   have hp : SqT X.K Hs3 a vs \/ (H2 a = some (.tup vs) /\ B a ≥ 1) := hn.elim (fun n => .inl n) fun n => n.1.elim
   refine ⟨a, hx, ⟨vs, ?_⟩, q _ _ H2 Hs3 B M3 g3 st3 s3 hh Zkp.w ⟨hp, hr⟩⟩
   rcases hp with hp | hp
   . exact Same.tupq' g3.sub hp
   . exact .inl (.inl hp.1)
  | dic ks => cases ei
  | ins C fs => cases ei
end
end T
namespace T
open PySem PySem.Spec L2
noncomputable def gT (K : Fg) : Tg -> TG
 | .name i => ZfE i
 | .tup is => gSeq K is.length (gNs is)
theorem Zly {K : Fg} {H Hs : Hp} {lk : Nat -> Bool} {tg : Tg} {d : D} {v : V} {σ : St} {δ δ' : List D} {M : Bud} {u : Unit} {Q : St -> Hp -> Prop} (hs : Same Hs H) (e : asgT lk tg d δ = .ok (u, δ')) (r : Rep K H Hs v d (fun _ => 0)) (s : RepS K H Hs σ δ M)
 (q : ∀ σ', Keeps lk σ σ' -> RepS K H Hs σ' δ' M -> Q σ' H) : gT K tg v σ H Q := by
 cases tg with
 | name i =>
  obtain ⟨h1, h2, rfl⟩ := Zhv e
  exact q _ (ZfG h2) ((Zfu s h1 r).mono fun b => by simp)
 | tup is =>
  cases d with
  | sc v => cases e
  | hole => cases e
  | node k o ds =>
   cases k with
   | tup =>
    have e : Zd7 lk is ds δ = .ok (u, δ') := e
    cases r with
    | own n r l =>
     rename_i a _ _
     have := l a
     simp [one] at this
    | shd n r =>
     obtain ⟨hl, hq⟩ := Zhw (Q := Q) e r s fun σ' k z => q σ' k (z.mono fun b => by simp)
     exact ⟨_, _, rfl, .inl (.inl (.inl (hs _ _ n))), hl, hq⟩
   | _ => cases e
theorem ZpF {a : E} {c : M D} (h : ∀ j, a ≠ .v j) : Zo a c = c.bnd fun d => M.ret (.tmp d) := by
 cases a <;> first | rfl | exact absurd rfl (h _)
theorem ZfN : ∀ {ps : List Op} {δ δ' : List D} {h : List W × List (Nat × D)}, Zac ps δ = .ok (h, δ') -> ∀ q ∈ h.2, .late q.1 ∈ ps
 | [], δ, δ', h, e, q, hq => by
  have := Zi (show T.M.ret (([] : List W), ([] : List (Nat × D))) δ = .ok (h, δ') from e)
  cases this
  simp at hq
 | p :: ps, δ, δ', h, e, q, hq => by
  obtain ⟨w, δ1, e1, e2⟩ := Zd e
  obtain ⟨ws, δ2, e3, e4⟩ := Zd e2
  have := Zi e4
  cases this
  rcases List.mem_append.mp hq with h | h
  . have : p = .late q.1 := by
     cases p with
     | tmp d => cases d <;> cases e1 <;> simp at h
     | late i =>
      unfold Zb3 at e1
      dsimp only at e1
      split at e1 <;> cases e1 <;> simp at h
      subst h
      rfl
    rw [this]
    exact List.mem_cons_self
  . exact List.mem_cons_of_mem _ (ZfN e3 q h)
def HWs (cs : M (List Op)) (lk : Nat -> Bool) : Prop := ∀ δ h δ', (cs.bnd Zac) δ = .ok (h, δ') -> ∀ q ∈ h.2, lk q.1 = true
def LkLe (lk lk' : Nat -> Bool) : Prop := ∀ i, lk i = true -> lk' i = true
theorem Zd9 (lk f : Nat -> Bool) : LkLe lk (fun j => lk j || f j) := fun i h => by
 show (lk i || f i) = true
 rw [h]
 rfl
section
variable {X : Cx} {tg iter : Expr} {body : List Stmt} {pos : Pos} {lk lk' : Nat -> Bool} {ik : IK} {cs : M (List Op)} {tgt : Tg} {cb : M Fl}
theorem Zcq (hp : PassesOwn (model X.prog X.w) X.A X.env X.xe) (hc : X.calm = true) (hl : LkLe lk lk') (hw : HWs cs lk')
 (hi : PI X tg iter (tI X.K ik cs)) (hg : PG X tg (gT X.K tgt)) (hb : PSs X body (tS X.K lk' cb)) (hs : ∀ x, foldedSetIterable iter X.env x = pure x := by intro _; rfl) :
 PS X (.For tg iter body [] pos) (tS X.K lk (cs.bnd fun ps => (Zac ps).bnd fun h => (lift (itW ik h.1)).bnd fun items => (forL (asgT lk' tgt) cb items).bnd fun f => (Zcd h.2).bnd fun _ => M.ret f)) :=
 PS.imp (ZqJ hp hc hi hg hb hs) fun E σ H h => by
 obtain ⟨δ, Hs, M, f, δ', g, s, ea, q⟩ := h
 obtain ⟨ps, δ1, e1, eb⟩ := Zd ea
 obtain ⟨hh, δ2, e2, ec⟩ := Zd eb
 obtain ⟨items, δ3, e3, ed⟩ := Zd ec
 obtain ⟨e3', rfl⟩ := Za0 e3
 obtain ⟨f1, δ4, e4, ee⟩ := Zd ed
 obtain ⟨u, δ5, e5, e6⟩ := Zd ee
 have := Zi e6
 cases this
 have e12 : (cs.bnd Zac) δ = .ok (hh, δ3) := by
  show T.M.bnd cs Zac δ = _
  unfold T.M.bnd
  rw [e1]
  exact e2
 have locked := hw _ _ _ e12
 refine ⟨δ, Hs, M, hh, items, δ3, g, s, e12, e3', fun J Pp H1 Hs1 B M1 g1 st1 s1 held wk pp => ?_⟩
 have kl : ∀ {σ1 σ2 : St}, Keeps lk' σ1 σ2 -> Keeps lk σ1 σ2 := fun k i h => k i (hl i h)
 refine ⟨fun i m σ2 H2 => m = items.length - i /\ i <= items.length /\ Keeps lk' σ σ2 /\ ∃ (δ2 : List D) (Hs2 : Hp) (M2 : Bud), Good H2 Hs2 (fun b => B b + M2 b) /\ Stp H Hs M H2 Hs2 (fun b => B b + M2 b) /\ RepS X.K H2 Hs2 σ2 δ2 M2 /\ Held X.K H2 Hs2 σ2 hh.2 B /\ Pp H2 Hs2 /\ forL (asgT lk' tgt) cb (items.drop i) δ2 = .ok (f, δ4),
  ⟨items.length, by simp, Nat.zero_le _, Keeps.refl _ _, δ3, Hs1, M1, g1, st1, s1, held, pp, by rw [List.drop_zero]; exact e4⟩, ?_⟩
 rintro i m σ2 H2 ⟨rfl, hle, k2, δ2, Hs2, M2, g2, st2, s2, held2, pp2, e7⟩
 have fin_nx : ∀ {σ3 : St} {H3 Hs3 : Hp} {M3 : Bud}, f = .nx -> Keeps lk' σ σ3 -> Good H3 Hs3 (fun b => B b + M3 b) -> Stp H Hs M H3 Hs3 (fun b => B b + M3 b) -> RepS X.K H3 Hs3 σ3 δ4 M3 -> Held X.K H3 Hs3 σ3 hh.2 B -> E.nx σ3 H3 := fun {σ3 H3 Hs3 M3} ef k3 g3 st3 s3 held3 => by
  subst ef
  exact q σ3 H3 Hs3 _ (kl k3) g3 st3 (Zgt e5 held3 s3)
 by_cases hlt : i < items.length
 . right
   have hd : items[i]? = some (items[i]'(by omega)) := List.getElem?_eq_getElem (by omega)
   have hdrop : items.drop i = items[i]'(by omega) :: items.drop (i + 1) := List.drop_eq_getElem_cons (by omega)
   rw [hdrop] at e7
   obtain ⟨u1, δ5', e8, e9⟩ := Zd e7
   obtain ⟨fl, δ6, e10, e11⟩ := Zd e9
   refine ⟨wk.go g2.sub pp2 hlt, fun σ3 H3 => Keeps lk' σ σ3 /\ ∃ (δ2 : List D) (Hs2 : Hp) (M2 : Bud), Good H3 Hs2 (fun b => B b + M2 b) /\ Stp H Hs M H3 Hs2 (fun b => B b + M2 b) /\ RepS X.K H3 Hs2 σ3 δ2 M2 /\ Held X.K H3 Hs2 σ3 hh.2 B /\ Pp H3 Hs2 /\ forL (asgT lk' tgt) cb (items.drop (i + 1)) δ2 = .ok (f, δ4),
    fun σ3 H3 ⟨k3, z⟩ => ⟨items.length - (i + 1), by omega, rfl, hlt, k3, z⟩, fun x H' y => ?_⟩
   obtain ⟨Hs3, gr, rv⟩ := wk.yld g2.sub pp2 hd y
   obtain ⟨sm, fr, _⟩ := gr.same g2.sub
   have pp2 := wk.stay pp2 sm fun b _ n => fr b n
   have s2 := RepS.frame sm (fun b _ n => fr b n) s2
   have held2 := held2.frame sm fun b _ n => fr b n
   have st2 := gr.stp g2 st2
   have g2 := gr.good g2
   clear gr sm fr y
   generalize Hs3 = Hs2 at *
   refine Zly (Hs := Hs2) g2.sub e8 rv s2 fun σ3 k3 s3 => ?_
   refine ⟨δ5', Hs2, M2, fl, δ6, g2.re, s3, e10, ?_⟩
   have held3 : Held X.K H' Hs2 σ3 hh.2 B := held2.keeps k3 locked
   have nxt : ∀ {σ4 : St} {H4 Hs4 : Hp} {M4 : Bud}, Keeps lk' σ3 σ4 -> Good H4 Hs4 M4 -> Stp H' Hs2 M2 H4 Hs4 M4 ->
    Keeps lk' σ σ4 /\ Good H4 Hs4 (fun b => B b + M4 b) /\ Stp H Hs M H4 Hs4 (fun b => B b + M4 b) /\ Held X.K H4 Hs4 σ4 hh.2 B /\ Pp H4 Hs4 := fun {σ4 H4 Hs4 M4} k4 g4 st4 => by
    obtain ⟨G, S, kk⟩ := Zx g g2 st2 g4 st4
    exact ⟨k2.trans (k3.trans k4), G, S, (held3.keeps k4 locked).frame st4.grow kk, wk.stay pp2 st4.grow kk⟩
   cases fl with
   | nx =>
    refine fun σ4 H4 Hs4 M4 k4 g4 st4 s4 => ?_
    obtain ⟨a1, a2, a3, a4, a6⟩ := nxt k4 g4 st4
    exact ⟨a1, δ6, Hs4, M4, a2, a3, s4, a4, a6, e11⟩
   | ct =>
    refine fun σ4 H4 Hs4 M4 k4 g4 st4 s4 => ?_
    obtain ⟨a1, a2, a3, a4, a6⟩ := nxt k4 g4 st4
    exact ⟨a1, δ6, Hs4, M4, a2, a3, s4, a4, a6, e11⟩
   | bk =>
    refine fun σ4 H4 Hs4 M4 k4 g4 st4 s4 => ?_
    obtain ⟨a1, a2, a3, a4, a6⟩ := nxt k4 g4 st4
    have := Zi e11
    cases this
    exact fin_nx rfl a1 a2 a3 s4 a4
   | rt d =>
    refine fun v σ4 H4 Hs4 m4 M4 k4 g4 st4 rd s4 => ?_
    obtain ⟨a1, a2, a3, a4, a6⟩ := nxt k4 g4 st4
    have := Zi e11
    cases this
    exact q v σ4 H4 Hs4 m4 (fun b => B b + M4 b) (kl a1) (a2.re fun b => by (try dsimp only); omega) (a3.drop (fun b => by (try dsimp only); omega) a2.le) rd (Zgt e5 a4 s4)
 . left
   have e0 : items.drop i = [] := List.drop_of_length_le (by omega)
   rw [e0] at e7
   have := Zi e7
   cases this
   exact ⟨wk.stop g2.sub pp2 (by omega), fin_nx rfl k2 g2 st2 s2 held2⟩
end
theorem RepS.toL {K : Fg} {H Hs : Hp} : ∀ {vs : List V} {ds : List D} {m : Bud}, RepS K H Hs (vs.map some) ds m -> RepL K H Hs vs ds m
 | [], _, _, h => by cases h; exact .nil _
 | v :: vs, _, _, h => by
  cases h with
  | cons x y l =>
   refine .cons ?_ (RepS.toL y) l
   rcases x with rfl | ⟨w, e, r⟩
   . exact .hole _ _
   . cases e
     exact r
end T
namespace T
open PySem PySem.Spec L2
section
variable {P : Program} {w : World} {K : Fg} {mg : Str -> Option Value} {base : Heap}
theorem Zmf {N : List Str} {vs : List V} {σ' : St} {n : Nat} (hn : vs.length = n) (k : Keeps (fun i => decide (i < n)) (L2.start N vs) σ') : σ'.take n = vs.map some := by
 apply List.ext_getElem?
 intro i
 by_cases hi : i < n
 . rw [List.getElem?_take_of_lt hi, k i (by simpa using hi)]
   unfold L2.start
   rw [List.getElem?_append_left (by rw [List.length_map]; omega)]
 . rw [List.getElem?_eq_none (by rw [List.length_take]; omega), List.getElem?_eq_none (by rw [List.length_map]; omega)]
theorem Znf {N : List Str} {vs : List V} {ds : List D} {H Hs : Hp} {m : Bud} (r : RepL K H Hs vs ds m) : RepS K H Hs (L2.start N vs) (ds ++ List.replicate (N.length - ds.length) .hole) m := by
 unfold L2.start
 rw [r.len]
 have z := Sep.append (RepL.slots r) (holes (K := K) (H := H) (Hs := Hs) (fun _ => none) (N.length - ds.length) (fun _ => 0) (List.replicate (N.length - ds.length) none) (by simp))
 exact z.mono fun b => by simp
theorem Zrw {x qual : Str} {st : Stmt} {f : Addr} {fd : FuncData} {N ps : List Str} {k : Nat} {C : Ctx} {body : List S} (F : Fun K x qual st f fd) (Sc : FnScope N ps (Za st))
 (hb : ∀ (cdv : Value) (A : Around) (outer : List Env) (s : Shared) (H : Hp) (E : XK), Room k (A.deeper (PyProof.Rows.envOfC qual (Za st) s.heap.objs.size f cdv)) ->
  PSs (cxOf CX0 P w K mg base N qual (Za st) f cdv A outer s H E).nox (Zt st) (tS K (fun i => decide (i < ps.length)) (exs { C with lock := fun i => decide (i < ps.length) } body))) :
 FnOk P w K mg base CX0 (k + 1) f fd ps (spF K (Zh C ps.length N.length body)) := by
 refine F.ok Sc (fun vs H Q E h => ?_) (fun cdv A outer s H vs Q E hr h => ⟨_, hb cdv A outer s H E hr, ?_⟩)
 . obtain ⟨ds, Hs, m, d, ds', g, r, e, q⟩ := h
   unfold Zh at e
   split at e
   . rename_i hl
     rw [r.len]
     exact hl
   . cases e
 . obtain ⟨ds, Hs, m, d, ds', g, r, e, q⟩ := h
   unfold Zh at e
   split at e
   . rename_i hl
     have hv : vs.length = ps.length := by rw [r.len]; exact hl
     have hr0 := Znf (N := N) r
     rw [hl] at hr0
     cases he : exs { C with lock := fun i => decide (i < ps.length) } body (ds ++ List.replicate (N.length - ps.length) .hole) with
     | ok z =>
      obtain ⟨fl, δ'⟩ := z
      rw [he] at e
      refine ⟨_, Hs, m, fl, δ', g, hr0, he, ?_⟩
      have back : ∀ {σ' : St} {H' Hs' : Hp} {M' : Bud}, Keeps (fun i => decide (i < ps.length)) (L2.start N vs) σ' -> RepS K H' Hs' σ' δ' M' -> RepL K H' Hs' vs (δ'.take ps.length) M' := fun k' s' => by
       have z := s'.take ps.length
       rw [Zmf hv k'] at z
       exact RepS.toL z
      cases fl with
      | nx =>
       cases e
       exact fun σ' H' Hs' M' k' g' st' s' => q .non H' Hs' (fun _ => 0) M' (ZbJ g') (st'.drop (fun b => by simp) g'.le) (.sc _ _) (back k' s')
      | rt dd =>
       cases e
       exact fun v σ' H' Hs' m1 M' k' g' st' rv s' => q v H' Hs' m1 M' g' st' rv (back k' s')
      | bk => cases e
      | ct => cases e
     | exc x y => rw [he] at e; cases e
     | stuck => rw [he] at e; cases e
   . cases e
theorem Z5 {x qual : Str} {st : Stmt} {f : Addr} {fd : FuncData} {N ps : List Str} {k n nN : Nat} {C : Ctx} {body : List S} (F : Fun K x qual st f fd) (Sc : FnScope N ps (Za st)) (hn : ps.length = n) (hN : N.length = nN)
 (hb : ∀ (cdv : Value) (A : Around) (outer : List Env) (s : Shared) (H : Hp) (E : XK), Room k (A.deeper (PyProof.Rows.envOfC qual (Za st) s.heap.objs.size f cdv)) ->
  PSs (cxOf CX0 P w K mg base N qual (Za st) f cdv A outer s H E).nox (Zt st) (tS K (fun i => decide (i < n)) (exs { C with lock := fun i => decide (i < n) } body))) :
 FnOk P w K mg base CX0 (k + 1) f fd ps (spF K (Zh C n nN body)) := by
 subst hn hN
 exact Zrw F Sc hb
end
end T
namespace T
open PySem PySem.Spec L2
theorem Zix {K : Fg} {H Hs : Hp} {σ : St} : ∀ {js : List Nat} {δ δ' : List D} {caps : List D} {M : Bud}, ZfV js δ = .ok (caps, δ') -> RepS K H Hs σ δ M -> ∃ mc M', RepS K H Hs (ZdZ js σ) caps mc /\ RepS K H Hs σ δ' M' /\ (∀ b, mc b + M' b <= M b) /\ ∀ j ∈ js, j < σ.length
 | [], δ, δ', caps, M, e, s => by
  have := Zi e
  cases this
  exact ⟨fun _ => 0, M, .nil _, s, fun b => by simp, fun j hj => by simp at hj⟩
 | j :: js, δ, δ', caps, M, e, s => by
  unfold ZfV at e
  split at e
  . rename_i d hd
    obtain ⟨ds, δ1, e1, e2⟩ := Zd e
    have := Zi e2
    cases this
    obtain ⟨o, m1, m2, q1, q2, l, f⟩ := s.focus hd
    have z := f (RepO K H Hs) o .hole (fun _ => 0) (fun a d m' _ q => q) (.inl rfl)
    rw [Zak q1] at z
    obtain ⟨mc, M', h1, h2, h3, h4⟩ := Zix e1 z
    refine ⟨fun b => m1 b + mc b, M', ?_, h2, fun b => by have := l b; have := h3 b; dsimp only at *; omega, fun i hi => ?_⟩
    . rw [ZhL]
      have ho : (σ[j]?).join = o := by rw [q1]; rfl
      rw [ho]
      exact .cons q2 h1 fun b => Nat.le_refl _
    . rcases List.mem_cons.mp hi with rfl | hi
      . exact (List.getElem?_eq_some_iff.mp q1).1
      . exact h4 i hi
  . cases e
theorem Zdw (caps : List D) : ZdL [] caps = M.ret () := by cases caps <;> rfl
theorem Zkq (j : Nat) (js : List Nat) (d : D) (ds δ : List D) : ZdL (j :: js) (d :: ds) δ = ZdL js ds (δ.set j d) := rfl
theorem Zmg {K : Fg} {H Hs : Hp} {σ : St} (js : List Nat) : ∀ (caps δ δ' : List D) (mc M : Bud) (u : Unit), (∀ j ∈ js, j < σ.length) -> ZdL js caps δ = .ok (u, δ') -> RepS K H Hs (ZdZ js σ) caps mc -> RepS K H Hs σ δ M -> RepS K H Hs σ δ' (fun b => mc b + M b) := by
 induction js with
 | nil =>
  intro caps δ δ' mc M u hj e c s
  rw [Zdw] at e
  have := Zi e
  cases this
  exact s.mono fun b => by omega
 | cons j js ih =>
  intro caps δ δ' mc M u hj e c s
  rw [ZhL] at c
  cases c with
  | @cons _ d _ ds m1 m2 _ x y l =>
   rw [Zkq] at e
   have hlt := hj j List.mem_cons_self
   have hlt2 : j < δ.length := by rw [<- s.length]; exact hlt
   obtain ⟨o, n1, n2, q1, q2, l2, f⟩ := s.focus (List.getElem?_eq_getElem hlt2)
   have ho : (σ[j]?).join = o := by rw [q1]; rfl
   rw [ho] at x
   have z := f (RepO K H Hs) o d m1 (fun a d m' _ q => q) x
   rw [Zak q1] at z
   have fin := ih ds (δ.set j d) δ' m2 _ u (fun i hi => hj i (List.mem_cons_of_mem _ hi)) e y z
   exact fin.mono fun b => by have := l b; have := l2 b; (try dsimp only); omega
theorem Zoi {H Hs H0 Hs0 : Hp} {M0 N : Bud} {A : Addr} {o : HO} (hA0 : H0 A = none) (hA : Hs A = none) (g : Good H Hs (fun b => one A b + N b)) (st : Stp H0 Hs0 M0 H Hs (fun b => one A b + N b)) : Good (upd H A o) Hs (fun b => one A b + N b) /\ Stp H0 Hs0 M0 (upd H A o) Hs (fun b => one A b + N b) /\ ∀ b, N b ≥ 1 -> upd H A o b = H b := by
 have hn : N A = 0 := by have : one A A + N A <= 1 := g.le A; simp [one] at this; omega
 have ne : ∀ b, b ≠ A -> upd H A o b = H b := fun b hb => Zv hb
 refine ⟨⟨fun b u e => ?_, g.le, g.ne, fun b h => ?_⟩, ⟨fun b u e z => ?_, st.own, st.grow, st.shr, fun b h => ?_⟩, fun b hb => ne b fun q => by subst q; omega⟩
 . have hb : b ≠ A := fun q => by subst q; rw [hA] at e; cases e
   rw [ne b hb]
   exact g.sub b u e
 . by_cases hb : b = A
   . subst hb; rw [Zr]; simp
   . rw [ne b hb]; exact g.has b h
 . have hb : b ≠ A := fun q => by subst q; rw [hA0] at e; cases e
   rw [ne b hb]
   exact st.keep b u e z
 . by_cases hb : b = A
   . subst hb; rw [Zr]; simp
   . rw [ne b hb]; exact st.stay b h
theorem Zlz {K : Fg} {k : Nat} {js : List Nat} {ik : IK} {cs : M (List Op)} {tgt : Tg} {cc : M Bool} {celt : M D} {σ : St} {H : Hp} {Q : VK}
 (h : tM K (cs.bnd fun ps => (Zac ps).bnd fun h => (lift (itW ik h.1)).bnd fun items => (Zb4 k js (Za4 (asgT (fun i => decide (k <= i)) tgt) cc celt items [])).bnd fun d => (Zcd h.2).bnd fun _ => M.ret d) σ H Q) :
 ZjU k js (tI K ik cs) (gT K tgt) (tT K cc) (tM K celt) σ H Q := by
 obtain ⟨δ, Hs, M, d, δ', g, s, ea, q⟩ := h
 obtain ⟨ps, δ1, e1, eb⟩ := Zd ea
 obtain ⟨hh, δ2, e2, ec⟩ := Zd eb
 obtain ⟨items, δ3, e3, ed⟩ := Zd ec
 obtain ⟨e3', rfl⟩ := Za0 e3
 obtain ⟨dd, δ4, e4, ee⟩ := Zd ed
 obtain ⟨u, δ5, e5, e6⟩ := Zd ee
 have := Zi e6
 cases this
 have e12 : (cs.bnd Zac) δ = .ok (hh, δ3) := by
  show T.M.bnd cs Zac δ = _
  unfold T.M.bnd
  rw [e1]
  exact e2
 refine ⟨δ, Hs, M, hh, items, δ3, g, s, e12, e3', fun J Pp H1 Hs1 B M1 g1 st1 s1 held wk pp A hA => ?_⟩
 unfold Zb4 at e4
 obtain ⟨caps, δ6, e7, e8⟩ := Zd e4
 obtain ⟨mc, M2, c1, c2, c3, c4⟩ := Zix e7 s1
 have hA0 : H A = none := by
  cases q : H A with
  | none => rfl
  | some o => exact absurd hA (st1.stay A (by rw [q]; simp))
 cases hL : Za4 (asgT (fun i => decide (k <= i)) tgt) cc celt items [] (List.replicate k .hole ++ caps) with
 | exc x y => rw [hL] at e8; cases e8
 | stuck => rw [hL] at e8; cases e8
 | ok r =>
 obtain ⟨accF, δF⟩ := r
 rw [hL] at e8
 obtain ⟨u2, δ7, e9, e10⟩ := Zd e8
 obtain ⟨e11, rfl⟩ := Za0 e10
 have hs1A : Hs1 A = none := by
  cases q : Hs1 A with
  | none => rfl
  | some o => rw [g1.sub A o q] at hA; cases hA
 have zA : B A = 0 /\ M1 A = 0 := by
  have l : B A + M1 A <= 1 := g1.le A
  have : B A + M1 A ≠ 1 := fun e => g1.has A e hA
  omega
 have z2 : mc A = 0 /\ M2 A = 0 := by have := c3 A; omega
 have fr : ∀ b, b ≠ A -> upd H1 A (.lst []) b = H1 b := fun b hb => Zv hb
 have g2 : Good (upd H1 A (.lst [])) Hs1 (fun b => (one A b + (B b + M2 b)) + mc b) := by
  refine ⟨fun b o e => ?_, fun b => ?_, fun b hb => ?_, fun b hb => ?_⟩
  . have hb : b ≠ A := fun q => by subst q; rw [hs1A] at e; cases e
    rw [fr b hb]; exact g1.sub b o e
  . have l : B b + M1 b <= 1 := g1.le b
    have := c3 b
    unfold one
    (try dsimp only)
    split
    . rename_i e; subst e; omega
    . omega
  . by_cases e : b = A
    . subst e; exact hs1A
    . have hb : (one A b + (B b + M2 b)) + mc b = 1 := hb
      simp only [one, if_neg e] at hb
      have l : B b + M1 b <= 1 := g1.le b
      have := c3 b
      exact g1.ne b (by show B b + M1 b = 1; omega)
  . by_cases e : b = A
    . subst e; rw [Zr]; simp
    . rw [fr b e]
      have hb : (one A b + (B b + M2 b)) + mc b = 1 := hb
      simp only [one, if_neg e] at hb
      have l : B b + M1 b <= 1 := g1.le b
      have := c3 b
      exact g1.has b (by show B b + M1 b = 1; omega)
 have st2 : Stp H Hs M (upd H1 A (.lst [])) Hs1 (fun b => (one A b + (B b + M2 b)) + mc b) := by
  refine ⟨fun b o e z => ?_, fun b hb => ?_, st1.grow, st1.shr, fun b hb => ?_⟩
  . have hb : b ≠ A := fun q => by subst q; rw [hA0] at e; cases e
    rw [fr b hb]; exact st1.keep b o e z
  . by_cases e : b = A
    . subst e; exact .inr hA0
    . have hb : (one A b + (B b + M2 b)) + mc b = 1 := hb
      simp only [one, if_neg e] at hb
      have l : B b + M1 b <= 1 := g1.le b
      have := c3 b
      exact st1.own b (by show B b + M1 b = 1; omega)
  . by_cases e : b = A
    . subst e; rw [Zr]; simp
    . rw [fr b e]; exact st1.stay b hb
 have keepA : ∀ (N : Bud), N A = 0 -> ∀ b, N b ≥ 1 -> H1 b ≠ none -> upd H1 A (.lst []) b = H1 b := fun N hN b hb _ => fr b fun q => by subst q; omega
 refine ⟨fun i m σ2 ys H2 => m = items.length - i /\ i <= items.length /\ Keeps (fun i => decide (k <= i)) (Zdu k js σ) σ2 /\ ∃ (δ2 : List D) (Hs2 : Hp) (N ma : Bud) (acc : List D), Good H2 Hs2 (fun b => (one A b + (B b + M2 b + ma b)) + N b) /\ Stp H Hs M H2 Hs2 (fun b => (one A b + (B b + M2 b + ma b)) + N b) /\ RepS K H2 Hs2 σ2 δ2 N /\
  RepL K H2 Hs2 ys acc ma /\ RepS K H2 Hs2 σ δ6 M2 /\ Held K H2 Hs2 σ hh.2 B /\ Pp H2 Hs2 /\ Za4 (asgT (fun i => decide (k <= i)) tgt) cc celt (items.drop i) acc δ2 = .ok (accF, δF),
  ⟨items.length, by simp, Nat.zero_le _, Keeps.refl _ _, List.replicate k .hole ++ caps, Hs1, mc, fun _ => 0, [], g2.re fun b => by (try dsimp only); omega, st2.drop (fun b => by (try dsimp only); omega) g2.le, ?_, .nil _, c2.frame (Same.refl _) (keepA M2 z2.2), held.frame (Same.refl _) (keepA B zA.1), wk.stay pp (Same.refl _) (keepA B zA.1), by rw [List.drop_zero]; exact hL⟩, ?_⟩
 . have z := Sep.append (holes (K := K) (H := H1) (Hs := Hs1) (fun _ => none) k (fun _ => 0) (List.replicate k none) (by simp)) c1
   exact RepS.frame (Same.refl _) (keepA mc z2.1) (z.mono fun b => by simp)
 rintro i m σ2 ys H2 ⟨rfl, hle, k2, δ2, Hs2, N, ma, acc, g3, st3, s3, ra, so, held2, pp2, e13⟩ hD
 have hsA : Hs2 A = none := g3.ne A (by have := g3.le A; (try dsimp only at this ⊢); simp only [one, if_pos] at this ⊢; omega)
 by_cases hlt : i < items.length
 . right
   have hd : items[i]? = some (items[i]'(by omega)) := List.getElem?_eq_getElem (by omega)
   have hdrop : items.drop i = items[i]'(by omega) :: items.drop (i + 1) := List.drop_eq_getElem_cons (by omega)
   rw [hdrop] at e13
   obtain ⟨u3, δ8, e14, e15⟩ := Zd e13
   obtain ⟨t, δ9, e16, e17⟩ := Zd e15
   refine ⟨wk.go g3.sub pp2 hlt, fun x H' y => ?_⟩
   obtain ⟨Hs3, gr, rv⟩ := wk.yld g3.sub pp2 hd y
   obtain ⟨sm, fr, _⟩ := gr.same g3.sub
   have pp2 := wk.stay pp2 sm fun b _ n => fr b n
   have s3 := RepS.frame sm (fun b _ n => fr b n) s3
   have so := RepS.frame sm (fun b _ n => fr b n) so
   have ra := ra.frame sm fun b _ n => fr b n
   have held2 := held2.frame sm fun b _ n => fr b n
   have hD : H' A = some (.lst ys) := (fr A (by rw [hD]; simp)).trans hD
   have st3 := gr.stp g3 st3
   have g3 := gr.good g3
   clear gr sm fr y hsA
   generalize Hs3 = Hs2 at *
   generalize H' = H2 at *
   refine Zly (Hs := Hs2) g3.sub e14 rv s3 fun σ3 k3 s4 => ?_
   refine ⟨δ8, Hs2, N, t, δ9, g3.re fun b => by (try dsimp only); omega, s4, e16, fun H4 Hs4 M4 g4 st4 s5 => ?_⟩
   obtain ⟨G, S, kk⟩ := Zx (m1 := fun b => one A b + (B b + M2 b + ma b)) g g3 st3 g4 st4
   have kA : H4 A = some (.lst ys) := by rw [<- hD]; exact kk A (by simp [one]) (by rw [hD]; simp)
   have ra4 := ra.frame st4.grow fun b hb => kk b (by (try dsimp only); omega)
   have so4 := RepS.frame st4.grow (fun b hb => kk b (by (try dsimp only); omega)) so
   have held4 := held2.frame st4.grow fun b hb => kk b (by (try dsimp only); omega)
   have pp4 := wk.stay pp2 st4.grow fun b hb => kk b (by (try dsimp only); omega)
   have lmeas : items.length - (i + 1) < items.length - i := by omega
   cases t with
   | false =>
    dsimp only
    rw [if_neg Bool.false_ne_true]
    exact ⟨kA, _, lmeas, rfl, hlt, k2.trans k3, δ9, Hs4, M4, ma, acc, G, S, s5, ra4, so4, held4, pp4, e17⟩
   | true =>
    dsimp only
    rw [if_pos rfl]
    rw [if_pos rfl] at e17
    obtain ⟨xd, δ10, e18, e19⟩ := Zd e17
    refine ⟨δ9, Hs4, M4, xd, δ10, g4, s5, e18, fun yv H5 Hs5 m5 M5 g5 st5 r5 s6 => ?_⟩
    obtain ⟨G5, S5, kk5⟩ := Zx (m1 := fun b => one A b + (B b + M2 b + ma b)) g G S g5 st5
    have kA5 : H5 A = some (.lst ys) := by rw [<- kA]; exact kk5 A (by simp [one]) (by rw [kA]; simp)
    have hsz : ys.length < sizeLine := by
     have e20 : accF.length <= sizeLine := by
      unfold newL at e11
      split at e11
      . rename_i hz; exact hz
      . cases e11
     have grow : ∀ (its acc : List D) (δ : List D) (r : List D × List D), Za4 (asgT (fun i => decide (k <= i)) tgt) cc celt its acc δ = .ok r -> acc.length <= r.1.length := by
      intro its
      induction its with
      | nil => intro acc δ r e; have := Zi e; subst this; exact Nat.le_refl _
      | cons a its ih =>
       intro acc δ r e
       obtain ⟨_, _, _, f1⟩ := Zd e
       obtain ⟨tt, _, _, f2⟩ := Zd f1
       cases tt with
       | false => exact ih _ _ _ f2
       | true =>
        rw [if_pos rfl] at f2
        obtain ⟨_, _, _, f3⟩ := Zd f2
        have := ih _ _ _ f3
        rw [List.length_append, List.length_singleton] at this
        omega
     have := grow _ _ _ _ e19
     dsimp only at this
     rw [List.length_append, List.length_singleton] at this
     have := ra.len
     omega
    have hsA5 : Hs5 A = none := G5.ne A (by have := G5.le A; (try dsimp only at this ⊢); simp only [one, if_pos] at this ⊢; omega)
    have G5' : Good H5 Hs5 (fun b => one A b + (B b + M2 b + ma b + (m5 b + M5 b))) := G5.re fun b => by (try dsimp only); omega
    obtain ⟨G6, S6, k6⟩ := Zoi (o := .lst (ys ++ [yv])) hA0 hsA5 G5' (S5.drop (fun b => by (try dsimp only); omega) G5.le)
    have fr6 : ∀ (R : Bud), (∀ b, R b <= B b + M2 b + ma b + (m5 b + M5 b)) -> ∀ b, R b ≥ 1 -> H5 b ≠ none -> upd H5 A (.lst (ys ++ [yv])) b = H5 b := fun R hR b hb _ => k6 b (by have := hR b; omega)
    refine ⟨kA5, hsz, _, lmeas, rfl, hlt, k2.trans k3, δ10, Hs5, M5, fun b => ma b + m5 b, acc ++ [xd], G6.re fun b => by (try dsimp only); omega, S6.drop (fun b => by (try dsimp only); omega) G6.le, RepS.frame (Same.refl _) (fr6 M5 fun b => by omega) s6, ?_, ?_, ?_, ?_, e19⟩
    . exact RepL.frame (Same.refl _) (fr6 _ fun b => by (try dsimp only); omega) ((ra4.frame st5.grow fun b hb => kk5 b (by (try dsimp only); omega)).app (.cons r5 (.nil (fun _ => 0)) fun b => by simp))
    . exact RepS.frame (Same.refl _) (fr6 M2 fun b => by omega) (RepS.frame st5.grow (fun b hb => kk5 b (by (try dsimp only); omega)) so4)
    . exact (held4.frame st5.grow fun b hb => kk5 b (by (try dsimp only); omega)).frame (Same.refl _) (fr6 B fun b => by omega)
    . exact wk.stay (wk.stay pp4 st5.grow fun b hb => kk5 b (by (try dsimp only); omega)) (Same.refl _) (fr6 B fun b => by omega)
 . left
   have e0 : items.drop i = [] := List.drop_of_length_le (by omega)
   rw [e0] at e13
   have := Zi e13
   cases this
   refine ⟨wk.stop g3.sub pp2 (by omega), ?_⟩
   have hdrop : σ2.drop k = ZdZ js σ := by
    have hl2 : σ2.length = δF.length := s3.length
    apply List.ext_getElem?
    intro j
    rw [List.getElem?_drop, k2 (k + j) (by simp)]
    unfold Zdu
    rw [List.getElem?_append_right (by simp)]
    simp
   have sd := s3.drop k
   rw [hdrop] at sd
   have so' := Zmg js _ _ _ _ _ _ c4 e9 sd so
   unfold newL at e11
   split at e11
   . cases e11
     have rD : Rep K H2 Hs2 (.ref A) (.node .lst true accF) (fun b => one A b + ma b) := .own hD ra fun b => Nat.le_refl _
     exact q _ H2 Hs2 (fun b => one A b + ma b) (fun b => B b + (N b + M2 b)) (g3.re fun b => by (try dsimp only); omega) (st3.drop (fun b => by (try dsimp only); omega) g3.le) rD (Zgt e5 held2 so')
   . cases e11
section
variable {X : Cx} {elt tg iter : Expr} {ifs : List Expr} {scope : Scope} {pos spos pos' : Pos} {k : Nat} {js : List Nat} {N' : List Str} {ik : IK} {cs : M (List Op)} {tgt : Tg} {cc : M Bool} {celt : M D} {lk : Nat -> Bool} {i : Nat} {x : Str} {sc : Scope} {N : List Str}
theorem PIf.imp {t t' : TT} (h : PIf X ifs t) (w : ∀ σ H Q, t' σ H Q -> t σ H Q) : PIf X ifs t' := fun pins s σ H Q I q => h pins s σ H Q I (w σ H Q q)
theorem ZeK : PIf X [] (tT X.K (M.ret true)) := PIf.imp Zpw fun σ H Q h => Zis h
theorem Zrx {c : Expr} {ct : M Bool} (h : PT X c (tT X.K ct)) : PIf X [c] (tT X.K (ct.bnd fun b => if b then M.ret true else M.ret false)) := PIf.imp (Zpx h) fun σ H Q h => by
 obtain ⟨δ, Hs, M, b, δ', g, s, e, q⟩ := h
 obtain ⟨t, δ1, e1, e2⟩ := Zd e
 refine ⟨δ, Hs, M, t, δ1, g, s, e1, fun H' Hs' M' g' st s' => ?_⟩
 cases t with
 | true => have := Zi e2; cases this; exact q H' Hs' M' g' st s'
 | false => have := Zi e2; cases this; exact q H' Hs' M' g' st s'
theorem ZfZ (hc : X.calm = true) (S : CompScope X k js N' scope) (hi : PI X tg iter (tI X.K ik cs))
 (hin : ∀ (cl : List (Str × Addr)) (C : Addr) (s₀ : Shared) (H₀ : Hp) (ex : List Addr), PG (cxC X N' scope cl C s₀ H₀ ex) tg (gT X.K tgt) /\ PIf (cxC X N' scope cl C s₀ H₀ ex) ifs (tT X.K cc) /\ PE (cxC X N' scope cl C s₀ H₀ ex) elt (tM X.K celt))
 (hs : ∀ x, foldedSetIterable iter X.env x = pure x := by intro _; rfl) :
 PE X (.ListComp elt [⟨tg, iter, ifs, 0⟩] scope pos) (tM X.K (cs.bnd fun ps => (Zac ps).bnd fun h => (lift (itW ik h.1)).bnd fun items => (Zb4 k js (Za4 (asgT (fun i => decide (k <= i)) tgt) cc celt items [])).bnd fun d => (Zcd h.2).bnd fun _ => M.ret d)) :=
 PE.imp (Zpy hc S hi hin hs) fun σ H Q h => Zlz h
theorem Zhy (h : Ze sc N i x false = true) (nd : N.Nodup) (hw : ZeI sc scope x = true) (hc : X.calm = true) (S : CompScope X k js N' scope) (hi : PI X tg iter (tI X.K ik cs))
 (hin : ∀ (cl : List (Str × Addr)) (C : Addr) (s₀ : Shared) (H₀ : Hp) (ex : List Addr), PG (cxC X N' scope cl C s₀ H₀ ex) tg (gT X.K tgt) /\ PIf (cxC X N' scope cl C s₀ H₀ ex) ifs (tT X.K cc) /\ PE (cxC X N' scope cl C s₀ H₀ ex) elt (tM X.K celt))
 (hl : (pos'.line == pos.line) = true := by rfl) (e1 : X.env.scope = sc := by rfl) (e2 : X.N = N := by rfl) (hs : ∀ x, foldedSetIterable iter X.env x = pure x := by intro _; rfl) :
 PS X (.Assign [.Name x pos'] (.ListComp elt [⟨tg, iter, ifs, 0⟩] scope pos) spos) (tS X.K lk ((cs.bnd fun ps => (Zac ps).bnd fun h => (lift (itW ik h.1)).bnd fun items => (Zb4 k js (Za4 (asgT (fun i => decide (k <= i)) tgt) cc celt items [])).bnd fun d => (Zcd h.2).bnd fun _ => M.ret d).bnd fun d => (asgN lk i d).bnd fun _ => M.ret .nx)) :=
 PS.imp (ZnZ h nd hw hc S hi hin hl e1 e2 hs) fun E σ H hh => by
 obtain ⟨δ, Hs, M, f, δ', g, s, e, q⟩ := hh
 obtain ⟨d, δ1, e1, e2⟩ := Zd e
 obtain ⟨u, δ2, e3, e4⟩ := Zd e2
 have := Zi e4
 cases this
 obtain ⟨h1, h2, rfl⟩ := Zhv e3
 exact Zlz ⟨δ, Hs, M, d, δ1, g, s, e1, fun v H' Hs' m M' g' st' r s' => q _ H' Hs' _ (ZfG h2) g' st' (Zfu s' h1 r)⟩
theorem Zu {e : Expr} {c : M D} {b : Bool} (h : Ze sc N i x b = true) (nd : N.Nodup) (he : PE X e (tM X.K c)) (hs : swapsWith e (some (.Name x pos')) pos.line X.env = pure false := by rfl) (e1 : X.env.scope = sc := by rfl) (e2 : X.N = N := by rfl)
 (hf : X.fn x = true \/ b = false := by first | exact .inl rfl | exact .inr rfl) : PS X (.Assign [.Name x pos'] e pos) (tS X.K lk (c.bnd fun d => (asgN lk i d).bnd fun _ => M.ret .nx)) := by
 obtain ⟨h1, h2, h3, h4⟩ := Ze.at h
 have l := Ze.loc h
 subst e1 e2
 refine Zru nd h1 l he hs ?_
 rcases hf with q | q
 . exact .inl q
 . subst q
   exact .inr h2
theorem Zcf {es : List Expr} {is : List Nat} {b : Bool} (h : Ze sc N i x b = true) (nd : N.Nodup) (hr : PGs X es (gNs is)) (e1 : X.env.scope = sc := by rfl) (e2 : X.N = N := by rfl) (hf : X.fn x = true \/ b = false := by first | exact .inl rfl | exact .inr rfl)
 (hs : (assignEach (.Name x pos :: es) X.env).map (·.2) = assign (.Name x pos) X.env :: (assignEach es X.env).map (·.2) := by rfl) : PGs X (.Name x pos :: es) (gNs (i :: is)) := by
 obtain ⟨h1, h2, h3, h4⟩ := Ze.at h
 have l := Ze.loc h
 subst e1 e2
 refine ok_g nd h1 l hr ?_ hs
 rcases hf with q | q
 . exact .inl q
 . subst q
   exact .inr h2
theorem Zb5 {b : Bool} (h : Ze sc N i x b = true) (nd : N.Nodup) (e1 : X.env.scope = sc := by rfl) (e2 : X.N = N := by rfl) (hf : X.fn x = true \/ b = false := by first | exact .inl rfl | exact .inr rfl) : PG X (.Name x pos) (gT X.K (.name i)) := ZnY h nd e1 e2 hf
end
end T
namespace T
open PySem PySem.Spec L2
def ZcV (ca : M Op) (lk : Nat -> Bool) : Prop := ∀ δ p δ', ca δ = .ok (p, δ') -> ∀ i, p = .late i -> lk i = true
theorem Zfq {i : Nat} {lk : Nat -> Bool} (h : lk i = true) : ZcV (Zbr i) lk := fun δ p δ' e j hj => by
 unfold Zbr at e
 split at e <;> cases e <;> cases hj <;> exact h
theorem Zry {c : M D} {lk : Nat -> Bool} : ZcV (c.bnd fun d => M.ret (.tmp d)) lk := fun δ p δ' e j hj => by
 obtain ⟨d, δ1, e1, e2⟩ := Zd e
 have := Zi e2
 cases this
 cases hj
theorem Zng {p : Op} {δ δ' : List D} {w : W × Option (Nat × D)} (e : Zb3 p δ = .ok (w, δ')) : ∀ q ∈ w.2.toList, p = .late q.1 := fun q hq => by
 cases p with
 | tmp d => cases d <;> cases e <;> simp at hq
 | late i =>
  unfold Zb3 at e
  dsimp only at e
  split at e <;> cases e <;> simp at hq
  subst hq
  rfl
theorem hw_1 {ca : M Op} {lk : Nat -> Bool} (h : ZcV ca lk) : HWs (ca.bnd fun p => (M.ret ([] : List Op)).bnd fun ps => M.ret (p :: ps)) lk := fun δ w δ' e q hq => by
 obtain ⟨p, δ1, w1, e1, e2, rfl⟩ := Zme e
 exact h _ _ _ e1 _ (Zng e2 q hq)
theorem hw_2 {ca cb : M Op} {lk : Nat -> Bool} (h1 : ZcV ca lk) (h2 : ZcV cb lk) : HWs (ca.bnd fun p => (cb.bnd fun p => (M.ret ([] : List Op)).bnd fun ps => M.ret (p :: ps)).bnd fun ps => M.ret (p :: ps)) lk := fun δ w δ' e q hq => by
 obtain ⟨ps, δ1, e1, e2⟩ := Zd e
 obtain ⟨p1, δ2, e3, e4⟩ := Zd e1
 obtain ⟨qs, δ3, e5, e6⟩ := Zd e4
 obtain ⟨p2, δ4, e7, e8⟩ := Zd e5
 obtain ⟨z, δ5, e9, e10⟩ := Zd e8
 have := Zi e9
 cases this
 have := Zi e10
 cases this
 have := Zi e6
 cases this
 have := ZfN e2 q hq
 rcases List.mem_cons.mp this with z | z
 . exact h1 _ _ _ e3 _ z.symm
 . exact h2 _ _ _ e7 _ (List.mem_singleton.mp z).symm
section
variable {X : Cx} {e a b c : Expr} {pos p : Pos} {ca cb cc : M Op} {x : Str} {j n : Nat} {fi : FI} {ps : List Str}
theorem Ztz {v : V} {d : D} (h : PE X e (tC v)) (hr : ∀ H Hs m, Rep X.K H Hs v d m) : PE X e (tM X.K (M.ret d)) := PE.imp h fun σ H Q ⟨δ, Hs, M, d', δ', g, r, e, q⟩ => by
 have := Zi e
 cases this
 exact q v H Hs (fun _ => 0) M (ZbJ g) (stp0 H Hs M) (hr H Hs _) r
theorem ZpG {K : Fg} {H Hs : Hp} {x : V} {w : W} {m : Bud} (h : View K H Hs x w m) : isNW true w = .sc (.bl (decide (x = .non))) /\ isNW false w = .sc (.bl (!decide (x = .non))) := by
 cases h with
 | sc v m => constructor <;> simp only [isNW] <;> cases decide (x = V.non) <;> rfl
 | nd n r => constructor <;> simp [isNW]
end
noncomputable def ZiO : Expr -> Option V
 | .Constant (.int n) _ _ => some (.int n)
 | .Constant (.str z) _ _ => some (.str z)
 | .Constant (.bool b) _ _ => some (.bl b)
 | .Constant .none _ _ => some .non
 | _ => none
noncomputable def Zfv : List Expr -> Option (List V)
 | [] => some []
 | e :: es => (ZiO e).bind fun v => (Zfv es).map (v :: ·)
theorem Zoj {X : Cx} {e : Expr} {v : V} (h : ZiO e = some v) : PE X e (tC v) /\ ∀ es : List Expr, starEach (e :: es) X.env = (false, eval e X.env) :: starEach es X.env := by
 unfold ZiO at h
 split at h
 . cases h; exact ⟨ZaU, fun es => rfl⟩
 . cases h; exact ⟨Zq6, fun es => rfl⟩
 . cases h; exact ⟨ZdV, fun es => rfl⟩
 . cases h; exact ⟨Zm0, fun es => rfl⟩
 . cases h
theorem Zj2 {X : Cx} : ∀ {es : List Expr} {vs : List V}, Zfv es = some vs -> PA X es (fun _ H Q => Q vs H)
 | [], vs, h => by
  simp only [Zfv, Option.some.injEq] at h
  subst h
  exact Zdt
 | e :: es, vs, h => by
  simp only [Zfv, Option.bind_eq_some_iff, Option.map_eq_some_iff] at h
  obtain ⟨v, h1, ws, h2, rfl⟩ := h
  obtain ⟨c1, c2⟩ := Zoj (X := X) h1
  exact Zbg c1 (Zj2 h2) (c2 es)
theorem ZiP {K : Fg} {H Hs : Hp} : ∀ (vs : List V), RepL K H Hs vs (vs.map D.sc) (fun _ => 0)
 | [] => .nil _
 | v :: vs => .cons (m1 := fun _ => 0) (m2 := fun _ => 0) (.sc v _) (ZiP vs) fun b => by simp
theorem Zt0 {X : Cx} {es : List Expr} {vs : List V} {pos : Pos} (h : Zfv es = some vs) : PE X (.List es pos) (tM X.K (lift (newL (vs.map D.sc)))) := PE.imp (ZmE (Zj2 h)) fun σ H Q hq => by
 obtain ⟨δ, Hs, M, d, δ', g, s, e, q⟩ := hq
 obtain ⟨e1, rfl⟩ := Za0 e
 unfold newL at e1
 split at e1
 . rename_i hl
   cases e1
   have o : Outs X.K H Hs (fun _ => 0) _ Q := Ze4 (B := fun _ => 0) (M := M) (stp0 H Hs M) (ZbJ g) s q
   exact ⟨by simpa using hl, fun p hp => o.new (fun b => by simp) (fun b hb => by simp at hb) hp (vs := vs) Zr (ZiP vs)⟩
 . cases e1
theorem Zdx : bootBuiltins "len" = some (.builtin "len") := by decide +kernel
theorem Zrz : bootBuiltins "abs" = some (.builtin "abs") := by decide +kernel
theorem Znh : bootBuiltins "sum" = some (.builtin "sum") := by decide +kernel
theorem Zr0 : bootBuiltins "all" = some (.builtin "all") := by decide +kernel
theorem Zni : bootBuiltins "min" = some (.builtin "min") := by decide +kernel
theorem Zr1 : bootBuiltins "max" = some (.builtin "max") := by decide +kernel
theorem ZcW : bootBuiltins "list" = some (.type "list") := by decide +kernel
noncomputable def C0 : Ctx := { lock := fun _ => false, fok := fun _ _ => false, fuel := 0 }
end T
namespace T
open PySem PySem.Spec L2
section
variable {X : Cx} {o e a : Expr} {es : List Expr} {cpos apos pos p : Pos} {ca : M Op} {cs : M (List Op)} {i : Nat} {name m x f : Str} {A : Addr} {fi : FI} {j n : Nat} {ps : List Str}
theorem ZpH {K : Fg} {H Hs : Hp} {σ : St} {δ δ' : List D} {m0 M : Bud} {p : Op} {v : V} {u : Unit} (g : Good H Hs (fun b => m0 b + M b)) (s : RepS K H Hs σ δ M) (r : RepP K H Hs σ v p m0) (h : chkI A m p δ = .ok (u, δ')) :
 δ' = δ /\ ∃ a dx fs, v = .ref a /\ H a = some (.ins A dx fs) /\ fs.lookup m = none := by
 have fin : ∀ {B : Addr} {fs : List Str} {o : Bool} {ds : List D} {m1 : Bud}, Rep K H Hs v (.node (.ins B fs) o ds) m1 -> B = A -> m ∉ fs -> ∃ a dx fs, v = .ref a /\ H a = some (.ins A dx fs) /\ fs.lookup m = none := fun {B fs o ds m1} q hB hm => by
  subst hB
  have nl : ∀ {vs : List V}, fs.length = vs.length -> (fs.zip vs).lookup m = none := fun {vs} hl => by
   rw [List.lookup_eq_none_iff]
   intro p hp
   have := (List.of_mem_zip (a := p.1) (b := p.2) hp).1
   have hne : m ≠ p.1 := fun q => hm (by rw [q]; exact this)
   simpa using hne
  cases q with
  | own n q _ => obtain ⟨hl, dx, e⟩ := n; exact ⟨_, dx, _, rfl, e, nl hl⟩
  | shd n q => obtain ⟨hl, dx, e⟩ := n; exact ⟨_, dx, _, rfl, g.sub _ _ e, nl hl⟩
 cases p with
 | late i =>
  unfold chkI at h
  dsimp only at h
  split at h
  . rename_i B fs oo ds hi
    split at h
    . rename_i hc
      cases h
      obtain ⟨v', m1, m2, e1, q, l, f⟩ := s.slot hi (by simp)
      rw [show σ[i]? = some (some v) from r] at e1
      cases e1
      exact ⟨rfl, fin q hc.1 hc.2⟩
    . cases h
  . cases h
 | tmp d =>
  cases d with
  | sc u => cases h
  | hole => cases h
  | node k oo ds =>
   cases k with
   | ins B fs =>
    unfold chkI at h
    dsimp only at h
    split at h
    . rename_i hc
      cases h
      exact ⟨rfl, fin r hc.1 hc.2⟩
    . cases h
   | _ => cases h
theorem Zl0 {K : Fg} {σ : St} {H : Hp} {Q : VK} {E : XK} (h : tM K (ca.bnd fun p => (chkI A m p).bnd fun _ => cs.bnd fun ps => ZcT fi (p :: ps)) σ H Q) :
 tP K ca σ H fun x H1 => ∃ a dx fs, x = .ref a /\ H1 a = some (.ins A dx fs) /\ fs.lookup m = none /\ tPs K cs σ H1 fun vs H2 => spF K fi.run (x :: vs) H2 Q E := by
 obtain ⟨δ, Hs, M, d, δ', g, s, ea, q⟩ := h
 obtain ⟨p, δ1, e1, eb⟩ := Zd ea
 obtain ⟨u, δ2, e2, ec⟩ := Zd eb
 obtain ⟨ps, δ3, e3, ed⟩ := Zd ec
 refine ⟨δ, Hs, M, p, δ1, g, s, e1, fun x H1 Hs1 m1 M1 g1 st1 r1 s1 => ?_⟩
 obtain ⟨rfl, a, dx, fs, hx, ha, hl⟩ := ZpH g1 s1 r1 e2
 refine ⟨a, dx, fs, hx, ha, hl, δ2, Hs1, M1, ps, δ3, g1.re, s1, e3, fun vs H2 Hs2 m2 M2 g2 st2 r2 s2 => ?_⟩
 obtain ⟨G2, S2, k2⟩ := Zx g g1 st1 g2 st2
 have r1' := RepP.frame st2.grow k2 r1
 exact Zko (m1 := fun b => m1 b + m2 b) g (G2.re fun b => by (try dsimp only); omega) (S2.drop (fun b => by (try dsimp only); omega) G2.le) (show Zd8 K H2 Hs2 σ (x :: vs) (p :: ps) (fun b => m1 b + m2 b) from ⟨m1, m2, r1', r2, fun b => Nat.le_refl _⟩) s2 ed q
theorem Zhz {pl : Sem Bool} (G : MeAt X.prog X.w X.K X.mg X.base A m j ps (spF X.K fi.run)) (hr : Room n X.A) (ho : PE X o (tP X.K ca)) (ha : PA X (e :: es) (tPs X.K cs)) (hj : j <= n := by decide)
 (hst : starEach (e :: es) X.env = (false, eval e X.env) :: starEach es X.env := by rfl) (hpl : (backTo pos (starEach es X.env)).any (·.1) = false := by rfl)
 (ht : eval (.Call (.Attribute o m apos) (e :: es) [] pos) X.env = (do
  let ov <- eval o X.env
  standAt apos.atName
  let (f, first) <- holding [ov] (getMethod ov m pl)
  callWith pos f first (backTo pos (starEach (e :: es) X.env)) (backToKw pos (keywordEach [] X.env))) := by rfl) :
 PE X (.Call (.Attribute o m apos) (e :: es) [] pos) (tM X.K (ca.bnd fun p => (chkI A m p).bnd fun _ => cs.bnd fun ps => ZcT fi (p :: ps))) := PE.imp (ZsN G hr ho ha hj hst hpl ht) fun σ H Q h => by
 refine tG.mono (Zl0 (E := E0) h) fun x H1 ⟨a, dx, fs, hx, hh, hl, z⟩ => ⟨a, dx, fs, hx, hh, hl, ?_⟩
 obtain ⟨δ, Hs, M, aa, δ', g, s, e, q⟩ := z
 refine ⟨δ, Hs, M, aa, δ', g, s, e, fun vs H' Hs' m M' g' st r s' => ?_⟩
 show spF X.K fi.run (x :: (vs ++ [])) H' Q E0
 rw [List.append_nil]
 exact q vs H' Hs' m M' g' st r s'
theorem Zgu {pl : Sem Bool} (G : MeAt X.prog X.w X.K X.mg X.base A m j ps (spF X.K fi.run)) (hr : Room n X.A) (ho : PE X o (tP X.K ca)) (hj : j <= n := by decide)
 (ht : eval (.Call (.Attribute o m apos) [] [] pos) X.env = (do
  let ov <- eval o X.env
  standAt apos.atName
  let (f, first) <- holding [ov] (getMethod ov m pl)
  callWith pos f first (backTo pos (starEach [] X.env)) (backToKw pos (keywordEach [] X.env))) := by rfl) :
 PE X (.Call (.Attribute o m apos) [] [] pos) (tM X.K (ca.bnd fun p => (chkI A m p).bnd fun _ => (M.ret ([] : List Op)).bnd fun ps => ZcT fi (p :: ps))) := PE.imp (Zrf G hr ho hj ht) fun σ H Q h => by
 refine tG.mono (Zl0 (E := E0) h) fun x H1 ⟨a, dx, fs, hx, hh, hl, z⟩ => ⟨a, dx, fs, hx, hh, hl, ?_⟩
 obtain ⟨δ, Hs, M, aa, δ', g, s, e, q⟩ := z
 have := Zi e
 cases this
 exact q [] H1 Hs (fun _ => 0) M (ZbJ g) (stp0 _ _ _) trivial s
theorem Zr2 {K : Fg} {σ : St} {H : Hp} {Q : VK} {E : XK} (h : tM K (cs.bnd fun ps => newF A fi ps) σ H Q) :
 tPs K cs σ H fun vs H1 => ∀ x dx, H1 x = none -> H1 dx = none -> dx ≠ x -> spF K fi.run (.ref x :: vs) (upd (upd H1 dx (.own x)) x (.ins A dx [])) (fun v H2 => v = .non /\ Q (.ref x) H2) E := by
 obtain ⟨δ, Hs, M, d, δ', g, s, e, q⟩ := h
 obtain ⟨ps, δ1, e1, e⟩ := Zd e
 refine ⟨δ, Hs, M, ps, δ1, g, s, e1, fun vs H1 Hs1 m1 M1 g1 st1 r1 s1 x dx hx hdx hne => ?_⟩
 unfold newF at e
 obtain ⟨ds, δ2, e2, e⟩ := Zd e
 cases hF : fi.run (.node (.ins A []) true [] :: ds) with
 | exc x y => rw [hF] at e; cases e
 | stuck => rw [hF] at e; cases e
 | ok r =>
  obtain ⟨d', ds'⟩ := r
  rw [hF] at e
  match d', ds', e, hF with
  | .sc .non, dI :: ds', e, hF =>
   dsimp only at e
   obtain ⟨u, δ3, e3, e⟩ := Zd e
   have := Zi e
   cases this
   obtain ⟨Hs2, m2, M2, g2, st2, q2, s2⟩ := ZhU (B := fun _ => 0) (g1.re fun b => by simp) s1 r1 e2
   have z0 := Zx (m1 := fun _ => 0) g (g1.re fun b => by simp) (st1.drop (fun b => by simp) g1.le) (g2.re fun b => by simp) (M1 := fun b => m1 b + M1 b) (M2 := fun b => m2 b + M2 b) (by
    have := st2
    exact ⟨fun b o h z => this.keep b o h (by simpa using z), fun b h => by have := this.own b (by simpa using h); simpa using this, this.grow, fun b h h' => by have := this.shr b h h'; simpa using this, this.stay⟩)
   have G2 : Good H1 Hs2 (fun b => M2 b + m2 b) := g2.re fun b => by simp; omega
   have S2 : Stp H Hs M H1 Hs2 (fun b => M2 b + m2 b) := z0.2.1.drop (fun b => by simp; omega) z0.1.le
   have hsx : Hs2 x = none := by
    cases w : Hs2 x with
    | none => rfl
    | some o => rw [G2.sub x o w] at hx; cases hx
   have hsd : Hs2 dx = none := by
    cases w : Hs2 dx with
    | none => rfl
    | some o => rw [G2.sub dx o w] at hdx; cases hdx
   have zz : ∀ b, H1 b = none -> M2 b = 0 /\ m2 b = 0 := fun b hb => by
    have l : M2 b + m2 b <= 1 := G2.le b
    have : M2 b + m2 b ≠ 1 := fun e => G2.has b e hb
    omega
   have nw : ∀ b, b ≠ x -> b ≠ dx -> upd (upd H1 dx (.own x)) x (.ins A dx []) b = H1 b := fun b h1 h2 => by rw [Zv h1, Zv h2]
   have atx : upd (upd H1 dx (.own x)) x (.ins A dx []) x = some (.ins A dx []) := Zr
   have atd : upd (upd H1 dx (.own x)) x (.ins A dx []) dx = some (.own x) := by rw [Zv hne]; exact Zr
   have old : ∀ b, H1 b ≠ none -> b ≠ x /\ b ≠ dx := fun b hb => ⟨fun e => hb (by rw [e]; exact hx), fun e => hb (by rw [e]; exact hdx)⟩
   have same : Same H1 (upd (upd H1 dx (.own x)) x (.ins A dx [])) := fun b o e => by
    obtain ⟨h1, h2⟩ := old b (by rw [e]; simp)
    rw [nw b h1 h2]; exact e
   have G3 : Good (upd (upd H1 dx (.own x)) x (.ins A dx [])) Hs2 (fun b => M2 b + (one x b + m2 b)) := by
    refine ⟨fun b o e => same b o (G2.sub b o e), fun b => ?_, fun b hb => ?_, fun b hb => ?_⟩
    . have l : M2 b + m2 b <= 1 := G2.le b
      unfold one
      (try dsimp only)
      split
      . rename_i e; subst e; have := zz b hx; omega
      . omega
    . by_cases e : b = x
      . subst e; exact hsx
      . have hb : M2 b + (one x b + m2 b) = 1 := hb
        simp only [one, if_neg e] at hb
        exact G2.ne b (by show M2 b + m2 b = 1; omega)
    . by_cases e : b = x
      . subst e; rw [atx]; simp
      . have hb : M2 b + (one x b + m2 b) = 1 := hb
        simp only [one, if_neg e] at hb
        have := G2.has b (by show M2 b + m2 b = 1; omega)
        obtain ⟨h1, h2⟩ := old b this
        rw [nw b h1 h2]; exact this
   have S3 : Stp H Hs M (upd (upd H1 dx (.own x)) x (.ins A dx [])) Hs2 (fun b => M2 b + (one x b + m2 b)) := by
    refine ⟨fun b o e z => same b o (S2.keep b o e z), fun b hb => ?_, S2.grow, S2.shr, fun b hb => ?_⟩
    . by_cases e : b = x
      . subst e
        right
        cases w : H b with
        | none => rfl
        | some o => exact absurd hx (S2.stay b (by rw [w]; simp))
      . have hb : M2 b + (one x b + m2 b) = 1 := hb
        simp only [one, if_neg e] at hb
        exact S2.own b (by show M2 b + m2 b = 1; omega)
    . have := S2.stay b hb
      obtain ⟨h1, h2⟩ := old b this
      rw [nw b h1 h2]; exact this
   have fr : ∀ b, H1 b ≠ none -> upd (upd H1 dx (.own x)) x (.ins A dx []) b = H1 b := fun b hb => nw b (old b hb).1 (old b hb).2
   have q3 : RepL K (upd (upd H1 dx (.own x)) x (.ins A dx [])) Hs2 vs ds m2 := q2.frame (Same.refl _) fun b _ hb => fr b hb
   have s3 : RepS K (upd (upd H1 dx (.own x)) x (.ins A dx [])) Hs2 σ δ2 M2 := RepS.frame (Same.refl _) (fun b _ hb => fr b hb) s2
   have rx : Rep K (upd (upd H1 dx (.own x)) x (.ins A dx [])) Hs2 (.ref x) (.node (.ins A []) true []) (one x) := .own (vs := []) (m' := fun _ => 0) ⟨rfl, dx, atx⟩ (.nil _) fun b => by simp
   refine ⟨_, Hs2, fun b => one x b + m2 b, _, _, G3.re fun b => by (try dsimp only); omega, .cons rx q3 fun b => Nat.le_refl _, hF, fun v H4 Hs4 n1 n2 g4 st4 r4 rl4 => ?_⟩
   cases r4
   refine ⟨rfl, ?_⟩
   cases rl4 with
   | @cons _ _ _ _ k1 k2 _ ra rb lk =>
    obtain ⟨G, S, k⟩ := Zx g G3 S3 g4 st4
    have s4 := RepS.frame st4.grow k s3
    have fin := ZhV s4 rb (lates r1) e3
    exact q _ H4 Hs4 k1 (fun b => k2 b + M2 b) (G.re fun b => by have := lk b; (try dsimp only); omega) (S.drop (fun b => by have := lk b; (try dsimp only); omega) G.le) ra fin
theorem Zr3 (G : MkAt X.prog X.w X.K X.mg X.base x A j ps (spF X.K fi.run)) (hr : Room n X.A) (ha : PA X (e :: es) (tPs X.K cs)) (hj : j + 1 <= n := by decide) (hg : Gl X x := by rfl) (hdb : (x == ("__debug__" : Str)) = false := by decide)
 (he : starEach (e :: es) X.env = (false, eval e X.env) :: starEach es X.env := by rfl) (hpl : (backTo pos (starEach es X.env)).any (·.1) = false := by rfl) :
 PE X (.Call (.Name x p) (e :: es) [] pos) (tM X.K (cs.bnd fun ps => newF A fi ps)) := PE.imp (ZsO G hr ha hj hg hdb he hpl) fun σ H Q h => by
 obtain ⟨δ, Hs, M, aa, δ', g, s, e, q⟩ := Zr2 (E := E0) h
 refine ⟨δ, Hs, M, aa, δ', g, s, e, fun vs H' Hs' m M' g' st r s' x dx h1 h2 h3 => ?_⟩
 show spF X.K fi.run (.ref x :: (vs ++ [])) _ _ E0
 rw [List.append_nil]
 exact q vs H' Hs' m M' g' st r s' x dx h1 h2 h3
theorem Zkr (f : Str) (v : V) : ∀ (fs : List Str) (vs : List V), fs.length = vs.length -> putF f v (fs.zip vs) = (putN f fs).zip (putV f v fs vs) /\ (putN f fs).length = (putV f v fs vs).length
 | [], [], _ => ⟨rfl, rfl⟩
 | g :: fs, x :: vs, h => by
  obtain ⟨i1, i2⟩ := Zkr f v fs vs (by simpa using h)
  rw [List.zip_cons_cons]
  show (if g = f then (g, v) :: fs.zip vs else (g, x) :: putF f v (fs.zip vs)) = _ /\ _
  simp only [putN, putV]
  split
  . exact ⟨rfl, by simpa using h⟩
  . rw [i1]
    exact ⟨rfl, by rw [List.length_cons, List.length_cons, i2]⟩
 | [], _ :: _, h => by simp at h
 | _ :: _, [], h => by simp at h
theorem RepL.putV {K : Fg} {H Hs : Hp} {v : V} {d : D} {m1 : Bud} (f : Str) (x : Rep K H Hs v d m1) : ∀ {fs : List Str} {vs : List V} {ds : List D} {m : Bud}, fs.length = vs.length -> RepL K H Hs vs ds m -> RepL K H Hs (T.putV f v fs vs) (T.putV f d fs ds) (fun b => m b + m1 b)
 | [], _, _, m, h, .nil _ => .cons x (.nil (fun _ => 0)) fun b => by (try dsimp only); omega
 | [], _, _, m, h, .cons _ _ _ => by simp at h
 | _ :: _, _, _, m, h, .nil _ => by simp at h
 | g :: fs, _, _, m, h, .cons (m1 := a1) (m2 := a2) y z l => by
  simp only [T.putV]
  split
  . exact .cons x z fun b => by have := l b; (try dsimp only); omega
  . exact .cons y (RepL.putV f x (by simpa using h) z) fun b => by have := l b; (try dsimp only); omega
theorem Zfr {c : M D} {lk : Nat -> Bool} {value : Expr} {ok : Addr -> Str -> Bool} {pos' : Pos} (hf : ∀ C f, ok C f = true -> Cls X.K C /\ Za5 X.K C f) (ho : PE X o (tVar i)) (hv : PE X value (tM X.K c)) (hs : swapsWith value (some (.Attribute o f pos')) pos.line X.env = pure false := by rfl) :
 PS X (.Assign [.Attribute o f pos'] value pos) (tS X.K lk (c.bnd fun d => (Zbr i).bnd fun _ => (modS i (putD ok f d)).bnd fun _ => M.ret .nx)) := PS.imp (ZqQ ho hv hs) fun E σ H h => by
 obtain ⟨δ, Hs, M, fl, δ', g, s, ea, q⟩ := h
 obtain ⟨d, δ1, e1, eb⟩ := Zd ea
 obtain ⟨p0, δ2, e2, ec⟩ := Zd eb
 obtain ⟨r0, δ3, e3, ed⟩ := Zd ec
 have := Zi ed
 cases this
 obtain ⟨kk, ds0, k', ds', hi, hff, rfl⟩ := Zhu e3
 refine ⟨δ, Hs, M, d, δ1, g, s, e1, fun v H1 Hs1 m1 M1 g1 st1 r1 s1 => ?_⟩
 obtain ⟨rfl, vo, hvo⟩ := Zlv s1 e2
 obtain ⟨p1, us, m', n2, e8, nn, rl, le, fin⟩ := modL g1 s1 hi
 rw [hvo] at e8
 cases e8
 refine ⟨_, hvo, ?_⟩
 unfold putD at hff
 split at hff
 . rename_i ds C fs
   split at hff
   . rename_i hc
     cases hff
     obtain ⟨hl, dx, hH⟩ := nn
     obtain ⟨z1, z2⟩ := Zkr f v fs us hl
     obtain ⟨G, S, R, SS⟩ := fin (.ins C dx (putF f v (fs.zip us))) (.ins C (putN f fs)) (T.putV f v fs us) (T.putV f d fs ds0) (fun b => m' b + m1 b) (fun _ => 0) .non (.sc .non) (fun b => by (try dsimp only); omega) ⟨z2, dx, by rw [Zr, z1]⟩ (rl.putV f r1 hl) (.sc _ _)
     have z := Zx (m1 := fun _ => 0) g (g1.re fun b => by simp) (st1.drop (fun b => by simp) g1.le) G S
     refine ⟨p1, C, dx, fs.zip us, rfl, hH, (hf C f hc.2).1, (hf C f hc.2).2, ?_, ?_⟩
     . rw [List.length_zip, hl, Nat.min_self]
       rw [<- hl]
       exact hc.1
     . exact q σ _ Hs1 _ (Keeps.refl _ _) (G.re fun b => by (try dsimp only); omega) ((z.2.1.drop (fun b => by simp) z.1.le).drop (fun b => by (try dsimp only); omega) G.le) SS
   . cases hff
 . cases hff
end
end T
namespace T
open PySem PySem.Spec L2 PySem.W
noncomputable def scr (ns : List Int) : D := .node .frl false (ns.map fun i => .sc (.int i))
theorem Zr4 {K : Fg} {H : Hp} {a : Addr} {ns : List Int} {F : List D -> Rs (D × List D)} {E : XK} (hS : SqL K H a (ns.map V.int)) (e : ∃ ds', F [scr ns] = .ok (.sc (.bl true), ds')) : spF K F [.ref a] H (fun v _ => v = .bl true) E := by
 obtain ⟨ds', e⟩ := e
 refine ⟨[scr ns], H, fun _ => 0, _, ds', ⟨Same.refl _, fun b => Nat.zero_le _, fun b h => by simp at h, fun b h => by simp at h⟩, .cons (m1 := fun _ => 0) (m2 := fun _ => 0) (.shd (vs := ns.map V.int) hS (ZgQ ns)) (.nil _) fun b => by simp, e, fun v H' Hs' m1 m' g st r _ => ?_⟩
 cases r
 rfl
theorem Zok {l : PySem.W.OpenLaw} {q : Program} {loose : List Str} {XP : (Str -> Option Value) -> Heap -> Prop} {YP : World -> Heap -> Prop} {d : DefRec} {K : Params -> Fg} {k : Nat} {x : Str} {R : Fg -> List D -> Rs (D × List D)} (hn : l.most = some 63) (hdf : d.params.defaults = []) (hr : Room k callerA)
 (hY : ∀ (w : World) (h : Heap), YP w h -> (K w.params).In h)
 (F : ∀ (w : World) (mg : Str -> Option Value) (fa : Addr) (h : Heap), (K w.params).In h -> h.Ns mainGlobals mg -> mg d.name = some (.ref fa) ->
  ∃ fd : FuncData, (∀ (s : Shared) (u : Value), BindsTo s fd ⟨[u], []⟩ [(x, u)]) /\ ∀ base : Heap, (K w.params).In base -> base.Ns mainGlobals mg -> FnOk l.prog w (K w.params) mg base CX0 k fa fd [x] (spF (K w.params) (R (K w.params))))
 (hL : ∀ (K : Fg) (ns : List Int), ns.length <= 63 -> ∃ ds', R K [scr ns] = .ok (.sc (.bl true), ds')) :
 PySem.W.WalkO q loose XP YP l.row.toRowW d [] (fun f vs => PySem.call f vs) :=
 L2.ZnT (n := 63) (k := k) (x := x) (CX := CX0) (sp := fun K => spF K (R K)) hn (by decide) hdf hr hY F (fun K H a ns hl _ hS => Zr4 hS (hL K ns hl)) fun _ _ _ _ z => z
end T
namespace T
open PySem PySem.Spec L2 PySem.W
theorem Znj {α β : Type} {c : M α} {f : α -> M β} {δ δ' : List D} {a : α} (h : c δ = .ok (a, δ')) : c.bnd f δ = f a δ' := by
 unfold M.bnd
 rw [h]
theorem runA {C : Ctx} {n N : Nat} {body : List S} {ds : List D} (h : ds.length = n) : Zh C n N body ds = ZmW n (exs { C with lock := fun i => decide (i < n) } body (ds ++ List.replicate (N - n) .hole)) := if_pos h
theorem szl : sizeLine = 16777216 := by rw [sizeLine_eq]
section
variable {α β : Type} {C : Ctx} {δ δ' : List D} {a : α} {i j : Nat} {x y : Int} {v w : V} {k : Kd} {ds es : List D} {d : D}
noncomputable def bndR (f : α -> M β) : Rs (α × List D) -> Rs (β × List D)
 | .ok (a, δ) => f a δ
 | .exc x δ => .exc x δ
 | .stuck => .stuck
theorem bndA (c : M α) (f : α -> M β) (δ : List D) : c.bnd f δ = bndR f (c δ) := by
 unfold M.bnd bndR
 cases c δ <;> rfl
theorem ZpI (f : α -> M β) : bndR f (.ok (a, δ)) = f a δ := (rfl)
theorem retA : M.ret a δ = .ok (a, δ) := (rfl)
theorem Zt1 : lift (some a) δ = .ok (a, δ) := (rfl)
theorem ZpJ (c : Prop) [Decidable c] (f g : M α) (δ : List D) : (if c then f else g) δ = if c then f δ else g δ := by split <;> rfl
theorem Zt2 (c : M D) : Zo (.v i) c = Zbr i := (rfl)
noncomputable def atR (i : Nat) (δ : List D) : Option D -> Rs (Op × List D)
 | some (.sc _) => .ok (.late i, δ)
 | some (.node _ _ _) => .ok (.late i, δ)
 | _ => .stuck
theorem Zt3 : Zbr i δ = atR i δ δ[i]? := by unfold Zbr atR; cases δ[i]? with | none => rfl | some d => cases d <;> rfl
theorem Zr5 : atR i δ (some (.sc v)) = .ok (.late i, δ) := (rfl)
theorem Zr6 {o : Bool} : atR i δ (some (.node k o ds)) = .ok (.late i, δ) := (rfl)
noncomputable def vwR (i : Nat) (δ : List D) : Option D -> Rs (W × List D)
 | some (.sc v) => .ok (.sc v, δ)
 | some (.node k false ds) => .ok (.nd k ds, δ)
 | some (.node k true ds) => .ok (.nd k (shrL ds), δ.set i (.node k true (shrL ds)))
 | _ => .stuck
theorem Zt4 : view (.late i) δ = vwR i δ δ[i]? := by
 unfold view vwR
 (try dsimp only)
 all_goals
  cases δ[i]? with
  | none => rfl
  | some d => cases d with
   | node k o ds => cases o <;> rfl
   | _ => rfl
theorem Zr7 : vwR i δ (some (.sc v)) = .ok (.sc v, δ) := (rfl)
theorem Zt5 : vwR i δ (some (.node k false ds)) = .ok (.nd k ds, δ) := (rfl)
theorem Zt6 : vwR i δ (some (.node k true ds)) = .ok (.nd k (shrL ds), δ.set i (.node k true (shrL ds))) := (rfl)
theorem ZpK : view (.tmp (.sc v)) = M.ret (.sc v) := (rfl)
theorem ZpL {o : Bool} : view (.tmp (.node k o ds)) = M.ret (.nd k ds) := (rfl)
noncomputable def vlR (i : Nat) (δ : List D) : Option D -> Rs (D × List D)
 | some (.sc v) => .ok (.sc v, δ)
 | some (.node k false ds) => .ok (.node k false ds, δ)
 | some (.node k true ds) => .ok (.node k false (shrL ds), δ.set i (.node k false (shrL ds)))
 | _ => .stuck
theorem valA : T.valV i δ = vlR i δ δ[i]? := by
 unfold T.valV vlR
 cases δ[i]? with
 | none => rfl
 | some d => cases d with
  | node k o ds => cases o <;> rfl
  | _ => rfl
theorem Zr8 : vlR i δ (some (.sc v)) = .ok (.sc v, δ) := (rfl)
theorem Zt7 : vlR i δ (some (.node k true ds)) = .ok (.node k false (shrL ds), δ.set i (.node k false (shrL ds))) := (rfl)
noncomputable def mvR (i : Nat) (δ : List D) : Option D -> Rs (D × List D)
 | some (.sc v) => .ok (.sc v, δ)
 | some (.node k o ds) => .ok (.node k o ds, δ.set i .hole)
 | _ => .stuck
theorem movA : movV i δ = mvR i δ δ[i]? := by unfold movV mvR; cases δ[i]? with | none => rfl | some d => cases d <;> rfl
theorem Zr9 : mvR i δ (some (.sc v)) = .ok (.sc v, δ) := (rfl)
theorem ZrA {o : Bool} : mvR i δ (some (.node k o ds)) = .ok (.node k o ds, δ.set i .hole) := (rfl)
noncomputable def tkR (lend : Bool) (i : Nat) (δ : List D) : Option D -> Rs (D × List D)
 | some (.sc v) => .ok (.sc v, δ)
 | some (.node k false ds) => .ok (.node k false ds, δ)
 | some (.node k true ds) => if lend then .ok (.node k true ds, δ.set i .hole) else .ok (.node k false (shrL ds), δ.set i (.node k false (shrL ds)))
 | _ => .stuck
theorem Zt8 {lend : Bool} : Zgq lend (.late i) δ = tkR lend i δ δ[i]? := by
 unfold Zgq tkR
 (try dsimp only)
 all_goals
  cases δ[i]? with
  | none => rfl
  | some d => cases d with
   | node k o ds => cases o <;> rfl
   | _ => rfl
theorem Zt9 {lend : Bool} : Zgq lend (.tmp d) = M.ret d := (rfl)
theorem ZrB {lend : Bool} : tkR lend i δ (some (.sc v)) = .ok (.sc v, δ) := (rfl)
theorem ZtA {lend : Bool} : tkR lend i δ (some (.node k false ds)) = .ok (.node k false ds, δ) := (rfl)
theorem ZtB : tkR true i δ (some (.node k true ds)) = .ok (.node k true ds, δ.set i .hole) := (rfl)
theorem ZrC {lend : Bool} : Zea lend [] = M.ret [] := (rfl)
theorem ZrD {lend : Bool} {p : Op} {ps : List Op} : Zea lend (p :: ps) = (Zgq lend p).bnd fun d => (Zea lend ps).bnd fun ds => M.ret (d :: ds) := (rfl)
noncomputable def gvR (i : Nat) (δ : List D) (d : D) : Option D -> Rs (Unit × List D)
 | some .hole => .ok ((), δ.set i d)
 | _ => .ok ((), δ)
theorem ZtC : Zho (.late i) d δ = gvR i δ d δ[i]? := by unfold Zho gvR; (try dsimp only); all_goals (cases δ[i]? with | none => rfl | some d => cases d <;> rfl)
theorem ZtD {d' : D} : Zho (.tmp d') d = M.ret () := (rfl)
theorem ZrE : gvR i δ d (some (.sc v)) = .ok ((), δ) := (rfl)
theorem ZrF {o : Bool} : gvR i δ d (some (.node k o ds)) = .ok ((), δ) := (rfl)
theorem ZtE : gvR i δ d (some .hole) = .ok ((), δ.set i d) := (rfl)
theorem ZrG {ds : List D} : Zcp [] ds = M.ret () := by cases ds <;> rfl
theorem ZrH {p : Op} {ps : List Op} : Zcp (p :: ps) (d :: ds) = (Zho p d).bnd fun _ => Zcp ps ds := (rfl)
theorem ZrI : views [] = M.ret [] := (rfl)
theorem ZrJ {p : Op} {ps : List Op} : views (p :: ps) = (view p).bnd fun w => (views ps).bnd fun ws => M.ret (w :: ws) := (rfl)
noncomputable def cfR (ps : List Op) (δ : List D) : Rs (D × List D) -> Rs (D × List D)
 | .ok (d, ds') => ((Zcp ps ds').bnd fun _ => M.ret d) δ
 | .exc x _ => .exc x δ
 | .stuck => .stuck
theorem ZtF {fi : FI} {ps : List Op} : ZcT fi ps = (Zea fi.lend ps).bnd fun ds δ => cfR ps δ (fi.run ds) := by
 unfold ZcT cfR
 congr 1
 funext ds δ
 cases fi.run ds with
 | ok r => obtain ⟨d, ds'⟩ := r; rfl
 | exc x y => rfl
 | stuck => rfl
theorem ZrK {ps : List Op} {ds' : List D} : cfR ps δ (.ok (d, ds')) = ((Zcp ps ds').bnd fun _ => M.ret d) δ := (rfl)
noncomputable def seqR (r : M Fl) : Rs (Fl × List D) -> Rs (Fl × List D)
 | .ok (.nx, δ) => r δ
 | .ok (f, δ) => .ok (f, δ)
 | .exc x δ => .exc x δ
 | .stuck => .stuck
theorem exs1 {s : S} {r : List S} : exs C (s :: r) δ = seqR (exs C r) (ex C s δ) := by
 show seqL (ex C s) (exs C r) δ = _
 unfold seqL M.bnd seqR
 cases ex C s δ with
 | ok z => obtain ⟨f, δ1⟩ := z; cases f <;> rfl
 | exc x y => rfl
 | stuck => rfl
noncomputable def forR (asg : D -> M Unit) (body : M Fl) (ds : List D) : Rs (Fl × List D) -> Rs (Fl × List D)
 | .ok (.nx, δ) => forL asg body ds δ
 | .ok (.ct, δ) => forL asg body ds δ
 | .ok (.bk, δ) => .ok (.nx, δ)
 | .ok (.rt x, δ) => .ok (.rt x, δ)
 | .exc x δ => .exc x δ
 | .stuck => .stuck
theorem Zc7 {asg : D -> M Unit} {body : M Fl} : forL asg body (d :: ds) δ = forR asg body ds (((asg d).bnd fun _ => body) δ) := by
 show ((asg d).bnd fun _ => body.bnd fun f => match f with | .nx => forL asg body ds | .ct => forL asg body ds | .bk => M.ret .nx | .rt x => M.ret (.rt x)) δ = _
 unfold forR M.bnd
 cases asg d δ with
 | ok r =>
  dsimp only
  cases body r.2 with
  | ok z => obtain ⟨f, δ1⟩ := z; cases f <;> rfl
  | exc x y => rfl
  | stuck => rfl
 | exc x y => rfl
 | stuck => rfl
theorem ZtG {asg : D -> M Unit} {body : M Fl} : forL asg body [] δ = .ok (.nx, δ) := (rfl)
theorem ZpM {asg : D -> M Unit} {body : M Fl} : forR asg body ds (.ok (.nx, δ)) = forL asg body ds δ := (rfl)
theorem ZpN {asg : D -> M Unit} {body : M Fl} : forR asg body ds (.ok (.rt d, δ)) = .ok (.rt d, δ) := (rfl)
theorem exs0 : exs C [] δ = .ok (.nx, δ) := (rfl)
theorem ZpO (r : M Fl) : seqR r (.ok (.nx, δ)) = r δ := (rfl)
theorem ZpP (r : M Fl) : seqR r (.ok (.rt d, δ)) = .ok (.rt d, δ) := (rfl)
end
end T
namespace T
open PySem PySem.Spec L2 PySem.W
theorem e_k (C : Ctx) (v : V) : (evb C (.k v)).1 = (M.ret (.sc v)) := (rfl)
theorem o_k (v : V) (z : M D) : Zo (.k v) z = z.bnd fun d => M.ret (.tmp d) := (rfl)
theorem e_g (C : Ctx) (d : D) : (evb C (.g d)).1 = (M.ret d) := (rfl)
theorem o_g (d : D) (z : M D) : Zo (.g d) z = z.bnd fun d => M.ret (.tmp d) := (rfl)
theorem ZtH (C : Ctx) (op : Operator) (a : E) (b : E) : (evb C (.bin op a b)).1 = ((Zo a (evb C a).1).bnd fun p => (Zo b (evb C b).1).bnd fun q => (view p).bnd fun x => (view q).bnd fun y => lift (binW op x y)) := (rfl)
theorem ZtI (op : Operator) (a : E) (b : E) (z : M D) : Zo (.bin op a b) z = z.bnd fun d => M.ret (.tmp d) := (rfl)
theorem ZtJ (C : Ctx) (a : E) : (evb C (.neg a)).1 = (((Zo a (evb C a).1).bnd view).bnd fun x => lift (negW x)) := (rfl)
theorem ZtK (a : E) (z : M D) : Zo (.neg a) z = z.bnd fun d => M.ret (.tmp d) := (rfl)
theorem ZtL (C : Ctx) (op : CmpOp) (a : E) (b : E) : (evb C (.cmp op a b)).1 = ((Zo a (evb C a).1).bnd fun p => (Zo b (evb C b).1).bnd fun q => (view p).bnd fun x => (view q).bnd fun y => lift ((Zc6 op x y).map fun t => .sc (.bl t))) := (rfl)
theorem ZtM (C : Ctx) (op : CmpOp) (a : E) (b : E) : (evb C (.cmp op a b)).2 = Zeb (evb C (.cmp op a b)).1 := (rfl)
theorem ZpQ (C : Ctx) (op : CmpOp) (op' : CmpOp) (a : E) (b : E) (c : E) : (evb C (.chain op op' a b c)).2 = Zeb (evb C (.chain op op' a b c)).1 := (rfl)
theorem ZtN (C : Ctx) (p : Bool) (a : E) : (evb C (.isN p a)).1 = (((Zo a (evb C a).1).bnd view).bnd fun x => M.ret (isNW p x)) := (rfl)
theorem ZtO (C : Ctx) (p : Bool) (a : E) : (evb C (.isN p a)).2 = ((Zo (.isN p a) (evb C (.isN p a)).1).bnd fun p => (view p).bnd fun w => lift (truW w)) := (rfl)
theorem ZtP (p : Bool) (a : E) (z : M D) : Zo (.isN p a) z = z.bnd fun d => M.ret (.tmp d) := (rfl)
theorem e_nt (C : Ctx) (a : E) : (evb C (.nt a)).1 = (((Zo a (evb C a).1).bnd view).bnd fun w => lift (notW w)) := (rfl)
theorem t_nt (C : Ctx) (a : E) : (evb C (.nt a)).2 = ((evb C a).2.bnd fun b => M.ret (!b)) := (rfl)
theorem ZtQ (C : Ctx) (a : E) (b : E) : (evb C (.and a b)).1 = (((Zo a (evb C a).1).bnd view).bnd (andM (evb C b).1)) := (rfl)
theorem ZtR (C : Ctx) (a : E) (b : E) : (evb C (.and a b)).2 = ((evb C a).2.bnd fun t => if t then (evb C b).2 else M.ret false) := (rfl)
theorem t_or (C : Ctx) (a : E) (b : E) : (evb C (.or a b)).2 = ((evb C a).2.bnd fun t => if t then M.ret true else (evb C b).2) := (rfl)
theorem ZtS (C : Ctx) (c : E) (a : E) (b : E) : (evb C (.ife c a b)).1 = ((evb C c).2.bnd fun t => if t then (evb C a).1 else (evb C b).1) := (rfl)
theorem e_ix (C : Ctx) (a : E) (b : E) : (evb C (.ix a b)).1 = ((Zo a (evb C a).1).bnd fun p => (Zo b (evb C b).1).bnd fun q => (view p).bnd fun x => (view q).bnd fun y => lift (ixW2 x y)) := (rfl)
theorem o_ix (a : E) (b : E) (z : M D) : Zo (.ix a b) z = z.bnd fun d => M.ret (.tmp d) := (rfl)
theorem e_sl (C : Ctx) (a : E) (b : E) (c : E) : (evb C (.sl a b c)).1 = ((Zo a (evb C a).1).bnd fun p => (ZeC b (Zo b (evb C b).1)).bnd fun l => (ZeC c (Zo c (evb C c).1)).bnd fun h => (view p).bnd fun x => lift (slD x l h)) := (rfl)
theorem o_sl (a : E) (b : E) (c : E) (z : M D) : Zo (.sl a b c) z = z.bnd fun d => M.ret (.tmp d) := (rfl)
theorem ZtT (C : Ctx) (a : E) (f : Str) : (evb C (.fld a f)).1 = (((Zo a (evb C a).1).bnd view).bnd fun x => lift (fldW C.fok f x)) := (rfl)
theorem ZtU (a : E) (f : Str) (z : M D) : Zo (.fld a f) z = z.bnd fun d => M.ret (.tmp d) := (rfl)
theorem ZtV (C : Ctx) (es : List E) : (evb C (.lst es)).1 = ((evs C es).bnd fun ds => lift (newL ds)) := (rfl)
theorem ZtW (es : List E) (z : M D) : Zo (.lst es) z = z.bnd fun d => M.ret (.tmp d) := (rfl)
theorem ZtX (C : Ctx) (es : List E) : (evb C (.tup es)).1 = ((evs C es).bnd fun ds => lift (newT ds)) := (rfl)
theorem ZtY (es : List E) (z : M D) : Zo (.tup es) z = z.bnd fun d => M.ret (.tmp d) := (rfl)
theorem e_kl (C : Ctx) (vs : List V) : (evb C (.kl vs)).1 = (lift (newL (vs.map D.sc))) := (rfl)
theorem o_kl (vs : List V) (z : M D) : Zo (.kl vs) z = z.bnd fun d => M.ret (.tmp d) := (rfl)
theorem ZrL (C : Ctx) (fi : FI) (es : List E) : (evb C (.call fi es)).1 = ((opds C es).bnd fun ps => ZcT fi ps) := (rfl)
theorem ZrM (C : Ctx) (fi : FI) (es : List E) : (evb C (.call fi es)).2 = ((Zo (.call fi es) (evb C (.call fi es)).1).bnd fun p => (view p).bnd fun w => lift (truW w)) := (rfl)
theorem ZrN (fi : FI) (es : List E) (z : M D) : Zo (.call fi es) z = z.bnd fun d => M.ret (.tmp d) := (rfl)
theorem e_bf (C : Ctx) (f : BF) (es : List E) : (evb C (.bf f es)).1 = ((opds C es).bnd fun ps => (views ps).bnd fun ws => lift (bfW f ws)) := (rfl)
theorem t_bf (C : Ctx) (f : BF) (es : List E) : (evb C (.bf f es)).2 = ((Zo (.bf f es) (evb C (.bf f es)).1).bnd fun p => (view p).bnd fun w => lift (truW w)) := (rfl)
theorem o_bf (f : BF) (es : List E) (z : M D) : Zo (.bf f es) z = z.bnd fun d => M.ret (.tmp d) := (rfl)
theorem ZrO (C : Ctx) (A : Addr) (f : Str) (fi : FI) (a : E) (es : List E) : (evb C (.meth A f fi a es)).1 = ((Zo a (evb C a).1).bnd fun p => (chkI A f p).bnd fun _ => (opds C es).bnd fun ps => ZcT fi (p :: ps)) := (rfl)
theorem ZrP (C : Ctx) (A : Addr) (f : Str) (fi : FI) (a : E) (es : List E) : (evb C (.meth A f fi a es)).2 = ((Zo (.meth A f fi a es) (evb C (.meth A f fi a es)).1).bnd fun p => (view p).bnd fun w => lift (truW w)) := (rfl)
theorem ZrQ (A : Addr) (f : Str) (fi : FI) (a : E) (es : List E) (z : M D) : Zo (.meth A f fi a es) z = z.bnd fun d => M.ret (.tmp d) := (rfl)
theorem ZtZ (C : Ctx) (A : Addr) (fi : FI) (es : List E) : (evb C (.new A fi es)).1 = ((opds C es).bnd fun ps => newF A fi ps) := (rfl)
theorem ZrR (k : Nat) (js : List Nat) (tg : Tg) (ik : IK) (es : List E) (es' : List E) (a : E) (z : M D) : Zo (.comp k js tg ik es es' a) z = z.bnd fun d => M.ret (.tmp d) := (rfl)
theorem ZrS (C : Ctx) : (evb C .dct0).1 = M.ret (.node (.dic []) true []) := (rfl)
theorem ZrT (C : Ctx) (o k : E) : (evb C (.dget o k)).1 = ((evb C o).1.bnd fun d => (dicS d).bnd fun _ => (evb C k).1.bnd fun kd => lift (Zhp d kd)) := (rfl)
theorem ZrU (ks : List (List Key)) (vs : List D) : dicS (.node (.dic ks) false vs) = M.ret () := (rfl)
theorem Zua (C : Ctx) (a : E) : (evb C (.rev a)).1 = (((Zo a (evb C a).1).bnd view).bnd fun x => lift (revW x)) := (rfl)
theorem Zub (a : E) (z : M D) : Zo (.rev a) z = z.bnd fun d => M.ret (.tmp d) := (rfl)
theorem Zuc (C : Ctx) (a : E) : retV C (.rev a) = (evb C (.rev a)).1 := (rfl)
theorem ZrV (C : Ctx) (i : Nat) (f : Str) : (evb C (.fldV i f)).1 = fldS C.fok i f := (rfl)
theorem ZrW (i : Nat) (f : Str) (z : M D) : Zo (.fldV i f) z = z.bnd fun d => M.ret (.tmp d) := (rfl)
theorem ZrX (C : Ctx) (i : Nat) (f : Str) (jx jy : Nat) : ex C (.dput i f jx jy) = Zhq C.fok i f jx jy := (rfl)
theorem Zud (ds : List D) : revW (.nd .lst ds) = some (.node .lst true ds.reverse) := (rfl)
theorem ZpR (ok : Addr -> Str -> Bool) (i j : Nat) (f : Str) (δ : List D) (C : Addr) (fs : List Str) (ds : List D) (d : D) (h : δ[i]? = some (.node (.ins C fs) true ds)) (h1 : ok C f = true) (h2 : idxF f fs = some j) (h3 : ds[j]? = some d) : fldS ok i f δ = .ok (shr d, δ.set i (.node (.ins C fs) true (ds.set j (shr d)))) := by
 unfold fldS
 simp only [h, h1, h2, h3, if_true]
theorem e_v (C : Ctx) (i : Nat) : (evb C (.v i)).1 = T.valV i := (rfl)
theorem Zol (C : Ctx) (i : Nat) (es : List E) : (evb C (.mut .append i [] es)).1 = ((chkL i).bnd fun _ => (evs C es).bnd fun ds => appM i ds) := (rfl)
theorem Zue (C : Ctx) : opds C [] = M.ret [] := (rfl)
theorem Zuf (C : Ctx) (e : E) (es : List E) : opds C (e :: es) = ((Zo e (evb C e).1).bnd fun p => (opds C es).bnd fun ps => M.ret (p :: ps)) := (rfl)
theorem evs0 (C : Ctx) : evs C [] = M.ret [] := (rfl)
theorem evs1 (C : Ctx) (e : E) (es : List E) : evs C (e :: es) = ((evb C e).1.bnd fun p => (evs C es).bnd fun ps => M.ret (p :: ps)) := (rfl)
theorem Zug (C : Ctx) : tsts C [] = M.ret true := (rfl)
theorem Zuh (C : Ctx) (e : E) (es : List E) : tsts C (e :: es) = ((evb C e).2.bnd fun b => if b then tsts C es else M.ret false) := (rfl)
theorem Zui (C : Ctx) (i : Nat) (e : E) : ex C (.asg i e) = ((evb C e).1.bnd fun d => (asgN C.lock i d).bnd fun _ => M.ret .nx) := (rfl)
theorem Zuj (C : Ctx) (is : List Nat) (e : E) : ex C (.unp is e) = (((Zo e (evb C e).1).bnd view).bnd fun w => (unpM C.lock is w).bnd fun _ => M.ret .nx) := (rfl)
theorem Zuk (C : Ctx) (i : Nat) (x e : E) : ex C (.sub i [] x e) = ((evb C e).1.bnd fun d => (Zbr i).bnd fun _ => ((Zo x (evb C x).1).bnd view).bnd fun w => (modS i (Zgr w d)).bnd fun _ => M.ret .nx) := (rfl)
theorem ZrY (C : Ctx) (i : Nat) (f : Str) (e : E) : ex C (.attr i f e) = ((evb C e).1.bnd fun d => (Zbr i).bnd fun _ => (modS i (putD C.fok f d)).bnd fun _ => M.ret .nx) := (rfl)
theorem x_ex (C : Ctx) (e : E) : ex C (.ex e) = ((evb C e).1.bnd fun _ => M.ret .nx) := (rfl)
theorem Zul (C : Ctx) (e : E) : ex C (.ret e) = ((retV C e).bnd fun d => M.ret (.rt d)) := (rfl)
theorem Zum (C : Ctx) (c : E) (a b : List S) : ex C (.iff c a b) = ((evb C c).2.bnd fun t => if t then exs C a else exs C b) := (rfl)
theorem ZrZ (C : Ctx) (tg : Tg) (ik : IK) (ies : List E) (body : List S) : ex C (.for_ tg ik ies body) = ((opds C ies).bnd fun ps => (Zac ps).bnd fun h => (lift (itW ik h.1)).bnd fun items => (forL (asgT (fun j => C.lock j || walked ies j) tg) (exs { C with lock := fun j => C.lock j || walked ies j } body) items).bnd fun f => (Zcd h.2).bnd fun _ => M.ret f) := (rfl)
theorem Zun (C : Ctx) (i : Nat) : retV C (.v i) = if C.lock i then T.valV i else movV i := (rfl)
theorem r_k (C : Ctx) (v : V) : retV C (.k v) = (evb C (.k v)).1 := (rfl)
theorem Zuo (C : Ctx) (op : Operator) (a : E) (b : E) : retV C (.bin op a b) = (evb C (.bin op a b)).1 := (rfl)
theorem Zup (C : Ctx) (op : CmpOp) (a : E) (b : E) : retV C (.cmp op a b) = (evb C (.cmp op a b)).1 := (rfl)
theorem Zuq (C : Ctx) (a : E) (b : E) : retV C (.and a b) = (evb C (.and a b)).1 := (rfl)
theorem Zur (C : Ctx) (c : E) (a : E) (b : E) : retV C (.ife c a b) = (evb C (.ife c a b)).1 := (rfl)
theorem r_ix (C : Ctx) (a : E) (b : E) : retV C (.ix a b) = (evb C (.ix a b)).1 := (rfl)
theorem Zus (C : Ctx) (a : E) (f : Str) : retV C (.fld a f) = (evb C (.fld a f)).1 := (rfl)
theorem Zut (C : Ctx) (es : List E) : retV C (.lst es) = (evb C (.lst es)).1 := (rfl)
theorem Zuu (C : Ctx) (es : List E) : retV C (.tup es) = (evb C (.tup es)).1 := (rfl)
theorem Zsa (C : Ctx) (fi : FI) (es : List E) : retV C (.call fi es) = (evb C (.call fi es)).1 := (rfl)
theorem r_bf (C : Ctx) (f : BF) (es : List E) : retV C (.bf f es) = (evb C (.bf f es)).1 := (rfl)
theorem Zsb (C : Ctx) (A : Addr) (f : Str) (fi : FI) (a : E) (es : List E) : retV C (.meth A f fi a es) = (evb C (.meth A f fi a es)).1 := (rfl)
theorem Zsc (C : Ctx) (k : Nat) (js : List Nat) (tg : Tg) (ik : IK) (es : List E) (es' : List E) (a : E) : retV C (.comp k js tg ik es es' a) = (evb C (.comp k js tg ik es es' a)).1 := (rfl)
theorem Zuv (i j : Int) : binW .Add (.sc (.int i)) (.sc (.int j)) = some (.sc (.int (i + j))) := (rfl)
theorem Zuw (i j : Int) : binW .Sub (.sc (.int i)) (.sc (.int j)) = some (.sc (.int (i - j))) := (rfl)
theorem ZbK (i j : Int) (h : (-(2 ^ 64) < i /\ i < 2 ^ 64) \/ (-(2 ^ 64) < j /\ j < 2 ^ 64)) : binW .Mult (.sc (.int i)) (.sc (.int j)) = some (.sc (.int (i * j))) := if_pos h
theorem Zfl (i j : Int) (h : 0 < j /\ j < 18446744073709551616) : binW .FloorDiv (.sc (.int i)) (.sc (.int j)) = some (.sc (.int (i / j))) := if_pos h
theorem ZbL (i j : Int) (h : 0 < j) : binW .Mod (.sc (.int i)) (.sc (.int j)) = some (.sc (.int (i % j))) := if_pos h
theorem ZjV (i j : Int) (h : 0 <= j /\ j <= 1000000 /\ i.natAbs < 2 ^ 64) : binW .Pow (.sc (.int i)) (.sc (.int j)) = some (.sc (.int (i ^ j.toNat))) := if_pos h
theorem Zmh (xs ys : List D) (h : (xs ++ ys).length <= sizeLine) : binW .Add (.nd .lst xs) (.nd .lst ys) = some (.node .lst true (xs ++ ys)) := if_pos h
theorem Zbx (ds : List D) (h : ds.length <= sizeLine) : newL ds = some (.node .lst true ds) := if_pos h
theorem ZiQ (ds : List D) (h : ds.length <= sizeLine) : newT ds = some (.node .tup true ds) := if_pos h
theorem c_lt (i j : Int) : cmpW .Lt (.sc (.int i)) (.sc (.int j)) = some (decide (i < j)) := (rfl)
theorem Zux (i j : Int) : Zc6 .Lt (.sc (.int i)) (.sc (.int j)) = some (decide (i < j)) := (rfl)
theorem c_le (i j : Int) : cmpW .LtE (.sc (.int i)) (.sc (.int j)) = some (decide (i <= j)) := (rfl)
theorem Zuy (i j : Int) : Zc6 .LtE (.sc (.int i)) (.sc (.int j)) = some (decide (i <= j)) := (rfl)
theorem Zuz (i j : Int) : Zc6 .Gt (.sc (.int i)) (.sc (.int j)) = some (decide (j < i)) := (rfl)
theorem Zu0 (i j : Int) : Zc6 .GtE (.sc (.int i)) (.sc (.int j)) = some (decide (j <= i)) := (rfl)
theorem Zsd (i j : Int) : Zc6 .Eq (.sc (.int i)) (.sc (.int j)) = some (decide (V.int i = V.int j)) := (rfl)
theorem Zse (i j : Int) : Zc6 .NotEq (.sc (.int i)) (.sc (.int j)) = some (!decide (V.int i = V.int j)) := (rfl)
theorem Zu1 (c : M D) (δ : List D) : Zeb c δ = bndR (fun d => lift (match d with | .sc (.bl b) => some b | _ => none)) (c δ) := bndA _ _ _
theorem Zu2 (b : M D) : andM b (.sc (.bl true)) = b := (rfl)
theorem Zu3 (b : M D) : andM b (.sc (.bl false)) = M.ret (.sc (.bl false)) := (rfl)
theorem Zu4 (b : Bool) : notW (.sc (.bl b)) = some (.sc (.bl (!b))) := (rfl)
theorem Zu5 (i : Int) : negW (.sc (.int i)) = some (.sc (.int (-i))) := (rfl)
theorem Zu6 (b : Bool) : truW (.sc (.bl b)) = some b := (rfl)
theorem Zu7 (ds : List D) : bfW .len [.nd .lst ds] = some (.sc (.int ds.length)) := (rfl)
theorem Zu8 (i : Int) : bfW .abs [.sc (.int i)] = some (.sc (.int (if i < 0 then -i else i))) := (rfl)
theorem Zsf (ds : List D) : bfW .list [.nd .lst ds] = some (.node .lst true ds) := (rfl)
theorem Zsg (c : M Op) : ZeC (.k .non) c = M.ret none := (rfl)
theorem Zsh (i : Int) (c : M Op) : ZeC (.k (.int i)) c = ((c.bnd view).bnd fun w => lift (intP w)) := (rfl)
theorem Zsi (i : Nat) (c : M Op) : ZeC (.v i) c = ((c.bnd view).bnd fun w => lift (intP w)) := (rfl)
theorem Zsj (op : Operator) (a b : E) (c : M Op) : ZeC (.bin op a b) c = ((c.bnd view).bnd fun w => lift (intP w)) := (rfl)
theorem Zsk (a : E) (c : M Op) : ZeC (.neg a) c = ((c.bnd view).bnd fun w => lift (intP w)) := (rfl)
theorem intp (i : Int) : intP (.sc (.int i)) = some (some i) := (rfl)
theorem sl_l (ds : List D) (l h : Option Int) : slD (.nd .lst ds) l h = some (.node .lst true (cutD ds l h)) := (rfl)
theorem sl_f (ds : List D) (l h : Option Int) : slD (.nd .frl ds) l h = some (.node .lst true (cutD ds l h)) := (rfl)
theorem Zu9 (lk : Nat -> Bool) (is : List Nat) (ds : List D) : unpM lk is (.nd .tup ds) = Zd7 lk is ds := (rfl)
theorem ZuA (lk : Nat -> Bool) (is : List Nat) (ds : List D) : unpM lk is (.nd .lst ds) = Zd7 lk is ds := (rfl)
theorem ZuB (lk : Nat -> Bool) : Zd7 lk [] [] = M.ret () := (rfl)
theorem ZuC (lk : Nat -> Bool) (i : Nat) (is : List Nat) (d : D) (ds : List D) : Zd7 lk (i :: is) (d :: ds) = ((asgN lk i d).bnd fun _ => Zd7 lk is ds) := (rfl)
theorem Zsl (lk : Nat -> Bool) (i : Nat) (d : D) : asgT lk (.name i) d = asgN lk i d := (rfl)
theorem asgn (lk : Nat -> Bool) (i : Nat) (d : D) (δ : List D) : asgN lk i d δ = if (decide (i < δ.length) && !lk i) = true then .ok ((), δ.set i d) else .stuck := (rfl)
theorem Zsm : Zac [] = M.ret ([], []) := (rfl)
theorem Zsn (p : Op) (ps : List Op) : Zac (p :: ps) = ((Zb3 p).bnd fun w => (Zac ps).bnd fun ws => M.ret (w.1 :: ws.1, w.2.toList ++ ws.2)) := (rfl)
noncomputable def hdR (i : Nat) (δ : List D) : Option D -> Rs ((W × Option (Nat × D)) × List D)
 | some (.sc v) => .ok ((.sc v, none), δ)
 | some (.node k false ds) => .ok ((.nd k ds, none), δ)
 | some (.node k true ds) => .ok ((.nd k (shrL ds), some (i, .node k true (shrL ds))), δ.set i .hole)
 | _ => .stuck
theorem Zso (i : Nat) (δ : List D) : Zb3 (.late i) δ = hdR i δ δ[i]? := by
 unfold Zb3 hdR
 (try dsimp only)
 all_goals
  cases δ[i]? with
  | none => rfl
  | some d => cases d with
   | node k o ds => cases o <;> rfl
   | _ => rfl
theorem ZuD (i : Nat) (δ : List D) (k : Kd) (ds : List D) : hdR i δ (some (.node k false ds)) = .ok ((.nd k ds, none), δ) := (rfl)
theorem ZuE (i : Nat) (δ : List D) (k : Kd) (ds : List D) : hdR i δ (some (.node k true ds)) = .ok ((.nd k (shrL ds), some (i, .node k true (shrL ds))), δ.set i .hole) := (rfl)
theorem Zsp (v : V) : Zb3 (.tmp (.sc v)) = M.ret (.sc v, none) := (rfl)
theorem Zsq (k : Kd) (o : Bool) (ds : List D) : Zb3 (.tmp (.node k o ds)) = M.ret (.nd k (shrL ds), none) := (rfl)
theorem Zsr : Zcd [] = M.ret () := (rfl)
theorem Zss (i : Nat) (d : D) (r : List (Nat × D)) (δ : List D) : Zcd ((i, d) :: r) δ = Zcd r (δ.set i d) := (rfl)
theorem it_l (ds : List D) : itW .val [.nd .lst ds] = some ds := (rfl)
theorem it_t (ds : List D) : itW .val [.nd .tup ds] = some ds := (rfl)
theorem it_1 (n : Int) (h : okR n = true) : itW .rng1 [.sc (.int n)] = some (rng 0 n) := if_pos h
theorem it_2 (a b : Int) (h : (okR a && okR b) = true) : itW .rng2 [.sc (.int a), .sc (.int b)] = some (rng a b) := if_pos h
noncomputable def mdR (i : Nat) (δ : List D) (f : Kd -> List D -> Option (D × Kd × List D)) : Option D -> Rs (D × List D)
 | some (.node k true ds) => match f k ds with
  | some (r, k', ds') => .ok (r, δ.set i (.node k' true ds'))
  | none => .stuck
 | _ => .stuck
theorem modA (i : Nat) (f : Kd -> List D -> Option (D × Kd × List D)) (δ : List D) : modS i f δ = mdR i δ f δ[i]? := by
 unfold modS mdR
 cases δ[i]? with
 | none => rfl
 | some d => cases d with
  | node k o ds => cases o <;> rfl
  | _ => rfl
theorem ZgR (i : Nat) (δ : List D) (d : D) (ds : List D) (h : ds.length < sizeLine) : mdR i δ (appD d) (some (.node .lst true ds)) = .ok (.sc .non, δ.set i (.node .lst true (ds ++ [d]))) := by
 show (match (if ds.length < sizeLine then some (D.sc .non, Kd.lst, ds ++ [d]) else none) with | some (r, k', ds') => Rs.ok (r, δ.set i (.node k' true ds')) | none => .stuck) = _
 rw [if_pos h]
theorem Zks (i : Nat) (δ : List D) (d : D) (ds : List D) (n : Int) (j : Nat) (h : ixN' ds.length n = some j) : mdR i δ (Zgr (.sc (.int n)) d) (some (.node .lst true ds)) = .ok (.sc .non, δ.set i (.node .lst true (ds.set j d))) := by
 show (match ((ixN' ds.length n).map fun j => (D.sc .non, Kd.lst, ds.set j d)) with | some (r, k', ds') => Rs.ok (r, δ.set i (.node k' true ds')) | none => .stuck) = _
 rw [h]
 rfl
theorem ZuF (i : Nat) (d : D) : appM i [d] = modS i (appD d) := (rfl)
noncomputable def ckR (δ : List D) : Option D -> Rs (Unit × List D)
 | some (.node .lst _ _) => .ok ((), δ)
 | _ => .stuck
theorem chkA (i : Nat) (δ : List D) : chkL i δ = ckR δ δ[i]? := by
 unfold chkL ckR
 cases δ[i]? with
 | none => rfl
 | some d => cases d with
  | node k o ds => cases k <;> rfl
  | _ => rfl
theorem ZuG (δ : List D) (o : Bool) (ds : List D) : ckR δ (some (.node .lst o ds)) = .ok ((), δ) := (rfl)
theorem ix_l (ds : List D) (i : Int) : ixW2 (.nd .lst ds) (.sc (.int i)) = (ixN' ds.length i).bind fun j => ds[j]? := (rfl)
end T
namespace T
open PySem PySem.Spec L2
section
variable {X : Cx} {a b c : Expr} {pos : Pos}
def r2C (K : Fg) (f : W -> W -> Option Bool) : R2 := fun x y H Q => ∃ (Hs : Hp) (w1 w2 : W) (m1 m2 : Bud) (t : Bool), Same Hs H /\ View K H Hs x w1 m1 /\ View K H Hs y w2 m2 /\ f w1 w2 = some t /\ Q (.bl t) H
theorem Zh0 (op : CmpOp) (hu : X.A.units + 64 < cLine) : OpR X (compareOp op) (r2C X.K (cmpW op)) := by
 intro pins s σ H x y v u Q I rx ry h
 obtain ⟨Hs, w1, w2, m1, m2, t, hs, v1, v2, e, q⟩ := h
 unfold cmpW at e
 split at e
 . rcases Zir hs v1 v2 e with ⟨h3, rfl⟩ | ⟨d, f, h3, h4, h5, h6, rfl⟩
   . exact ZoC pins s σ H _ _ v u Q I rx ry ⟨h3, q⟩
   . exact ZmO hu pins s σ H _ _ v u Q I rx ry ⟨d, f, h3, h4, h5, h6, q⟩
 . simp only [Option.map_eq_some_iff] at e
   obtain ⟨t, e, rfl⟩ := e
   rcases Zir hs v1 v2 e with ⟨h3, rfl⟩ | ⟨d, f, h3, h4, h5, h6, rfl⟩
   . exact ZoD pins s σ H _ _ v u Q I rx ry ⟨h3, q⟩
   . exact ZmP hu pins s σ H _ _ v u Q I rx ry ⟨d, f, h3, h4, h5, h6, q⟩
 . simp only [Option.map_eq_some_iff] at e
   obtain ⟨is, e, rfl⟩ := e
   cases v1
   cases v2 with
   | nd n r =>
    have ei := ZbD r e
    subst ei
    exact ZgL pins s σ H _ _ v u Q I rx ry ⟨_, _, rfl, .inr n, rfl, ZgP _, by rw [if_pos rfl, ZhS]; exact q⟩
 . rename_i i j _ _
   cases v1; cases v2
   cases op with
   | Lt => cases e; exact ZoE pins s σ H _ _ v u Q I rx ry ⟨_, _, rfl, rfl, q⟩
   | LtE => cases e; exact ZoF pins s σ H _ _ v u Q I rx ry ⟨_, _, rfl, rfl, q⟩
   | Gt => cases e; exact ZoG pins s σ H _ _ v u Q I rx ry ⟨_, _, rfl, rfl, q⟩
   | GtE => cases e; exact ZoH pins s σ H _ _ v u Q I rx ry ⟨_, _, rfl, rfl, q⟩
   | _ => cases e
 . cases e
noncomputable def Zkt (op op' : CmpOp) (ca cb cc : M Op) : M D := ca.bnd fun p => cb.bnd fun q => (view p).bnd fun x => (view q).bnd fun y => (lift (cmpW op x y)).bnd fun t => if t then cc.bnd fun r => (view q).bnd fun y => (view r).bnd fun z => lift ((cmpW op' y z).map fun t => .sc (.bl t)) else M.ret (.sc (.bl false))
theorem Zj3 {op op' : CmpOp} {K : Fg} {ca cb cc : M Op} {σ : St} {H : Hp} {Q : VK} (h : tM K (Zkt op op' ca cb cc) σ H Q) :
 Zkb (r2C K (cmpW op)) (r2C K (cmpW op')) (tP K ca) (tP K cb) (tP K cc) σ H Q := by
 obtain ⟨δ, Hs, M, d, δ', g, s, e, q⟩ := h
 obtain ⟨p, δ1, e1, e⟩ := Zd e
 obtain ⟨p2, δ2, e2, e⟩ := Zd e
 obtain ⟨w1, δ3, e3, e⟩ := Zd e
 obtain ⟨w2, δ4, e4, e⟩ := Zd e
 obtain ⟨t, δ5, e5, e⟩ := Zd e
 obtain ⟨e5', rfl⟩ := Za0 e5
 refine seq2 g s e1 e2 fun x y H2 Hs2 m1 m2 M2 g2 st2 r1 r2 s2 => ?_
 obtain ⟨Hs3, M3, g3, st3, v1, v2, s3⟩ := Zmd g2 s2 r1 r2 e3 e4
 have z := Zx (m1 := fun _ => 0) g (g2.re fun b => by simp) (st2.drop (fun b => by simp) g2.le) g3 st3
 have st : Stp H Hs M H2 Hs3 (fun b => (m1 b + m2 b) + M3 b) := z.2.1.drop (fun b => by simp) z.1.le
 refine ⟨Hs3, w1, w2, m1, m2, t, g3.sub, v1, v2, e5', t, rfl, ?_⟩
 cases t with
 | false =>
  rw [if_neg (by simp)]
  have := Zi (show T.M.ret (D.sc (.bl false)) _ = _ from e)
  cases this
  have G : Good H2 Hs3 (fun b => (fun _ => 0) b + M3 b) := g3.re fun b => by simp
  exact q _ _ Hs3 (fun _ => 0) M3 G (st.drop (fun b => by simp) g3.le) (.sc _ _) s3
 | true =>
  rw [if_pos rfl]
  rw [if_pos rfl] at e
  obtain ⟨p3, δ6, e6, e⟩ := Zd e
  obtain ⟨y2, δ7, e7, e⟩ := Zd e
  obtain ⟨z3, δ8, e8, e⟩ := Zd e
  obtain ⟨e9, rfl⟩ := Za0 e
  simp only [Option.map_eq_some_iff] at e9
  obtain ⟨t2, e9, rfl⟩ := e9
  have G2 : Good H2 Hs3 (fun b => m2 b + M3 b) := g3.re fun b => by omega
  have st2' : Stp H Hs M H2 Hs3 (fun b => m2 b + M3 b) := st.drop (fun b => by omega) g3.le
  refine ⟨_, Hs3, M3, p3, δ6, G2.re (fun b => by omega), s3, e6, fun z' H4 Hs4 m3 M4 g4 st4 r4 s4 => ?_⟩
  obtain ⟨G, S, k⟩ := Zx g G2 st2' g4 st4
  have ry : RepP K H4 Hs4 σ y p2 m2 := (r2.frame st3.grow fun _ _ _ => rfl).frame st4.grow k
  have G' : Good H4 Hs4 (fun b => (m2 b + m3 b) + M4 b) := G.re fun b => by omega
  have S' : Stp H Hs M H4 Hs4 (fun b => (m2 b + m3 b) + M4 b) := S.drop (fun b => by omega) G.le
  obtain ⟨Hs5, M5, g5, st5, v5, v6, s5⟩ := Zmd G' s4 ry r4 e7 e8
  have z5 := Zx (m1 := fun _ => 0) g (G'.re fun b => by simp) (S'.drop (fun b => by simp) G'.le) g5 st5
  have S5 : Stp H Hs M H4 Hs5 (fun b => (m2 b + m3 b) + M5 b) := z5.2.1.drop (fun b => by simp) z5.1.le
  refine ⟨Hs5, y2, z3, m2, m3, t2, g5.sub, v5, v6, e9, ?_⟩
  have G6 : Good H4 Hs5 (fun b => (fun _ => 0) b + M5 b) := g5.re fun b => by simp
  exact q _ _ Hs5 (fun _ => 0) M5 G6 (S5.drop (fun b => by simp) g5.le) (.sc _ _) s5
theorem Zku {op op' : CmpOp} {ca cb cc : M Op} (hu : X.A.units + 64 < cLine) (ha : PE X a (tP X.K ca)) (hb : PE X b (tP X.K cb)) (hc : PE X c (tP X.K cc)) (hm : lastMarks [op, op'] [b, c] = false := by with_unfolding_all rfl) :
 PE X (.Compare a [op, op'] [b, c] pos) (tM X.K (Zkt op op' ca cb cc)) := PE.imp (ZnF (Zh0 op hu) (Zh0 op' hu) ha hb hc hm) fun σ H Q h => Zj3 h
theorem Znk {op op' : CmpOp} {ca cb cc : M Op} (hu : X.A.units + 64 < cLine) (ha : PE X a (tP X.K ca)) (hb : PE X b (tP X.K cb)) (hc : PE X c (tP X.K cc)) (hm : lastMarks [op, op'] [b, c] = false := by with_unfolding_all rfl) :
 PT X (.Compare a [op, op'] [b, c] pos) (tT X.K (Zeb (Zkt op op' ca cb cc))) := PT.imp (ZnG (Zh0 op hu) (Zh0 op' hu) ha hb hc hm) fun σ H Q h => Zj3 (ZiN h)
end
section
variable {K : Fg} {H Hs : Hp}
theorem RepL.rev : ∀ {vs : List V} {ds : List D} {m : Bud}, RepL K H Hs vs ds m -> RepL K H Hs vs.reverse ds.reverse m
 | _, _, _, .nil m => .nil m
 | _, _, _, .cons (m1 := m1) (m2 := m2) x r l => by
  (rw [List.reverse_cons, List.reverse_cons])
  exact ((RepL.rev r).app (.cons x (.nil (fun _ => 0)) fun b => by simp; exact Nat.le_refl _)).mono fun b => by have := l b; (try dsimp only); omega
end
section
variable {X : Cx} {o e : Expr} {es : List Expr} {cpos apos : Pos} {i : Nat}
noncomputable def mutM (m : MM) (i : Nat) (cs : M (List Op)) : M D := (chkL i).bnd fun _ => cs.bnd fun ps => (views ps).bnd fun ws => modS i (mutD m ws)
theorem ZuH {m : MM} {cs : M (List Op)} {σ : St} {H : Hp} {Q : VK} {rr : V -> List V -> Hp -> VK -> Prop} (h : tM X.K (mutM m i cs) σ H Q)
 (hr : ∀ (vs : List V) (H1 : Hp) (p0 : Addr) (d : D) (ws : List W) (Hs2 : Hp) (ds ds' : List D) (us : List V) (m2 m' : Bud), mutD m ws .lst ds = some (d, .lst, ds') -> Views X.K H1 Hs2 vs ws m2 -> H1 p0 = some (.lst us) -> RepL X.K H1 Hs2 us ds m' ->
  (∀ (us' : List V) (n' nr : Bud) (rv : V), (∀ b, n' b + nr b <= m' b + m2 b) -> RepL X.K H1 Hs2 us' ds' n' -> Rep X.K H1 Hs2 rv d nr -> Q rv (upd H1 p0 (.lst us'))) -> rr (.ref p0) vs H1 Q) :
 tBM X.K "list" rr (tVar i) (tPs X.K cs) σ H Q := by
 obtain ⟨δ, Hs, M, d, δ', g, s, ea, q⟩ := h
 obtain ⟨u, δ0, e0, eb⟩ := Zd ea
 obtain ⟨ps, δ1, e1, ec⟩ := Zd eb
 obtain ⟨rfl, p0, h1, h2⟩ := Znc g s e0
 refine ⟨_, h1, h2, δ0, Hs, M, ps, δ1, g, s, e1, fun vs H1 Hs1 m1 M1 g1 st1 r1 s1 => ?_⟩
 exact ZpA (m := m) g g1 st1 r1 s1 h1 ec q fun ws Hs2 ds ds' us m2 m' a b c d' f => hr vs H1 p0 d ws Hs2 ds ds' us m2 m' a b c d' f
theorem Znl {cs : M (List Op)} (ho : PE X o (tVar i)) (ha : PA X [e] (tPs X.K cs))
 (hbase : attributeBase o "extend" X.env (eval o X.env) = eval o X.env := by rfl)
 (hfew : ((backTo cpos (starEach [e] X.env)).all (fun x => !x.1) && (backToKw cpos (keywordEach [] X.env)).all (fun x => x.1.isSome)
  && decide ([e].length + ([] : List Keyword).length + (if ([] : List Keyword).isEmpty then 0 else 1) < 30)) = true := by rfl)
 (hline : (apos.endLine == cpos.line) = true := by rfl) (hs : starEach [e] X.env = (false, eval e X.env) :: starEach [] X.env := by rfl) (hplain : (backTo cpos (starEach [] X.env)).any (·.1) = false := by rfl) :
 PE X (.Call (.Attribute o "extend" apos) [e] [] cpos) (tM X.K (mutM .extend i cs)) :=
 PE.imp (ZoM PySem.F.plainAttrs_list PySem.F.slot_list_extend PySem.F.type_list_extend ZmI ho ha hbase hfew hline hs hplain) fun σ H Q h => ZuH h fun vs H1 p0 d ws Hs2 ds ds' us m2 m' hm hv n rl fin => by
  unfold mutD at hm
  split at hm
  . split at hm
    . rename_i hl
      cases hm
      obtain ⟨v, m1, rfl, hv, l⟩ := hv.one
      cases hv with
      | nd nn rr =>
       have l1 := rl.len
       have l2 := rr.len
       exact ⟨p0, _, us, _, rfl, rfl, n, nn, by omega, fin _ (fun b => m' b + m1 b) (fun _ => 0) .non (fun b => by have := l b; (try dsimp only); omega) (rl.app rr) (.sc _ _)⟩
    . cases hm
  all_goals (first | contradiction | cases hm)
end
end T
namespace T
open PySem PySem.Spec L2
section
variable {X : Cx} {a b o e k : Expr} {pos pos' : Pos} {i : Nat} {lk : Nat -> Bool}
theorem ZpS {α β : Type} {c : M α} {f : α -> M β} {δ δ' : List D} {x : α} (h : c δ = .ok (x, δ')) : c.bnd f δ = f x δ' := by
 unfold M.bnd
 rw [h]
theorem ZcF {ca cb : M Op} (hu : X.A.units + 64 < cLine) (ha : PE X a (tP X.K ca)) (hb : PE X b (tP X.K cb)) (hs : ZiL b := by intro _ _; rfl) :
 PE X (.Subscript a b pos) (tM X.K (ca.bnd fun p => cb.bnd fun q => (view p).bnd fun x => (view q).bnd fun y => lift (ixW2 x y))) := ZsS ha hb hs
theorem ZiR {op : CmpOp} {ca cb : M Op} (hu : X.A.units + 64 < cLine) (ha : PE X a (tP X.K ca)) (hb : PE X b (tP X.K cb)) (hm : behindInMarks op b = false := by first | exact nomark _ | with_unfolding_all rfl) :
 PE X (.Compare a [op] [b] pos) (tM X.K (ca.bnd fun p => cb.bnd fun q => (view p).bnd fun x => (view q).bnd fun y => lift ((Zc6 op x y).map fun t => .sc (.bl t)))) := Zrl hu ha hb hm
theorem Zae {op : CmpOp} {ca cb : M Op} (hu : X.A.units + 64 < cLine) (ha : PE X a (tP X.K ca)) (hb : PE X b (tP X.K cb)) (hm : behindInMarks op b = false := by first | exact nomark _ | with_unfolding_all rfl) :
 PT X (.Compare a [op] [b] pos) (tT X.K (Zeb (ca.bnd fun p => cb.bnd fun q => (view p).bnd fun x => (view q).bnd fun y => lift ((Zc6 op x y).map fun t => .sc (.bl t))))) := Zp4 hu ha hb hm
theorem ZiS {c : M D} {ck : M Op} (hu : X.A.units + 64 < cLine) (ho : PE X o (tVar i)) (hk : PE X k (tP X.K ck)) (he : PE X e (tM X.K c))
 (ha : ∀ v, assign (.Subscript o k pos') X.env v = (do
  let ov <- holding [v] (eval o X.env)
  let iv <- holding [v, ov] (eval k X.env)
  standAt pos'
  holding [v, ov, iv] (setItem ov iv v)
  release [v, ov, iv] []) := by intro _; rfl)
 (hs : swapsWithSole [.Subscript o k pos'] e pos.line X.env = pure false := by rfl) (hw : swappedStores [.Subscript o k pos'] e X.env = pure none := by rfl)
 (h1 : (assignEach [.Subscript o k pos'] X.env).map (·.2) = [assign (.Subscript o k pos') X.env] := by rfl) :
 PS X (.Assign [.Subscript o k pos'] e pos) (tS X.K lk (c.bnd fun d => (Zbr i).bnd fun _ => (ck.bnd view).bnd fun w => (modS i (Zgr w d)).bnd fun _ => M.ret .nx)) := Zrv ho hk he ha hs hw h1
end
end T
namespace T
open PySem PySem.Spec L2
theorem ZgS : ∀ (c : Int) (ds : List D), (Zcc c ds).length = ds.length
 | _, [] => rfl
 | c, d :: ds => by rw [Zcc, List.length_cons, List.length_cons, ZgS]
theorem Zkv : ∀ (c : Int) (ds : List D) (i : Nat) {d : D}, (Zcc c ds)[i]? = some d -> ∃ x, ds[i]? = some x /\ d = .node .tup false [.sc (.int (c + i)), x]
 | _, [], i, _, h => by simp [Zcc] at h
 | c, x :: ds, 0, d, h => by
  rw [Zcc, List.getElem?_cons_zero] at h
  cases h
  exact ⟨x, rfl, by simp⟩
 | c, x :: ds, i + 1, d, h => by
  rw [Zcc, List.getElem?_cons_succ] at h
  obtain ⟨y, e1, e2⟩ := Zkv (c + 1) ds i h
  refine ⟨y, by rw [List.getElem?_cons_succ]; exact e1, ?_⟩
  have z : c + 1 + (i : Int) = c + ((i + 1 : Nat) : Int) := by omega
  rw [e2, z]
theorem Znm {K : Fg} {a : Addr} {vs : List V} {ds : List D} {B : Bud} {c : Int} : Walk K (Ite K a c) (Zcc c ds) B (fun H Hs => (SqL K Hs a vs \/ (H a = some (.lst vs) /\ B a ≥ 1)) /\ RepL K H Hs vs ds (fun _ => 0)) := by
 have sq : ∀ {H Hs : Hp}, Same Hs H -> (SqL K Hs a vs \/ (H a = some (.lst vs) /\ B a ≥ 1)) -> SqL K H a vs := fun g h => h.elim (fun h => g.seq h) fun h => .inl (.inl h.1)
 refine ⟨fun h g k => ⟨?_, h.2.frame g fun b hb => absurd hb (by simp)⟩, fun {H Hs i} g h l => ?_, fun {H Hs H' i x d} g h e y => ?_, fun {H Hs i} g h l => ?_⟩
 . rcases h.1 with h | ⟨h, hb⟩
   . exact .inl (g.seq h)
   . exact .inr ⟨(k a hb (by rw [h]; simp)).trans h, hb⟩
 . have e := h.2.len
   rw [ZgS] at l
   exact ⟨vs, _, sq g h.1, List.getElem?_eq_getElem (show i < vs.length by omega)⟩
 . obtain ⟨x1, e1, e2⟩ := Zkv c ds i e
   subst e2
   obtain ⟨A, y1, rfl, hA, rfl, hy⟩ := y
   obtain ⟨v, m1, ev, rv, lv⟩ := h.2.at e1
   have hv := hy vs (sq g h.1)
   rw [ev] at hv
   cases hv
   have gr : Grow H Hs (upd H A (.tup [.int (c + i), y1])) (upd Hs A (.tup [.int (c + i), y1])) := .inr ⟨A, _, hA, rfl, rfl⟩
   obtain ⟨sm, fr, _⟩ := gr.same g
   refine ⟨_, gr, .shd (k := .tup) (vs := [.int (c + i), y1]) (show _ = some _ from Zr) (.cons (m1 := fun _ => 0) (m2 := fun _ => 0) (.sc _ _) (.cons (m1 := fun _ => 0) (m2 := fun _ => 0) ((rv.mono lv).frame sm fun b _ n => fr b n) (.nil _) fun b => by simp) fun b => by simp)⟩
 . have e := h.2.len
   rw [ZgS] at l
   exact ⟨vs, sq g h.1, by omega⟩
theorem Zst {c cb : M Op} {n : Int} {δ δ' : List D} {h : List W × List (Nat × D)} (hcb : ∀ δ, cb δ = .ok (.tmp (.sc (.int n)), δ)) (e : ((c.bnd fun p => (cb.bnd fun p => (M.ret ([] : List Op)).bnd fun ps => M.ret (p :: ps)).bnd fun ps => M.ret (p :: ps)).bnd Zac) δ = .ok (h, δ')) :
 ∃ p δ1 w, c δ = .ok (p, δ1) /\ Zb3 p δ1 = .ok (w, δ') /\ h = ([w.1, .sc (.int n)], w.2.toList) := by
 obtain ⟨ps, δ1, e1, e2⟩ := Zd e
 obtain ⟨p, δ2, e3, e4⟩ := Zd e1
 obtain ⟨qs, δ3, e5, e6⟩ := Zd e4
 obtain ⟨p2, δ4, e7, e8⟩ := Zd e5
 rw [hcb] at e7
 cases e7
 obtain ⟨z, δ5, e9, e10⟩ := Zd e8
 have := Zi e9
 cases this
 have := Zi e10
 cases this
 have := Zi e6
 cases this
 obtain ⟨w, δ6, e11, e12⟩ := Zd e2
 obtain ⟨ws, δ7, e13, e14⟩ := Zd e12
 obtain ⟨w2, δ8, e15, e16⟩ := Zd e13
 have := Zi e15
 cases this
 obtain ⟨z, δ9, e17, e18⟩ := Zd e16
 have := Zi e17
 cases this
 have := Zi e18
 cases this
 have := Zi e14
 cases this
 exact ⟨p, _, w, e3, e11, by simp⟩
theorem Zmi {X : Cx} {x : Str} {i : Int} {p : Pos} (hg : Gl X x) (h : ∃ t, X.mg x = some (.int i t)) (hd : (x == ("__debug__" : Str)) = false) : PE X (.Name x p) (tM X.K (M.ret (.sc (.int i)))) := by
 obtain ⟨t, h⟩ := h
 exact ok_k (Zlh hg h ⟨t, rfl⟩ hd)
theorem ZjW {X : Cx} {es : List Expr} {k1 : Nat} {q : Pos} {is : List Nat} (hc : X.calm = true) (hg : PGs X es (gNs is)) (hn : (assignEach es X.env).length = is.length := by rfl) (hst : (assignEach es X.env).findIdx? (·.1) = none := by rfl) : PG X (.Tuple es k1 q) (gT X.K (.tup is)) := Znd hc hg hn hst
section
variable {X : Cx} {es : List Expr} {k1 : Nat} {l ke : Expr} {ca cb : M Op} {p pos q kp : Pos} {c : Int}
theorem ZpT (hl : PE X l (tP X.K ca)) (hcb : ∀ δ, cb δ = .ok (.tmp (.sc (.int c)), δ)) (σ : St) (H : Hp) (R : It -> Hp -> Prop) (h : tI X.K .enum (ca.bnd fun p => (cb.bnd fun p => (M.ret ([] : List Op)).bnd fun ps => M.ret (p :: ps)).bnd fun ps => M.ret (p :: ps)) σ H R) : ZoP X.K c (ZjQ (tP X.K ca) tNil) σ H R /\ Builtin.SmallTypes.fitsIndex c = true := by
 obtain ⟨δ, Hs, M, h, items, δ', g, s, e, ei, z⟩ := h
 obtain ⟨p, δ1, w, e1, e2, rfl⟩ := Zst hcb e
 obtain ⟨w1, w2⟩ := w
 have core : ∀ (x : V) (H2 Hs2 : Hp) (m1 M2 : Bud), Good H2 Hs2 (fun b => m1 b + M2 b) -> Stp H Hs M H2 Hs2 (fun b => m1 b + M2 b) -> RepP X.K H2 Hs2 σ x p m1 -> RepS X.K H2 Hs2 σ δ1 M2 ->
  ∃ Hs3 B M3, Good H2 Hs3 (fun b => B b + M3 b) /\ Stp H Hs M H2 Hs3 (fun b => B b + M3 b) /\ RepS X.K H2 Hs3 σ δ' M3 /\ Held X.K H2 Hs3 σ w2.toList B /\ HW X.K H2 Hs3 B x w1 := fun x H2 Hs2 m1 M2 g2 st2 r1 s2 => by
  obtain ⟨Hs3, B, M3, g3, st3, s3, hh, hw⟩ := Ze5 g2 s2 r1 e2
  have z := Zx (m1 := fun _ => 0) g (g2.re fun b => by simp) (st2.drop (fun b => by simp) g2.le) g3 st3
  exact ⟨Hs3, B, M3, g3, z.2.1.drop (fun b => by simp) z.1.le, s3, hh, hw⟩
 have fit : okR c = true -> Builtin.SmallTypes.fitsIndex c = true := fun h => by
  simp only [okR, Bool.and_eq_true, decide_eq_true_eq] at h
  simp only [Builtin.SmallTypes.fitsIndex, Bool.and_eq_true, decide_eq_true_eq]
  omega
 cases w1 with
 | sc u => cases ei
 | nd k ds =>
  have hkk : (k = .lst \/ k = .frl) /\ okR c = true /\ items = Zcc c ds := by
   simp only [itW, ZoQ] at ei
   split at ei
   . rename_i hk; cases ei; exact ⟨hk.1, hk.2, rfl⟩
   . cases ei
  obtain ⟨hk, hc, rfl⟩ := hkk
  refine ⟨⟨δ, Hs, M, p, δ1, g, s, e1, fun x H2 Hs2 m1 M2 g2 st2 r1 s2 => ?_⟩, fit hc⟩
  obtain ⟨Hs3, B, M3, g3, st3, s3, hh, a, vs, hx, hr, hn⟩ := core x H2 Hs2 m1 M2 g2 st2 r1 s2
  have hp : SqL X.K Hs3 a vs \/ (H2 a = some (.lst vs) /\ B a ≥ 1) := by
   rcases hk with rfl | rfl
   . exact hn.elim (fun n => .inl (.inl (.inl n))) fun n => .inr n
   . exact hn.elim (fun n => .inl n) fun n => n.1.elim
  refine ⟨a, by rw [hx], ⟨vs, ?_⟩, z _ _ H2 Hs3 B M3 g3 st3 s3 hh Znm ⟨hp, hr⟩⟩
  rcases hp with hp | hp
  . exact g3.sub.seq hp
  . exact .inl (.inl hp.1)
theorem Zkw (hg : Gl X "enumerate") (hm : X.mg "enumerate" = none) (hl : PE X l (tP X.K ca)) (hcb : ∀ δ, cb δ = .ok (.tmp (.sc (.int 0)), δ) := by intro _; rfl) (hs : starEach [l] X.env = [(false, eval l X.env)] := by rfl) :
 PI X (.Tuple es k1 q) (.Call (.Name "enumerate" p) [l] [] pos) (tI X.K .enum (ca.bnd fun p => (cb.bnd fun p => (M.ret ([] : List Op)).bnd fun ps => M.ret (p :: ps)).bnd fun ps => M.ret (p :: ps))) := PI.imp (Zp1 hg hm (Zbg hl Zdt (by rw [hs]; rfl)) hs) fun σ H R h => (ZpT hl hcb σ H R h).1
end
end T
namespace T
open PySem PySem.Spec L2 PySem.W
noncomputable abbrev dI (xs : List Int) : List D := xs.map fun i => D.sc (.int i)
theorem Zai (x : Int) (xs : List Int) : dI (x :: xs) = .sc (.int x) :: dI xs := (rfl)
theorem Zkx : dI [] = [] := (rfl)
theorem ZaW (xs ys : List Int) : dI (xs ++ ys) = dI xs ++ dI ys := List.map_append
theorem ZK (xs : List Int) : (dI xs).length = xs.length := List.length_map _
theorem Z3 (xs : List Int) : shrL (dI xs) = dI xs := by
 induction xs with
 | nil => rfl
 | cons x xs ih => simp only [List.map_cons, shrL, shr] at ih ⊢; rw [ih]
theorem ZeD (xs : List Int) : Zb2 (dI xs) = some xs := by
 induction xs with
 | nil => rfl
 | cons x xs ih => simp only [List.map_cons, Zb2] at ih ⊢; rw [ih]; rfl
theorem ZuI (ds : List D) : bfW .sum [.nd .lst ds] = (Zb2 ds).map fun is => .sc (.int is.sum) := (rfl)
theorem Zky (xs : List Int) : bfW .sum [.nd .lst (dI xs)] = some (.sc (.int xs.sum)) := by rw [ZuI, ZeD]; rfl
theorem ZoS (w : W) : bfW (.isi .bool) [w] = (tyW .bool w).map fun b => .sc (.bl b) := (rfl)
theorem Zom (xs : List Int) : pyL (dI xs) = some (xs.map PyData.int) := by
 induction xs with
 | nil => rfl
 | cons x xs ih => simp only [List.map_cons, pyL, py] at ih ⊢; rw [ih]; rfl
theorem Zon (xs : List Int) : PyData.canLayAll0 (xs.map PyData.int) = true := by
 induction xs with
 | nil => rfl
 | cons x xs ih => simp only [List.map_cons, PyData.canLayAll0, PyData.canLay0, ih, Bool.and_self]
theorem Znn (xs : List Int) : PyData.depthAll (xs.map PyData.int) = 0 := by
 induction xs with
 | nil => rfl
 | cons x xs ih => simp only [List.map_cons, PyData.depthAll, PyData.depth, ih, Nat.max_self]
theorem ZhM (xs : List Int) : SeqAt.shaped (.list (xs.map PyData.int)) = true := by
 simp only [SeqAt.shaped, PyData.canLay0, PyData.depth, Zon, Znn]
 decide
theorem Zkz : ∀ xs ys : List Int, PyData.eqvAll (xs.map PyData.int) (ys.map PyData.int) = decide (xs = ys)
 | [], [] => by simp only [List.map_nil, PyData.eqvAll, decide_true]
 | [], y :: ys => by simp [PyData.eqvAll]
 | x :: xs, [] => by simp [PyData.eqvAll]
 | x :: xs, y :: ys => by
  simp only [List.map_cons, PyData.eqvAll, PyData.eqv, Zkz xs ys]
  (by_cases h1 : x = y <;> by_cases h2 : xs = ys <;> simp [h1, h2])
theorem ZjX (xs ys : List Int) : Zc6 .Eq (.nd .lst (dI xs)) (.nd .lst (dI ys)) = some (decide (xs = ys)) := by
 show (py (.node .lst false (dI xs))).bind (fun a => (py (.node .lst false (dI ys))).bind fun b => eqPy a b) = _
 simp only [py, Zom, Option.map_some, Option.bind_some]
 unfold eqPy
 rw [if_pos ⟨ZhM xs, ZhM ys⟩]
 simp only [PyData.eqv, Zkz]
noncomputable def cutI (xs : List Int) (lo hi : Option Int) : List Int := (xs.drop (HT.sIx xs.length 0 lo)).take (HT.sIx xs.length xs.length hi - HT.sIx xs.length 0 lo)
theorem Zfw (xs : List Int) (lo hi : Option Int) : cutD (dI xs) lo hi = dI (cutI xs lo hi) := by
 unfold cutD cutI
 simp only [List.length_map, List.map_take, List.map_drop]
theorem Zoo (xs : List Int) (k : Nat) : cutI xs (some (k : Int)) (some ((k : Int) + 1)) = (xs[k]?).toList := by
 unfold cutI
 have e1 : ((k : Int) + 1) = ((k + 1 : Nat) : Int) := by omega
 rw [e1, HT.Zfo, HT.Zfo]
 by_cases h : k < xs.length
 . rw [Nat.min_eq_left (by omega), Nat.min_eq_left (by omega), List.getElem?_eq_getElem h, List.drop_eq_getElem_cons h]
   have : k + 1 - k = 1 := by omega
   rw [this]
   rfl
 . rw [Nat.min_eq_right (by omega), Nat.min_eq_right (by omega), List.getElem?_eq_none (by omega)]
   simp
noncomputable def rngI : Int -> Nat -> List Int
 | _, 0 => []
 | a, n + 1 => a :: rngI (a + 1) n
theorem ZpU (a : Int) : ∀ (n : Nat) (f : Nat -> Int), (∀ k, f k = a + k) -> (List.range n).map (fun k => D.sc (.int (f k))) = dI (rngI a n) := by
 intro n
 induction n generalizing a with
 | zero => intro f _; rfl
 | succ n ih =>
  intro f hf
  (rw [List.range_succ_eq_map, List.map_cons, List.map_map])
  show _ = D.sc (.int a) :: dI (rngI (a + 1) n)
  have h0 : f 0 = a := by rw [hf]; simp
  rw [h0]
  congr 1
  exact ih (a + 1) (fun k => f (k + 1)) fun k => by rw [hf]; omega
theorem Zk0 (a b : Int) : rng a b = dI (rngI a (b - a).toNat) := ZpU a _ (fun k => a + k) fun k => rfl
theorem Zop (a : Int) : ∀ n, (rngI a n).length = n := by
 intro n
 induction n generalizing a with
 | zero => rfl
 | succ n ih => rw [rngI, List.length_cons, ih]
theorem ZuJ (n : Int) (h : -(2 ^ 62) <= n /\ n < 2 ^ 62) : itW .rng1 [.sc (.int n)] = some (dI (rngI 0 n.toNat)) := by
 rw [it_1 n (by simp only [okR, Bool.and_eq_true, decide_eq_true_eq]; exact h), Zk0]
 have : n - 0 = n := by omega
 rw [this]
theorem Zmj (a b : Int) (h : -(2 ^ 62) <= a /\ a < 2 ^ 62 /\ -(2 ^ 62) <= b /\ b < 2 ^ 62) : itW .rng2 [.sc (.int a), .sc (.int b)] = some (dI (rngI a (b - a).toNat)) := by
 rw [it_2 a b (by simp only [okR, Bool.and_eq_true, decide_eq_true_eq]; exact ⟨⟨h.1, h.2.1⟩, h.2.2⟩), Zk0]
theorem it_e (ds : List D) (c : Int) (h : -(2 ^ 62) <= c /\ c < 2 ^ 62) : itW .enum [.nd .lst ds, .sc (.int c)] = some (Zcc c ds) := by
 show (if _ then _ else _) = _
 rw [if_pos ⟨.inl rfl, by simp only [okR, Bool.and_eq_true, decide_eq_true_eq]; exact h⟩]
theorem Ziy (lk : Nat -> Bool) (is : List Nat) (o : Bool) (ds : List D) : asgT lk (.tup is) (.node .tup o ds) = Zd7 lk is ds := (rfl)
theorem ixI (xs : List Int) (k : Int) (h0 : 0 <= k) (h : k < xs.length) : ((ixN' (dI xs).length k).bind fun j => (dI xs)[j]?) = some (.sc (.int (xs.getD k.toNat 0))) := by
 rw [List.length_map]
 unfold ixN'
 rw [if_pos h0, if_pos h]
 (have hk : k.toNat < xs.length := by omega)
 show (dI xs)[k.toNat]? = _
 rw [List.getElem?_map, List.getElem?_eq_getElem hk, List.getD_eq_getElem?_getD, List.getElem?_eq_getElem hk]
 rfl
noncomputable def notV : E -> Bool
 | .v _ => false
 | _ => true
theorem Zcr {e : E} {c : M D} {lk : Nat -> Bool} (h : notV e = true) : ZcV (Zo e c) lk := by
 rw [ZpF fun j z => by subst z; cases h]
 exact Zry
section
variable {asg : D -> M Unit} {cond : M Bool} {elt : M D} {d : D} {ds acc δ δ' δ1 caps : List D} {k : Nat} {js : List Nat} {loop : M (List D)}
theorem Zee : Za4 asg cond elt (d :: ds) acc δ = ((asg d).bnd fun _ => cond.bnd fun b => if b then elt.bnd fun x => Za4 asg cond elt ds (acc ++ [x]) else Za4 asg cond elt ds acc) δ := (rfl)
noncomputable def Zbc (fok : Addr -> Str -> Bool) (fuel k : Nat) (tg : Tg) (cond : List E) (elt : E) (items acc : List D) : M (List D) := Za4 (asgT (fun i => decide (k <= i)) tg) (tsts ⟨fun i => decide (k <= i), fok, fuel⟩ cond) (evb ⟨fun i => decide (k <= i), fok, fuel⟩ elt).1 items acc
theorem ZpV (C : Ctx) (k : Nat) (js : List Nat) (tg : Tg) (ik : IK) (es es' : List E) (a : E) : (evb C (.comp k js tg ik es es' a)).1 = ((opds C es).bnd fun ps => (Zac ps).bnd fun h => (lift (itW ik h.1)).bnd fun items => (Zb4 k js (Zbc C.fok C.fuel k tg es' a items [])).bnd fun d => (Zcd h.2).bnd fun _ => M.ret d) := (rfl)
theorem Zcg (h1 : ZfV js δ = .ok (caps, δ1)) (h2 : loop (List.replicate k .hole ++ caps) = .ok (acc, δ')) (h3 : acc.length <= sizeLine) : Zb4 k js loop δ = ((ZdL js (δ'.drop k)).bnd fun _ => M.ret (.node .lst true acc)) δ1 := by
 unfold Zb4
 rw [Znj h1, h2]
 show ((ZdL js (δ'.drop k)).bnd fun _ => lift (newL acc)) δ1 = _
 rw [Zbx _ h3]
 rfl
end
end T
namespace T
open PySem PySem.Spec L2
theorem ZpW {K : Fg} {ca : M Op} {p : Bool} {σ : St} {H : Hp} {Q : Bool -> Hp -> Prop} (h : tT K ((((ca.bnd view).bnd fun x => M.ret (isNW p x)).bnd fun d => M.ret (.tmp d)).bnd fun q => (view q).bnd fun w => lift (truW w)) σ H Q) :
 tM K ((ca.bnd view).bnd fun x => M.ret (isNW p x)) σ H (fun x H' => ∃ k, x = .bl k /\ Q k H') := by
 obtain ⟨δ, Hs, M, b, δ', g, s, e, q⟩ := h
 obtain ⟨op, δ1, e1, e2⟩ := Zd e
 obtain ⟨d, δ2, e3, e4⟩ := Zd e1
 have := Zi e4
 cases this
 have hb : ∃ t, d = .sc (.bl t) := by
  obtain ⟨x, δ3, e5, e6⟩ := Zd e3
  have := Zi e6
  cases this
  cases x <;> exact ⟨_, rfl⟩
 obtain ⟨t, rfl⟩ := hb
 obtain ⟨w, δ4, e7, e8⟩ := Zd e2
 have := Zi (show T.M.ret (W.sc (.bl t)) δ1 = .ok (w, δ4) from e7)
 cases this
 obtain ⟨e9, rfl⟩ := Za0 e8
 cases e9
 refine ZiN (c := (ca.bnd view).bnd fun x => T.M.ret (isNW p x)) ⟨δ, Hs, M, _, _, g, s, ?_, q⟩
 unfold Zeb
 rw [Znj e3]
 rfl
theorem Zl1 (C : T.Ctx) (op op' : CmpOp) (a b e : E) : (evb C (.chain op op' a b e)).1 = ((Zo a (evb C a).1).bnd fun p => (Zo b (evb C b).1).bnd fun q => (view p).bnd fun x => (view q).bnd fun y => (lift (cmpW op x y)).bnd fun t => if t then (Zo e (evb C e).1).bnd fun r => (view q).bnd fun y => (view r).bnd fun z => lift ((cmpW op' y z).map fun t => .sc (.bl t)) else M.ret (.sc (.bl false))) := (rfl)
section
variable {X : Cx} {a : Expr} {pos pos' : Pos} {ca : M Op}
theorem ZpX (ha : PE X a (tP X.K ca)) {j} : PT X (.Compare a [.Is] [.Constant .none j pos'] pos) (tT X.K ((((ca.bnd view).bnd fun x => M.ret (isNW true x)).bnd fun d => M.ret (.tmp d)).bnd fun q => (view q).bnd fun w => lift (truW w))) := PT.imp (Zq8 (Zq7 ha)) fun σ H Q h => by
 have h2 : tM X.K ((ca.bnd view).bnd fun x => lift (some (isNW true x))) σ H _ := ZpW h
 exact op1 (r := fun x H1 Q => Q (.bl (decide (x = .non))) H1) h2 fun x H Hs w m d g h1 h2 v e o => by
  cases e
  rw [(ZpG v).1] at o
  exact o.sc
end
end T
namespace T
open PySem PySem.Spec L2
theorem Zl2 : ∀ (ds es : List D) (i : Nat) {d : D}, (zipD ds es)[i]? = some d -> ∃ x y, ds[i]? = some x /\ es[i]? = some y /\ d = .node .tup false [x, y]
 | [], es, i, d, h => by simp [zipD] at h
 | x :: ds, [], i, d, h => by simp [zipD] at h
 | x :: ds, y :: es, 0, d, h => by
  rw [zipD, List.getElem?_cons_zero] at h
  cases h
  exact ⟨x, y, rfl, rfl, rfl⟩
 | x :: ds, y :: es, i + 1, d, h => by
  rw [zipD, List.getElem?_cons_succ] at h
  obtain ⟨u, v, e1, e2, e3⟩ := Zl2 ds es i h
  exact ⟨u, v, by rw [List.getElem?_cons_succ]; exact e1, by rw [List.getElem?_cons_succ]; exact e2, e3⟩
theorem ZhW : ∀ ds es : List D, (zipD ds es).length = min ds.length es.length
 | [], es => by simp [zipD]
 | x :: ds, [] => by simp [zipD]
 | x :: ds, y :: es => by rw [zipD, List.length_cons, List.length_cons, List.length_cons, ZhW ds es]; omega
def Stays (K : Fg) (B : Bud) (a : Addr) (vs : List V) (H Hs : Hp) : Prop := SqL K Hs a vs \/ (H a = some (.lst vs) /\ B a ≥ 1)
theorem Stays.sq {K : Fg} {B : Bud} {a : Addr} {vs : List V} {H Hs : Hp} (g : Same Hs H) (h : Stays K B a vs H Hs) : SqL K H a vs := h.elim (fun h => g.seq h) fun h => .inl (.inl h.1)
theorem Stays.frame {K : Fg} {B : Bud} {a : Addr} {vs : List V} {H Hs H' Hs' : Hp} (h : Stays K B a vs H Hs) (g : Same Hs Hs') (k : ∀ b, B b ≥ 1 -> H b ≠ none -> H' b = H b) : Stays K B a vs H' Hs' := by
 rcases h with h | ⟨h, hb⟩
 . exact .inl (g.seq h)
 . exact .inr ⟨(k a hb (by rw [h]; simp)).trans h, hb⟩
theorem Zoq {K : Fg} {a b : Addr} {vs ws : List V} {ds es : List D} {B : Bud} : Walk K (Itz K a b) (zipD ds es) B (fun H Hs => (Stays K B a vs H Hs /\ Stays K B b ws H Hs) /\ RepL K H Hs vs ds (fun _ => 0) /\ RepL K H Hs ws es (fun _ => 0)) := by
 refine ⟨fun h g k => ⟨⟨h.1.1.frame g k, h.1.2.frame g k⟩, h.2.1.frame g fun b hb => absurd hb (by simp), h.2.2.frame g fun b hb => absurd hb (by simp)⟩, fun {H Hs i} g h l => ?_, fun {H Hs H' i x d} g h e y => ?_, fun {H Hs i} g h l => ?_⟩
 . have e1 := h.2.1.len
   have e2 := h.2.2.len
   rw [ZhW] at l
   exact ⟨vs, ws, _, _, h.1.1.sq g, h.1.2.sq g, List.getElem?_eq_getElem (show i < vs.length by omega), List.getElem?_eq_getElem (show i < ws.length by omega)⟩
 . obtain ⟨x1, y1, e1, e2, rfl⟩ := Zl2 ds es i e
   obtain ⟨A, u, v, rfl, hA, rfl, hu, hv⟩ := y
   obtain ⟨u', m1, eu, ru, lu⟩ := h.2.1.at e1
   obtain ⟨v', m2, ev, rv, lv⟩ := h.2.2.at e2
   have qu := hu vs (h.1.1.sq g)
   have qv := hv ws (h.1.2.sq g)
   rw [eu] at qu
   rw [ev] at qv
   cases qu
   cases qv
   have gr : Grow H Hs (upd H A (.tup [u, v])) (upd Hs A (.tup [u, v])) := .inr ⟨A, _, hA, rfl, rfl⟩
   obtain ⟨sm, fr, _⟩ := gr.same g
   refine ⟨_, gr, .shd (k := .tup) (vs := [u, v]) (show _ = some _ from Zr) (.cons (m1 := fun _ => 0) (m2 := fun _ => 0) ((ru.mono lu).frame sm fun b _ n => fr b n) (.cons (m1 := fun _ => 0) (m2 := fun _ => 0) ((rv.mono lv).frame sm fun b _ n => fr b n) (.nil _) fun b => by simp) fun b => by simp)⟩
 . have e1 := h.2.1.len
   have e2 := h.2.2.len
   rw [ZhW] at l
   exact ⟨vs, ws, h.1.1.sq g, h.1.2.sq g, by omega⟩
theorem Held.app {K : Fg} {H Hs : Hp} {σ : St} : ∀ {l r : List (Nat × D)} {m n : Bud}, Held K H Hs σ l m -> Held K H Hs σ r n -> Held K H Hs σ (l ++ r) (fun b => m b + n b)
 | [], r, m, n, _, h => Held.more h fun b => by omega
 | (i, d) :: l, r, m, n, ⟨v, m1, m2, e, x, y, q⟩, h => ⟨v, m1, fun b => m2 b + n b, e, x, Held.app y h, fun b => by have := q b; (try dsimp only); omega⟩
where
 Held.more {K : Fg} {H Hs : Hp} {σ : St} : ∀ {l : List (Nat × D)} {m n : Bud}, Held K H Hs σ l m -> (∀ b, m b <= n b) -> Held K H Hs σ l n
  | [], _, _, h, _ => h
  | (i, d) :: l, m, n, ⟨v, m1, m2, e, x, y, q⟩, k => ⟨v, m1, m2, e, x, y, fun b => Nat.le_trans (q b) (k b)⟩
theorem HW.nd_stays {K : Fg} {H Hs Hs' : Hp} {B B' : Bud} {x : V} {k : Kd} {ds : List D} (hk : k = .lst \/ k = .frl) (g : Same Hs Hs') (l : ∀ b, B b <= B' b) (h : HW K H Hs B x (.nd k ds)) : ∃ a vs, x = .ref a /\ Stays K B' a vs H Hs' /\ RepL K H Hs' vs ds (fun _ => 0) := by
 obtain ⟨a, vs, e, r, n⟩ := h
 refine ⟨a, vs, e, ?_, r.frame g fun b hb => absurd hb (by simp)⟩
 rcases hk with rfl | rfl
 . rcases n with n | n
   . exact .inl (.inl (.inl (g _ _ n)))
   . exact .inr ⟨n.1, Nat.le_trans n.2 (l a)⟩
 . rcases n with n | n
   . exact .inl (g.seq n)
   . exact n.1.elim
section
variable {X : Cx} {es : List Expr} {k1 : Nat} {l r : Expr} {ca cb : M Op} {p pos q : Pos}
theorem Zsu (σ : St) (H : Hp) (R : It -> Hp -> Prop) (h : tI X.K .zip (ca.bnd fun p => (cb.bnd fun p => (M.ret ([] : List Op)).bnd fun ps => M.ret (p :: ps)).bnd fun ps => M.ret (p :: ps)) σ H R) : iZip X.K (ZjQ (tP X.K ca) (ZjQ (tP X.K cb) tNil)) σ H R := by
 obtain ⟨δ, Hs, M, h, items, δ', g, s, e, ei, z⟩ := h
 obtain ⟨ps, δ1, e1, e2⟩ := Zd e
 obtain ⟨p1, δ2, e3, e4⟩ := Zd e1
 obtain ⟨qs, δ3, e5, e6⟩ := Zd e4
 obtain ⟨p2, δ4, e7, e8⟩ := Zd e5
 obtain ⟨y0, δ5, e9, e10⟩ := Zd e8
 have := Zi e9
 cases this
 have := Zi e10
 cases this
 have := Zi e6
 cases this
 obtain ⟨w1, δ6, e11, e12⟩ := Zd e2
 obtain ⟨ws, δ7, e13, e14⟩ := Zd e12
 obtain ⟨w2, δ8, e15, e16⟩ := Zd e13
 obtain ⟨y1, δ9, e17, e18⟩ := Zd e16
 have := Zi e17
 cases this
 have := Zi e18
 cases this
 have := Zi e14
 cases this
 obtain ⟨w1, h1⟩ := w1
 obtain ⟨w2, h2⟩ := w2
 refine ⟨δ, Hs, M, p1, δ2, g, s, e3, fun x H1 Hs1 m1 M1 g1 st1 r1 s1 => ⟨δ2, Hs1, M1, p2, _, g1.re, s1, e7, fun y H2 Hs2 m2 M2 g2 st2 r2 s2 => ?_⟩⟩
 obtain ⟨G2, S2, k2⟩ := Zx g g1 st1 g2 st2
 have r1' := RepP.frame st2.grow k2 r1
 obtain ⟨Hs3, B3, M3, g3, st3, s3, hh3, hw3⟩ := Ze5 (m := m1) (M := M2) (G2.re fun b => by (try dsimp only); omega) s2 r1' e11
 have G2' : Good H2 Hs2 (fun b => m2 b + (m1 b + M2 b)) := G2.re fun b => by (try dsimp only); omega
 have S2' : Stp H Hs M H2 Hs2 (fun b => m2 b + (m1 b + M2 b)) := S2.drop (fun b => by (try dsimp only); omega) G2.le
 obtain ⟨G3, S3, k3⟩ := Zx (m1 := m2) g G2' S2' g3 st3
 have r2' : RepP X.K H2 Hs3 σ y p2 m2 := RepP.frame st3.grow k3 r2
 obtain ⟨Hs4, B4, M4, g4, st4, s4, hh4, hw4⟩ := Ze5 (m := m2) (M := M3) (G3.re fun b => by (try dsimp only); omega) s3 r2' e15
 have G3' : Good H2 Hs3 (fun b => B3 b + (m2 b + M3 b)) := G3.re fun b => by (try dsimp only); omega
 have S3' : Stp H Hs M H2 Hs3 (fun b => B3 b + (m2 b + M3 b)) := S3.drop (fun b => by (try dsimp only); omega) G3.le
 obtain ⟨G4, S4, k4⟩ := Zx (m1 := B3) g G3' S3' g4 st4
 cases w1 with
 | sc u => cases ei
 | nd k ds =>
  cases w2 with
  | sc u => cases ei
  | nd k' ds' =>
   have hkk : ((k = .lst \/ k = .frl) /\ (k' = .lst \/ k' = .frl)) /\ items = zipD ds ds' := by
    simp only [itW, zipI] at ei
    split at ei
    . rename_i hk; cases ei; exact ⟨hk, rfl⟩
    . cases ei
   obtain ⟨⟨hk, hk'⟩, rfl⟩ := hkk
   obtain ⟨a, vs, rfl, sa, ra⟩ := HW.nd_stays (B' := fun b => B3 b + B4 b) hk st4.grow (fun b => by omega) hw3
   obtain ⟨b, us, rfl, sb, rb⟩ := HW.nd_stays (B' := fun b => B3 b + B4 b) hk' (Same.refl _) (fun b => by omega) hw4
   have gg : Good H2 Hs4 (fun b => (fun b => B3 b + B4 b) b + M4 b) := G4.re fun b => by (try dsimp only); omega
   have hh := Held.app (hh3.frame st4.grow fun b _ _ => rfl) hh4
   exact ⟨a, b, rfl, ⟨vs, sa.sq gg.sub⟩, ⟨us, sb.sq gg.sub⟩, z _ _ H2 Hs4 (fun b => B3 b + B4 b) M4 gg (S4.drop (fun b => by (try dsimp only); omega) G4.le) s4 (by simpa using hh) Zoq ⟨⟨sa, sb⟩, ra, rb⟩⟩
theorem Zno (hg : Gl X "zip") (hm : X.mg "zip" = none) (hl : PE X l (tP X.K ca)) (hr : PE X r (tP X.K cb)) (hs : starEach [l, r] X.env = [(false, eval l X.env), (false, eval r X.env)] := by rfl) (hs2 : starEach [r] X.env = [(false, eval r X.env)] := by rfl) :
 PI X (.Tuple es k1 q) (.Call (.Name "zip" p) [l, r] [] pos) (tI X.K .zip (ca.bnd fun p => (cb.bnd fun p => (M.ret ([] : List Op)).bnd fun ps => M.ret (p :: ps)).bnd fun ps => M.ret (p :: ps))) :=
 PI.imp (Zrh hg hm (Zbg hl (Zbg hr Zdt (by rw [hs2]; rfl)) (by rw [hs, hs2])) hs hs2) fun σ H R h => Zsu σ H R h
end
end T
namespace L2
open PySem PySem.Spec PyProof.Rows
noncomputable def Itw (lo c : Int) (n : Nat) : It := ⟨fun i _ => i < n, fun i H x H' => H' = H /\ x = .int (lo + i * c), fun i _ => n <= i⟩
theorem ZkN {P : Program} {w : World} {K : Fg} {tg : Expr} (it : Addr) (lo c : Int) (n : Nat) : Turn P w K tg (Itw lo c n) [it] it (fun i h => IsRangeIter h it (lo + (i : Nat) * c) ((n : Int) - (i : Nat)) c) where
 mem := by simp
 obj := fun i h st b hb => by
  have e : b = it := by simpa using hb
  subst e
  exact ⟨_, st, fun v z => by
   have z' : Data.fields _ = Data.cell v := z
   cases z'⟩
 keep := fun i h h' st k => k it (by simp) _ st
 item := by
  intro X hP hw hK hc i pins s σ H E I hf st hg
  subst hP hw hK
  obtain ⟨f0, f1, f2, f3, f4, f5⟩ := hf it (by simp)
  have W := Walks.range (prog := X.prog) (w := X.w) (I.ok.hd hc) it lo c n
  refine W.item i s _ _ hg st fun v h' tk hv st' kk => ?_
  obtain ⟨t, rfl⟩ := hv
  have I1 : Inv X pins σ H { s with heap := h', toks := tk } := I.turned (fun b o hb e => kk b o (by simpa using hb) e) f0 f1 f3 f4 f5
  exact ⟨_, rfl, Zij (s := { s with heap := h', toks := tk }) (n := "range_iterator") st' rfl rfl (by decide) ⟨.int (lo + i * c), H, I1, ⟨t, rfl⟩, ⟨rfl, rfl⟩, st', fun b hb => (hf b hb).1⟩⟩
 done := by
  intro X hP hw hK hc i pins s σ H E I hf st hg
  subst hP hw hK
  obtain ⟨f0, f1, f2, f3, f4, f5⟩ := hf it (by simp)
  exact wpAny_pyNext_range_end (I.ok.hd hc) st (by have : n <= i := hg; omega) fun h' eb => ⟨rfl, I.turned (t' := s.toks) (fun b o hb e => eb b o hb e) f0 f1 f3 f4 f5⟩
 self := fun _ _ _ _ _ st h => wpAny_pyIter_rangeiter st h
section
variable {X : Cx} {tg : Expr}
theorem Zl3 {a b c : Int} (hc : c ≠ 0) (h1 : -(2 ^ 62) <= a) (h2 : a < 2 ^ 62) (h3 : -(2 ^ 62) <= b) (h4 : b < 2 ^ 62) : 0 <= Builtin.Range.rangeSize a b c /\ Builtin.Range.rangeSize a b c < 2 ^ 63 := by
 (unfold Builtin.Range.rangeSize)
 split
 . split
   . have := Int.ediv_nonneg (a := b - a - 1) (b := c) (by omega) (by omega)
     have := Int.ediv_le_self (a := b - a - 1) c (by omega)
     omega
   . omega
 . split
   . have := Int.ediv_nonneg (a := a - b - 1) (b := -c) (by omega) (by omega)
     have := Int.ediv_le_self (a := a - b - 1) (-c) (by omega)
     omega
   . omega
theorem Znp {a b c : Int} (hc : c ≠ 0) (hc1 : -1000000 <= c) (hc2 : c <= 1000000) (h1 : -(2 ^ 62) <= a) (h2 : a < 2 ^ 62) (h3 : -(2 ^ 62) <= b) (h4 : b < 2 ^ 62) : Builtin.Range.small a b c = true := by
 obtain ⟨q1, q2⟩ := Zl3 hc h1 h2 h3 h4
 unfold Builtin.Range.small
 simp only [Builtin.Range.rangeFitsLong, Bool.and_eq_true, Bool.or_eq_true, decide_eq_true_eq, beq_iff_eq]
 refine ⟨⟨⟨⟨by omega, by omega⟩, by omega⟩, by omega⟩, .inr ?_⟩
 split <;> (simp only [Bool.and_eq_true, decide_eq_true_eq]; omega)
theorem Znq {pins : List (Addr × Obj)} {σ : St} {H : Hp} {s : Shared} {R : It -> Hp -> Prop} {E : Value -> Shared -> Prop} {lo hi c : Int} {t u v : Tok} {tk : Nat} (I : Inv X pins σ H s) (hc : c ≠ 0) (hc1 : -1000000 <= c) (hc2 : c <= 1000000) (h1 : -(2 ^ 62) <= lo) (h2 : lo < 2 ^ 62) (h3 : -(2 ^ 62) <= hi) (h4 : hi < 2 ^ 62)
 (q : R (Itw lo c (Builtin.Range.rangeSize lo hi c).toNat) H) : wpAny (model X.prog X.w) X.A (pyIter (.ref s.heap.objs.size)) (PIE X pins σ tg R) E { s with heap := s.heap.push { cls := .type "range", data := .fields #[.int lo t, .int hi u, .int c v] }, toks := tk } := by
 refine wpAny_pyIter_range (IsRange.new ..) (Znp hc hc1 hc2 h1 h2 h3 h4) ?_
 have I1 : Inv X pins σ H { s with heap := s.heap.push { cls := .type "range", data := .fields #[.int lo t, .int hi u, .int c v] }, toks := tk } := I.kept fun b o e => Heap.get?_push_of_some _ e
 refine ⟨(s.heap.push { cls := .type "range", data := .fields #[.int lo t, .int hi u, .int c v] }).objs.size, [(s.heap.push { cls := .type "range", data := .fields #[.int lo t, .int hi u, .int c v] }).objs.size], _, _, H, rfl,
  I1.kept (t' := tk) fun b o e => Heap.get?_push_of_some _ e, ZkN _ lo c (Builtin.Range.rangeSize lo hi c).toNat, ?_, fun b hb => ?_, q⟩
 . have e1 : lo + ((0 : Nat) : Int) * c = lo := by simp
   have e2 : (((Builtin.Range.rangeSize lo hi c).toNat : Nat) : Int) - ((0 : Nat) : Int) = Builtin.Range.rangeSize lo hi c := by
    have := (Zl3 hc h1 h2 h3 h4).1
    omega
   show IsRangeIter _ _ (lo + ((0 : Nat) : Int) * c) ((((Builtin.Range.rangeSize lo hi c).toNat : Nat) : Int) - ((0 : Nat) : Int)) c
   rw [e1, e2]
   exact Heap.get?_push_size _ rfl
 . have e : b = (s.heap.push { cls := .type "range", data := .fields #[.int lo t, .int hi u, .int c v] }).objs.size := by simpa using hb
   subst e
   exact I1.fpOk (Nat.le_refl _) (I1.hok.fresh (Nat.le_refl _))
noncomputable def ZuK (ta : TA) : TI := fun σ H R => ta σ H fun vs H1 => ∃ i j c : Int, vs = [.int i, .int j, .int c] /\ (-(2 ^ 62) <= i /\ i < 2 ^ 62 /\ -(2 ^ 62) <= j /\ j < 2 ^ 62) /\ (c ≠ 0 /\ -1000000 <= c /\ c <= 1000000) /\ R (Itw i c (Builtin.Range.rangeSize i j c).toNat) H1
theorem Znr {a b c : Expr} {ta : TA} {p pos : Pos} (hg : Gl X "range") (hm : X.mg "range" = none) (ha : PA X [a, b, c] ta) (hs : starEach [a, b, c] X.env = [(false, eval a X.env), (false, eval b X.env), (false, eval c X.env)] := by rfl) (hs2 : starEach [b, c] X.env = [(false, eval b X.env), (false, eval c X.env)] := by rfl) :
 PI X tg (.Call (.Name "range" p) [a, b, c] [] pos) (ZuK ta) := by
 intro pins s σ H R I h
 refine Call_ (Zds I hg hm boot_range (PyProof.Rows.callWith_type1 (thn (ha pos pins s σ H _ I h) fun us s1 ⟨vs, H1, I1, r1, q1⟩ => ?_) (by rw [hs, hs2]) (by rw [hs2]; rfl)))
 obtain ⟨i, j, k, e, ⟨q1, q2, q3, q4⟩, ⟨c1, c2, c3⟩, q⟩ := q1
 subst e
 cases r1 with
 | cons r rr =>
  cases rr with
  | cons r' rr =>
   cases rr with
   | cons r'' rr =>
    cases rr
    obtain ⟨t, rfl⟩ := r
    obtain ⟨t', rfl⟩ := r'
    obtain ⟨t'', rfl⟩ := r''
    refine call_range_3 c1 (Znq I1 c1 c2 c3 q1 q2 q3 q4 q) (Or.inl (PyProof.noPylong_of_log2 ?_))
    by_cases h0 : k.natAbs = 0
    . rw [h0]; decide +kernel
    . have : k.natAbs.log2 < 64 := (Nat.log2_lt h0).mpr (by omega)
      omega
end
end L2
namespace T
open PySem PySem.Spec L2
theorem ZkO (lo c : Int) (n : Nat) (B : Bud) : WalkV (Itw lo c n) (((List.range n).map fun (k : Nat) => lo + k * c).map V.int) B (fun _ _ => True) where
 stay := fun _ _ _ => trivial
 go := fun {H Hs i v} _ _ h => by
  have := (List.getElem?_eq_some_iff.mp h).1
  simp only [List.length_map, List.length_range] at this
  exact this
 yld := fun {H Hs H' i x v} _ _ h y => by
  obtain ⟨e, y⟩ := y
  have := (List.getElem?_eq_some_iff.mp h).1
  simp only [List.length_map, List.length_range] at this
  rw [List.getElem?_map, List.getElem?_map, List.getElem?_range this] at h
  simp only [Option.map_some, Option.some.injEq] at h
  exact ⟨e, y.trans h⟩
 stop := fun {H Hs i} _ _ h => by
  simp only [List.length_map, List.length_range] at h
  exact h
theorem hw_3 {ca cb cc : M Op} {lk : Nat -> Bool} (h1 : ZcV ca lk) (h2 : ZcV cb lk) (h3 : ZcV cc lk) : HWs (ca.bnd fun p => (cb.bnd fun p => (cc.bnd fun p => (M.ret ([] : List Op)).bnd fun ps => M.ret (p :: ps)).bnd fun ps => M.ret (p :: ps)).bnd fun ps => M.ret (p :: ps)) lk := fun δ w δ' e q hq => by
 obtain ⟨ps, δ1, e1, e2⟩ := Zd e
 obtain ⟨p1, δ2, e3, e4⟩ := Zd e1
 obtain ⟨qs, δ3, e5, e6⟩ := Zd e4
 obtain ⟨p2, δ4, e7, e8⟩ := Zd e5
 obtain ⟨rs, δ5, f5, f6⟩ := Zd e8
 obtain ⟨p3, δ6, f7, f8⟩ := Zd f5
 obtain ⟨z, δ7, e9, e10⟩ := Zd f8
 have := Zi e9
 cases this
 have := Zi e10
 cases this
 have := Zi f6
 cases this
 have := Zi e6
 cases this
 have := ZfN e2 q hq
 rcases List.mem_cons.mp this with z | z
 . exact h1 _ _ _ e3 _ z.symm
 . rcases List.mem_cons.mp z with z | z
   . exact h2 _ _ _ e7 _ z.symm
   . exact h3 _ _ _ f7 _ (List.mem_singleton.mp z).symm
theorem ZpY {K : Fg} {H Hs : Hp} {σ : St} {δ δ' : List D} {m M : Bud} {p : Op} {x v : V} {h : Option (Nat × D)} (s : RepS K H Hs σ δ M) (r : RepP K H Hs σ x p m) (e : Zb3 p δ = .ok ((.sc v, h), δ')) : h = none /\ δ' = δ /\ x = v := by
 cases p with
 | tmp d =>
  cases d with
  | sc u => cases e; cases r; exact ⟨rfl, rfl, rfl⟩
  | hole => cases e
  | node k o ds => cases e
 | late i =>
  have r : σ[i]? = some (some x) := r
  unfold Zb3 at e
  dsimp only at e
  split at e
  . rename_i u hi
    cases e
    obtain ⟨v', m1, m2, e1, q, l, f⟩ := s.slot hi (by simp)
    rw [r] at e1
    cases e1
    cases q
    exact ⟨rfl, rfl, rfl⟩
  . cases e
  . cases e
  . cases e
theorem Zk1 {K : Fg} {H Hs : Hp} {σ : St} : ∀ {ps : List Op} {xs : List V} {vs : List V} {δ δ' : List D} {m M : Bud} {h : List (Nat × D)}, RepS K H Hs σ δ M -> Zd8 K H Hs σ xs ps m -> Zac ps δ = .ok ((vs.map W.sc, h), δ') -> h = [] /\ δ' = δ /\ xs = vs
 | [], xs, vs, δ, δ', m, M, h, s, r, e => by
  have := Zi e
  cases xs with
  | nil => cases vs with
   | nil => cases this; exact ⟨rfl, rfl, rfl⟩
   | cons => cases this
  | cons => exact r.elim
 | p :: ps, xs, vs, δ, δ', m, M, h, s, r, e => by
  obtain ⟨w, δ1, e1, e⟩ := Zd e
  obtain ⟨ws, δ2, e2, e⟩ := Zd e
  have e3 := Zi e
  cases xs with
  | nil => exact r.elim
  | cons x xs =>
   obtain ⟨m1, m2, r1, r2, l⟩ := r
   cases vs with
   | nil => cases e3
   | cons v vs =>
    obtain ⟨w1, w2⟩ := w
    obtain ⟨ws1, ws2⟩ := ws
    simp only [Prod.mk.injEq, List.map_cons, List.cons.injEq] at e3
    obtain ⟨⟨⟨ea, eb⟩, ec⟩, ed⟩ := e3
    subst ea
    obtain ⟨ha, hb, hx⟩ := ZpY s r1 e1
    subst ha hb hx
    subst eb
    obtain ⟨hc, hd, hy⟩ := Zk1 s r2 e2
    subst hc hy ec
    exact ⟨rfl, ed.trans hd, rfl⟩
section
variable {X : Cx} {tg a b c e o : Expr} {es : List Expr} {p pos pos' apos cpos : Pos} {cs : M (List Op)} {i j : Nat}
theorem ZpZ (hg : Gl X "range") (hm : X.mg "range" = none) (ha : PA X [a, b, c] (tPs X.K cs)) (hs : starEach [a, b, c] X.env = [(false, eval a X.env), (false, eval b X.env), (false, eval c X.env)] := by rfl) (hs2 : starEach [b, c] X.env = [(false, eval b X.env), (false, eval c X.env)] := by rfl) :
 PI X tg (.Call (.Name "range" p) [a, b, c] [] pos) (tI X.K .rng3 cs) := PI.imp (Znr hg hm ha hs hs2) fun σ H R h => by
 obtain ⟨δ, Hs, M, h, items, δ', g, s, e, ei, q⟩ := h
 obtain ⟨ps, δ1, e1, e2⟩ := Zd e
 refine ⟨δ, Hs, M, ps, δ1, g, s, e1, fun vs H1 Hs1 m1 M1 g1 st1 r1 s1 => ?_⟩
 obtain ⟨ws, hh⟩ := h
 replace ei : Zmb ws = _ := ei
 unfold Zmb at ei
 split at ei
 . rename_i lo hi k
   split at ei
   . rename_i hok
     cases ei
     simp only [okR, Bool.and_eq_true, decide_eq_true_eq] at hok
     obtain ⟨rfl, rfl, rfl⟩ := Zk1 (vs := [.int lo, .int hi, .int k]) s1 r1 e2
     refine ⟨lo, hi, k, rfl, ⟨hok.1.1.1, hok.1.1.2, hok.1.2.1, hok.1.2.2⟩, ⟨hok.2.1.1, hok.2.1.2, hok.2.2⟩, ?_⟩
     exact q _ _ H1 Hs1 (fun _ => 0) M1 (g1.re fun b => by omega) (st1.drop (fun b => by omega) g1.le) s1 trivial (ZkO lo k _ _).w ⟨trivial, Zgs _⟩
   . cases ei
 . cases ei
end
end T
namespace T
open PySem PySem.Spec L2
section
variable {X : Cx} {o k k2 e : Expr} {pos pos' pos1 apos cpos : Pos} {i : Nat} {n m : Int} {v : V} {lk : Nat -> Bool}
theorem Zmk (h : PE X e (tC (.int n))) : PE X (.UnaryOp .USub e pos) (tC (.int (-n))) := PE.imp (ZoB Zm7 h) fun σ H Q q => ⟨n, rfl, q⟩
end
end T
namespace T
open PySem PySem.Spec L2 PyProof.Rows
section
variable {X : Cx} {e k v : Expr} {pos : Pos}
structure ModT (K : Fg) (mg : Str -> Option Value) (x : Str) (vs : List V) : Prop where
 ex : ∃ a, mg x = some (.ref a) /\ ∃ (o : Obj) (its : Array Value) (n : Nat), K.lookup a = some o /\ o.cls = .type "tuple" /\ o.data = .seq its n /\ its.size <= sizeLine /\ Vals vs its.toList
theorem Zqa {x : Str} {vs : List V} {p : Pos} (hg : Gl X x) (h : ModT X.K X.mg x vs) (hd : (x == ("__debug__" : Str)) = false) : PE X (.Name x p) (tM X.K (M.ret (.node .ftp false (vs.map D.sc)))) := by
 obtain ⟨a, h, z⟩ := h.ex
 exact Ztz (Zlh (v := .ref a) hg h rfl hd) fun H Hs m => .shd (vs := vs) (.inr z) (ZiP vs)
theorem ZeG : ∀ {is : List Int} {its : List Value}, (its.map fun u => match u with | .int i _ => some i | _ => none) = is.map some -> Vals (is.map V.int) its
 | [], [], _ => .nil
 | [], _ :: _, h => by simp at h
 | _ :: _, [], h => by simp at h
 | i :: is, u :: its, h => by
  (simp only [List.map_cons, List.cons.injEq] at h)
  refine .cons ?_ (ZeG h.2)
  cases u <;> simp at h
  rename_i j t
  exact ⟨t, by rw [h.1]⟩
theorem Zqb {K : Fg} {h : Heap} {mg : Str -> Option Value} {x : Str} {a : Addr} {is : List Int} {dct : Option Addr} {its : Array Value} {n : Nat} {sl : Array (Option Value)} (X : K.In h) (G : h.Ns mainGlobals mg) (hx : PySem.W.nsIn K mainGlobals x = some (some (.ref a))) (hl : K.lookup a = some ⟨.type "tuple", dct, .seq its n, sl⟩) (hs : its.size <= sizeLine) (hi : (its.toList.map fun u => match u with | .int i _ => some i | _ => none) = is.map some) : ModT K mg x (is.map V.int) :=
 ⟨a, PySem.W.mg_of X G hx, _, its, n, hl, rfl, rfl, hs, ZeG hi⟩
end
theorem us1 {P : List Value -> Prop} (h : ∀ a, P [a]) : ∀ us : List Value, us.length = 1 -> P us
 | [a], _ => h a
theorem us2 {P : List Value -> Prop} (h : ∀ a b, P [a, b]) : ∀ us : List Value, us.length = 2 -> P us
 | [a, b], _ => h a b
theorem us3 {P : List Value -> Prop} (h : ∀ a b c, P [a, b, c]) : ∀ us : List Value, us.length = 3 -> P us
 | [a, b, c], _ => h a b c
theorem us4 {P : List Value -> Prop} (h : ∀ a b c d, P [a, b, c, d]) : ∀ us : List Value, us.length = 4 -> P us
 | [a, b, c, d], _ => h a b c d
theorem us5 {P : List Value -> Prop} (h : ∀ a b c d e, P [a, b, c, d, e]) : ∀ us : List Value, us.length = 5 -> P us
 | [a, b, c, d, e], _ => h a b c d e
theorem Zor {X : Cx} {body : List Stmt} {lk : Nat -> Bool} {C : T.Ctx} : PSs X body (tS X.K lk (exs C [.raise (.k .non)])) := fun pins s σ H E I ⟨δ, Hs, M, f, δ', g, _, e, q⟩ => by cases e
end T
namespace T
open PySem PySem.Spec L2
theorem ZiT {f : Str} : ∀ {fs : List Str} {us : List V} {j : Nat} {a : V}, idxF f fs = some j -> us[j]? = some a -> (fs.zip us).lookup f = some a
 | [], _, _, _, h, _ => by cases h
 | g :: fs, [], _, _, h, e => by simp at e
 | g :: fs, u :: us, j, a, h, e => by
  unfold idxF at h
  rw [List.zip_cons_cons]
  by_cases q : g = f
  . rw [if_pos q] at h
    cases h
    (simp only [List.getElem?_cons_zero, Option.some.injEq] at e)
    subst e q
    exact List.lookup_cons_self
  . rw [if_neg q] at h
    (simp only [Option.map_eq_some_iff] at h)
    obtain ⟨j', h, rfl⟩ := h
    rw [List.getElem?_cons_succ] at e
    have hb : (f == g) = false := by simpa using fun z : f = g => q z.symm
    rw [List.lookup_cons, hb]
    exact ZiT h e
section
variable {X : Cx} {a e o x y k : Expr} {ca : M Op} {pos pos' pos1 p p2 pos2 apos cpos : Pos} {i : Nat} {n : Int} {lk : Nat -> Bool} {v : V}
theorem Zns {σ : St} {H : Hp} {Q : VK} (h : tM X.K ((ca.bnd view).bnd fun x => lift (revW x)) σ H Q) : tRev X.K (tP X.K ca) σ H Q :=
 op1 (r := fun x H1 Q => ∃ l xs, x = .ref l /\ SqL X.K H1 l xs /\ ∀ p, H1 p = none -> Q (.ref p) (upd H1 p (.lst xs.reverse))) h fun x H Hs w m d g h1 h2 v e o => by
  unfold revW at e
  split at e
  . cases v with
    | nd n r => cases e; exact ⟨_, _, rfl, .inl (.inl n), fun p hp => o.new h1 h2 hp Zr r.rev⟩
  . cases v with
    | nd n r => cases e; exact ⟨_, _, rfl, n, fun p hp => o.new h1 h2 hp Zr r.rev⟩
  . cases e
theorem Zsv (hc : X.calm = true) (hg : Gl X "list") (hm : X.mg "list" = none) (hg2 : Gl X "reversed") (hm2 : X.mg "reversed" = none) (ha : PE X a (tP X.K ca))
 (hs : starEach [.Call (.Name "reversed" p2) [a] [] pos2] X.env = [(false, eval (.Call (.Name "reversed" p2) [a] [] pos2) X.env)] := by rfl) (hs2 : starEach [a] X.env = [(false, eval a X.env)] := by rfl) :
 PE X (.Call (.Name "list" p) [.Call (.Name "reversed" p2) [a] [] pos2] [] pos) (tM X.K ((ca.bnd view).bnd fun x => lift (revW x))) := PE.imp (Zri hc hg hm hg2 hm2 ha hs hs2) fun σ H Q h => Zns h
theorem ZiU (ha : PE X a (tP X.K ca)) (hk : PE X k (tC (.int (-1)))) : PE X (.Subscript a (.Slice none none (some k) p2) pos) (tM X.K ((ca.bnd view).bnd fun x => lift (revW x))) := PE.imp (Zp2 ha hk) fun σ H Q h => Zns h
theorem Zqc {f : Str} {ok : Addr -> Str -> Bool} (hf : ∀ C f, ok C f = true -> Cls X.K C /\ Za5 X.K C f) (ho : PE X o (tVar i)) (hb : attributeBase o f X.env (eval o X.env) = eval o X.env := by rfl) :
 PE X (.Attribute o f pos) (tM X.K (fldS ok i f)) := PE.imp (Zkc ho hb) fun σ H Q ⟨δ, Hs, M, d, δ', g, s, e, q⟩ => by
 unfold fldS at e
 split at e
 . rename_i C fs ds hi
   split at e
   . rename_i hok
     split at e
     . rename_i j hj
       split at e
       . rename_i d0 hd
         cases e
         obtain ⟨v, m1, m2, e3, r, l, f3⟩ := s.slot hi (by simp)
         cases r with
         | @own p _ us _ _ m' n r l' =>
          obtain ⟨hl, dx, hH⟩ := n
          obtain ⟨a, n1, n2, ea, ra, ln, fr⟩ := r.sep.focus hd
          have tot : ∀ b, n1 b + (one p b + n2 b + m2 b) <= M b := fun b => by have := l b; have := l' b; have := ln b; omega
          have g2 : Good H Hs (fun b => n1 b + (one p b + n2 b + m2 b)) := g.re tot
          have hsame := ZdD g2 (m := n1) fun b => by omega
          have r2 := Rep.share hsame (ZfW (H := H) (Hs := Hs) (m := n1)) ra
          have st := Stp.share g2
          refine ⟨_, e3, p, C, dx, fs.zip us, a, rfl, hH, (hf C f hok).1, (hf C f hok).2, ZiT hj ea, ?_⟩
          refine q a H (shH H Hs n1) (fun _ => 0) (fun b => one p b + n2 b + m2 b) (ZbJ g2.share) ⟨fun b o h _ => h, fun b h => ?_, st.grow, fun b h h' => ?_, fun b h => h⟩ r2 ?_
          . have := tot b
            have := g.le b
            left; (try dsimp only at h); omega
          . rcases st.shr b h h' with z | z
            . have z : n1 b + (one p b + n2 b + m2 b) = 1 := z
              have := tot b
              have := g.le b
              left; omega
            . exact .inr z
          . have z1 := fr (Rep X.K H (shH H Hs n1)) a (shr d0) (fun _ => 0) (fun a d m'' l' q => q.frame hsame fun _ _ _ => rfl) r2
            rw [Zak ea] at z1
            have z := f3 H (shH H Hs n1) (some (.ref p)) (.node (.ins C fs) true (ds.set j (shr d0))) (fun b => one p b + n2 b) hsame (fun _ _ _ => rfl) (.inr ⟨_, rfl, .own (m' := n2) ⟨hl, dx, hH⟩ (z1.repL.mono fun b => by simp) fun b => Nat.le_refl _⟩)
            rw [Zak e3] at z
            exact z
       . cases e
     . cases e
   . cases e
 . cases e
theorem ZuL : PE X (.Dict [] [] pos) (tM X.K (M.ret (.node (.dic []) true []))) := PE.imp ZnQ fun σ H Q h => by
 obtain ⟨δ, Hs, M, d, δ', g, s, e, q⟩ := h
 have := Zi e
 cases this
 have oo : Outs X.K H Hs (fun _ => 0) _ Q := Ze4 (B := fun _ => 0) (M := M) (stp0 H Hs M) (ZbJ g) s q
 exact fun p hp => oo.new (fun b => by simp) (fun b hb => by simp at hb) hp (vs := []) ⟨rfl, Zr⟩ (.nil _)
end
end T
namespace T
open PySem PySem.Spec L2
theorem ZuM {K : Fg} {H Hs : Hp} {σ : St} {B M : Bud} {δ : List D} {i j : Nat} {k0 k : Kd} {ds es : List D} (g : Good H Hs (fun b => B b + M b)) (s : RepS K H Hs σ δ M) (hi : δ[i]? = some (.node k0 true ds)) (hj : ds[j]? = some (.node k true es)) :
 ∃ (p0 p : Addr) (us vs : List V) (m' m2 : Bud), σ[i]? = some (some (.ref p0)) /\ ZbI H p0 us k0 /\ us.length = ds.length /\ us[j]? = some (.ref p) /\ ZbI H p vs k /\ RepL K H Hs vs es m' /\ (∀ b, one p b + m' b + m2 b <= M b) /\
  ∀ (ob : HO) (k' : Kd) (vs' : List V) (es' : List D) (n' : Bud), (∀ b, n' b <= m' b + B b) -> ZbI (upd H p ob) p vs' k' -> RepL K H Hs vs' es' n' ->
   Good (upd H p ob) Hs (fun b => one p b + n' b + m2 b) /\ Stp H Hs (fun b => B b + M b) (upd H p ob) Hs (fun b => one p b + n' b + m2 b) /\
   RepS K (upd H p ob) Hs σ (δ.set i (.node k0 true (ds.set j (.node k' true es')))) (fun b => one p b + n' b + m2 b) := by
 obtain ⟨v, m1, m2, e1, q, l, f⟩ := s.slot hi (by simp)
 cases q with
 | @own p0 _ us _ _ m0 n0 r0 l0 =>
  obtain ⟨a, n1, n2, ea, ra, ln, fr⟩ := r0.sep.focus hj
  cases ra with
  | @own p _ vs _ _ m' n r l1 =>
   have le : ∀ b, one p b + m' b + (one p0 b + n2 b + m2 b) <= M b := fun b => by have := l b; have := l0 b; have := ln b; have := l1 b; omega
   refine ⟨p0, p, us, vs, m', fun b => one p0 b + n2 b + m2 b, e1, n0, r0.len, ea, n, r, le, fun ob k' vs' es' n' h1 no hr => ?_⟩
   have one_p : one p p = 1 := by simp [one]
   have one_0 : one p0 p0 = 1 := by simp [one]
   have tot : ∀ b, one p b + n' b + (one p0 b + n2 b + m2 b) <= B b + M b := fun b => by have := le b; have := h1 b; omega
   have zp : m' p = 0 /\ B p = 0 /\ m2 p = 0 /\ n2 p = 0 /\ one p0 p = 0 := by
    have := le p
    have := g.le p
    try dsimp only at this
    omega
   have zp2 : n' p = 0 := by have := h1 p; omega
   have hne : p0 ≠ p := fun q => by subst q; omega
   have Hp : H p ≠ none := n.at
   have eqH : ∀ b, b ≠ p -> upd H p ob b = H b := fun b hb => Zv hb
   have hs2 : Hs p = none := g.ne p (by have := le p; have := g.le p; (try dsimp only at this ⊢); omega)
   refine ⟨⟨fun b o e => ?_, fun b => ?_, fun b h => ?_, fun b h => ?_⟩, ⟨fun b o e z => ?_, fun b h => ?_, Same.refl _, fun b h h' => absurd h h', fun b h => ?_⟩, ?_⟩
   . have hb : b ≠ p := fun q => by subst q; rw [hs2] at e; cases e
     rw [eqH b hb]
     exact g.sub b o e
   . have := g.le b
     have := tot b
     (try dsimp only at *)
     omega
   . have := g.le b
     have := tot b
     exact g.ne b (by (try dsimp only at *); omega)
   . by_cases hb : b = p
     . subst hb; rw [Zr]; simp
     . rw [eqH b hb]
       have := g.le b
       have := tot b
       exact g.has b (by (try dsimp only at *); omega)
   . have hb : b ≠ p := fun q => by
      subst q
      have := le b
      have := g.le b
      (try dsimp only at *)
      omega
     rw [eqH b hb]
     exact e
   . have := g.le b
     have := tot b
     left
     (try dsimp only at *)
     omega
   . by_cases hb : b = p
     . subst hb; rw [Zr]; simp
     . rw [eqH b hb]; exact h
   . have r' : RepL K (upd H p ob) Hs vs' es' n' := hr.frame (Same.refl _) fun b hb hn' => eqH b fun q => by subst q; omega
     have z1 := fr (Rep K (upd H p ob) Hs) (.ref p) (.node k' true es') (fun b => one p b + n' b) (fun a d m'' l' q => q.frame (Same.refl _) fun b hb hn' => eqH b fun q => by subst q; have := l' b; omega) (.own no r' fun b => Nat.le_refl _)
     rw [Zak ea] at z1
     have z := f (upd H p ob) Hs (some (.ref p0)) (.node k0 true (ds.set j (.node k' true es'))) (fun b => one p0 b + (one p b + n' b + n2 b)) (Same.refl _) (fun b hb hn' => eqH b fun q => by subst q; omega) (.inr ⟨_, rfl, .own (n0.eq (eqH p0 hne)) z1.repL fun b => Nat.le_refl _⟩)
     rw [Zak e1] at z
     exact z.mono fun b => by (try dsimp only); omega
theorem Zl4 {k : List Key} : ∀ {ks : List (List Key)} {vs : List V}, ks.length = vs.length -> ((ks.zip vs).any fun kv => decide (kv.1 = k)) = ks.any fun j => decide (j = k)
 | [], _, _ => rfl
 | _ :: _, [], h => by simp at h
 | j :: ks, v :: vs, h => by rw [List.zip_cons_cons, List.any_cons, List.any_cons, Zl4 (by simpa using h)]
theorem Zl5 {k : List Key} {v : V} : ∀ {ks : List (List Key)} {vs : List V}, (ks.zip vs).map (fun kv => if kv.1 = k then (kv.1, v) else kv) = ks.zip (List.zipWith (fun j x => if j = k then v else x) ks vs)
 | [], _ => rfl
 | _ :: _, [] => rfl
 | j :: ks, u :: vs => by
  rw [List.zip_cons_cons, List.map_cons, Zl5, List.zipWith_cons_cons, List.zip_cons_cons]
  split <;> rfl
theorem Zqd {k : List Key} {v : V} {ks : List (List Key)} {vs : List V} (h : ks.length = vs.length) : putK (ks.zip vs) k v = (kPut k ks).zip (vPut k v ks vs) /\ (kPut k ks).length = (vPut k v ks vs).length := by
 unfold putK kPut vPut
 rw [Zl4 h]
 split
 . exact ⟨Zl5, by simp [h]⟩
 . exact ⟨by rw [List.zip_append h]; rfl, by simp [h]⟩
theorem RepL.zw {K : Fg} {H Hs : Hp} {k : List Key} {v : V} : ∀ {ks : List (List Key)} {vs : List V} {ds : List D} {m : Bud}, RepL K H Hs vs ds m -> RepL K H Hs (List.zipWith (fun j x => if j = k then v else x) ks vs) (List.zipWith (fun j x => if j = k then D.sc v else x) ks ds) m
 | [], _, _, _, _ => .nil _
 | _ :: _, _, _, _, .nil _ => .nil _
 | j :: ks, _, _, _, .cons (m1 := m1) (m2 := m2) a b l => by
  rw [List.zipWith_cons_cons, List.zipWith_cons_cons]
  split
  . exact .cons (.sc v m1) (RepL.zw b) l
  . exact .cons a (RepL.zw b) l
theorem RepL.vput {K : Fg} {H Hs : Hp} {k : List Key} {v : V} {ks : List (List Key)} {vs : List V} {ds : List D} {m : Bud} (h : RepL K H Hs vs ds m) : RepL K H Hs (vPut k v ks vs) (vPut k (.sc v) ks ds) m := by
 unfold vPut
 split
 . exact h.zw
 . exact (h.app (.cons (m := fun _ => 0) (.sc v (fun _ => 0)) (.nil (fun _ => 0)) fun b => by simp)).mono fun b => by simp
theorem Zk2 {H Hs : Hp} {M : Bud} {l : Addr} {ob : HO} (g : Good H Hs M) (hl : H l = none) : Good (upd H l ob) Hs M /\ Stp H Hs M (upd H l ob) Hs M /\ ∀ b, H b ≠ none -> upd H l ob b = H b := by
 have ne : ∀ b, H b ≠ none -> upd H l ob b = H b := fun b h => Zv fun q => h (q ▸ hl)
 have sm := ZgO (o := ob) hl
 exact ⟨⟨fun b o e => sm b o (g.sub b o e), g.le, g.ne, fun b h => by rw [ne b (g.has b h)]; exact g.has b h⟩, ⟨fun b o e _ => sm b o e, fun b h => .inl h, Same.refl _, fun b h h' => absurd h h', fun b h => by rw [ne b h]; exact h⟩, ne⟩
theorem Zos {H : Hp} {a b : Addr} {o u : HO} (h : a ≠ b) : upd (upd H a o) b u = upd (upd H b u) a o := by
 funext c
 unfold upd
 by_cases q : c = b
 . subst q; rw [if_pos rfl, if_neg (Ne.symm h), if_pos rfl]
 . rw [if_neg q]
   by_cases z : c = a
   . rw [if_pos z, if_pos z]
   . rw [if_neg z, if_neg z, if_neg q]
section
variable {X : Cx} {o x y : Expr} {pos pos' pos1 p p2 pos2 : Pos} {i jx jy : Nat} {lk : Nat -> Bool}
theorem Zqe {f : Str} {ok : Addr -> Str -> Bool} (hu : X.A.units + 64 < cLine) (hf : ∀ C f, ok C f = true -> Cls X.K C /\ Za5 X.K C f) (hg : Gl X "tuple") (hm : X.mg "tuple" = none) (ho : PE X o (tVar i)) (hx : PE X x (tVar jx)) (hy : PE X y (tVar jy))
 (hb : attributeBase o f X.env (eval o X.env) = eval o X.env := by rfl) (he : starEach [x] X.env = (false, eval x X.env) :: starEach [] X.env := by rfl) (hpl : (backTo pos2 (starEach [] X.env)).any (·.1) = false := by rfl)
 (hs : swapsWith y (some (.Subscript (.Attribute o f pos1) (.Call (.Name "tuple" p) [x] [] pos2) pos')) pos.line X.env = pure false := by rfl) :
 PS X (.Assign [.Subscript (.Attribute o f pos1) (.Call (.Name "tuple" p) [x] [] pos2) pos'] y pos) (tS X.K lk (Zhq ok i f jx jy)) :=
 PS.imp (Zpu (by omega) (Zkc ho hb) (ZgK Zg7 hg hm (by decide +kernel) (Zbg hx Zdt he) (by decide) (by decide) he hpl) hy hs) fun E σ H h => by
 obtain ⟨δ, Hs, M, fl, δ', g, s, e, q⟩ := h
 unfold Zhq at e
 split at e
 . rename_i C fs ds oo es v hi hx' hy'
   split at e
   . rename_i hok
     split at e
     . rename_i j is hj hes
       split at e
       . rename_i ks vs hd
         split at e
         . rename_i hz
           cases e
           obtain ⟨vy, _, _, ey, ry, _, _⟩ := s.slot hy' (by simp)
           cases ry
           obtain ⟨vx, mx, _, ex, rx, lx, _⟩ := s.slot hx' (by simp)
           have hq : ∃ ax, vx = .ref ax /\ SqL X.K H ax (is.map V.int) := by
            cases rx with
            | own n r _ =>
             have := ZbD r hes
             subst this
             exact ⟨_, rfl, .inl (.inl n)⟩
            | shd n r =>
             have := ZbD r hes
             subst this
             exact ⟨_, rfl, .inl (.inl (g.sub _ _ n))⟩
           obtain ⟨ax, rfl, sq⟩ := hq
           obtain ⟨p0, p, us, ws, m', m2, ei, n0, hl, eu, n1, rl, le, fin⟩ := ZuM (B := fun _ => 0) (g.re fun b => by simp) s hi hd
           obtain ⟨hl0, dx, hH⟩ := n0
           obtain ⟨hl1, hD⟩ := n1
           refine ⟨v, ey, .ref p0, ei, p0, C, dx, fs.zip us, .ref p, rfl, hH, (hf C f hok).1, (hf C f hok).2, ZiT hj eu, .ref ax, ex, ax, is.map V.int, rfl, .inl ⟨sq, fun l hll => ?_⟩⟩
           have hlp : l ≠ p := fun z => by subst z; rw [hll] at hD; cases hD
           obtain ⟨z1, z2⟩ := Zqd (k := is.map Sum.inl) (v := v) hl1
           have hlen := rl.len
           refine ⟨p, _, rfl, DPut.t (k := is.map Sum.inl) (kvs := ks.zip ws) (by rw [Zv (Ne.symm hlp)]; exact hD) (by rw [Zr, List.map_map]; rfl) (by rw [List.length_zip, hl1, Nat.min_self, hlen]; exact hz), ?_⟩
           rw [Zos hlp]
           obtain ⟨G, S, R⟩ := fin (.dT (putK (ks.zip ws) (is.map Sum.inl) v)) (.dic (kPut (is.map Sum.inl) ks)) _ _ m' (fun b => by (try dsimp only); omega) ⟨z2, by rw [Zr, z1]⟩ rl.vput
           obtain ⟨G2, S2, k2⟩ := Zk2 (ob := .tup (is.map V.int)) G (l := l) (by rw [Zv hlp]; exact hll)
           have S' : Stp H Hs M (upd H p (.dT (putK (ks.zip ws) (is.map Sum.inl) v))) Hs (fun b => one p b + m' b + m2 b) := ⟨fun b o h z => S.keep b o h (by simpa using z), fun b h => by simpa using S.own b h, S.grow, fun b h h' => by simpa using S.shr b h h', S.stay⟩
           have z := Zx (m1 := fun _ => 0) g (G.re fun b => by simp) (S'.drop (fun b => by simp) G.le) G2 S2
           exact q σ _ Hs _ (Keeps.refl _ _) G2 (z.2.1.drop (fun b => by simp) z.1.le) (R.frame (Same.refl _) fun b _ hn => k2 b hn)
         . cases e
       . cases e
     . cases e
   . cases e
 . cases e
end
section
variable {X : Cx} {tg iter : Expr} {body : List Stmt} {pos : Pos} {tgt : Tg} {C : T.Ctx} {ik : IK} {ies : List E} {body' : List S}
theorem Zqf (hp : PassesOwn (model X.prog X.w) X.A X.env X.xe) (hc : X.calm = true) (hw : HWs (opds C ies) (fun j => C.lock j || walked ies j)) (hi : PI X tg iter (tI X.K ik (opds C ies))) (hg : PG X tg (gT X.K tgt)) (hb : PSs X body (tS X.K (fun j => C.lock j || walked ies j) (exs { C with lock := fun j => C.lock j || walked ies j } body'))) (hs : ∀ x, foldedSetIterable iter X.env x = pure x := by intro _; rfl) :
 PS X (.For tg iter body [] pos) (tS X.K C.lock (ex C (.for_ tgt ik ies body'))) := by
 have e : ex C (.for_ tgt ik ies body') = ((opds C ies).bnd fun ps => (Zac ps).bnd fun h => (lift (itW ik h.1)).bnd fun items => (forL (asgT (fun j => C.lock j || walked ies j) tgt) (exs { C with lock := fun j => C.lock j || walked ies j } body') items).bnd fun f => (Zcd h.2).bnd fun _ => M.ret f) := rfl
 rw [e]
 exact Zcq hp hc (Zd9 _ _) hw hi hg hb hs
end
end T
namespace T
open PySem PySem.Spec L2
theorem Zj4 {k : List Key} : ∀ {ks : List (List Key)} {vs : List V}, L2.valV (ks.zip vs) k = Zce k ks vs
 | [], _ => by simp [Zce, L2.Zki]
 | _ :: _, [] => by simp [Zce, L2.Zki]
 | j :: ks, v :: vs => by
  rw [List.zip_cons_cons]
  unfold Zce
  by_cases e : j = k
  . rw [if_pos e, L2.Zgm (p := (j, v)) e]
  . rw [if_neg e, L2.Zgn (p := (j, v)) e]
    exact Zj4
theorem RepL.lookN {K : Fg} {H Hs : Hp} {k : List Key} : ∀ {ks : List (List Key)} {vs : List V} {ds : List D} {m : Bud}, RepL K H Hs vs ds m -> Zce k ks ds = none -> Zce k ks vs = none
 | [], _, _, _, .nil _, _ => rfl
 | _ :: _, _, _, _, .nil _, _ => rfl
 | [], _, _, _, .cons x r l, _ => rfl
 | j :: ks, _, _, _, .cons x r l, e => by
  unfold Zce at e ⊢
  by_cases h : j = k
  . rw [if_pos h] at e; cases e
  . rw [if_neg h] at e ⊢; exact RepL.lookN r e
theorem RepL.lookV {K : Fg} {H Hs : Hp} {k : List Key} {v : V} : ∀ {ks : List (List Key)} {vs : List V} {ds : List D} {m : Bud}, RepL K H Hs vs ds m -> Zce k ks ds = some (.sc v) -> Zce k ks vs = some v
 | [], _, _, _, .nil _, e => by cases e
 | _ :: _, _, _, _, .nil _, e => by cases e
 | [], _, _, _, .cons x r l, e => by cases e
 | j :: ks, _, _, _, .cons x r l, e => by
  unfold Zce at e ⊢
  by_cases h : j = k
  . rw [if_pos h] at e ⊢
    cases e
    cases x
    rfl
  . rw [if_neg h] at e ⊢; exact RepL.lookV r e
section
variable {X : Cx} {o k : Expr} {apos cpos p pos : Pos}
theorem Zqg {co ck : M D} (hu : X.A.units + 64 < cLine) (hg : Gl X "tuple") (hm : X.mg "tuple" = none) (ho : PE X o (tM X.K co)) (hk : PE X k (tM X.K ck))
 (he : starEach [k] X.env = (false, eval k X.env) :: starEach [] X.env := by rfl) (hpl : (backTo pos (starEach [] X.env)).any (·.1) = false := by rfl)
 (m : M1 X o "get" apos (.Call (.Name "tuple" p) [k] [] pos) cpos := by exact ⟨rfl, rfl, rfl, rfl⟩) :
 PE X (.Call (.Attribute o "get" apos) [.Call (.Name "tuple" p) [k] [] pos] [] cpos) (tM X.K (co.bnd fun d => (dicS d).bnd fun _ => ck.bnd fun kd => lift (Zhp d kd))) :=
 PE.imp (ZnR (by omega) ho (ZgK Zg7 hg hm (by decide +kernel) (Zbg hk Zdt he) (by decide) (by decide) he hpl) m) fun σ H Q h => by
 obtain ⟨δ, Hs, M, r, δ', g, s, e, q⟩ := h
 obtain ⟨d, δ1, e1, e⟩ := Zd e
 obtain ⟨u, δ1', e2, e⟩ := Zd e
 obtain ⟨kd, δ2, e3, e⟩ := Zd e
 obtain ⟨e4, rfl⟩ := Za0 e
 refine ⟨δ, Hs, M, d, δ1, g, s, e1, fun v H1 Hs1 m1 M1 g1 st1 r1 s1 => ?_⟩
 clear e
 have hd : (∃ ks vs, d = .node (.dic ks) false vs) /\ δ1' = δ1 := by
  unfold dicS at e2
  split at e2
  . have := Zi e2
    cases this
    exact ⟨⟨_, _, rfl⟩, rfl⟩
  . cases e2
 obtain ⟨⟨ks, vs, rfl⟩, hδ⟩ := hd
 subst hδ
 cases r1 with
 | @shd a _ ws _ _ n rl =>
  obtain ⟨hl, hD⟩ := n
  refine ⟨a, rfl, .inr ⟨_, .inl (g1.sub _ _ hD)⟩, _, Hs1, M1, kd, _, g1.re fun b => by (try dsimp only); omega, s1, e3, fun v2 H2 Hs2 m2 M2 g2 st2 r2 s2 => ?_⟩
  unfold Zhp at e4
  split at e4
  . rename_i ks' o' vs' o'' es h1
    cases h1
    simp only [Option.bind_eq_some_iff] at e4
    obtain ⟨is, hes, e4⟩ := e4
    have hq : ∃ ax, v2 = .ref ax /\ SqL X.K H2 ax (is.map V.int) := by
     cases r2 with
     | own n r _ =>
      have := ZbD r hes
      subst this
      exact ⟨_, rfl, .inl (.inl n)⟩
     | shd n r =>
      have := ZbD r hes
      subst this
      exact ⟨_, rfl, .inl (.inl (g2.sub _ _ n))⟩
    obtain ⟨ax, rfl, sq⟩ := hq
    refine ⟨ax, is.map V.int, rfl, .inl ⟨sq, fun l hll => ?_⟩⟩
    have hD2 : H2 a = some (.dT (ks.zip ws)) := g2.sub _ _ (st2.grow _ _ hD)
    have hla : a ≠ l := fun z => by subst z; rw [hll] at hD2; cases hD2
    have gg := DGet.t (k := is.map Sum.inl) (kvs := ks.zip ws) (H := upd H2 l (.tup (is.map V.int))) (a := a) (b := l) (by rw [Zv hla]; exact hD2) (by rw [Zr, List.map_map]; rfl)
    rw [Zj4] at gg
    have rl2 : RepL X.K H1 Hs1 ws vs (fun _ => 0) := rl
    have hv : r = .sc ((Zce (is.map Sum.inl) ks ws).getD .non) := by
     split at e4
     . rename_i hz
       rw [rl2.lookN hz]
       cases e4
       rfl
     . rename_i z hz
       rw [rl2.lookV hz]
       cases e4
       rfl
     . cases e4
    refine ⟨_, gg, ?_⟩
    have z := Zx (m1 := fun _ => 0) g (g1.re fun b => by simp) (st1.drop (fun b => by simp) g1.le) (M1 := M1) (H2 := H2) (Hs2 := Hs2) (M2 := M2) (g2.re fun b => by (try dsimp only); omega) (st2.drop (fun b => by (try dsimp only); omega) g2.le)
    have G2 : Good H2 Hs2 M2 := g2.re fun b => by (try dsimp only); omega
    obtain ⟨G3, S3, k3⟩ := Zk2 (ob := .tup (is.map V.int)) G2 hll
    have z2 := Zx (m1 := fun _ => 0) g (G2.re fun b => by simp) (z.2.1.drop (fun b => by simp) z.1.le) G3 S3
    rw [hv] at q
    exact q _ _ Hs2 (fun _ => 0) M2 (ZbJ G3) (z2.2.1.drop (fun b => by simp) z2.1.le) (.sc _ _) (s2.frame (Same.refl _) fun b _ hn => k3 b hn)
  . cases e4
end
end T
namespace T
open PySem PySem.Spec L2 PyProof.Rows
noncomputable def Zef (i : Int) (is : List Int) : Int := is.foldl (fun a b => if b < a then b else a) i
theorem ZfO : ∀ (is : List Int) (i : Int), Zef i is ∈ i :: is /\ ∀ a ∈ i :: is, Zef i is <= a
 | [], i => ⟨List.mem_cons_self, fun a h => by rw [List.mem_singleton.mp h]; exact Int.le_refl _⟩
 | j :: is, i => by
  obtain ⟨h1, h2⟩ := ZfO is (if j < i then j else i)
  have e : Zef i (j :: is) = Zef (if j < i then j else i) is := rfl
  rw [e]
  refine ⟨?_, fun a ha => ?_⟩
  . rcases List.mem_cons.mp h1 with h | h
    . rw [h]
      split <;> simp
    . exact List.mem_cons_of_mem _ (List.mem_cons_of_mem _ h)
  . have h0 := h2 _ List.mem_cons_self
    have hm : (if j < i then j else i) <= i /\ (if j < i then j else i) <= j := by split <;> omega
    (rcases List.mem_cons.mp ha with rfl | ha)
    . exact Int.le_trans h0 hm.1
    . (rcases List.mem_cons.mp ha with rfl | ha)
      . exact Int.le_trans h0 hm.2
      . exact h2 a (List.mem_cons_of_mem _ ha)
theorem Znt {i M : Int} {is : List Int} (h1 : M ∈ i :: is) (h2 : ∀ a ∈ i :: is, M <= a) : M = Zef i is := by
 obtain ⟨g1, g2⟩ := ZfO is i
 have := h2 _ g1
 have := g2 _ h1
 omega
section
variable {X : Cx}
theorem Ziz : ∀ (is : List Int) (us : List Value), Vals (is.map V.int) us -> ∃ ts : List (Int × Tok), us = ts.map (fun p => Value.int p.1 p.2) /\ ts.map (·.1) = is
 | [], us, r => by cases r; exact ⟨[], rfl, rfl⟩
 | n :: is, us, r => by
  cases r with
  | cons r rr =>
   obtain ⟨t, rfl⟩ := r
   obtain ⟨ts, e1, e2⟩ := Ziz is _ rr
   exact ⟨(n, t) :: ts, by rw [e1]; rfl, by rw [List.map_cons, e2]⟩
theorem ZjE (hc : X.calm = true) : Zat X (.builtin "min") (fun xs H Q => ∃ (l : Addr) (i : Int) (is : List Int), xs = [.ref l] /\ SqL X.K H l ((i :: is).map V.int) /\ Q (.int (Zef i is)) H) := by
 intro pins s σ H xs us Q I r h
 obtain ⟨l, i, is, rfl, hl, q⟩ := h
 obtain ⟨u, rfl, ru⟩ := r.one
 cases (show u = Value.ref l from ru)
 obtain ⟨its, rv, p, hz⟩ := I.list hl
 obtain ⟨ts, e1, e2⟩ := Ziz (i :: is) its rv
 have e3 : its.toArray = intItems ts.toArray := by rw [e1]; unfold intItems; simp
 have hl' := p.isList
 rw [e3] at hl'
 have hn : ts.length = is.length + 1 := by have := congrArg List.length e2; rwa [List.length_map, List.length_cons] at this
 have hsz : 0 < ts.toArray.size := by rw [List.size_toArray]; omega
 refine min_intList (I.ok.hd hc) hl' hsz fun v h' tk hv hk => ?_
 (obtain ⟨t, rfl⟩ := intItems_at hv)
 obtain ⟨h1, h2⟩ := argBest_lt (numAt ts.toArray) (ts.toArray.size - 1)
 have e4 : numAt ts.toArray (argBest (fun i j => decide (numAt ts.toArray i < numAt ts.toArray j)) (ts.toArray.size - 1)) = Zef i is := by
  apply Znt
  . rw [numAt_eq, <- e2]
    exact getD_mem (by rw [List.length_map]; rw [List.size_toArray] at h1 ⊢; omega)
  . intro a ha
    rw [<- e2] at ha
    (obtain ⟨j, hj, rfl⟩ := mem_getD ha)
    rw [List.length_map] at hj
    have := h2 j (by rw [List.size_toArray]; omega)
    rw [numAt_eq (j := j)] at this
    exact this
 rw [e4]
 exact ⟨.int _, H, I.kept hk, ⟨_, rfl⟩, q⟩
theorem Zqh (hc : X.calm = true) : Zat X (.builtin "min") (rNW X.K (bfW .minL)) := by
 intro pins s σ H xs us Q I r h
 obtain ⟨Hs, ws, m, d, hs, h1, h2, v, e, o⟩ := h
 replace e : ZlY _ = _ := e
 unfold ZlY at e
 split at e <;> first | (rename_i z; cases z; done) | skip
 all_goals first
  | (obtain ⟨y, m1, rfl, v, l⟩ := v.one
     cases v with
     | nd n r' =>
      rw [Option.bind_eq_some_iff] at e
      obtain ⟨is, e, e'⟩ := e
      have ei := ZbD r' e
      subst ei
      cases is with
      | nil => cases e'
      | cons i is =>
       cases e'
       exact ZjE hc pins s σ H _ us Q I r ⟨_, _, _, rfl, .inl (.inl n), o.sc⟩)
  | cases e
end
end T
namespace T
open PySem PySem.Spec L2
theorem Zm {X : Cx} {i : Int} {j} {pos : Pos} : PE X (.Constant (.int i) j pos) (tP X.K ((M.ret (.sc (.int i))).bnd fun d => M.ret (.tmp d))) := Zc (ok_k ZaU)
theorem Zb {X : Cx} {sc : Scope} {N} {i : Nat} {x : Str} {b : Bool} {pos : Pos} (h : Ze sc N i x b = true) (e1 : X.env.scope = sc := by rfl) (e2 : X.N = N := by rfl) : PE X (.Name x pos) (tP X.K (Zbr i)) := Zcz (pvs h e1 e2)
end T
namespace My
open PySem PySem.Spec L2 T
local macro_rules | `(tactic| walk_at "d") => `(tactic| decide +kernel)
section
seal L2.PE L2.PS L2.PSs L2.PT L2.PI L2.PA L2.PG L2.PGs
noncomputable def top (i : Nat) : Stmt := PySem.Challenge.pw_barlabel_k41_whole_scanned_as_the_row.main.body.getD i (.Pass ⟨0, 0, 0, 0⟩)
noncomputable def Zcx (s : Stmt) (i : Nat) : Stmt := match s with
 | .ClassDef (body := b) .. => b.getD i (.Pass ⟨0, 0, 0, 0⟩)
 | _ => .Pass ⟨0, 0, 0, 0⟩
noncomputable def CK (C : Addr) : T.Ctx := { C0 with fok := fun A f => decide (A = C) && (f == "part_count" || f == "widths_sum" || f == "opening" || f == "closing" || f == "shapes" || f == "symbols_by_shape") }
noncomputable def Zi0 (K : Fg) : Addr := match PySem.W.nsIn K mainGlobals "Fount" with
 | some (some (.ref C)) => C
 | _ => 0
structure Txt (K : Fg) (mg : Str -> Option Value) (C : Addr) : Prop where
 abs_ : mg "abs" = none
 all_ : mg "all" = none
 bool_ : mg "bool" = none
 enumerate_ : mg "enumerate" = none
 int_ : mg "int" = none
 isinstance_ : mg "isinstance" = none
 len_ : mg "len" = none
 list_ : mg "list" = none
 max_ : mg "max" = none
 min_ : mg "min" = none
 range_ : mg "range" = none
 reversed_ : mg "reversed" = none
 sum_ : mg "sum" = none
 tuple_ : mg "tuple" = none
 zip_ : mg "zip" = none
 WIDEST_ : ∃ t, mg "WIDEST" = some (.int 4 t)
 PARTS_ : T.ModT K mg "PARTS" (([4, 6] : List Int).map V.int)
 cl : Cls K C
 nF_part_count : Za5 K C "part_count"
 nF_widths_sum : Za5 K C "widths_sum"
 nF_opening : Za5 K C "opening"
 nF_closing : Za5 K C "closing"
 nF_shapes : Za5 K C "shapes"
 nF_symbols_by_shape : Za5 K C "symbols_by_shape"
theorem Txt.fok {K : Fg} {mg : Str -> Option Value} {C : Addr} (Z : Txt K mg C) : ∀ A f, (CK C).fok A f = true -> Cls K A /\ Za5 K A f := fun A f h => by
 unfold CK at h
 simp only [Bool.and_eq_true, Bool.or_eq_true, decide_eq_true_eq, beq_iff_eq] at h
 obtain ⟨rfl, h⟩ := h
 rcases h with ((((rfl | rfl) | rfl) | rfl) | rfl) | rfl
 . exact ⟨Z.cl, Z.nF_part_count⟩
 . exact ⟨Z.cl, Z.nF_widths_sum⟩
 . exact ⟨Z.cl, Z.nF_opening⟩
 . exact ⟨Z.cl, Z.nF_closing⟩
 . exact ⟨Z.cl, Z.nF_shapes⟩
 . exact ⟨Z.cl, Z.nF_symbols_by_shape⟩
noncomputable abbrev ZaC : Stmt := top 6
noncomputable abbrev Zgv : List Str := ["thing"]
theorem ZkP : FnScope Zgv ["thing"] (Za ZaC) := ⟨rfl, rfl, rfl, by walk_at "d", rfl, by walk_at "d", by walk_at "d"⟩
theorem ZdO : glOk (Za ZaC) "isinstance" = true := by walk_at "d"
theorem ZgT : Ze (Za ZaC) Zgv 0 "thing" false = true := by walk_at "d"
theorem Zeg : glOk (Za ZaC) "bool" = true := by walk_at "d"
theorem Ze6 : glOk (Za ZaC) "int" = true := by walk_at "d"
noncomputable def Zdy : List T.S := [.ret (.and (.bf (.isi .int) [.v 0]) (.nt (.bf (.isi .bool) [.v 0])))]
noncomputable def ZS : T.FI := ⟨true, T.Zh C0 1 1 Zdy⟩
variable {P : Program} {w : World} {K : Fg} {mg : Str -> Option Value} {base : Heap} {f : Addr} {fd : FuncData} {C : Addr}
theorem ZkQ (F : Fun K "is_whole" "is_whole" ZaC f fd) (Z : Txt K mg C)  : FnOk P w K mg base CX0 (0 + 1) f fd ["thing"] (T.spF K (T.Zh C0 1 1 Zdy)) :=
 T.Z5 (C := C0) (body := Zdy) (k := 0) (N := Zgv) F ZkP rfl rfl fun cdv A outer s H E hr =>
 have hu := hr.units
 (Zf (Z0 (Zhr (Zc (ZfX (t := .int) (n := "int") rfl (glk ZdO) Z.isinstance_ (Zb ZgT) (Zfn (v := .ty "int") (glk Ze6) Z.int_ ZoO rfl (nmk Ze6) (dbk Ze6)))) (Ziu (Zp7 (Zc (ZfX (t := .bool) (n := "bool") rfl (glk ZdO) Z.isinstance_ (Zb ZgT) (Zfn (v := .ty "bool") (glk Zeg) Z.bool_ ZmQ rfl (nmk Zeg) (dbk Zeg))))))))
  Zn)
noncomputable abbrev ZaD : Stmt := top 7
noncomputable abbrev ZeE : List Str := ["count", "thing"]
theorem Zk3 : FnScope ZeE ["count", "thing"] (Za ZaD) := ⟨rfl, rfl, rfl, by walk_at "d", rfl, by walk_at "d", by walk_at "d"⟩
theorem Zg8 : Ze (Za ZaD) ZeE 1 "thing" false = true := by walk_at "d"
theorem ZjF : Ze (Za ZaD) ZeE 0 "count" false = true := by walk_at "d"
theorem Zeh : glOk (Za ZaD) "is_whole" = true := by walk_at "d"
noncomputable def ZcG : List T.S := [.ret (.and (.call ZS [.v 1]) (.chain .LtE .Lt (.k (.int 0)) (.v 1) (.v 0)))]
noncomputable def Zc1 : T.FI := ⟨true, T.Zh C0 2 2 ZcG⟩
theorem Zk4 (F : Fun K "is_symbol" "is_symbol" ZaD f fd) (Z : Txt K mg C) (G_is_whole : FnAt P w K mg base "is_whole" 1 ["thing"] (T.spF K ZS.run)) : FnOk P w K mg base CX0 (1 + 1) f fd ["count", "thing"] (T.spF K (T.Zh C0 2 2 ZcG)) :=
 T.Z5 (C := C0) (body := ZcG) (k := 1) (N := ZeE) F Zk3 rfl rfl fun cdv A outer s H E hr =>
 have hu := hr.units
 (Zf (Z0 (Zhr (Zc (Z2 G_is_whole hr (Zg (Zb Zg8) Zl) (hg := glk Zeh) (hdb := dbk Zeh))) (Ziu (Zku hu Zm (Zb Zg8) (Zb ZjF)))))
  Zn)
noncomputable abbrev ZF : Stmt := top 8
noncomputable abbrev ZaK : List Str := ["count", "row", "number", "thing"]
theorem ZdE : FnScope ZaK ["count", "row"] (Za ZF) := ⟨rfl, rfl, rfl, by walk_at "d", rfl, by walk_at "d", by walk_at "d"⟩
theorem Zh8 : Ze (Za ZF) ZaK 1 "row" false = true := by walk_at "d"
theorem Zfm : glOk (Za ZF) "enumerate" = true := by walk_at "d"
theorem Zfd : Ze (Za ZF) ZaK 3 "thing" false = true := by walk_at "d"
theorem Zh9 : Ze (Za ZF) ZaK 2 "number" false = true := by walk_at "d"
theorem Zc8 : glOk (Za ZF) "is_symbol" = true := by walk_at "d"
theorem ZhA : Ze (Za ZF) ZaK 0 "count" false = true := by walk_at "d"
noncomputable def Zbl : List T.S := [.for_ (.tup [2, 3]) .enum [.v 1, .k (.int 0)] [.iff (.nt (.call Zc1 [.v 0, .v 3])) [.raise (.k .non)] []]]
noncomputable def Zb6 : T.FI := ⟨true, T.Zh C0 2 4 Zbl⟩
theorem ZhX (F : Fun K "check_symbols" "check_symbols" ZF f fd) (Z : Txt K mg C) (G_is_symbol : FnAt P w K mg base "is_symbol" 2 ["count", "thing"] (T.spF K Zc1.run)) : FnOk P w K mg base CX0 (2 + 1) f fd ["count", "row"] (T.spF K (T.Zh C0 2 4 Zbl)) :=
 T.Z5 (C := C0) (body := Zbl) (k := 2) (N := ZaK) F ZdE rfl rfl fun cdv A outer s H E hr =>
 have hu := hr.units
 (Zf (Zcq PassesOwn.never rfl (Zd9 _ _) (hw_2 (Zfq rfl) (Zcr rfl)) (Zkw (glk Zfm) Z.enumerate_ (Zb Zh8)) (ZjW rfl (Zcf Zh9 ZdE.nd (Zcf Zfd ZdE.nd Zhx)))
  (Zf (Zbs (Zbw (ZbN (Zc (Z2 G_is_symbol hr (Zg (Zb ZhA) (Zg (Zb Zfd) Zl)) (hg := glk Zc8) (hdb := dbk Zc8))))) (Zf Zft
  Zn) Zn)
  Zn))
  Zn)
noncomputable abbrev ZD : Stmt := top 12
noncomputable abbrev ZcH : List Str := ["count", "things"]
theorem ZjG : FnScope ZcH ["count", "things"] (Za ZD) := ⟨rfl, rfl, rfl, by walk_at "d", rfl, by walk_at "d", by walk_at "d"⟩
theorem ZdF : glOk (Za ZD) "len" = true := by walk_at "d"
theorem Ze7 : Ze (Za ZD) ZcH 1 "things" false = true := by walk_at "d"
theorem ZiV : Ze (Za ZD) ZcH 0 "count" false = true := by walk_at "d"
theorem ZfD : glOk (Za ZD) "isinstance" = true := by walk_at "d"
theorem Zdi : glOk (Za ZD) "list" = true := by walk_at "d"
theorem ZdG : glOk (Za ZD) "all" = true := by walk_at "d"
noncomputable abbrev Zch : Scope := { kind := .function, names := [(Str.ofString ".0", NameKind.local), (Str.ofString "thing", NameKind.local), (Str.ofString "is_whole", NameKind.globalImplicit), (Str.ofString "WIDEST", NameKind.globalImplicit)], isGenerator := false, isCoroutine := false, more := [] }
noncomputable abbrev Zei : List Str := ["thing"]
theorem ZhB : ZcC (Za ZD) ZcH 1 [] Zei Zch = true := by walk_at "d"
theorem ZgU : Zei.Nodup := by walk_at "d"
theorem Zdj : Ze (ZB Zch (Za ZD)) Zei 0 "thing" false = true := by walk_at "d"
theorem Zdz : glOk (ZB Zch (Za ZD)) "WIDEST" = true := by walk_at "d"
theorem ZcI : glOk (ZB Zch (Za ZD)) "is_whole" = true := by walk_at "d"
noncomputable def Zcs : List T.S := [.iff (.or (.nt (.bf (.isi .list) [.v 1])) (.cmp .NotEq (.bf .len [.v 1]) (.v 0))) [.ret (.k (.bl false))] [], .ret (.bf .all [.comp 1 [] (.name 0) .val [.v 1] [] (.and (.call ZS [.v 0]) (.chain .LtE .LtE (.k (.int 1)) (.v 0) (.k (.int 4))))])]
noncomputable def Zbm : T.FI := ⟨true, T.Zh C0 2 2 Zcs⟩
theorem ZjH (F : Fun K "are_widths" "are_widths" ZD f fd) (Z : Txt K mg C) (G_is_whole : FnAt P w K mg base "is_whole" 1 ["thing"] (T.spF K ZS.run)) : FnOk P w K mg base CX0 (1 + 1) f fd ["count", "things"] (T.spF K (T.Zh C0 2 2 Zcs)) :=
 T.Z5 (C := C0) (body := Zcs) (k := 1) (N := ZcH) F ZjG rfl rfl fun cdv A outer s H E hr =>
 have hu := hr.units
 (Zf (Zbs (PW.pt (ZcE (Zbw (ZbN (Zc (ZfX (t := .list) (n := "list") rfl (glk ZfD) Z.isinstance_ (Zb Ze7) (Zfn (v := .ty "list") (glk Zdi) Z.list_ ZmR rfl (nmk Zdi) (dbk Zdi)))))) (Zec (Zae hu (Zc (ZaF Zdv (glk ZdF) Z.len_ Zdx (Zg (Zb Ze7) Zl) (nmk ZdF) (dbk ZdF))) (Zb ZiV))))) (Zf (Z0 (ok_k ZdV))
  Zn) Zn)
  (Zf (Z0 (ZaF (Zrr rfl) (glk ZdG) Z.all_ Zr0 (Zg (Zc (ZfZ rfl (CompScope.of ZhB rfl rfl) (ZbO (Zb Ze7)) (fun cl C s₀ H₀ ex => ⟨(Zb5 Zdj ZgU), ZeK, (Zhr (Zc (Z2 G_is_whole hr (Zg (Zb Zdj) Zl) (hg := glk ZcI) (hdb := dbk ZcI))) (Ziu (Zku hu Zm (Zb Zdj) (Zc (Zmi (glk Zdz) Z.WIDEST_ (dbk Zdz))))))⟩))) Zl) (nmk ZdG) (dbk ZdG)))
  Zn))
noncomputable abbrev Zci : Stmt := top 13
noncomputable abbrev ZhY : List Str := ["widths"]
theorem Znu : FnScope ZhY ["widths"] (Za Zci) := ⟨rfl, rfl, rfl, by walk_at "d", rfl, by walk_at "d", by walk_at "d"⟩
theorem ZjI : glOk (Za Zci) "list" = true := by walk_at "d"
theorem Zml : Ze (Za Zci) ZhY 0 "widths" false = true := by walk_at "d"
theorem ZhC : glOk (Za Zci) "reversed" = true := by walk_at "d"
noncomputable def ZeL : List T.S := [.ret (.rev (.v 0))]
noncomputable def ZbE : T.FI := ⟨true, T.Zh C0 1 1 ZeL⟩
theorem Znv (F : Fun K "turned" "turned" Zci f fd) (Z : Txt K mg C)  : FnOk P w K mg base CX0 (0 + 1) f fd ["widths"] (T.spF K (T.Zh C0 1 1 ZeL)) :=
 T.Z5 (C := C0) (body := ZeL) (k := 0) (N := ZhY) F Znu rfl rfl fun cdv A outer s H E hr =>
 have hu := hr.units
 (Zf (Z0 (Zsv rfl (glk ZjI) Z.list_ (glk ZhC) Z.reversed_ (Zb Zml)))
  Zn)
noncomputable abbrev ZT : Stmt := top 14
noncomputable abbrev ZcX : List Str := ["parts", "total", "start", "stop"]
theorem ZkR : FnScope ZcX ["parts", "total", "start", "stop"] (Za ZT) := ⟨rfl, rfl, rfl, by walk_at "d", rfl, by walk_at "d", by walk_at "d"⟩
theorem Zbt : glOk (Za ZT) "is_whole" = true := by walk_at "d"
theorem Zfx : Ze (Za ZT) ZcX 1 "total" false = true := by walk_at "d"
theorem ZbP : Ze (Za ZT) ZcX 0 "parts" false = true := by walk_at "d"
theorem Zfy : glOk (Za ZT) "PARTS" = true := by walk_at "d"
theorem ZaL : glOk (Za ZT) "are_widths" = true := by walk_at "d"
theorem Zfz : Ze (Za ZT) ZcX 3 "stop" false = true := by walk_at "d"
theorem Zf0 : Ze (Za ZT) ZcX 2 "start" false = true := by walk_at "d"
theorem Zbh : glOk (Za ZT) "sum" = true := by walk_at "d"
theorem Zfe : glOk (Za ZT) "turned" = true := by walk_at "d"
noncomputable def Zd0 : List T.S := [.iff (.or (.nt (.call ZS [.v 0])) (.or (.cmp .NotIn (.v 0) (.g (.node .ftp false ((([4, 6] : List Int).map V.int).map D.sc)))) (.nt (.call ZS [.v 1])))) [.ret (.k (.bl false))] [], .iff (.or (.nt (.call Zbm [.v 0, .v 2])) (.nt (.call Zbm [.bin .Add (.v 0) (.k (.int 1)), .v 3]))) [.ret (.k (.bl false))] [], .iff (.or (.cmp .NotEq (.bf .sum [.v 2]) (.v 1)) (.cmp .NotEq (.bf .sum [.sl (.v 3) (.k .non) (.v 0)]) (.v 1))) [.ret (.k (.bl false))] [], .ret (.cmp .NotEq (.sl (.call ZbE [.v 3]) (.k .non) (.v 0)) (.v 2))]
noncomputable def ZcY : T.FI := ⟨true, T.Zh C0 4 4 Zd0⟩
theorem ZkS (F : Fun K "is_fount" "is_fount" ZT f fd) (Z : Txt K mg C) (G_is_whole : FnAt P w K mg base "is_whole" 1 ["thing"] (T.spF K ZS.run)) (G_are_widths : FnAt P w K mg base "are_widths" 2 ["count", "things"] (T.spF K Zbm.run)) (G_turned : FnAt P w K mg base "turned" 1 ["widths"] (T.spF K ZbE.run)) : FnOk P w K mg base CX0 (2 + 1) f fd ["parts", "total", "start", "stop"] (T.spF K (T.Zh C0 4 4 Zd0)) :=
 T.Z5 (C := C0) (body := Zd0) (k := 2) (N := ZcX) F ZkR rfl rfl fun cdv A outer s H E hr =>
 have hu := hr.units
 (Zf (Zbs (PW.pt (ZcE (Zbw (ZbN (Zc (Z2 G_is_whole hr (Zg (Zb ZbP) Zl) (hg := glk Zbt) (hdb := dbk Zbt))))) (ZcE (Zae hu (Zb ZbP) (Zc (Zqa (glk Zfy) Z.PARTS_ (dbk Zfy)))) (Zec (Zbw (ZbN (Zc (Z2 G_is_whole hr (Zg (Zb Zfx) Zl) (hg := glk Zbt) (hdb := dbk Zbt))))))))) (Zf (Z0 (ok_k ZdV))
  Zn) Zn)
  (Zf (Zbs (PW.pt (ZcE (Zbw (ZbN (Zc (Z2 G_are_widths hr (Zg (Zb ZbP) (Zg (Zb Zf0) Zl)) (hg := glk ZaL) (hdb := dbk ZaL))))) (Zec (Zbw (ZbN (Zc (Z2 G_are_widths hr (Zg (Zc (Zj (Zk _) (Zb ZbP) Zm)) (Zg (Zb Zfz) Zl)) (hg := glk ZaL) (hdb := dbk ZaL)))))))) (Zf (Z0 (ok_k ZdV))
  Zn) Zn)
  (Zf (Zbs (PW.pt (ZcE (Zae hu (Zc (ZaF (Znb rfl) (glk Zbh) Z.sum_ Znh (Zg (Zb Zf0) Zl) (nmk Zbh) (dbk Zbh))) (Zb Zfx)) (Zec (Zae hu (Zc (ZaF (Znb rfl) (glk Zbh) Z.sum_ Znh (Zg (Zc (ZfF (Zb Zfz) Zhs (Zc0 (Zb ZbP)))) Zl) (nmk Zbh) (dbk Zbh))) (Zb Zfx))))) (Zf (Z0 (ok_k ZdV))
  Zn) Zn)
  (Zf (Z0 (ZiR hu (Zc (ZfF (Zc (Z2 G_turned hr (Zg (Zb Zfz) Zl) (hg := glk Zfe) (hdb := dbk Zfe))) Zhs (Zc0 (Zb ZbP)))) (Zb Zf0)))
  Zn))))
noncomputable abbrev ZC : Stmt := top 15
noncomputable abbrev Za2 : List Str := ["parts", "total", "found", "width", "rest"]
theorem ZbQ : FnScope Za2 ["parts", "total"] (Za ZC) := ⟨rfl, rfl, rfl, by walk_at "d", rfl, by walk_at "d", by walk_at "d"⟩
theorem Zc9 : Ze (Za ZC) Za2 0 "parts" false = true := by walk_at "d"
theorem ZfH : Ze (Za ZC) Za2 1 "total" false = true := by walk_at "d"
theorem Zbd : glOk (Za ZC) "WIDEST" = true := by walk_at "d"
theorem Zej : Ze (Za ZC) Za2 2 "found" false = true := by walk_at "d"
theorem ZgA : glOk (Za ZC) "range" = true := by walk_at "d"
theorem Zek : Ze (Za ZC) Za2 3 "width" false = true := by walk_at "d"
theorem ZcA : glOk (Za ZC) "patterns_of" = true := by walk_at "d"
theorem ZfI : Ze (Za ZC) Za2 4 "rest" false = true := by walk_at "d"
noncomputable def Zbi (fi : T.FI) : List T.S := [.iff (.nt (.chain .LtE .LtE (.v 0) (.v 1) (.bin .Mult (.k (.int 4)) (.v 0)))) [.ret (.lst [])] [], .iff (.cmp .Eq (.v 0) (.k (.int 0))) [.ret (.lst [.lst []])] [], .asg 2 (.lst []), .for_ (.name 3) .rng2 [.k (.int 1), .bin .Add (.k (.int 4)) (.k (.int 1))] [.for_ (.name 4) .val [.call fi [.bin .Sub (.v 0) (.k (.int 1)), .bin .Sub (.v 1) (.v 3)]] [.ex (.mut .append 2 [] [.bin .Add (.lst [.v 3]) (.v 4)])]], .ret (.v 2)]
noncomputable def ZG : Nat -> List T.D -> T.Rs (T.D × List T.D)
 | 0 => T.Zh C0 2 5 [.raise (.k .non)]
 | n + 1 => T.Zh C0 2 5 (Zbi ⟨true, ZG n⟩)
noncomputable def Zct : T.FI := ⟨true, ZG 7⟩
theorem Zi1 (F : Fun K "patterns_of" "patterns_of" ZC f fd) (Z : Txt K mg C) : FnOk P w K mg base CX0 (0 + 1) f fd ["parts", "total"] (T.spF K (ZG 0)) :=
 T.Z5 (C := C0) (body := [.raise (.k .non)]) (k := 0) (N := Za2) F ZbQ rfl rfl fun cdv A outer s H E hr => T.Zor
theorem ZiW (F : Fun K "patterns_of" "patterns_of" ZC f fd) (Z : Txt K mg C) {n : Nat} (G_self : FnAt P w K mg base "patterns_of" (n + 1) ["parts", "total"] (T.spF K (⟨true, ZG n⟩ : T.FI).run)) : FnOk P w K mg base CX0 (n + 1 + 1) f fd ["parts", "total"] (T.spF K (ZG (n + 1))) :=
 T.Z5 (C := C0) (body := Zbi ⟨true, ZG n⟩) (k := n + 1) (N := Za2) F ZbQ rfl rfl fun cdv A outer s H E hr =>
 have hu := hr.units
 (Zf (Zbs (Zbw (Znk hu (Zb Zc9) (Zb ZfH) (Zc (Zj (Zk _) (Zc (Zmi (glk Zbd) Z.WIDEST_ (dbk Zbd))) (Zb Zc9))))) (Zf (Z0 (Zbk Zad))
  Zn) Zn)
  (Zf (Zbs (Zae hu (Zb Zc9) Zm) (Zf (Z0 (Zbk (ZO (Zbk Zad) Zad)))
  Zn) Zn)
  (Zf (Zu Zej ZbQ.nd (Zbk Zad))
  (Zf (Zqf PassesOwn.never rfl (hw_2 (Zcr rfl) (Zcr rfl)) (Zlx (glk ZgA) Z.range_ Zm (Zc (Zj (Zk _) (Zc (Zmi (glk Zbd) Z.WIDEST_ (dbk Zbd))) Zm))) (Zb5 Zek ZbQ.nd)
  (Zf (Zcq PassesOwn.never rfl (Zd9 _ _) (hw_1 (Zcr rfl)) (ZbO (Zc (Z2 G_self hr (Zg (Zc (Zj (Zk _) (Zb Zc9) Zm)) (Zg (Zc (Zj (Zk _) (Zb ZfH) (Zb Zek))) Zl)) (hj := Nat.le_refl _) (hg := glk ZcA) (hdb := dbk ZcA)))) (Zb5 ZfI ZbQ.nd)
  (Zf (ZdN (ZdM (pvs Zej) (ZO (Zj (Zk _) (Zc (Zbk (ZO (ok_v (pvs Zek)) Zad))) (Zb ZfI)) Zad)))
  Zn))
  Zn))
  (Zf (Z0 (ZfY (pvs Zej)))
  Zn)))))
noncomputable abbrev Zaj : Stmt := top 16
noncomputable abbrev ZbR : List Str := ["parts", "width_count", "stretches"]
theorem ZfJ : FnScope ZbR ["parts", "width_count"] (Za Zaj) := ⟨rfl, rfl, rfl, by walk_at "d", rfl, by walk_at "d", by walk_at "d"⟩
theorem Zcj : Ze (Za Zaj) ZbR 2 "stretches" false = true := by walk_at "d"
theorem Zf1 : Ze (Za Zaj) ZbR 1 "width_count" false = true := by walk_at "d"
theorem Zf2 : Ze (Za Zaj) ZbR 0 "parts" false = true := by walk_at "d"
noncomputable def Zb7 : List T.S := [.asg 2 (.bin .FloorDiv (.v 1) (.v 0)), .iff (.or (.cmp .Lt (.v 2) (.k (.int 2))) (.cmp .NotEq (.v 1) (.bin .Add (.bin .Mult (.v 2) (.v 0)) (.k (.int 1))))) [.raise (.k .non)] [], .ret (.v 2)]
noncomputable def ZX : T.FI := ⟨true, T.Zh C0 2 3 Zb7⟩
theorem Zi2 (F : Fun K "stretches_in" "stretches_in" Zaj f fd) (Z : Txt K mg C)  : FnOk P w K mg base CX0 (0 + 1) f fd ["parts", "width_count"] (T.spF K (T.Zh C0 2 3 Zb7)) :=
 T.Z5 (C := C0) (body := Zb7) (k := 0) (N := ZbR) F ZfJ rfl rfl fun cdv A outer s H E hr =>
 have hu := hr.units
 (Zf (Zu Zcj ZfJ.nd (Zj (Zk _) (Zb Zf1) (Zb Zf2)))
  (Zf (Zbs (PW.pt (ZcE (Zae hu (Zb Zcj) Zm) (Zec (Zae hu (Zb Zf1) (Zc (Zj (Zk _) (Zc (Zj (Zk _) (Zb Zcj) (Zb Zf2))) Zm)))))) (Zf Zft
  Zn) Zn)
  (Zf (Z0 (ZfY (pvs Zcj)))
  Zn)))
noncomputable abbrev Zq : Stmt := Zcx (top 17) 0
noncomputable abbrev ZU : List Str := ["self", "parts", "total", "start", "stop", "symbol", "shape"]
theorem Zdk : FnScope ZU ["self", "parts", "total", "start", "stop"] (Za Zq) := ⟨rfl, rfl, rfl, by walk_at "d", rfl, by walk_at "d", by walk_at "d"⟩
theorem ZcB : glOk (Za Zq) "is_fount" = true := by walk_at "d"
theorem ZcJ : Ze (Za Zq) ZU 1 "parts" false = true := by walk_at "d"
theorem ZcK : Ze (Za Zq) ZU 2 "total" false = true := by walk_at "d"
theorem ZeM : Ze (Za Zq) ZU 3 "start" false = true := by walk_at "d"
theorem ZeN : Ze (Za Zq) ZU 4 "stop" false = true := by walk_at "d"
theorem ZQ : Ze (Za Zq) ZU 0 "self" false = true := by walk_at "d"
theorem Zaa : glOk (Za Zq) "list" = true := by walk_at "d"
theorem ZbS : glOk (Za Zq) "patterns_of" = true := by walk_at "d"
theorem ZeS : glOk (Za Zq) "enumerate" = true := by walk_at "d"
theorem ZeO : Ze (Za Zq) ZU 6 "shape" false = true := by walk_at "d"
theorem ZeP : Ze (Za Zq) ZU 5 "symbol" false = true := by walk_at "d"
theorem ZfP : glOk (Za Zq) "tuple" = true := by walk_at "d"
noncomputable def ZaX (C : Addr) : List T.S := [.iff (.nt (.call ZcY [.v 1, .v 2, .v 3, .v 4])) [.raise (.k .non)] [], .attr 0 "part_count" (.v 1), .attr 0 "widths_sum" (.v 2), .attr 0 "opening" (.bf .list [.v 3]), .attr 0 "closing" (.bf .list [.v 4]), .attr 0 "shapes" (.call Zct [.v 1, .v 2]), .attr 0 "symbols_by_shape" (.dct0), .for_ (.tup [5, 6]) .enum [.fldV 0 "shapes", .k (.int 0)] [.dput 0 "symbols_by_shape" 6 5]]
noncomputable def Zaq (C : Addr) : T.FI := ⟨true, T.Zh (CK C) 5 7 (ZaX C)⟩
theorem ZhD (F : Fun K "__init__" "Fount.__init__" Zq f fd) (Z : Txt K mg C) (G_is_fount : FnAt P w K mg base "is_fount" 3 ["parts", "total", "start", "stop"] (T.spF K ZcY.run)) (G_patterns_of : FnAt P w K mg base "patterns_of" 8 ["parts", "total"] (T.spF K Zct.run)) : FnOk P w K mg base CX0 (8 + 1) f fd ["self", "parts", "total", "start", "stop"] (T.spF K (T.Zh (CK C) 5 7 (ZaX C))) :=
 T.Z5 (C := (CK C)) (body := (ZaX C)) (k := 8) (N := ZU) F Zdk rfl rfl fun cdv A outer s H E hr =>
 have hu := hr.units
 (Zf (Zbs (Zbw (ZbN (Zc (Z2 G_is_fount hr (Zg (Zb ZcJ) (Zg (Zb ZcK) (Zg (Zb ZeM) (Zg (Zb ZeN) Zl)))) (hg := glk ZcB) (hdb := dbk ZcB))))) (Zf Zft
  Zn) Zn)
  (Zf (Zfr Z.fok (pvs ZQ) (ok_v (pvs ZcJ)))
  (Zf (Zfr Z.fok (pvs ZQ) (ok_v (pvs ZcK)))
  (Zf (Zfr Z.fok (pvs ZQ) (Zed ZcU (glk Zaa) Z.list_ ZcW (Zg (Zb ZeM) Zl) (nmk Zaa) (dbk Zaa)))
  (Zf (Zfr Z.fok (pvs ZQ) (Zed ZcU (glk Zaa) Z.list_ ZcW (Zg (Zb ZeN) Zl) (nmk Zaa) (dbk Zaa)))
  (Zf (Zfr Z.fok (pvs ZQ) (Z2 G_patterns_of hr (Zg (Zb ZcJ) (Zg (Zb ZcK) Zl)) (hg := glk ZbS) (hdb := dbk ZbS)))
  (Zf (Zfr Z.fok (pvs ZQ) ZuL)
  (Zf (Zcq PassesOwn.never rfl (Zd9 _ _) (hw_2 (Zcr rfl) (Zcr rfl)) (Zkw (glk ZeS) Z.enumerate_ (Zc (Zqc Z.fok (pvs ZQ)))) (ZjW rfl (Zcf ZeP Zdk.nd (Zcf ZeO Zdk.nd Zhx)))
  (Zf (Zqe hu Z.fok (glk ZfP) Z.tuple_ (pvs ZQ) (pvs ZeO) (pvs ZeP))
  Zn))
  Zn))))))))
noncomputable abbrev ZaP : Stmt := Zcx (top 17) 1
noncomputable abbrev ZeT : List Str := ["self"]
theorem ZiX : FnScope ZeT ["self"] (Za ZaP) := ⟨rfl, rfl, rfl, by walk_at "d", rfl, by walk_at "d", by walk_at "d"⟩
theorem Zi3 : Ze (Za ZaP) ZeT 0 "self" false = true := by walk_at "d"
noncomputable def ZbT (C : Addr) : List T.S := [.ret (.fld (.v 0) "part_count")]
noncomputable def Zby (C : Addr) : T.FI := ⟨true, T.Zh (CK C) 1 1 (ZbT C)⟩
theorem ZiY (F : Fun K "parts" "Fount.parts" ZaP f fd) (Z : Txt K mg C)  : FnOk P w K mg base CX0 (0 + 1) f fd ["self"] (T.spF K (T.Zh (CK C) 1 1 (ZbT C))) :=
 T.Z5 (C := (CK C)) (body := (ZbT C)) (k := 0) (N := ZeT) F ZiX rfl rfl fun cdv A outer s H E hr =>
 have hu := hr.units
 (Zf (Z0 (ZaV Z.fok (Zb Zi3)))
  Zn)
noncomputable abbrev ZaQ : Stmt := Zcx (top 17) 2
noncomputable abbrev ZeU : List Str := ["self"]
theorem ZiZ : FnScope ZeU ["self"] (Za ZaQ) := ⟨rfl, rfl, rfl, by walk_at "d", rfl, by walk_at "d", by walk_at "d"⟩
theorem Zi4 : Ze (Za ZaQ) ZeU 0 "self" false = true := by walk_at "d"
noncomputable def ZbU (C : Addr) : List T.S := [.ret (.fld (.v 0) "widths_sum")]
noncomputable def Zbz (C : Addr) : T.FI := ⟨true, T.Zh (CK C) 1 1 (ZbU C)⟩
theorem Zja (F : Fun K "total" "Fount.total" ZaQ f fd) (Z : Txt K mg C)  : FnOk P w K mg base CX0 (0 + 1) f fd ["self"] (T.spF K (T.Zh (CK C) 1 1 (ZbU C))) :=
 T.Z5 (C := (CK C)) (body := (ZbU C)) (k := 0) (N := ZeU) F ZiZ rfl rfl fun cdv A outer s H E hr =>
 have hu := hr.units
 (Zf (Z0 (ZaV Z.fok (Zb Zi4)))
  Zn)
noncomputable abbrev ZaG : Stmt := Zcx (top 17) 4
noncomputable abbrev Zf3 : List Str := ["self"]
theorem ZjJ : FnScope Zf3 ["self"] (Za ZaG) := ⟨rfl, rfl, rfl, by walk_at "d", rfl, by walk_at "d", by walk_at "d"⟩
theorem Zdl : glOk (Za ZaG) "list" = true := by walk_at "d"
theorem Zjb : Ze (Za ZaG) Zf3 0 "self" false = true := by walk_at "d"
noncomputable def Zcu (C : Addr) : List T.S := [.ret (.bf .list [.fld (.v 0) "closing"])]
noncomputable def ZbV (C : Addr) : T.FI := ⟨true, T.Zh (CK C) 1 1 (Zcu C)⟩
theorem ZjK (F : Fun K "stop" "Fount.stop" ZaG f fd) (Z : Txt K mg C)  : FnOk P w K mg base CX0 (0 + 1) f fd ["self"] (T.spF K (T.Zh (CK C) 1 1 (Zcu C))) :=
 T.Z5 (C := (CK C)) (body := (Zcu C)) (k := 0) (N := Zf3) F ZjJ rfl rfl fun cdv A outer s H E hr =>
 have hu := hr.units
 (Zf (Z0 (Zed ZcU (glk Zdl) Z.list_ ZcW (Zg (Zc (ZaV Z.fok (Zb Zjb))) Zl) (nmk Zdl) (dbk Zdl)))
  Zn)
noncomputable abbrev ZN : Stmt := Zcx (top 17) 5
noncomputable abbrev Zck : List Str := ["self"]
theorem ZhE : FnScope Zck ["self"] (Za ZN) := ⟨rfl, rfl, rfl, by walk_at "d", rfl, by walk_at "d", by walk_at "d"⟩
theorem ZgV : Ze (Za ZN) Zck 0 "self" false = true := by walk_at "d"
noncomputable abbrev Zcl : Scope := { kind := .function, names := [(Str.ofString ".0", NameKind.local), (Str.ofString "shape", NameKind.local), (Str.ofString "list", NameKind.globalImplicit)], isGenerator := false, isCoroutine := false, more := [] }
noncomputable abbrev Zc3 : List Str := ["shape"]
theorem Zga : ZcC (Za ZN) Zck 1 [] Zc3 Zcl = true := by walk_at "d"
theorem ZfQ : Zc3.Nodup := by walk_at "d"
theorem ZdP : Ze (ZB Zcl (Za ZN)) Zc3 0 "shape" false = true := by walk_at "d"
theorem Zbn : glOk (ZB Zcl (Za ZN)) "list" = true := by walk_at "d"
noncomputable def ZaY (C : Addr) : List T.S := [.ret (.comp 1 [] (.name 0) .val [.fld (.v 0) "shapes"] [] (.bf .list [.v 0]))]
noncomputable def Za8 (C : Addr) : T.FI := ⟨true, T.Zh (CK C) 1 1 (ZaY C)⟩
theorem ZhF (F : Fun K "patterns" "Fount.patterns" ZN f fd) (Z : Txt K mg C)  : FnOk P w K mg base CX0 (0 + 1) f fd ["self"] (T.spF K (T.Zh (CK C) 1 1 (ZaY C))) :=
 T.Z5 (C := (CK C)) (body := (ZaY C)) (k := 0) (N := Zck) F ZhE rfl rfl fun cdv A outer s H E hr =>
 have hu := hr.units
 (Zf (Z0 (ZfZ rfl (CompScope.of Zga rfl rfl) (ZbO (Zc (ZaV Z.fok (Zb ZgV)))) (fun cl C s₀ H₀ ex => ⟨(Zb5 ZdP ZfQ), ZeK, (Zed ZcU (glk Zbn) Z.list_ ZcW (Zg (Zb ZdP) Zl) (nmk Zbn) (dbk Zbn))⟩)))
  Zn)
noncomputable abbrev Z9 : Stmt := Zcx (top 17) 6
noncomputable abbrev ZaM : List Str := ["self", "row", "widths", "symbol"]
theorem ZdH : FnScope ZaM ["self", "row"] (Za Z9) := ⟨rfl, rfl, rfl, by walk_at "d", rfl, by walk_at "d", by walk_at "d"⟩
theorem ZbG : glOk (Za Z9) "check_symbols" = true := by walk_at "d"
theorem Zc4 : glOk (Za Z9) "len" = true := by walk_at "d"
theorem ZbM : Ze (Za Z9) ZaM 0 "self" false = true := by walk_at "d"
theorem Zff : Ze (Za Z9) ZaM 1 "row" false = true := by walk_at "d"
theorem Zdm : Ze (Za Z9) ZaM 2 "widths" false = true := by walk_at "d"
theorem Zcm : glOk (Za Z9) "list" = true := by walk_at "d"
theorem Zfg : Ze (Za Z9) ZaM 3 "symbol" false = true := by walk_at "d"
noncomputable def Zbo (C : Addr) : List T.S := [.ex (.call Zb6 [.bf .len [.fld (.v 0) "shapes"], .v 1]), .asg 2 (.bf .list [.fld (.v 0) "opening"]), .for_ (.name 3) .val [.v 1] [.ex (.mut .extend 2 [] [.ix (.fld (.v 0) "shapes") (.v 3)])], .ret (.bin .Add (.v 2) (.fld (.v 0) "closing"))]
noncomputable def ZaN (C : Addr) : T.FI := ⟨true, T.Zh (CK C) 2 4 (Zbo C)⟩
theorem ZhZ (F : Fun K "printed" "Fount.printed" Z9 f fd) (Z : Txt K mg C) (G_check_symbols : FnAt P w K mg base "check_symbols" 3 ["count", "row"] (T.spF K Zb6.run)) : FnOk P w K mg base CX0 (3 + 1) f fd ["self", "row"] (T.spF K (T.Zh (CK C) 2 4 (Zbo C))) :=
 T.Z5 (C := (CK C)) (body := (Zbo C)) (k := 3) (N := ZaM) F ZdH rfl rfl fun cdv A outer s H E hr =>
 have hu := hr.units
 (Zf (ZdN (Z2 G_check_symbols hr (Zg (Zc (ZaF Zdv (glk Zc4) Z.len_ Zdx (Zg (Zc (ZaV Z.fok (Zb ZbM))) Zl) (nmk Zc4) (dbk Zc4))) (Zg (Zb Zff) Zl)) (hg := glk ZbG) (hdb := dbk ZbG)))
  (Zf (Zu Zdm ZdH.nd (Zed ZcU (glk Zcm) Z.list_ ZcW (Zg (Zc (ZaV Z.fok (Zb ZbM))) Zl) (nmk Zcm) (dbk Zcm)))
  (Zf (Zcq PassesOwn.never rfl (Zd9 _ _) (hw_1 (Zfq rfl)) (ZbO (Zb Zff)) (Zb5 Zfg ZdH.nd)
  (Zf (ZdN (Znl (pvs Zdm) (Zg (Zc (ZcF hu (Zc (ZaV Z.fok (Zb ZbM))) (Zb Zfg))) Zl)))
  Zn))
  (Zf (Z0 (Zj (Zk _) (Zb Zdm) (Zc (ZaV Z.fok (Zb ZbM)))))
  Zn))))
noncomputable abbrev ZH : Stmt := Zcx (top 17) 8
noncomputable abbrev ZaZ : List Str := ["self", "widths", "begins"]
theorem ZeQ : FnScope ZaZ ["self", "widths"] (Za ZH) := ⟨rfl, rfl, rfl, by walk_at "d", rfl, by walk_at "d", by walk_at "d"⟩
theorem Ze0 : Ze (Za ZH) ZaZ 2 "begins" false = true := by walk_at "d"
theorem Ze1 : Ze (Za ZH) ZaZ 1 "widths" false = true := by walk_at "d"
theorem Zab : glOk (Za ZH) "len" = true := by walk_at "d"
theorem Zbu : Ze (Za ZH) ZaZ 0 "self" false = true := by walk_at "d"
noncomputable def ZaH (C : Addr) : List T.S := [.asg 2 (.cmp .Eq (.sl (.v 1) (.k .non) (.bf .len [.fld (.v 0) "opening"])) (.fld (.v 0) "opening")), .ret (.and (.v 2) (.cmp .Eq (.sl (.v 1) (.neg (.bf .len [.fld (.v 0) "closing"])) (.k .non)) (.fld (.v 0) "closing")))]
noncomputable def Zal (C : Addr) : T.FI := ⟨true, T.Zh (CK C) 2 3 (ZaH C)⟩
theorem ZgW (F : Fun K "is_framed" "Fount.is_framed" ZH f fd) (Z : Txt K mg C)  : FnOk P w K mg base CX0 (0 + 1) f fd ["self", "widths"] (T.spF K (T.Zh (CK C) 2 3 (ZaH C))) :=
 T.Z5 (C := (CK C)) (body := (ZaH C)) (k := 0) (N := ZaZ) F ZeQ rfl rfl fun cdv A outer s H E hr =>
 have hu := hr.units
 (Zf (Zu Ze0 ZeQ.nd (ZiR hu (Zc (ZfF (Zb Ze1) Zhs (Zc0 (Zc (ZaF Zdv (glk Zab) Z.len_ Zdx (Zg (Zc (ZaV Z.fok (Zb Zbu))) Zl) (nmk Zab) (dbk Zab)))))) (Zc (ZaV Z.fok (Zb Zbu)))))
  (Zf (Z0 (Zhr (Zb Ze0) (Ziu (ZiR hu (Zc (ZfF (Zb Ze1) (Zc0 (Zc (ZeJ (Zc (ZaF Zdv (glk Zab) Z.len_ Zdx (Zg (Zc (ZaV Z.fok (Zb Zbu))) Zl) (nmk Zab) (dbk Zab)))))) Zhs)) (Zc (ZaV Z.fok (Zb Zbu)))))))
  Zn))
noncomputable abbrev Z6 : Stmt := Zcx (top 17) 9
noncomputable abbrev Zaf : List Str := ["self", "prime", "widths", "number", "first", "symbol"]
theorem Zdn : FnScope Zaf ["self", "prime", "widths", "number"] (Za Z6) := ⟨rfl, rfl, rfl, by walk_at "d", rfl, by walk_at "d", by walk_at "d"⟩
theorem ZcL : Ze (Za Z6) Zaf 4 "first" false = true := by walk_at "d"
theorem ZgX : Ze (Za Z6) Zaf 3 "number" false = true := by walk_at "d"
theorem ZcM : Ze (Za Z6) Zaf 0 "self" false = true := by walk_at "d"
theorem Zb8 : Ze (Za Z6) Zaf 5 "symbol" false = true := by walk_at "d"
theorem ZgY : Ze (Za Z6) Zaf 2 "widths" false = true := by walk_at "d"
theorem ZfR : glOk (Za Z6) "tuple" = true := by walk_at "d"
theorem ZgZ : Ze (Za Z6) Zaf 1 "prime" false = true := by walk_at "d"
noncomputable def Zba (C : Addr) : List T.S := [.asg 4 (.bin .Mult (.v 3) (.fld (.v 0) "part_count")), .asg 5 (.dget (.fld (.v 0) "symbols_by_shape") (.sl (.v 2) (.v 4) (.bin .Add (.v 4) (.fld (.v 0) "part_count")))), .ret (.ife (.or (.isN true (.v 5)) (.cmp .GtE (.v 5) (.v 1))) (.k .non) (.v 5))]
noncomputable def ZV (C : Addr) : T.FI := ⟨true, T.Zh (CK C) 4 6 (Zba C)⟩
theorem ZhG (F : Fun K "thing_at" "Fount.thing_at" Z6 f fd) (Z : Txt K mg C)  : FnOk P w K mg base CX0 (0 + 1) f fd ["self", "prime", "widths", "number"] (T.spF K (T.Zh (CK C) 4 6 (Zba C))) :=
 T.Z5 (C := (CK C)) (body := (Zba C)) (k := 0) (N := Zaf) F Zdn rfl rfl fun cdv A outer s H E hr =>
 have hu := hr.units
 (Zf (Zu ZcL Zdn.nd (Zj (Zk _) (Zb ZgX) (Zc (ZaV Z.fok (Zb ZcM)))))
  (Zf (Zu Zb8 Zdn.nd (Zqg hu (glk ZfR) Z.tuple_ (ZaV Z.fok (Zb ZcM)) (ZfF (Zb ZgY) (Zc0 (Zb ZcL)) (Zc0 (Zc (Zj (Zk _) (Zb ZcL) (Zc (ZaV Z.fok (Zb ZcM)))))))))
  (Zf (Z0 (Zro (PW.pt (ZcE (ZpX (Zb Zb8)) (Zec (Zae hu (Zb Zb8) (Zb ZgZ))))) (ok_k Zm0) (ok_v (pvs Zb8))))
  Zn)))
noncomputable abbrev Zs : Stmt := Zcx (top 17) 7
noncomputable abbrev Za9 : List Str := ["self", "prime", "widths", "stretches", "seen"]
theorem Zel : FnScope Za9 ["self", "prime", "widths"] (Za Zs) := ⟨rfl, rfl, rfl, by walk_at "d", rfl, by walk_at "d", by walk_at "d"⟩
theorem Zf4 : Ze (Za Zs) Za9 3 "stretches" false = true := by walk_at "d"
theorem Zcb : glOk (Za Zs) "stretches_in" = true := by walk_at "d"
theorem Zf5 : Ze (Za Zs) Za9 0 "self" true = true := by walk_at "d"
theorem ZcN : glOk (Za Zs) "len" = true := by walk_at "d"
theorem ZdI : Ze (Za Zs) Za9 2 "widths" false = true := by walk_at "d"
theorem ZdQ : glOk (Za Zs) "turned" = true := by walk_at "d"
theorem Zf6 : Ze (Za Zs) Za9 4 "seen" true = true := by walk_at "d"
theorem Zgw : glOk (Za Zs) "range" = true := by walk_at "d"
noncomputable abbrev ZaI : Scope := { kind := .function, names := [(Str.ofString ".0", NameKind.local), (Str.ofString "number", NameKind.local), (Str.ofString "prime", NameKind.free), (Str.ofString "seen", NameKind.free), (Str.ofString "self", NameKind.free)], isGenerator := false, isCoroutine := false, more := [] }
noncomputable abbrev Za1 : List Str := ["number", "prime", "seen", "self"]
theorem ZgB : ZcC (Za Zs) Za9 1 [1, 4, 0] Za1 ZaI = true := by walk_at "d"
theorem Zgx : Za1.Nodup := by walk_at "d"
theorem Ze2 : Ze (ZB ZaI (Za Zs)) Za1 0 "number" false = true := by walk_at "d"
theorem ZgC : ZcD (ZB ZaI (Za Zs)) Za1 3 "self" = true := by walk_at "d"
theorem ZgD : ZcD (ZB ZaI (Za Zs)) Za1 1 "prime" = true := by walk_at "d"
theorem ZgE : ZcD (ZB ZaI (Za Zs)) Za1 2 "seen" = true := by walk_at "d"
noncomputable def Zav (C : Addr) : List T.S := [.asg 3 (.call ZX [.fld (.v 0) "part_count", .bf .len [.v 2]]), .for_ (.name 4) .val [.tup [.v 2, .call ZbE [.v 2]]] [.iff (.meth C "is_framed" (Zal C) (.v 0) [.v 4]) [.ret (.comp 1 [1, 4, 0] (.name 0) .rng2 [.k (.int 1), .bin .Sub (.v 3) (.k (.int 1))] [] (.meth C "thing_at" (ZV C) (.v 3) [.v 1, .v 2, .v 0]))] []], .raise (.k .non)]
noncomputable def ZL (C : Addr) : T.FI := ⟨true, T.Zh (CK C) 3 5 (Zav C)⟩
theorem Zi5 (F : Fun K "looked" "Fount.looked" Zs f fd) (Z : Txt K mg C) (G_stretches_in : FnAt P w K mg base "stretches_in" 1 ["parts", "width_count"] (T.spF K ZX.run)) (G_turned : FnAt P w K mg base "turned" 1 ["widths"] (T.spF K ZbE.run)) (G_Fount_is_framed : MeAt P w K mg base C "is_framed" 1 ["self", "widths"] (T.spF K (Zal C).run)) (G_Fount_thing_at : MeAt P w K mg base C "thing_at" 1 ["self", "prime", "widths", "number"] (T.spF K (ZV C).run)) : FnOk P w K mg base CX0 (1 + 1) f fd ["self", "prime", "widths"] (T.spF K (T.Zh (CK C) 3 5 (Zav C))) :=
 T.Z5 (C := (CK C)) (body := (Zav C)) (k := 1) (N := Za9) F Zel rfl rfl fun cdv A outer s H E hr =>
 have hu := hr.units
 (Zf (Zu Zf4 Zel.nd (Z2 G_stretches_in hr (Zg (Zc (ZaV Z.fok (Zb Zf5))) (Zg (Zc (ZaF Zdv (glk ZcN) Z.len_ Zdx (Zg (Zb ZdI) Zl) (nmk ZcN) (dbk ZcN))) Zl)) (hg := glk Zcb) (hdb := dbk Zcb)))
  (Zf (Zcq PassesOwn.never rfl (Zd9 _ _) (hw_1 (Zcr rfl)) (ZbO (Zc (Zna (ZO (ok_v (pvs ZdI)) (ZO (Z2 G_turned hr (Zg (Zb ZdI) Zl) (hg := glk ZdQ) (hdb := dbk ZdQ)) Zad))))) (Zb5 Zf6 Zel.nd)
  (Zf (Zbs (ZbN (Zc (Zhz G_Fount_is_framed hr (Zb Zf5) (Zg (Zb Zf6) Zl)))) (Zf (Z0 (ZfZ rfl (CompScope.of ZgB rfl rfl) (Zlx (glk Zgw) Z.range_ Zm (Zc (Zj (Zk _) (Zb Zf4) Zm))) (fun cl C s₀ H₀ ex => ⟨(Zb5 Ze2 Zgx), ZeK, (Zhz G_Fount_thing_at hr (Zcz (pvf ZgC)) (Zg (Zcz (pvf ZgD)) (Zg (Zcz (pvf ZgE)) (Zg (Zb Ze2) Zl))))⟩)))
  Zn) Zn)
  Zn))
  (Zf Zft
  Zn)))
noncomputable abbrev Zaw : Stmt := top 19
noncomputable abbrev Zcn : List Str := ["widths", "first", "unit", "edges", "width"]
theorem ZfS : FnScope Zcn ["widths", "first", "unit"] (Za Zaw) := ⟨rfl, rfl, rfl, by walk_at "d", rfl, by walk_at "d", by walk_at "d"⟩
theorem Zem : Ze (Za Zaw) Zcn 3 "edges" false = true := by walk_at "d"
theorem Zk5 : Ze (Za Zaw) Zcn 1 "first" false = true := by walk_at "d"
theorem Zk6 : Ze (Za Zaw) Zcn 0 "widths" false = true := by walk_at "d"
theorem Zha : Ze (Za Zaw) Zcn 4 "width" false = true := by walk_at "d"
theorem Zk7 : Ze (Za Zaw) Zcn 2 "unit" false = true := by walk_at "d"
noncomputable def Zd1 : List T.S := [.asg 3 (.lst [.v 1]), .for_ (.name 4) .val [.v 0] [.ex (.mut .append 3 [] [.bin .Add (.ix (.v 3) (.neg (.k (.int 1)))) (.bin .Mult (.v 4) (.v 2))])], .ret (.v 3)]
noncomputable def ZcZ : T.FI := ⟨true, T.Zh C0 3 5 Zd1⟩
theorem ZkT (F : Fun K "edges_of" "edges_of" Zaw f fd) (Z : Txt K mg C)  : FnOk P w K mg base CX0 (0 + 1) f fd ["widths", "first", "unit"] (T.spF K (T.Zh C0 3 5 Zd1)) :=
 T.Z5 (C := C0) (body := Zd1) (k := 0) (N := Zcn) F ZfS rfl rfl fun cdv A outer s H E hr =>
 have hu := hr.units
 (Zf (Zu Zem ZfS.nd (Zbk (ZO (ok_v (pvs Zk5)) Zad)))
  (Zf (Zcq PassesOwn.never rfl (Zd9 _ _) (hw_1 (Zfq rfl)) (ZbO (Zb Zk6)) (Zb5 Zha ZfS.nd)
  (Zf (ZdN (ZdM (pvs Zem) (ZO (Zj (Zk _) (Zc (ZcF hu (Zb Zem) (Zc (ZeJ Zm)))) (Zc (Zj (Zk _) (Zb Zha) (Zb Zk7)))) Zad)))
  Zn))
  (Zf (Z0 (ZfY (pvs Zem)))
  Zn)))
noncomputable abbrev ZR : Stmt := top 20
noncomputable abbrev Zb9 : List Str := ["number", "divisor"]
theorem ZgF : FnScope Zb9 ["number", "divisor"] (Za ZR) := ⟨rfl, rfl, rfl, by walk_at "d", rfl, by walk_at "d", by walk_at "d"⟩
theorem Zgy : Ze (Za ZR) Zb9 0 "number" false = true := by walk_at "d"
theorem Zen : Ze (Za ZR) Zb9 1 "divisor" false = true := by walk_at "d"
noncomputable def Za6 : List T.S := [.ret (.bin .FloorDiv (.bin .Add (.bin .Mult (.k (.int 2)) (.v 0)) (.v 1)) (.bin .Mult (.k (.int 2)) (.v 1)))]
noncomputable def ZM : T.FI := ⟨true, T.Zh C0 2 2 Za6⟩
theorem ZgG (F : Fun K "nearest_quotient" "nearest_quotient" ZR f fd) (Z : Txt K mg C)  : FnOk P w K mg base CX0 (0 + 1) f fd ["number", "divisor"] (T.spF K (T.Zh C0 2 2 Za6)) :=
 T.Z5 (C := C0) (body := Za6) (k := 0) (N := Zb9) F ZgF rfl rfl fun cdv A outer s H E hr =>
 have hu := hr.units
 (Zf (Z0 (Zj (Zk _) (Zc (Zj (Zk _) (Zc (Zj (Zk _) Zm (Zb Zgy))) (Zb Zen))) (Zc (Zj (Zk _) Zm (Zb Zen)))))
  Zn)
noncomputable abbrev Z1 : Stmt := top 21
noncomputable abbrev ZaJ : List Str := ["fount", "prime", "edges", "stretches", "distances", "whole", "span"]
theorem Zeo : FnScope ZaJ ["fount", "prime", "edges"] (Za Z1) := ⟨rfl, rfl, rfl, by walk_at "d", rfl, by walk_at "d", by walk_at "d"⟩
theorem ZhN : Ze (Za Z1) ZaJ 3 "stretches" false = true := by walk_at "d"
theorem Zd2 : glOk (Za Z1) "stretches_in" = true := by walk_at "d"
theorem ZeF : Ze (Za Z1) ZaJ 0 "fount" false = true := by walk_at "d"
theorem ZeV : glOk (Za Z1) "len" = true := by walk_at "d"
theorem Zd3 : Ze (Za Z1) ZaJ 2 "edges" false = true := by walk_at "d"
theorem ZfT : Ze (Za Z1) ZaJ 4 "distances" false = true := by walk_at "d"
theorem ZjL : glOk (Za Z1) "zip" = true := by walk_at "d"
noncomputable abbrev ZdA : Scope := { kind := .function, names := [(Str.ofString ".0", NameKind.local), (Str.ofString "ahead", NameKind.local), (Str.ofString "after", NameKind.local)], isGenerator := false, isCoroutine := false, more := [] }
noncomputable abbrev Zep : List Str := ["ahead", "after"]
theorem Zjc : ZcC (Za Z1) ZaJ 2 [] Zep ZdA = true := by walk_at "d"
theorem ZfK : Zep.Nodup := by walk_at "d"
theorem Zgb : Ze (ZB ZdA (Za Z1)) Zep 1 "after" false = true := by walk_at "d"
theorem Zgc : Ze (ZB ZdA (Za Z1)) Zep 0 "ahead" false = true := by walk_at "d"
theorem Zi6 : ZeI (Za Z1) ZdA "distances" = true := by walk_at "d"
theorem ZeW : glOk (Za Z1) "min" = true := by walk_at "d"
theorem ZkU : Ze (Za Z1) ZaJ 5 "whole" true = true := by walk_at "d"
theorem ZkV : Ze (Za Z1) ZaJ 6 "span" true = true := by walk_at "d"
theorem ZkW : Ze (Za Z1) ZaJ 1 "prime" false = true := by walk_at "d"
noncomputable abbrev Zcv : Scope := { kind := .function, names := [(Str.ofString ".0", NameKind.local), (Str.ofString "distance", NameKind.local), (Str.ofString "nearest_quotient", NameKind.globalImplicit), (Str.ofString "span", NameKind.free), (Str.ofString "whole", NameKind.free)], isGenerator := false, isCoroutine := false, more := [] }
noncomputable abbrev ZcO : List Str := ["distance", "span", "whole"]
theorem Zjd : ZcC (Za Z1) ZaJ 1 [6, 5] ZcO Zcv = true := by walk_at "d"
theorem Zi7 : ZcO.Nodup := by walk_at "d"
theorem Zgd : Ze (ZB Zcv (Za Z1)) ZcO 0 "distance" false = true := by walk_at "d"
theorem ZbH : glOk (ZB Zcv (Za Z1)) "nearest_quotient" = true := by walk_at "d"
theorem Zje : ZcD (ZB Zcv (Za Z1)) ZcO 2 "whole" = true := by walk_at "d"
theorem Zjf : ZcD (ZB Zcv (Za Z1)) ZcO 1 "span" = true := by walk_at "d"
noncomputable def Zeq (C : Addr) : List T.S := [.asg 3 (.call ZX [.meth C "parts" (Zby C) (.v 0) [], .bin .Sub (.bf .len [.v 2]) (.k (.int 1))]), .asg 4 (.comp 2 [] (.tup [0, 1]) .zip [.v 2, .sl (.v 2) (.k (.int 1)) (.k .non)] [] (.bin .Sub (.v 1) (.v 0))), .iff (.cmp .LtE (.bf .minL [.v 4]) (.k (.int 0))) [.raise (.k .non)] [], .asg 5 (.bin .Add (.bin .Mult (.meth C "total" (Zbz C) (.v 0) []) (.v 3)) (.ix (.meth C "stop" (ZbV C) (.v 0) []) (.neg (.k (.int 1))))), .asg 6 (.bin .Sub (.ix (.v 2) (.neg (.k (.int 1)))) (.ix (.v 2) (.k (.int 0)))), .ret (.meth C "looked" (ZL C) (.v 0) [.v 1, .comp 1 [6, 5] (.name 0) .val [.v 4] [] (.call ZM [.bin .Mult (.v 0) (.v 2), .v 1])])]
noncomputable def Zar (C : Addr) : T.FI := ⟨true, T.Zh (CK C) 3 7 (Zeq C)⟩
theorem Zmm (F : Fun K "scanned" "scanned" Z1 f fd) (Z : Txt K mg C) (G_stretches_in : FnAt P w K mg base "stretches_in" 1 ["parts", "width_count"] (T.spF K ZX.run)) (G_Fount_parts : MeAt P w K mg base C "parts" 1 ["self"] (T.spF K (Zby C).run)) (G_Fount_total : MeAt P w K mg base C "total" 1 ["self"] (T.spF K (Zbz C).run)) (G_Fount_stop : MeAt P w K mg base C "stop" 1 ["self"] (T.spF K (ZbV C).run)) (G_Fount_looked : MeAt P w K mg base C "looked" 2 ["self", "prime", "widths"] (T.spF K (ZL C).run)) (G_nearest_quotient : FnAt P w K mg base "nearest_quotient" 1 ["number", "divisor"] (T.spF K ZM.run)) : FnOk P w K mg base CX0 (2 + 1) f fd ["fount", "prime", "edges"] (T.spF K (T.Zh (CK C) 3 7 (Zeq C))) :=
 T.Z5 (C := (CK C)) (body := (Zeq C)) (k := 2) (N := ZaJ) F Zeo rfl rfl fun cdv A outer s H E hr =>
 have hu := hr.units
 (Zf (Zu ZhN Zeo.nd (Z2 G_stretches_in hr (Zg (Zc (Zgu G_Fount_parts hr (Zb ZeF))) (Zg (Zc (Zj (Zk _) (Zc (ZaF Zdv (glk ZeV) Z.len_ Zdx (Zg (Zb Zd3) Zl) (nmk ZeV) (dbk ZeV))) Zm)) Zl)) (hg := glk Zd2) (hdb := dbk Zd2)))
  (Zf (Zhy ZfT Zeo.nd Zi6 rfl (CompScope.of Zjc rfl rfl) (Zno (glk ZjL) Z.zip_ (Zb Zd3) (Zc (ZfF (Zb Zd3) (Zc0 Zm) Zhs))) (fun cl C s₀ H₀ ex => ⟨(ZjW rfl (Zcf Zgc ZfK (Zcf Zgb ZfK Zhx))), ZeK, (Zj (Zk _) (Zb Zgb) (Zb Zgc))⟩))
  (Zf (Zbs (Zae hu (Zc (ZaF (Zqh rfl) (glk ZeW) Z.min_ Zni (Zg (Zb ZfT) Zl) (nmk ZeW) (dbk ZeW))) Zm) (Zf Zft
  Zn) Zn)
  (Zf (Zu ZkU Zeo.nd (Zj (Zk _) (Zc (Zj (Zk _) (Zc (Zgu G_Fount_total hr (Zb ZeF))) (Zb ZhN))) (Zc (ZcF hu (Zc (Zgu G_Fount_stop hr (Zb ZeF))) (Zc (ZeJ Zm))))))
  (Zf (Zu ZkV Zeo.nd (Zj (Zk _) (Zc (ZcF hu (Zb Zd3) (Zc (ZeJ Zm)))) (Zc (ZcF hu (Zb Zd3) Zm))))
  (Zf (Z0 (Zhz G_Fount_looked hr (Zb ZeF) (Zg (Zb ZkW) (Zg (Zc (ZfZ rfl (CompScope.of Zjd rfl rfl) (ZbO (Zb ZfT)) (fun cl C s₀ H₀ ex => ⟨(Zb5 Zgd Zi7), ZeK, (Z2 G_nearest_quotient hr (Zg (Zc (Zj (Zk _) (Zb Zgd) (Zcz (pvf Zje)))) (Zg (Zcz (pvf Zjf)) Zl)) (hg := glk ZbH) (hdb := dbk ZbH))⟩))) Zl))))
  Zn))))))
noncomputable abbrev Zbe : Stmt := top 23
noncomputable abbrev Zer : List Str := ["_law_script", "_law_k", "_law_cell"]
theorem ZhO : FnScope Zer ["_law_script", "_law_k"] (Za Zbe) := ⟨rfl, rfl, rfl, by walk_at "d", rfl, by walk_at "d", by walk_at "d"⟩
theorem Zk8 : Ze (Za Zbe) Zer 0 "_law_script" false = true := by walk_at "d"
theorem Zhb : Ze (Za Zbe) Zer 1 "_law_k" false = true := by walk_at "d"
theorem Zhc : Ze (Za Zbe) Zer 2 "_law_cell" false = true := by walk_at "d"
noncomputable def Zd4 : List T.S := [.for_ (.name 2) .val [.sl (.v 0) (.v 1) (.bin .Add (.v 1) (.k (.int 1)))] [.ret (.v 2)], .ret (.k (.int 0))]
noncomputable def Zp : T.FI := ⟨true, T.Zh C0 2 3 Zd4⟩
theorem ZkX (F : Fun K "_law_nth" "_law_nth" Zbe f fd) (Z : Txt K mg C)  : FnOk P w K mg base CX0 (0 + 1) f fd ["_law_script", "_law_k"] (T.spF K (T.Zh C0 2 3 Zd4)) :=
 T.Z5 (C := C0) (body := Zd4) (k := 0) (N := Zer) F ZhO rfl rfl fun cdv A outer s H E hr =>
 have hu := hr.units
 (Zf (Zcq PassesOwn.never rfl (Zd9 _ _) (hw_1 (Zcr rfl)) (ZbO (Zc (ZfF (Zb Zk8) (Zc0 (Zb Zhb)) (Zc0 (Zc (Zj (Zk _) (Zb Zhb) Zm)))))) (Zb5 Zhc ZhO.nd)
  (Zf (Z0 (ZfY (pvs Zhc)))
  Zn))
  (Zf (Z0 (ok_k ZaU))
  Zn))
noncomputable abbrev Zau : Stmt := top 24
noncomputable abbrev Zc2 : List Str := ["_law_cell", "_law_turn", "_law_many", "_law_number"]
theorem Zf7 : FnScope Zc2 ["_law_cell", "_law_turn", "_law_many"] (Za Zau) := ⟨rfl, rfl, rfl, by walk_at "d", rfl, by walk_at "d", by walk_at "d"⟩
theorem Zb0 : Ze (Za Zau) Zc2 3 "_law_number" false = true := by walk_at "d"
theorem ZjM : Ze (Za Zau) Zc2 0 "_law_cell" false = true := by walk_at "d"
theorem Zg9 : Ze (Za Zau) Zc2 1 "_law_turn" false = true := by walk_at "d"
theorem ZjN : Ze (Za Zau) Zc2 2 "_law_many" false = true := by walk_at "d"
noncomputable def ZcP : List T.S := [.asg 3 (.bin .Mod (.bin .Mult (.bin .Add (.bin .Mod (.v 0) (.k (.int 2305843009213693951))) (.k (.int 977))) (.bin .Add (.bin .Mult (.k (.int 2)) (.v 1)) (.k (.int 30011)))) (.k (.int 2305843009213693951))), .asg 3 (.bin .Add (.bin .FloorDiv (.v 3) (.k (.int 65537))) (.bin .Mult (.bin .Mod (.v 3) (.k (.int 65537))) (.bin .Add (.v 1) (.k (.int 5))))), .ret (.bin .Mod (.bin .Add (.bin .Mult (.bin .Mod (.v 3) (.k (.int 1000003))) (.k (.int 1000003))) (.bin .Mod (.bin .FloorDiv (.v 3) (.k (.int 97))) (.k (.int 1000003)))) (.v 2))]
noncomputable def Zd5 : T.FI := ⟨true, T.Zh C0 3 4 ZcP⟩
theorem Zk9 (F : Fun K "_law_spun" "_law_spun" Zau f fd) (Z : Txt K mg C)  : FnOk P w K mg base CX0 (0 + 1) f fd ["_law_cell", "_law_turn", "_law_many"] (T.spF K (T.Zh C0 3 4 ZcP)) :=
 T.Z5 (C := C0) (body := ZcP) (k := 0) (N := Zc2) F Zf7 rfl rfl fun cdv A outer s H E hr =>
 have hu := hr.units
 (Zf (Zu Zb0 Zf7.nd (Zj (Zk _) (Zc (Zj (Zk _) (Zc (Zj (Zk _) (Zc (Zj (Zk _) (Zb ZjM) Zm)) Zm)) (Zc (Zj (Zk _) (Zc (Zj (Zk _) Zm (Zb Zg9))) Zm)))) Zm))
  (Zf (Zu Zb0 Zf7.nd (Zj (Zk _) (Zc (Zj (Zk _) (Zb Zb0) Zm)) (Zc (Zj (Zk _) (Zc (Zj (Zk _) (Zb Zb0) Zm)) (Zc (Zj (Zk _) (Zb Zg9) Zm))))))
  (Zf (Z0 (Zj (Zk _) (Zc (Zj (Zk _) (Zc (Zj (Zk _) (Zc (Zj (Zk _) (Zb Zb0) Zm)) Zm)) (Zc (Zj (Zk _) (Zc (Zj (Zk _) (Zb Zb0) Zm)) Zm)))) (Zb ZjN)))
  Zn)))
noncomputable abbrev Za3 : Stmt := top 25
noncomputable abbrev ZeX : List Str := ["_law_cell"]
theorem Zjg : FnScope ZeX ["_law_cell"] (Za Za3) := ⟨rfl, rfl, rfl, by walk_at "d", rfl, by walk_at "d", by walk_at "d"⟩
theorem ZfL : Ze (Za Za3) ZeX 0 "_law_cell" false = true := by walk_at "d"
theorem Zdo : glOk (Za Za3) "abs" = true := by walk_at "d"
noncomputable def ZbW : List T.S := [.ret (.lst [.v 0, .bin .FloorDiv (.bf .abs [.v 0]) (.k (.int 2)), .k (.int 0)])]
noncomputable def Zao : T.FI := ⟨true, T.Zh C0 1 1 ZbW⟩
theorem Zjh (F : Fun K "_law_source" "_law_source" Za3 f fd) (Z : Txt K mg C)  : FnOk P w K mg base CX0 (0 + 1) f fd ["_law_cell"] (T.spF K (T.Zh C0 1 1 ZbW)) :=
 T.Z5 (C := C0) (body := ZbW) (k := 0) (N := ZeX) F Zjg rfl rfl fun cdv A outer s H E hr =>
 have hu := hr.units
 (Zf (Z0 (Zbk (ZO (ok_v (pvs ZfL)) (ZO (Zj (Zk _) (Zc (ZaF Zrq (glk Zdo) Z.abs_ Zrz (Zg (Zb ZfL) Zl) (nmk Zdo) (dbk Zdo))) Zm) (ZO (ok_k ZaU) Zad)))))
  Zn)
noncomputable abbrev Zag : Stmt := top 26
noncomputable abbrev ZbF : List Str := ["_law_source_here", "_law_many", "_law_cell", "_law_number", "_law_turn"]
theorem Zes : FnScope ZbF ["_law_source_here", "_law_many"] (Za Zag) := ⟨rfl, rfl, rfl, by walk_at "d", rfl, by walk_at "d", by walk_at "d"⟩
theorem ZeY : Ze (Za Zag) ZbF 0 "_law_source_here" false = true := by walk_at "d"
theorem ZeZ : Ze (Za Zag) ZbF 4 "_law_turn" false = true := by walk_at "d"
theorem ZdB : Ze (Za Zag) ZbF 3 "_law_number" false = true := by walk_at "d"
theorem Zfa : Ze (Za Zag) ZbF 2 "_law_cell" false = true := by walk_at "d"
theorem Zfb : Ze (Za Zag) ZbF 1 "_law_many" false = true := by walk_at "d"
theorem ZdR : glOk (Za Zag) "_law_spun" = true := by walk_at "d"
noncomputable def ZcQ : List T.S := [.unp [2, 3, 4] (.v 0), .sub 0 [] (.k (.int 1)) (.bin .FloorDiv (.v 3) (.v 1)), .sub 0 [] (.k (.int 2)) (.bin .Add (.v 4) (.k (.int 1))), .iff (.and (.cmp .Eq (.bin .Mod (.v 2) (.k (.int 2))) (.k (.int 1))) (.cmp .Gt (.v 3) (.k (.int 0)))) [.ret (.bin .Mod (.v 3) (.v 1))] [], .ret (.call Zd5 [.v 2, .v 4, .v 1])]
noncomputable def Z7 : T.FI := ⟨true, T.Zh C0 2 5 ZcQ⟩
theorem ZkA (F : Fun K "_law_next" "_law_next" Zag f fd) (Z : Txt K mg C) (G__law_spun : FnAt P w K mg base "_law_spun" 1 ["_law_cell", "_law_turn", "_law_many"] (T.spF K Zd5.run)) : FnOk P w K mg base CX0 (1 + 1) f fd ["_law_source_here", "_law_many"] (T.spF K (T.Zh C0 2 5 ZcQ)) :=
 T.Z5 (C := C0) (body := ZcQ) (k := 1) (N := ZbF) F Zes rfl rfl fun cdv A outer s H E hr =>
 have hu := hr.units
 (Zf (Zne rfl (Zb ZeY) (Zcf Zfa Zes.nd (Zcf ZdB Zes.nd (Zcf ZeZ Zes.nd Zhx))))
  (Zf (ZiS hu (pvs ZeY) Zm (Zj (Zk _) (Zb ZdB) (Zb Zfb)))
  (Zf (ZiS hu (pvs ZeY) Zm (Zj (Zk _) (Zb ZeZ) Zm))
  (Zf (Zbs (PW.pt (Zp6 (Zae hu (Zc (Zj (Zk _) (Zb Zfa) Zm)) Zm) (Zp5 (Zae hu (Zb ZdB) Zm)))) (Zf (Z0 (Zj (Zk _) (Zb ZdB) (Zb Zfb)))
  Zn) Zn)
  (Zf (Z0 (Z2 G__law_spun hr (Zg (Zb Zfa) (Zg (Zb ZeZ) (Zg (Zb Zfb) Zl))) (hg := glk ZdR) (hdb := dbk ZdR)))
  Zn)))))
noncomputable abbrev Zw : Stmt := top 27
noncomputable abbrev ZW : List Str := ["_law_source_here", "_law_parts", "_law_total", "_law_found", "_law_rest", "_law_left", "_law_low", "_law_high", "_law_width"]
theorem Zas : FnScope ZW ["_law_source_here", "_law_parts", "_law_total"] (Za Zw) := ⟨rfl, rfl, rfl, by walk_at "d", rfl, by walk_at "d", by walk_at "d"⟩
theorem Zet : Ze (Za Zw) ZW 3 "_law_found" false = true := by walk_at "d"
theorem ZbA : Ze (Za Zw) ZW 4 "_law_rest" false = true := by walk_at "d"
theorem Zi8 : Ze (Za Zw) ZW 2 "_law_total" false = true := by walk_at "d"
theorem Zi9 : Ze (Za Zw) ZW 1 "_law_parts" false = true := by walk_at "d"
theorem ZgH : glOk (Za Zw) "range" = true := by walk_at "d"
theorem Zeu : Ze (Za Zw) ZW 5 "_law_left" false = true := by walk_at "d"
theorem Zev : Ze (Za Zw) ZW 6 "_law_low" false = true := by walk_at "d"
theorem Zdp : glOk (Za Zw) "max" = true := by walk_at "d"
theorem ZfM : Ze (Za Zw) ZW 7 "_law_high" false = true := by walk_at "d"
theorem Zdq : glOk (Za Zw) "min" = true := by walk_at "d"
theorem Zew : Ze (Za Zw) ZW 8 "_law_width" false = true := by walk_at "d"
theorem Zdh : glOk (Za Zw) "_law_next" = true := by walk_at "d"
theorem ZiA : Ze (Za Zw) ZW 0 "_law_source_here" false = true := by walk_at "d"
noncomputable def ZbX : List T.S := [.asg 3 (.lst []), .asg 4 (.v 2), .for_ (.name 5) .rng3 [.bin .Sub (.v 1) (.k (.int 1)), .neg (.k (.int 1)), .neg (.k (.int 1))] [.asg 6 (.bf .max [.k (.int 1), .bin .Sub (.v 4) (.bin .Mult (.k (.int 4)) (.v 5))]), .asg 7 (.bf .min [.k (.int 4), .bin .Sub (.v 4) (.v 5)]), .asg 8 (.bin .Add (.v 6) (.call Z7 [.v 0, .bin .Add (.bin .Sub (.v 7) (.v 6)) (.k (.int 1))])), .ex (.mut .append 3 [] [.v 8]), .asg 4 (.bin .Sub (.v 4) (.v 8))], .ret (.v 3)]
noncomputable def ZaR : T.FI := ⟨true, T.Zh C0 3 9 ZbX⟩
theorem Zji (F : Fun K "_law_widths" "_law_widths" Zw f fd) (Z : Txt K mg C) (G__law_next : FnAt P w K mg base "_law_next" 2 ["_law_source_here", "_law_many"] (T.spF K Z7.run)) : FnOk P w K mg base CX0 (2 + 1) f fd ["_law_source_here", "_law_parts", "_law_total"] (T.spF K (T.Zh C0 3 9 ZbX)) :=
 T.Z5 (C := C0) (body := ZbX) (k := 2) (N := ZW) F Zas rfl rfl fun cdv A outer s H E hr =>
 have hu := hr.units
 (Zf (Zu Zet Zas.nd (Zbk Zad))
  (Zf (Zu ZbA Zas.nd (ok_v (pvs Zi8)))
  (Zf (Zcq PassesOwn.never rfl (Zd9 _ _) (hw_3 (Zcr rfl) (Zcr rfl) (Zcr rfl)) (ZpZ (glk ZgH) Z.range_ (Zg (Zc (Zj (Zk _) (Zb Zi9) Zm)) (Zg (Zc (ZeJ Zm)) (Zg (Zc (ZeJ Zm)) Zl)))) (Zb5 Zeu Zas.nd)
  (Zf (Zu Zev Zas.nd (ZaF (Zrt rfl) (glk Zdp) Z.max_ Zr1 (Zg Zm (Zg (Zc (Zj (Zk _) (Zb ZbA) (Zc (Zj (Zk _) Zm (Zb Zeu))))) Zl)) (nmk Zdp) (dbk Zdp)))
  (Zf (Zu ZfM Zas.nd (ZaF (Zrs rfl) (glk Zdq) Z.min_ Zni (Zg Zm (Zg (Zc (Zj (Zk _) (Zb ZbA) (Zb Zeu))) Zl)) (nmk Zdq) (dbk Zdq)))
  (Zf (Zu Zew Zas.nd (Zj (Zk _) (Zb Zev) (Zc (Z2 G__law_next hr (Zg (Zb ZiA) (Zg (Zc (Zj (Zk _) (Zc (Zj (Zk _) (Zb ZfM) (Zb Zev))) Zm)) Zl)) (hg := glk Zdh) (hdb := dbk Zdh)))))
  (Zf (ZdN (ZdM (pvs Zet) (ZO (ok_v (pvs Zew)) Zad)))
  (Zf (Zu ZbA Zas.nd (Zj (Zk _) (Zb ZbA) (Zb Zew)))
  Zn))))))
  (Zf (Z0 (ZfY (pvs Zet)))
  Zn))))
noncomputable abbrev Z8 : Stmt := top 28
noncomputable abbrev Zam : List Str := ["_law_one", "_law_two", "_law_first", "_law_second", "_law_parts", "_law_total", "_law_start", "_law_stop"]
theorem ZaS : FnScope Zam ["_law_one", "_law_two"] (Za Z8) := ⟨rfl, rfl, rfl, by walk_at "d", rfl, by walk_at "d", by walk_at "d"⟩
theorem Zda : Ze (Za Z8) Zam 2 "_law_first" false = true := by walk_at "d"
theorem Zax : glOk (Za Z8) "_law_source" = true := by walk_at "d"
theorem Zjj : Ze (Za Z8) Zam 0 "_law_one" false = true := by walk_at "d"
theorem Ze8 : Ze (Za Z8) Zam 3 "_law_second" false = true := by walk_at "d"
theorem Zjk : Ze (Za Z8) Zam 1 "_law_two" false = true := by walk_at "d"
theorem ZaA : Ze (Za Z8) Zam 4 "_law_parts" false = true := by walk_at "d"
theorem ZY : glOk (Za Z8) "_law_next" = true := by walk_at "d"
theorem Zdb : Ze (Za Z8) Zam 5 "_law_total" false = true := by walk_at "d"
theorem Ze9 : Ze (Za Z8) Zam 6 "_law_start" false = true := by walk_at "d"
theorem Zay : glOk (Za Z8) "_law_widths" = true := by walk_at "d"
theorem ZbY : Ze (Za Z8) Zam 7 "_law_stop" false = true := by walk_at "d"
noncomputable def ZaT : List T.S := [.asg 2 (.call Zao [.v 0]), .asg 3 (.call Zao [.v 1]), .asg 4 (.ix (.lst [.k (.int 4), .k (.int 6)]) (.call Z7 [.v 2, .k (.int 2)])), .asg 5 (.bin .Add (.ix (.lst [.k (.int 6), .k (.int 7)]) (.bin .Sub (.bin .FloorDiv (.v 4) (.k (.int 2))) (.k (.int 2)))) (.call Z7 [.v 2, .ix (.lst [.k (.int 9), .k (.int 17)]) (.bin .Sub (.bin .FloorDiv (.v 4) (.k (.int 2))) (.k (.int 2)))])), .asg 6 (.call ZaR [.v 2, .v 4, .v 5]), .asg 7 (.bin .Add (.call ZaR [.v 3, .v 4, .v 5]) (.lst [.bin .Add (.k (.int 1)) (.call Z7 [.v 3, .k (.int 4)])])), .iff (.cmp .Eq (.sl (.rev (.v 7)) (.k .non) (.v 4)) (.v 6)) [.sub 7 [] (.neg (.k (.int 1))) (.bin .Add (.bin .Mod (.ix (.v 7) (.neg (.k (.int 1)))) (.k (.int 4))) (.k (.int 1)))] [], .ret (.tup [.v 4, .v 5, .v 6, .v 7])]
noncomputable def Zbp : T.FI := ⟨true, T.Zh C0 2 8 ZaT⟩
theorem ZjO (F : Fun K "_law_fount" "_law_fount" Z8 f fd) (Z : Txt K mg C) (G__law_source : FnAt P w K mg base "_law_source" 1 ["_law_cell"] (T.spF K Zao.run)) (G__law_next : FnAt P w K mg base "_law_next" 2 ["_law_source_here", "_law_many"] (T.spF K Z7.run)) (G__law_widths : FnAt P w K mg base "_law_widths" 3 ["_law_source_here", "_law_parts", "_law_total"] (T.spF K ZaR.run)) : FnOk P w K mg base CX0 (3 + 1) f fd ["_law_one", "_law_two"] (T.spF K (T.Zh C0 2 8 ZaT)) :=
 T.Z5 (C := C0) (body := ZaT) (k := 3) (N := Zam) F ZaS rfl rfl fun cdv A outer s H E hr =>
 have hu := hr.units
 (Zf (Zu Zda ZaS.nd (Z2 G__law_source hr (Zg (Zb Zjj) Zl) (hg := glk Zax) (hdb := dbk Zax)))
  (Zf (Zu Ze8 ZaS.nd (Z2 G__law_source hr (Zg (Zb Zjk) Zl) (hg := glk Zax) (hdb := dbk Zax)))
  (Zf (Zu ZaA ZaS.nd (ZcF hu (Zc (Zbk (ZO (ok_k ZaU) (ZO (ok_k ZaU) Zad)))) (Zc (Z2 G__law_next hr (Zg (Zb Zda) (Zg Zm Zl)) (hg := glk ZY) (hdb := dbk ZY)))))
  (Zf (Zu Zdb ZaS.nd (Zj (Zk _) (Zc (ZcF hu (Zc (Zbk (ZO (ok_k ZaU) (ZO (ok_k ZaU) Zad)))) (Zc (Zj (Zk _) (Zc (Zj (Zk _) (Zb ZaA) Zm)) Zm)))) (Zc (Z2 G__law_next hr (Zg (Zb Zda) (Zg (Zc (ZcF hu (Zc (Zbk (ZO (ok_k ZaU) (ZO (ok_k ZaU) Zad)))) (Zc (Zj (Zk _) (Zc (Zj (Zk _) (Zb ZaA) Zm)) Zm)))) Zl)) (hg := glk ZY) (hdb := dbk ZY)))))
  (Zf (Zu Ze9 ZaS.nd (Z2 G__law_widths hr (Zg (Zb Zda) (Zg (Zb ZaA) (Zg (Zb Zdb) Zl))) (hg := glk Zay) (hdb := dbk Zay)))
  (Zf (Zu ZbY ZaS.nd (Zj (Zk _) (Zc (Z2 G__law_widths hr (Zg (Zb Ze8) (Zg (Zb ZaA) (Zg (Zb Zdb) Zl))) (hg := glk Zay) (hdb := dbk Zay))) (Zc (Zbk (ZO (Zj (Zk _) Zm (Zc (Z2 G__law_next hr (Zg (Zb Ze8) (Zg Zm Zl)) (hg := glk ZY) (hdb := dbk ZY)))) Zad)))))
  (Zf (Zbs (Zae hu (Zc (ZfF (Zc (ZiU (Zb ZbY) (Zmk ZaU))) Zhs (Zc0 (Zb ZaA)))) (Zb Ze9)) (Zf (ZiS hu (pvs ZbY) (Zc (ZeJ Zm)) (Zj (Zk _) (Zc (Zj (Zk _) (Zc (ZcF hu (Zb ZbY) (Zc (ZeJ Zm)))) Zm)) Zm))
  Zn) Zn)
  (Zf (Z0 (Zna (ZO (ok_v (pvs ZaA)) (ZO (ok_v (pvs Zdb)) (ZO (ok_v (pvs Ze9)) (ZO (ok_v (pvs ZbY)) Zad))))))
  Zn))))))))
noncomputable abbrev ZA : Stmt := top 29
noncomputable abbrev ZbB : List Str := ["_law_cell", "_law_many", "_law_some"]
theorem Zf8 : FnScope ZbB ["_law_cell", "_law_many"] (Za ZA) := ⟨rfl, rfl, rfl, by walk_at "d", rfl, by walk_at "d", by walk_at "d"⟩
theorem Zdr : Ze (Za ZA) ZbB 2 "_law_some" false = true := by walk_at "d"
noncomputable abbrev Zbv : Scope := { kind := .function, names := [(Str.ofString ".0", NameKind.local), (Str.ofString "_law_prime", NameKind.local), (Str.ofString "_law_many", NameKind.free)], isGenerator := false, isCoroutine := false, more := [] }
noncomputable abbrev ZbC : List Str := ["_law_prime", "_law_many"]
theorem Zgz : ZcC (Za ZA) ZbB 1 [1] ZbC Zbv = true := by walk_at "d"
theorem Zge : ZbC.Nodup := by walk_at "d"
theorem Zco : Ze (ZB Zbv (Za ZA)) ZbC 0 "_law_prime" false = true := by walk_at "d"
theorem Zg0 : ZcD (ZB Zbv (Za ZA)) ZbC 1 "_law_many" = true := by walk_at "d"
theorem Zgf : ZeI (Za ZA) Zbv "_law_some" = true := by walk_at "d"
theorem ZhH : Ze (Za ZA) ZbB 0 "_law_cell" false = true := by walk_at "d"
theorem Zc5 : glOk (Za ZA) "len" = true := by walk_at "d"
noncomputable def Zbq : List T.S := [.asg 2 (.comp 1 [1] (.name 0) .val [.kl [(.int 5), (.int 7), (.int 11), (.int 13), (.int 17), (.int 19), (.int 23), (.int 29), (.int 31), (.int 37), (.int 41), (.int 43), (.int 47)]] [.cmp .LtE (.v 0) (.v 1)] (.v 0)), .ret (.ix (.v 2) (.bin .Mod (.v 0) (.bf .len [.v 2])))]
noncomputable def ZaO : T.FI := ⟨true, T.Zh C0 2 3 Zbq⟩
theorem Zia (F : Fun K "_law_prime_of" "_law_prime_of" ZA f fd) (Z : Txt K mg C)  : FnOk P w K mg base CX0 (0 + 1) f fd ["_law_cell", "_law_many"] (T.spF K (T.Zh C0 2 3 Zbq)) :=
 T.Z5 (C := C0) (body := Zbq) (k := 0) (N := ZbB) F Zf8 rfl rfl fun cdv A outer s H E hr =>
 have hu := hr.units
 (Zf (Zhy Zdr Zf8.nd Zgf rfl (CompScope.of Zgz rfl rfl) (ZbO (Zc (Zt0 (vs := [(.int 5), (.int 7), (.int 11), (.int 13), (.int 17), (.int 19), (.int 23), (.int 29), (.int 31), (.int 37), (.int 41), (.int 43), (.int 47)]) (by kernel_rfl)))) (fun cl C s₀ H₀ ex => ⟨(Zb5 Zco Zge), (Zrx (Zae hu (Zb Zco) (Zcz (pvf Zg0)))), (ok_v (pvs Zco))⟩))
  (Zf (Z0 (ZcF hu (Zb Zdr) (Zc (Zj (Zk _) (Zb ZhH) (Zc (ZaF Zdv (glk Zc5) Z.len_ Zdx (Zg (Zb Zdr) Zl) (nmk Zc5) (dbk Zc5)))))))
  Zn))
noncomputable abbrev ZE : Stmt := top 30
noncomputable abbrev Zan : List Str := ["_law_edges", "_law_unit", "_law_cell", "_law_most", "_law_source_here", "_law_just", "_law_found", "_law_edge"]
theorem Zb1 : FnScope Zan ["_law_edges", "_law_unit", "_law_cell"] (Za ZE) := ⟨rfl, rfl, rfl, by walk_at "d", rfl, by walk_at "d", by walk_at "d"⟩
theorem Zdc : Ze (Za ZE) Zan 3 "_law_most" false = true := by walk_at "d"
theorem Zjl : Ze (Za ZE) Zan 1 "_law_unit" false = true := by walk_at "d"
theorem Zdd : Ze (Za ZE) Zan 4 "_law_source_here" false = true := by walk_at "d"
theorem ZcR : glOk (Za ZE) "_law_source" = true := by walk_at "d"
theorem Zjm : Ze (Za ZE) Zan 2 "_law_cell" false = true := by walk_at "d"
theorem Zgg : Ze (Za ZE) Zan 5 "_law_just" false = true := by walk_at "d"
theorem ZZ : glOk (Za ZE) "_law_next" = true := by walk_at "d"
theorem Zde : Ze (Za ZE) Zan 6 "_law_found" false = true := by walk_at "d"
theorem Zjn : Ze (Za ZE) Zan 0 "_law_edges" false = true := by walk_at "d"
theorem ZeA : Ze (Za ZE) Zan 7 "_law_edge" false = true := by walk_at "d"
noncomputable def Zcw : List T.S := [.asg 3 (.bin .FloorDiv (.v 1) (.k (.int 8))), .asg 4 (.call Zao [.v 2]), .asg 5 (.call Z7 [.v 4, .k (.int 2)]), .asg 6 (.lst []), .for_ (.name 7) .val [.v 0] [.iff (.cmp .Eq (.v 5) (.k (.int 1))) [.ex (.mut .append 6 [] [.bin .Add (.v 7) (.bin .Mult (.v 3) (.bin .Sub (.bin .Mult (.k (.int 2)) (.call Z7 [.v 4, .k (.int 2)])) (.k (.int 1))))])] [.ex (.mut .append 6 [] [.bin .Sub (.bin .Add (.v 7) (.call Z7 [.v 4, .bin .Add (.bin .Mult (.k (.int 2)) (.v 3)) (.k (.int 1))])) (.v 3)])]], .ret (.v 6)]
noncomputable def ZbZ : T.FI := ⟨true, T.Zh C0 3 8 Zcw⟩
theorem ZjP (F : Fun K "_law_moved" "_law_moved" ZE f fd) (Z : Txt K mg C) (G__law_source : FnAt P w K mg base "_law_source" 1 ["_law_cell"] (T.spF K Zao.run)) (G__law_next : FnAt P w K mg base "_law_next" 2 ["_law_source_here", "_law_many"] (T.spF K Z7.run)) : FnOk P w K mg base CX0 (2 + 1) f fd ["_law_edges", "_law_unit", "_law_cell"] (T.spF K (T.Zh C0 3 8 Zcw)) :=
 T.Z5 (C := C0) (body := Zcw) (k := 2) (N := Zan) F Zb1 rfl rfl fun cdv A outer s H E hr =>
 have hu := hr.units
 (Zf (Zu Zdc Zb1.nd (Zj (Zk _) (Zb Zjl) Zm))
  (Zf (Zu Zdd Zb1.nd (Z2 G__law_source hr (Zg (Zb Zjm) Zl) (hg := glk ZcR) (hdb := dbk ZcR)))
  (Zf (Zu Zgg Zb1.nd (Z2 G__law_next hr (Zg (Zb Zdd) (Zg Zm Zl)) (hg := glk ZZ) (hdb := dbk ZZ)))
  (Zf (Zu Zde Zb1.nd (Zbk Zad))
  (Zf (Zcq PassesOwn.never rfl (Zd9 _ _) (hw_1 (Zfq rfl)) (ZbO (Zb Zjn)) (Zb5 ZeA Zb1.nd)
  (Zf (Zbs (Zae hu (Zb Zgg) Zm) (Zf (ZdN (ZdM (pvs Zde) (ZO (Zj (Zk _) (Zb ZeA) (Zc (Zj (Zk _) (Zb Zdc) (Zc (Zj (Zk _) (Zc (Zj (Zk _) Zm (Zc (Z2 G__law_next hr (Zg (Zb Zdd) (Zg Zm Zl)) (hg := glk ZZ) (hdb := dbk ZZ))))) Zm))))) Zad)))
  Zn) (Zf (ZdN (ZdM (pvs Zde) (ZO (Zj (Zk _) (Zc (Zj (Zk _) (Zb ZeA) (Zc (Z2 G__law_next hr (Zg (Zb Zdd) (Zg (Zc (Zj (Zk _) (Zc (Zj (Zk _) Zm (Zb Zdc))) Zm)) Zl)) (hg := glk ZZ) (hdb := dbk ZZ))))) (Zb Zdc)) Zad)))
  Zn))
  Zn))
  (Zf (Z0 (ZfY (pvs Zde)))
  Zn))))))
noncomputable abbrev ZP : Stmt := top 31
noncomputable abbrev Zdf : List Str := ["_law_found", "_law_row_here", "_law_one", "_law_other"]
theorem ZfU : FnScope Zdf ["_law_found", "_law_row_here"] (Za ZP) := ⟨rfl, rfl, rfl, by walk_at "d", rfl, by walk_at "d", by walk_at "d"⟩
theorem Zbj : glOk (Za ZP) "len" = true := by walk_at "d"
theorem Zf9 : Ze (Za ZP) Zdf 0 "_law_found" false = true := by walk_at "d"
theorem Zhd : Ze (Za ZP) Zdf 1 "_law_row_here" false = true := by walk_at "d"
theorem Zca : glOk (Za ZP) "isinstance" = true := by walk_at "d"
theorem Zex : glOk (Za ZP) "list" = true := by walk_at "d"
theorem Zjo : glOk (Za ZP) "zip" = true := by walk_at "d"
theorem Zhe : Ze (Za ZP) Zdf 3 "_law_other" false = true := by walk_at "d"
theorem Zey : Ze (Za ZP) Zdf 2 "_law_one" false = true := by walk_at "d"
theorem Zez : glOk (Za ZP) "bool" = true := by walk_at "d"
theorem ZeB : glOk (Za ZP) "int" = true := by walk_at "d"
noncomputable def Zd6 : List T.S := [.iff (.or (.nt (.bf (.isi .list) [.v 0])) (.cmp .NotEq (.bf .len [.v 0]) (.bf .len [.v 1]))) [.ret (.k (.bl false))] [], .for_ (.tup [2, 3]) .zip [.v 0, .v 1] [.iff (.or (.nt (.bf (.isi .int) [.v 2])) (.or (.bf (.isi .bool) [.v 2]) (.cmp .NotEq (.v 2) (.v 3)))) [.ret (.k (.bl false))] []], .ret (.k (.bl true))]
noncomputable def Zbf : T.FI := ⟨true, T.Zh C0 2 4 Zd6⟩
theorem ZkY (F : Fun K "_law_row" "_law_row" ZP f fd) (Z : Txt K mg C)  : FnOk P w K mg base CX0 (0 + 1) f fd ["_law_found", "_law_row_here"] (T.spF K (T.Zh C0 2 4 Zd6)) :=
 T.Z5 (C := C0) (body := Zd6) (k := 0) (N := Zdf) F ZfU rfl rfl fun cdv A outer s H E hr =>
 have hu := hr.units
 (Zf (Zbs (PW.pt (ZcE (Zbw (ZbN (Zc (ZfX (t := .list) (n := "list") rfl (glk Zca) Z.isinstance_ (Zb Zf9) (Zfn (v := .ty "list") (glk Zex) Z.list_ ZmR rfl (nmk Zex) (dbk Zex)))))) (Zec (Zae hu (Zc (ZaF Zdv (glk Zbj) Z.len_ Zdx (Zg (Zb Zf9) Zl) (nmk Zbj) (dbk Zbj))) (Zc (ZaF Zdv (glk Zbj) Z.len_ Zdx (Zg (Zb Zhd) Zl) (nmk Zbj) (dbk Zbj))))))) (Zf (Z0 (ok_k ZdV))
  Zn) Zn)
  (Zf (Zcq PassesOwn.never rfl (Zd9 _ _) (hw_2 (Zfq rfl) (Zfq rfl)) (Zno (glk Zjo) Z.zip_ (Zb Zf9) (Zb Zhd)) (ZjW rfl (Zcf Zey ZfU.nd (Zcf Zhe ZfU.nd Zhx)))
  (Zf (Zbs (PW.pt (ZcE (Zbw (ZbN (Zc (ZfX (t := .int) (n := "int") rfl (glk Zca) Z.isinstance_ (Zb Zey) (Zfn (v := .ty "int") (glk ZeB) Z.int_ ZoO rfl (nmk ZeB) (dbk ZeB)))))) (ZcE (ZbN (Zc (ZfX (t := .bool) (n := "bool") rfl (glk Zca) Z.isinstance_ (Zb Zey) (Zfn (v := .ty "bool") (glk Zez) Z.bool_ ZmQ rfl (nmk Zez) (dbk Zez))))) (Zec (Zae hu (Zb Zey) (Zb Zhe)))))) (Zf (Z0 (ok_k ZdV))
  Zn) Zn)
  Zn))
  (Zf (Z0 (ok_k ZdV))
  Zn)))
noncomputable abbrev Zz : Stmt := top 32
noncomputable abbrev ZaE : List Str := ["_law_script", "_law_parts", "_law_total", "_law_start", "_law_stop", "_law_fount_here", "_law_prime", "_law_first", "_law_unit", "_law_row_here", "_law_edges", "_law_far", "_law_turned", "_law_some", "_law_handed", "_law_found"]
theorem Zbb : FnScope ZaE ["_law_script"] (Za Zz) := ⟨rfl, rfl, rfl, by walk_at "d", rfl, by walk_at "d", by walk_at "d"⟩
theorem ZfA : glOk (Za Zz) "_law_fount" = true := by walk_at "d"
theorem Z4 : glOk (Za Zz) "_law_nth" = true := by walk_at "d"
theorem ZdS : Ze (Za Zz) ZaE 0 "_law_script" true = true := by walk_at "d"
theorem Zl6 : Ze (Za Zz) ZaE 4 "_law_stop" false = true := by walk_at "d"
theorem Zl7 : Ze (Za Zz) ZaE 3 "_law_start" false = true := by walk_at "d"
theorem Zl8 : Ze (Za Zz) ZaE 2 "_law_total" false = true := by walk_at "d"
theorem Zl9 : Ze (Za Zz) ZaE 1 "_law_parts" false = true := by walk_at "d"
theorem Zgh : Ze (Za Zz) ZaE 5 "_law_fount_here" false = true := by walk_at "d"
theorem ZhP : glOk (Za Zz) "Fount" = true := by walk_at "d"
theorem Zap : glOk (Za Zz) "list" = true := by walk_at "d"
theorem Zjp : Ze (Za Zz) ZaE 6 "_law_prime" true = true := by walk_at "d"
theorem Ze3 : glOk (Za Zz) "_law_prime_of" = true := by walk_at "d"
theorem Zhf : glOk (Za Zz) "len" = true := by walk_at "d"
theorem ZlA : Ze (Za Zz) ZaE 7 "_law_first" false = true := by walk_at "d"
theorem Zjq : Ze (Za Zz) ZaE 8 "_law_unit" false = true := by walk_at "d"
theorem Zh1 : Ze (Za Zz) ZaE 9 "_law_row_here" false = true := by walk_at "d"
theorem ZkZ : glOk (Za Zz) "range" = true := by walk_at "d"
noncomputable abbrev ZdT : Scope := { kind := .function, names := [(Str.ofString ".0", NameKind.local), (Str.ofString "_law_k", NameKind.local), (Str.ofString "_law_nth", NameKind.globalImplicit), (Str.ofString "_law_prime", NameKind.free), (Str.ofString "_law_script", NameKind.free)], isGenerator := false, isCoroutine := false, more := [] }
noncomputable abbrev ZfB : List Str := ["_law_k", "_law_prime", "_law_script"]
theorem Zmn : ZcC (Za Zz) ZaE 1 [6, 0] ZfB ZdT = true := by walk_at "d"
theorem Zla : ZfB.Nodup := by walk_at "d"
theorem ZiB : Ze (ZB ZdT (Za Zz)) ZfB 0 "_law_k" false = true := by walk_at "d"
theorem Zfh : glOk (ZB ZdT (Za Zz)) "_law_nth" = true := by walk_at "d"
theorem Zmo : ZcD (ZB ZdT (Za Zz)) ZfB 2 "_law_script" = true := by walk_at "d"
theorem Zmp : ZcD (ZB ZdT (Za Zz)) ZfB 1 "_law_prime" = true := by walk_at "d"
theorem Zlb : ZeI (Za Zz) ZdT "_law_row_here" = true := by walk_at "d"
theorem Zg1 : Ze (Za Zz) ZaE 10 "_law_edges" false = true := by walk_at "d"
theorem Zgi : glOk (Za Zz) "edges_of" = true := by walk_at "d"
theorem Zib : Ze (Za Zz) ZaE 11 "_law_far" false = true := by walk_at "d"
theorem ZfC : glOk (Za Zz) "_law_moved" = true := by walk_at "d"
theorem ZkB : Ze (Za Zz) ZaE 12 "_law_turned" false = true := by walk_at "d"
noncomputable abbrev ZeR : Scope := { kind := .function, names := [(Str.ofString ".0", NameKind.local), (Str.ofString "_law_edge", NameKind.local), (Str.ofString "_law_nth", NameKind.globalImplicit), (Str.ofString "_law_script", NameKind.free)], isGenerator := false, isCoroutine := false, more := [] }
noncomputable abbrev Zg2 : List Str := ["_law_edge", "_law_script"]
theorem Zmq : ZcC (Za Zz) ZaE 1 [0] Zg2 ZeR = true := by walk_at "d"
theorem Zlc : Zg2.Nodup := by walk_at "d"
theorem ZiC : Ze (ZB ZeR (Za Zz)) Zg2 0 "_law_edge" false = true := by walk_at "d"
theorem Zfi : glOk (ZB ZeR (Za Zz)) "_law_nth" = true := by walk_at "d"
theorem Zmr : ZcD (ZB ZeR (Za Zz)) Zg2 1 "_law_script" = true := by walk_at "d"
theorem Zld : ZeI (Za Zz) ZeR "_law_turned" = true := by walk_at "d"
noncomputable abbrev Zj5 : Scope := { kind := .function, names := [(Str.ofString ".0", NameKind.local), (Str.ofString "_law_edge", NameKind.local)], isGenerator := false, isCoroutine := false, more := [] }
noncomputable abbrev Zic : List Str := ["_law_edge"]
theorem Zms : ZcC (Za Zz) ZaE 1 [] Zic Zj5 = true := by walk_at "d"
theorem Zle : Zic.Nodup := by walk_at "d"
theorem ZiD : Ze (ZB Zj5 (Za Zz)) Zic 0 "_law_edge" false = true := by walk_at "d"
theorem Zid : Ze (Za Zz) ZaE 13 "_law_some" false = true := by walk_at "d"
theorem Zg3 : Ze (Za Zz) ZaE 14 "_law_handed" false = true := by walk_at "d"
theorem Zie : Ze (Za Zz) ZaE 15 "_law_found" false = true := by walk_at "d"
theorem ZdC : glOk (Za Zz) "scanned" = true := by walk_at "d"
theorem Zdg : glOk (Za Zz) "_law_row" = true := by walk_at "d"
noncomputable def Zhg (C : Addr) : List T.S := [.unp [1, 2, 3, 4] (.call Zbp [.call Zp [.v 0, .k (.int 0)], .call Zp [.v 0, .k (.int 1)]]), .asg 5 (.new C (Zaq C) [.v 1, .v 2, .bf .list [.v 3], .bf .list [.v 4]]), .asg 6 (.call ZaO [.call Zp [.v 0, .k (.int 2)], .bf .len [.meth C "patterns" (Za8 C) (.v 5) []]]), .asg 7 (.bin .Add (.bin .Sub (.bin .Mod (.call Zp [.v 0, .k (.int 4)]) (.bin .Sub (.bin .Mult (.k (.int 2)) (.bin .Pow (.k (.int 10)) (.k (.int 17)))) (.k (.int 1)))) (.bin .Pow (.k (.int 10)) (.k (.int 17)))) (.k (.int 1))), .asg 8 (.bin .Add (.k (.int 1)) (.bin .Mod (.call Zp [.v 0, .k (.int 5)]) (.ix (.lst [.k (.int 10), .k (.int 100), .bin .Pow (.k (.int 10)) (.k (.int 6)), .bin .Pow (.k (.int 10)) (.k (.int 12))]) (.bin .Mod (.call Zp [.v 0, .k (.int 3)]) (.k (.int 4)))))), .asg 9 (.comp 1 [6, 0] (.name 0) .rng1 [.bin .Mod (.bin .FloorDiv (.call Zp [.v 0, .k (.int 3)]) (.k (.int 4))) (.k (.int 48))] [] (.bin .Mod (.call Zp [.v 2, .bin .Add (.k (.int 6)) (.v 0)]) (.v 1))), .asg 10 (.call ZcZ [.meth C "printed" (ZaN C) (.v 5) [.bf .list [.v 9]], .v 7, .v 8]), .asg 11 (.call ZbZ [.v 10, .v 8, .call Zp [.v 0, .k (.int 54)]]), .asg 12 (.comp 1 [0] (.name 0) .val [.rev (.v 11)] [] (.bin .Sub (.bin .Mod (.call Zp [.v 1, .k (.int 4)]) (.bin .Pow (.k (.int 10)) (.k (.int 18)))) (.v 0))), .for_ (.name 13) .val [.lst [.v 10, .v 11, .v 12, .comp 1 [] (.name 0) .val [.rev (.v 10)] [] (.bin .Sub (.k (.int 0)) (.v 0))]] [.asg 14 (.bf .list [.v 13]), .asg 15 (.call (Zar C) [.v 5, .v 6, .v 14]), .iff (.or (.nt (.call Zbf [.v 15, .v 9])) (.cmp .NotEq (.v 14) (.v 13))) [.ret (.k (.bl false))] [], .ex (.mut .append 15 [] [.k (.int 0)]), .iff (.nt (.call Zbf [.call (Zar C) [.v 5, .v 6, .v 14], .v 9])) [.ret (.k (.bl false))] []], .ret (.k (.bl true))]
noncomputable def Zmt (C : Addr) : T.FI := ⟨true, T.Zh (CK C) 1 16 (Zhg C)⟩
theorem Zsw (F : Fun K "law" "law" Zz f fd) (Z : Txt K mg C) (G__law_fount : FnAt P w K mg base "_law_fount" 4 ["_law_one", "_law_two"] (T.spF K Zbp.run)) (G__law_nth : FnAt P w K mg base "_law_nth" 1 ["_law_script", "_law_k"] (T.spF K Zp.run)) (G_Fount___init__ : MkAt P w K mg base "Fount" C 9 ["self", "parts", "total", "start", "stop"] (T.spF K (Zaq C).run)) (G__law_prime_of : FnAt P w K mg base "_law_prime_of" 1 ["_law_cell", "_law_many"] (T.spF K ZaO.run)) (G_Fount_patterns : MeAt P w K mg base C "patterns" 1 ["self"] (T.spF K (Za8 C).run)) (G_edges_of : FnAt P w K mg base "edges_of" 1 ["widths", "first", "unit"] (T.spF K ZcZ.run)) (G_Fount_printed : MeAt P w K mg base C "printed" 4 ["self", "row"] (T.spF K (ZaN C).run)) (G__law_moved : FnAt P w K mg base "_law_moved" 3 ["_law_edges", "_law_unit", "_law_cell"] (T.spF K ZbZ.run)) (G_scanned : FnAt P w K mg base "scanned" 3 ["fount", "prime", "edges"] (T.spF K (Zar C).run)) (G__law_row : FnAt P w K mg base "_law_row" 1 ["_law_found", "_law_row_here"] (T.spF K Zbf.run)) : FnOk P w K mg base CX0 (10 + 1) f fd ["_law_script"] (T.spF K (T.Zh (CK C) 1 16 (Zhg C))) :=
 T.Z5 (C := (CK C)) (body := (Zhg C)) (k := 10) (N := ZaE) F Zbb rfl rfl fun cdv A outer s H E hr =>
 have hu := hr.units
 (Zf (Zne rfl (Zc (Z2 G__law_fount hr (Zg (Zc (Z2 G__law_nth hr (Zg (Zb ZdS) (Zg Zm Zl)) (hg := glk Z4) (hdb := dbk Z4))) (Zg (Zc (Z2 G__law_nth hr (Zg (Zb ZdS) (Zg Zm Zl)) (hg := glk Z4) (hdb := dbk Z4))) Zl)) (hg := glk ZfA) (hdb := dbk ZfA))) (Zcf Zl9 Zbb.nd (Zcf Zl8 Zbb.nd (Zcf Zl7 Zbb.nd (Zcf Zl6 Zbb.nd Zhx)))))
  (Zf (Zu Zgh Zbb.nd (Zr3 G_Fount___init__ hr (Zg (Zb Zl9) (Zg (Zb Zl8) (Zg (Zc (Zed ZcU (glk Zap) Z.list_ ZcW (Zg (Zb Zl7) Zl) (nmk Zap) (dbk Zap))) (Zg (Zc (Zed ZcU (glk Zap) Z.list_ ZcW (Zg (Zb Zl6) Zl) (nmk Zap) (dbk Zap))) Zl)))) (hg := glk ZhP) (hdb := dbk ZhP)))
  (Zf (Zu Zjp Zbb.nd (Z2 G__law_prime_of hr (Zg (Zc (Z2 G__law_nth hr (Zg (Zb ZdS) (Zg Zm Zl)) (hg := glk Z4) (hdb := dbk Z4))) (Zg (Zc (ZaF Zdv (glk Zhf) Z.len_ Zdx (Zg (Zc (Zgu G_Fount_patterns hr (Zb Zgh))) Zl) (nmk Zhf) (dbk Zhf))) Zl)) (hg := glk Ze3) (hdb := dbk Ze3)))
  (Zf (Zu ZlA Zbb.nd (Zj (Zk _) (Zc (Zj (Zk _) (Zc (Zj (Zk _) (Zc (Z2 G__law_nth hr (Zg (Zb ZdS) (Zg Zm Zl)) (hg := glk Z4) (hdb := dbk Z4))) (Zc (Zj (Zk _) (Zc (Zj (Zk _) Zm (Zc (Zj (Zk _) Zm Zm)))) Zm)))) (Zc (Zj (Zk _) Zm Zm)))) Zm))
  (Zf (Zu Zjq Zbb.nd (Zj (Zk _) Zm (Zc (Zj (Zk _) (Zc (Z2 G__law_nth hr (Zg (Zb ZdS) (Zg Zm Zl)) (hg := glk Z4) (hdb := dbk Z4))) (Zc (ZcF hu (Zc (Zbk (ZO (ok_k ZaU) (ZO (ok_k ZaU) (ZO (Zj (Zk _) Zm Zm) (ZO (Zj (Zk _) Zm Zm) Zad)))))) (Zc (Zj (Zk _) (Zc (Z2 G__law_nth hr (Zg (Zb ZdS) (Zg Zm Zl)) (hg := glk Z4) (hdb := dbk Z4))) Zm))))))))
  (Zf (Zhy Zh1 Zbb.nd Zlb rfl (CompScope.of Zmn rfl rfl) (ZpE (glk ZkZ) Z.range_ (Zc (Zj (Zk _) (Zc (Zj (Zk _) (Zc (Z2 G__law_nth hr (Zg (Zb ZdS) (Zg Zm Zl)) (hg := glk Z4) (hdb := dbk Z4))) Zm)) Zm))) (fun cl C s₀ H₀ ex => ⟨(Zb5 ZiB Zla), ZeK, (Zj (Zk _) (Zc (Z2 G__law_nth hr (Zg (Zcz (pvf Zmo)) (Zg (Zc (Zj (Zk _) Zm (Zb ZiB))) Zl)) (hg := glk Zfh) (hdb := dbk Zfh))) (Zcz (pvf Zmp)))⟩))
  (Zf (Zu Zg1 Zbb.nd (Z2 G_edges_of hr (Zg (Zc (Zhz G_Fount_printed hr (Zb Zgh) (Zg (Zc (Zed ZcU (glk Zap) Z.list_ ZcW (Zg (Zb Zh1) Zl) (nmk Zap) (dbk Zap))) Zl))) (Zg (Zb ZlA) (Zg (Zb Zjq) Zl))) (hg := glk Zgi) (hdb := dbk Zgi)))
  (Zf (Zu Zib Zbb.nd (Z2 G__law_moved hr (Zg (Zb Zg1) (Zg (Zb Zjq) (Zg (Zc (Z2 G__law_nth hr (Zg (Zb ZdS) (Zg Zm Zl)) (hg := glk Z4) (hdb := dbk Z4))) Zl))) (hg := glk ZfC) (hdb := dbk ZfC)))
  (Zf (Zhy ZkB Zbb.nd Zld rfl (CompScope.of Zmq rfl rfl) (ZbO (Zc (ZiU (Zb Zib) (Zmk ZaU)))) (fun cl C s₀ H₀ ex => ⟨(Zb5 ZiC Zlc), ZeK, (Zj (Zk _) (Zc (Zj (Zk _) (Zc (Z2 G__law_nth hr (Zg (Zcz (pvf Zmr)) (Zg Zm Zl)) (hg := glk Zfi) (hdb := dbk Zfi))) (Zc (Zj (Zk _) Zm Zm)))) (Zb ZiC))⟩))
  (Zf (Zcq PassesOwn.never rfl (Zd9 _ _) (hw_1 (Zcr rfl)) (ZbO (Zc (Zbk (ZO (ok_v (pvs Zg1)) (ZO (ok_v (pvs Zib)) (ZO (ok_v (pvs ZkB)) (ZO (ZfZ rfl (CompScope.of Zms rfl rfl) (ZbO (Zc (ZiU (Zb Zg1) (Zmk ZaU)))) (fun cl C s₀ H₀ ex => ⟨(Zb5 ZiD Zle), ZeK, (Zj (Zk _) Zm (Zb ZiD))⟩)) Zad))))))) (Zb5 Zid Zbb.nd)
  (Zf (Zu Zg3 Zbb.nd (Zed ZcU (glk Zap) Z.list_ ZcW (Zg (Zb Zid) Zl) (nmk Zap) (dbk Zap)))
  (Zf (Zu Zie Zbb.nd (Z2 G_scanned hr (Zg (Zb Zgh) (Zg (Zb Zjp) (Zg (Zb Zg3) Zl))) (hg := glk ZdC) (hdb := dbk ZdC)))
  (Zf (Zbs (PW.pt (ZcE (Zbw (ZbN (Zc (Z2 G__law_row hr (Zg (Zb Zie) (Zg (Zb Zh1) Zl)) (hg := glk Zdg) (hdb := dbk Zdg))))) (Zec (Zae hu (Zb Zg3) (Zb Zid))))) (Zf (Z0 (ok_k ZdV))
  Zn) Zn)
  (Zf (ZdN (ZdM (pvs Zie) (ZO (ok_k ZaU) Zad)))
  (Zf (Zbs (Zbw (ZbN (Zc (Z2 G__law_row hr (Zg (Zc (Z2 G_scanned hr (Zg (Zb Zgh) (Zg (Zb Zjp) (Zg (Zb Zg3) Zl))) (hg := glk ZdC) (hdb := dbk ZdC))) (Zg (Zb Zh1) Zl)) (hg := glk Zdg) (hdb := dbk Zdg))))) (Zf (Z0 (ok_k ZdV))
  Zn) Zn)
  Zn))))))
  (Zf (Z0 (ok_k ZdV))
  Zn)))))))))))
theorem Zsx {l : PySem.W.OpenLaw} {w : World} {K : Fg} {h : Heap} {mg : Str -> Option Value} {fa a0 a1 a2 a3 a4 a5 a6 a7 a8 a9 a10 a11 a12 a13 a14 a15 a16 a17 a18 a19 a20 a21 a22 a23 a24 a25 a26 a27 a28 a29 C : Addr} (X : K.In h) (G : h.Ns mainGlobals mg) (hfa : mg "law" = some (.ref fa))
 {od0 an0 od1 an1 od2 an2 od3 an3 od4 an4 od5 an5 od6 an6 od7 an7 od8 an8 od9 an9 od10 an10 od11 an11 od12 an12 od13 an13 od14 an14 od15 an15 od16 an16 od17 an17 od18 an18 od19 an19 od20 an20 od21 an21 od22 an22 od23 an23 od24 an24 od25 an25 od26 an26 od27 an27 od28 an28 od29 an29 : Option Addr} {sl0 sl1 sl2 sl3 sl4 sl5 sl6 sl7 sl8 sl9 sl10 sl11 sl12 sl13 sl14 sl15 sl16 sl17 sl18 sl19 sl20 sl21 sl22 sl23 sl24 sl25 sl26 sl27 sl28 sl29 : Array (Option Value)} {oc0 kV0 dc0 pm0 cd0 ct0 oc1 kV1 dc1 pm1 cd1 ct1 oc2 kV2 dc2 pm2 cd2 ct2 oc3 kV3 dc3 pm3 cd3 ct3 oc4 kV4 dc4 pm4 cd4 ct4 oc5 kV5 dc5 pm5 cd5 ct5 oc6 kV6 dc6 pm6 cd6 ct6 oc7 kV7 dc7 pm7 cd7 ct7 oc8 kV8 dc8 pm8 cd8 ct8 oc9 kV9 dc9 pm9 cd9 ct9 oc10 kV10 dc10 pm10 cd10 ct10 oc11 kV11 dc11 pm11 cd11 ct11 oc12 kV12 dc12 pm12 cd12 ct12 oc13 kV13 dc13 pm13 cd13 ct13 oc14 kV14 dc14 pm14 cd14 ct14 oc15 kV15 dc15 pm15 cd15 ct15 oc16 kV16 dc16 pm16 cd16 ct16 oc17 kV17 dc17 pm17 cd17 ct17 oc18 kV18 dc18 pm18 cd18 ct18 oc19 kV19 dc19 pm19 cd19 ct19 oc20 kV20 dc20 pm20 cd20 ct20 oc21 kV21 dc21 pm21 cd21 ct21 oc22 kV22 dc22 pm22 cd22 ct22 oc23 kV23 dc23 pm23 cd23 ct23 oc24 kV24 dc24 pm24 cd24 ct24 oc25 kV25 dc25 pm25 cd25 ct25 oc26 kV26 dc26 pm26 cd26 ct26 oc27 kV27 dc27 pm27 cd27 ct27 oc28 kV28 dc28 pm28 cd28 ct28 oc29 kV29 dc29 pm29 cd29 ct29 : Value}
 (aC : PySem.W.nsIn K mainGlobals "Fount" = some (some (.ref C))) (pgC : PySem.W.plainGet K C Str.empty = true) (hdC : PySem.W.hasDictIn K C = true) (poC : PySem.W.plainOver K C = true) (saC : PySem.W.findIn K (.ref C) "__setattr__" = some (some (.builtin "object.__setattr__"))) (mkC : PySem.W.makesIn K C = true) (kcC : PySem.W.keepIn K (.ref C) = true)
 (nF0 : PySem.W.findIn K (.ref C) "part_count" = some none)
 (nF1 : PySem.W.findIn K (.ref C) "widths_sum" = some none)
 (nF2 : PySem.W.findIn K (.ref C) "opening" = some none)
 (nF3 : PySem.W.findIn K (.ref C) "closing" = some none)
 (nF4 : PySem.W.findIn K (.ref C) "shapes" = some none)
 (nF5 : PySem.W.findIn K (.ref C) "symbols_by_shape" = some none)
 (x0 : PySem.W.nsIn K mainGlobals "is_whole" = some (some (.ref a0))) (l0 : K.lookup a0 = some ⟨oc0, od0, .func (PySem.W.fnOf "is_whole" "is_whole" (Zy ZaC) (Zt ZaC) (Za ZaC) .none kV0 dc0 pm0 an0 cd0 ct0), sl0⟩) (c0 : PySem.W.codeIn K cd0 "is_whole" = true) (k0 : PySem.W.keepIn K (.ref a0) = true)
 (x1 : PySem.W.nsIn K mainGlobals "is_symbol" = some (some (.ref a1))) (l1 : K.lookup a1 = some ⟨oc1, od1, .func (PySem.W.fnOf "is_symbol" "is_symbol" (Zy ZaD) (Zt ZaD) (Za ZaD) .none kV1 dc1 pm1 an1 cd1 ct1), sl1⟩) (c1 : PySem.W.codeIn K cd1 "is_symbol" = true) (k1 : PySem.W.keepIn K (.ref a1) = true)
 (x2 : PySem.W.nsIn K mainGlobals "check_symbols" = some (some (.ref a2))) (l2 : K.lookup a2 = some ⟨oc2, od2, .func (PySem.W.fnOf "check_symbols" "check_symbols" (Zy ZF) (Zt ZF) (Za ZF) .none kV2 dc2 pm2 an2 cd2 ct2), sl2⟩) (c2 : PySem.W.codeIn K cd2 "check_symbols" = true) (k2 : PySem.W.keepIn K (.ref a2) = true)
 (x3 : PySem.W.nsIn K mainGlobals "are_widths" = some (some (.ref a3))) (l3 : K.lookup a3 = some ⟨oc3, od3, .func (PySem.W.fnOf "are_widths" "are_widths" (Zy ZD) (Zt ZD) (Za ZD) .none kV3 dc3 pm3 an3 cd3 ct3), sl3⟩) (c3 : PySem.W.codeIn K cd3 "are_widths" = true) (k3 : PySem.W.keepIn K (.ref a3) = true)
 (x4 : PySem.W.nsIn K mainGlobals "turned" = some (some (.ref a4))) (l4 : K.lookup a4 = some ⟨oc4, od4, .func (PySem.W.fnOf "turned" "turned" (Zy Zci) (Zt Zci) (Za Zci) .none kV4 dc4 pm4 an4 cd4 ct4), sl4⟩) (c4 : PySem.W.codeIn K cd4 "turned" = true) (k4 : PySem.W.keepIn K (.ref a4) = true)
 (x5 : PySem.W.nsIn K mainGlobals "is_fount" = some (some (.ref a5))) (l5 : K.lookup a5 = some ⟨oc5, od5, .func (PySem.W.fnOf "is_fount" "is_fount" (Zy ZT) (Zt ZT) (Za ZT) .none kV5 dc5 pm5 an5 cd5 ct5), sl5⟩) (c5 : PySem.W.codeIn K cd5 "is_fount" = true) (k5 : PySem.W.keepIn K (.ref a5) = true)
 (x6 : PySem.W.nsIn K mainGlobals "patterns_of" = some (some (.ref a6))) (l6 : K.lookup a6 = some ⟨oc6, od6, .func (PySem.W.fnOf "patterns_of" "patterns_of" (Zy ZC) (Zt ZC) (Za ZC) .none kV6 dc6 pm6 an6 cd6 ct6), sl6⟩) (c6 : PySem.W.codeIn K cd6 "patterns_of" = true) (k6 : PySem.W.keepIn K (.ref a6) = true)
 (x7 : PySem.W.nsIn K mainGlobals "stretches_in" = some (some (.ref a7))) (l7 : K.lookup a7 = some ⟨oc7, od7, .func (PySem.W.fnOf "stretches_in" "stretches_in" (Zy Zaj) (Zt Zaj) (Za Zaj) .none kV7 dc7 pm7 an7 cd7 ct7), sl7⟩) (c7 : PySem.W.codeIn K cd7 "stretches_in" = true) (k7 : PySem.W.keepIn K (.ref a7) = true)
 (x8 : PySem.W.findIn K (.ref C) "__init__" = some (some (.ref a8))) (y8 : PySem.W.isFn K (.ref a8) = true) (l8 : K.lookup a8 = some ⟨oc8, od8, .func (PySem.W.fnOf "__init__" "Fount.__init__" (Zy Zq) (Zt Zq) (Za Zq) .none kV8 dc8 pm8 an8 cd8 ct8), sl8⟩) (c8 : PySem.W.codeIn K cd8 "Fount.__init__" = true) (k8 : PySem.W.keepIn K (.ref a8) = true)
 (x9 : PySem.W.findIn K (.ref C) "parts" = some (some (.ref a9))) (y9 : PySem.W.isFn K (.ref a9) = true) (l9 : K.lookup a9 = some ⟨oc9, od9, .func (PySem.W.fnOf "parts" "Fount.parts" (Zy ZaP) (Zt ZaP) (Za ZaP) .none kV9 dc9 pm9 an9 cd9 ct9), sl9⟩) (c9 : PySem.W.codeIn K cd9 "Fount.parts" = true) (k9 : PySem.W.keepIn K (.ref a9) = true)
 (x10 : PySem.W.findIn K (.ref C) "total" = some (some (.ref a10))) (y10 : PySem.W.isFn K (.ref a10) = true) (l10 : K.lookup a10 = some ⟨oc10, od10, .func (PySem.W.fnOf "total" "Fount.total" (Zy ZaQ) (Zt ZaQ) (Za ZaQ) .none kV10 dc10 pm10 an10 cd10 ct10), sl10⟩) (c10 : PySem.W.codeIn K cd10 "Fount.total" = true) (k10 : PySem.W.keepIn K (.ref a10) = true)
 (x11 : PySem.W.findIn K (.ref C) "stop" = some (some (.ref a11))) (y11 : PySem.W.isFn K (.ref a11) = true) (l11 : K.lookup a11 = some ⟨oc11, od11, .func (PySem.W.fnOf "stop" "Fount.stop" (Zy ZaG) (Zt ZaG) (Za ZaG) .none kV11 dc11 pm11 an11 cd11 ct11), sl11⟩) (c11 : PySem.W.codeIn K cd11 "Fount.stop" = true) (k11 : PySem.W.keepIn K (.ref a11) = true)
 (x12 : PySem.W.findIn K (.ref C) "patterns" = some (some (.ref a12))) (y12 : PySem.W.isFn K (.ref a12) = true) (l12 : K.lookup a12 = some ⟨oc12, od12, .func (PySem.W.fnOf "patterns" "Fount.patterns" (Zy ZN) (Zt ZN) (Za ZN) .none kV12 dc12 pm12 an12 cd12 ct12), sl12⟩) (c12 : PySem.W.codeIn K cd12 "Fount.patterns" = true) (k12 : PySem.W.keepIn K (.ref a12) = true)
 (x13 : PySem.W.findIn K (.ref C) "printed" = some (some (.ref a13))) (y13 : PySem.W.isFn K (.ref a13) = true) (l13 : K.lookup a13 = some ⟨oc13, od13, .func (PySem.W.fnOf "printed" "Fount.printed" (Zy Z9) (Zt Z9) (Za Z9) .none kV13 dc13 pm13 an13 cd13 ct13), sl13⟩) (c13 : PySem.W.codeIn K cd13 "Fount.printed" = true) (k13 : PySem.W.keepIn K (.ref a13) = true)
 (x14 : PySem.W.findIn K (.ref C) "is_framed" = some (some (.ref a14))) (y14 : PySem.W.isFn K (.ref a14) = true) (l14 : K.lookup a14 = some ⟨oc14, od14, .func (PySem.W.fnOf "is_framed" "Fount.is_framed" (Zy ZH) (Zt ZH) (Za ZH) .none kV14 dc14 pm14 an14 cd14 ct14), sl14⟩) (c14 : PySem.W.codeIn K cd14 "Fount.is_framed" = true) (k14 : PySem.W.keepIn K (.ref a14) = true)
 (x15 : PySem.W.findIn K (.ref C) "thing_at" = some (some (.ref a15))) (y15 : PySem.W.isFn K (.ref a15) = true) (l15 : K.lookup a15 = some ⟨oc15, od15, .func (PySem.W.fnOf "thing_at" "Fount.thing_at" (Zy Z6) (Zt Z6) (Za Z6) .none kV15 dc15 pm15 an15 cd15 ct15), sl15⟩) (c15 : PySem.W.codeIn K cd15 "Fount.thing_at" = true) (k15 : PySem.W.keepIn K (.ref a15) = true)
 (x16 : PySem.W.findIn K (.ref C) "looked" = some (some (.ref a16))) (y16 : PySem.W.isFn K (.ref a16) = true) (l16 : K.lookup a16 = some ⟨oc16, od16, .func (PySem.W.fnOf "looked" "Fount.looked" (Zy Zs) (Zt Zs) (Za Zs) .none kV16 dc16 pm16 an16 cd16 ct16), sl16⟩) (c16 : PySem.W.codeIn K cd16 "Fount.looked" = true) (k16 : PySem.W.keepIn K (.ref a16) = true)
 (x17 : PySem.W.nsIn K mainGlobals "edges_of" = some (some (.ref a17))) (l17 : K.lookup a17 = some ⟨oc17, od17, .func (PySem.W.fnOf "edges_of" "edges_of" (Zy Zaw) (Zt Zaw) (Za Zaw) .none kV17 dc17 pm17 an17 cd17 ct17), sl17⟩) (c17 : PySem.W.codeIn K cd17 "edges_of" = true) (k17 : PySem.W.keepIn K (.ref a17) = true)
 (x18 : PySem.W.nsIn K mainGlobals "nearest_quotient" = some (some (.ref a18))) (l18 : K.lookup a18 = some ⟨oc18, od18, .func (PySem.W.fnOf "nearest_quotient" "nearest_quotient" (Zy ZR) (Zt ZR) (Za ZR) .none kV18 dc18 pm18 an18 cd18 ct18), sl18⟩) (c18 : PySem.W.codeIn K cd18 "nearest_quotient" = true) (k18 : PySem.W.keepIn K (.ref a18) = true)
 (x19 : PySem.W.nsIn K mainGlobals "scanned" = some (some (.ref a19))) (l19 : K.lookup a19 = some ⟨oc19, od19, .func (PySem.W.fnOf "scanned" "scanned" (Zy Z1) (Zt Z1) (Za Z1) .none kV19 dc19 pm19 an19 cd19 ct19), sl19⟩) (c19 : PySem.W.codeIn K cd19 "scanned" = true) (k19 : PySem.W.keepIn K (.ref a19) = true)
 (x20 : PySem.W.nsIn K mainGlobals "_law_nth" = some (some (.ref a20))) (l20 : K.lookup a20 = some ⟨oc20, od20, .func (PySem.W.fnOf "_law_nth" "_law_nth" (Zy Zbe) (Zt Zbe) (Za Zbe) .none kV20 dc20 pm20 an20 cd20 ct20), sl20⟩) (c20 : PySem.W.codeIn K cd20 "_law_nth" = true) (k20 : PySem.W.keepIn K (.ref a20) = true)
 (x21 : PySem.W.nsIn K mainGlobals "_law_spun" = some (some (.ref a21))) (l21 : K.lookup a21 = some ⟨oc21, od21, .func (PySem.W.fnOf "_law_spun" "_law_spun" (Zy Zau) (Zt Zau) (Za Zau) .none kV21 dc21 pm21 an21 cd21 ct21), sl21⟩) (c21 : PySem.W.codeIn K cd21 "_law_spun" = true) (k21 : PySem.W.keepIn K (.ref a21) = true)
 (x22 : PySem.W.nsIn K mainGlobals "_law_source" = some (some (.ref a22))) (l22 : K.lookup a22 = some ⟨oc22, od22, .func (PySem.W.fnOf "_law_source" "_law_source" (Zy Za3) (Zt Za3) (Za Za3) .none kV22 dc22 pm22 an22 cd22 ct22), sl22⟩) (c22 : PySem.W.codeIn K cd22 "_law_source" = true) (k22 : PySem.W.keepIn K (.ref a22) = true)
 (x23 : PySem.W.nsIn K mainGlobals "_law_next" = some (some (.ref a23))) (l23 : K.lookup a23 = some ⟨oc23, od23, .func (PySem.W.fnOf "_law_next" "_law_next" (Zy Zag) (Zt Zag) (Za Zag) .none kV23 dc23 pm23 an23 cd23 ct23), sl23⟩) (c23 : PySem.W.codeIn K cd23 "_law_next" = true) (k23 : PySem.W.keepIn K (.ref a23) = true)
 (x24 : PySem.W.nsIn K mainGlobals "_law_widths" = some (some (.ref a24))) (l24 : K.lookup a24 = some ⟨oc24, od24, .func (PySem.W.fnOf "_law_widths" "_law_widths" (Zy Zw) (Zt Zw) (Za Zw) .none kV24 dc24 pm24 an24 cd24 ct24), sl24⟩) (c24 : PySem.W.codeIn K cd24 "_law_widths" = true) (k24 : PySem.W.keepIn K (.ref a24) = true)
 (x25 : PySem.W.nsIn K mainGlobals "_law_fount" = some (some (.ref a25))) (l25 : K.lookup a25 = some ⟨oc25, od25, .func (PySem.W.fnOf "_law_fount" "_law_fount" (Zy Z8) (Zt Z8) (Za Z8) .none kV25 dc25 pm25 an25 cd25 ct25), sl25⟩) (c25 : PySem.W.codeIn K cd25 "_law_fount" = true) (k25 : PySem.W.keepIn K (.ref a25) = true)
 (x26 : PySem.W.nsIn K mainGlobals "_law_prime_of" = some (some (.ref a26))) (l26 : K.lookup a26 = some ⟨oc26, od26, .func (PySem.W.fnOf "_law_prime_of" "_law_prime_of" (Zy ZA) (Zt ZA) (Za ZA) .none kV26 dc26 pm26 an26 cd26 ct26), sl26⟩) (c26 : PySem.W.codeIn K cd26 "_law_prime_of" = true) (k26 : PySem.W.keepIn K (.ref a26) = true)
 (x27 : PySem.W.nsIn K mainGlobals "_law_moved" = some (some (.ref a27))) (l27 : K.lookup a27 = some ⟨oc27, od27, .func (PySem.W.fnOf "_law_moved" "_law_moved" (Zy ZE) (Zt ZE) (Za ZE) .none kV27 dc27 pm27 an27 cd27 ct27), sl27⟩) (c27 : PySem.W.codeIn K cd27 "_law_moved" = true) (k27 : PySem.W.keepIn K (.ref a27) = true)
 (x28 : PySem.W.nsIn K mainGlobals "_law_row" = some (some (.ref a28))) (l28 : K.lookup a28 = some ⟨oc28, od28, .func (PySem.W.fnOf "_law_row" "_law_row" (Zy ZP) (Zt ZP) (Za ZP) .none kV28 dc28 pm28 an28 cd28 ct28), sl28⟩) (c28 : PySem.W.codeIn K cd28 "_law_row" = true) (k28 : PySem.W.keepIn K (.ref a28) = true)
 (x29 : PySem.W.nsIn K mainGlobals "law" = some (some (.ref a29))) (l29 : K.lookup a29 = some ⟨oc29, od29, .func (PySem.W.fnOf "law" "law" (Zy Zz) (Zt Zz) (Za Zz) .none kV29 dc29 pm29 an29 cd29 ct29), sl29⟩) (c29 : PySem.W.codeIn K cd29 "law" = true) (k29 : PySem.W.keepIn K (.ref a29) = true)
 (z0 : PySem.W.nsIn K mainGlobals "abs" = some none)
 (z1 : PySem.W.nsIn K mainGlobals "all" = some none)
 (z2 : PySem.W.nsIn K mainGlobals "bool" = some none)
 (z3 : PySem.W.nsIn K mainGlobals "enumerate" = some none)
 (z4 : PySem.W.nsIn K mainGlobals "int" = some none)
 (z5 : PySem.W.nsIn K mainGlobals "isinstance" = some none)
 (z6 : PySem.W.nsIn K mainGlobals "len" = some none)
 (z7 : PySem.W.nsIn K mainGlobals "list" = some none)
 (z8 : PySem.W.nsIn K mainGlobals "max" = some none)
 (z9 : PySem.W.nsIn K mainGlobals "min" = some none)
 (z10 : PySem.W.nsIn K mainGlobals "range" = some none)
 (z11 : PySem.W.nsIn K mainGlobals "reversed" = some none)
 (z12 : PySem.W.nsIn K mainGlobals "sum" = some none)
 (z13 : PySem.W.nsIn K mainGlobals "tuple" = some none)
 (z14 : PySem.W.nsIn K mainGlobals "zip" = some none)
 {tc0 : Tok} (zc0 : PySem.W.nsIn K mainGlobals "WIDEST" = some (some (.int 4 tc0)))
 {at0 : Addr} {dt0 : Option Addr} {it0 : Array Value} {nt0 : Nat} {st0 : Array (Option Value)} (zt0 : PySem.W.nsIn K mainGlobals "PARTS" = some (some (.ref at0))) (zl0 : K.lookup at0 = some ⟨.type "tuple", dt0, .seq it0 nt0, st0⟩) (zz0 : it0.size <= 1000) (zi0 : (it0.toList.map fun u => match u with | .int i _ => some i | _ => none) = ([4, 6] : List Int).map some)
 : ∃ fd : FuncData, (∀ (s : Shared) (v : Value), BindsTo s fd ⟨[v], []⟩ [("_law_script", v)]) /\ ∀ base : Heap, K.In base -> base.Ns mainGlobals mg -> FnOk l.prog w K mg base CX0 11 fa fd ["_law_script"] (T.spF K (Zmt (Zi0 K)).run) := by
 have hC : Zi0 K = C := by unfold Zi0; rw [aC]
 rw [hC]
 have e := hfa.symm.trans (PySem.W.mg_of X G x29)
 cases e
 have Z : Txt K mg C := ⟨PySem.W.mg_none_of X G z0, PySem.W.mg_none_of X G z1, PySem.W.mg_none_of X G z2, PySem.W.mg_none_of X G z3, PySem.W.mg_none_of X G z4, PySem.W.mg_none_of X G z5, PySem.W.mg_none_of X G z6, PySem.W.mg_none_of X G z7, PySem.W.mg_none_of X G z8, PySem.W.mg_none_of X G z9, PySem.W.mg_none_of X G z10, PySem.W.mg_none_of X G z11, PySem.W.mg_none_of X G z12, PySem.W.mg_none_of X G z13, PySem.W.mg_none_of X G z14, ⟨tc0, PySem.W.mg_of X G zc0⟩, T.Zqb X G zt0 zl0 (by rw [T.szl]; omega) zi0, ⟨pgC, hdC, poC, saC⟩, nF0, nF1, nF2, nF3, nF4, nF5⟩
 have F0 := ZJ (st := ZaC) l0 c0 k0
 have b0 := F0.binds (ps := ["thing"]) fun _ _ _ _ _ _ => T.us1 fun _ => rfl
 have F1 := ZJ (st := ZaD) l1 c1 k1
 have b1 := F1.binds (ps := ["count", "thing"]) fun _ _ _ _ _ _ => T.us2 fun _ _ => rfl
 have F2 := ZJ (st := ZF) l2 c2 k2
 have b2 := F2.binds (ps := ["count", "row"]) fun _ _ _ _ _ _ => T.us2 fun _ _ => rfl
 have F3 := ZJ (st := ZD) l3 c3 k3
 have b3 := F3.binds (ps := ["count", "things"]) fun _ _ _ _ _ _ => T.us2 fun _ _ => rfl
 have F4 := ZJ (st := Zci) l4 c4 k4
 have b4 := F4.binds (ps := ["widths"]) fun _ _ _ _ _ _ => T.us1 fun _ => rfl
 have F5 := ZJ (st := ZT) l5 c5 k5
 have b5 := F5.binds (ps := ["parts", "total", "start", "stop"]) fun _ _ _ _ _ _ => T.us4 fun _ _ _ _ => rfl
 have F6 := ZJ (st := ZC) l6 c6 k6
 have b6 := F6.binds (ps := ["parts", "total"]) fun _ _ _ _ _ _ => T.us2 fun _ _ => rfl
 have F7 := ZJ (st := Zaj) l7 c7 k7
 have b7 := F7.binds (ps := ["parts", "width_count"]) fun _ _ _ _ _ _ => T.us2 fun _ _ => rfl
 have F8 := ZJ (st := Zq) l8 c8 k8
 have b8 := F8.binds (ps := ["self", "parts", "total", "start", "stop"]) fun _ _ _ _ _ _ => T.us5 fun _ _ _ _ _ => rfl
 have F9 := ZJ (st := ZaP) l9 c9 k9
 have b9 := F9.binds (ps := ["self"]) fun _ _ _ _ _ _ => T.us1 fun _ => rfl
 have F10 := ZJ (st := ZaQ) l10 c10 k10
 have b10 := F10.binds (ps := ["self"]) fun _ _ _ _ _ _ => T.us1 fun _ => rfl
 have F11 := ZJ (st := ZaG) l11 c11 k11
 have b11 := F11.binds (ps := ["self"]) fun _ _ _ _ _ _ => T.us1 fun _ => rfl
 have F12 := ZJ (st := ZN) l12 c12 k12
 have b12 := F12.binds (ps := ["self"]) fun _ _ _ _ _ _ => T.us1 fun _ => rfl
 have F13 := ZJ (st := Z9) l13 c13 k13
 have b13 := F13.binds (ps := ["self", "row"]) fun _ _ _ _ _ _ => T.us2 fun _ _ => rfl
 have F14 := ZJ (st := ZH) l14 c14 k14
 have b14 := F14.binds (ps := ["self", "widths"]) fun _ _ _ _ _ _ => T.us2 fun _ _ => rfl
 have F15 := ZJ (st := Z6) l15 c15 k15
 have b15 := F15.binds (ps := ["self", "prime", "widths", "number"]) fun _ _ _ _ _ _ => T.us4 fun _ _ _ _ => rfl
 have F16 := ZJ (st := Zs) l16 c16 k16
 have b16 := F16.binds (ps := ["self", "prime", "widths"]) fun _ _ _ _ _ _ => T.us3 fun _ _ _ => rfl
 have F17 := ZJ (st := Zaw) l17 c17 k17
 have b17 := F17.binds (ps := ["widths", "first", "unit"]) fun _ _ _ _ _ _ => T.us3 fun _ _ _ => rfl
 have F18 := ZJ (st := ZR) l18 c18 k18
 have b18 := F18.binds (ps := ["number", "divisor"]) fun _ _ _ _ _ _ => T.us2 fun _ _ => rfl
 have F19 := ZJ (st := Z1) l19 c19 k19
 have b19 := F19.binds (ps := ["fount", "prime", "edges"]) fun _ _ _ _ _ _ => T.us3 fun _ _ _ => rfl
 have F20 := ZJ (st := Zbe) l20 c20 k20
 have b20 := F20.binds (ps := ["_law_script", "_law_k"]) fun _ _ _ _ _ _ => T.us2 fun _ _ => rfl
 have F21 := ZJ (st := Zau) l21 c21 k21
 have b21 := F21.binds (ps := ["_law_cell", "_law_turn", "_law_many"]) fun _ _ _ _ _ _ => T.us3 fun _ _ _ => rfl
 have F22 := ZJ (st := Za3) l22 c22 k22
 have b22 := F22.binds (ps := ["_law_cell"]) fun _ _ _ _ _ _ => T.us1 fun _ => rfl
 have F23 := ZJ (st := Zag) l23 c23 k23
 have b23 := F23.binds (ps := ["_law_source_here", "_law_many"]) fun _ _ _ _ _ _ => T.us2 fun _ _ => rfl
 have F24 := ZJ (st := Zw) l24 c24 k24
 have b24 := F24.binds (ps := ["_law_source_here", "_law_parts", "_law_total"]) fun _ _ _ _ _ _ => T.us3 fun _ _ _ => rfl
 have F25 := ZJ (st := Z8) l25 c25 k25
 have b25 := F25.binds (ps := ["_law_one", "_law_two"]) fun _ _ _ _ _ _ => T.us2 fun _ _ => rfl
 have F26 := ZJ (st := ZA) l26 c26 k26
 have b26 := F26.binds (ps := ["_law_cell", "_law_many"]) fun _ _ _ _ _ _ => T.us2 fun _ _ => rfl
 have F27 := ZJ (st := ZE) l27 c27 k27
 have b27 := F27.binds (ps := ["_law_edges", "_law_unit", "_law_cell"]) fun _ _ _ _ _ _ => T.us3 fun _ _ _ => rfl
 have F28 := ZJ (st := ZP) l28 c28 k28
 have b28 := F28.binds (ps := ["_law_found", "_law_row_here"]) fun _ _ _ _ _ _ => T.us2 fun _ _ => rfl
 have F29 := ZJ (st := Zz) l29 c29 k29
 refine ⟨PySem.W.fnOf "law" "law" (Zy Zz) (Zt Zz) (Za Zz) .none kV29 dc29 pm29 an29 cd29 ct29, fun s v => .of_eq rfl, fun base _ _ => ?_⟩
 have G_is_whole : FnAt l.prog w K mg base "is_whole" 1 ["thing"] (T.spF K ZS.run) := ⟨_, _, ZkQ F0 Z , PySem.W.mg_of X G x0, k0, b0⟩
 have G_is_symbol : FnAt l.prog w K mg base "is_symbol" 2 ["count", "thing"] (T.spF K Zc1.run) := ⟨_, _, Zk4 F1 Z G_is_whole, PySem.W.mg_of X G x1, k1, b1⟩
 have G_check_symbols : FnAt l.prog w K mg base "check_symbols" 3 ["count", "row"] (T.spF K Zb6.run) := ⟨_, _, ZhX F2 Z G_is_symbol, PySem.W.mg_of X G x2, k2, b2⟩
 have G_are_widths : FnAt l.prog w K mg base "are_widths" 2 ["count", "things"] (T.spF K Zbm.run) := ⟨_, _, ZjH F3 Z G_is_whole, PySem.W.mg_of X G x3, k3, b3⟩
 have G_turned : FnAt l.prog w K mg base "turned" 1 ["widths"] (T.spF K ZbE.run) := ⟨_, _, Znv F4 Z , PySem.W.mg_of X G x4, k4, b4⟩
 have G_is_fount : FnAt l.prog w K mg base "is_fount" 3 ["parts", "total", "start", "stop"] (T.spF K ZcY.run) := ⟨_, _, ZkS F5 Z G_is_whole G_are_widths G_turned, PySem.W.mg_of X G x5, k5, b5⟩
 have R_patterns_of : ∀ n, FnAt l.prog w K mg base "patterns_of" (n + 1) ["parts", "total"] (T.spF K (ZG n)) := fun n => by
  induction n with
  | zero => exact ⟨_, _, Zi1 (P := l.prog) (w := w) (base := base) F6 Z, PySem.W.mg_of X G x6, k6, b6⟩
  | succ n ih => exact ⟨_, _, ZiW (P := l.prog) (w := w) (base := base) F6 Z ih, PySem.W.mg_of X G x6, k6, b6⟩
 have G_patterns_of : FnAt l.prog w K mg base "patterns_of" 8 ["parts", "total"] (T.spF K Zct.run) := R_patterns_of 7
 have G_stretches_in : FnAt l.prog w K mg base "stretches_in" 1 ["parts", "width_count"] (T.spF K ZX.run) := ⟨_, _, Zi2 F7 Z , PySem.W.mg_of X G x7, k7, b7⟩
 have G_Fount___init__ : MkAt l.prog w K mg base "Fount" C 9 ["self", "parts", "total", "start", "stop"] (T.spF K (Zaq C).run) := ⟨_, _, ZhD F8 Z G_is_fount G_patterns_of, ⟨mkC, x8, y8, kcC⟩, PySem.W.mg_of X G aC, b8⟩
 have G_Fount_parts : MeAt l.prog w K mg base C "parts" 1 ["self"] (T.spF K (Zby C).run) := ⟨⟨_, _, ZiY F9 Z , ⟨x9, y9, k9⟩, b9⟩, Z.cl⟩
 have G_Fount_total : MeAt l.prog w K mg base C "total" 1 ["self"] (T.spF K (Zbz C).run) := ⟨⟨_, _, Zja F10 Z , ⟨x10, y10, k10⟩, b10⟩, Z.cl⟩
 have G_Fount_stop : MeAt l.prog w K mg base C "stop" 1 ["self"] (T.spF K (ZbV C).run) := ⟨⟨_, _, ZjK F11 Z , ⟨x11, y11, k11⟩, b11⟩, Z.cl⟩
 have G_Fount_patterns : MeAt l.prog w K mg base C "patterns" 1 ["self"] (T.spF K (Za8 C).run) := ⟨⟨_, _, ZhF F12 Z , ⟨x12, y12, k12⟩, b12⟩, Z.cl⟩
 have G_Fount_printed : MeAt l.prog w K mg base C "printed" 4 ["self", "row"] (T.spF K (ZaN C).run) := ⟨⟨_, _, ZhZ F13 Z G_check_symbols, ⟨x13, y13, k13⟩, b13⟩, Z.cl⟩
 have G_Fount_is_framed : MeAt l.prog w K mg base C "is_framed" 1 ["self", "widths"] (T.spF K (Zal C).run) := ⟨⟨_, _, ZgW F14 Z , ⟨x14, y14, k14⟩, b14⟩, Z.cl⟩
 have G_Fount_thing_at : MeAt l.prog w K mg base C "thing_at" 1 ["self", "prime", "widths", "number"] (T.spF K (ZV C).run) := ⟨⟨_, _, ZhG F15 Z , ⟨x15, y15, k15⟩, b15⟩, Z.cl⟩
 have G_Fount_looked : MeAt l.prog w K mg base C "looked" 2 ["self", "prime", "widths"] (T.spF K (ZL C).run) := ⟨⟨_, _, Zi5 F16 Z G_stretches_in G_turned G_Fount_is_framed G_Fount_thing_at, ⟨x16, y16, k16⟩, b16⟩, Z.cl⟩
 have G_edges_of : FnAt l.prog w K mg base "edges_of" 1 ["widths", "first", "unit"] (T.spF K ZcZ.run) := ⟨_, _, ZkT F17 Z , PySem.W.mg_of X G x17, k17, b17⟩
 have G_nearest_quotient : FnAt l.prog w K mg base "nearest_quotient" 1 ["number", "divisor"] (T.spF K ZM.run) := ⟨_, _, ZgG F18 Z , PySem.W.mg_of X G x18, k18, b18⟩
 have G_scanned : FnAt l.prog w K mg base "scanned" 3 ["fount", "prime", "edges"] (T.spF K (Zar C).run) := ⟨_, _, Zmm F19 Z G_stretches_in G_Fount_parts G_Fount_total G_Fount_stop G_Fount_looked G_nearest_quotient, PySem.W.mg_of X G x19, k19, b19⟩
 have G__law_nth : FnAt l.prog w K mg base "_law_nth" 1 ["_law_script", "_law_k"] (T.spF K Zp.run) := ⟨_, _, ZkX F20 Z , PySem.W.mg_of X G x20, k20, b20⟩
 have G__law_spun : FnAt l.prog w K mg base "_law_spun" 1 ["_law_cell", "_law_turn", "_law_many"] (T.spF K Zd5.run) := ⟨_, _, Zk9 F21 Z , PySem.W.mg_of X G x21, k21, b21⟩
 have G__law_source : FnAt l.prog w K mg base "_law_source" 1 ["_law_cell"] (T.spF K Zao.run) := ⟨_, _, Zjh F22 Z , PySem.W.mg_of X G x22, k22, b22⟩
 have G__law_next : FnAt l.prog w K mg base "_law_next" 2 ["_law_source_here", "_law_many"] (T.spF K Z7.run) := ⟨_, _, ZkA F23 Z G__law_spun, PySem.W.mg_of X G x23, k23, b23⟩
 have G__law_widths : FnAt l.prog w K mg base "_law_widths" 3 ["_law_source_here", "_law_parts", "_law_total"] (T.spF K ZaR.run) := ⟨_, _, Zji F24 Z G__law_next, PySem.W.mg_of X G x24, k24, b24⟩
 have G__law_fount : FnAt l.prog w K mg base "_law_fount" 4 ["_law_one", "_law_two"] (T.spF K Zbp.run) := ⟨_, _, ZjO F25 Z G__law_source G__law_next G__law_widths, PySem.W.mg_of X G x25, k25, b25⟩
 have G__law_prime_of : FnAt l.prog w K mg base "_law_prime_of" 1 ["_law_cell", "_law_many"] (T.spF K ZaO.run) := ⟨_, _, Zia F26 Z , PySem.W.mg_of X G x26, k26, b26⟩
 have G__law_moved : FnAt l.prog w K mg base "_law_moved" 3 ["_law_edges", "_law_unit", "_law_cell"] (T.spF K ZbZ.run) := ⟨_, _, ZjP F27 Z G__law_source G__law_next, PySem.W.mg_of X G x27, k27, b27⟩
 have G__law_row : FnAt l.prog w K mg base "_law_row" 1 ["_law_found", "_law_row_here"] (T.spF K Zbf.run) := ⟨_, _, ZkY F28 Z , PySem.W.mg_of X G x28, k28, b28⟩
 exact Zsw (P := l.prog) (w := w) (base := base) F29 Z G__law_fount G__law_nth G_Fount___init__ G__law_prime_of G_Fount_patterns G_edges_of G_Fount_printed G__law_moved G_scanned G__law_row
end
variable (lk : Nat -> Bool) (fok : Addr -> Str -> Bool) (fuel : Nat)
local macro_rules | `(tactic| walk_at "ev") => `(tactic| simp only [bndA, ZpI, retA, Zt1, ZpJ, Zt2, Zt3, Zr5, Zr6, Zt4, Zr7, Zt5, Zt6, ZpK, ZpL, valA, Zr8, Zt7, movA, Zr9, ZrA, Zt8, Zt9, ZrB, ZtA, ZtB, ZrC, ZrD, ZtC, ZtD, ZrE, ZrF, ZtE, ZrG, ZrH, ZrI, ZrJ, ZtF, ZrK, exs1, exs0, ZpO, ZpP, ZpM, ZpN, e_k, o_k, e_g, o_g, ZtH, ZtI, ZtJ, ZtK, ZtL, ZtM, ZpQ, ZtN, ZtO, ZtP, Zl1, e_nt, t_nt, ZtQ, ZtR, t_or, ZtS, e_ix, o_ix, e_sl, o_sl, ZtT, ZtU, ZtV, ZtW, ZtX, ZtY, e_kl, o_kl, ZrL, ZrM, ZrN, e_bf, t_bf, o_bf, ZrO, ZrP, ZrQ, ZtZ, ZpV, ZrR, e_v, Zol, Zue, Zuf, evs0, evs1, Zug, Zuh, Zui, Zuj, Zuk, ZrY, x_ex, Zul, Zum, ZrZ, Zun, r_k, Zuo, Zup, Zuq, Zur, r_ix, Zus, Zut, Zuu, Zsa, r_bf, Zsb, Zsc, Zuv, Zuw, c_lt, c_le, Zux, Zuy, Zuz, Zu0, Zsd, Zse, ZrS, Zu1, Zu2, Zu3, Zu4, Zu5, Zu6, Zu7, Zu8, Zsf, Zsg, Zsh, Zsi, Zsj, Zsk, intp, sl_l, sl_f, Zu9, ZuA, ZuB, ZuC, Zsl, asgn, Zsm, Zsn, Zso, ZuD, ZuE, Zsp, Zsq, Zsr, Zss, it_l, it_t, modA, ZuF, chkA, ZuG, ix_l, shrL, shr, walked, C0, scr, List.getElem?_cons_zero, List.getElem?_cons_succ, List.set_cons_zero, List.set_cons_succ, List.length_cons, List.length_nil, Option.map_some, Option.bind_some, Option.toList_none, Option.toList_some, List.nil_append, List.append_nil, List.cons_append, List.map_cons, List.map_nil, if_true, if_false, Bool.false_eq_true, Bool.and_true, Bool.true_and, Bool.or_true, Bool.true_or, Bool.or_false, Bool.false_or, Bool.not_false, Bool.not_true, decide_true, decide_false, Nat.reduceLT, Nat.reduceAdd, Nat.reduceLeDiff, beq_self_eq_true, Nat.reduceBEq, Bool.and_false, Bool.false_and, reduceCtorEq, ite_true, ite_false, Zua, Zub, Zuc, Zud, ZrW, ZrV, ZrX, ZrT, ZrU])
local macro_rules | `(tactic| simp_all [$xs,*]) => `(tactic| repeat (first | walk_at "ev" | simp only [$xs,*]))
noncomputable abbrev I (i : Int) : D := .sc (.int i)
noncomputable abbrev Ls (o : Bool) (xs : List Int) : D := .node .lst o (dI xs)
noncomputable abbrev dL (o : Bool) (ls : List (List Int)) : List D := ls.map (Ls o)
theorem Za7 (o : Bool) : ∀ ls : List (List Int), shrL (dL o ls) = dL false ls
 | [] => rfl
 | l :: ls => by
  show shr (Ls o l) :: shrL (dL o ls) = Ls false l :: dL false ls
  rw [Za7 o ls]
  show D.node .lst false (shrL (dI l)) :: _ = _
  rw [Z3]
theorem Zh2 (o : Bool) (l : List Int) (ls : List (List Int)) : dL o (l :: ls) = Ls o l :: dL o ls := (rfl)
theorem Znw (o : Bool) (l m : List (List Int)) : dL o (l ++ m) = dL o l ++ dL o m := List.map_append
theorem Zhh (o : Bool) (l : List (List Int)) : (dL o l).length = l.length := List.length_map _
theorem ZoT (i : Int) : tyW .int (.sc (.int i)) = some true := (rfl)
theorem ZoU (i : Int) : tyW .bool (.sc (.int i)) = some false := (rfl)
theorem ZoV (w : W) : bfW (.isi .int) [w] = (tyW .int w).map fun b => .sc (.bl b) := (rfl)
theorem ZoW (w : W) : bfW (.isi .list) [w] = (tyW .list w).map fun b => .sc (.bl b) := (rfl)
theorem ZoX (ds : List D) : tyW .list (.nd .lst ds) = some true := (rfl)
theorem ZoY (xs ys : List Int) : Zc6 .NotEq (.nd .lst (dI xs)) (.nd .lst (dI ys)) = some (!decide (xs = ys)) := by
 show (Zc6 .Eq (.nd .lst (dI xs)) (.nd .lst (dI ys))).map (!·) = _
 rw [ZjX]
 rfl
theorem ZuN (ds : List D) : bfW .all [.nd .lst ds] = (ZdK ds).map fun bs => .sc (.bl (bs.all id)) := (rfl)
theorem Zj6 : ∀ n : Nat, ZdK (List.replicate n (D.sc (.bl true))) = some (List.replicate n true)
 | 0 => rfl
 | n + 1 => by rw [List.replicate_succ, ZdK, Zj6 n]; rfl
theorem Zqi (n : Nat) : bfW .all [.nd .lst (List.replicate n (D.sc (.bl true)))] = some (.sc (.bl true)) := by
 rw [ZuN, Zj6]
 simp
theorem Zhi (x : Int) : ZS.run [I x] = .ok (.sc (.bl true), [I x]) := by
 show Zh C0 1 1 Zdy [I x] = _
 rw [runA (show [I x].length = 1 from rfl)]
 unfold Zdy
 simp only [List.replicate, Nat.reduceSub]
 simp_all [ZoV, ZoS, ZoT, ZoU]
 rfl
theorem ZdU (ns : List Int) (k : Nat) : Zp.run [scr ns, I k] = .ok (I (ns.getD k 0), [scr ns, I k]) := by
 show Zh C0 2 3 Zd4 [scr ns, I k] = _
 rw [runA (show [scr ns, I k].length = 2 from rfl)]
 unfold Zd4
 simp only [List.replicate, Nat.reduceSub]
 have hc := Zfw ns (some (k : Int)) (some ((k : Int) + 1))
 rw [Zoo] at hc
 (rw [List.getD_eq_getElem?_getD])
 cases h : ns[k]? with
 | none =>
  rw [h] at hc
  simp_all [hc, ZtG]
  rfl
 | some x =>
  rw [h] at hc
  simp_all [hc, Zc7]
  rfl
theorem Zot (h0 : lk 0 = false) : ∀ (xs : List Int) (n : Nat) (a : D), (∀ x ∈ xs, 1 <= x /\ x <= 4) -> ∃ a',
 Za4 (asgT lk (.name 0)) (tsts ⟨lk, fok, fuel⟩ []) (evb ⟨lk, fok, fuel⟩ (.and (.call ZS [.v 0]) (.chain .LtE .LtE (.k (.int 1)) (.v 0) (.k (.int 4))))).1 (dI xs) (List.replicate n (.sc (.bl true))) [a] = .ok (List.replicate (n + xs.length) (.sc (.bl true)), [a']) := by
 intro xs
 induction xs with
 | nil => exact fun n a _ => ⟨a, rfl⟩
 | cons x xs ih =>
  intro n a hx
  obtain ⟨a', ih⟩ := ih (n + 1) (I x) fun y hy => hx y (List.mem_cons_of_mem _ hy)
  refine ⟨a', ?_⟩
  obtain ⟨h1, h2⟩ := hx x List.mem_cons_self
  have l1 : ZS.lend = true := rfl
  rw [List.length_cons, show n + (xs.length + 1) = n + 1 + xs.length by omega, <- ih, Zai, Zee, List.replicate_succ']
  simp_all [h0, l1, Zhi, h1, h2]
theorem Zj7 (n : Nat) (xs : List Int) (o : Bool) (hl : xs.length = n) (hn : n <= 100) (hx : ∀ x ∈ xs, 1 <= x /\ x <= 4) : Zbm.run [I n, Ls o xs] = .ok (.sc (.bl true), [I n, Ls o xs]) := by
 rw [show Zbm.run = Zh C0 2 2 Zcs from rfl]
 rw [runA (show [I n, Ls o xs].length = 2 from rfl)]
 unfold Zcs
 simp only [List.replicate, Nat.reduceSub]
 obtain ⟨a', hc⟩ := Zot (fun i => decide (1 <= i)) (fun _ _ => false) 0 rfl xs 0 .hole hx
 rw [Nat.zero_add] at hc
 replace hc : Zbc (fun _ _ => false) 0 1 (.name 0) [] (.and (.call ZS [.v 0]) (.chain .LtE .LtE (.k (.int 1)) (.v 0) (.k (.int 4)))) (dI xs) [] [.hole] = _ := hc
 have hm : ∀ δ : List D, Zb4 1 [] (Zbc (fun _ _ => false) 0 1 (.name 0) [] (.and (.call ZS [.v 0]) (.chain .LtE .LtE (.k (.int 1)) (.v 0) (.k (.int 4)))) (dI xs) []) δ = .ok (.node .lst true (List.replicate xs.length (.sc (.bl true))), δ) := fun δ => by
  rw [Zcg (js := []) (caps := []) rfl hc (by rw [List.length_replicate, szl]; omega), Zdw]
  rfl
 have ha := Zqi xs.length
 generalize List.replicate xs.length (D.sc (V.bl true)) = rp at hm ha
 have hdl : ((dI xs).length : Int) = n := by rw [ZK, hl]
 cases o <;> (simp_all [ZoW, ZoX, Z3, hdl, hm, ha]) <;> rfl
theorem ZiE (xs : List Int) : (dI xs).reverse = dI xs.reverse := List.map_reverse.symm
theorem Zg4 (xs : List Int) (o : Bool) : ZbE.run [Ls o xs] = .ok (Ls true xs.reverse, [Ls o xs]) := by
 rw [show ZbE.run = Zh C0 1 1 ZeL from rfl]
 rw [runA (show [Ls o xs].length = 1 from rfl)]
 unfold ZeL
 simp only [List.replicate, Nat.reduceSub]
 cases o <;> (simp_all [Z3, ZiE]) <;> rfl
theorem ZiF (xs : List Int) (n : Nat) : cutD (dI xs) none (some (n : Int)) = dI (xs.take n) := by
 rw [Zfw]
 unfold cutI
 rw [HT.Zfo]
 show dI ((xs.drop 0).take (min n xs.length - 0)) = _
 rw [List.drop_zero, Nat.sub_zero]
 congr 1
 by_cases h : n <= xs.length
 . rw [Nat.min_eq_left h]
 . (rw [Nat.min_eq_right (by omega), List.take_of_length_le (Nat.le_refl _), List.take_of_length_le (by omega)])
theorem Znx (n : Nat) (t : Int) (st sp : List Int) (hn : n = 4 \/ n = 6) (h1 : st.length = n) (h2 : sp.length = n + 1) (h3 : ∀ x ∈ st, 1 <= x /\ x <= 4) (h4 : ∀ x ∈ sp, 1 <= x /\ x <= 4) (h5 : st.sum = t) (h6 : (sp.take n).sum = t) (h7 : sp.reverse.take n ≠ st) :
 ZcY.run [I n, I t, Ls true st, Ls true sp] = .ok (.sc (.bl true), [I n, I t, Ls true st, Ls true sp]) := by
 rw [show ZcY.run = Zh C0 4 4 Zd0 from rfl]
 rw [runA (show [I n, I t, Ls true st, Ls true sp].length = 4 from rfl)]
 unfold Zd0
 simp only [List.replicate, Nat.reduceSub]
 have l1 : ZS.lend = true := rfl
 have l2 : Zbm.lend = true := rfl
 have l3 : ZbE.lend = true := rfl
 have r1 := Zj7 n st true h1 (by omega) h3
 have r2 := Zj7 (n + 1) sp true h2 (by omega) h4
 rw [show ((n + 1 : Nat) : Int) = (n : Int) + 1 by omega] at r2
 have hin : Zc6 .NotIn (.sc (.int (n : Int))) (.nd .ftp [D.sc (.int 4), D.sc (.int 6)]) = some false := by
  rcases hn with rfl | rfl <;> rfl
 have c1 := ZiF sp n
 have c2 := ZiF sp.reverse n
 have s1 := Zky st
 have s2 := Zky (sp.take n)
 rw [h5] at s1
 rw [h6] at s2
 have e1 := ZoY (sp.reverse.take n) st
 rw [decide_eq_false h7] at e1
 (simp_all [l1, l2, l3, Zhi, hin, r1, r2, Z3, c1, c2, s1, s2, Zg4, e1]) <;> rfl
theorem Zou (c t m : Int) (hm : 0 < m) : ∃ r, 0 <= r /\ r < m /\ Zd5.run [I c, I t, I m] = .ok (I r, [I c, I t, I m]) := by
 have e1 : ∀ a : Int, binW .Mod (.sc (.int a)) (.sc (.int 2305843009213693951)) = some (.sc (.int (a % 2305843009213693951))) := fun a => ZbL _ _ (by decide)
 have e2 : ∀ a : Int, binW .Mult (.sc (.int (a % 2305843009213693951 + 977))) (.sc (.int (2 * t + 30011))) = some (.sc (.int ((a % 2305843009213693951 + 977) * (2 * t + 30011)))) := fun a => ZbK _ _ (.inl (by omega))
 have e3 : binW .Mult (.sc (.int 2)) (.sc (.int t)) = some (.sc (.int (2 * t))) := ZbK _ _ (.inl (by decide))
 have e4 : ∀ a : Int, binW .FloorDiv (.sc (.int a)) (.sc (.int 65537)) = some (.sc (.int (a / 65537))) := fun a => Zfl _ _ (by decide)
 have e5 : ∀ a : Int, binW .Mod (.sc (.int a)) (.sc (.int 65537)) = some (.sc (.int (a % 65537))) := fun a => ZbL _ _ (by decide)
 have e6 : ∀ a : Int, binW .Mult (.sc (.int (a % 65537))) (.sc (.int (t + 5))) = some (.sc (.int (a % 65537 * (t + 5)))) := fun a => ZbK _ _ (.inl (by omega))
 have e7 : ∀ a : Int, binW .Mod (.sc (.int a)) (.sc (.int 1000003)) = some (.sc (.int (a % 1000003))) := fun a => ZbL _ _ (by decide)
 have e8 : ∀ a : Int, binW .Mult (.sc (.int (a % 1000003))) (.sc (.int 1000003)) = some (.sc (.int (a % 1000003 * 1000003))) := fun a => ZbK _ _ (.inr (by decide))
 have e9 : ∀ a : Int, binW .FloorDiv (.sc (.int a)) (.sc (.int 97)) = some (.sc (.int (a / 97))) := fun a => Zfl _ _ (by decide)
 show ∃ r, 0 <= r /\ r < m /\ Zh C0 3 4 ZcP [I c, I t, I m] = _
 rw [runA (show [I c, I t, I m].length = 3 from rfl)]
 unfold ZcP
 simp only [List.replicate, Nat.reduceSub]
 simp_all [e1, e2, e3, e4, e5, e6, e7, e8, e9, ZbL _ _ hm]
 exact ⟨_, Int.emod_nonneg _ (by omega), Int.emod_lt_of_pos _ hm, rfl⟩
theorem Zg5 (c : Int) : ∃ n, Zao.run [I c] = .ok (D.node .lst true [I c, I n, I 0], [I c]) := by
 show ∃ n, Zh C0 1 1 ZbW [I c] = _
 rw [runA (show [I c].length = 1 from rfl)]
 unfold ZbW
 simp only [List.replicate, Nat.reduceSub]
 have e1 : ∀ a : Int, binW .FloorDiv (.sc (.int a)) (.sc (.int 2)) = some (.sc (.int (a / 2))) := fun a => Zfl _ _ (by decide)
 have hz : (3 : Nat) <= sizeLine := by rw [szl]; decide
 simp_all [e1]
 rw [Zbx _ (by simpa using hz)]
 walk_at "ev"
 exact ⟨_, rfl⟩
theorem ZdJ (c n t m : Int) (hm : 0 < m) (h2 : m < 18446744073709551616) : ∃ r n' t', 0 <= r /\ r < m /\ Z7.run [D.node .lst true [I c, I n, I t], I m] = .ok (I r, [D.node .lst true [I c, I n', I t'], I m]) := by
 obtain ⟨r, hr1, hr2, hr⟩ := Zou c t m hm
 show ∃ r n' t', 0 <= r /\ r < m /\ Zh C0 2 5 ZcQ [D.node .lst true [I c, I n, I t], I m] = _
 rw [runA (show [D.node .lst true [I c, I n, I t], I m].length = 2 from rfl)]
 unfold ZcQ
 simp only [List.replicate, Nat.reduceSub]
 have l1 : Zd5.lend = true := rfl
 have e1 : ∀ a : Int, binW .FloorDiv (.sc (.int a)) (.sc (.int m)) = some (.sc (.int (a / m))) := fun a => Zfl _ _ ⟨hm, h2⟩
 have e2 : ∀ a : Int, binW .Mod (.sc (.int a)) (.sc (.int 2)) = some (.sc (.int (a % 2))) := fun a => ZbL _ _ (by decide)
 have i1 : ixN' 3 1 = some 1 := rfl
 have i2 : ixN' 3 2 = some 2 := rfl
 have s1 : ∀ (i : Nat) (δ : List D) (d a b e : D), mdR i δ (Zgr (.sc (.int 1)) d) (some (.node .lst true [a, b, e])) = .ok (.sc .non, δ.set i (.node .lst true [a, d, e])) := fun i δ d a b e => Zks i δ d _ 1 1 rfl
 have s2 : ∀ (i : Nat) (δ : List D) (d a b e : D), mdR i δ (Zgr (.sc (.int 2)) d) (some (.node .lst true [a, b, e])) = .ok (.sc .non, δ.set i (.node .lst true [a, b, d])) := fun i δ d a b e => Zks i δ d _ 2 2 rfl
 by_cases h : c % 2 = 1
 . by_cases hn : 0 < n
   . simp_all [e1, e2, s1, s2, h, hn, V.int.injEq, ZbL _ _ hm]
     exact ⟨_, _, _, Int.emod_nonneg _ (by omega), Int.emod_lt_of_pos _ hm, rfl⟩
   . simp_all [e1, e2, s1, s2, h, hn, V.int.injEq, ZbL _ _ hm, l1, hr]
     exact ⟨_, _, _, hr1, hr2, rfl⟩
 . simp_all [e1, e2, s1, s2, h, V.int.injEq, ZbL _ _ hm, l1, hr]
   exact ⟨_, _, _, hr1, hr2, rfl⟩
noncomputable def down : Nat -> List Int
 | 0 => []
 | n + 1 => (n : Int) :: down n
theorem ZuO (n : Int) : bfW .max [.sc (.int 1), .sc (.int n)] = some (.sc (.int (if n > 1 then n else 1))) := (rfl)
theorem ZuP (n : Int) : bfW .min [.sc (.int 4), .sc (.int n)] = some (.sc (.int (if n < 4 then n else 4))) := (rfl)
theorem Zqj (h3 : lk 3 = false) (h4 : lk 4 = false) (h5 : lk 5 = false) (h6 : lk 6 = false) (h7 : lk 7 = false) (h8 : lk 8 = false) (p t : D) : ∀ (n : Nat) (c m k : Int) (fd : List Int) (r : Int) (a5 a6 a7 a8 : D), fd.length + n <= 100 -> (n : Int) <= r -> r <= 4 * n -> ∃ (xs : List Int) (m' k' : Int) (a5' a6' a7' a8' : D), xs.length = n /\ (∀ x ∈ xs, 1 <= x /\ x <= 4) /\ xs.sum = r /\
 forL (asgT lk (.name 5)) (exs ⟨lk, fok, fuel⟩ [.asg 6 (.bf .max [.k (.int 1), .bin .Sub (.v 4) (.bin .Mult (.k (.int 4)) (.v 5))]), .asg 7 (.bf .min [.k (.int 4), .bin .Sub (.v 4) (.v 5)]), .asg 8 (.bin .Add (.v 6) (.call Z7 [.v 0, .bin .Add (.bin .Sub (.v 7) (.v 6)) (.k (.int 1))])), .ex (.mut .append 3 [] [.v 8]), .asg 4 (.bin .Sub (.v 4) (.v 8))]) (dI (down n)) [D.node .lst true [I c, I m, I k], p, t, Ls true fd, I r, a5, a6, a7, a8]
  = .ok (.nx, [D.node .lst true [I c, I m', I k'], p, t, Ls true (fd ++ xs), I 0, a5', a6', a7', a8']) := by
 intro n
 induction n with
 | zero =>
  intro c m k fd r a5 a6 a7 a8 _ h1 h2
  obtain rfl : r = 0 := by omega
  exact ⟨[], m, k, a5, a6, a7, a8, rfl, fun x h => by simp at h, rfl, by rw [List.append_nil]; rfl⟩
 | succ n ih =>
  intro c m k fd r a5 a6 a7 a8 hl h1 h2
  have hlow : ∃ low : Int, (if r - 4 * (n : Int) > 1 then r - 4 * (n : Int) else 1) = low /\ 1 <= low /\ low <= 4 /\ r - 4 * n <= low /\ low <= r - n := by
   refine ⟨_, rfl, ?_⟩
   split <;> omega
  have hhigh : ∃ high : Int, (if r - (n : Int) < 4 then r - (n : Int) else 4) = high /\ high <= 4 /\ high <= r - n /\ (high = 4 \/ high = r - n) := by
   refine ⟨_, rfl, ?_⟩
   split <;> omega
  obtain ⟨low, el, l1, l2, l3, l4⟩ := hlow
  obtain ⟨high, eh, q1, q2, q3⟩ := hhigh
  obtain ⟨w, m1, k1, w1, w2, hw⟩ := ZdJ c m k (high - low + 1) (by omega) (by omega)
  obtain ⟨xs, m', k', a5', a6', a7', a8', e1, e2, e3, ih⟩ := ih c m1 k1 (fd ++ [low + w]) (r - (low + w)) (I n) (I low) (I high) (I (low + w)) (by rw [List.length_append, List.length_singleton]; omega) (by omega) (by omega)
  refine ⟨(low + w) :: xs, m', k', a5', a6', a7', a8', by rw [List.length_cons, e1], fun x hx => ?_, by rw [List.sum_cons, e3]; omega, ?_⟩
  . rcases List.mem_cons.mp hx with rfl | hx
    . omega
    . exact e2 x hx
  have mu : binW .Mult (.sc (.int 4)) (.sc (.int (n : Int))) = some (.sc (.int (4 * n))) := ZbK _ _ (.inl (by decide))
  have ln : Z7.lend = true := rfl
  have ap : ∀ (δ : List D) (u : Int), mdR 3 δ (appD (.sc (.int u))) (some (.node .lst true (dI fd))) = .ok (.sc .non, δ.set 3 (.node .lst true (dI (fd ++ [u])))) := fun δ u => by
   rw [ZgR 3 δ _ _ (by rw [ZK, szl]; omega), ZaW]
   rfl
  rw [show fd ++ (low + w) :: xs = fd ++ [low + w] ++ xs by rw [List.append_assoc]; rfl, <- ih, down, Zai, Zc7]
  simp_all [h3, h4, h5, h6, h7, h8, mu, ZuO, ZuP, el, eh, ln, hw, ap]
theorem ZiG (n : Nat) (hn : n = 4 \/ n = 6) (c m k t : Int) (h1 : (n : Int) <= t) (h2 : t <= 4 * n) : ∃ (xs : List Int) (m' k' : Int), xs.length = n /\ (∀ x ∈ xs, 1 <= x /\ x <= 4) /\ xs.sum = t /\ ZaR.run [D.node .lst true [I c, I m, I k], I n, I t] = .ok (Ls true xs, [D.node .lst true [I c, I m', I k'], I n, I t]) := by
 obtain ⟨xs, m', k', a5, a6, a7, a8, e1, e2, e3, hf⟩ := Zqj (fun j => decide (j < 3) || walked [.bin .Sub (.v 1) (.k (.int 1)), .neg (.k (.int 1)), .neg (.k (.int 1))] j) (fun _ _ => false) 0 rfl rfl rfl rfl rfl rfl (I n) (I t) n c m k [] t .hole .hole .hole .hole (by simp; omega) h1 h2
 refine ⟨xs, m', k', e1, e2, e3, ?_⟩
 rw [show ZaR.run = Zh C0 3 9 ZbX from rfl]
 rw [runA (show [D.node .lst true [I c, I m, I k], I n, I t].length = 3 from rfl)]
 unfold ZbX
 simp only [List.replicate, Nat.reduceSub]
 simp only [walked, Bool.or_false, Ls, Zkx, List.nil_append] at hf
 have hn0 : newL [] = some (.node .lst true []) := Zbx _ (by simp)
 have hit : itW .rng3 [.sc (.int ((n : Int) - 1)), .sc (.int (-1)), .sc (.int (-1))] = some (dI (down n)) := by
  rcases hn with rfl | rfl <;> kernel_rfl
 (simp_all [hn0, hit, hf]) <;> rfl
noncomputable def pat : Nat -> Int -> List (List Int)
 | 0, t => if t = 0 then [[]] else []
 | n + 1, t => if (n : Int) + 1 <= t /\ t <= 4 * ((n : Int) + 1) then ([1, 2, 3, 4] : List Int).flatMap (fun w => (pat n (t - w)).map (w :: ·)) else []
theorem Zif : ∀ (n : Nat) (t : Int), ∀ l ∈ pat n t, l.length = n
 | 0, t, l, h => by
  unfold pat at h
  split at h
  . rw [List.mem_singleton] at h; rw [h]; rfl
  . simp at h
 | n + 1, t, l, h => by
  unfold pat at h
  split at h
  . obtain ⟨w, _, h⟩ := List.mem_flatMap.mp h
    obtain ⟨l', h', rfl⟩ := List.mem_map.mp h
    rw [List.length_cons, Zif n _ l' h']
  . simp at h
theorem Zh3 : ∀ (n : Nat) (t : Int), (pat n t).length <= 4 ^ n
 | 0, t => by
  unfold pat
  split <;> simp
 | n + 1, t => by
  unfold pat
  split
  . have h := fun u => Zh3 n u
    simp only [List.flatMap_cons, List.flatMap_nil, List.length_append, List.length_map, List.length_nil]
    have h1 := h (t - 1)
    have h2 := h (t - 2)
    have h3 := h (t - 3)
    have h4 := h (t - 4)
    rw [Nat.pow_succ]
    omega
  . simp
theorem Zqk (h4 : lk 4 = false) (x0 x1 : D) (w : Int) : ∀ (ls acc : List (List Int)) (a : D), acc.length + ls.length <= 100000 -> (∀ l ∈ ls, l.length <= 100) -> ∃ a',
 forL (asgT lk (.name 4)) (exs ⟨lk, fok, fuel⟩ [.ex (.mut .append 2 [] [.bin .Add (.lst [.v 3]) (.v 4)])]) (dL false ls) [x0, x1, .node .lst true (dL true acc), I w, a] = .ok (.nx, [x0, x1, .node .lst true (dL true (acc ++ ls.map (w :: ·))), I w, a']) := by
 intro ls
 induction ls with
 | nil => exact fun acc a _ _ => ⟨a, by rw [List.map_nil, List.append_nil]; rfl⟩
 | cons l ls ih =>
  intro acc a hl hx
  rw [List.length_cons] at hl
  obtain ⟨a', ih⟩ := ih (acc ++ [w :: l]) (Ls false l) (by rw [List.length_append, List.length_singleton]; omega) fun y hy => hx y (List.mem_cons_of_mem _ hy)
  refine ⟨a', ?_⟩
  have h1 := hx l List.mem_cons_self
  have hn : newL [D.sc (.int w)] = some (.node .lst true [D.sc (.int w)]) := Zbx _ (by rw [szl]; simp)
  have hc : binW .Add (.nd .lst [D.sc (.int w)]) (.nd .lst (dI l)) = some (Ls true (w :: l)) := Zmh _ _ (by rw [List.length_append, ZK, szl]; show 1 + l.length <= _; omega)
  have ap : ∀ δ : List D, mdR 2 δ (appD (Ls true (w :: l))) (some (.node .lst true (dL true acc))) = .ok (.sc .non, δ.set 2 (.node .lst true (dL true (acc ++ [w :: l])))) := fun δ => by
   rw [ZgR 2 δ _ _ (by rw [Zhh, szl]; omega), Znw]
   rfl
  have e : acc ++ List.map (w :: ·) (l :: ls) = acc ++ [w :: l] ++ ls.map (w :: ·) := by rw [List.append_assoc]; rfl
  rw [e, <- ih, Zh2, Zc7]
  generalize Ls true (w :: l) = Z at hc ap
  simp_all [h4, hn, hc, ap]
theorem Zov (h3 : lk 3 = false) (h4 : lk 4 = false) (fi : FI) (hf : fi.lend = true) (n1 t : Int) (P : Int -> List (List Int)) (hP : ∀ w, fi.run [I (n1 - 1), I (t - w)] = .ok (.node .lst true (dL true (P w)), [I (n1 - 1), I (t - w)])) (hp1 : ∀ w, (P w).length <= 4096) (hp2 : ∀ w, ∀ l ∈ P w, l.length <= 100) : ∀ (ws : List Int) (acc : List (List Int)) (a b : D), acc.length + 4096 * ws.length <= 100000 -> ∃ a' b',
 forL (asgT lk (.name 3)) (exs ⟨lk, fok, fuel⟩ [.for_ (.name 4) .val [.call fi [.bin .Sub (.v 0) (.k (.int 1)), .bin .Sub (.v 1) (.v 3)]] [.ex (.mut .append 2 [] [.bin .Add (.lst [.v 3]) (.v 4)])]]) (dI ws) [I n1, I t, .node .lst true (dL true acc), a, b]
  = .ok (.nx, [I n1, I t, .node .lst true (dL true (acc ++ ws.flatMap fun w => (P w).map (w :: ·))), a', b']) := by
 intro ws
 induction ws with
 | nil => exact fun acc a b _ => ⟨a, b, by rw [List.flatMap_nil, List.append_nil]; rfl⟩
 | cons w ws ih =>
  intro acc a b hl
  rw [List.length_cons] at hl
  have q := hp1 w
  obtain ⟨b1, hi⟩ := Zqk (fun j => lk j || walked [.call fi [.bin .Sub (.v 0) (.k (.int 1)), .bin .Sub (.v 1) (.v 3)]] j) fok fuel (by simp [walked, h4]) (I n1) (I t) w (P w) acc b (by omega) (hp2 w)
  obtain ⟨a', b', ih⟩ := ih (acc ++ (P w).map (w :: ·)) (I w) b1 (by rw [List.length_append, List.length_map]; omega)
  refine ⟨a', b', ?_⟩
  simp only [walked, Bool.or_false] at hi
  have hs := Za7 true (P w)
  have hr := hP w
  rw [List.flatMap_cons, <- List.append_assoc, <- ih, Zai, Zc7]
  simp_all [h3, hf, hr, hs, hi]
theorem ZlB (k : Nat) : ∀ (n : Nat) (t : Int), n <= 6 -> ZG (n + k + 1) [I n, I t] = .ok (.node .lst true (dL true (pat n t)), [I n, I t]) := by
 intro n
 have hn0 : newL [] = some (.node .lst true []) := Zbx _ (by simp)
 have hn1 : newL [D.node .lst true []] = some (.node .lst true [D.node .lst true []]) := Zbx _ (by rw [szl]; simp)
 induction n with
 | zero =>
  intro t _
  rw [show ZG (0 + k + 1) = Zh C0 2 5 (Zbi ⟨true, ZG (0 + k)⟩) from rfl]
  rw [runA (show [I ((0 : Nat) : Int), I t].length = 2 from rfl)]
  unfold Zbi pat
  simp only [List.replicate, Nat.reduceSub]
  have mu : binW .Mult (.sc (.int 4)) (.sc (.int ((0 : Nat) : Int))) = some (.sc (.int 0)) := ZbK _ _ (.inl (by decide))
  have e0 : (((0 : Nat) : Int) = 0) = True := by simp
  by_cases h1 : ((0 : Nat) : Int) <= t
  . by_cases h2 : t <= 0
    . obtain rfl : t = 0 := by omega
      (simp_all [mu, h1, h2, hn0, hn1, V.int.injEq, e0]) <;> rfl
    . rw [if_neg (by omega)]
      (simp_all [mu, h1, h2, hn0]) <;> rfl
  . rw [if_neg (by omega)]
    (simp_all [mu, h1, hn0]) <;> rfl
 | succ n ih =>
  intro t hn
  rw [show n + 1 + k + 1 = n + k + 1 + 1 by omega, show ZG (n + k + 1 + 1) = Zh C0 2 5 (Zbi ⟨true, ZG (n + k + 1)⟩) from rfl]
  rw [runA (show [I ((n + 1 : Nat) : Int), I t].length = 2 from rfl)]
  unfold Zbi pat
  simp only [List.replicate, Nat.reduceSub]
  rw [show ((n + 1 : Nat) : Int) = (n : Int) + 1 by omega]
  have mu : binW .Mult (.sc (.int 4)) (.sc (.int ((n : Int) + 1))) = some (.sc (.int (4 * ((n : Int) + 1)))) := ZbK _ _ (.inl (by decide))
  have ne : ¬ (n : Int) + 1 = 0 := by omega
  have sb : (n : Int) + 1 - 1 = n := by omega
  by_cases h1 : (n : Int) + 1 <= t
  . by_cases h2 : t <= 4 * ((n : Int) + 1)
    . rw [if_pos ⟨h1, h2⟩]
      have pw : 4 ^ n <= 4096 := Nat.le_trans (Nat.pow_le_pow_right (by decide) (show n <= 6 by omega)) (by decide)
      obtain ⟨a', b', hf⟩ := Zov (fun j => decide (j < 2) || walked [.k (.int 1), .bin .Add (.k (.int 4)) (.k (.int 1))] j) (fun _ _ => false) 0 rfl rfl ⟨true, ZG (n + k + 1)⟩ rfl ((n : Int) + 1) t (fun w => pat n (t - w)) (fun w => by rw [sb]; exact ih (t - w) (by omega)) (fun w => Nat.le_trans (Zh3 n _) pw) (fun w l hl => by rw [Zif n _ l hl]; omega) [1, 2, 3, 4] [] .hole .hole (by decide)
      simp only [walked, Bool.or_false, List.nil_append, dL, List.map_nil] at hf
      have hit : itW .rng2 [.sc (.int 1), .sc (.int (4 + 1))] = some (dI [1, 2, 3, 4]) := Zmj 1 5 (by decide)
      generalize ([1, 2, 3, 4] : List Int) = ws at hf hit
      generalize (ws.flatMap fun w => (pat n (t - w)).map (w :: ·)) = R at hf
      (simp_all [mu, h1, h2, hn0, V.int.injEq, ne, hit, hf]) <;> rfl
    . rw [if_neg (by omega)]
      (simp_all [mu, h1, h2, hn0]) <;> rfl
  . rw [if_neg (by omega)]
    (simp_all [mu, h1, hn0]) <;> rfl
noncomputable def lexL : Nat -> List (List Int)
 | 0 => [[]]
 | n + 1 => ([1, 2, 3, 4] : List Int).flatMap fun w => (lexL n).map (w :: ·)
theorem ZlC : ∀ (n : Nat), ∀ l ∈ lexL n, (n : Int) <= l.sum /\ l.sum <= 4 * n
 | 0, l, h => by
  rw [lexL, List.mem_singleton] at h
  subst h
  decide
 | n + 1, l, h => by
  rw [lexL] at h
  obtain ⟨w, hw, h⟩ := List.mem_flatMap.mp h
  obtain ⟨l', h', rfl⟩ := List.mem_map.mp h
  have := ZlC n l' h'
  rw [List.sum_cons]
  simp only [List.mem_cons, List.not_mem_nil, or_false] at hw
  omega
theorem Zjr : ∀ (n : Nat) (t : Int), pat n t = (lexL n).filter fun l => decide (l.sum = t)
 | 0, t => by
  unfold pat
  by_cases h : t = 0
  . subst h; rfl
  . rw [if_neg h, lexL, List.filter_cons_of_neg (fun q => h (of_decide_eq_true q).symm), List.filter_nil]
 | n + 1, t => by
  unfold pat
  by_cases h : (n : Int) + 1 <= t /\ t <= 4 * ((n : Int) + 1)
  . rw [if_pos h, lexL, List.filter_flatMap]
    congr 1
    funext w
    rw [Zjr n, List.filter_map]
    congr 2
    funext l
    show decide (l.sum = t - w) = decide ((w :: l).sum = t)
    rw [List.sum_cons]
    by_cases q : l.sum = t - w
    . rw [decide_eq_true q, decide_eq_true (by omega)]
    . rw [decide_eq_false q, decide_eq_false (by omega)]
  . rw [if_neg h, eq_comm, List.filter_eq_nil_iff]
    intro l hl
    have := ZlC (n + 1) l hl
    rw [decide_eq_true_eq]
    omega
theorem ZiH (w : Int) : ∀ ls : List (List Int), ls.Nodup -> (ls.map (w :: ·)).Nodup := fun ls h => by
 unfold List.Nodup at h ⊢
 rw [List.pairwise_map]
 exact h.imp fun q z => q (List.cons.inj z).2
theorem Zh4 (v w : Int) (h : v ≠ w) (xs ys : List (List Int)) : ∀ a ∈ xs.map (v :: ·), ∀ b ∈ ys.map (w :: ·), a ≠ b := fun a ha b hb z => by
 obtain ⟨l, _, rfl⟩ := List.mem_map.mp ha
 obtain ⟨m, _, rfl⟩ := List.mem_map.mp hb
 exact h (List.cons.inj z).1
theorem Zny : ∀ n : Nat, (lexL n).Nodup
 | 0 => by simp [lexL]
 | n + 1 => by
  have ih := Zny n
  rw [lexL]
  simp only [List.flatMap_cons, List.flatMap_nil, List.append_nil]
  rw [List.nodup_append]
  refine ⟨ZiH 1 _ ih, ?_, fun a ha b hb => ?_⟩
  . rw [List.nodup_append]
    refine ⟨ZiH 2 _ ih, ?_, fun a ha b hb => ?_⟩
    . rw [List.nodup_append]
      exact ⟨ZiH 3 _ ih, ZiH 4 _ ih, Zh4 3 4 (by decide) _ _⟩
    . (rcases List.mem_append.mp hb with hb | hb)
      . exact Zh4 2 3 (by decide) _ _ a ha b hb
      . exact Zh4 2 4 (by decide) _ _ a ha b hb
  . (rcases List.mem_append.mp hb with hb | hb)
    . exact Zh4 1 2 (by decide) _ _ a ha b hb
    . (rcases List.mem_append.mp hb with hb | hb)
      . exact Zh4 1 3 (by decide) _ _ a ha b hb
      . exact Zh4 1 4 (by decide) _ _ a ha b hb
theorem Znz (n : Nat) (t : Int) : (pat n t).Nodup := by
 rw [Zjr]
 exact (Zny n).filter _
theorem Zht (ps : List (List Int)) : ∀ (j : Nat) (a : Int), ps.Nodup -> (h : j < ps.length) -> Zce ((ps[j]).map Sum.inl) (ps.map fun l => l.map Sum.inl) (dI (rngI a ps.length)) = some (I (a + j)) := by
 induction ps with
 | nil => intro j a _ h; simp at h
 | cons p ps ih =>
  intro j a hn h
  rw [List.map_cons, List.length_cons, rngI, Zai]
  unfold Zce
  have hinj : ∀ x y : List Int, x.map (Sum.inl : Int -> Key) = y.map Sum.inl -> x = y := fun x y q => by
   have := congrArg (List.map fun k : Key => match k with | .inl i => i | .inr _ => 0) q
   simpa [List.map_map, Function.comp_def] using this
  cases j with
  | zero =>
   rw [if_pos (show List.map Sum.inl p = List.map Sum.inl (p :: ps)[0] from rfl)]
   show some (I a) = some (I (a + ((0 : Nat) : Int)))
   rw [show a + ((0 : Nat) : Int) = a by omega]
  | succ j =>
   have hj : j < ps.length := by simpa using h
   rw [if_neg fun q => by
    have := hinj _ _ q
    have hm : ps[j] ∈ ps := List.getElem_mem hj
    rw [List.nodup_cons] at hn
    exact hn.1 (by rw [this]; exact hm)]
   have := ih j (a + 1) (List.nodup_cons.mp hn).2 hj
   rw [show (p :: ps)[j + 1] = ps[j] from rfl, this, show a + 1 + (j : Int) = a + ((j + 1 : Nat) : Int) by omega]
theorem Zql (p x : Int) (h0 : 0 <= x) (h1 : x < p) : Zc1.run [I p, I x] = .ok (.sc (.bl true), [I p, I x]) := by
 show Zh C0 2 2 ZcG [I p, I x] = _
 rw [runA (show [I p, I x].length = 2 from rfl)]
 unfold ZcG
 simp only [List.replicate, Nat.reduceSub]
 have l1 : ZS.lend = true := rfl
 simp_all [l1, Zhi, Zl1, h0, h1]
 rfl
theorem Zmu (h2 : lk 2 = false) (h3 : lk 3 = false) (p : Int) (X : D) : ∀ (xs : List Int) (c : Int) (a b : D), (∀ x ∈ xs, 0 <= x /\ x < p) -> ∃ a' b',
 forL (asgT lk (.tup [2, 3])) (exs ⟨lk, fok, fuel⟩ [.iff (.nt (.call Zc1 [.v 0, .v 3])) [.raise (.k .non)] []]) (Zcc c (dI xs)) [I p, X, a, b] = .ok (.nx, [I p, X, a', b']) := by
 intro xs
 induction xs with
 | nil => exact fun c a b _ => ⟨a, b, rfl⟩
 | cons x xs ih =>
  intro c a b hx
  obtain ⟨a', b', ih⟩ := ih (c + 1) (I c) (I x) fun y hy => hx y (List.mem_cons_of_mem _ hy)
  refine ⟨a', b', ?_⟩
  rw [<- ih, Zai, Zcc, Zc7]
  have hr := Zql p x (hx x List.mem_cons_self).1 (hx x List.mem_cons_self).2
  have l1 : Zc1.lend = true := rfl
  simp_all [h2, h3, Ziy, l1, hr]
theorem Zn0 (p : Int) (xs : List Int) (o : Bool) (hx : ∀ x ∈ xs, 0 <= x /\ x < p) : Zb6.run [I p, Ls o xs] = .ok (.sc .non, [I p, Ls o xs]) := by
 show Zh C0 2 4 Zbl [I p, Ls o xs] = _
 rw [runA (show [I p, Ls o xs].length = 2 from rfl)]
 unfold Zbl
 simp only [List.replicate, Nat.reduceSub]
 have hs := fun X => Zmu (fun j => decide (j < 2) || walked [.v 1, .k (.int 0)] j) (fun _ _ => false) 0 rfl rfl p X xs 0 .hole .hole hx
 simp only [walked, Bool.or_false] at hs
 cases o
 . obtain ⟨a', b', hs⟩ := hs (Ls false xs)
   simp_all [Z3, it_e _ 0 (by decide), hs]
   rfl
 . obtain ⟨a', b', hs⟩ := hs .hole
   simp_all [Z3, it_e _ 0 (by decide), hs]
   rfl
noncomputable abbrev FS : List Str := ["part_count", "widths_sum", "opening", "closing", "shapes", "symbols_by_shape"]
noncomputable abbrev Fo (C : Addr) (b : Bool) (p t : Int) (st sp : List Int) (ps : List (List Int)) (X : D) : D := .node (.ins C FS) true [I p, I t, Ls b st, Ls b sp, .node .lst false (dL false ps), X]
theorem ZjY (C : Addr) (f : Str) (h : f ∈ FS) : (CK C).fok C f = true := by
 show (decide (C = C) && _) = true
 simp only [decide_true, Bool.true_and, Bool.or_eq_true, beq_iff_eq]
 simp only [List.mem_cons, List.not_mem_nil, or_false] at h
 rcases h with rfl | rfl | rfl | rfl | rfl | rfl <;> simp
theorem Zh5 (C : Addr) (f : Str) (fs : List Str) (ds : List D) (x : D) (hf : f ∈ FS) (hl : Zgp f fs ds = some x) : fldW (CK C).fok f (.nd (.ins C fs) ds) = some x := by
 show (if (CK C).fok C f = true then Zgp f fs ds else none) = _
 rw [if_pos (ZjY C f hf), hl]
theorem Zgj (C : Addr) (i : Nat) (δ : List D) (f : Str) (hf : f ∈ FS) (d : D) (fs : List Str) (ds : List D) (hl : fs.length < 1000) : mdR i δ (putD (CK C).fok f d) (some (.node (.ins C fs) true ds)) = .ok (.sc .non, δ.set i (.node (.ins C (putN f fs)) true (putV f d fs ds))) := by
 have e : putD (CK C).fok f d (.ins C fs) ds = some (.sc .non, .ins C (putN f fs), putV f d fs ds) := by
  show (if fs.length < 1000 /\ (CK C).fok C f = true then some (D.sc .non, Kd.ins C (putN f fs), T.putV f d fs ds) else none) = _
  rw [if_pos ⟨hl, ZjY C f hf⟩]
 show (match putD (CK C).fok f d (.ins C fs) ds with | some (r, k', ds') => Rs.ok (r, δ.set i (.node k' true ds')) | none => .stuck) = _
 rw [e]
noncomputable abbrev kys (ps : List (List Int)) : List (List Key) := ps.map fun l => l.map Sum.inl
noncomputable abbrev Dk (b : Bool) (ps : List (List Int)) : D := .node (.dic (kys ps)) b (dI (rngI 0 ps.length))
noncomputable abbrev Fd (C : Addr) (b : Bool) (p t : Int) (st sp : List Int) (ps : List (List Int)) : D := Fo C b p t st sp ps (Dk b ps)
theorem Zj8 : ∀ (n : Nat) (a : Int), rngI a (n + 1) = rngI a n ++ [a + n]
 | 0, a => by rw [rngI, rngI]; show [a] = [a + ((0 : Nat) : Int)]; rw [show a + ((0 : Nat) : Int) = a by omega]
 | n + 1, a => by
  rw [rngI, Zj8 n (a + 1), rngI, List.cons_append, show a + 1 + (n : Int) = a + ((n + 1 : Nat) : Int) by omega]
theorem Zqm (dn : List (List Int)) (l : List Int) (h : l ∉ dn) : kPut (l.map Sum.inl) (kys dn) = kys (dn ++ [l]) /\ vPut (l.map Sum.inl) (I dn.length) (kys dn) (dI (rngI 0 dn.length)) = dI (rngI 0 (dn ++ [l]).length) := by
 have hinj : ∀ x y : List Int, x.map (Sum.inl : Int -> Key) = y.map Sum.inl -> x = y := fun x y q => by
  have := congrArg (List.map fun k : Key => match k with | .inl i => i | .inr _ => 0) q
  simpa [List.map_map, Function.comp_def] using this
 have e : ((kys dn).any fun j => decide (j = l.map Sum.inl)) = false := by
  rw [List.any_eq_false]
  intro k hk
  obtain ⟨m, hm, rfl⟩ := List.mem_map.mp hk
  rw [decide_eq_true_eq]
  exact fun q => h (by rw [<- hinj _ _ q]; exact hm)
 unfold kPut vPut
 rw [e, if_neg (by decide), if_neg (by decide), List.length_append, List.length_singleton, Zj8, ZaW]
 refine ⟨by rw [kys, kys, List.map_append]; rfl, ?_⟩
 rw [show (0 : Int) + (dn.length : Int) = dn.length by omega]
 rfl
theorem Zqn (C : Addr) (p t c : Int) (st sp l : List Int) (ps : List (List Int)) (ks : List (List Key)) (vs : List D) (x1 x2 x3 x4 : D) (h : vs.length < 16777216) :
 Zhq (CK C).fok 0 "symbols_by_shape" 6 5 [Fo C true p t st sp ps (.node (.dic ks) true vs), x1, x2, x3, x4, I c, Ls false l] = .ok (.nx, [Fo C true p t st sp ps (.node (.dic (kPut (l.map Sum.inl) ks)) true (vPut (l.map Sum.inl) (I c) ks vs)), x1, x2, x3, x4, I c, Ls false l]) := by
 unfold Zhq
 have e : idxF "symbols_by_shape" FS = some 5 := by decide
 have hz : vs.length < sizeLine := by rw [szl]; exact h
 simp only [List.getElem?_cons_zero, List.getElem?_cons_succ, ZjY C "symbols_by_shape" (by decide), e, ZeD, if_true, hz]
 rfl
theorem Zn1 (C : Addr) (lk : Nat -> Bool) (fuel : Nat) (h5 : lk 5 = false) (h6 : lk 6 = false) (p t : Int) (st sp : List Int) (ps : List (List Int)) (x1 x2 x3 x4 : D) : ∀ (ls dn : List (List Int)) (a b : D), (dn ++ ls).length <= 100000 -> (dn ++ ls).Nodup -> ∃ (a' b' : D),
 forL (asgT lk (.tup [5, 6])) (exs ⟨lk, (CK C).fok, fuel⟩ [.dput 0 "symbols_by_shape" 6 5]) (Zcc dn.length (dL false ls)) [Fo C true p t st sp ps (Dk true dn), x1, x2, x3, x4, a, b] = .ok (.nx, [Fo C true p t st sp ps (Dk true (dn ++ ls)), x1, x2, x3, x4, a', b']) := by
 intro ls
 induction ls with
 | nil => exact fun dn a b _ _ => ⟨a, b, by rw [List.append_nil]; rfl⟩
 | cons l ls ih =>
  intro dn a b hl hn
  have e : dn ++ l :: ls = dn ++ [l] ++ ls := by rw [List.append_assoc]; rfl
  have hnot : l ∉ dn := fun q => by
   rw [List.nodup_append] at hn
   exact hn.2.2 l q l List.mem_cons_self rfl
  rw [e] at hl hn
  obtain ⟨a', b', ih⟩ := ih (dn ++ [l]) (I dn.length) (Ls false l) hl hn
  refine ⟨a', b', ?_⟩
  obtain ⟨p1, p2⟩ := Zqm dn l hnot
  have hd := Zqn C p t dn.length st sp l ps (kys dn) (dI (rngI 0 dn.length)) x1 x2 x3 x4 (by rw [ZK, Zop]; rw [List.length_append, List.length_append] at hl; omega)
  rw [p1, p2] at hd
  rw [show ((dn ++ [l]).length : Int) = (dn.length : Int) + 1 by rw [List.length_append]; rfl] at ih
  rw [e, <- ih, Zh2, Zcc, Zc7]
  simp_all [h5, h6, Ziy, hd]
theorem Zow (n : Nat) (hn : n = 4 \/ n = 6) (t : Int) : Zct.run [I n, I t] = .ok (.node .lst true (dL true (pat n t)), [I n, I t]) := by
 show ZG 7 [I n, I t] = _
 rcases hn with rfl | rfl
 . exact ZlB 2 4 t (by decide)
 . exact ZlB 0 6 t (by decide)
theorem Zox (C : Addr) (n : Nat) (t : Int) (st sp : List Int) (hn : n = 4 \/ n = 6) (h1 : st.length = n) (h2 : sp.length = n + 1) (h3 : ∀ x ∈ st, 1 <= x /\ x <= 4) (h4 : ∀ x ∈ sp, 1 <= x /\ x <= 4) (h5 : st.sum = t) (h6 : (sp.take n).sum = t) (h7 : sp.reverse.take n ≠ st) :
 (Zaq C).run [.node (.ins C []) true [], I n, I t, Ls true st, Ls true sp] = .ok (.sc .non, [Fd C true n t st sp (pat n t), I n, I t, Ls true st, Ls true sp]) := by
 have r1 := Znx n t st sp hn h1 h2 h3 h4 h5 h6 h7
 have r2 := Zow n hn t
 have hpl : (pat n t).length <= 4096 := Nat.le_trans (Zh3 n t) (by rcases hn with rfl | rfl <;> decide)
 obtain ⟨a', b', hf⟩ := Zn1 C (fun j => decide (j < 5) || walked [.fldV 0 "shapes", .k (.int 0)] j) (CK C).fuel rfl rfl n t st sp (pat n t) (I n) (I t) (Ls true st) (Ls true sp) (pat n t) [] .hole .hole (by rw [List.nil_append]; omega) (by rw [List.nil_append]; exact Znz n t)
 rw [List.nil_append, show (([] : List (List Int)).length : Int) = 0 from rfl] at hf
 simp only [walked, Bool.or_false] at hf
 simp only [Dk, kys, List.map_nil, List.length_nil, rngI] at hf ⊢
 generalize pat n t = ps at r2 hf hpl
 rw [show (Zaq C).run = Zh (CK C) 5 7 (ZaX C) from rfl]
 rw [runA (show [D.node (.ins C []) true [], I n, I t, Ls true st, Ls true sp].length = 5 from rfl)]
 unfold ZaX
 simp only [List.replicate, Nat.reduceSub]
 have l1 : ZcY.lend = true := rfl
 have l2 : Zct.lend = true := rfl
 have p1 := fun (δ : List D) (d : D) => Zgj C 0 δ "part_count" (by decide) d [] [] (by decide)
 have p2 := fun (δ : List D) (a d : D) => Zgj C 0 δ "widths_sum" (by decide) d ["part_count"] [a] (by decide)
 have p3 := fun (δ : List D) (a b d : D) => Zgj C 0 δ "opening" (by decide) d ["part_count", "widths_sum"] [a, b] (by decide)
 have p4 := fun (δ : List D) (a b c d : D) => Zgj C 0 δ "closing" (by decide) d ["part_count", "widths_sum", "opening"] [a, b, c] (by decide)
 have p5 := fun (δ : List D) (a b c e d : D) => Zgj C 0 δ "shapes" (by decide) d ["part_count", "widths_sum", "opening", "closing"] [a, b, c, e] (by decide)
 have p6 := fun (δ : List D) (a b c e f d : D) => Zgj C 0 δ "symbols_by_shape" (by decide) d ["part_count", "widths_sum", "opening", "closing", "shapes"] [a, b, c, e, f] (by decide)
 have e1 : putN "part_count" [] = ([Str.ofString "part_count"] : List Str) := rfl
 have e2 : putN "widths_sum" ["part_count"] = (["part_count", "widths_sum"] : List Str) := by decide
 have e3 : putN "opening" ["part_count", "widths_sum"] = (["part_count", "widths_sum", "opening"] : List Str) := by decide
 have e4 : putN "closing" ["part_count", "widths_sum", "opening"] = (["part_count", "widths_sum", "opening", "closing"] : List Str) := by decide
 have e5 : putN "shapes" ["part_count", "widths_sum", "opening", "closing"] = (["part_count", "widths_sum", "opening", "closing", "shapes"] : List Str) := by decide
 have e6 : putN "symbols_by_shape" ["part_count", "widths_sum", "opening", "closing", "shapes"] = FS := by decide
 have v1 : ∀ d : D, putV "part_count" d [] [] = [d] := fun d => rfl
 have v2 : ∀ a d : D, putV "widths_sum" d ["part_count"] [a] = [a, d] := fun a d => rfl
 have v3 : ∀ a b d : D, putV "opening" d ["part_count", "widths_sum"] [a, b] = [a, b, d] := fun a b d => rfl
 have v4 : ∀ a b c d : D, putV "closing" d ["part_count", "widths_sum", "opening"] [a, b, c] = [a, b, c, d] := fun a b c d => rfl
 have v5 : ∀ a b c e d : D, putV "shapes" d ["part_count", "widths_sum", "opening", "closing"] [a, b, c, e] = [a, b, c, e, d] := fun a b c e d => rfl
 have v6 : ∀ a b c e f d : D, putV "symbols_by_shape" d ["part_count", "widths_sum", "opening", "closing", "shapes"] [a, b, c, e, f] = [a, b, c, e, f, d] := fun a b c e f d => rfl
 have fs : ∀ (a b c e X x1 x2 x3 x4 x5 x6 : D), fldS (CK C).fok 0 "shapes" [.node (.ins C FS) true [a, b, c, e, .node .lst true (dL true ps), X], x1, x2, x3, x4, x5, x6] = .ok (.node .lst false (dL false ps), [.node (.ins C FS) true [a, b, c, e, .node .lst false (dL false ps), X], x1, x2, x3, x4, x5, x6]) := fun a b c e X x1 x2 x3 x4 x5 x6 => by
  rw [ZpR _ 0 4 "shapes" _ C FS _ (.node .lst true (dL true ps)) rfl (ZjY C _ (by decide)) (by decide) rfl]
  show Rs.ok (D.node .lst false (shrL (dL true ps)), _) = _
  rw [show shr (D.node .lst true (dL true ps)) = D.node .lst false (shrL (dL true ps)) from rfl, Za7]
  rfl
 have sd := Za7 false ps
 have hit := it_e (dL false ps) 0 (by decide)
 (simp_all [l1, l2, r1, r2, p1, p2, p3, p4, p5, p6, e1, e2, e3, e4, e5, e6, v1, v2, v3, v4, v5, v6, Z3, fs, sd, hit, hf]) <;> rfl
theorem fl_1 (C : Addr) (a b c d e f : D) : fldW (CK C).fok "part_count" (.nd (.ins C FS) [a, b, c, d, e, f]) = some a := Zh5 C _ _ _ _ (by decide) rfl
theorem fl_3 (C : Addr) (a b c d e f : D) : fldW (CK C).fok "opening" (.nd (.ins C FS) [a, b, c, d, e, f]) = some c := Zh5 C _ _ _ _ (by decide) rfl
theorem fl_4 (C : Addr) (a b c d e f : D) : fldW (CK C).fok "closing" (.nd (.ins C FS) [a, b, c, d, e, f]) = some d := Zh5 C _ _ _ _ (by decide) rfl
theorem fl_5 (C : Addr) (a b c d e f : D) : fldW (CK C).fok "shapes" (.nd (.ins C FS) [a, b, c, d, e, f]) = some e := Zh5 C _ _ _ _ (by decide) rfl
theorem fl_6 (C : Addr) (a b c d e f : D) : fldW (CK C).fok "symbols_by_shape" (.nd (.ins C FS) [a, b, c, d, e, f]) = some f := Zh5 C _ _ _ _ (by decide) rfl
theorem Zqo (h0 : lk 0 = false) : ∀ (ls acc : List (List Int)) (a : D), ∃ a',
 Za4 (asgT lk (.name 0)) (tsts ⟨lk, fok, fuel⟩ []) (evb ⟨lk, fok, fuel⟩ (.bf .list [.v 0])).1 (dL false ls) (dL true acc) [a] = .ok (dL true (acc ++ ls), [a']) := by
 intro ls
 induction ls with
 | nil => exact fun acc a => ⟨a, by rw [List.append_nil]; rfl⟩
 | cons l ls ih =>
  intro acc a
  obtain ⟨a', ih⟩ := ih (acc ++ [l]) (Ls false l)
  refine ⟨a', ?_⟩
  have e : acc ++ l :: ls = acc ++ [l] ++ ls := by rw [List.append_assoc]; rfl
  rw [e, <- ih, Zh2, Zee, Znw]
  simp_all [h0]
theorem Zqp (fok : Addr -> Str -> Bool) (fuel : Nat) (ls : List (List Int)) (hl : ls.length <= 100000) (δ : List D) : Zb4 1 [] (Zbc fok fuel 1 (.name 0) [] (.bf .list [.v 0]) (dL false ls) []) δ = .ok (.node .lst true (dL true ls), δ) := by
 obtain ⟨a', hc⟩ := Zqo (fun i => decide (1 <= i)) fok fuel rfl ls [] .hole
 rw [List.nil_append] at hc
 replace hc : Zbc fok fuel 1 (.name 0) [] (.bf .list [.v 0]) (dL false ls) [] [.hole] = _ := hc
 rw [Zcg (js := []) (caps := []) rfl hc (by rw [Zhh, szl]; omega), Zdw]
 rfl
theorem Zoy (C : Addr) (b : Bool) (p t : Int) (st sp : List Int) (ps : List (List Int)) (hl : ps.length <= 100000) : (Za8 C).run [Fd C b p t st sp ps] = .ok (.node .lst true (dL true ps), [Fd C false p t st sp ps]) := by
 rw [show (Za8 C).run = Zh (CK C) 1 1 (ZaY C) from rfl]
 rw [runA (show [Fd C b p t st sp ps].length = 1 from rfl)]
 unfold ZaY
 simp only [List.replicate, Nat.reduceSub]
 have hm := Zqp (CK C).fok (CK C).fuel ps hl
 (simp_all [fl_5, Z3, Za7, hm]) <;> rfl
theorem ixL (o : Bool) (B : List (List Int)) (s : Int) (h0 : 0 <= s) (h : s < B.length) : ((ixN' (dL o B).length s).bind fun j => (dL o B)[j]?) = some (Ls o (B.getD s.toNat [])) := by
 unfold ixN'
 rw [Zhh, if_pos h0, if_pos h]
 show (dL o B)[s.toNat]? = _
 have hk : s.toNat < B.length := by omega
 rw [List.getElem?_map, List.getElem?_eq_getElem hk, List.getD_eq_getElem?_getD, List.getElem?_eq_getElem hk]
 rfl
theorem ZuQ (C : T.Ctx) (i : Nat) (es : List E) : (evb C (.mut .extend i [] es)).1 = ((chkL i).bnd fun _ => (opds C es).bnd fun ps => (views ps).bnd fun ws => modS i (mutD .extend ws)) := (rfl)
noncomputable abbrev pt (ps : List (List Int)) (s : Int) : List Int := ps.getD s.toNat []
theorem Zqq (C : Addr) (lk : Nat -> Bool) (fuel : Nat) (h3 : lk 3 = false) (p t : Int) (st sp : List Int) (ps : List (List Int)) (hp : ∀ l ∈ ps, l.length <= 10) : ∀ (xs acc : List Int) (x1 a : D), acc.length + 10 * xs.length <= 100000 -> (∀ x ∈ xs, 0 <= x /\ x < ps.length) -> ∃ a',
 forL (asgT lk (.name 3)) (exs ⟨lk, (CK C).fok, fuel⟩ [.ex (.mut .extend 2 [] [.ix (.fld (.v 0) "shapes") (.v 3)])]) (dI xs) [Fd C false p t st sp ps, x1, Ls true acc, a] = .ok (.nx, [Fd C false p t st sp ps, x1, Ls true (acc ++ (xs.map (pt ps)).flatten), a']) := by
 intro xs
 induction xs with
 | nil => exact fun acc x1 a _ _ => ⟨a, by rw [List.map_nil, List.flatten_nil, List.append_nil]; rfl⟩
 | cons x xs ih =>
  intro acc x1 a hl hx
  rw [List.length_cons] at hl
  obtain ⟨q0, q1⟩ := hx x List.mem_cons_self
  have hb : (pt ps x).length <= 10 := by
   have hk : x.toNat < ps.length := by omega
   rw [pt, List.getD_eq_getElem?_getD, List.getElem?_eq_getElem hk]
   exact hp _ (List.getElem_mem hk)
  obtain ⟨a', ih⟩ := ih (acc ++ pt ps x) x1 (I x) (by rw [List.length_append]; omega) fun y hy => hx y (List.mem_cons_of_mem _ hy)
  refine ⟨a', ?_⟩
  have hi := ixL false ps x q0 q1
  rw [show ps.getD x.toNat [] = pt ps x from rfl] at hi
  have ap : ∀ δ : List D, mdR 2 δ (mutD .extend [.nd .lst (dI (pt ps x))]) (some (.node .lst true (dI acc))) = .ok (.sc .non, δ.set 2 (Ls true (acc ++ pt ps x))) := fun δ => by
   have e : mutD .extend [.nd .lst (dI (pt ps x))] .lst (dI acc) = some (.sc .non, .lst, dI acc ++ dI (pt ps x)) := if_pos (by rw [ZK, ZK, szl]; omega)
   show (match mutD .extend [.nd .lst (dI (pt ps x))] .lst (dI acc) with | some (r, k', ds') => Rs.ok (r, δ.set 2 (.node k' true ds')) | none => .stuck) = _
   rw [e, Ls, ZaW]
  rw [List.map_cons, List.flatten_cons, <- List.append_assoc, <- ih, Zai, Zc7]
  generalize pt ps x = l at hi ap
  simp_all [h3, ZuQ, fl_5, Z3, Za7, hi, ap]
noncomputable abbrev wds (st sp : List Int) (ps : List (List Int)) (row : List Int) : List Int := st ++ (row.map (pt ps)).flatten ++ sp
theorem Zig (ps : List (List Int)) (n : Nat) (hp : ∀ l ∈ ps, l.length = n) : ∀ row : List Int, (∀ x ∈ row, 0 <= x /\ x < ps.length) -> ((row.map (pt ps)).flatten).length = row.length * n
 | [], _ => by simp
 | x :: row, h => by
  obtain ⟨q0, q1⟩ := h x List.mem_cons_self
  have hb : (pt ps x).length = n := by
   have hk : x.toNat < ps.length := by omega
   rw [pt, List.getD_eq_getElem?_getD, List.getElem?_eq_getElem hk]
   exact hp _ (List.getElem_mem hk)
  rw [List.map_cons, List.flatten_cons, List.length_append, Zig ps n hp row fun y hy => h y (List.mem_cons_of_mem _ hy), hb, List.length_cons, Nat.add_mul]
  omega
theorem Zlf (C : Addr) (b : Bool) (n : Nat) (t : Int) (st sp : List Int) (ps : List (List Int)) (row : List Int) (hn : n <= 10) (h1 : st.length = n) (h2 : sp.length = n + 1) (hp : ∀ l ∈ ps, l.length = n) (hr : row.length <= 100) (hx : ∀ x ∈ row, 0 <= x /\ x < ps.length) :
 (ZaN C).run [Fd C b n t st sp ps, Ls true row] = .ok (Ls true (wds st sp ps row), [Fd C false n t st sp ps, Ls true row]) := by
 have hc := fun o => Zn0 ps.length row o hx
 have hfl := Zig ps n hp row hx
 have hml : row.length * n <= 1000 := Nat.le_trans (Nat.mul_le_mul hr hn) (by decide)
 obtain ⟨a', hf⟩ := Zqq C (fun j => decide (j < 2) || walked [.v 1] j) (CK C).fuel rfl n t st sp ps (fun l hl => by rw [hp l hl]; exact hn) row st .hole .hole (by omega) hx
 simp only [walked, Bool.or_false] at hf
 rw [show (ZaN C).run = Zh (CK C) 2 4 (Zbo C) from rfl]
 rw [runA (show [Fd C b n t st sp ps, Ls true row].length = 2 from rfl)]
 unfold Zbo
 simp only [List.replicate, Nat.reduceSub]
 have l1 : Zb6.lend = true := rfl
 have hdl := Zhh false ps
 have cat : binW .Add (.nd .lst (dI (st ++ (row.map (pt ps)).flatten))) (.nd .lst (dI sp)) = some (Ls true (wds st sp ps row)) := by
  rw [Zmh _ _ (by rw [List.length_append, ZK, ZK, List.length_append, hfl, szl]; omega), Ls, wds, <- ZaW]
 generalize st ++ (row.map (pt ps)).flatten = A at hf cat
 generalize wds st sp ps row = W at cat
 (simp_all [l1, fl_3, fl_4, fl_5, Z3, Za7, hdl, hc, hf, cat]) <;> rfl
theorem Zfc (n m : Nat) (h1 : 2 <= n) (h2 : n <= 10) : ZX.run [I n, I (((m + 2 : Nat) : Int) * n + 1)] = .ok (I ((m + 2 : Nat) : Int), [I n, I (((m + 2 : Nat) : Int) * n + 1)]) := by
 rw [show ZX.run = Zh C0 2 3 Zb7 from rfl]
 rw [runA (show [I (n : Int), I (((m + 2 : Nat) : Int) * n + 1)].length = 2 from rfl)]
 unfold Zb7
 simp only [List.replicate, Nat.reduceSub]
 have e : (((m + 2 : Nat) : Int) * n + 1) / n = ((m + 2 : Nat) : Int) := by
  rw [Int.add_comm, Int.add_mul_ediv_right _ _ (by omega), Int.ediv_eq_zero_of_lt (by decide) (by omega)]
  omega
 have dv : binW .FloorDiv (.sc (.int (((m + 2 : Nat) : Int) * n + 1))) (.sc (.int (n : Int))) = some (.sc (.int ((m + 2 : Nat) : Int))) := by
  rw [Zfl _ _ (by omega), e]
 have mu : binW .Mult (.sc (.int ((m + 2 : Nat) : Int))) (.sc (.int (n : Int))) = some (.sc (.int (((m + 2 : Nat) : Int) * n))) := ZbK _ _ (.inr (by omega))
 have lt : ¬ ((m + 2 : Nat) : Int) < 2 := by omega
 generalize ((m + 2 : Nat) : Int) = s at dv mu lt
 have hd : decide (V.int (s * n + 1) = V.int (s * n + 1)) = true := decide_eq_true rfl
 (simp_all [dv, mu, lt, hd]) <;> rfl
theorem Zoz (xs : List Int) (k : Nat) (h : k <= xs.length) (h0 : 0 < k) : cutD (dI xs) (some (-(k : Int))) none = dI (xs.drop (xs.length - k)) := by
 rw [Zfw]
 unfold cutI
 have e : HT.sIx xs.length 0 (some (-(k : Int))) = xs.length - k := by
  show (if -(k : Int) < 0 then (-(k : Int) + (xs.length : Int)).toNat else min (-(k : Int)).toNat xs.length) = _
  rw [if_pos (by omega)]
  omega
 have e3 : HT.sIx xs.length xs.length none = xs.length := rfl
 rw [e, e3, List.take_of_length_le (by rw [List.length_drop]; exact Nat.le_refl _)]
theorem ZlD (f : BF) (es : List E) (c : M Op) : ZeC (.bf f es) c = ((c.bnd view).bnd fun w => lift (intP w)) := (rfl)
theorem Zg6 (C : Addr) (n : Nat) (t : Int) (st sp : List Int) (ps : List (List Int)) (ws : List Int) (o : Bool) (h1 : st.length = n) (h2 : sp.length = n + 1) (h3 : n + 1 <= ws.length) :
 (Zal C).run [Fd C false n t st sp ps, Ls o ws] = .ok (.sc (.bl (decide (ws.take n = st) && decide (ws.drop (ws.length - (n + 1)) = sp))), [Fd C false n t st sp ps, Ls o ws]) := by
 rw [show (Zal C).run = Zh (CK C) 2 3 (ZaH C) from rfl]
 rw [runA (show [Fd C false n t st sp ps, Ls o ws].length = 2 from rfl)]
 unfold ZaH
 simp only [List.replicate, Nat.reduceSub]
 have d1 : ((dI st).length : Int) = n := by rw [ZK, h1]
 have d2 : ((dI sp).length : Int) = ((n + 1 : Nat) : Int) := by rw [ZK, h2]
 have c1 := ZiF ws n
 have c2 := Zoz ws (n + 1) h3 (by omega)
 have q1 := ZjX (ws.take n) st
 have q2 := ZjX (ws.drop (ws.length - (n + 1))) sp
 generalize ((n + 1 : Nat) : Int) = n1 at d2 c2
 generalize ws.take n = A at c1 q1
 generalize ws.drop (ws.length - (n + 1)) = B at c2 q2
 by_cases hA : A = st
 . rw [decide_eq_true hA] at q1 ⊢
   rw [Bool.true_and]
   cases o <;> (simp_all [ZlD, fl_3, fl_4, Z3, Za7, d1, d2, c1, c2, q1, q2]) <;> rfl
 . rw [decide_eq_false hA] at q1 ⊢
   rw [Bool.false_and]
   cases o <;> (simp_all [ZlD, fl_3, fl_4, Z3, Za7, d1, d2, c1, c2, q1, q2]) <;> rfl
noncomputable def tg (q s : Int) : D := if q <= s then .sc .non else I s
theorem ZoZ (i : Int) : isNW true (.sc (.int i)) = .sc (.bl false) := by
 show D.sc (.bl (decide (V.int i = V.non) == true)) = _
 rw [decide_eq_false (fun h => by cases h)]
 rfl
theorem Zn2 (C : Addr) (n : Nat) (t : Int) (st sp : List Int) (ps : List (List Int)) (ws : List Int) (q k s : Int) (hn : n <= 10) (hnd : ps.Nodup) (h0 : 0 <= s) (h1 : s < ps.length) (hc : cutD (dI ws) (some (k * n)) (some (k * n + n)) = dI (pt ps s)) :
 (ZV C).run [Fd C false n t st sp ps, I q, Ls false ws, I k] = .ok (tg q s, [Fd C false n t st sp ps, I q, Ls false ws, I k]) := by
 rw [show (ZV C).run = Zh (CK C) 4 6 (Zba C) from rfl]
 rw [runA (show [Fd C false n t st sp ps, I q, Ls false ws, I k].length = 4 from rfl)]
 unfold Zba tg
 simp only [List.replicate, Nat.reduceSub]
 have mu : binW .Mult (.sc (.int k)) (.sc (.int (n : Int))) = some (.sc (.int (k * n))) := ZbK _ _ (.inr (by omega))
 have hk : s.toNat < ps.length := by omega
 have hp : pt ps s = ps[s.toNat] := by rw [pt, List.getD_eq_getElem?_getD, List.getElem?_eq_getElem hk]; rfl
 have dg : Zhp (.node (.dic (kys ps)) false (dI (rngI 0 ps.length))) (.node .lst true (dI (pt ps s))) = some (I s) := by
  unfold Zhp
  simp only [ZeD, Option.bind_some]
  rw [hp, Zht ps s.toNat 0 hnd hk]
  show some (I (0 + (s.toNat : Int))) = _
  rw [show (0 : Int) + (s.toNat : Int) = s by omega]
 generalize pt ps s = l at hc dg
 by_cases hq : q <= s
 . rw [if_pos hq]
   (simp_all [fl_1, fl_6, Z3, Za7, mu, hc, dg, ZoZ, hq]) <;> rfl
 . rw [if_neg hq]
   (simp_all [fl_1, fl_6, Z3, Za7, mu, hc, dg, ZoZ, hq]) <;> rfl
theorem Zj9 (ps : List (List Int)) (n : Nat) (hp : ∀ l ∈ ps, l.length = n) (sp : List Int) : ∀ (row : List Int) (j : Nat) (hj : j < row.length), (∀ x ∈ row, 0 <= x /\ x < ps.length) -> (((row.map (pt ps)).flatten ++ sp).drop (j * n)).take n = pt ps row[j]
 | [], j, hj, _ => by simp at hj
 | x :: row, j, hj, h => by
  obtain ⟨q0, q1⟩ := h x List.mem_cons_self
  have hb : (pt ps x).length = n := by
   have hk : x.toNat < ps.length := by omega
   rw [pt, List.getD_eq_getElem?_getD, List.getElem?_eq_getElem hk]
   exact hp _ (List.getElem_mem hk)
  rw [List.map_cons, List.flatten_cons, List.append_assoc]
  cases j with
  | zero => rw [Nat.zero_mul, List.drop_zero, List.take_append_of_le_length (by omega), List.take_of_length_le (by omega)]; rfl
  | succ j =>
   have hj' : j < row.length := by simpa using hj
   have := Zj9 ps n hp sp row j hj' fun y hy => h y (List.mem_cons_of_mem _ hy)
   rw [show (x :: row)[j + 1] = row[j] from rfl, <- this]
   congr 1
   rw [show (j + 1) * n = (pt ps x).length + j * n by rw [hb, Nat.add_mul]; omega, List.drop_append, List.drop_of_length_le (by omega), List.nil_append, Nat.add_sub_cancel_left]
theorem Zh6 (n : Nat) (st sp : List Int) (ps : List (List Int)) (row : List Int) (h1 : st.length = n) (h2 : sp.length = n + 1) (hp : ∀ l ∈ ps, l.length = n) (hx : ∀ x ∈ row, 0 <= x /\ x < ps.length) : (wds st sp ps row).length = (row.length + 2) * n + 1 := by
 rw [wds, List.length_append, List.length_append, Zig ps n hp row hx, h1, h2, Nat.add_mul]
 omega
theorem blk (n : Nat) (st sp : List Int) (ps : List (List Int)) (row : List Int) (h1 : st.length = n) (h2 : sp.length = n + 1) (hp : ∀ l ∈ ps, l.length = n) (hx : ∀ x ∈ row, 0 <= x /\ x < ps.length) (j : Nat) (hj : j < row.length) :
 cutD (dI (wds st sp ps row)) (some (((j + 1 : Nat) : Int) * n)) (some (((j + 1 : Nat) : Int) * n + n)) = dI (pt ps row[j]) := by
 have hl := Zh6 n st sp ps row h1 h2 hp hx
 have hle : (j + 1) * n + n <= (wds st sp ps row).length := by
  have : (j + 2) * n <= (row.length + 2) * n := Nat.mul_le_mul_right n (by omega)
  rw [hl]
  have e : (j + 2) * n = (j + 1) * n + n := by rw [show j + 2 = j + 1 + 1 from rfl, Nat.add_mul (j + 1) 1 n, Nat.one_mul]
  omega
 rw [Zfw, show ((j + 1 : Nat) : Int) * n = (((j + 1) * n : Nat) : Int) by rw [Int.natCast_mul], show (((j + 1) * n : Nat) : Int) + n = (((j + 1) * n + n : Nat) : Int) by omega]
 unfold cutI
 rw [HT.Zfo, HT.Zfo, Nat.min_eq_left hle, Nat.min_eq_left (show (j + 1) * n <= (wds st sp ps row).length by omega), Nat.add_sub_cancel_left]
 congr 1
 rw [wds, List.append_assoc, show (j + 1) * n = st.length + j * n by rw [h1, Nat.add_mul]; omega, List.drop_append, List.drop_of_length_le (by omega), List.nil_append, Nat.add_sub_cancel_left, Zj9 ps n hp sp row j hj hx]
theorem Zqr (C : Addr) (lk : Nat -> Bool) (fuel : Nat) (k0 : lk 0 = false) (n : Nat) (t q : Int) (st sp : List Int) (ps : List (List Int)) (ws row : List Int) (hn : n <= 10) (hnd : ps.Nodup) (hx : ∀ x ∈ row, 0 <= x /\ x < ps.length)
 (hc : ∀ (j : Nat) (hj : j < row.length), cutD (dI ws) (some (((j + 1 : Nat) : Int) * n)) (some (((j + 1 : Nat) : Int) * n + n)) = dI (pt ps row[j])) : ∀ (xs pre : List Int) (acc : List D) (a : D), row = pre ++ xs -> ∃ a',
 Za4 (asgT lk (.name 0)) (tsts ⟨lk, (CK C).fok, fuel⟩ []) (evb ⟨lk, (CK C).fok, fuel⟩ (.meth C "thing_at" (ZV C) (.v 3) [.v 1, .v 2, .v 0])).1 (dI (rngI ((pre.length + 1 : Nat) : Int) xs.length)) acc [a, I q, Ls false ws, Fd C false n t st sp ps]
  = .ok (acc ++ xs.map (tg q), [a', I q, Ls false ws, Fd C false n t st sp ps]) := by
 intro xs
 induction xs with
 | nil => exact fun pre acc a _ => ⟨a, by rw [List.map_nil, List.append_nil]; rfl⟩
 | cons x xs ih =>
  intro pre acc a hrow
  obtain ⟨a', ih⟩ := ih (pre ++ [x]) (acc ++ [tg q x]) (I ((pre.length + 1 : Nat) : Int)) (by rw [hrow, List.append_assoc]; rfl)
  refine ⟨a', ?_⟩
  have hj : pre.length < row.length := by rw [hrow, List.length_append, List.length_cons]; omega
  have hg : row[pre.length] = x := by
   have : row[pre.length]? = some x := by rw [hrow, List.getElem?_append_right (Nat.le_refl _), Nat.sub_self]; rfl
   rw [List.getElem?_eq_getElem hj] at this
   exact Option.some.inj this
  have hcc := hc pre.length hj
  rw [hg] at hcc
  obtain ⟨q0, q1⟩ := hx x (by rw [<- hg]; exact List.getElem_mem hj)
  have hr := Zn2 C n t st sp ps ws q ((pre.length + 1 : Nat) : Int) x hn hnd q0 q1 hcc
  have e : acc ++ List.map (tg q) (x :: xs) = acc ++ [tg q x] ++ xs.map (tg q) := by rw [List.append_assoc]; rfl
  have hk : ∃ v, tg q x = .sc v := by
   unfold tg
   split
   . exact ⟨_, rfl⟩
   . exact ⟨_, rfl⟩
  rw [show (((pre ++ [x]).length + 1 : Nat) : Int) = ((pre.length + 1 : Nat) : Int) + 1 by rw [List.length_append, List.length_singleton]; omega] at ih
  rw [e, <- ih, List.length_cons, rngI, Zai, Zee]
  have l1 : (ZV C).lend = true := rfl
  have ck : ∀ (ds : List D) (x0 x1 x2 : D), chkI C "thing_at" (.late 3) [x0, x1, x2, .node (.ins C FS) true ds] = .ok ((), [x0, x1, x2, .node (.ins C FS) true ds]) := fun ds x0 x1 x2 => if_pos ⟨rfl, by decide⟩
  generalize tg q x = Z at hr
  simp_all [k0, l1, ck, hr]
theorem ZlE (C : Addr) (n : Nat) (t q : Int) (st sp : List Int) (ps : List (List Int)) (ws row : List Int) (x2 x3 : D) (hn : n <= 10) (hnd : ps.Nodup) (hx : ∀ x ∈ row, 0 <= x /\ x < ps.length) (hr : row.length <= 100)
 (hc : ∀ (j : Nat) (hj : j < row.length), cutD (dI ws) (some (((j + 1 : Nat) : Int) * n)) (some (((j + 1 : Nat) : Int) * n + n)) = dI (pt ps row[j])) :
 Zb4 1 [1, 4, 0] (Zbc (CK C).fok (CK C).fuel 1 (.name 0) [] (.meth C "thing_at" (ZV C) (.v 3) [.v 1, .v 2, .v 0]) (dI (rngI 1 row.length)) []) [Fd C false n t st sp ps, I q, x2, x3, Ls false ws] = .ok (.node .lst true (row.map (tg q)), [Fd C false n t st sp ps, I q, x2, x3, Ls false ws]) := by
 obtain ⟨a', h⟩ := Zqr C (fun i => decide (1 <= i)) (CK C).fuel rfl n t q st sp ps ws row hn hnd hx hc row [] [] .hole rfl
 rw [List.nil_append, show (((([] : List Int).length + 1 : Nat)) : Int) = 1 from rfl] at h
 replace h : Zbc (CK C).fok (CK C).fuel 1 (.name 0) [] (.meth C "thing_at" (ZV C) (.v 3) [.v 1, .v 2, .v 0]) (dI (rngI 1 row.length)) [] [.hole, I q, Ls false ws, Fd C false n t st sp ps] = _ := h
 rw [Zcg (js := [1, 4, 0]) (caps := [I q, Ls false ws, Fd C false n t st sp ps]) (δ1 := [.hole, .hole, x2, x3, .hole]) rfl h (by rw [List.length_map, szl]; omega)]
 rfl
section
variable (C : Addr) (b : Bool) (n : Nat) (t q : Int) (st sp : List Int) (ps : List (List Int)) (ws row : List Int) (hn2 : 2 <= n) (hn : n <= 10) (h1 : st.length = n) (h2 : sp.length = n + 1) (hnd : ps.Nodup) (hx : ∀ x ∈ row, 0 <= x /\ x < ps.length) (hr : row.length <= 100) (hl : ws.length = (row.length + 2) * n + 1)
include hn2 hn h1 h2 hnd hx hr hl
theorem Zo0 (hf1 : ws.take n = st) (hf2 : ws.drop (ws.length - (n + 1)) = sp) (hc : ∀ (j : Nat) (hj : j < row.length), cutD (dI ws) (some (((j + 1 : Nat) : Int) * n)) (some (((j + 1 : Nat) : Int) * n + n)) = dI (pt ps row[j])) :
 (ZL C).run [Fd C b n t st sp ps, I q, Ls true ws] = .ok (.node .lst true (row.map (tg q)), [Fd C false n t st sp ps, I q, Ls false ws]) := by
 have hge : n + 1 <= ws.length := by
  have : 2 * n <= (row.length + 2) * n := Nat.mul_le_mul_right n (by omega)
  omega
 have hs := Zfc n row.length hn2 hn
 have hdl : ((dI ws).length : Int) = ((row.length + 2 : Nat) : Int) * n + 1 := by rw [ZK, hl, Int.natCast_add, Int.natCast_mul]; rfl
 have fr := Zg6 C n t st sp ps ws false h1 h2 hge
 rw [decide_eq_true hf1, decide_eq_true hf2, Bool.true_and] at fr
 have cm := fun x2 x3 => ZlE C n t q st sp ps ws row x2 x3 hn hnd hx hr hc
 have hit : itW .rng2 [.sc (.int 1), .sc (.int (((row.length + 2 : Nat) : Int) - 1))] = some (dI (rngI 1 row.length)) := by
  rw [Zmj 1 (((row.length + 2 : Nat) : Int) - 1) (by omega), show (((row.length + 2 : Nat) : Int) - 1 - 1).toNat = row.length by omega]
 rw [show (ZL C).run = Zh (CK C) 3 5 (Zav C) from rfl]
 rw [runA (show [Fd C b n t st sp ps, I q, Ls true ws].length = 3 from rfl)]
 unfold Zav
 simp only [List.replicate, Nat.reduceSub]
 have tr := Zg4 ws false
 have nt : ∀ u v : D, newT [u, v] = some (.node .tup true [u, v]) := fun u v => ZiQ _ (by rw [szl]; simp)
 have l1 : ZX.lend = true := rfl
 have l2 : ZbE.lend = true := rfl
 have l3 : (Zal C).lend = true := rfl
 have ck : ∀ (ds : List D) (x1 x2 x3 x4 : D), chkI C "is_framed" (.late 0) [.node (.ins C FS) true ds, x1, x2, x3, x4] = .ok ((), [.node (.ins C FS) true ds, x1, x2, x3, x4]) := fun ds x1 x2 x3 x4 => if_pos ⟨rfl, by decide⟩
 generalize ((row.length + 2 : Nat) : Int) = s2 at hs hdl hit
 generalize hR : row.map (tg q) = R at cm ⊢
 generalize rngI 1 row.length = rg at cm hit
 generalize hrev : ws.reverse = rv at tr
 (simp_all [l1, l2, l3, fl_1, Z3, Za7, hdl, hs, tr, nt, ck, fr, hit, cm, Zc7]) <;> rfl
theorem Zo1 (hnf : ws.take n ≠ st) (hf1 : ws.reverse.take n = st) (hf2 : ws.reverse.drop (ws.reverse.length - (n + 1)) = sp) (hc : ∀ (j : Nat) (hj : j < row.length), cutD (dI ws.reverse) (some (((j + 1 : Nat) : Int) * n)) (some (((j + 1 : Nat) : Int) * n + n)) = dI (pt ps row[j])) :
 (ZL C).run [Fd C b n t st sp ps, I q, Ls true ws] = .ok (.node .lst true (row.map (tg q)), [Fd C false n t st sp ps, I q, Ls false ws]) := by
 have hge : n + 1 <= ws.length := by
  have : 2 * n <= (row.length + 2) * n := Nat.mul_le_mul_right n (by omega)
  omega
 have hs := Zfc n row.length hn2 hn
 have hdl : ((dI ws).length : Int) = ((row.length + 2 : Nat) : Int) * n + 1 := by rw [ZK, hl, Int.natCast_add, Int.natCast_mul]; rfl
 have f0 := Zg6 C n t st sp ps ws false h1 h2 hge
 rw [decide_eq_false hnf, Bool.false_and] at f0
 have fr := Zg6 C n t st sp ps ws.reverse false h1 h2 (by rw [List.length_reverse]; exact hge)
 rw [decide_eq_true hf1, decide_eq_true hf2, Bool.true_and] at fr
 have cm := fun x2 x3 => ZlE C n t q st sp ps ws.reverse row x2 x3 hn hnd hx hr hc
 have hit : itW .rng2 [.sc (.int 1), .sc (.int (((row.length + 2 : Nat) : Int) - 1))] = some (dI (rngI 1 row.length)) := by
  rw [Zmj 1 (((row.length + 2 : Nat) : Int) - 1) (by omega), show (((row.length + 2 : Nat) : Int) - 1 - 1).toNat = row.length by omega]
 rw [show (ZL C).run = Zh (CK C) 3 5 (Zav C) from rfl]
 rw [runA (show [Fd C b n t st sp ps, I q, Ls true ws].length = 3 from rfl)]
 unfold Zav
 simp only [List.replicate, Nat.reduceSub]
 have tr := Zg4 ws false
 have nt : ∀ u v : D, newT [u, v] = some (.node .tup true [u, v]) := fun u v => ZiQ _ (by rw [szl]; simp)
 have l1 : ZX.lend = true := rfl
 have l2 : ZbE.lend = true := rfl
 have l3 : (Zal C).lend = true := rfl
 have ck : ∀ (ds : List D) (x1 x2 x3 x4 : D), chkI C "is_framed" (.late 0) [.node (.ins C FS) true ds, x1, x2, x3, x4] = .ok ((), [.node (.ins C FS) true ds, x1, x2, x3, x4]) := fun ds x1 x2 x3 x4 => if_pos ⟨rfl, by decide⟩
 generalize ((row.length + 2 : Nat) : Int) = s2 at hs hdl hit
 generalize hR : row.map (tg q) = R at cm ⊢
 generalize rngI 1 row.length = rg at cm hit
 generalize hrev : ws.reverse = rv at tr fr cm
 (simp_all [l1, l2, l3, fl_1, Z3, Za7, hdl, hs, tr, nt, ck, f0, fr, hit, cm, Zc7]) <;> rfl
end
theorem Zh7 (xs : List Int) (e : Int) : ((ixN' (dI (xs ++ [e])).length (-1)).bind fun j => (dI (xs ++ [e]))[j]?) = some (.sc (.int e)) := by
 have h : ixN' (dI (xs ++ [e])).length (-1) = some xs.length := by
  rw [ZK, List.length_append]
  show ixN' (xs.length + 1) (-1) = _
  unfold ixN'
  rw [if_neg (by decide), if_pos (by omega)]
  congr 1
  omega
 rw [h]
 show (dI (xs ++ [e]))[xs.length]? = _
 rw [ZaW, List.getElem?_append_right (by rw [ZK]; exact Nat.le_refl _), ZK, Nat.sub_self]
 rfl
theorem Zo2 (i : Nat) (δ : List D) (xs : List Int) (e u : Int) : mdR i δ (Zgr (.sc (.int (-1))) (.sc (.int u))) (some (.node .lst true (dI (xs ++ [e])))) = .ok (.sc .non, δ.set i (Ls true (xs ++ [u]))) := by
 have h : ixN' (dI (xs ++ [e])).length (-1) = some xs.length := by
  rw [ZK, List.length_append]
  show ixN' (xs.length + 1) (-1) = _
  unfold ixN'
  rw [if_neg (by decide), if_pos (by omega)]
  congr 1
  omega
 rw [Zks i δ _ _ _ _ h]
 congr 4
 rw [ZaW, List.set_append_right _ _ (by rw [ZK]; exact Nat.le_refl _), ZK, Nat.sub_self, ZaW]
 rfl
theorem ZuR : ∀ k : Nat, k < 9 -> 5 <= (pat 4 (6 + (k : Int))).length := by walk_at "d"
theorem ZuS : ∀ k : Nat, k < 17 -> 5 <= (pat 6 (7 + (k : Int))).length := by walk_at "d"
theorem Zo3 (c0 c1 : Int) : ∃ (n : Nat) (t : Int) (st sp : List Int), (n = 4 \/ n = 6) /\ 5 <= (pat n t).length /\ st.length = n /\ sp.length = n + 1 /\ (∀ x ∈ st, 1 <= x /\ x <= 4) /\ (∀ x ∈ sp, 1 <= x /\ x <= 4) /\ st.sum = t /\ (sp.take n).sum = t /\ sp.reverse.take n ≠ st /\
 Zbp.run [I c0, I c1] = .ok (.node .tup true [I n, I t, Ls false st, Ls false sp], [I c0, I c1]) := by
 obtain ⟨a0, hs0⟩ := Zg5 c0
 obtain ⟨a1, hs1⟩ := Zg5 c1
 obtain ⟨r1, u1, v1, r10, r11, hx1⟩ := ZdJ c0 a0 0 2 (by decide) (by decide)
 have hpick : ∃ (n : Nat) (lo wd : Int), ((n = 4 /\ lo = 6 /\ wd = 9) \/ (n = 6 /\ lo = 7 /\ wd = 17)) /\ ((ixN' 2 r1).bind fun j => [D.sc (.int 4), D.sc (.int 6)][j]?) = some (.sc (.int (n : Int))) /\ ((ixN' 2 ((n : Int) / 2 - 2)).bind fun j => [D.sc (.int 6), D.sc (.int 7)][j]?) = some (.sc (.int lo)) /\ ((ixN' 2 ((n : Int) / 2 - 2)).bind fun j => [D.sc (.int 9), D.sc (.int 17)][j]?) = some (.sc (.int wd)) := by
  rcases (show r1 = 0 \/ r1 = 1 by omega) with q | q <;> rw [q]
  . exact ⟨4, 6, 9, .inl ⟨rfl, rfl, rfl⟩, rfl, rfl, rfl⟩
  . exact ⟨6, 7, 17, .inr ⟨rfl, rfl, rfl⟩, rfl, rfl, rfl⟩
 obtain ⟨n, lo, wd, hnl, i1, i2, i3⟩ := hpick
 have hn : n = 4 \/ n = 6 := by omega
 obtain ⟨r2, u2, v2, r20, r21, hx2⟩ := ZdJ c0 u1 v1 wd (by omega) (by omega)
 have et : ∃ t : Int, lo + r2 = t /\ (n : Int) <= t /\ t <= 4 * n /\ 5 <= (pat n t).length := by
  refine ⟨_, rfl, by omega, by omega, ?_⟩
  rcases hnl with ⟨rfl, rfl, rfl⟩ | ⟨rfl, rfl, rfl⟩
  . have := ZuR r2.toNat (by omega)
    rwa [show (r2.toNat : Int) = r2 by omega] at this
  . have := ZuS r2.toNat (by omega)
    rwa [show (r2.toNat : Int) = r2 by omega] at this
 obtain ⟨t, et, t1, t2, t3⟩ := et
 obtain ⟨st, m1, k1, s1, s2, s3, hw1⟩ := ZiG n hn c0 u2 v2 t t1 t2
 obtain ⟨ys, m2, k2, y1, y2, y3, hw2⟩ := ZiG n hn c1 a1 0 t t1 t2
 obtain ⟨w, m3, k3, w1, w2, hnx⟩ := ZdJ c1 m2 k2 4 (by decide) (by decide)
 have d2 : ∀ u : Int, binW .FloorDiv (.sc (.int u)) (.sc (.int 2)) = some (.sc (.int (u / 2))) := fun u => Zfl _ _ (by decide)
 have e4 : ∀ u : Int, binW .Mod (.sc (.int u)) (.sc (.int 4)) = some (.sc (.int (u % 4))) := fun u => ZbL _ _ (by decide)
 have nl2 : ∀ u v : D, newL [u, v] = some (.node .lst true [u, v]) := fun u v => Zbx _ (by rw [szl]; simp)
 have nl1 : ∀ u : D, newL [u] = some (.node .lst true [u]) := fun u => Zbx _ (by rw [szl]; simp)
 have nt4 : ∀ a b c d : D, newT [a, b, c, d] = some (.node .tup true [a, b, c, d]) := fun a b c d => ZiQ _ (by rw [szl]; simp)
 have cat : ∀ u : Int, binW .Add (.nd .lst (dI ys)) (.nd .lst [D.sc (.int u)]) = some (Ls true (ys ++ [u])) := fun u => by
  rw [Zmh (dI ys) [D.sc (.int u)] (by rw [List.length_append, ZK, szl]; show ys.length + 1 <= _; omega), Ls, ZaW]
  rfl
 have cut := ZiF (ys ++ [1 + w]).reverse n
 have ce := ZjX ((ys ++ [1 + w]).reverse.take n) st
 have lx := Zh7 ys (1 + w)
 have ls := fun (δ : List D) (u : Int) => Zo2 7 δ ys (1 + w) u
 have hdr := ZiE (ys ++ [1 + w])
 have g2 : Zao.lend = true := rfl
 have g3 : ZaR.lend = true := rfl
 have g4 : Z7.lend = true := rfl
 have hsp : ∀ e : Int, 1 <= e /\ e <= 4 -> (ys ++ [e]).length = n + 1 /\ (∀ x ∈ ys ++ [e], 1 <= x /\ x <= 4) /\ ((ys ++ [e]).take n).sum = t := fun e he =>
  ⟨by rw [List.length_append, y1]; rfl, fun x hx => by
   (rcases List.mem_append.mp hx with hx | hx)
   . exact y2 x hx
   . rw [List.mem_singleton.mp hx]; exact he, by rw [List.take_append_of_le_length (by omega), List.take_of_length_le (by omega)]; exact y3⟩
 by_cases hq : (ys ++ [1 + w]).reverse.take n = st
 . have hne : (ys ++ [(1 + w) % 4 + 1]).reverse.take n ≠ st := fun hc => by
    rw [<- hc] at hq
    have e1 : n = (n - 1) + 1 := by omega
    rw [e1, List.reverse_append, List.reverse_append] at hq
    simp only [List.reverse_singleton, List.cons_append, List.nil_append, List.take_succ_cons, List.cons.injEq] at hq
    omega
   obtain ⟨p1, p2, p3⟩ := hsp ((1 + w) % 4 + 1) (by omega)
   refine ⟨n, t, st, ys ++ [(1 + w) % 4 + 1], hn, t3, s1, p1, s2, p2, s3, p3, hne, ?_⟩
   rw [decide_eq_true hq] at ce
   generalize (ys ++ [1 + w]).reverse.take n = zs at cut ce
   generalize (ys ++ [1 + w]).reverse = rv at cut hdr
   rw [show Zbp.run = Zh C0 2 8 ZaT from rfl]
   rw [runA (show [I c0, I c1].length = 2 from rfl)]
   unfold ZaT
   simp only [List.replicate, Nat.reduceSub]
   (simp_all [g2, g3, g4, hs0, hs1, hx1, hx2, i1, i2, i3, et, hw1, hw2, hnx, d2, e4, nl1, nl2, nt4, cat, cut, ce, lx, ls, hdr, Z3]) <;> rfl
 . obtain ⟨p1, p2, p3⟩ := hsp (1 + w) (by omega)
   refine ⟨n, t, st, ys ++ [1 + w], hn, t3, s1, p1, s2, p2, s3, p3, hq, ?_⟩
   rw [decide_eq_false hq] at ce
   generalize (ys ++ [1 + w]).reverse.take n = zs at cut ce
   generalize (ys ++ [1 + w]).reverse = rv at cut hdr
   rw [show Zbp.run = Zh C0 2 8 ZaT from rfl]
   rw [runA (show [I c0, I c1].length = 2 from rfl)]
   unfold ZaT
   simp only [List.replicate, Nat.reduceSub]
   (simp_all [g2, g3, g4, hs0, hs1, hx1, hx2, i1, i2, i3, et, hw1, hw2, hnx, d2, e4, nl1, nl2, nt4, cat, cut, ce, hdr, Z3]) <;> rfl
noncomputable abbrev PR : List Int := [5, 7, 11, 13, 17, 19, 23, 29, 31, 37, 41, 43, 47]
theorem Zqs (h0 : lk 0 = false) (m : Int) : ∀ (xs acc : List Int) (a : D), ∃ a',
 Za4 (asgT lk (.name 0)) (tsts ⟨lk, fok, fuel⟩ [.cmp .LtE (.v 0) (.v 1)]) (evb ⟨lk, fok, fuel⟩ (.v 0)).1 (dI xs) (dI acc) [a, I m] = .ok (dI (acc ++ xs.filter fun x => decide (x <= m)), [a', I m]) := by
 intro xs
 induction xs with
 | nil => exact fun acc a => ⟨a, by rw [List.filter_nil, List.append_nil]; rfl⟩
 | cons x xs ih =>
  intro acc a
  rw [Zai, Zee]
  by_cases h : x <= m
  . obtain ⟨a', ih⟩ := ih (acc ++ [x]) (I x)
    refine ⟨a', ?_⟩
    have e : acc ++ (x :: xs).filter (fun x => decide (x <= m)) = acc ++ [x] ++ xs.filter (fun x => decide (x <= m)) := by
     rw [List.filter_cons_of_pos (by simpa using h), List.append_assoc]
     rfl
    rw [e, <- ih, ZaW]
    simp_all [h0, h]
  . obtain ⟨a', ih⟩ := ih acc (I x)
    refine ⟨a', ?_⟩
    rw [List.filter_cons_of_neg (by simpa using h), <- ih]
    simp_all [h0, h]
theorem Zn3 (c m : Int) (hm : 5 <= m) : ∃ p : Int, 5 <= p /\ p <= m /\ p <= 47 /\ ZaO.run [I c, I m] = .ok (I p, [I c, I m]) := by
 obtain ⟨a', hc⟩ := Zqs (fun i => decide (1 <= i)) (fun _ _ => false) 0 rfl m PR [] .hole
 rw [List.nil_append] at hc
 have hall : ∀ x ∈ PR.filter (fun x => decide (x <= m)), 5 <= x /\ x <= m /\ x <= 47 := fun x hx => by
  rw [List.mem_filter, decide_eq_true_eq] at hx
  have : ∀ y ∈ PR, 5 <= y /\ y <= 47 := by decide
  exact ⟨(this x hx.1).1, hx.2, (this x hx.1).2⟩
 have hpos : 0 < (PR.filter (fun x => decide (x <= m))).length := List.length_pos_of_mem (List.mem_filter.mpr ⟨show (5 : Int) ∈ PR by decide, by simpa using hm⟩)
 have hup : (PR.filter (fun x => decide (x <= m))).length <= 13 := List.length_filter_le _ _
 generalize PR.filter (fun x => decide (x <= m)) = L at hc hall hpos hup
 have h0 := Int.emod_nonneg c (show ((L.length : Nat) : Int) ≠ 0 by omega)
 have h1 := Int.emod_lt_of_pos c (show (0 : Int) < ((L.length : Nat) : Int) by omega)
 have hi := ixI L (c % (L.length : Int)) h0 h1
 have hk : (c % (L.length : Int)).toNat < L.length := by omega
 have hb := hall (L.getD (c % (L.length : Int)).toNat 0) (by rw [List.getD_eq_getElem?_getD, List.getElem?_eq_getElem hk]; exact List.getElem_mem hk)
 generalize L.getD (c % (L.length : Int)).toNat 0 = p at hi hb
 refine ⟨p, hb.1, hb.2.1, hb.2.2, ?_⟩
 rw [show ZaO.run = Zh C0 2 3 Zbq from rfl]
 rw [runA (show [I c, I m].length = 2 from rfl)]
 unfold Zbq
 simp only [List.replicate, Nat.reduceSub]
 have hdl : ((dI L).length : Int) = (L.length : Int) := by rw [ZK]
 have md : binW .Mod (.sc (.int c)) (.sc (.int (L.length : Int))) = some (.sc (.int (c % (L.length : Int)))) := ZbL _ _ (by omega)
 have kl : newL [D.sc (.int 5), D.sc (.int 7), D.sc (.int 11), D.sc (.int 13), D.sc (.int 17), D.sc (.int 19), D.sc (.int 23), D.sc (.int 29), D.sc (.int 31), D.sc (.int 37), D.sc (.int 41), D.sc (.int 43), D.sc (.int 47)] = some (.node .lst true (dI PR)) := Zbx _ (by rw [szl]; simp)
 replace hc : Zbc (fun _ _ => false) 0 1 (.name 0) [.cmp .LtE (.v 0) (.v 1)] (.v 0) (dI PR) [] [.hole, I m] = _ := hc
 have hm1 : ∀ x0 x2 : D, Zb4 1 [1] (Zbc (fun _ _ => false) 0 1 (.name 0) [.cmp .LtE (.v 0) (.v 1)] (.v 0) (dI PR) []) [x0, I m, x2] = .ok (Ls true L, [x0, I m, x2]) := fun x0 x2 => by
  rw [Zcg (js := [1]) (caps := [I m]) (δ1 := [x0, .hole, x2]) rfl hc (by rw [ZK, szl]; omega)]
  rfl
 generalize PR = pr at kl hm1
 (simp_all [kl, Z3, hm1, hdl, md, hi]) <;> rfl
section
variable (C : Addr) (b : Bool) (n : Nat) (t q : Int) (st sp : List Int) (ps : List (List Int)) (row : List Int) (hn2 : 2 <= n) (hn : n <= 10) (h1 : st.length = n) (h2 : sp.length = n + 1) (hp : ∀ l ∈ ps, l.length = n) (hnd : ps.Nodup) (hx : ∀ x ∈ row, 0 <= x /\ x < ps.length) (hr : row.length <= 100)
include hn2 hn h1 h2 hp hnd hx hr
theorem Zpa : (wds st sp ps row).take n = st := by
 rw [wds, List.append_assoc, List.take_append_of_le_length (by omega), List.take_of_length_le (by omega)]
theorem Zpb : (wds st sp ps row).drop ((wds st sp ps row).length - (n + 1)) = sp := by
 rw [wds, List.length_append, h2, Nat.add_sub_cancel, List.drop_append, List.drop_of_length_le (Nat.le_refl _), List.nil_append, Nat.sub_self, List.drop_zero]
theorem Zo4 : (ZL C).run [Fd C b n t st sp ps, I q, Ls true (wds st sp ps row)] = .ok (.node .lst true (row.map (tg q)), [Fd C false n t st sp ps, I q, Ls false (wds st sp ps row)]) :=
 Zo0 C b n t q st sp ps _ row hn2 hn h1 h2 hnd hx hr (Zh6 n st sp ps row h1 h2 hp hx) (Zpa n st sp ps row hn2 hn h1 h2 hp hnd hx hr) (Zpb n st sp ps row hn2 hn h1 h2 hp hnd hx hr) (fun j hj => blk n st sp ps row h1 h2 hp hx j hj)
theorem Zsy (hne : sp.reverse.take n ≠ st) : (wds st sp ps row).reverse.take n ≠ st := by
 rw [wds, List.reverse_append, List.take_append_of_le_length (by rw [List.length_reverse]; omega)]
 exact hne
theorem Zo5 (hne : sp.reverse.take n ≠ st) : (ZL C).run [Fd C b n t st sp ps, I q, Ls true (wds st sp ps row).reverse] = .ok (.node .lst true (row.map (tg q)), [Fd C false n t st sp ps, I q, Ls false (wds st sp ps row).reverse]) := by
 have e : (wds st sp ps row).reverse.reverse = wds st sp ps row := List.reverse_reverse _
 refine Zo1 C b n t q st sp ps _ row hn2 hn h1 h2 hnd hx hr (by rw [List.length_reverse]; exact Zh6 n st sp ps row h1 h2 hp hx) (Zsy n st sp ps row hn2 hn h1 h2 hp hnd hx hr hne) ?_ ?_ ?_
 . rw [e]; exact Zpa n st sp ps row hn2 hn h1 h2 hp hnd hx hr
 . rw [e]; exact Zpb n st sp ps row hn2 hn h1 h2 hp hnd hx hr
 . rw [e]; exact fun j hj => blk n st sp ps row h1 h2 hp hx j hj
end
theorem Zsz (q : Int) (row : List Int) (h : ∀ x ∈ row, 0 <= x /\ x < q) : row.map (tg q) = dI row := List.map_congr_left fun x hx => by
 unfold tg
 rw [if_neg (by have := h x hx; omega)]
theorem Zs0 (w T u m d S δ Δ : Int) (hw : 1 <= w /\ w <= 4) (hT : 9 <= T) (hu : 1 <= u) (hm : 0 <= m) (h8 : 8 * m <= u) (hd : d = w * u + δ) (hS : S = T * u + Δ) (h1 : -(2 * m) <= δ /\ δ <= 2 * m) (h2 : -(2 * m) <= Δ /\ Δ <= 2 * m) : 0 < S /\ (2 * (d * T) + S) / (2 * S) = w := by
 have a1 : T * m ≥ 9 * m := Int.mul_le_mul_of_nonneg_right hT hm
 have a2 : T * u ≥ 9 * u := Int.mul_le_mul_of_nonneg_right hT (by omega)
 have a3 : T * (8 * m) <= T * u := Int.mul_le_mul_of_nonneg_left h8 (by omega)
 have a4 : T * δ <= T * (2 * m) := Int.mul_le_mul_of_nonneg_left h1.2 (by omega)
 have a5 : T * (-(2 * m)) <= T * δ := Int.mul_le_mul_of_nonneg_left h1.1 (by omega)
 have e1 : T * (8 * m) = 8 * (T * m) := by rw [Int.mul_left_comm]
 have e2 : T * (2 * m) = 2 * (T * m) := by rw [Int.mul_left_comm]
 have e3 : T * (-(2 * m)) = -(2 * (T * m)) := by rw [Int.mul_neg, e2]
 rw [e1] at a3
 rw [e2] at a4
 rw [e3] at a5
 have hSp : 0 < S := by omega
 refine ⟨hSp, ?_⟩
 have hdT : d * T = w * (T * u) + T * δ := by rw [hd, Int.add_mul, Int.mul_assoc, Int.mul_comm u T, Int.mul_comm δ T]
 rw [hdT]
 generalize T * δ = P at a4 a5
 generalize T * u = A at hS a2 a3
 generalize T * m = B at a1 a3 a4 a5
 have key : ∀ q r c : Int, 0 < c -> q = r * c + (q - r * c) -> 0 <= q - r * c -> q - r * c < c -> q / c = r := fun q r c hc hq l1 l2 => by
  rw [hq, Int.add_comm, Int.add_mul_ediv_right _ _ (by omega), Int.ediv_eq_zero_of_lt l1 l2]
  omega
 have hw' : w = 1 \/ w = 2 \/ w = 3 \/ w = 4 := by omega
 rcases hw' with rfl | rfl | rfl | rfl <;> exact key _ _ _ (by omega) (by omega) (by omega) (by omega)
noncomputable def pos (u : Int) : Int -> List Int -> List Int
 | f, [] => [f]
 | f, w :: ws => f :: pos u (f + w * u) ws
def Near (m : Int) : List Int -> List Int -> Prop
 | [], [] => True
 | a :: as, b :: bs => (-m <= a - b /\ a - b <= m) /\ Near m as bs
 | _, _ => False
noncomputable def dst : List Int -> List Int
 | a :: b :: r => (b - a) :: dst (b :: r)
 | _ => []
theorem Zih {m : Int} : ∀ {as bs : List Int}, Near m as bs -> as.length = bs.length
 | [], [], _ => rfl
 | a :: as, b :: bs, h => by rw [List.length_cons, List.length_cons, Zih h.2]
 | [], _ :: _, h => h.elim
 | _ :: _, [], h => h.elim
theorem Zgk (u : Int) : ∀ (ws : List Int) (f : Int), (pos u f ws).length = ws.length + 1
 | [], _ => rfl
 | w :: ws, f => by rw [pos, List.length_cons, Zgk u ws, List.length_cons]
theorem ZkC (u m : Int) : ∀ (ws : List Int) (f : Int) (es : List Int), Near m es (pos u f ws) -> (dst es).length = ws.length /\ ∀ (j : Nat) (h1 : j < (dst es).length) (h2 : j < ws.length), ∃ δ, (dst es)[j] = ws[j] * u + δ /\ -(2 * m) <= δ /\ δ <= 2 * m
 | [], f, es, h => by
  match es, h with
  | [e], _ => exact ⟨rfl, fun j h1 h2 => by simp at h2⟩
  | e :: e2 :: r, h => exact h.2.elim
 | w :: ws, f, es, h => by
  rw [pos] at h
  match es, h with
  | [e], h => cases ws <;> exact h.2.elim
  | e :: e2 :: r, h =>
   obtain ⟨i1, i2⟩ := ZkC u m ws (f + w * u) (e2 :: r) h.2
   refine ⟨by rw [dst, List.length_cons, i1, List.length_cons], fun j h1 h2 => ?_⟩
   cases j with
   | zero =>
    have hb : -m <= e2 - (f + w * u) /\ e2 - (f + w * u) <= m := by
     have := h.2
     cases ws with
     | nil => rw [pos] at this; exact this.1
     | cons w2 ws => rw [pos] at this; exact this.1
    have ha := h.1
    refine ⟨e2 - e - w * u, ?_, by omega, by omega⟩
    show e2 - e = w * u + (e2 - e - w * u)
    omega
   | succ j => exact i2 j (by simpa [dst] using h1) (by simpa using h2)
theorem ZkD {m : Int} : ∀ {as bs cs ds : List Int}, Near m as bs -> Near m cs ds -> Near m (as ++ cs) (bs ++ ds)
 | [], [], _, _, _, h => h
 | a :: as, b :: bs, _, _, h, g => ⟨h.1, ZkD h.2 g⟩
 | [], _ :: _, _, _, h, _ => h.elim
 | _ :: _, [], _, _, h, _ => h.elim
theorem Zhj {m : Int} (K : Int) : ∀ {as bs : List Int}, Near m as bs -> Near m (as.reverse.map (K - ·)) (bs.reverse.map (K - ·))
 | [], [], _ => trivial
 | a :: as, b :: bs, h => by
  rw [List.reverse_cons, List.reverse_cons, List.map_append, List.map_append]
  refine ZkD (Zhj K h.2) ⟨?_, trivial⟩
  have := h.1
  show -m <= K - a - (K - b) /\ K - a - (K - b) <= m
  omega
 | [], _ :: _, h => h.elim
 | _ :: _, [], h => h.elim
theorem Zhk {m : Int} (hm : 0 <= m) : ∀ as : List Int, Near m as as
 | [] => trivial
 | a :: as => ⟨by omega, Zhk hm as⟩
theorem ZkE (u w : Int) : ∀ (ws : List Int) (f : Int), pos u f (ws ++ [w]) = pos u f ws ++ [f + (ws.sum + w) * u]
 | [], f => by
  show [f, f + w * u] = [f] ++ [f + (0 + w) * u]
  rw [Int.zero_add]
  rfl
 | v :: ws, f => by
  rw [List.cons_append, pos, ZkE u w ws, pos, List.cons_append, List.sum_cons]
  congr 3
  rw [show v + ws.sum + w = v + (ws.sum + w) by omega, Int.add_mul v]
  omega
theorem Zii (u K : Int) : ∀ (ws : List Int) (f : Int), (pos u f ws).reverse.map (K - ·) = pos u (K - f - ws.sum * u) ws.reverse
 | [], f => by
  show [K - f] = [K - f - 0 * u]
  rw [Int.zero_mul, Int.sub_zero]
 | w :: ws, f => by
  have hs : ws.reverse.sum = ws.sum := List.sum_reverse ws
  rw [pos, List.reverse_cons, List.map_append, Zii u K ws, List.reverse_cons, ZkE, hs, List.sum_cons, Int.add_mul, Int.add_mul]
  have e : K - (f + w * u) - ws.sum * u = K - f - (w * u + ws.sum * u) := by omega
  rw [e]
  congr 1
  show [K - f] = _
  congr 1
  omega
theorem ZjA (u m : Int) : ∀ (ws : List Int) (f : Int) (es : List Int), Near m es (pos u f ws) -> ∃ x, es.getLast? = some x /\ -m <= x - (f + ws.sum * u) /\ x - (f + ws.sum * u) <= m
 | [], f, es, h => by
  match es, h with
  | [e], h =>
   refine ⟨e, rfl, ?_⟩
   rw [List.sum_nil, Int.zero_mul, Int.add_zero]
   exact h.1
  | e :: e2 :: r, h => exact h.2.elim
 | w :: ws, f, es, h => by
  rw [pos] at h
  match es, h with
  | [e], h => cases ws <;> exact h.2.elim
  | e :: e2 :: r, h =>
   obtain ⟨x, h1, h2⟩ := ZjA u m ws (f + w * u) (e2 :: r) h.2
   refine ⟨x, by rw [List.getLast?_cons_cons]; exact h1, ?_⟩
   rw [List.sum_cons, Int.add_mul]
   omega
theorem Zqt (h4 : lk 4 = false) (x0 x1 : D) (u : Int) : ∀ (ws pre : List Int) (g : Int) (a : D), pre.length + ws.length <= 10000 -> (∀ w ∈ ws, 1 <= w /\ w <= 4) -> ∃ a',
 forL (asgT lk (.name 4)) (exs ⟨lk, fok, fuel⟩ [.ex (.mut .append 3 [] [.bin .Add (.ix (.v 3) (.neg (.k (.int 1)))) (.bin .Mult (.v 4) (.v 2))])]) (dI ws) [x0, x1, I u, Ls true (pre ++ [g]), a] = .ok (.nx, [x0, x1, I u, Ls true (pre ++ pos u g ws), a']) := by
 intro ws
 induction ws with
 | nil => exact fun pre g a _ _ => ⟨a, rfl⟩
 | cons w ws ih =>
  intro pre g a hl hw
  rw [List.length_cons] at hl
  obtain ⟨a', ih⟩ := ih (pre ++ [g]) (g + w * u) (I w) (by rw [List.length_append, List.length_singleton]; omega) fun y hy => hw y (List.mem_cons_of_mem _ hy)
  refine ⟨a', ?_⟩
  obtain ⟨q1, q2⟩ := hw w List.mem_cons_self
  have mu : binW .Mult (.sc (.int w)) (.sc (.int u)) = some (.sc (.int (w * u))) := ZbK _ _ (.inl (by omega))
  have lx := Zh7 pre g
  have ap : ∀ (δ : List D) (v : Int), mdR 3 δ (appD (.sc (.int v))) (some (.node .lst true (dI (pre ++ [g])))) = .ok (.sc .non, δ.set 3 (Ls true (pre ++ [g] ++ [v]))) := fun δ v => by
   rw [ZgR 3 δ _ _ (by rw [ZK, List.length_append, List.length_singleton, szl]; omega), Ls, ZaW (pre ++ [g])]
   rfl
  have e : pre ++ pos u g (w :: ws) = pre ++ [g] ++ pos u (g + w * u) ws := by rw [List.append_assoc]; rfl
  rw [e, <- ih, Zai, Zc7]
  simp_all [h4, Z3, lx, mu, ap]
theorem Zn4 (ws : List Int) (f u : Int) (hl : ws.length <= 5000) (hw : ∀ w ∈ ws, 1 <= w /\ w <= 4) : ZcZ.run [Ls true ws, I f, I u] = .ok (Ls true (pos u f ws), [Ls true ws, I f, I u]) := by
 obtain ⟨a', hf⟩ := Zqt (fun j => decide (j < 3) || walked [.v 0] j) (fun _ _ => false) 0 rfl .hole (I f) u ws [] f .hole (by simp; omega) hw
 simp only [walked, Bool.or_false, List.nil_append, Ls, Zai, Zkx] at hf
 rw [show ZcZ.run = Zh C0 3 5 Zd1 from rfl]
 rw [runA (show [Ls true ws, I f, I u].length = 3 from rfl)]
 unfold Zd1
 simp only [List.replicate, Nat.reduceSub]
 have nl1 : ∀ v : D, newL [v] = some (.node .lst true [v]) := fun v => Zbx _ (by rw [szl]; simp)
 (simp_all [nl1, Z3, hf]) <;> rfl
theorem Zo6 (a s : Int) (h0 : 0 < s) (h1 : 2 * s < 18446744073709551616) : ZM.run [I a, I s] = .ok (I ((2 * a + s) / (2 * s)), [I a, I s]) := by
 rw [show ZM.run = Zh C0 2 2 Za6 from rfl]
 rw [runA (show [I a, I s].length = 2 from rfl)]
 unfold Za6
 simp only [List.replicate, Nat.reduceSub]
 have m2 : ∀ v : Int, binW .Mult (.sc (.int 2)) (.sc (.int v)) = some (.sc (.int (2 * v))) := fun v => ZbK _ _ (.inl (by decide))
 have dv : ∀ v : Int, binW .FloorDiv (.sc (.int v)) (.sc (.int (2 * s))) = some (.sc (.int (v / (2 * s)))) := fun v => Zfl _ _ (by omega)
 (simp_all [m2, dv]) <;> rfl
theorem Zqu (h0 : lk 0 = false) (h1 : lk 1 = false) : ∀ (es acc : List Int) (a b : D), ∃ a' b',
 Za4 (asgT lk (.tup [0, 1])) (tsts ⟨lk, fok, fuel⟩ []) (evb ⟨lk, fok, fuel⟩ (.bin .Sub (.v 1) (.v 0))).1 (zipD (dI es) (dI (es.drop 1))) (dI acc) [a, b] = .ok (dI (acc ++ dst es), [a', b']) := by
 intro es
 induction es with
 | nil => exact fun acc a b => ⟨a, b, by rw [show dst [] = [] from rfl, List.append_nil]; rfl⟩
 | cons e es ih =>
  intro acc a b
  cases es with
  | nil => exact ⟨a, b, by rw [show dst [e] = [] from rfl, List.append_nil]; rfl⟩
  | cons e2 r =>
   obtain ⟨a', b', ih⟩ := ih (acc ++ [e2 - e]) (I e) (I e2)
   refine ⟨a', b', ?_⟩
   have eq : acc ++ dst (e :: e2 :: r) = acc ++ [e2 - e] ++ dst (e2 :: r) := by rw [List.append_assoc]; rfl
   rw [eq, <- ih, show List.drop 1 (e :: e2 :: r) = e2 :: r from rfl, Zai e, Zai e2 r, zipD, Zee, ZaW, show List.drop 1 (e2 :: r) = r from rfl]
   simp_all [h0, h1, Ziy]
theorem Zqv (h0 : lk 0 = false) (S T : Int) (hS : 0 < S) (hS2 : 2 * S < 18446744073709551616) (hT : 0 <= T /\ T < 100000) : ∀ (ds acc : List Int) (a : D), ∃ a',
 Za4 (asgT lk (.name 0)) (tsts ⟨lk, fok, fuel⟩ []) (evb ⟨lk, fok, fuel⟩ (.call ZM [.bin .Mult (.v 0) (.v 2), .v 1])).1 (dI ds) (dI acc) [a, I S, I T] = .ok (dI (acc ++ ds.map fun d => (2 * (d * T) + S) / (2 * S)), [a', I S, I T]) := by
 intro ds
 induction ds with
 | nil => exact fun acc a => ⟨a, by rw [List.map_nil, List.append_nil]; rfl⟩
 | cons d ds ih =>
  intro acc a
  obtain ⟨a', ih⟩ := ih (acc ++ [(2 * (d * T) + S) / (2 * S)]) (I d)
  refine ⟨a', ?_⟩
  have mu : binW .Mult (.sc (.int d)) (.sc (.int T)) = some (.sc (.int (d * T))) := ZbK _ _ (.inr (by omega))
  have l1 : ZM.lend = true := rfl
  have hr := Zo6 (d * T) S hS hS2
  have e : acc ++ List.map (fun d => (2 * (d * T) + S) / (2 * S)) (d :: ds) = acc ++ [(2 * (d * T) + S) / (2 * S)] ++ ds.map fun d => (2 * (d * T) + S) / (2 * S) := by rw [List.append_assoc]; rfl
  rw [e, <- ih, Zai, Zee, ZaW]
  simp_all [h0, mu, l1, hr]
section
variable (C : Addr) (b : Bool) (p t : Int) (st sp : List Int) (ps : List (List Int))
theorem fl_2 (a b c d e f : D) : fldW (CK C).fok "widths_sum" (.nd (.ins C FS) [a, b, c, d, e, f]) = some b := Zh5 C _ _ _ _ (by decide) rfl
theorem Zn5 : (Zby C).run [Fd C b p t st sp ps] = .ok (I p, [Fd C false p t st sp ps]) := by
 rw [show (Zby C).run = Zh (CK C) 1 1 (ZbT C) from rfl]
 rw [runA (show [Fd C b p t st sp ps].length = 1 from rfl)]
 unfold ZbT
 simp only [List.replicate, Nat.reduceSub]
 (simp_all [fl_1, Z3, Za7]) <;> rfl
theorem Zn6 : (Zbz C).run [Fd C b p t st sp ps] = .ok (I t, [Fd C false p t st sp ps]) := by
 rw [show (Zbz C).run = Zh (CK C) 1 1 (ZbU C) from rfl]
 rw [runA (show [Fd C b p t st sp ps].length = 1 from rfl)]
 unfold ZbU
 simp only [List.replicate, Nat.reduceSub]
 (simp_all [fl_2, Z3, Za7]) <;> rfl
theorem Zo7 : (ZbV C).run [Fd C b p t st sp ps] = .ok (Ls true sp, [Fd C false p t st sp ps]) := by
 rw [show (ZbV C).run = Zh (CK C) 1 1 (Zcu C) from rfl]
 rw [runA (show [Fd C b p t st sp ps].length = 1 from rfl)]
 unfold Zcu
 simp only [List.replicate, Nat.reduceSub]
 (simp_all [fl_4, Z3, Za7]) <;> rfl
end
theorem Zs1 (i : Int) (is : List Int) : bfW .minL [.nd .lst (dI (i :: is))] = some (.sc (.int (Zef i is))) := by
 show (Zb2 (dI (i :: is))).bind _ = _
 rw [ZeD]
 rfl
theorem Zlg (C : Addr) (b : Bool) (n : Nat) (t q : Int) (st sp0 : List Int) (sl : Int) (ps : List (List Int)) (es ws : List Int) (m : Nat) (e0 e1 S T : Int) (out : List D) (hn2 : 2 <= n) (hn : n <= 10) (hmn : m <= 100) (hl : ((dI es).length : Int) - 1 = ((m + 2 : Nat) : Int) * n + 1) (hel : es.length <= 5000)
 (hpos : ∀ d ∈ dst es, 0 < d) (hne : dst es ≠ []) (h0 : es.head? = some e0) (h1 : es.getLast? = some e1) (hS : S = e1 - e0) (hT : T = t * ((m + 2 : Nat) : Int) + sl) (hS1 : 0 < S) (hS2 : 2 * S < 18446744073709551616) (hT1 : 0 <= T /\ T < 100000) (ht : 0 <= t /\ t < 1000)
 (hq : (dst es).map (fun d => (2 * (d * T) + S) / (2 * S)) = ws) (hlook : ∀ b, (ZL C).run [Fd C b n t st (sp0 ++ [sl]) ps, I q, Ls true ws] = .ok (.node .lst true out, [Fd C false n t st (sp0 ++ [sl]) ps, I q, Ls false ws])) :
 (Zar C).run [Fd C b n t st (sp0 ++ [sl]) ps, I q, Ls true es] = .ok (.node .lst true out, [Fd C false n t st (sp0 ++ [sl]) ps, I q, Ls true es]) := by
 have hs := Zfc n m hn2 hn
 obtain ⟨a1, b1, hd⟩ := Zqu (fun i => decide (2 <= i)) (CK C).fok (CK C).fuel rfl rfl es [] .hole .hole
 rw [List.nil_append] at hd
 obtain ⟨a2, hqq⟩ := Zqv (fun i => decide (1 <= i)) (CK C).fok (CK C).fuel rfl S T hS1 hS2 hT1 (dst es) [] .hole
 rw [List.nil_append, hq] at hqq
 have dl : ∀ es : List Int, (dst es).length <= es.length := fun es => by
  induction es with
  | nil => simp [dst]
  | cons e es ih =>
   cases es with
   | nil => simp [dst]
   | cons e2 r => rw [dst, List.length_cons, List.length_cons]; omega
 have hdl := dl es
 have hwl : ws.length <= 5000 := by rw [<- hq, List.length_map]; omega
 cases hds : dst es with
 | nil => exact absurd hds hne
 | cons d0 dr =>
 have hmin : ¬ Zef d0 dr <= 0 := by
  have := (ZfO dr d0).1
  rw [<- hds] at this
  have := hpos _ this
  omega
 have hmn' := Zs1 d0 dr
 rw [<- hds] at hmn'
 replace hd : Zbc (CK C).fok (CK C).fuel 2 (.tup [0, 1]) [] (.bin .Sub (.v 1) (.v 0)) (zipD (dI es) (dI (es.drop 1))) [] [.hole, .hole] = _ := hd
 have hm1 : ∀ δ : List D, Zb4 2 [] (Zbc (CK C).fok (CK C).fuel 2 (.tup [0, 1]) [] (.bin .Sub (.v 1) (.v 0)) (zipD (dI es) (dI (es.drop 1))) []) δ = .ok (Ls true (dst es), δ) := fun δ => by
  rw [Zcg (js := []) (caps := []) rfl hd (by rw [ZK, szl]; omega), Zdw]
  rfl
 replace hqq : Zbc (CK C).fok (CK C).fuel 1 (.name 0) [] (.call ZM [.bin .Mult (.v 0) (.v 2), .v 1]) (dI (dst es)) [] [.hole, I S, I T] = _ := hqq
 have hm2 : ∀ x0 x1 x2 x3 x4 : D, Zb4 1 [6, 5] (Zbc (CK C).fok (CK C).fuel 1 (.name 0) [] (.call ZM [.bin .Mult (.v 0) (.v 2), .v 1]) (dI (dst es)) []) [x0, x1, x2, x3, x4, I T, I S] = .ok (Ls true ws, [x0, x1, x2, x3, x4, I T, I S]) := fun x0 x1 x2 x3 x4 => by
  rw [Zcg (js := [6, 5]) (caps := [I S, I T]) (δ1 := [x0, x1, x2, x3, x4, .hole, .hole]) rfl hqq (by rw [ZK, szl]; omega)]
  rfl
 have hit : itW .zip [.nd .lst (dI es), .nd .lst (dI (es.drop 1))] = some (zipD (dI es) (dI (es.drop 1))) := by
  show (if (Kd.lst = .lst \/ Kd.lst = .frl) /\ (Kd.lst = .lst \/ Kd.lst = .frl) then some (zipD (dI es) (dI (es.drop 1))) else none) = _
  rw [if_pos ⟨.inl rfl, .inl rfl⟩]
 have hcut : cutD (dI es) (some 1) none = dI (es.drop 1) := by
  rw [Zfw]
  unfold cutI
  have e2 := HT.Zfo es.length 0 1
  have e3 : HT.sIx es.length es.length none = es.length := rfl
  rw [show ((1 : Nat) : Int) = 1 from rfl] at e2
  have hge : 1 <= es.length := by cases es with | nil => simp at h0 | cons _ _ => simp
  rw [e2, e3, Nat.min_eq_left hge, List.take_of_length_le (by rw [List.length_drop]; exact Nat.le_refl _)]
 have ix1 : ((ixN' (dI es).length (-1)).bind fun j => (dI es)[j]?) = some (.sc (.int e1)) := by
  have := List.getLast?_eq_some_iff.mp h1
  obtain ⟨ys, rfl⟩ := this
  exact Zh7 ys e1
 have ix0 : ((ixN' (dI es).length 0).bind fun j => (dI es)[j]?) = some (.sc (.int e0)) := by
  cases es with
  | nil => simp at h0
  | cons e r =>
   simp only [List.head?_cons, Option.some.injEq] at h0
   subst h0
   exact ixI (e :: r) 0 (by decide) (by rw [List.length_cons]; omega)
 have ixs := Zh7 sp0 sl
 have mu : binW .Mult (.sc (.int t)) (.sc (.int ((m + 2 : Nat) : Int))) = some (.sc (.int (t * ((m + 2 : Nat) : Int)))) := ZbK _ _ (.inl (by omega))
 have q1 := Zn5 C b n t st (sp0 ++ [sl]) ps
 have q2 := Zn6 C false n t st (sp0 ++ [sl]) ps
 have q3 := Zo7 C false n t st (sp0 ++ [sl]) ps
 have q4 := hlook false
 have l1 : (Zby C).lend = true := rfl
 have l2 : (Zbz C).lend = true := rfl
 have l3 : (ZbV C).lend = true := rfl
 have l4 : (ZL C).lend = true := rfl
 have l5 : ZX.lend = true := rfl
 have ck : ∀ (m : Str) (hm : m ∉ FS) (ds : List D) (x1 x2 x3 x4 x5 x6 : D), chkI C m (.late 0) [.node (.ins C FS) true ds, x1, x2, x3, x4, x5, x6] = .ok ((), [.node (.ins C FS) true ds, x1, x2, x3, x4, x5, x6]) := fun m hm ds x1 x2 x3 x4 x5 x6 => if_pos ⟨rfl, hm⟩
 have c1 := ck "parts" (by decide)
 have c2 := ck "total" (by decide)
 have c3 := ck "stop" (by decide)
 have c4 := ck "looked" (by decide)
 clear ck
 generalize sp0 ++ [sl] = sp at q1 q2 q3 q4 ixs ⊢
 generalize ((m + 2 : Nat) : Int) = s2 at hs hl mu hT
 generalize dst es = de at hm1 hm2 hmn'
 rw [show (Zar C).run = Zh (CK C) 3 7 (Zeq C) from rfl]
 rw [runA (show [Fd C b n t st sp ps, I q, Ls true es].length = 3 from rfl)]
 unfold Zeq
 simp only [List.replicate, Nat.reduceSub]
 (simp_all [l1, l2, l3, l4, l5, c1, c2, c3, c4, q1, q2, q3, q4, hl, hs, Z3, Za7, hcut, hit, hm1, hm2, hmn', hmin, mu, ixs, ix0, ix1, <- hS, <- hT]) <;> rfl
theorem Zn7 (m : Int) : ∀ (u f : Int) (ws es : List Int), Near m es (pos u f ws) -> ∃ x, es.head? = some x /\ -m <= x - f /\ x - f <= m := fun u f ws es h => by
 cases es with
 | nil => cases ws <;> exact h.elim
 | cons e r =>
  refine ⟨e, rfl, ?_⟩
  cases ws <;> exact h.1
theorem ZlF (C : Addr) (b : Bool) (n : Nat) (t q : Int) (st sp0 : List Int) (sl : Int) (ps : List (List Int)) (ws es : List Int) (m : Nat) (u k f : Int) (out : List D) (hn2 : 2 <= n) (hn : n <= 10) (hm : m <= 100) (hu : 1 <= u) (hu2 : u <= 1000000000000) (hk : 0 <= k) (h8 : 8 * k <= u) (hl : ws.length = (m + 2) * n + 1)
 (hw : ∀ x ∈ ws, 1 <= x /\ x <= 4) (hT : ws.sum = t * ((m + 2 : Nat) : Int) + sl) (hT1 : 9 <= ws.sum) (hT2 : ws.sum < 100000) (ht : 0 <= t /\ t < 1000) (hnear : Near k es (pos u f ws)) (hlook : ∀ b, (ZL C).run [Fd C b n t st (sp0 ++ [sl]) ps, I q, Ls true ws] = .ok (.node .lst true out, [Fd C false n t st (sp0 ++ [sl]) ps, I q, Ls false ws])) :
 (Zar C).run [Fd C b n t st (sp0 ++ [sl]) ps, I q, Ls true es] = .ok (.node .lst true out, [Fd C false n t st (sp0 ++ [sl]) ps, I q, Ls true es]) := by
 obtain ⟨e0, a0, a1, a2⟩ := Zn7 k u f ws es hnear
 obtain ⟨e1, b0, b1, b2⟩ := ZjA u k ws f es hnear
 obtain ⟨d1, d2⟩ := ZkC u k ws f es hnear
 have hnl := Zih hnear
 rw [Zgk] at hnl
 have hml : (m + 2) * n <= 102 * 10 := Nat.mul_le_mul (by omega) hn
 have hTu : ws.sum * u <= 100000 * 1000000000000 := Int.mul_le_mul (by omega) hu2 (by omega) (by decide)
 have hS : e1 - e0 = ws.sum * u + (e1 - e0 - ws.sum * u) := by omega
 have hΔ : -(2 * k) <= e1 - e0 - ws.sum * u /\ e1 - e0 - ws.sum * u <= 2 * k := by omega
 have hq : ∀ (j : Nat) (h1 : j < (dst es).length) (h2 : j < ws.length), 0 < (dst es)[j] /\ 0 < e1 - e0 /\ (2 * ((dst es)[j] * ws.sum) + (e1 - e0)) / (2 * (e1 - e0)) = ws[j] := fun j h1 h2 => by
  obtain ⟨δ, x1, x2⟩ := d2 j h1 h2
  have hwj := hw ws[j] (List.getElem_mem h2)
  obtain ⟨y1, y2⟩ := Zs0 ws[j] ws.sum u k (dst es)[j] (e1 - e0) δ _ hwj hT1 hu hk h8 x1 hS x2 hΔ
  refine ⟨?_, y1, y2⟩
  have : 1 * u <= ws[j] * u := Int.mul_le_mul_of_nonneg_right hwj.1 (by omega)
  omega
 have hpos0 : 0 < (dst es).length := by omega
 have hS1 := (hq 0 hpos0 (by omega)).2.1
 refine Zlg C b n t q st sp0 sl ps es ws m e0 e1 (e1 - e0) ws.sum out hn2 hn hm ?_ (by omega) (fun d hd => ?_) (fun z => by rw [z] at hpos0; simp at hpos0) a0 b0 rfl hT hS1 (by omega) (by omega) ht ?_ hlook
 . rw [ZK, hnl, hl, show (((m + 2) * n + 1 + 1 : Nat) : Int) = (((m + 2) * n : Nat) : Int) + 1 + 1 by omega, Int.natCast_mul]
   omega
 . obtain ⟨j, hj, rfl⟩ := List.getElem_of_mem hd
   exact (hq j hj (by omega)).1
 . apply List.ext_getElem
   . rw [List.length_map, d1]
   . intro j j1 j2
     rw [List.getElem_map]
     exact (hq j (by rw [List.length_map] at j1; exact j1) j2).2.2
theorem Zn8 : ∀ (n : Nat), ∀ l ∈ lexL n, ∀ x ∈ l, 1 <= x /\ x <= 4
 | 0, l, h, x, hx => by
  rw [lexL, List.mem_singleton] at h
  subst h
  simp at hx
 | n + 1, l, h, x, hx => by
  rw [lexL] at h
  obtain ⟨w, hw, h⟩ := List.mem_flatMap.mp h
  obtain ⟨l', h', rfl⟩ := List.mem_map.mp h
  (rcases List.mem_cons.mp hx with rfl | hx)
  . simp only [List.mem_cons, List.not_mem_nil, or_false] at hw
    omega
  . exact Zn8 n l' h' x hx
theorem Zs2 (n : Nat) (t : Int) : ∀ l ∈ pat n t, l.sum = t /\ ∀ x ∈ l, 1 <= x /\ x <= 4 := fun l hl => by
 rw [Zjr, List.mem_filter, decide_eq_true_eq] at hl
 exact ⟨hl.2, Zn8 n l hl.1⟩
theorem ZlG (ps : List (List Int)) (t : Int) (hp : ∀ l ∈ ps, l.sum = t /\ ∀ x ∈ l, 1 <= x /\ x <= 4) : ∀ row : List Int, (∀ x ∈ row, 0 <= x /\ x < ps.length) -> ((row.map (pt ps)).flatten).sum = t * row.length /\ ∀ x ∈ (row.map (pt ps)).flatten, 1 <= x /\ x <= 4
 | [], _ => ⟨by simp, fun x hx => by simp at hx⟩
 | r :: row, h => by
  obtain ⟨q0, q1⟩ := h r List.mem_cons_self
  have hb := hp (pt ps r) (by
   have hk : r.toNat < ps.length := by omega
   rw [pt, List.getD_eq_getElem?_getD, List.getElem?_eq_getElem hk]
   exact List.getElem_mem hk)
  obtain ⟨i1, i2⟩ := ZlG ps t hp row fun y hy => h y (List.mem_cons_of_mem _ hy)
  rw [List.map_cons, List.flatten_cons]
  refine ⟨?_, fun x hx => ?_⟩
  . rw [List.sum_append, hb.1, i1, List.length_cons, show ((row.length + 1 : Nat) : Int) = 1 + row.length by omega, Int.mul_add, Int.mul_one]
  . rcases List.mem_append.mp hx with hx | hx
    . exact hb.2 x hx
    . exact i2 x hx
theorem Zqw (h6 : lk 6 = false) (h7 : lk 7 = false) (x0 x1 x2 : D) (k c j : Int) (hk : 0 <= k) (hk2 : k <= 1000000000000) : ∀ (es acc : List Int) (a b : Int) (y : D), acc.length + es.length <= 10000 -> ∃ (fs : List Int) (a' b' : Int) (y' : D), Near k fs es /\
 forL (asgT lk (.name 7)) (exs ⟨lk, fok, fuel⟩ [.iff (.cmp .Eq (.v 5) (.k (.int 1))) [.ex (.mut .append 6 [] [.bin .Add (.v 7) (.bin .Mult (.v 3) (.bin .Sub (.bin .Mult (.k (.int 2)) (.call Z7 [.v 4, .k (.int 2)])) (.k (.int 1))))])] [.ex (.mut .append 6 [] [.bin .Sub (.bin .Add (.v 7) (.call Z7 [.v 4, .bin .Add (.bin .Mult (.k (.int 2)) (.v 3)) (.k (.int 1))])) (.v 3)])]]) (dI es) [x0, x1, x2, I k, .node .lst true [I c, I a, I b], I j, Ls true acc, y]
  = .ok (.nx, [x0, x1, x2, I k, .node .lst true [I c, I a', I b'], I j, Ls true (acc ++ fs), y']) := by
 intro es
 induction es with
 | nil => exact fun acc a b y _ => ⟨[], a, b, y, trivial, by rw [List.append_nil]; rfl⟩
 | cons e es ih =>
  intro acc a b y hl
  rw [List.length_cons] at hl
  have m2 : ∀ v : Int, binW .Mult (.sc (.int 2)) (.sc (.int v)) = some (.sc (.int (2 * v))) := fun v => ZbK _ _ (.inl (by decide))
  have ln : Z7.lend = true := rfl
  have ap : ∀ (δ : List D) (v : Int), mdR 6 δ (appD (.sc (.int v))) (some (.node .lst true (dI acc))) = .ok (.sc .non, δ.set 6 (Ls true (acc ++ [v]))) := fun δ v => by
   rw [ZgR 6 δ _ _ (by rw [ZK, szl]; omega), Ls, ZaW]
   rfl
  by_cases hj : j = 1
  . obtain ⟨r, a1, b1, r0, r1, hr⟩ := ZdJ c a b 2 (by decide) (by decide)
    have mk : binW .Mult (.sc (.int k)) (.sc (.int (2 * r - 1))) = some (.sc (.int (k * (2 * r - 1)))) := ZbK _ _ (.inl (by omega))
    obtain ⟨fs, a', b', y', hn, ih⟩ := ih (acc ++ [e + k * (2 * r - 1)]) a1 b1 (I e) (by rw [List.length_append, List.length_singleton]; omega)
    refine ⟨(e + k * (2 * r - 1)) :: fs, a', b', y', ⟨?_, hn⟩, ?_⟩
    . rcases (show r = 0 \/ r = 1 by omega) with q | q <;> rw [q]
      . rw [show k * (2 * 0 - 1) = -k by omega]; omega
      . rw [show k * (2 * 1 - 1) = k by omega]; omega
    rw [show acc ++ (e + k * (2 * r - 1)) :: fs = acc ++ [e + k * (2 * r - 1)] ++ fs by rw [List.append_assoc]; rfl, <- ih, Zai, Zc7]
    simp_all [h6, h7, hj, V.int.injEq, m2, ln, hr, mk, ap]
  . obtain ⟨r, a1, b1, r0, r1, hr⟩ := ZdJ c a b (2 * k + 1) (by omega) (by omega)
    obtain ⟨fs, a', b', y', hn, ih⟩ := ih (acc ++ [e + r - k]) a1 b1 (I e) (by rw [List.length_append, List.length_singleton]; omega)
    refine ⟨(e + r - k) :: fs, a', b', y', ⟨by omega, hn⟩, ?_⟩
    rw [show acc ++ (e + r - k) :: fs = acc ++ [e + r - k] ++ fs by rw [List.append_assoc]; rfl, <- ih, Zai, Zc7]
    simp_all [h6, h7, hj, V.int.injEq, m2, ln, hr, ap]
theorem Zn9 (es : List Int) (u c : Int) (hl : es.length <= 5000) (hu : 1 <= u) (hu2 : u <= 1000000000000) : ∃ fs : List Int, Near (u / 8) fs es /\ ZbZ.run [Ls true es, I u, I c] = .ok (Ls true fs, [Ls true es, I u, I c]) := by
 obtain ⟨a, hs⟩ := Zg5 c
 obtain ⟨j, a1, b1, j0, j1, hx⟩ := ZdJ c a 0 2 (by decide) (by decide)
 obtain ⟨fs, a', b', y', hn, hf⟩ := Zqw (fun j => decide (j < 3) || walked [.v 0] j) (fun _ _ => false) 0 rfl rfl .hole (I u) (I c) (u / 8) c j (by omega) (by omega) es [] a1 b1 .hole (by simp; omega)
 refine ⟨fs, hn, ?_⟩
 simp only [walked, Bool.or_false, List.nil_append, Ls, Zkx] at hf
 rw [show ZbZ.run = Zh C0 3 8 Zcw from rfl]
 rw [runA (show [Ls true es, I u, I c].length = 3 from rfl)]
 unfold Zcw
 simp only [List.replicate, Nat.reduceSub]
 have d8 : ∀ v : Int, binW .FloorDiv (.sc (.int v)) (.sc (.int 8)) = some (.sc (.int (v / 8))) := fun v => Zfl _ _ (by decide)
 have nl0 : newL [] = some (.node .lst true []) := Zbx _ (by simp)
 have g2 : Zao.lend = true := rfl
 have g4 : Z7.lend = true := rfl
 (simp_all [d8, nl0, g2, g4, hs, hx, Z3, hf]) <;> rfl
theorem Zqx (h2 : lk 2 = false) (h3 : lk 3 = false) (x0 x1 : D) : ∀ (xs : List Int) (a b : D), ∃ a' b',
 forL (asgT lk (.tup [2, 3])) (exs ⟨lk, fok, fuel⟩ [.iff (.or (.nt (.bf (.isi .int) [.v 2])) (.or (.bf (.isi .bool) [.v 2]) (.cmp .NotEq (.v 2) (.v 3)))) [.ret (.k (.bl false))] []]) (zipD (dI xs) (dI xs)) [x0, x1, a, b] = .ok (.nx, [x0, x1, a', b']) := by
 intro xs
 induction xs with
 | nil => exact fun a b => ⟨a, b, rfl⟩
 | cons x xs ih =>
  intro a b
  obtain ⟨a', b', ih⟩ := ih (I x) (I x)
  refine ⟨a', b', ?_⟩
  have hd : decide (V.int x = V.int x) = true := decide_eq_true rfl
  rw [<- ih, Zai, zipD, Zc7]
  simp_all [h2, h3, Ziy, ZoV, ZoS, ZoT, ZoU, hd]
theorem Zqy (xs : List Int) : Zbf.run [Ls true xs, Ls true xs] = .ok (.sc (.bl true), [Ls true xs, Ls true xs]) := by
 obtain ⟨a', b', hf⟩ := Zqx (fun j => decide (j < 2) || walked [.v 0, .v 1] j) (fun _ _ => false) 0 rfl rfl .hole .hole xs .hole .hole
 simp only [walked, Bool.or_false] at hf
 rw [show Zbf.run = Zh C0 2 4 Zd6 from rfl]
 rw [runA (show [Ls true xs, Ls true xs].length = 2 from rfl)]
 unfold Zd6
 simp only [List.replicate, Nat.reduceSub]
 have hit : itW .zip [.nd .lst (dI xs), .nd .lst (dI xs)] = some (zipD (dI xs) (dI xs)) := by
  show (if (Kd.lst = .lst \/ Kd.lst = .frl) /\ (Kd.lst = .lst \/ Kd.lst = .frl) then some (zipD (dI xs) (dI xs)) else none) = _
  rw [if_pos ⟨.inl rfl, .inl rfl⟩]
 have hd : decide (V.int ((dI xs).length : Int) = V.int ((dI xs).length : Int)) = true := decide_eq_true rfl
 (simp_all [ZoW, ZoX, hd, Z3, hit, hf]) <;> rfl
theorem ZkF : ∀ xs : List Int, (∀ x ∈ xs, 1 <= x /\ x <= 4) -> (xs.length : Int) <= xs.sum /\ xs.sum <= 4 * xs.length
 | [], _ => by simp
 | x :: xs, h => by
  have i := ZkF xs fun y hy => h y (List.mem_cons_of_mem _ hy)
  have := h x List.mem_cons_self
  (rw [List.sum_cons, List.length_cons])
  omega
theorem Zo8 (h0 : lk 0 = false) (ns : List Int) (p : Int) (hp : 0 < p) : ∀ (m j : Nat) (acc : List Int) (a : D), ∃ (xs : List Int) (a' : D), xs.length = m /\ (∀ x ∈ xs, 0 <= x /\ x < p) /\
 Za4 (asgT lk (.name 0)) (tsts ⟨lk, fok, fuel⟩ []) (evb ⟨lk, fok, fuel⟩ (.bin .Mod (.call Zp [.v 2, .bin .Add (.k (.int 6)) (.v 0)]) (.v 1))).1 (dI (rngI j m)) (dI acc) [a, I p, scr ns] = .ok (dI (acc ++ xs), [a', I p, scr ns]) := by
 intro m
 induction m with
 | zero => exact fun j acc a => ⟨[], a, rfl, fun x h => by simp at h, by rw [List.append_nil]; rfl⟩
 | succ m ih =>
  intro j acc a
  have hr := ZdU ns (6 + j)
  rw [show ((6 + j : Nat) : Int) = 6 + (j : Int) by omega] at hr
  generalize ns.getD (6 + j) 0 = v at hr
  obtain ⟨xs, a', e1, e2, ih⟩ := ih (j + 1) (acc ++ [v % p]) (I j)
  refine ⟨v % p :: xs, a', by rw [List.length_cons, e1], fun x hx => ?_, ?_⟩
  . rcases List.mem_cons.mp hx with rfl | hx
    . exact ⟨Int.emod_nonneg _ (by omega), Int.emod_lt_of_pos _ hp⟩
    . exact e2 x hx
  have l1 : Zp.lend = true := rfl
  rw [show ((j + 1 : Nat) : Int) = (j : Int) + 1 by omega] at ih
  rw [show acc ++ v % p :: xs = acc ++ [v % p] ++ xs by rw [List.append_assoc]; rfl, <- ih, rngI, Zai, Zee, ZaW]
  simp only [scr] at hr ⊢
  simp_all [h0, l1, hr, ZbL _ _ hp]
theorem Zqz (h0 : lk 0 = false) (ns : List Int) (c : Int) (hc : Zp.run [scr ns, .sc (.int 4)] = .ok (I c, [scr ns, .sc (.int 4)])) : ∀ (es acc : List Int) (a : D), ∃ a',
 Za4 (asgT lk (.name 0)) (tsts ⟨lk, fok, fuel⟩ []) (evb ⟨lk, fok, fuel⟩ (.bin .Sub (.bin .Mod (.call Zp [.v 1, .k (.int 4)]) (.bin .Pow (.k (.int 10)) (.k (.int 18)))) (.v 0))).1 (dI es) (dI acc) [a, scr ns] = .ok (dI (acc ++ es.map (c % 1000000000000000000 - ·)), [a', scr ns]) := by
 intro es
 induction es with
 | nil => exact fun acc a => ⟨a, by rw [List.map_nil, List.append_nil]; rfl⟩
 | cons e es ih =>
  intro acc a
  obtain ⟨a', ih⟩ := ih (acc ++ [c % 1000000000000000000 - e]) (I e)
  refine ⟨a', ?_⟩
  have l1 : Zp.lend = true := rfl
  have pw : binW .Pow (.sc (.int 10)) (.sc (.int 18)) = some (.sc (.int 1000000000000000000)) := ZjV 10 18 (by decide)
  have md : binW .Mod (.sc (.int c)) (.sc (.int 1000000000000000000)) = some (.sc (.int (c % 1000000000000000000))) := ZbL _ _ (by decide)
  rw [show acc ++ List.map (c % 1000000000000000000 - ·) (e :: es) = acc ++ [c % 1000000000000000000 - e] ++ es.map (c % 1000000000000000000 - ·) by rw [List.append_assoc]; rfl, <- ih, Zai, Zee, ZaW]
  simp only [scr] at hc ⊢
  simp_all [h0, l1, hc, pw, md]
theorem Zq0 (h0 : lk 0 = false) : ∀ (es acc : List Int) (a : D), ∃ a',
 Za4 (asgT lk (.name 0)) (tsts ⟨lk, fok, fuel⟩ []) (evb ⟨lk, fok, fuel⟩ (.bin .Sub (.k (.int 0)) (.v 0))).1 (dI es) (dI acc) [a] = .ok (dI (acc ++ es.map (0 - ·)), [a']) := by
 intro es
 induction es with
 | nil => exact fun acc a => ⟨a, by rw [List.map_nil, List.append_nil]; rfl⟩
 | cons e es ih =>
  intro acc a
  obtain ⟨a', ih⟩ := ih (acc ++ [0 - e]) (I e)
  refine ⟨a', ?_⟩
  rw [show acc ++ List.map (0 - ·) (e :: es) = acc ++ [0 - e] ++ es.map (0 - ·) by rw [List.append_assoc]; rfl, <- ih, Zai, Zee, ZaW]
  simp_all [h0]
theorem Zq1 (C : Addr) (lk : Nat -> Bool) (fuel : Nat) (k13 : lk 13 = false) (k14 : lk 14 = false) (k15 : lk 15 = false) (F : List D) (q : Int) (row : List Int) (hrl : row.length <= 1000) (x0 x1 x2 x3 x4 x7 x8 x10 x11 x12 : D) : ∀ (LL : List (List Int)) (a b d : D), (∀ L ∈ LL, (Zar C).run [.node (.ins C FS) true F, I q, Ls true L] = .ok (Ls true row, [.node (.ins C FS) true F, I q, Ls true L])) -> ∃ a' b' d',
 forL (asgT lk (.name 13)) (exs ⟨lk, (CK C).fok, fuel⟩ [.asg 14 (.bf .list [.v 13]), .asg 15 (.call (Zar C) [.v 5, .v 6, .v 14]), .iff (.or (.nt (.call Zbf [.v 15, .v 9])) (.cmp .NotEq (.v 14) (.v 13))) [.ret (.k (.bl false))] [], .ex (.mut .append 15 [] [.k (.int 0)]), .iff (.nt (.call Zbf [.call (Zar C) [.v 5, .v 6, .v 14], .v 9])) [.ret (.k (.bl false))] []]) (dL false LL) [x0, x1, x2, x3, x4, .node (.ins C FS) true F, I q, x7, x8, Ls true row, x10, x11, x12, a, b, d]
  = .ok (.nx, [x0, x1, x2, x3, x4, .node (.ins C FS) true F, I q, x7, x8, Ls true row, x10, x11, x12, a', b', d']) := by
 intro LL
 induction LL with
 | nil => exact fun a b d _ => ⟨a, b, d, rfl⟩
 | cons L LL ih =>
  intro a b d hx
  obtain ⟨a', b', d', ih⟩ := ih (Ls false L) (Ls true L) (.node .lst true (dI row ++ [I 0])) fun y hy => hx y (List.mem_cons_of_mem _ hy)
  refine ⟨a', b', d', ?_⟩
  have hs := hx L List.mem_cons_self
  have hr := Zqy row
  have l1 : (Zar C).lend = true := rfl
  have l2 : Zbf.lend = true := rfl
  have cn := ZoY L L
  rw [decide_eq_true rfl] at cn
  have ap : ∀ δ : List D, mdR 15 δ (appD (.sc (.int 0))) (some (.node .lst true (dI row))) = .ok (.sc .non, δ.set 15 (.node .lst true (dI row ++ [I 0]))) := fun δ => ZgR 15 δ _ _ (by rw [ZK, szl]; omega)
  rw [<- ih, Zh2, Zc7]
  simp_all [k13, k14, k15, l1, l2, hs, hr, cn, ap, Z3]
theorem Zo9 (C : Addr) (ns : List Int) (h : ns.length <= 63) : ∃ ds', (Zmt C).run [scr ns] = .ok (.sc (.bl true), ds') := by
 have n0 : Zp.run [scr ns, .sc (.int 0)] = .ok (I (ns.getD 0 0), [scr ns, .sc (.int 0)]) := ZdU ns 0
 have n1 : Zp.run [scr ns, .sc (.int 1)] = .ok (I (ns.getD 1 0), [scr ns, .sc (.int 1)]) := ZdU ns 1
 have n2 : Zp.run [scr ns, .sc (.int 2)] = .ok (I (ns.getD 2 0), [scr ns, .sc (.int 2)]) := ZdU ns 2
 have n3 : Zp.run [scr ns, .sc (.int 3)] = .ok (I (ns.getD 3 0), [scr ns, .sc (.int 3)]) := ZdU ns 3
 have n4 : Zp.run [scr ns, .sc (.int 4)] = .ok (I (ns.getD 4 0), [scr ns, .sc (.int 4)]) := ZdU ns 4
 have n5 : Zp.run [scr ns, .sc (.int 5)] = .ok (I (ns.getD 5 0), [scr ns, .sc (.int 5)]) := ZdU ns 5
 have n54 : Zp.run [scr ns, .sc (.int 54)] = .ok (I (ns.getD 54 0), [scr ns, .sc (.int 54)]) := ZdU ns 54
 generalize ns.getD 0 0 = c0 at n0
 generalize ns.getD 1 0 = c1 at n1
 generalize ns.getD 2 0 = c2 at n2
 generalize ns.getD 3 0 = c3 at n3
 generalize ns.getD 4 0 = c4 at n4
 generalize ns.getD 5 0 = c5 at n5
 generalize ns.getD 54 0 = c54 at n54
 obtain ⟨n, t, st, sp, hn, hmany, h1, h2, h3, h4, h5, h6, h7, hdraw⟩ := Zo3 c0 c1
 have hini := Zox C n t st sp hn h1 h2 h3 h4 h5 h6 h7
 have hp := Zif n t
 have hpi := Zs2 n t
 have hnd := Znz n t
 have hpl : (pat n t).length <= 4096 := Nat.le_trans (Zh3 n t) (by rcases hn with rfl | rfl <;> decide)
 generalize pat n t = ps at hini hp hpi hnd hpl hmany
 have hn2 : 2 <= n := by omega
 have hn10 : n <= 10 := by omega
 have tb := ZkF st h3
 obtain ⟨p, p1, p2, p3, hpr⟩ := Zn3 c2 ps.length (by omega)
 have b0 := Int.emod_nonneg (c3 / 4) (show (48 : Int) ≠ 0 by decide)
 have b1 := Int.emod_lt_of_pos (c3 / 4) (show (0 : Int) < 48 by decide)
 have hit1 := ZuJ (c3 / 4 % 48) (by omega)
 obtain ⟨row, a', e1, e2, hc⟩ := Zo8 (fun i => decide (1 <= i)) (CK C).fok (CK C).fuel rfl ns p (by omega) (c3 / 4 % 48).toNat 0 [] .hole
 rw [List.nil_append, show ((0 : Nat) : Int) = 0 from rfl] at hc
 replace hc : Zbc (CK C).fok (CK C).fuel 1 (.name 0) [] (.bin .Mod (.call Zp [.v 2, .bin .Add (.k (.int 6)) (.v 0)]) (.v 1)) (dI (rngI 0 (c3 / 4 % 48).toNat)) [] [.hole, I p, scr ns] = _ := hc
 have hr : row.length <= 100 := by omega
 have hm : ∀ x1 x2 x3 x4 x5 x7 x8 x9 x10 x11 x12 x13 x14 x15 : D, Zb4 1 [6, 0] (Zbc (CK C).fok (CK C).fuel 1 (.name 0) [] (.bin .Mod (.call Zp [.v 2, .bin .Add (.k (.int 6)) (.v 0)]) (.v 1)) (dI (rngI 0 (c3 / 4 % 48).toNat)) []) [scr ns, x1, x2, x3, x4, x5, I p, x7, x8, x9, x10, x11, x12, x13, x14, x15] = .ok (Ls true row, [scr ns, x1, x2, x3, x4, x5, I p, x7, x8, x9, x10, x11, x12, x13, x14, x15]) := fun x1 x2 x3 x4 x5 x7 x8 x9 x10 x11 x12 x13 x14 x15 => by
  rw [Zcg (js := [6, 0]) (caps := [I p, scr ns]) (δ1 := [.hole, x1, x2, x3, x4, x5, .hole, x7, x8, x9, x10, x11, x12, x13, x14, x15]) rfl hc (by rw [ZK, szl]; omega)]
  rfl
 generalize rngI 0 (c3 / 4 % 48).toNat = rg at hit1 hm
 have hx : ∀ x ∈ row, 0 <= x /\ x < ps.length := fun x hx => by have := e2 x hx; omega
 have hpick : ∃ w : Int, 1 <= w /\ w <= 1000000000000 /\ ((ixN' 4 (c3 % 4)).bind fun j => [D.sc (.int 10), D.sc (.int 100), D.sc (.int 1000000), D.sc (.int 1000000000000)][j]?) = some (.sc (.int w)) := by
  rcases (show c3 % 4 = 0 \/ c3 % 4 = 1 \/ c3 % 4 = 2 \/ c3 % 4 = 3 by omega) with q | q | q | q <;> rw [q]
  . exact ⟨10, by decide, by decide, rfl⟩
  . exact ⟨100, by decide, by decide, rfl⟩
  . exact ⟨1000000, by decide, by decide, rfl⟩
  . exact ⟨1000000000000, by decide, by decide, rfl⟩
 obtain ⟨wd, wd1, wd2, hix⟩ := hpick
 have eu : ∃ u : Int, 1 + c5 % wd = u /\ 1 <= u /\ u <= 1000000000000 := by
  have q0 := Int.emod_nonneg c5 (show wd ≠ 0 by omega)
  have q1 := Int.emod_lt_of_pos c5 (show 0 < wd by omega)
  exact ⟨_, rfl, by omega, by omega⟩
 obtain ⟨u, eu, u1, u2⟩ := eu
 have mw : binW .Mod (.sc (.int c5)) (.sc (.int wd)) = some (.sc (.int (c5 % wd))) := ZbL _ _ (by omega)
 have hsp : ∃ (sp0 : List Int) (sl : Int), sp = sp0 ++ [sl] /\ sp0.sum = t /\ 1 <= sl /\ sl <= 4 := by
  have hd : (sp.drop n).length = 1 := by rw [List.length_drop]; omega
  match hq : sp.drop n, hd with
  | [sl], _ =>
   have e : sp = sp.take n ++ [sl] := by rw [<- hq, List.take_append_drop]
   exact ⟨sp.take n, sl, e, h6, h4 sl (by rw [e]; simp)⟩
 obtain ⟨sp0, sl, hspe, hs0, sl1, sl2⟩ := hsp
 have r1 := Zlf C false n t st sp ps row hn10 h1 h2 hp hr hx
 have lk1 := fun b => Zo4 C b n t p st sp ps row hn2 hn10 h1 h2 hp hnd hx hr
 have lk2 := fun b => Zo5 C b n t p st sp ps row hn2 hn10 h1 h2 hp hnd hx hr h7
 rw [Zsz p row e2] at lk1 lk2
 have hwl := Zh6 n st sp ps row h1 h2 hp hx
 obtain ⟨f1, f2⟩ := ZlG ps t hpi row hx
 have hww : ∀ x ∈ wds st sp ps row, 1 <= x /\ x <= 4 := fun x hx => by
  (rcases List.mem_append.mp hx with hx | hx)
  . rcases List.mem_append.mp hx with hx | hx
    . exact h3 x hx
    . exact f2 x hx
  . exact h4 x hx
 have hws : (wds st sp ps row).sum = t * ((row.length + 2 : Nat) : Int) + sl := by
  rw [wds, List.sum_append, List.sum_append, f1, h5, hspe, List.sum_append, hs0, List.sum_cons, List.sum_nil, show ((row.length + 2 : Nat) : Int) = row.length + 2 by omega, Int.mul_add]
  omega
 have hge := ZkF _ hww
 have hmul : 2 * n <= (row.length + 2) * n := Nat.mul_le_mul_right n (by omega)
 have hmul2 : (row.length + 2) * n <= 102 * 10 := Nat.mul_le_mul (by omega) hn10
 generalize hW : wds st sp ps row = Wd at r1 lk1 lk2 hwl hww hws hge
 rw [hspe] at lk1 lk2
 have rv1 : ∀ x ∈ Wd.reverse, 1 <= x /\ x <= 4 := fun x hx => hww x (List.mem_reverse.mp hx)
 have rv2 : Wd.reverse.sum = Wd.sum := List.sum_reverse Wd
 have rv3 : Wd.reverse.length = Wd.length := List.length_reverse
 have k8 : 8 * (u / 8) <= u := by omega
 have sA : ∀ (es : List Int) (f : Int), Near (u / 8) es (pos u f Wd) -> (Zar C).run [Fd C false n t st sp ps, I p, Ls true es] = .ok (Ls true row, [Fd C false n t st sp ps, I p, Ls true es]) := fun es f hnr => by
  rw [hspe]
  exact ZlF C false n t p st sp0 sl ps Wd es row.length u (u / 8) f (dI row) hn2 hn10 hr u1 u2 (by omega) k8 hwl hww hws (by omega) (by omega) (by omega) hnr lk1
 have sB : ∀ (es : List Int) (f : Int), Near (u / 8) es (pos u f Wd.reverse) -> (Zar C).run [Fd C false n t st sp ps, I p, Ls true es] = .ok (Ls true row, [Fd C false n t st sp ps, I p, Ls true es]) := fun es f hnr => by
  rw [hspe]
  exact ZlF C false n t p st sp0 sl ps Wd.reverse es row.length u (u / 8) f (dI row) hn2 hn10 hr u1 u2 (by omega) k8 (by rw [rv3]; exact hwl) rv1 (by rw [rv2]; exact hws) (by rw [rv2]; omega) (by rw [rv2]; omega) (by omega) hnr lk2
 have ef : ∃ f : Int, c4 % 199999999999999999 - 100000000000000000 + 1 = f := ⟨_, rfl⟩
 obtain ⟨f, ef⟩ := ef
 have hed := Zn4 Wd f u (by omega) hww
 obtain ⟨fs, hfn, hmv⟩ := Zn9 (pos u f Wd) u c54 (by rw [Zgk]; omega) u1 u2
 have hfl := Zih hfn
 rw [Zgk] at hfl
 obtain ⟨a12, ht⟩ := Zqz (fun i => decide (1 <= i)) (CK C).fok (CK C).fuel rfl ns c4 n4 fs.reverse [] .hole
 obtain ⟨a13, hg⟩ := Zq0 (fun i => decide (1 <= i)) (CK C).fok (CK C).fuel rfl (pos u f Wd).reverse [] .hole
 rw [List.nil_append] at ht hg
 have t1 := sA (pos u f Wd) f (Zhk (by omega) _)
 have t2 := sA fs f hfn
 have t3 := sB (fs.reverse.map (c4 % 1000000000000000000 - ·)) _ (by have := Zhj (c4 % 1000000000000000000) hfn; rw [Zii] at this; exact this)
 have t4 := sB ((pos u f Wd).reverse.map (0 - ·)) (0 - f - Wd.sum * u) (by rw [<- Zii u 0 Wd f]; exact Zhj 0 (Zhk (by omega) _))
 have hpl1 : (pos u f Wd).length <= 5000 := by rw [Zgk]; omega
 have g1l : (fs.reverse.map (c4 % 1000000000000000000 - ·)).length <= 5000 := by rw [List.length_map, List.length_reverse]; omega
 have g2l : ((pos u f Wd).reverse.map (0 - ·)).length <= 5000 := by rw [List.length_map, List.length_reverse]; omega
 have dr1 := ZiE fs
 have dr2 := ZiE (pos u f Wd)
 generalize fs.reverse.map (c4 % 1000000000000000000 - ·) = TT at ht t3 g1l
 generalize (pos u f Wd).reverse.map (0 - ·) = GG at hg t4 g2l
 generalize fs.reverse = fr at ht dr1
 generalize (pos u f Wd).reverse = er at hg dr2
 generalize pos u f Wd = EE at hed hmv t1 hpl1 dr2
 replace ht : Zbc (CK C).fok (CK C).fuel 1 (.name 0) [] (.bin .Sub (.bin .Mod (.call Zp [.v 1, .k (.int 4)]) (.bin .Pow (.k (.int 10)) (.k (.int 18)))) (.v 0)) (dI fr) [] [.hole, scr ns] = _ := ht
 have hmt : ∀ x1 x2 x3 x4 x5 x6 x7 x8 x9 x10 x11 x12 x13 x14 x15 : D, Zb4 1 [0] (Zbc (CK C).fok (CK C).fuel 1 (.name 0) [] (.bin .Sub (.bin .Mod (.call Zp [.v 1, .k (.int 4)]) (.bin .Pow (.k (.int 10)) (.k (.int 18)))) (.v 0)) (dI fr) []) [scr ns, x1, x2, x3, x4, x5, x6, x7, x8, x9, x10, x11, x12, x13, x14, x15] = .ok (Ls true TT, [scr ns, x1, x2, x3, x4, x5, x6, x7, x8, x9, x10, x11, x12, x13, x14, x15]) := fun x1 x2 x3 x4 x5 x6 x7 x8 x9 x10 x11 x12 x13 x14 x15 => by
  rw [Zcg (js := [0]) (caps := [scr ns]) (δ1 := [.hole, x1, x2, x3, x4, x5, x6, x7, x8, x9, x10, x11, x12, x13, x14, x15]) rfl ht (by rw [ZK, szl]; omega)]
  rfl
 replace hg : Zbc (CK C).fok (CK C).fuel 1 (.name 0) [] (.bin .Sub (.k (.int 0)) (.v 0)) (dI er) [] [.hole] = _ := hg
 have hmg : ∀ δ : List D, Zb4 1 [] (Zbc (CK C).fok (CK C).fuel 1 (.name 0) [] (.bin .Sub (.k (.int 0)) (.v 0)) (dI er) []) δ = .ok (Ls true GG, δ) := fun δ => by
  rw [Zcg (js := []) (caps := []) rfl hg (by rw [ZK, szl]; omega), Zdw]
  rfl
 obtain ⟨y1, y2, y3, hlp⟩ := Zq1 C (fun j => decide (j < 1) || walked [.lst [.v 10, .v 11, .v 12, .comp 1 [] (.name 0) .val [.rev (.v 10)] [] (.bin .Sub (.k (.int 0)) (.v 0))]] j) (CK C).fuel rfl rfl rfl [I n, I t, Ls false st, Ls false sp, .node .lst false (dL false ps), Dk false ps] p row (by omega) (scr ns) (I n) (I t) (Ls false st) (Ls false sp) (I f) (I u) (Ls false EE) (Ls false fs) (Ls false TT) [EE, fs, TT, GG] .hole .hole .hole (fun L hL => by
  simp only [List.mem_cons, List.not_mem_nil, or_false] at hL
  rcases hL with rfl | rfl | rfl | rfl
  . exact t1
  . exact t2
  . exact t3
  . exact t4)
 simp only [walked, Bool.or_false, dL, List.map_cons, List.map_nil] at hlp
 have told := Zoy C true n t st sp ps (by omega)
 have hll := Zhh true ps
 have nw : newF C (Zaq C) [.late 1, .late 2, .tmp (Ls true st), .tmp (Ls true sp)] [scr ns, I n, I t, Ls false st, Ls false sp, .hole, .hole, .hole, .hole, .hole, .hole, .hole, .hole, .hole, .hole, .hole] = .ok (Fd C true n t st sp ps, [scr ns, I n, I t, Ls false st, Ls false sp, .hole, .hole, .hole, .hole, .hole, .hole, .hole, .hole, .hole, .hole, .hole]) := by
  unfold newF
  rw [ZpS (show Zea (Zaq C).lend [.late 1, .late 2, .tmp (Ls true st), .tmp (Ls true sp)] [scr ns, I n, I t, Ls false st, Ls false sp, .hole, .hole, .hole, .hole, .hole, .hole, .hole, .hole, .hole, .hole, .hole] = .ok ([I n, I t, Ls true st, Ls true sp], [scr ns, I n, I t, Ls false st, Ls false sp, .hole, .hole, .hole, .hole, .hole, .hole, .hole, .hole, .hole, .hole, .hole]) from rfl), hini]
  rfl
 have ck : ∀ (m : Str) (hm : m ∉ FS) (ds : List D) (x0 x1 x2 x3 x4 x6 x7 x8 x9 x10 x11 x12 x13 x14 x15 : D), chkI C m (.late 5) [x0, x1, x2, x3, x4, .node (.ins C FS) true ds, x6, x7, x8, x9, x10, x11, x12, x13, x14, x15] = .ok ((), [x0, x1, x2, x3, x4, .node (.ins C FS) true ds, x6, x7, x8, x9, x10, x11, x12, x13, x14, x15]) := fun m hm ds x0 x1 x2 x3 x4 x6 x7 x8 x9 x10 x11 x12 x13 x14 x15 => if_pos ⟨rfl, hm⟩
 have c1' := ck "printed" (by decide)
 have c3' := ck "patterns" (by decide)
 clear ck
 have l1 : (ZaN C).lend = true := rfl
 have l3 : (Za8 C).lend = true := rfl
 have g1 : Zp.lend = true := rfl
 have g2 : Zbp.lend = true := rfl
 have g3 : ZaO.lend = true := rfl
 have g4 : ZcZ.lend = true := rfl
 have g5 : ZbZ.lend = true := rfl
 have w17 : binW .Pow (.sc (.int 10)) (.sc (.int 17)) = some (.sc (.int 100000000000000000)) := ZjV 10 17 (by decide)
 have w6 : binW .Pow (.sc (.int 10)) (.sc (.int 6)) = some (.sc (.int 1000000)) := ZjV 10 6 (by decide)
 have w12 : binW .Pow (.sc (.int 10)) (.sc (.int 12)) = some (.sc (.int 1000000000000)) := ZjV 10 12 (by decide)
 have mu2 : binW .Mult (.sc (.int 2)) (.sc (.int 100000000000000000)) = some (.sc (.int 200000000000000000)) := ZbK _ _ (.inl (by decide))
 have sb1 : (200000000000000000 : Int) - 1 = 199999999999999999 := by decide
 have m1 : binW .Mod (.sc (.int c4)) (.sc (.int 199999999999999999)) = some (.sc (.int (c4 % 199999999999999999))) := ZbL _ _ (by decide)
 have m4 : ∀ v : Int, binW .Mod (.sc (.int v)) (.sc (.int 4)) = some (.sc (.int (v % 4))) := fun v => ZbL _ _ (by decide)
 have m48 : ∀ v : Int, binW .Mod (.sc (.int v)) (.sc (.int 48)) = some (.sc (.int (v % 48))) := fun v => ZbL _ _ (by decide)
 have d4 : ∀ v : Int, binW .FloorDiv (.sc (.int v)) (.sc (.int 4)) = some (.sc (.int (v / 4))) := fun v => Zfl _ _ (by decide)
 have nl4 : ∀ a b c d : D, newL [a, b, c, d] = some (.node .lst true [a, b, c, d]) := fun a b c d => Zbx _ (by rw [szl]; simp)
 show ∃ ds', Zh (CK C) 1 16 (Zhg C) [scr ns] = .ok (.sc (.bl true), ds')
 rw [runA (show [scr ns].length = 1 from rfl)]
 unfold Zhg
 simp only [List.replicate, Nat.reduceSub]
 simp only [scr] at n0 n1 n2 n3 n4 n5 n54 hm hmt hlp nw ⊢
 (simp_all [g1, g2, g3, g4, g5, l1, l3, n0, n1, n2, n3, n4, n5, n54, hdraw, nw, c1', c3', told, hll, hpr, w17, w6, w12, mu2, sb1, m1, m4, m48, d4, nl4, hix, mw, eu, ef, hit1, hm, r1, hed, hmv, hmt, hmg, dr1, dr2, hlp, Z3, Za7]) <;> exact ⟨_, rfl⟩
end My
open PySem PySem.W PyProof.Rows
set_option maxRecDepth 100000 in
set_option maxHeartbeats 0 in
theorem PySem.Challenge.cw_barlabel_k41_whole_scanned_as_the_row_holds : PySem.Challenge.rw_barlabel_k41_whole_scanned_as_the_row.Holds := by
 w_on; o_law; k_head; (case hw => w_witness2)
 k_fill
 refine T.Zok (l := PySem.Challenge.rw_barlabel_k41_whole_scanned_as_the_row) (k := 11) (x := "_law_script") (R := fun K => (My.Zmt (My.Zi0 K)).run) rfl rfl ⟨rfl, by decide, by decide⟩ (fun w h Y => PySem.W.kIn_of Y) ?F (fun K ns hl => My.Zo9 (My.Zi0 K) ns hl)
 case F =>
  intro w mg fa h KX G hmg
  refine' My.Zsx KX G hmg ?aC ?pgC ?hdC ?poC ?saC ?mkC ?kcC ?nF0 ?nF1 ?nF2 ?nF3 ?nF4 ?nF5 ?x0 ?l0 ?c0 ?k0 ?x1 ?l1 ?c1 ?k1 ?x2 ?l2 ?c2 ?k2 ?x3 ?l3 ?c3 ?k3 ?x4 ?l4 ?c4 ?k4 ?x5 ?l5 ?c5 ?k5 ?x6 ?l6 ?c6 ?k6 ?x7 ?l7 ?c7 ?k7 ?x8 ?y8 ?l8 ?c8 ?k8 ?x9 ?y9 ?l9 ?c9 ?k9 ?x10 ?y10 ?l10 ?c10 ?k10 ?x11 ?y11 ?l11 ?c11 ?k11 ?x12 ?y12 ?l12 ?c12 ?k12 ?x13 ?y13 ?l13 ?c13 ?k13 ?x14 ?y14 ?l14 ?c14 ?k14 ?x15 ?y15 ?l15 ?c15 ?k15 ?x16 ?y16 ?l16 ?c16 ?k16 ?x17 ?l17 ?c17 ?k17 ?x18 ?l18 ?c18 ?k18 ?x19 ?l19 ?c19 ?k19 ?x20 ?l20 ?c20 ?k20 ?x21 ?l21 ?c21 ?k21 ?x22 ?l22 ?c22 ?k22 ?x23 ?l23 ?c23 ?k23 ?x24 ?l24 ?c24 ?k24 ?x25 ?l25 ?c25 ?k25 ?x26 ?l26 ?c26 ?k26 ?x27 ?l27 ?c27 ?k27 ?x28 ?l28 ?c28 ?k28 ?x29 ?l29 ?c29 ?k29 ?z0 ?z1 ?z2 ?z3 ?z4 ?z5 ?z6 ?z7 ?z8 ?z9 ?z10 ?z11 ?z12 ?z13 ?z14 ?zc0 ?zt0 ?zl0 ?zz0 ?zi0
  (case aC => k_is); (case pgC => k_is); (case hdC => k_is); (case poC => k_is); (case saC => k_is); (case mkC => k_is)
  (case kcC => k_is); (case nF0 => k_is); (case nF1 => k_is); (case nF2 => k_is); (case nF3 => k_is); (case nF4 => k_is)
  (case nF5 => k_is); (case x0 => k_is); (case l0 => k_is); (case c0 => k_is); (case k0 => k_is); (case x1 => k_is)
  (case l1 => k_is); (case c1 => k_is); (case k1 => k_is); (case x2 => k_is); (case l2 => k_is); (case c2 => k_is)
  (case k2 => k_is); (case x3 => k_is); (case l3 => k_is); (case c3 => k_is); (case k3 => k_is); (case x4 => k_is)
  (case l4 => k_is); (case c4 => k_is); (case k4 => k_is); (case x5 => k_is); (case l5 => k_is); (case c5 => k_is)
  (case k5 => k_is); (case x6 => k_is); (case l6 => k_is); (case c6 => k_is); (case k6 => k_is); (case x7 => k_is)
  (case l7 => k_is); (case c7 => k_is); (case k7 => k_is); (case x8 => k_is); (case y8 => k_is); (case l8 => k_is)
  (case c8 => k_is); (case k8 => k_is); (case x9 => k_is); (case y9 => k_is); (case l9 => k_is); (case c9 => k_is)
  (case k9 => k_is); (case x10 => k_is); (case y10 => k_is); (case l10 => k_is); (case c10 => k_is); (case k10 => k_is)
  (case x11 => k_is); (case y11 => k_is); (case l11 => k_is); (case c11 => k_is); (case k11 => k_is); (case x12 => k_is)
  (case y12 => k_is); (case l12 => k_is); (case c12 => k_is); (case k12 => k_is); (case x13 => k_is); (case y13 => k_is)
  (case l13 => k_is); (case c13 => k_is); (case k13 => k_is); (case x14 => k_is); (case y14 => k_is); (case l14 => k_is)
  (case c14 => k_is); (case k14 => k_is); (case x15 => k_is); (case y15 => k_is); (case l15 => k_is); (case c15 => k_is)
  (case k15 => k_is); (case x16 => k_is); (case y16 => k_is); (case l16 => k_is); (case c16 => k_is); (case k16 => k_is)
  (case x17 => k_is); (case l17 => k_is); (case c17 => k_is); (case k17 => k_is); (case x18 => k_is); (case l18 => k_is)
  (case c18 => k_is); (case k18 => k_is); (case x19 => k_is); (case l19 => k_is); (case c19 => k_is); (case k19 => k_is)
  (case x20 => k_is); (case l20 => k_is); (case c20 => k_is); (case k20 => k_is); (case x21 => k_is); (case l21 => k_is)
  (case c21 => k_is); (case k21 => k_is); (case x22 => k_is); (case l22 => k_is); (case c22 => k_is); (case k22 => k_is)
  (case x23 => k_is); (case l23 => k_is); (case c23 => k_is); (case k23 => k_is); (case x24 => k_is); (case l24 => k_is)
  (case c24 => k_is); (case k24 => k_is); (case x25 => k_is); (case l25 => k_is); (case c25 => k_is); (case k25 => k_is)
  (case x26 => k_is); (case l26 => k_is); (case c26 => k_is); (case k26 => k_is); (case x27 => k_is); (case l27 => k_is)
  (case c27 => k_is); (case k27 => k_is); (case x28 => k_is); (case l28 => k_is); (case c28 => k_is); (case k28 => k_is)
  (case x29 => k_is); (case l29 => k_is); (case c29 => k_is); (case k29 => k_is); (case z0 => k_is); (case z1 => k_is)
  (case z2 => k_is); (case z3 => k_is); (case z4 => k_is); (case z5 => k_is); (case z6 => k_is); (case z7 => k_is)
  (case z8 => k_is); (case z9 => k_is); (case z10 => k_is); (case z11 => k_is); (case z12 => k_is); (case z13 => k_is)
  (case z14 => k_is); (case zc0 => k_is); (case zt0 => k_is); (case zl0 => k_is); (case zz0 => exact Nat.le_of_ble_eq_true rfl); (case zi0 => rfl)
