import PyProof.Rows.All
import Wide.All
import OpenK.AllK
import Wide.FinOn
import Lean
import PyProof.EqAt
import PyProof.EqKinds
import PyProof.TupleCall
import PySem.Challenge.RW_barlabel_k40_edges
set_option Elab.async false
set_option linter.all false
set_option maxRecDepth 100000
set_option maxHeartbeats 4100000
namespace L2
open PySem PySem.Spec PyProof.Rows
noncomputable abbrev Key := Sum Int Str
noncomputable def keyIs : Key → Value → Bool
  | .inl k, v => Value.isInt k v
  | .inr x, v => Value.isStrOf x v
noncomputable def keyH (w : World) : Key → Int
  | .inl k => hashInt k
  | .inr x => hashStr w x
theorem keyIs_shape : ∀ {k : Key} {v : Value}, keyIs k v = true → (∃ i t, k = Sum.inl i ∧ v = Value.int i t) ∨ (∃ x t, k = Sum.inr x ∧ v = Value.str x t)
  | .inl i, v, h => by
    obtain ⟨t, e⟩ := Value.isInt_shape (k := i) (v := v) h
    exact .inl ⟨i, t, rfl, e⟩
  | .inr x, v, h => by
    obtain ⟨t, e⟩ := Value.isStrOf_shape (x := x) (v := v) h
    exact .inr ⟨x, t, rfl, e⟩
theorem key_ll (a b : Int) : decide ((Sum.inl a : Key) = Sum.inl b) = (a == b) := by
  by_cases e : a = b
  · subst e; simp
  · have h : ¬ (Sum.inl a : Key) = Sum.inl b := fun q => e (Sum.inl.inj q)
    rw [decide_eq_false h]
    exact (beq_eq_false_iff_ne.mpr e).symm
theorem key_rr (a b : Str) : decide ((Sum.inr a : Key) = Sum.inr b) = decide (a = b) := by
  by_cases e : a = b
  · subst e; simp
  · have h : ¬ (Sum.inr a : Key) = Sum.inr b := fun q => e (Sum.inr.inj q)
    rw [decide_eq_false h, decide_eq_false e]
theorem key_lr (a : Int) (b : Str) : decide ((Sum.inl a : Key) = Sum.inr b) = false := decide_eq_false (fun q => nomatch q)
theorem key_rl (a : Str) (b : Int) : decide ((Sum.inr a : Key) = Sum.inl b) = false := decide_eq_false (fun q => nomatch q)
noncomputable def mixKind (prog : Program) (w : World) : PySem.KeyKind prog w Key where
  is := keyIs
  hash := keyH w
  inj := fun v a b ha hb => by
    rcases keyIs_shape ha with ⟨i, t, rfl, rfl⟩ | ⟨x, t, rfl, rfl⟩
    · rcases keyIs_shape hb with ⟨j, u, rfl, e⟩ | ⟨y, u, rfl, e⟩
      · injection e with e1 _; rw [e1]
      · exact nomatch e
    · rcases keyIs_shape hb with ⟨j, u, rfl, e⟩ | ⟨y, u, rfl, e⟩
      · exact nomatch e
      · injection e with e1 _; rw [e1]
  byValue := fun k v h => by
    rcases keyIs_shape h with ⟨i, t, rfl, rfl⟩ | ⟨x, t, rfl, rfl⟩ <;> rfl
  pyHash := fun hv h => by
    rcases keyIs_shape hv with ⟨i, t, rfl, rfl⟩ | ⟨x, t, rfl, rfl⟩
    · exact wpAny_pyHash_int h
    · exact wpAny_pyHash_str h
  eqBool := fun hu hv h => by
    rcases keyIs_shape hu with ⟨i, t, rfl, rfl⟩ | ⟨x, t, rfl, rfl⟩
    · rcases keyIs_shape hv with ⟨j, u, rfl, rfl⟩ | ⟨y, u, rfl, rfl⟩
      · rw [key_ll] at h; exact wpAny_eqBool_int h
      · rw [key_lr] at h; exact SeqAt.EqAt.int_str i t y u _ _ _ _ h
    · rcases keyIs_shape hv with ⟨j, u, rfl, rfl⟩ | ⟨y, u, rfl, rfl⟩
      · rw [key_rl] at h; exact SeqAt.EqAt.str_int x t j u _ _ _ _ h
      · rw [key_rr] at h; exact wpAny_eqBool_str h
  «strs» := fun k x t v h => by
    rcases keyIs_shape h with ⟨i, u, rfl, e⟩ | ⟨y, u, rfl, e⟩
    · exact nomatch e
    · injection e with e1 _
      subst e1
      cases v <;> rfl
end L2
namespace L2
open PySem PySem.Spec PyProof.Rows
inductive V where
  | non | bl (b : Bool) | int (i : Int) | str (x : Str) | byt (b : Array UInt8) | flt (b : UInt64) | ref (a : Addr) | ty (n : String)
  deriving DecidableEq
noncomputable def RelV : V → Value → Prop
  | .non, u => u = Value.none
  | .bl b, u => u = Value.bool b
  | .int i, u => ∃ t, u = Value.int i t
  | .str x, u => ∃ t, u = Value.str x t
  | .byt b, u => ∃ t, u = Value.bytes b t
  | .flt b, u => ∃ t, u = Value.float b t
  | .ref a, u => u = Value.ref a
  | .ty n, u => u = Value.type n
noncomputable abbrev Vals : List V → List Value → Prop := Paired RelV
theorem Vals.length {xs : List V} {us : List Value} (r : Vals xs us) : xs.length = us.length := Paired.length r
theorem Vals.get : ∀ {xs : List V} {us : List Value} {i : Nat} {x : V}, Vals xs us → xs[i]? = some x → ∃ u, us[i]? = some u ∧ RelV x u
  | _, _, _, _, .nil, e => by simp at e
  | _, _, 0, _, .cons r _, e => by simp at e; subst e; exact ⟨_, rfl, r⟩
  | _, _, i + 1, x, .cons _ t, e => by
    obtain ⟨u, h1, h2⟩ := Vals.get (i := i) (x := x) t (by simpa using e)
    exact ⟨u, by simpa using h1, h2⟩
theorem Vals.set {x : V} {u : Value} (r : RelV x u) : ∀ {xs : List V} {us : List Value} (i : Nat), Vals xs us → Vals (xs.set i x) (us.set i u)
  | _, _, _, .nil => .nil
  | _, _, 0, .cons _ t => .cons r t
  | _, _, i + 1, .cons q t => .cons q (Vals.set r i t)
theorem Vals.append : ∀ {xs ys : List V} {us ws : List Value}, Vals xs us → Vals ys ws → Vals (xs ++ ys) (us ++ ws)
  | _, _, _, _, .nil, s => s
  | _, _, _, _, .cons r t, s => .cons r (Vals.append t s)
theorem Vals.take : ∀ {xs : List V} {us : List Value} (n : Nat), Vals xs us → Vals (xs.take n) (us.take n)
  | _, _, 0, _ => .nil
  | _, _, _ + 1, .nil => .nil
  | _, _, n + 1, .cons r t => .cons r (Vals.take n t)
theorem Vals.drop : ∀ {xs : List V} {us : List Value} (n : Nat), Vals xs us → Vals (xs.drop n) (us.drop n)
  | _, _, 0, r => r
  | _, _, _ + 1, .nil => .nil
  | _, _, n + 1, .cons _ t => Vals.drop n t
noncomputable def RelO : Option V → Option Value → Prop
  | some v, some u => RelV v u
  | none, none => True
  | _, _ => False
noncomputable def KV {κ : Type} : List (κ × V) → List (κ × Value) → Prop := Paired fun (p : κ × V) (q : κ × Value) => p.1 = q.1 ∧ RelV p.2 q.2
noncomputable def kV : Key → V
  | .inl i => .int i
  | .inr x => .str x
inductive HO where
  | lst (xs : List V)
  | tup (xs : List V)
  | dK (kvs : List (Key × V)) | dT (kvs : List (List Key × V))
  | set (S : Int → Bool) (n : Nat)
  | ins (C dx : Addr) (fs : List (Str × V))
  | own (x : Addr)
  | xd (fs : List (Str × V))
  | met (f x : Addr)
  | rng (lo hi : Int)
  | frz (o : Obj) (u : HO)
  | tbl (ps : Array Value)
  | ext (φ : Heap → Prop)
noncomputable abbrev Hp := Addr → Option HO
noncomputable def upd (H : Hp) (a : Addr) (o : HO) : Hp := fun b => if b = a then some o else H b
theorem upd_same {H : Hp} {a : Addr} {o : HO} : upd H a o a = some o := by unfold upd; rw [if_pos rfl]
theorem upd_ne {H : Hp} {a b : Addr} {o : HO} (h : b ≠ a) : upd H a o b = H b := by unfold upd; rw [if_neg h]
theorem ne_of_none {H : Hp} {a b : Addr} {o : HO} (h : H a = some o) (h' : H b = none) : a ≠ b := by
  intro e; subst e; rw [h] at h'; cases h'
section
variable (P : Program) (w : World)
noncomputable def ObjOk (H : Hp) (h : Heap) (a : Addr) : HO → Prop
  | .lst xs => xs.length ≤ sizeLine ∧ ∃ (its : List Value) (n : Nat), Vals xs its ∧ h.get? a = some { cls := .type "list", data := .seq its.toArray n }
  | .tup xs => xs.length ≤ sizeLine ∧ ∃ its : List Value, Vals xs its ∧ IsTup h a its.toArray
  | .dK kvs => kvs.length ≤ sizeLine ∧ (a == sysModules) = false ∧ ∃ vs, KV kvs vs ∧ h.DictOf (mixKind P w) a vs
  | .dT kvs => kvs.length ≤ sizeLine ∧ (a == sysModules) = false ∧ ∃ xs : List (List Key × Addr × Value),
      Paired (fun (p : List Key × V) (q : List Key × Addr × Value) => p.1 = q.1 ∧ H q.2.1 = some (.tup (p.1.map kV)) ∧ RelV p.2 q.2.2) kvs xs ∧
      ∃ o es ep, h.get? a = some o ∧ o.ExactDict ∧ o.data = .dict es ep ∧ es.toList = xs.map (entryOfKey (tupleKind (mixKind P w))) ∧ (xs.map (·.1)).Nodup
  | .set S n => h.SetOf (intKind P w) a S n
  | .ins C dx fs => H dx = some (.own a) ∧ fs.length ≤ 1000 ∧ dx ≠ a ∧ h.get? a = some (PySem.W.instObj C dx) ∧
      ∃ mA, h.Ns1 dx mA ∧ (∀ f, RelO (fs.lookup f) (mA f)) ∧ PySem.Within mA (fs.map (·.1))
  | .own _ => ∃ o, h.get? a = some o
  | .xd fs => ∃ mA, h.Ns1 a mA ∧ ∀ f, RelO (fs.lookup f) (mA f)
  | .rng lo hi => ∃ t u v, h.get? a = some { cls := .type "range", data := .fields #[.int lo t, .int hi u, .int 1 v] }
  | .frz o u => h.get? a = some o ∧ ObjOk H h a u
  | .tbl ps => h.get? a = some { cls := .none, data := .fields ps }
  | .met f x => h.get? a = some (PySem.W.methodObj (.ref f) (.ref x))
  | .ext φ => φ h ∧ (∃ o, h.get? a = some o) ∧ ∀ h1 h2 : Heap, φ h1 → (∀ o, h1.get? a = some o → h2.get? a = some o) → φ h2
noncomputable def HOk (H : Hp) (h : Heap) : Prop := ∀ a o, H a = some o → ObjOk P w H h a o
end
section
variable {P : Program} {w : World} {H H' : Hp} {h h' : Heap} {a : Addr} {o : HO}
theorem ObjOk.lt (x : ObjOk P w H h a o) : a < h.objs.size := by
  cases o with
  | lst xs => obtain ⟨_, _, _, _, e⟩ := x; exact Heap.lt_size e
  | tup xs => obtain ⟨_, _, _, p⟩ := x; exact p.lt
  | dK kvs => obtain ⟨_, _, _, _, o, _, _, e, _⟩ := x; exact Heap.lt_size e
  | dT kvs => obtain ⟨_, _, _, _, o, _, _, e, _⟩ := x; exact Heap.lt_size e
  | set S n => obtain ⟨o, _, _, _, e, _⟩ := x; exact Heap.lt_size e
  | ins C dx fs => obtain ⟨_, _, _, e, _⟩ := x; exact Heap.lt_size e
  | own y => obtain ⟨_, e⟩ := x; exact Heap.lt_size e
  | xd fs => obtain ⟨_, ⟨_, _, _, e, _⟩, _⟩ := x; exact Heap.lt_size e
  | rng lo hi => obtain ⟨_, _, _, e⟩ := x; exact Heap.lt_size e
  | frz ob u => obtain ⟨e, _⟩ := x; exact Heap.lt_size e
  | tbl ps => exact Heap.lt_size (show h.get? a = some _ from x)
  | met f y => exact Heap.lt_size (show h.get? a = some _ from x)
  | ext φ => obtain ⟨_, ⟨_, e⟩, _⟩ := x; exact Heap.lt_size e
theorem Paired.mapP {α β : Type} {F G : α → β → Prop} : ∀ {l₁ : List α} {l₂ : List β}, Paired F l₁ l₂ → (∀ a b, F a b → G a b) → Paired G l₁ l₂
  | _, _, .nil, _ => .nil
  | _, _, .cons r t, f => .cons (f _ _ r) (Paired.mapP t f)
theorem ObjOk.stay (x : ObjOk P w H h a o) (k : ∀ b u, (b = a ∨ H b = some (.own a)) → h.get? b = some u → h'.get? b = some u)
    (ho : ∀ b, H b = some (.own a) → H' b = some (.own a)) (ht : ∀ b xs, H b = some (.tup xs) → H' b = some (.tup xs)) : ObjOk P w H' h' a o := by
  induction o with
  | lst xs => obtain ⟨z, its, n, r, e⟩ := x; exact ⟨z, its, n, r, k _ _ (.inl rfl) e⟩
  | tup xs => obtain ⟨z, its, r, ob, e, c⟩ := x; exact ⟨z, its, r, ob, k _ _ (.inl rfl) e, c⟩
  | dK kvs => obtain ⟨z, y, vs, r, ob, es, ep, e, c⟩ := x; exact ⟨z, y, vs, r, ob, es, ep, k _ _ (.inl rfl) e, c⟩
  | dT kvs =>
    obtain ⟨z, y, xs, r, ob, es, ep, e, c⟩ := x
    exact ⟨z, y, xs, Paired.mapP r fun p q z => ⟨z.1, ht _ _ z.2.1, z.2.2⟩, ob, es, ep, k _ _ (.inl rfl) e, c⟩
  | set S n => obtain ⟨ob, es, ep, t, e, c⟩ := x; exact ⟨ob, es, ep, t, k _ _ (.inl rfl) e, c⟩
  | ins C dx fs =>
    obtain ⟨d, z, ne, e, mA, ⟨od, es, ep, e2, c⟩, r⟩ := x
    exact ⟨ho _ d, z, ne, k _ _ (.inl rfl) e, mA, ⟨od, es, ep, k _ _ (.inr d) e2, c⟩, r⟩
  | own y => obtain ⟨ob, e⟩ := x; exact ⟨ob, k _ _ (.inl rfl) e⟩
  | xd fs => obtain ⟨mA, ⟨od, es, ep, e, c⟩, r⟩ := x; exact ⟨mA, ⟨od, es, ep, k _ _ (.inl rfl) e, c⟩, r⟩
  | rng lo hi => obtain ⟨t, u, v, e⟩ := x; exact ⟨t, u, v, k _ _ (.inl rfl) e⟩
  | frz ob u ih => obtain ⟨e, q⟩ := x; exact ⟨k _ _ (.inl rfl) e, ih q⟩
  | tbl ps =>
    have e : h.get? a = some { cls := .none, data := .fields ps } := x
    show h'.get? a = some { cls := .none, data := .fields ps }
    exact k a _ (.inl rfl) e
  | met f y =>
    have e : h.get? a = some (PySem.W.methodObj (.ref f) (.ref y)) := x
    show h'.get? a = some (PySem.W.methodObj (.ref f) (.ref y))
    exact k a _ (.inl rfl) e
  | ext φ => obtain ⟨p, ⟨o, e⟩, st⟩ := x; exact ⟨st _ _ p fun o q => k _ _ (.inl rfl) q, ⟨o, k _ _ (.inl rfl) e⟩, st⟩
theorem HOk.lt (x : HOk P w H h) (e : H a = some o) : a < h.objs.size := (x a o e).lt
theorem HOk.fresh (x : HOk P w H h) (e : h.objs.size ≤ a) : H a = none := by
  cases q : H a with
  | none => rfl
  | some u => exact absurd (Nat.lt_of_lt_of_le (x.lt q) e) (Nat.lt_irrefl _)
theorem HOk.kept (x : HOk P w H h) (k : ∀ b u, h.get? b = some u → h'.get? b = some u) : HOk P w H h' := fun a o e =>
  (x a o e).stay (fun b u _ q => k b u q) (fun _ q => q) fun _ _ q => q
theorem HOk.laid (x : HOk P w H h) (k : ∀ b u, h.get? b = some u → h'.get? b = some u) (hp : h.objs.size ≤ a) (new : ObjOk P w (upd H a o) h' a o) : HOk P w (upd H a o) h' := fun b u e => by
  have hn := x.fresh hp
  by_cases hb : b = a
  · subst hb; rw [upd_same] at e; cases e; exact new
  · rw [upd_ne hb] at e
    exact (x b u e).stay (fun c v _ q => k c v q) (fun c q => by rw [upd_ne (ne_of_none q hn)]; exact q) fun c xs q => by rw [upd_ne (ne_of_none q hn)]; exact q
end
noncomputable def Rd (H : Hp) (a : Addr) (u : HO) : Prop := H a = some u ∨ ∃ o, H a = some (.frz o u)
theorem Rd.of {H : Hp} {a : Addr} {u : HO} (h : H a = some u) : Rd H a u := .inl h
theorem Rd.ok {P : Program} {w : World} {H : Hp} {h : Heap} {a : Addr} {u : HO} (r : Rd H a u) (x : HOk P w H h) : ObjOk P w H h a u := by
  rcases r with r | ⟨o, r⟩
  · exact x a u r
  · obtain ⟨_, q⟩ := x a _ r
    exact q
noncomputable def Mut : Option HO → Prop
  | some (.lst _) => True
  | some (.dK _) => True
  | some (.dT _) => True
  | some (.set _ _) => True
  | some (.ins _ _ _) => True
  | some (.ext _) => True
  | _ => False
section
variable {P : Program} {w : World} {H : Hp} {h h' : Heap} {x e : Addr} {o' : HO}
theorem HOk.write (ok : HOk P w H h) (mu : Mut (H x)) (he : e = x ∨ H e = some (.own x)) (k : ∀ b u, b ≠ e → h.get? b = some u → h'.get? b = some u) (heo : ∃ u, h'.get? e = some u)
    (new : ObjOk P w (upd H x o') h' x o') : HOk P w (upd H x o') h' := fun b u q => by
  have nown : ∀ c y, H c = some (.own y) → c ≠ x := fun c y r z => by subst z; rw [r] at mu; exact mu
  have ntup : ∀ c xs, H c = some (.tup xs) → c ≠ x := fun c xs r z => by subst z; rw [r] at mu; exact mu
  by_cases hb : b = x
  · subst hb; rw [upd_same] at q; cases q; exact new
  · rw [upd_ne hb] at q
    by_cases hbe : b = e
    · have q' : H b = some (.own x) := by
        rcases he with z | z
        · exact absurd (hbe.trans z) hb
        · rw [hbe]; exact z
      rw [q] at q'; cases q'
      obtain ⟨v, hv⟩ := heo
      exact ⟨v, by rw [hbe]; exact hv⟩
    · refine (ok b u q).stay (fun c v hc r => k c v ?_ r) (fun c r => by rw [upd_ne (nown c b r)]; exact r) fun c xs r => by rw [upd_ne (ntup c xs r)]; exact r
      rcases hc with rfl | hc
      · exact hbe
      · rintro rfl
        rcases he with z | z
        · exact nown c b hc z
        · rw [hc] at z; cases z; exact hb rfl
end
structure Un (fs ex : List Addr) (H H' : Hp) (h h' : Heap) : Prop where
  keep : ∀ b o, h.get? b = some o → H b = none → b ∉ fs → b ∉ ex → h'.get? b = some o
  slot : ∀ b o, h.get? b = some o → H b = none → b ∈ fs → b ∉ ex → ∃ sl, h'.get? b = some { o with slots := sl }
  free : ∀ b o, h.get? b = some o → H b = none → b ∉ ex → H' b = none
  there : ∀ b o, h.get? b = some o → b ∉ ex → ∃ o', h'.get? b = some o'
  tups : ∀ b xs, H b = some (.tup xs) → H' b = some (.tup xs)
  frzs : ∀ b o u, H b = some (.frz o u) → H' b = some (.frz o u)
  tbls : ∀ b ps, H b = some (.tbl ps) → ∃ more, H' b = some (.tbl (ps ++ more))
section
variable {fs fs' ex ex' : List Addr} {H H1 H2 : Hp} {h h1 h2 h' : Heap} {a x e : Addr} {o : HO}
theorem Un.any (u : Un fs ex H H1 h h1) {b : Addr} {ob : Obj} (q : h.get? b = some ob) (n : H b = none) (hx : b ∉ ex) : ∃ sl, h1.get? b = some { ob with slots := sl } := by
  by_cases hb : b ∈ fs
  · exact u.slot b ob q n hb hx
  · exact ⟨ob.slots, u.keep b ob q n hb hx⟩
theorem Un.trans (a : Un fs ex H H1 h h1) (b : Un fs ex H1 H2 h1 h2) : Un fs ex H H2 h h2 where
  keep := fun c ob q n hc hx => b.keep c ob (a.keep c ob q n hc hx) (a.free c ob q n hx) hc hx
  slot := fun c ob q n hc hx => by
    obtain ⟨sl, e1⟩ := a.slot c ob q n hc hx
    obtain ⟨sl', e2⟩ := b.slot c _ e1 (a.free c ob q n hx) hc hx
    exact ⟨sl', e2⟩
  free := fun c ob q n hx => by
    obtain ⟨o', e1⟩ := a.there c ob q hx
    exact b.free c o' e1 (a.free c ob q n hx) hx
  there := fun c ob q hx => by
    obtain ⟨o', e1⟩ := a.there c ob q hx
    exact b.there c o' e1 hx
  tups := fun c xs q => b.tups c xs (a.tups c xs q)
  frzs := fun c ob xs q => b.frzs c ob xs (a.frzs c ob xs q)
  tbls := fun c ps q => by
    obtain ⟨m1, e1⟩ := a.tbls c ps q
    obtain ⟨m2, e2⟩ := b.tbls c _ e1
    exact ⟨m1 ++ m2, by rw [e2, Array.append_assoc]⟩
theorem Un.kept (k : ∀ b u, h.get? b = some u → h'.get? b = some u) : Un fs ex H H h h' :=
  ⟨fun b ob q _ _ _ => k b ob q, fun b ob q _ _ _ => ⟨ob.slots, k b ob q⟩, fun _ _ _ n _ => n, fun b ob q _ => ⟨ob, k b ob q⟩, fun _ _ q => q, fun _ _ _ q => q, fun _ ps q => ⟨#[], by rw [q]; simp⟩⟩
theorem Un.refl : Un fs ex H H h h := Un.kept fun _ _ q => q
theorem Un.laid (k : ∀ b u, h.get? b = some u → h'.get? b = some u) (hp : h.objs.size ≤ a) (hn : H a = none) : Un fs ex H (upd H a o) h h' where
  keep := fun b u q _ _ _ => k b u q
  slot := fun b u q _ _ _ => ⟨u.slots, k b u q⟩
  free := fun b u q n _ => by rw [upd_ne (Nat.ne_of_lt (Nat.lt_of_lt_of_le (Heap.lt_size q) hp))]; exact n
  there := fun b u q _ => ⟨u, k b u q⟩
  tups := fun b xs q => by rw [upd_ne (ne_of_none q hn)]; exact q
  frzs := fun b u xs q => by rw [upd_ne (ne_of_none q hn)]; exact q
  tbls := fun b ps q => ⟨#[], by rw [upd_ne (ne_of_none q hn), q]; simp⟩
theorem Un.write (mu : Mut (H x)) (he : e = x ∨ H e = some (.own x)) (k : ∀ b u, b ≠ e → h.get? b = some u → h'.get? b = some u) (heo : ∃ u, h'.get? e = some u) : Un fs ex H (upd H x o) h h' := by
  have hx : ∀ b, H b = none → b ≠ x := fun b n z => by subst z; rw [n] at mu; exact mu
  have hb : ∀ b, H b = none → b ≠ e := fun b n z => by
    subst z
    rcases he with r | r
    · exact hx b n r
    · rw [n] at r; cases r
  have hm : ∀ b u, H b = some u → ¬ Mut (some u) → b ≠ x := fun b u q nm z => by subst z; rw [q] at mu; exact nm mu
  refine ⟨fun b u q n _ _ => k b u (hb b n) q, fun b u q n _ _ => ⟨u.slots, k b u (hb b n) q⟩, fun b u q n _ => by rw [upd_ne (hx b n)]; exact n, fun b u q _ => ?_,
    fun b xs q => by rw [upd_ne (hm b _ q fun z => z)]; exact q, fun b u xs q => by rw [upd_ne (hm b _ q fun z => z)]; exact q, fun b ps q => ⟨#[], by rw [upd_ne (hm b _ q fun z => z), q]; simp⟩⟩
  by_cases hbe : b = e
  · subst hbe; exact heo
  · exact ⟨u, k b u hbe q⟩
theorem Un.mono (u : Un fs ex H H1 h h1) (hs : ∀ b ∈ fs, b ∈ fs') (hx : ∀ b ∈ ex, b ∈ ex') : Un fs' ex' H H1 h h1 :=
  ⟨fun b ob q n hb he => u.keep b ob q n (fun z => hb (hs b z)) fun z => he (hx b z), fun _ _ q n _ he => u.any q n fun z => he (hx _ z), fun b ob q n he => u.free b ob q n fun z => he (hx b z), fun b ob q he => u.there b ob q fun z => he (hx b z), u.tups, u.frzs, u.tbls⟩
end
noncomputable def trk (h : Heap) (H : Hp) : List Addr := (List.range h.objs.size).filter fun a => (H a).isSome
noncomputable def hidT (h : Heap) (H : Hp) : Heap := PySem.W.hideAll h (trk h H)
theorem hidT_size (h : Heap) (H : Hp) : (hidT h H).objs.size = h.objs.size := PySem.W.hideAll_size _ _
theorem hidT_get {h : Heap} {H : Hp} {b : Addr} {o : Obj} (e : h.get? b = some o) (n : H b = none) : (hidT h H).get? b = some o :=
  PySem.W.hideAll_get _ e fun hm => by
    have q : (H b).isSome = true := (List.mem_filter.mp hm).2
    rw [n] at q; simp at q
theorem of_hidT {h : Heap} {H : Hp} {b : Addr} {o : Obj} (e : (hidT h H).get? b = some o) : h.get? b = some o ∧ H b = none := by
  have e' : h.get? b = some o := PySem.W.of_hideAll (trk h H) e
  refine ⟨e', ?_⟩
  cases q : H b with
  | none => rfl
  | some x =>
    have hm : b ∈ trk h H := List.mem_filter.mpr ⟨List.mem_range.mpr (Heap.lt_size e'), by simp [q]⟩
    have z : (hidT h H).get? b = none := PySem.W.hideAll_none (trk h H) hm
    rw [z] at e; cases e
noncomputable def allNews (g h : Heap) (L : Addr) : List (Addr × Obj) := (List.range h.objs.size).filterMap fun a => if a = L ∨ (g.get? a).isSome = true then none else (h.get? a).map fun o => (a, o)
noncomputable def rest (g h : Heap) (L d : Addr) : List (Addr × Obj) := (allNews g h L).filter fun p => decide (p.1 ≠ d)
end L2
namespace L2
open PySem PySem.Spec PyProof.Rows
structure Mod (K : PySem.W.Frag) (mg : Str → Option Value) (base : Heap) : Prop where
  kin : K.In base
  glob : base.Ns mainGlobals mg
  blt : ∃ mb, base.Ns builtinsNs mb ∧ ∀ x : Str, x ≠ "__name__" → mb x = bootBuiltins x
  nolimit : base.NoLimit
structure Cx where
  prog : Program
  w : World
  K : PySem.W.Frag
  mg : Str → Option Value
  base : Heap
  A : Around
  N : List Str
  s₀ : Shared
  H₀ : Hp
  env : Env
  outer : List Env
  stack : List Env
  ex : List Addr
  fn : Str → Bool
  calm : Bool
  pn : List (Addr × Obj)
  xe : Value → Shared → Prop
noncomputable def frs (l : List Env) : List Addr := l.filterMap (·.frame)
noncomputable abbrev Cx.fs (X : Cx) : List Addr := frs X.outer
noncomputable def Vis (sc : Scope) (x : Str) : Prop := sc.names.lookup x = some .local ∨ sc.names.lookup x = some .cell ∨ sc.names.lookup x = some .free
noncomputable def Loc (sc : Scope) (x : Str) : Prop := sc.names.lookup x = some .local ∨ sc.names.lookup x = some .cell
noncomputable def Look (env : Env) (h : Heap) (m : Str → Option Value) (x : Str) (u : Value) : Prop :=
  (env.kindOf x = some .local ∧ m x = some u) ∨ ((env.kindOf x = some .cell ∨ env.kindOf x = some .free) ∧ ∃ c, env.cells.lookup x = some c ∧ h.IsCell c (some u))
structure Cx.Ok (X : Cx) : Prop where
  mod : Mod X.K X.mg X.base
  kind : X.env.scope.kind = .function
  glob : X.env.globals = mainGlobals
  blt : X.env.builtins = builtinsNs
  above : X.s₀.heap.objs.size ≤ X.env.locals
  inj : ∀ x y c, X.env.cells.lookup x = some c → X.env.cells.lookup y = some c → x = y
  has : ∀ x, (X.env.kindOf x = some .cell ∨ X.env.kindOf x = some .free) → ∃ c, X.env.cells.lookup x = some c
  cab : ∀ x c, X.fn x = true → X.env.cells.lookup x = some c → X.s₀.heap.objs.size ≤ c
  hd : X.calm = true → X.A.handled = none
  frames : X.A.frames = some X.stack
  stk : X.stack = X.outer ∨ (X.stack = X.env :: X.outer ∧ X.env.frame = some X.env.locals)
  exf : ∀ b ∈ X.ex, b ≠ X.env.locals ∧ ∀ x c, X.env.cells.lookup x = some c → c ≠ b
  bs : ∀ b o, X.base.get? b = some o → X.s₀.heap.get? b = some o ∧ X.H₀ b = none
  bsz : X.base.objs.size ≤ X.s₀.heap.objs.size
  noex : ∀ b o, X.base.get? b = some o → b ∉ X.ex
  exfs : ∀ b ∈ X.ex, b ∉ X.fs
  funs : X.s₀.heap.FunFrames X.base X.outer
  frf : ∀ b ∈ X.fs, X.H₀ b = none
structure Inv (X : Cx) (pins : List (Addr × Obj)) (σ : List (Option V)) (H : Hp) (s : Shared) : Prop where
  ok : X.Ok
  os : s.os = X.s₀.os
  bare : AllBare s.gens
  base : Un X.fs X.ex X.H₀ H X.s₀.heap s.heap
  loc : ∃ m, s.heap.Ns X.env.locals m ∧ ∀ (i : Nat) (x : Str) (v : V), X.N[i]? = some x → σ[i]? = some (some v) → Vis X.env.scope x → ∃ u, RelV v u ∧ Look X.env s.heap m x u
  cell : ∀ x c, X.env.cells.lookup x = some c → ∃ v, s.heap.IsCell c v
  free : H X.env.locals = none
  freeC : ∀ x c, X.env.cells.lookup x = some c → H c = none
  pin : ∀ p ∈ X.pn ++ pins, s.heap.get? p.1 = some p.2 ∧ H p.1 = none ∧ p.1 ≠ X.env.locals ∧ p.1 ∉ X.fs ∧ ∀ v, p.2.data ≠ .cell v
  hok : HOk X.prog X.w H s.heap
  len : σ.length = X.N.length
section
variable {X : Cx} {pins : List (Addr × Obj)} {σ : List (Option V)} {H H' : Hp} {s : Shared} {h' : Heap}
theorem Cx.Ok.nofr (ok : X.Ok) {b : Addr} {o : Obj} (e : X.base.get? b = some o) : b ∉ X.fs := fun hb => by
  have := (ok.funs.mem hb).1
  rw [e] at this; cases this
theorem Inv.bs (I : Inv X pins σ H s) : ∀ b o, X.base.get? b = some o → s.heap.get? b = some o ∧ H b = none := fun b o e =>
  ⟨I.base.keep b o (I.ok.bs b o e).1 (I.ok.bs b o e).2 (I.ok.nofr e) (I.ok.noex b o e), I.base.free b o (I.ok.bs b o e).1 (I.ok.bs b o e).2 (I.ok.noex b o e)⟩
theorem Inv.bk (I : Inv X pins σ H s) : ∀ b o, X.base.get? b = some o → s.heap.get? b = some o := fun b o e => (I.bs b o e).1
theorem Inv.mod (I : Inv X pins σ H s) : Mod X.K X.mg X.base := I.ok.mod
theorem Inv.kIn (I : Inv X pins σ H s) : X.K.In s.heap := I.ok.mod.kin.keeps I.bk
theorem Inv.nolimit (I : Inv X pins σ H s) : s.heap.NoLimit := I.ok.mod.nolimit.keeps I.bk
theorem Inv.fr (I : Inv X pins σ H s) : ∃ m, Fr X.base X.env.locals s.heap m :=
  let ⟨m, hn, _⟩ := I.loc
  ⟨m, hn, I.bk, Nat.le_trans I.ok.bsz I.ok.above⟩
theorem Inv.lt (I : Inv X pins σ H s) : X.env.locals < s.heap.objs.size := let ⟨_, hn, _⟩ := I.loc; hn.lt
theorem Inv.sz (I : Inv X pins σ H s) : X.s₀.heap.objs.size ≤ s.heap.objs.size := Nat.le_trans I.ok.above (Nat.le_of_lt I.lt)
theorem Inv.nofs (I : Inv X pins σ H s) {a : Addr} (h : s.heap.objs.size ≤ a) : a ∉ X.fs := fun hb => by
  obtain ⟨_, o, ho, _⟩ := I.ok.funs.mem hb
  exact absurd (Nat.lt_of_lt_of_le (Heap.lt_size ho) (Nat.le_trans I.sz h)) (Nat.lt_irrefl _)
theorem Inv.cne (I : Inv X pins σ H s) : ∀ x c, X.env.cells.lookup x = some c → c ≠ X.env.locals := fun x c e z => by
  obtain ⟨v, o, ho, hd⟩ := I.cell x c e
  obtain ⟨m, ⟨o', es, ep, ho', hd', _⟩, _⟩ := I.loc
  rw [z, ho'] at ho; cases ho; rw [hd'] at hd; cases hd
theorem Inv.funs (I : Inv X pins σ H s) : s.heap.FunFrames X.base X.outer := by
  have all : ∀ (l : List Env), (∀ b ∈ frs l, b ∈ X.fs) → X.s₀.heap.FunFrames X.base l → s.heap.FunFrames X.base l := by
    intro l
    induction l with
    | nil => intro _ _; trivial
    | cons env r ih =>
      intro hs hl
      obtain ⟨hk, ⟨L, o, hf, hn, ho, hd⟩, hr⟩ := hl
      have hL : L ∈ X.fs := hs L (by unfold frs; rw [List.filterMap_cons, hf]; exact List.mem_cons_self)
      obtain ⟨sl, e⟩ := I.base.slot L o ho (I.ok.frf L hL) hL fun z => I.ok.exfs L z hL
      exact ⟨hk, ⟨L, _, hf, hn, e, hd⟩, ih (fun b hb => hs b (by unfold frs; rw [List.filterMap_cons, hf]; exact List.mem_cons_of_mem _ hb)) hr⟩
  exact all X.outer (fun _ hb => hb) I.ok.funs
theorem Inv.stack (I : Inv X pins σ H s) : s.heap.FunFrames X.base X.stack := by
  rcases I.ok.stk with e | ⟨e, hf⟩
  · rw [e]; exact I.funs
  · rw [e]
    obtain ⟨m, hn, _⟩ := I.loc
    refine .cons (by rw [I.ok.kind]; decide) hf hn ?_ I.funs
    exact Heap.get?_none_of_le (Nat.le_trans I.ok.bsz I.ok.above)
theorem Inv.stkSub (I : Inv X pins σ H s) : ∀ b ∈ frs X.stack, b ∈ X.env.locals :: X.fs := fun b hb => by
  rcases I.ok.stk with e | ⟨e, hf⟩
  · rw [e] at hb; exact List.mem_cons_of_mem _ hb
  · rw [e] at hb
    unfold frs at hb
    rw [List.filterMap_cons, hf] at hb
    exact hb
theorem Inv.stkFree (I : Inv X pins σ H s) : ∀ b ∈ frs X.stack, H b = none := fun b hb => by
  rcases List.mem_cons.mp (I.stkSub b hb) with e | hb
  · rw [e]; exact I.free
  · obtain ⟨_, o, ho, _⟩ := I.ok.funs.mem hb
    exact I.base.free b o ho (I.ok.frf b hb) fun z => I.ok.exfs b z hb
theorem Inv.step {g' : Array GenState} {t' : Nat} {d' : Drawn} {ch : List Addr} (I : Inv X pins σ H s)
    (hch : ∀ b ∈ ch, (b ∈ X.ex ∨ X.s₀.heap.objs.size ≤ b) ∧ b ≠ X.env.locals ∧ (∀ x c, X.env.cells.lookup x = some c → c ≠ b) ∧ ∀ p ∈ X.pn ++ pins, p.1 ≠ b)
    (keep : ∀ b o, b ≠ X.env.locals → b ∉ X.fs → b ∉ ch → s.heap.get? b = some o → H b = none → h'.get? b = some o)
    (slot : ∀ b o, b ≠ X.env.locals → b ∈ X.fs → b ∉ ch → s.heap.get? b = some o → H b = none → ∃ sl, h'.get? b = some { o with slots := sl }) (free : ∀ b o, b ∉ ch → s.heap.get? b = some o → H b = none → H' b = none)
    (there : ∀ b o, b ∉ ch → s.heap.get? b = some o → ∃ o', h'.get? b = some o')
    (tups : ∀ b xs, H b = some (.tup xs) → H' b = some (.tup xs)) (frzs : ∀ b o u, H b = some (.frz o u) → H' b = some (.frz o u)) (tbls : ∀ b ps, H b = some (.tbl ps) → ∃ more, H' b = some (.tbl (ps ++ more)))
    (ns : ∀ m, s.heap.Ns X.env.locals m → h'.Ns X.env.locals m) (hok : HOk X.prog X.w H' h') (hg : AllBare g') :
    Inv X pins σ H' { s with heap := h', gens := g', drawn := d', toks := t' } := by
  have neL : ∀ b o, X.s₀.heap.get? b = some o → b ≠ X.env.locals := fun b o e => Nat.ne_of_lt (Nat.lt_of_lt_of_le (Heap.lt_size e) I.ok.above)
  have neC : ∀ b o, X.s₀.heap.get? b = some o → b ∉ X.ex → b ∉ ch := fun b o e hx hb => by
    rcases (hch b hb).1 with z | z
    · exact hx z
    · exact absurd (Nat.lt_of_lt_of_le (Heap.lt_size e) z) (Nat.lt_irrefl _)
  have cellK : ∀ x c, X.env.cells.lookup x = some c → ∀ v, s.heap.IsCell c v → h'.IsCell c v := fun x c e v ⟨o, ho, hd⟩ => by
    have nch : c ∉ ch := fun z => (hch c z).2.2.1 x c e rfl
    by_cases hc : c ∈ X.fs
    · obtain ⟨sl, q⟩ := slot c o (I.cne x c e) hc nch ho (I.freeC x c e)
      exact ⟨_, q, hd⟩
    · exact ⟨o, keep c o (I.cne x c e) hc nch ho (I.freeC x c e), hd⟩
  refine ⟨I.ok, I.os, hg, ⟨fun b o e n hb hx => ?_, fun b o e n hb hx => ?_, fun b o e n hx => ?_, fun b o e hx => ?_, fun b xs e => tups b xs (I.base.tups b xs e), fun b o xs e => frzs b o xs (I.base.frzs b o xs e), fun b ps e => ?_⟩, ?_, fun x c e => ?_, ?_, fun x c e => ?_, fun p hp => ?_, hok, I.len⟩
  · exact keep b o (neL b o e) hb (neC b o e hx) (I.base.keep b o e n hb hx) (I.base.free b o e n hx)
  · obtain ⟨sl, e1⟩ := I.base.slot b o e n hb hx
    obtain ⟨sl', e2⟩ := slot b _ (neL b o e) hb (neC b o e hx) e1 (I.base.free b o e n hx)
    exact ⟨sl', e2⟩
  · obtain ⟨o', e1⟩ := I.base.there b o e hx
    exact free b o' (neC b o e hx) e1 (I.base.free b o e n hx)
  · obtain ⟨o', e1⟩ := I.base.there b o e hx
    exact there b o' (neC b o e hx) e1
  · obtain ⟨m1, e1⟩ := I.base.tbls b ps e
    obtain ⟨m2, e2⟩ := tbls b _ e1
    exact ⟨m1 ++ m2, by rw [e2, Array.append_assoc]⟩
  · obtain ⟨m, hn, hl⟩ := I.loc
    refine ⟨m, ns m hn, fun i x v e1 e2 e3 => ?_⟩
    obtain ⟨u, r, l⟩ := hl i x v e1 e2 e3
    refine ⟨u, r, ?_⟩
    rcases l with l | ⟨k, c, e, z⟩
    · exact .inl l
    · exact .inr ⟨k, c, e, cellK x c e _ z⟩
  · obtain ⟨v, z⟩ := I.cell x c e
    exact ⟨v, cellK x c e v z⟩
  · obtain ⟨m, ⟨o, _, _, ho, _⟩, _⟩ := I.loc
    exact free _ o (fun z => (hch _ z).2.1 rfl) ho I.free
  · obtain ⟨v, o, ho, hd⟩ := I.cell x c e
    exact free c o (fun z => (hch c z).2.2.1 x c e rfl) ho (I.freeC x c e)
  · obtain ⟨e, n, ne, nf, d⟩ := I.pin p hp
    have nch : p.1 ∉ ch := fun z => (hch p.1 z).2.2.2 p hp rfl
    exact ⟨keep p.1 p.2 ne nf nch e n, free p.1 p.2 nch e n, ne, nf, d⟩
theorem Inv.un {t' : Nat} (I : Inv X pins σ H s) (u : Un X.fs [] H H' s.heap h') (hok : HOk X.prog X.w H' h') : Inv X pins σ H' { s with heap := h', toks := t' } := by
  obtain ⟨m, ⟨o, es, ep, ho, r⟩, _⟩ := id I.loc
  obtain ⟨sl, hL⟩ := u.any ho I.free (by simp)
  exact I.step (g' := s.gens) (d' := s.drawn) (ch := []) (fun _ z => nomatch z) (fun b o _ hb _ e n => u.keep b o e n hb (by simp)) (fun b o _ hb _ e n => u.slot b o e n hb (by simp)) (fun b o _ e n => u.free b o e n (by simp)) (fun b o _ e => u.there b o e (by simp)) u.tups u.frzs u.tbls (fun m' hm => by
    obtain ⟨o', es', ep', ho', r'⟩ := hm
    rw [ho] at ho'; cases ho'
    exact ⟨_, es', ep', hL, r'⟩) hok I.bare
theorem Inv.call {g' : Array GenState} {t' : Nat} {d' : Drawn} {ch : List Addr} (I : Inv X pins σ H s) (u : Un (frs X.stack) ch H H' s.heap h') (hok : HOk X.prog X.w H' h') (hg : AllBare g')
    (hch : ∀ b ∈ ch, (b ∈ X.ex ∨ X.s₀.heap.objs.size ≤ b) ∧ b ≠ X.env.locals ∧ (∀ x c, X.env.cells.lookup x = some c → c ≠ b) ∧ ∀ p ∈ X.pn ++ pins, p.1 ≠ b) :
    Inv X pins σ H' { s with heap := h', gens := g', drawn := d', toks := t' } := by
  obtain ⟨m, ⟨o, es, ep, ho, r⟩, _⟩ := id I.loc
  obtain ⟨sl, hL⟩ := u.any ho I.free fun z => (hch _ z).2.1 rfl
  exact I.step (ch := ch) hch (fun b o hL hb hc e n => u.keep b o e n (fun z => (List.mem_cons.mp (I.stkSub b z)).elim hL hb) hc) (fun b o _ _ hc e n => u.any e n hc) (fun b o hc e n => u.free b o e n hc) (fun b o hc e => u.there b o e hc) u.tups u.frzs u.tbls (fun m' hm => by
    obtain ⟨o', es', ep', ho', r'⟩ := hm
    rw [ho] at ho'; cases ho'
    exact ⟨_, es', ep', hL, r'⟩) hok hg
theorem Inv.turned {t' : Nat} {it : Addr} (I : Inv X pins σ H s) (k : ∀ b o, b ≠ it → s.heap.get? b = some o → h'.get? b = some o) (hn : H it = none) (hL : it ≠ X.env.locals)
    (h1 : it ∈ X.ex ∨ X.s₀.heap.objs.size ≤ it) (h2 : ∀ x c, X.env.cells.lookup x = some c → c ≠ it) (h3 : ∀ p ∈ X.pn ++ pins, p.1 ≠ it) : Inv X pins σ H { s with heap := h', toks := t' } := by
  have nit : ∀ b u, H b = some u → b ≠ it := fun b u e z => by rw [z, hn] at e; cases e
  refine I.step (g' := s.gens) (d' := s.drawn) (ch := [it]) (fun b hb => ?_) (fun b o _ _ hc e _ => k b o (fun z => hc (by simp [z])) e) (fun b o _ _ hc e _ => ⟨o.slots, k b o (fun z => hc (by simp [z])) e⟩) (fun _ _ _ _ n => n)
    (fun b o hc e => ⟨o, k b o (fun z => hc (by simp [z])) e⟩) (fun _ _ e => e) (fun _ _ _ e => e) (fun b ps e => ⟨#[], by rw [e]; simp⟩) (fun m hm => ?_) (fun b u e => ?_) I.bare
  · have e : b = it := by simpa using hb
    subst e
    exact ⟨h1, hL, h2, h3⟩
  · obtain ⟨o, es, ep, ho, r⟩ := hm
    exact ⟨o, es, ep, k _ o (Ne.symm hL) ho, r⟩
  · refine (I.hok b u e).stay (fun c v hc q => k c v ?_ q) (fun _ q => q) fun _ _ q => q
    rcases hc with z | z
    · rw [z]; exact nit b u e
    · exact nit c _ z
theorem Inv.tok (I : Inv X pins σ H s) (t : Nat) : Inv X pins σ H { s with toks := t } := I.un (h' := s.heap) (t' := t) Un.refl I.hok
theorem Inv.kept {t' : Nat} (I : Inv X pins σ H s) (k : ∀ b u, s.heap.get? b = some u → h'.get? b = some u) : Inv X pins σ H { s with heap := h', toks := t' } := I.un (Un.kept k) (I.hok.kept k)
theorem Inv.laid {a : Addr} {o : HO} {t' : Nat} (I : Inv X pins σ H s) (k : ∀ b u, s.heap.get? b = some u → h'.get? b = some u) (hp : s.heap.objs.size ≤ a) (new : ObjOk X.prog X.w (upd H a o) h' a o) :
    Inv X pins σ (upd H a o) { s with heap := h', toks := t' } := I.un (Un.laid k hp (I.hok.fresh hp)) (I.hok.laid k hp new)
theorem Inv.write {x e : Addr} {o : HO} {t' : Nat} (I : Inv X pins σ H s) (mu : Mut (H x)) (he : e = x ∨ H e = some (.own x)) (k : ∀ b u, b ≠ e → s.heap.get? b = some u → h'.get? b = some u) (heo : ∃ u, h'.get? e = some u)
    (new : ObjOk X.prog X.w (upd H x o) h' x o) : Inv X pins σ (upd H x o) { s with heap := h', toks := t' } := I.un (Un.write mu he k heo) (I.hok.write mu he k heo new)
theorem Inv.pins_of {pins' : List (Addr × Obj)} (I : Inv X pins σ H s) (h : ∀ p ∈ pins', s.heap.get? p.1 = some p.2 ∧ H p.1 = none ∧ p.1 ≠ X.env.locals ∧ p.1 ∉ X.fs ∧ ∀ v, p.2.data ≠ .cell v) : Inv X pins' σ H s :=
  ⟨I.ok, I.os, I.bare, I.base, I.loc, I.cell, I.free, I.freeC, fun p hp => (List.mem_append.mp hp).elim (fun z => I.pin p (List.mem_append_left _ z)) (h p), I.hok, I.len⟩
theorem nodup_ix {N : List Str} (hN : N.Nodup) {i j : Nat} {x : Str} (a : N[i]? = some x) (b : N[j]? = some x) : i = j := by
  obtain ⟨h1, e1⟩ := List.getElem?_eq_some_iff.mp a
  obtain ⟨h2, e2⟩ := List.getElem?_eq_some_iff.mp b
  exact (List.getElem_inj hN).mp (e1.trans e2.symm)
theorem store_ok2 {M : Model} {A : Around} {E : Value → Shared → Prop} {i : Nat} {x : Str} {v : V} {u : Value} {Q : Unit → Shared → Prop} (I : Inv X pins σ H s) (hN : X.N.Nodup) (hi : X.N[i]? = some x) (hx : Loc X.env.scope x) (r : RelV v u)
    (h : ∀ s', Inv X pins (σ.set i (some v)) H s' → (∃ a, Heap.SameBut a s.heap s'.heap ∧ (a = X.env.locals ∨ X.env.cells.lookup x = some a)) → Q () s') (hf : X.fn x = true ∨ X.env.scope.names.lookup x = some .local := by first | exact .inl rfl | exact .inr rfl | assumption) : wpAny M A (storeName X.env x u) Q E s := by
  obtain ⟨m, hn, hl⟩ := id I.loc
  have hcls : (X.env.scope.kind == .class || (X.env.scope.kind == .module && X.env.locals != X.env.globals)) = false := by rw [I.ok.kind]; rfl
  have hiσ : i < σ.length := by rw [I.len]; exact (List.getElem?_eq_some_iff.mp hi).1
  have cne := I.cne
  have tracked : ∀ {a : Addr} {h' : Heap}, (∃ o, s.heap.get? a = some o ∧ H a = none) → Heap.SameBut a s.heap h' → HOk X.prog X.w H h' := fun {a h'} ha hs b ob e => by
    obtain ⟨_, _, hfree⟩ := ha
    refine (I.hok b ob e).stay (fun c w' hc q => (hs.2 c ?_).trans q) (fun _ q => q) fun _ _ q => q
    rintro rfl
    rcases hc with rfl | hc
    · rw [hfree] at e; cases e
    · rw [hfree] at hc; cases hc
  rcases hx with hk | hk
  · refine wpAny_storeName_local hk hn (fun h' hn' hs => ?_) hcls
    obtain ⟨oL, _, _, hoL, _⟩ := id hn
    refine h _ ⟨I.ok, I.os, I.bare, ⟨fun b o e n hb hx => ?_, fun b o e n hb hx => ?_, I.base.free, fun b o e hx => ?_, I.base.tups, I.base.frzs, I.base.tbls⟩, ⟨_, hn', fun j y v' e1 e2 e3 => ?_⟩, fun y c e => ?_, I.free, I.freeC, fun p hp => ?_, tracked ⟨oL, hoL, I.free⟩ hs, by simpa using I.len⟩ ⟨_, hs, .inl rfl⟩
    · exact (hs.2 b (Nat.ne_of_lt (Nat.lt_of_lt_of_le (Heap.lt_size e) I.ok.above))).trans (I.base.keep b o e n hb hx)
    · obtain ⟨sl, e1⟩ := I.base.slot b o e n hb hx
      exact ⟨sl, (hs.2 b (Nat.ne_of_lt (Nat.lt_of_lt_of_le (Heap.lt_size e) I.ok.above))).trans e1⟩
    · obtain ⟨o', e1⟩ := I.base.there b o e hx
      exact ⟨o', (hs.2 b (Nat.ne_of_lt (Nat.lt_of_lt_of_le (Heap.lt_size e) I.ok.above))).trans e1⟩
    · by_cases hj : j = i
      · subst hj
        rw [hi] at e1; cases e1
        rw [List.getElem?_set_self hiσ] at e2
        cases e2
        exact ⟨u, r, .inl ⟨hk, by simp⟩⟩
      · rw [List.getElem?_set_ne (Ne.symm hj)] at e2
        obtain ⟨u', r', q⟩ := hl j y v' e1 e2 e3
        refine ⟨u', r', ?_⟩
        rcases q with ⟨k, e⟩ | ⟨k, c, e, z⟩
        · refine .inl ⟨k, ?_⟩
          have : y ≠ x := fun e => hj (nodup_ix hN e1 (e ▸ hi))
          simp [this, e]
        · exact .inr ⟨k, c, e, z.sameBut hs (cne y c e)⟩
    · obtain ⟨w', z⟩ := I.cell y c e
      exact ⟨w', z.sameBut hs (cne y c e)⟩
    · obtain ⟨e, n, ne, nf, d⟩ := I.pin p hp
      exact ⟨(hs.2 p.1 ne).trans e, n, ne, nf, d⟩
  · have hfn : X.fn x = true := by
      rcases hf with z | z
      · exact z
      · rw [z] at hk; cases hk
    obtain ⟨c, hc⟩ := I.ok.has x (.inl hk)
    obtain ⟨w', z⟩ := I.cell x c hc
    refine wpAny_storeName_cell I.ok.kind hk hc z (fun h' hc' hs => ?_)
    obtain ⟨oc, hoc, hocd⟩ := id z
    refine h { s with heap := h' } ⟨I.ok, I.os, I.bare, ⟨fun b o e n hb hx => ?_, fun b o e n hb hx => ?_, I.base.free, fun b o e hx => ?_, I.base.tups, I.base.frzs, I.base.tbls⟩, ⟨m, hn.sameBut hs (Ne.symm (cne x c hc)), fun j y v' e1 e2 e3 => ?_⟩, fun y c' e => ?_, I.free, I.freeC, fun p hp => ?_, tracked ⟨oc, hoc, I.freeC x c hc⟩ hs, by simpa using I.len⟩ ⟨c, hs, .inr hc⟩
    · exact (hs.2 b (Nat.ne_of_lt (Nat.lt_of_lt_of_le (Heap.lt_size e) (I.ok.cab x c hfn hc)))).trans (I.base.keep b o e n hb hx)
    · obtain ⟨sl, e1⟩ := I.base.slot b o e n hb hx
      exact ⟨sl, (hs.2 b (Nat.ne_of_lt (Nat.lt_of_lt_of_le (Heap.lt_size e) (I.ok.cab x c hfn hc)))).trans e1⟩
    · obtain ⟨o', e1⟩ := I.base.there b o e hx
      exact ⟨o', (hs.2 b (Nat.ne_of_lt (Nat.lt_of_lt_of_le (Heap.lt_size e) (I.ok.cab x c hfn hc)))).trans e1⟩
    · by_cases hj : j = i
      · subst hj
        rw [hi] at e1; cases e1
        rw [List.getElem?_set_self hiσ] at e2
        cases e2
        exact ⟨u, r, .inr ⟨.inl hk, c, hc, hc'⟩⟩
      · rw [List.getElem?_set_ne (Ne.symm hj)] at e2
        obtain ⟨u', r', q⟩ := hl j y v' e1 e2 e3
        refine ⟨u', r', ?_⟩
        rcases q with q | ⟨k, c', e, z'⟩
        · exact .inl q
        · refine .inr ⟨k, c', e, z'.sameBut hs ?_⟩
          rintro rfl
          exact hj (nodup_ix hN e1 (I.ok.inj _ _ _ e hc ▸ hi))
    · by_cases hcc : c' = c
      · subst hcc; exact ⟨_, hc'⟩
      · obtain ⟨w2, z2⟩ := I.cell y c' e
        exact ⟨w2, z2.sameBut hs hcc⟩
    · obtain ⟨e, n, ne, nf, d⟩ := I.pin p hp
      refine ⟨(hs.2 p.1 ?_).trans e, n, ne, nf, d⟩
      intro q
      rw [q, hoc] at e
      have q' : oc = p.2 := Option.some.inj e
      exact d w' (by rw [← q']; exact hocd)
theorem store_ok {M : Model} {A : Around} {E : Value → Shared → Prop} {i : Nat} {x : Str} {v : V} {u : Value} {Q : Unit → Shared → Prop} (I : Inv X pins σ H s) (hN : X.N.Nodup) (hi : X.N[i]? = some x) (hx : Loc X.env.scope x) (r : RelV v u)
    (h : ∀ s', Inv X pins (σ.set i (some v)) H s' → Q () s') (hf : X.fn x = true ∨ X.env.scope.names.lookup x = some .local := by first | exact .inl rfl | exact .inr rfl | assumption) : wpAny M A (storeName X.env x u) Q E s :=
  store_ok2 I hN hi hx r (fun s' I' _ => h s' I') hf
theorem Inv.call' {s' : Shared} {ch : List Addr} (I : Inv X pins σ H s) (ho : s'.os = s.os) (u : Un (frs X.stack) ch H H' s.heap s'.heap) (hok : HOk X.prog X.w H' s'.heap) (hg : AllBare s'.gens)
    (hch : ∀ b ∈ ch, (b ∈ X.ex ∨ X.s₀.heap.objs.size ≤ b) ∧ b ≠ X.env.locals ∧ (∀ x c, X.env.cells.lookup x = some c → c ≠ b) ∧ ∀ p ∈ X.pn ++ pins, p.1 ≠ b) : Inv X pins σ H' s' := by
  obtain ⟨h', g', d', t', o'⟩ := s'
  have e : o' = s.os := ho
  subst e
  exact I.call (g' := g') (t' := t') (d' := d') u hok hg hch
end
noncomputable abbrev XK := Value → Option Addr → Hp → Prop
noncomputable abbrev St := List (Option V)
noncomputable abbrev VK := V → Hp → Prop
noncomputable abbrev TE := St → Hp → VK → Prop
noncomputable abbrev TT := St → Hp → (Bool → Hp → Prop) → Prop
noncomputable abbrev TA := St → Hp → (List V → Hp → Prop) → Prop
structure Ends where
  nx : St → Hp → Prop
  rt : VK
  bk : St → Hp → Prop := fun _ _ => False
  ct : St → Hp → Prop := fun _ _ => False
noncomputable abbrev TS := Ends → St → Hp → Prop
noncomputable def EP (X : Cx) (pins : List (Addr × Obj)) (σ : St) (Q : VK) (u : Value) (s' : Shared) : Prop := ∃ v H', Inv X pins σ H' s' ∧ RelV v u ∧ Q v H'
noncomputable def TP (X : Cx) (pins : List (Addr × Obj)) (σ : St) (Q : Bool → Hp → Prop) (b : Bool) (s' : Shared) : Prop := ∃ H', Inv X pins σ H' s' ∧ Q b H'
noncomputable def AP (X : Cx) (pins : List (Addr × Obj)) (σ : St) (Q : List V → Hp → Prop) (us : List Value) (s' : Shared) : Prop := ∃ vs H', Inv X pins σ H' s' ∧ Vals vs us ∧ Q vs H'
noncomputable def SP (X : Cx) (pins : List (Addr × Obj)) (D : Ends) (f : Flow) (s' : Shared) : Prop :=
  match f with
  | .next => ∃ σ' H', Inv X pins σ' H' s' ∧ D.nx σ' H'
  | .brk => ∃ σ' H', Inv X pins σ' H' s' ∧ D.bk σ' H'
  | .cont => ∃ σ' H', Inv X pins σ' H' s' ∧ D.ct σ' H'
  | .ret u => ∃ v σ' H', Inv X pins σ' H' s' ∧ RelV v u ∧ D.rt v H'
noncomputable def PE (X : Cx) (e : Expr) (t : TE) : Prop :=
  ∀ (pins : List (Addr × Obj)) (s : Shared) (σ : St) (H : Hp) (Q : VK), Inv X pins σ H s → t σ H Q → wpAny (model X.prog X.w) X.A (eval e X.env) (EP X pins σ Q) X.xe s
noncomputable def PT (X : Cx) (e : Expr) (t : TT) : Prop :=
  ∀ (pins : List (Addr × Obj)) (s : Shared) (σ : St) (H : Hp) (Q : Bool → Hp → Prop), Inv X pins σ H s → t σ H Q → wpAny (model X.prog X.w) X.A (isTrue e X.env (eval e X.env)) (TP X pins σ Q) X.xe s
noncomputable def PW (X : Cx) (e : Expr) (t : TT) : Prop :=
  ∀ (whole : Sem Value) (pins : List (Addr × Obj)) (s : Shared) (σ : St) (H : Hp) (Q : Bool → Hp → Prop), Inv X pins σ H s → t σ H Q → wpAny (model X.prog X.w) X.A (isTrue e X.env whole) (TP X pins σ Q) X.xe s
theorem PW.pt {X : Cx} {e : Expr} {t : TT} (h : PW X e t) : PT X e t := h _
noncomputable def PA (X : Cx) (es : List Expr) (t : TA) : Prop :=
  ∀ (pos : Pos) (pins : List (Addr × Obj)) (s : Shared) (σ : St) (H : Hp) (Q : List V → Hp → Prop), Inv X pins σ H s → t σ H Q → wpAny (model X.prog X.w) X.A (spliced (backTo pos (starEach es X.env))) (AP X pins σ Q) X.xe s
noncomputable def PS (X : Cx) (st : Stmt) (t : TS) : Prop :=
  ∀ (pins : List (Addr × Obj)) (s : Shared) (σ : St) (H : Hp) (D : Ends), Inv X pins σ H s → t D σ H → wpAny (model X.prog X.w) X.A (exec st X.env) (SP X pins D) X.xe s
noncomputable def PSs (X : Cx) (st : List Stmt) (t : TS) : Prop :=
  ∀ (pins : List (Addr × Obj)) (s : Shared) (σ : St) (H : Hp) (D : Ends), Inv X pins σ H s → t D σ H → wpAny (model X.prog X.w) X.A (execs st X.env) (SP X pins D) X.xe s
theorem thn {α : Type} {t : Sem α} {Q Q' : α → Shared → Prop} {M : Model} {A : Around} {E : Value → Shared → Prop} {s : Shared} (h : wpAny M A t Q E s) (hQ : ∀ a s, Q a s → Q' a s) : wpAny M A t Q' E s := wpAny_mono h hQ fun _ _ x => x
end L2
namespace L2
open PySem PySem.Spec PyProof.Rows
section
variable {X : Cx}
theorem bin {a b : Expr} {ta tb : TE} (ha : PE X a ta) (hb : PE X b tb) {pins : List (Addr × Obj)} {s : Shared} {σ : St} {H : Hp} {R : V → V → Hp → Prop} (I : Inv X pins σ H s) (h : ta σ H fun x H1 => tb σ H1 fun y H2 => R x y H2)
    {α : Type} {Q : α → Shared → Prop} {f : Value → Value → Sem α}
    (hf : ∀ v u s2 x y H2, Inv X pins σ H2 s2 → RelV x v → RelV y u → R x y H2 → wpAny (model X.prog X.w) X.A (f v u) Q X.xe s2) :
    wpAny (model X.prog X.w) X.A (eval a X.env) (fun v s₁ => wpAny (model X.prog X.w) X.A (eval b X.env) (fun u s₂ => wpAny (model X.prog X.w) X.A (f v u) Q X.xe s₂) X.xe s₁) X.xe s := by
  refine thn (ha pins s σ H _ I h) fun v s1 ⟨x, H1, I1, r1, q1⟩ => ?_
  refine thn (hb pins s1 σ H1 _ I1 q1) fun u s2 ⟨y, H2, I2, r2, q2⟩ => ?_
  exact hf v u s2 x y H2 I2 r1 r2 q2
noncomputable def tVar (i : Nat) : TE := fun σ H Q => ∃ v, σ[i]? = some (some v) ∧ Q v H
noncomputable def tC (v : V) : TE := fun _ H Q => Q v H
theorem pe_var {i : Nat} {x : Str} {pos : Pos} (hN : X.N[i]? = some x) (hv : Vis X.env.scope x) (hd : (x == ("__debug__" : Str)) = false := by decide) (hcd : (x == ("__classdict__" : Str)) = false := by decide) : PE X (.Name x pos) (tVar i) := by
  intro pins s σ H Q I h
  obtain ⟨v, e, h⟩ := h
  obtain ⟨m, hn, hl⟩ := I.loc
  obtain ⟨u, r, l⟩ := hl i x v hN e hv
  have fin : EP X pins σ Q u s := ⟨v, H, I, r, h⟩
  rcases l with ⟨hk, hm⟩ | ⟨hk, c, hc, hcell⟩
  · exact wpAny_Name (wpAny_loadName_local I.ok.kind hk hn hm fin) hd
  · rcases hk with hk | hk
    · exact wpAny_Name (wpAny_loadName_cell I.ok.kind hk hc hcell fin) hd
    · exact wpAny_Name (wpAny_loadName_free I.ok.kind hk hc hcell fin hcd) hd
theorem pe_int {i j pos} : PE X (.Constant (.int i) j pos) (tC (.int i)) := fun _ _ _ H _ I h => wpAny_Constant_int ⟨.int i, H, I.tok _, ⟨_, rfl⟩, h⟩
theorem pe_bl {b j pos} : PE X (.Constant (.bool b) j pos) (tC (.bl b)) := fun _ _ _ H _ I h => Constant_bool ⟨.bl b, H, I, rfl, h⟩
noncomputable def Gl (X : Cx) (x : Str) : Prop := X.env.kindOf x = some .globalImplicit
theorem ld_glob {E : Value → Shared → Prop} {pins : List (Addr × Obj)} {s : Shared} {σ : St} {H : Hp} {x : Str} {u : Value} {pos : Pos} {Q : Value → Shared → Prop} (I : Inv X pins σ H s) (hg : Gl X x) (hm : X.mg x = some u) (h : Q u s)
    (hd : (x == ("__debug__" : Str)) = false := by decide) : wpAny (model X.prog X.w) X.A (eval (.Name x pos) X.env) Q E s :=
  Calls.Name_function_global I.ok.kind hg (Calls.loadGlobal_global (by rw [I.ok.glob]; exact I.mod.glob.keeps I.bk) hm h) hd
theorem ld_blt {E : Value → Shared → Prop} {pins : List (Addr × Obj)} {s : Shared} {σ : St} {H : Hp} {x : Str} {u : Value} {pos : Pos} {Q : Value → Shared → Prop} (I : Inv X pins σ H s) (hg : Gl X x) (hm : X.mg x = none) (hv : bootBuiltins x = some u) (h : Q u s)
    (hn : x ≠ "__name__" := by decide) (hd : (x == ("__debug__" : Str)) = false := by decide) : wpAny (model X.prog X.w) X.A (eval (.Name x pos) X.env) Q E s := by
  obtain ⟨mb, h1, h2⟩ := I.mod.blt
  exact Calls.Name_function_global I.ok.kind hg (Calls.loadGlobal_builtin (by rw [I.ok.glob]; exact I.mod.glob.keeps I.bk) hm (by rw [I.ok.blt]; exact h1.keeps I.bk) ((h2 x hn).trans hv) h) hd
theorem pe_bltn {x : Str} {v : V} {u : Value} {pos : Pos} (hg : Gl X x) (hm : X.mg x = none) (hv : bootBuiltins x = some u) (r : RelV v u) (hn : x ≠ "__name__" := by decide) (hd : (x == ("__debug__" : Str)) = false := by decide) : PE X (.Name x pos) (tC v) :=
  fun _ _ _ H _ I h => ld_blt I hg hm hv ⟨v, H, I, r, h⟩ hn hd
variable {a b : Expr} {ta tb : TE} {pos : Pos}
variable {tA tB' : TT} {rest : List Expr}
noncomputable def tAnd (t u : TT) : TT := fun σ H Q => t σ H fun c H1 => if c = true then u σ H1 Q else Q false H1
noncomputable def tOr (t u : TT) : TT := fun σ H Q => t σ H fun c H1 => if c = true then Q true H1 else u σ H1 Q
noncomputable def tNot (t : TT) : TT := fun σ H Q => t σ H fun c H1 => Q (!c) H1
theorem pw_and1 (ha : PT X a tA) : PW X (.BoolOp .And [a] pos) tA := by
  intro wh pins s σ H Q I h
  refine isTrue_and (thn (ha pins s σ H Q I h) fun c s1 e => ?_)
  cases c with
  | true => exact isTrue_and_nil e
  | false => exact e
theorem pw_or1 (ha : PT X a tA) : PW X (.BoolOp .Or [a] pos) tA := by
  intro wh pins s σ H Q I h
  refine isTrue_or (thn (ha pins s σ H Q I h) fun c s1 e => ?_)
  cases c with
  | false => exact isTrue_or_nil e
  | true => exact e
theorem pw_and (ha : PT X a tA) (hb : PW X (.BoolOp .And (b :: rest) pos) tB') : PW X (.BoolOp .And (a :: b :: rest) pos) (tAnd tA tB') := by
  intro wh pins s σ H Q I h
  refine isTrue_and (thn (ha pins s σ H _ I h) fun c s1 ⟨H1, I1, q1⟩ => ?_)
  cases c with
  | true => exact hb wh pins s1 σ H1 Q I1 q1
  | false => exact ⟨H1, I1, q1⟩
theorem pw_or (ha : PT X a tA) (hb : PW X (.BoolOp .Or (b :: rest) pos) tB') : PW X (.BoolOp .Or (a :: b :: rest) pos) (tOr tA tB') := by
  intro wh pins s σ H Q I h
  refine isTrue_or (thn (ha pins s σ H _ I h) fun c s1 ⟨H1, I1, q1⟩ => ?_)
  cases c with
  | true => exact ⟨H1, I1, q1⟩
  | false => exact hb wh pins s1 σ H1 Q I1 q1
theorem pt_not (ha : PT X a tA) : PT X (.UnaryOp .Not a pos) (tNot tA) := by
  intro pins s σ H Q I h
  exact isTrue_not (ha pins s σ H (fun c H1 => Q (!c) H1) I h)
end
end L2
namespace L2
open PySem PySem.Spec PyProof.Rows
noncomputable def SqL (K : PySem.W.Frag) (H : Hp) (a : Addr) (xs : List V) : Prop :=
  Rd H a (.lst xs) ∨
    ∃ (o : Obj) (its : Array Value) (n : Nat), K.lookup a = some o ∧ o.cls = .type "list" ∧ o.dict = none ∧ o.data = .seq its n ∧ its.size ≤ sizeLine ∧ Vals xs its.toList
noncomputable def SqT (K : PySem.W.Frag) (H : Hp) (a : Addr) (xs : List V) : Prop :=
  Rd H a (.tup xs) ∨
    ∃ (o : Obj) (its : Array Value) (n : Nat), K.lookup a = some o ∧ o.cls = .type "tuple" ∧ o.data = .seq its n ∧ its.size ≤ sizeLine ∧ Vals xs its.toList
noncomputable def absV : Value → Option V
  | .none => some .non
  | .bool b => some (.bl b)
  | .int i _ => some (.int i)
  | .str x _ => some (.str x)
  | .bytes b _ => some (.byt b)
  | .float b _ => some (.flt b)
  | .ref a => some (.ref a)
  | .type n => some (.ty n)
  | _ => none
theorem RelV.abs {x : V} {u : Value} (r : RelV x u) : absV u = some x := by
  cases x with
  | non => cases r; rfl
  | bl _ => cases r; rfl
  | int _ => obtain ⟨t, rfl⟩ := r; rfl
  | str _ => obtain ⟨t, rfl⟩ := r; rfl
  | byt _ => obtain ⟨t, rfl⟩ := r; rfl
  | flt _ => obtain ⟨t, rfl⟩ := r; rfl
  | ref _ => cases r; rfl
  | ty _ => cases r; rfl
theorem RelV.inj {x y : V} {u : Value} (r : RelV x u) (q : RelV y u) : x = y := Option.some.inj (r.abs.symm.trans q.abs)
theorem Vals.inj : ∀ {xs ys : List V} {us : List Value}, Vals xs us → Vals ys us → xs = ys
  | _, _, _, .nil, .nil => rfl
  | _, _, _, .cons r t, .cons r' t' => by rw [r.inj r', Vals.inj t t']
section
variable {X : Cx} {pins : List (Addr × Obj)} {σ : St} {H : Hp} {s : Shared} {a : Addr} {xs ys : List V}
theorem SqL.of {K : PySem.W.Frag} (h : H a = some (.lst xs)) : SqL K H a xs := .inl (.inl h)
theorem SqT.of {K : PySem.W.Frag} (h : H a = some (.tup xs)) : SqT K H a xs := .inl (.inl h)
theorem Inv.list (I : Inv X pins σ H s) (h : SqL X.K H a xs) : ∃ its : List Value, Vals xs its ∧ PlainL s.heap a its.toArray ∧ xs.length ≤ sizeLine := by
  rcases h with h | ⟨o, its, n, hk, hc, hd, hs, hz, r⟩
  · obtain ⟨z, its, n, r, e⟩ := h.ok I.hok
    exact ⟨its, r, ⟨_, n, e, rfl, rfl, rfl⟩, z⟩
  · refine ⟨its.toList, r, ⟨o, n, I.kIn a o hk, hc, hd, by simpa using hs⟩, ?_⟩
    have e := r.length
    simp only [Array.length_toList] at e
    omega
theorem Inv.tuple (I : Inv X pins σ H s) (h : SqT X.K H a xs) : ∃ its : List Value, Vals xs its ∧ IsTup s.heap a its.toArray ∧ xs.length ≤ sizeLine := by
  rcases h with h | ⟨o, its, n, hk, hc, hs, hz, r⟩
  · obtain ⟨z, its, r, p⟩ := h.ok I.hok
    exact ⟨its, r, p, z⟩
  · refine ⟨its.toList, r, ⟨o, I.kIn a o hk, hc, n, by simpa using hs⟩, ?_⟩
    have e := r.length
    simp only [Array.length_toList] at e
    omega
theorem Inv.list_inj (I : Inv X pins σ H s) (h : SqL X.K H a xs) (h' : SqL X.K H a ys) : xs = ys := by
  obtain ⟨its, r, ⟨o, n, e, _, _, d⟩, _⟩ := I.list h
  obtain ⟨its', r', ⟨o', n', e', _, _, d'⟩, _⟩ := I.list h'
  rw [e] at e'; cases e'
  rw [d] at d'
  injection d' with d1 _
  have : its = its' := by simpa using congrArg Array.toList d1
  subst this
  exact r.inj r'
theorem Inv.tuple_inj (I : Inv X pins σ H s) (h : SqT X.K H a xs) (h' : SqT X.K H a ys) : xs = ys := by
  obtain ⟨its, r, ⟨o, e, _, n, d⟩, _⟩ := I.tuple h
  obtain ⟨its', r', ⟨o', e', _, n', d'⟩, _⟩ := I.tuple h'
  rw [e] at e'; cases e'
  rw [d] at d'
  injection d' with d1 _
  have : its = its' := by simpa using congrArg Array.toList d1
  subst this
  exact r.inj r'
end
noncomputable abbrev Cx.wish (X : Cx) (E : Value → Shared → Prop) : Cx := { X with xe := E }
noncomputable abbrev Cx.nox (X : Cx) : Cx := X.wish fun _ _ => False
theorem Cx.Ok.wish {X : Cx} (ok : X.Ok) (E : Value → Shared → Prop) : (X.wish E).Ok :=
  ⟨ok.mod, ok.kind, ok.glob, ok.blt, ok.above, ok.inj, ok.has, ok.cab, ok.hd, ok.frames, ok.stk, ok.exf, ok.bs, ok.bsz, ok.noex, ok.exfs, ok.funs, ok.frf⟩
theorem Cx.Ok.unwish {X : Cx} {E : Value → Shared → Prop} (ok : (X.wish E).Ok) : X.Ok :=
  ⟨ok.mod, ok.kind, ok.glob, ok.blt, ok.above, ok.inj, ok.has, ok.cab, ok.hd, ok.frames, ok.stk, ok.exf, ok.bs, ok.bsz, ok.noex, ok.exfs, ok.funs, ok.frf⟩
section
variable {X : Cx} {pins : List (Addr × Obj)} {σ : St} {H : Hp} {s : Shared} {E : Value → Shared → Prop}
theorem Inv.wish (I : Inv X pins σ H s) (E : Value → Shared → Prop) : Inv (X.wish E) pins σ H s := ⟨I.ok.wish E, I.os, I.bare, I.base, I.loc, I.cell, I.free, I.freeC, I.pin, I.hok, I.len⟩
theorem Inv.unwish (I : Inv (X.wish E) pins σ H s) : Inv X pins σ H s := ⟨I.ok.unwish, I.os, I.bare, I.base, I.loc, I.cell, I.free, I.freeC, I.pin, I.hok, I.len⟩
theorem SP.unwish {D : Ends} {f : Flow} {s' : Shared} (h : SP (X.wish E) pins D f s') : SP X pins D f s' := by
  cases f with
  | next => obtain ⟨σ', H', I, q⟩ := h; exact ⟨σ', H', I.unwish, q⟩
  | brk => obtain ⟨σ', H', I, q⟩ := h; exact ⟨σ', H', I.unwish, q⟩
  | cont => obtain ⟨σ', H', I, q⟩ := h; exact ⟨σ', H', I.unwish, q⟩
  | ret u => obtain ⟨v, σ', H', I, r, q⟩ := h; exact ⟨v, σ', H', I.unwish, r, q⟩
theorem PE.nox {e : Expr} {t : TE} (h : PE X.nox e t) : PE X e t := fun pins s σ H Q I hw =>
  wpAny_mono (h pins s σ H Q (I.wish _) hw) (fun _ _ ⟨v, H', I', r, q⟩ => ⟨v, H', I'.unwish, r, q⟩) fun _ _ z => False.elim z
theorem PT.nox {e : Expr} {t : TT} (h : PT X.nox e t) : PT X e t := fun pins s σ H Q I hw =>
  wpAny_mono (h pins s σ H Q (I.wish _) hw) (fun _ _ ⟨H', I', q⟩ => ⟨H', I'.unwish, q⟩) fun _ _ z => False.elim z
theorem PSs.nox {st : List Stmt} {t : TS} (h : PSs X.nox st t) : PSs X st t := fun pins s σ H D I hw =>
  wpAny_mono (h pins s σ H D (I.wish _) hw) (fun _ _ q => q.unwish) fun _ _ z => False.elim z
end
section
variable {X : Cx} {st : Stmt} {rest : List Stmt} {t u : TS} {e : Expr} {te : TE} {pos : Pos}
noncomputable def tNext : TS := fun D σ H => D.nx σ H
noncomputable def tSeq (t u : TS) : TS := fun D σ H => t { D with nx := u D } σ H
theorem pss_nil : PSs X [] tNext := fun _ _ σ H _ I h => wpAny_execs_nil ⟨σ, H, I, h⟩
theorem pss_cons (h1 : PS X st t) (h2 : PSs X rest u) : PSs X (st :: rest) (tSeq t u) := by
  intro pins s σ H D I h
  refine wpAny_execs_cons (thn (h1 pins s σ H { D with nx := u D } I h) fun f s1 q => ?_)
  cases f with
  | next =>
    obtain ⟨σ', H', I', q⟩ := q
    exact h2 pins s1 σ' H' D I' q
  | ret v => exact q
  | brk => exact q
  | cont => exact q
theorem Inv.quiet {pins : List (Addr × Obj)} {σ : St} {H : Hp} {s : Shared} (I : Inv X pins σ H s) : interactive X.env = false := by simp [interactive, I.ok.kind]
noncomputable def tDrop (te : TE) : TS := fun D σ H => te σ H fun _ H1 => D.nx σ H1
theorem ps_expr (he : PE X e te) (hs : swapsWith e none pos.line X.env = pure false := by rfl) : PS X (.Expr e pos) (tDrop te) := by
  intro pins s σ H D I h
  exact wpAny_Expr_any (thn (he pins s σ H _ I h) fun v s1 ⟨x, H1, I1, r1, q1⟩ => ⟨σ, H1, I1, q1⟩) I.quiet hs
noncomputable def tRet (te : TE) : TS := fun D σ H => te σ H D.rt
theorem ps_ret (he : PE X e te) : PS X (.Return (some e) pos) (tRet te) := by
  intro pins s σ H D I h
  exact wpAny_Return_some (thn (he pins s σ H _ I h) fun v s1 ⟨x, H1, I1, r1, q1⟩ => ⟨x, σ, H1, I1, r1, q1⟩)
noncomputable def tIfS (c : TT) (t u : TS) : TS := fun D σ H => c σ H fun b H1 => if b = true then t D σ H1 else u D σ H1
theorem ps_if {c : Expr} {a b : List Stmt} {tc : TT} (hc : PT X c tc) (ha : PSs X a t) (hb : PSs X b u) : PS X (.If c a b pos) (tIfS tc t u) := by
  intro pins s σ H D I h
  refine wpAny_If (thn (hc pins s σ H _ I h) fun d s1 ⟨H1, I1, q1⟩ => ?_)
  cases d with
  | true => exact ha pins s1 σ H1 D I1 q1
  | false => exact hb pins s1 σ H1 D I1 q1
end
noncomputable abbrev TG := V → St → Hp → (St → Hp → Prop) → Prop
noncomputable abbrev TGs := List V → St → Hp → (St → Hp → Prop) → Prop
noncomputable def PG (X : Cx) (target : Expr) (t : TG) : Prop :=
  ∀ (pins : List (Addr × Obj)) (s : Shared) (σ : St) (H : Hp) (v : V) (u : Value) (Q : St → Hp → Prop), Inv X pins σ H s → RelV v u → t v σ H Q →
    wpAny (model X.prog X.w) X.A (assign target X.env u) (fun _ s' => ∃ σ' H', Inv X pins σ' H' s' ∧ Q σ' H') X.xe s
noncomputable def PGs (X : Cx) (ts : List Expr) (t : TGs) : Prop :=
  ∀ (pins : List (Addr × Obj)) (s : Shared) (σ : St) (H : Hp) (vs : List V) (us : List Value) (Q : St → Hp → Prop), Inv X pins σ H s → Vals vs us → t vs σ H Q →
    wpAny (model X.prog X.w) X.A (assignInOrder ((assignEach ts X.env).map (·.2)) us) (fun _ s' => ∃ σ' H', Inv X pins σ' H' s' ∧ Q σ' H') X.xe s
noncomputable abbrev TSet := V → V → V → Hp → (Hp → Prop) → Prop
noncomputable def PSet (X : Cx) (t : TSet) : Prop :=
  ∀ (pins : List (Addr × Obj)) (s : Shared) (σ : St) (H : Hp) (o i v : V) (ov iv u : Value) (Q : Hp → Prop), Inv X pins σ H s → RelV o ov → RelV i iv → RelV v u → t o i v H Q →
    wpAny (model X.prog X.w) X.A (setItem ov iv u) (fun _ s' => ∃ H', Inv X pins σ H' s' ∧ Q H') X.xe s
section
variable {X : Cx} {pos : Pos}
noncomputable def gName (i : Nat) : TG := fun v σ H Q => Q (σ.set i (some v)) H
theorem pg_name {i : Nat} {x : Str} (hN : X.N.Nodup) (hi : X.N[i]? = some x) (hx : Loc X.env.scope x) (hf : X.fn x = true ∨ X.env.scope.names.lookup x = some .local := by first | exact .inl rfl | exact .inr rfl | assumption) : PG X (.Name x pos) (gName i) := by
  intro pins s σ H v u Q I r h
  exact wpAny_assign_Name (store_ok I hN hi hx r (fun s' I' => ⟨_, H, I', h⟩) hf)
noncomputable def gNil : TGs := fun vs σ H Q => vs = [] ∧ Q σ H
noncomputable def gCons (t : TG) (u : TGs) : TGs := fun vs σ H Q => ∃ v r, vs = v :: r ∧ t v σ H fun σ' H' => u r σ' H' Q
theorem pgs_nil : PGs X [] gNil := by
  intro pins s σ H vs us Q I r h
  obtain ⟨e, h⟩ := h
  subst e
  cases r
  exact assignInOrder_nil ⟨σ, H, I, h⟩
theorem pgs_cons {e : Expr} {es : List Expr} {t : TG} {u : TGs} (h1 : PG X e t) (h2 : PGs X es u)
    (hs : (assignEach (e :: es) X.env).map (·.2) = assign e X.env :: (assignEach es X.env).map (·.2) := by rfl) : PGs X (e :: es) (gCons t u) := by
  intro pins s σ H vs us Q I r h
  obtain ⟨v, vr, e1, h⟩ := h
  subst e1
  cases r with
  | cons r rr =>
    rw [hs]
    refine assignInOrder_cons (thn (h1 pins s σ H _ _ _ I r h) fun _ s1 ⟨σ1, H1, I1, q1⟩ => ?_)
    exact h2 pins s1 σ1 H1 _ _ Q I1 rr q1
noncomputable def gTup (K : PySem.W.Frag) (n : Nat) (t : TGs) : TG := fun v σ H Q => ∃ a xs, v = .ref a ∧ SqT K H a xs ∧ xs.length = n ∧ t xs σ H Q
theorem pg_tup {es : List Expr} {k : Nat} {t : TGs} {n : Nat} (hc : X.calm = true) (h : PGs X es t)
    (hn : (assignEach es X.env).length = n := by rfl) (hst : (assignEach es X.env).findIdx? (·.1) = none := by rfl) : PG X (.Tuple es k pos) (gTup X.K n t) := by
  intro pins s σ H v u Q I r hw
  obtain ⟨a, xs, e1, hq, hl, hw⟩ := hw
  subst e1
  cases r
  obtain ⟨its, rv, ht, hz⟩ := I.tuple hq
  refine assign_Tuple_tuple (I.ok.hd hc) ht (by simp [hn, ← hl, rv.length]) hst fun h' hx => ?_
  have I1 : Inv X pins σ H { s with heap := h' } := I.kept (t' := s.toks) fun b o e => hx b o (Nat.ne_of_lt (Heap.lt_size e)) e
  exact h pins _ σ H xs _ Q I1 (by simpa using rv) hw
noncomputable def gSub (to ti : TE) (t : TSet) : TG := fun v σ H Q => to σ H fun o H1 => ti σ H1 fun i H2 => t o i v H2 fun H3 => Q σ H3
theorem pg_sub {o i : Expr} {to ti : TE} {t : TSet} (ho : PE X o to) (hi : PE X i ti) (hs : PSet X t)
    (ha : ∀ v, assign (.Subscript o i pos) X.env v = (do
      let ov ← holding [v] (eval o X.env)
      let iv ← holding [v, ov] (eval i X.env)
      standAt pos
      holding [v, ov, iv] (setItem ov iv v)
      release [v, ov, iv] []) := by intro _; rfl) : PG X (.Subscript o i pos) (gSub to ti t) := by
  intro pins s σ H v u Q I r h
  rw [ha]
  refine wpAny_bind (wpAny_holding (thn (ho pins s σ H _ I h) fun ov s1 ⟨x, H1, I1, r1, q1⟩ => ?_))
  refine wpAny_bind (wpAny_holding (thn (hi pins s1 σ H1 _ I1 q1) fun iv s2 ⟨y, H2, I2, r2, q2⟩ => ?_))
  refine wpAny_bind (wpAny_standAt (wpAny_bind (wpAny_holding (thn (hs pins s2 σ H2 x y v ov iv u _ I2 r1 r2 r q2) fun _ s3 ⟨H3, I3, q3⟩ => ?_))))
  exact wpAny_release ⟨σ, H3, I3, q3⟩
noncomputable def tAsg (te : TE) (g : TG) : TS := fun D σ H => te σ H fun x H1 => g x σ H1 D.nx
theorem ps_asg {tg e : Expr} {te : TE} {g : TG} (he : PE X e te) (hg : PG X tg g) (hs : swapsWithSole [tg] e pos.line X.env = pure false := by rfl) (hw : swappedStores [tg] e X.env = pure none := by rfl)
    (h1 : (assignEach [tg] X.env).map (·.2) = [assign tg X.env] := by rfl) : PS X (.Assign [tg] e pos) (tAsg te g) := by
  intro pins s σ H D I h
  refine wpAny_Assign_stores (thn (he pins s σ H _ I h) fun v s1 ⟨x, H1, I1, r1, q1⟩ => ?_) hs hw
  rw [h1]
  exact thn (hg pins s1 σ H1 x v _ I1 r1 q1) fun _ s2 q => q
theorem ps_set {i : Nat} {x : Str} {e : Expr} {te : TE} {pos' : Pos} (hN : X.N.Nodup) (hi : X.N[i]? = some x) (hx : Loc X.env.scope x) (he : PE X e te) (hs : swapsWith e (some (.Name x pos')) pos.line X.env = pure false := by rfl) (hf : X.fn x = true ∨ X.env.scope.names.lookup x = some .local := by first | exact .inl rfl | exact .inr rfl | assumption) :
    PS X (.Assign [.Name x pos'] e pos) (tAsg te (gName i)) := by
  intro pins s σ H D I h
  refine wpAny_Assign_Name (thn (he pins s σ H _ I h) fun v s1 ⟨y, H1, I1, r1, q1⟩ => ?_) hs
  exact store_ok I1 hN hi hx r1 (fun s2 I2 => ⟨_, H1, I2, q1⟩) hf
end
section
variable {X : Cx} {pos : Pos}
end
structure It where
  go : Nat → Hp → Prop
  yld : Nat → Hp → V → Hp → Prop
  stop : Nat → Hp → Prop
noncomputable def FpOk (X : Cx) (pins : List (Addr × Obj)) (H : Hp) (b : Addr) : Prop :=
  H b = none ∧ b ≠ X.env.locals ∧ b ∉ X.fs ∧ (b ∈ X.ex ∨ X.s₀.heap.objs.size ≤ b) ∧ (∀ x c, X.env.cells.lookup x = some c → c ≠ b) ∧ ∀ p ∈ X.pn ++ pins, p.1 ≠ b
theorem Inv.fpOk {X : Cx} {pins : List (Addr × Obj)} {σ : St} {H H' : Hp} {s : Shared} {b : Addr} (I : Inv X pins σ H s) (hb : s.heap.objs.size ≤ b) (hn : H' b = none) : FpOk X pins H' b := by
  refine ⟨hn, Nat.ne_of_gt (Nat.lt_of_lt_of_le I.lt hb), I.nofs hb, .inr (Nat.le_trans I.sz hb), fun x c e z => ?_, fun p hp z => ?_⟩
  · obtain ⟨v, q⟩ := I.cell x c e
    exact absurd (Nat.lt_of_lt_of_le q.lt (by rw [z]; exact hb)) (Nat.lt_irrefl _)
  · exact absurd (Nat.lt_of_lt_of_le (Heap.lt_size (I.pin p hp).1) (by rw [z]; exact hb)) (Nat.lt_irrefl _)
structure Turn (P : Program) (w : World) (K : PySem.W.Frag) (tg : Expr) (J : It) (fp : List Addr) (it : Addr) (tn : Nat → Heap → Prop) : Prop where
  mem : it ∈ fp
  obj : ∀ i h, tn i h → ∀ b ∈ fp, ∃ o, h.get? b = some o ∧ ∀ v, o.data ≠ .cell v
  keep : ∀ i h h', tn i h → (∀ b ∈ fp, ∀ o, h.get? b = some o → h'.get? b = some o) → tn i h'
  item : ∀ (X : Cx), X.prog = P → X.w = w → X.K = K → X.calm = true → ∀ (i : Nat) (pins : List (Addr × Obj)) (s : Shared) (σ : St) (H : Hp) (E : Value → Shared → Prop), Inv X pins σ H s → (∀ b ∈ fp, FpOk X pins H b) → tn i s.heap → J.go i H →
    wpAny (model P w) X.A (pyNext (.ref it)) (fun r s1 => ∃ u, r = some u ∧
      wpAny (model P w) X.A (letOwnedTupleGo tg (.ref it) u) (fun _ s2 => ∃ x H', Inv X pins σ H' s2 ∧ RelV x u ∧ J.yld i H x H' ∧ tn (i + 1) s2.heap ∧ ∀ b ∈ fp, H' b = none) E s1) E s
  done : ∀ (X : Cx), X.prog = P → X.w = w → X.K = K → X.calm = true → ∀ (i : Nat) (pins : List (Addr × Obj)) (s : Shared) (σ : St) (H : Hp) (E : Value → Shared → Prop), Inv X pins σ H s → (∀ b ∈ fp, FpOk X pins H b) → tn i s.heap → J.stop i H →
    wpAny (model P w) X.A (pyNext (.ref it)) (fun r s1 => r = none ∧ Inv X pins σ H s1) E s
  self : ∀ (A : Around) (i : Nat) (s : Shared) (Q : Value → Shared → Prop) (E : Value → Shared → Prop), tn i s.heap → Q (.ref it) s → wpAny (model P w) A (pyIter (.ref it)) Q E s
noncomputable abbrev TI := St → Hp → (It → Hp → Prop) → Prop
noncomputable def PIE (X : Cx) (pins : List (Addr × Obj)) (σ : St) (tg : Expr) (R : It → Hp → Prop) (itv : Value) (s2 : Shared) : Prop :=
  ∃ (it : Addr) (fp : List Addr) (tn : Nat → Heap → Prop) (J : It) (H' : Hp), itv = .ref it ∧ Inv X pins σ H' s2 ∧ Turn X.prog X.w X.K tg J fp it tn ∧ tn 0 s2.heap ∧ (∀ b ∈ fp, FpOk X pins H' b) ∧ R J H'
noncomputable def PI (X : Cx) (tg iter : Expr) (wi : TI) : Prop :=
  ∀ (pins : List (Addr × Obj)) (s : Shared) (σ : St) (H : Hp) (R : It → Hp → Prop), Inv X pins σ H s → wi σ H R →
    wpAny (model X.prog X.w) X.A (eval iter X.env) (fun v s1 => wpAny (model X.prog X.w) X.A (pyIter v) (PIE X pins σ tg R) X.xe s1) X.xe s
theorem go_of {M : Model} {A : Around} {E : Value → Shared → Prop} {s : Shared} {tg : Expr} {it : Addr} {u : Value} {o : Obj} {n : String} {vs : Array Value} {Q : Unit → Shared → Prop} (ho : s.heap.get? it = some o) (hc : o.cls = .type n) (hd : o.data = .fields vs)
    (hn : ["enumerate", "zip", "dict_itemiterator", "dict_reverseitemiterator", "odict_iterator", "itertools.zip_longest", "itertools.pairwise"].contains n = false) (hQ : Q () s) : wpAny M A (letOwnedTupleGo tg (.ref it) u) Q E s := by
  unfold letOwnedTupleGo
  cases tg <;> first
    | exact wpAny_pure hQ
    | (cases u <;> first
        | exact wpAny_pure hQ
        | (refine wpAny_bind (wpAny_load ho ?_)
           rw [hc, hd]
           show wpAny M A (if (["enumerate", "zip", "dict_itemiterator", "dict_reverseitemiterator", "odict_iterator", "itertools.zip_longest", "itertools.pairwise"].contains n && vs[0]? == some (rawInt _)) = true then _ else _) Q E s
           rw [if_neg (by intro h; rw [hn, Bool.false_and] at h; cases h)]
           exact wpAny_pure hQ))
noncomputable def Itl (K : PySem.W.Frag) (a : Addr) : It :=
  ⟨fun i H => ∃ xs x, SqL K H a xs ∧ xs[i]? = some x, fun i H x H' => H' = H ∧ ∀ xs, SqL K H a xs → xs[i]? = some x, fun i H => ∃ xs, SqL K H a xs ∧ xs.length ≤ i⟩
noncomputable def Itt (K : PySem.W.Frag) (a : Addr) : It :=
  ⟨fun i H => ∃ xs x, SqT K H a xs ∧ xs[i]? = some x, fun i H x H' => H' = H ∧ ∀ xs, SqT K H a xs → xs[i]? = some x, fun i H => ∃ xs, SqT K H a xs ∧ xs.length ≤ i⟩
noncomputable def Itr (lo : Int) (n : Nat) : It := ⟨fun i _ => i < n, fun i H x H' => H' = H ∧ x = .int (lo + i), fun i _ => n ≤ i⟩
theorem turn_list {P : Program} {w : World} {K : PySem.W.Frag} {tg : Expr} (a it : Addr) : Turn P w K tg (Itl K a) [it] it (fun i h => h.IsListIter it a i) where
  mem := by simp
  obj := fun i h st b hb => by
    have e : b = it := by simpa using hb
    subst e
    obtain ⟨o, e, c, d⟩ := st
    exact ⟨o, e, fun v z => by rw [d] at z; cases z⟩
  keep := fun i h h' st k => st.at fun o e => k it (by simp) o e
  item := by
    intro X hP hw hK hc i pins s σ H E I hf st hg
    subst hP hw hK
    obtain ⟨xs, x, hq, hx⟩ := hg
    obtain ⟨its, rv, p, hz⟩ := I.list hq
    obtain ⟨u, hu, ru⟩ := rv.get hx
    obtain ⟨f0, f1, f2, f3, f4, f5⟩ := hf it (by simp)
    refine wpAny_pyNext_list_item st p.isList (x := u) (by simpa using hu) fun h' st' sb => ?_
    have I1 : Inv X pins σ H { s with heap := h' } := I.turned (t' := s.toks) (fun b o hb e => (sb.2 b hb).trans e) f0 f1 f3 f4 f5
    obtain ⟨o, e, c, d⟩ := id st'
    exact ⟨u, rfl, go_of (s := { s with heap := h' }) e c d (by decide) ⟨x, H, I1, ru, ⟨rfl, fun ys hy => by rw [I.list_inj hy hq]; exact hx⟩, st', fun b hb => (hf b hb).1⟩⟩
  done := by
    intro X hP hw hK hc i pins s σ H E I hf st hg
    subst hP hw hK
    obtain ⟨xs, hq, hx⟩ := hg
    obtain ⟨its, rv, p, hz⟩ := I.list hq
    obtain ⟨f0, f1, f2, f3, f4, f5⟩ := hf it (by simp)
    have hl := rv.length
    exact wpAny_pyNext_list_end (I.ok.hd hc) st p.isList (by simp; omega) fun h' eb => ⟨rfl, I.turned (t' := s.toks) (fun b o hb e => eb b o hb e) f0 f1 f3 f4 f5⟩
  self := fun _ _ _ _ _ st h => wpAny_pyIter_listiter st h
theorem turn_tuple {P : Program} {w : World} {K : PySem.W.Frag} {tg : Expr} (a it : Addr) : Turn P w K tg (Itt K a) [it] it (fun i h => h.IsTupleIter it a i) where
  mem := by simp
  obj := fun i h st b hb => by
    have e : b = it := by simpa using hb
    subst e
    obtain ⟨o, e, c, d⟩ := st
    exact ⟨o, e, fun v z => by rw [d] at z; cases z⟩
  keep := fun i h h' st k => st.at fun o e => k it (by simp) o e
  item := by
    intro X hP hw hK hc i pins s σ H E I hf st hg
    subst hP hw hK
    obtain ⟨xs, x, hq, hx⟩ := hg
    obtain ⟨its, rv, p, hz⟩ := I.tuple hq
    obtain ⟨u, hu, ru⟩ := rv.get hx
    obtain ⟨f0, f1, f2, f3, f4, f5⟩ := hf it (by simp)
    refine wpAny_pyNext_tuple_item st (show s.heap.IsTuple a its.toArray from p) (x := u) (by simpa using hu) fun h' st' sb => ?_
    have I1 : Inv X pins σ H { s with heap := h' } := I.turned (t' := s.toks) (fun b o hb e => (sb.2 b hb).trans e) f0 f1 f3 f4 f5
    obtain ⟨o, e, c, d⟩ := id st'
    exact ⟨u, rfl, go_of (s := { s with heap := h' }) e c d (by decide) ⟨x, H, I1, ru, ⟨rfl, fun ys hy => by rw [I.tuple_inj hy hq]; exact hx⟩, st', fun b hb => (hf b hb).1⟩⟩
  done := by
    intro X hP hw hK hc i pins s σ H E I hf st hg
    subst hP hw hK
    obtain ⟨xs, hq, hx⟩ := hg
    obtain ⟨its, rv, p, hz⟩ := I.tuple hq
    obtain ⟨f0, f1, f2, f3, f4, f5⟩ := hf it (by simp)
    have hl := rv.length
    exact wpAny_pyNext_tuple_end (I.ok.hd hc) st (show s.heap.IsTuple a its.toArray from p) (by simp; omega) fun h' eb => ⟨rfl, I.turned (t' := s.toks) (fun b o hb e => eb b o hb e) f0 f1 f3 f4 f5⟩
  self := fun _ _ _ _ _ st h => wpAny_pyIter_tupleiter st h
theorem turn_range {P : Program} {w : World} {K : PySem.W.Frag} {tg : Expr} (it : Addr) (lo : Int) (n : Nat) : Turn P w K tg (Itr lo n) [it] it (fun i h => IsRangeIter h it (lo + (i : Nat) * 1) ((n : Int) - (i : Nat)) 1) where
  mem := by simp
  obj := fun i h st b hb => by
    have e : b = it := by simpa using hb
    subst e
    exact ⟨_, st, fun v z => by
      have z' : Data.fields _ = Data.cell v := z
      cases z'⟩
  keep := fun i h h' st k => k it (by simp) _ st
  item := by
    intro X hP hw hK hc i pins s σ H E I hf st hg
    subst hP hw hK
    obtain ⟨f0, f1, f2, f3, f4, f5⟩ := hf it (by simp)
    have W := Walks.range (prog := X.prog) (w := X.w) (I.ok.hd hc) it lo 1 n
    refine W.item i s _ _ hg st fun v h' tk hv st' kk => ?_
    obtain ⟨t, rfl⟩ := hv
    have I1 : Inv X pins σ H { s with heap := h', toks := tk } := I.turned (fun b o hb e => kk b o (by simpa using hb) e) f0 f1 f3 f4 f5
    refine ⟨_, rfl, go_of (s := { s with heap := h', toks := tk }) (n := "range_iterator") st' rfl rfl (by decide) ⟨.int (lo + i), H, I1, ⟨t, ?_⟩, ⟨rfl, rfl⟩, st', fun b hb => (hf b hb).1⟩⟩
    rw [Int.mul_one]
  done := by
    intro X hP hw hK hc i pins s σ H E I hf st hg
    subst hP hw hK
    obtain ⟨f0, f1, f2, f3, f4, f5⟩ := hf it (by simp)
    exact wpAny_pyNext_range_end (I.ok.hd hc) st (by have : n ≤ i := hg; omega) fun h' eb => ⟨rfl, I.turned (t' := s.toks) (fun b o hb e => eb b o hb e) f0 f1 f3 f4 f5⟩
  self := fun _ _ _ _ _ st h => wpAny_pyIter_rangeiter st h
end L2
namespace L2
open PySem PySem.Spec PyProof.Rows
section
variable {X : Cx} {tg : Expr}
noncomputable def iList (K : PySem.W.Frag) (tl : TE) : TI := fun σ H R => tl σ H fun x H1 => ∃ a, x = .ref a ∧ (∃ xs, SqL K H1 a xs) ∧ R (Itl K a) H1
noncomputable def iTup (K : PySem.W.Frag) (tl : TE) : TI := fun σ H R => tl σ H fun x H1 => ∃ a, x = .ref a ∧ (∃ xs, SqT K H1 a xs) ∧ R (Itt K a) H1
theorem pi_list {l : Expr} {tl : TE} (hl : PE X l tl) : PI X tg l (iList X.K tl) := by
  intro pins s σ H R I h
  refine thn (hl pins s σ H _ I h) fun v s1 ⟨x, H1, I1, r1, q1⟩ => ?_
  obtain ⟨a, e, ⟨xs, hq⟩, q⟩ := q1
  subst e
  cases r1
  obtain ⟨its, rv, p, hz⟩ := I1.list hq
  refine wpAny_pyIter_list p.isList ?_
  refine ⟨s1.heap.objs.size, [s1.heap.objs.size], _, _, H1, rfl, I1.kept (t' := s1.toks) fun b o e => Heap.get?_push_of_some _ e, turn_list a _, ⟨_, Heap.get?_push_size _ rfl, rfl, rfl⟩, fun b hb => ?_, q⟩
  have e : b = s1.heap.objs.size := by simpa using hb
  subst e
  exact I1.fpOk (Nat.le_refl _) (I1.hok.fresh (Nat.le_refl _))
theorem pi_tup {l : Expr} {tl : TE} (hl : PE X l tl) : PI X tg l (iTup X.K tl) := by
  intro pins s σ H R I h
  refine thn (hl pins s σ H _ I h) fun v s1 ⟨x, H1, I1, r1, q1⟩ => ?_
  obtain ⟨a, e, ⟨xs, hq⟩, q⟩ := q1
  subst e
  cases r1
  obtain ⟨its, rv, p, hz⟩ := I1.tuple hq
  refine wpAny_pyIter_tuple (show s1.heap.IsTuple a its.toArray from p) ?_
  refine ⟨s1.heap.objs.size, [s1.heap.objs.size], _, _, H1, rfl, I1.kept (t' := s1.toks) fun b o e => Heap.get?_push_of_some _ e, turn_tuple a _, ⟨_, Heap.get?_push_size _ rfl, rfl, rfl⟩, fun b hb => ?_, q⟩
  have e : b = s1.heap.objs.size := by simpa using hb
  subst e
  exact I1.fpOk (Nat.le_refl _) (I1.hok.fresh (Nat.le_refl _))
theorem range_it {pins : List (Addr × Obj)} {σ : St} {H : Hp} {s : Shared} {R : It → Hp → Prop} {E : Value → Shared → Prop} {lo hi : Int} {t u v : Tok} {tk : Nat} (I : Inv X pins σ H s) (h1 : -(2 ^ 62) ≤ lo) (h2 : lo < 2 ^ 62) (h3 : -(2 ^ 62) ≤ hi) (h4 : hi < 2 ^ 62)
    (q : R (Itr lo (hi - lo).toNat) H) : wpAny (model X.prog X.w) X.A (pyIter (.ref s.heap.objs.size)) (PIE X pins σ tg R) E { s with heap := s.heap.push { cls := .type "range", data := .fields #[.int lo t, .int hi u, .int 1 v] }, toks := tk } := by
  refine wpAny_pyIter_range (IsRange.new ..) (small_one h1 h2 h3 h4) ?_
  have I1 : Inv X pins σ H { s with heap := s.heap.push { cls := .type "range", data := .fields #[.int lo t, .int hi u, .int 1 v] }, toks := tk } := I.kept fun b o e => Heap.get?_push_of_some _ e
  refine ⟨(s.heap.push { cls := .type "range", data := .fields #[.int lo t, .int hi u, .int 1 v] }).objs.size, [(s.heap.push { cls := .type "range", data := .fields #[.int lo t, .int hi u, .int 1 v] }).objs.size], _, _, H, rfl,
    I1.kept (t' := tk) fun b o e => Heap.get?_push_of_some _ e, turn_range _ lo (hi - lo).toNat, ?_, fun b hb => ?_, q⟩
  · have e1 : lo + ((0 : Nat) : Int) * 1 = lo := by simp
    have e2 : (((hi - lo).toNat : Nat) : Int) - ((0 : Nat) : Int) = Builtin.Range.rangeSize lo hi 1 := by rw [rangeSize_one]; split <;> omega
    show IsRangeIter _ _ (lo + ((0 : Nat) : Int) * 1) ((((hi - lo).toNat : Nat) : Int) - ((0 : Nat) : Int)) 1
    rw [e1, e2]
    exact Heap.get?_push_size _ rfl
  · have e : b = (s.heap.push { cls := .type "range", data := .fields #[.int lo t, .int hi u, .int 1 v] }).objs.size := by simpa using hb
    subst e
    exact I1.fpOk (Nat.le_refl _) (I1.hok.fresh (Nat.le_refl _))
noncomputable def iRng1 (ta : TA) : TI := fun σ H R => ta σ H fun vs H1 => ∃ j : Int, vs = [.int j] ∧ -(2 ^ 62) ≤ j ∧ j < 2 ^ 62 ∧ R (Itr 0 j.toNat) H1
theorem pi_range1 {a : Expr} {ta : TA} {p pos : Pos} (hg : Gl X "range") (hm : X.mg "range" = none) (ha : PA X [a] ta) (hs : starEach [a] X.env = [(false, eval a X.env)] := by rfl) : PI X tg (.Call (.Name "range" p) [a] [] pos) (iRng1 ta) := by
  intro pins s σ H R I h
  refine Call_ (ld_blt I hg hm boot_range (PyProof.Rows.callWith_type1 (thn (ha pos pins s σ H _ I h) fun us s1 ⟨vs, H1, I1, r1, q1⟩ => ?_) hs rfl))
  obtain ⟨j, e, q1, q2, q⟩ := q1
  subst e
  cases r1 with
  | cons r rr =>
    cases rr
    obtain ⟨t, rfl⟩ := r
    exact call_range_1 (range_it I1 (by omega) (by omega) q1 q2 (by simpa using q))
noncomputable def tFor (wi : TI) (g : TG) (tb : TS) : TS := fun D σ H => wi σ H fun J H1 => ∃ W : Nat → Nat → St → Hp → Prop, (∃ m, W 0 m σ H1) ∧ ∀ i m σ H, W i m σ H →
  (J.stop i H ∧ D.nx σ H) ∨ (J.go i H ∧ ∃ N : St → Hp → Prop, (∀ σ' H', N σ' H' → ∃ m', m' < m ∧ W (i + 1) m' σ' H') ∧ ∀ x H', J.yld i H x H' → g x σ H' fun σ2 H2 => tb { D with nx := N, ct := N, bk := D.nx } σ2 H2)
noncomputable def pinsAt (fp : List Addr) (h : Heap) : List (Addr × Obj) := fp.filterMap fun b => (h.get? b).map fun o => (b, o)
theorem mem_pinsAt {fp : List Addr} {h : Heap} {b : Addr} {o : Obj} (hb : b ∈ fp) (e : h.get? b = some o) : (b, o) ∈ pinsAt fp h := List.mem_filterMap.mpr ⟨b, hb, by rw [e]; rfl⟩
theorem of_pinsAt {fp : List Addr} {h : Heap} {p : Addr × Obj} (hp : p ∈ pinsAt fp h) : p.1 ∈ fp ∧ h.get? p.1 = some p.2 := by
  obtain ⟨b, hb, e⟩ := List.mem_filterMap.mp hp
  cases q : h.get? b with
  | none => rw [q] at e; cases e
  | some o =>
    rw [q] at e
    have e' : (b, o) = p := Option.some.inj e
    subst e'
    exact ⟨hb, q⟩
theorem Inv.pinned {pins : List (Addr × Obj)} {σ : St} {H : Hp} {s : Shared} {fp : List Addr} (I : Inv X pins σ H s) (hf : ∀ b ∈ fp, FpOk X pins H b) (ho : ∀ b ∈ fp, ∃ o, s.heap.get? b = some o ∧ ∀ v, o.data ≠ .cell v) : Inv X (pins ++ pinsAt fp s.heap) σ H s :=
  I.pins_of fun p hp => (List.mem_append.mp hp).elim (fun z => I.pin p (List.mem_append_right _ z)) fun z => by
    obtain ⟨hb, e⟩ := of_pinsAt z
    obtain ⟨f0, f1, f2, _⟩ := hf p.1 hb
    obtain ⟨o, e', d⟩ := ho p.1 hb
    rw [e] at e'; cases e'
    exact ⟨e, f0, f1, f2, d⟩
theorem Inv.unpinned {pins pl : List (Addr × Obj)} {σ : St} {H : Hp} {s : Shared} (I : Inv X (pins ++ pl) σ H s) : Inv X pins σ H s := I.pins_of fun p hp => I.pin p (List.mem_append_right _ (List.mem_append_left _ hp))
theorem ps_for {iter : Expr} {body : List Stmt} {wi : TI} {g : TG} {tb : TS} {pos : Pos} (hp : PassesOwn (model X.prog X.w) X.A X.env X.xe) (hc : X.calm = true) (hi : PI X tg iter wi) (hg : PG X tg g) (hb : PSs X body tb)
    (hs : ∀ x, foldedSetIterable iter X.env x = pure x := by intro _; rfl) : PS X (.For tg iter body [] pos) (tFor wi g tb) := by
  intro pins s σ H D I h
  refine wpAny_For (thn (hi pins s σ H _ I h) fun v s1 h1 => thn h1 fun itv s2 h2 => ?_) hs
  obtain ⟨it, fp, tn, J, H2, e, I2, T, st2, f2, W, ⟨m0, w0⟩, turn⟩ := h2
  subst e
  have stat : ∀ {H' : Hp}, (∀ b ∈ fp, H' b = none) → ∀ b ∈ fp, FpOk X pins H' b := fun hn b hb => ⟨hn b hb, (f2 b hb).2⟩
  refine codeAny_forLoop_any (fun n s' => ∃ i σ' H', Inv X pins σ' H' s' ∧ tn i s'.heap ∧ (∀ b ∈ fp, H' b = none) ∧ W i n σ' H') ?_ m0 ⟨0, σ, H2, I2, st2, fun b hb => (f2 b hb).1, w0⟩
  rintro n s3 ⟨i, σ3, H3, I3, st3, fr3, w3⟩
  rcases turn i n σ3 H3 w3 with ⟨stop, qn⟩ | ⟨go, N, hN, step⟩
  · refine wpAny_passesOwn hp (thn (T.done X rfl rfl rfl hc i pins s3 σ3 H3 X.xe I3 (stat fr3) st3 stop) fun r s4 ⟨hr, I4⟩ => ?_)
    subst hr
    exact wpAny_execs_nil ⟨σ3, H3, I4, qn⟩
  · refine wpAny_passesOwn hp (thn (T.item X rfl rfl rfl hc i pins s3 σ3 H3 X.xe I3 (stat fr3) st3 go) fun r s4 ⟨u, hr, h4⟩ => ?_)
    subst hr
    refine wpAny_passesOwn hp (thn h4 fun _ s5 ⟨x, H5, I5, r5, y5, st5, fr5⟩ => ?_)
    have I5' := I5.pinned (stat fr5) (T.obj _ _ st5)
    refine wpAny_passesOwn hp (thn (hg _ s5 σ3 H5 x u _ I5' r5 (step x H5 y5)) fun _ s6 ⟨σ6, H6, I6, q6⟩ => ?_)
    refine wpAny_passesOwn hp (thn (hb _ s6 σ6 H6 _ I6 q6) fun f s7 q7 => ?_)
    have again : ∀ {σ7 : St} {H7 : Hp}, Inv X (pins ++ pinsAt fp s5.heap) σ7 H7 s7 → N σ7 H7 → ∃ m, m < n ∧ ∃ i σ' H', Inv X pins σ' H' s7 ∧ tn i s7.heap ∧ (∀ b ∈ fp, H' b = none) ∧ W i m σ' H' := fun {σ7 H7} I7 n7 => by
      obtain ⟨m', hm, w7⟩ := hN σ7 H7 n7
      refine ⟨m', hm, i + 1, σ7, H7, I7.unpinned, T.keep _ _ _ st5 fun b hb o e => (I7.pin (b, o) (List.mem_append_right _ (List.mem_append_right _ (mem_pinsAt hb e)))).1, fun b hb => ?_, w7⟩
      obtain ⟨o, e, d⟩ := T.obj _ _ st5 b hb
      exact (I7.pin (b, o) (List.mem_append_right _ (List.mem_append_right _ (mem_pinsAt hb e)))).2.1
    cases f with
    | next => obtain ⟨σ7, H7, I7, n7⟩ := q7; exact again I7 n7
    | cont => obtain ⟨σ7, H7, I7, n7⟩ := q7; exact again I7 n7
    | brk => obtain ⟨σ7, H7, I7, q7⟩ := q7; exact ⟨σ7, H7, I7.unpinned, q7⟩
    | ret v => obtain ⟨x7, σ7, H7, I7, r7, q7⟩ := q7; exact ⟨x7, σ7, H7, I7.unpinned, r7, q7⟩
end
end L2
namespace L2
open PySem PySem.Spec PyProof.Rows
noncomputable abbrev R2 := V → V → Hp → VK → Prop
noncomputable def OpR (X : Cx) (f : Value → Value → Sem Value) (r : R2) : Prop :=
  ∀ (pins : List (Addr × Obj)) (s : Shared) (σ : St) (H : Hp) (x y : V) (v u : Value) (Q : VK), Inv X pins σ H s → RelV x v → RelV y u → r x y H Q →
    wpAny (model X.prog X.w) X.A (f v u) (EP X pins σ Q) X.xe s
noncomputable def UnR (X : Cx) (f : Value → Sem Value) (r : V → Hp → VK → Prop) : Prop :=
  ∀ (pins : List (Addr × Obj)) (s : Shared) (σ : St) (H : Hp) (x : V) (v : Value) (Q : VK), Inv X pins σ H s → RelV x v → r x H Q →
    wpAny (model X.prog X.w) X.A (f v) (EP X pins σ Q) X.xe s
noncomputable def CallR (X : Cx) (f : Value) (r : List V → Hp → VK → Prop) : Prop :=
  ∀ (pins : List (Addr × Obj)) (s : Shared) (σ : St) (H : Hp) (xs : List V) (us : List Value) (Q : VK), Inv X pins σ H s → Vals xs us → r xs H Q →
    wpAny (model X.prog X.w) X.A (call f us) (EP X pins σ Q) X.xe s
noncomputable def TruR (X : Cx) (r : V → Hp → (Bool → Hp → Prop) → Prop) : Prop :=
  ∀ (pins : List (Addr × Obj)) (s : Shared) (σ : St) (H : Hp) (x : V) (v : Value) (Q : Bool → Hp → Prop), Inv X pins σ H s → RelV x v → r x H Q →
    wpAny (model X.prog X.w) X.A (truthy v) (TP X pins σ Q) X.xe s
noncomputable def tOp (r : R2) (ta tb : TE) : TE := fun σ H Q => ta σ H fun x H1 => tb σ H1 fun y H2 => r x y H2 Q
noncomputable def tUn (r : V → Hp → VK → Prop) (ta : TE) : TE := fun σ H Q => ta σ H fun x H1 => r x H1 Q
noncomputable def rI (C : Int → Int → Prop) (g : Int → Int → V) : R2 := fun x y H Q => ∃ i j, x = .int i ∧ y = .int j ∧ C i j ∧ Q (g i j) H
noncomputable def rI0 (g : Int → Int → V) : R2 := fun x y H Q => ∃ i j, x = .int i ∧ y = .int j ∧ Q (g i j) H
noncomputable def rU (g : Int → V) : V → Hp → VK → Prop := fun x H Q => ∃ i, x = .int i ∧ Q (g i) H
section
variable {X : Cx} {a b c : Expr} {ta tb tc : TE} {pos : Pos}
theorem binT (ha : PE X a ta) (hb : PE X b tb) {pins : List (Addr × Obj)} {s : Shared} {σ : St} {H : Hp} {R : V → V → Hp → Prop} (I : Inv X pins σ H s)
    (h : ta σ H fun x H1 => tb σ H1 fun y H2 => R x y H2) {Q : Value → Shared → Prop} {f : Value → Value → Sem Value}
    (hf : ∀ v u s2 x y H2, Inv X pins σ H2 s2 → RelV x v → RelV y u → R x y H2 → wpAny (model X.prog X.w) X.A (f v u) Q X.xe s2) :
    wpAny (model X.prog X.w) X.A (eval a X.env) (fun v s₁ => wpAny (model X.prog X.w) X.A (eval b X.env) (fun u s₂ => wpAny (model X.prog X.w) X.A (f v u) Q X.xe s₂) X.xe s₁) X.xe s := by
  refine thn (ha pins s σ H _ I h) fun v s1 ⟨x, H1, I1, r1, q1⟩ => ?_
  refine thn (hb pins s1 σ H1 _ I1 q1) fun u s2 ⟨y, H2, I2, r2, q2⟩ => ?_
  exact hf v u s2 x y H2 I2 r1 r2 q2
theorem pe_op {op : Operator} {r : R2} (ho : OpR X (binaryOp op) r) (ha : PE X a ta) (hb : PE X b tb) : PE X (.BinOp a op b pos) (tOp r ta tb) := by
  intro pins s σ H Q I h
  exact wpAny_BinOp (binT ha hb I h fun v u s2 x y H2 I2 rx ry q => ho pins s2 σ H2 x y v u Q I2 rx ry q)
theorem pe_un {op : UnaryOp} {r : V → Hp → VK → Prop} (ho : UnR X (unaryOp op) r) (ha : PE X a ta) : PE X (.UnaryOp op a pos) (tUn r ta) := by
  intro pins s σ H Q I h
  exact UnaryOp_ (thn (ha pins s σ H _ I h) fun v s1 ⟨x, H1, I1, r1, q1⟩ => ho pins s1 σ H1 x v Q I1 r1 q1)
theorem opI {f : Value → Value → Sem Value} {C : Int → Int → Prop} {g : Int → Int → Int}
    (rule : ∀ (i j : Int) (t u : Tok) (s : Shared) (Q : Value → Shared → Prop) (E : Value → Shared → Prop), C i j → Q (.int (g i j) s.toks) { s with toks := s.toks + 1 } → wpAny (model X.prog X.w) X.A (f (.int i t) (.int j u)) Q E s) :
    OpR X f (rI C fun i j => .int (g i j)) := by
  intro pins s σ H x y v u Q I rx ry h
  obtain ⟨i, j, rfl, rfl, hc, q⟩ := h
  obtain ⟨t, rfl⟩ := rx
  obtain ⟨t', rfl⟩ := ry
  exact rule i j t t' s _ _ hc ⟨.int (g i j), H, I.tok _, ⟨_, rfl⟩, q⟩
theorem opI0 {f : Value → Value → Sem Value} {g : Int → Int → Int}
    (rule : ∀ (i j : Int) (t u : Tok) (s : Shared) (Q : Value → Shared → Prop) (E : Value → Shared → Prop), Q (.int (g i j) s.toks) { s with toks := s.toks + 1 } → wpAny (model X.prog X.w) X.A (f (.int i t) (.int j u)) Q E s) :
    OpR X f (rI0 fun i j => .int (g i j)) := by
  intro pins s σ H x y v u Q I rx ry h
  obtain ⟨i, j, rfl, rfl, q⟩ := h
  obtain ⟨t, rfl⟩ := rx
  obtain ⟨t', rfl⟩ := ry
  exact rule i j t t' s _ _ ⟨.int (g i j), H, I.tok _, ⟨_, rfl⟩, q⟩
theorem opB0 {f : Value → Value → Sem Value} {g : Int → Int → Bool}
    (rule : ∀ (i j : Int) (t u : Tok) (s : Shared) (Q : Value → Shared → Prop) (E : Value → Shared → Prop), Q (.bool (g i j)) s → wpAny (model X.prog X.w) X.A (f (.int i t) (.int j u)) Q E s) :
    OpR X f (rI0 fun i j => .bl (g i j)) := by
  intro pins s σ H x y v u Q I rx ry h
  obtain ⟨i, j, rfl, rfl, q⟩ := h
  obtain ⟨t, rfl⟩ := rx
  obtain ⟨t', rfl⟩ := ry
  exact rule i j t t' s _ _ ⟨.bl (g i j), H, I, rfl, q⟩
noncomputable def CDiv (i j : Int) : Prop := 0 < j ∧ j < 1073741824
noncomputable def CPow (i j : Int) : Prop := 0 ≤ j ∧ j ≤ 1000000 ∧ i.natAbs < 2 ^ 64
noncomputable def CMul (i j : Int) : Prop := (-(2 ^ 64) < i ∧ i < 2 ^ 64) ∨ (-(2 ^ 64) < j ∧ j < 2 ^ 64)
theorem CMul.ok {i j : Int} (h : CMul i j) : IntMulOk i j := by
  rcases h with ⟨h1, h2⟩ | ⟨h1, h2⟩
  · exact .of_left (intBits_le_64 h1 h2)
  · exact .of_right (intBits_le_64 h1 h2)
theorem op_add : OpR X (binaryOp .Add) (rI0 fun i j => .int (i + j)) := opI0 fun _ _ _ _ _ _ _ q => add_int q
theorem op_sub : OpR X (binaryOp .Sub) (rI0 fun i j => .int (i - j)) := opI0 fun _ _ _ _ _ _ _ q => sub_int q
theorem op_mul : OpR X (binaryOp .Mult) (rI CMul fun i j => .int (i * j)) := opI fun _ _ _ _ _ _ _ hc q => mul_int q hc.ok
theorem op_fdiv : OpR X (binaryOp .FloorDiv) (rI CDiv fun i j => .int (i / j)) := opI fun i j _ _ _ _ _ hc q => by
  have h1 : (0 : Int) < j := hc.1
  have h2 : j < 1073741824 := hc.2
  exact floordiv_int (by omega) (by rw [Int.fdiv_eq_ediv_of_nonneg i (by omega)]; exact q) (.inl (PyProof.noPylong_small (by omega)))
theorem op_mod : OpR X (binaryOp .Mod) (rI (fun _ j => 0 < j) fun i j => .int (i % j)) := opI fun i j _ _ _ _ _ hc q => by
  have h1 : (0 : Int) < j := hc
  exact mod_int' (by omega) (by rw [Int.fmod_eq_emod_of_nonneg i (by omega)]; exact q)
theorem op_pow : OpR X (binaryOp .Pow) (rI CPow fun i j => .int (i ^ j.toNat)) := opI fun _ _ _ _ _ _ _ hc q => pow_int_small hc.1 hc.2.1 hc.2.2 q
theorem unI {f : Value → Sem Value} {g : Int → Int}
    (rule : ∀ (i : Int) (t : Tok) (s : Shared) (Q : Value → Shared → Prop) (E : Value → Shared → Prop), Q (.int (g i) s.toks) { s with toks := s.toks + 1 } → wpAny (model X.prog X.w) X.A (f (.int i t)) Q E s) :
    UnR X f (rU fun i => .int (g i)) := by
  intro pins s σ H x v Q I rx h
  obtain ⟨i, rfl, q⟩ := h
  obtain ⟨t, rfl⟩ := rx
  exact rule i t s _ _ ⟨.int (g i), H, I.tok _, ⟨_, rfl⟩, q⟩
theorem un_neg : UnR X (unaryOp .USub) (rU fun i => .int (-i)) := unI fun _ _ _ _ _ q => neg_int q
end
noncomputable def scal : V → V → Bool
  | .non, .non => true | .non, .int _ => true | .int _, .non => true | .non, .bl _ => true | .bl _, .non => true | .non, .str _ => true | .str _, .non => true
  | .int _, .int _ => true | .bl _, .bl _ => true | .str _, .str _ => true | .byt _, .byt _ => true
  | .int _, .str _ => true | .str _, .int _ => true | .bl _, .str _ => true | .str _, .bl _ => true
  | _, _ => false
noncomputable def rEq : R2 := fun x y H Q => scal x y = true ∧ Q (.bl (decide (x = y))) H
noncomputable def rNe : R2 := fun x y H Q => scal x y = true ∧ Q (.bl (!decide (x = y))) H
theorem dec_int {i j : Int} : decide (V.int i = V.int j) = (i == j) := by
  rw [Bool.eq_iff_iff]
  simp
theorem dec_bl {i j : Bool} : decide (V.bl i = V.bl j) = (i == j) := by
  rw [Bool.eq_iff_iff]
  simp
theorem dec_str {i j : Str} : decide (V.str i = V.str j) = (i == j) := by
  rw [Bool.eq_iff_iff]
  simp
theorem dec_byt {i j : Array UInt8} : decide (V.byt i = V.byt j) = (i.toList == j.toList) := by
  rw [Bool.eq_iff_iff]
  cases i
  cases j
  simp
section
variable {X : Cx} {a b c : Expr} {ta tb tc : TE} {pos : Pos}
theorem fin_bl {pins : List (Addr × Obj)} {σ : St} {H : Hp} {s : Shared} {Q : VK} {k k' : Bool} (I : Inv X pins σ H s) (q : Q (.bl k) H) (e : k = k') : EP X pins σ Q (.bool k') s := by
  subst e
  exact ⟨.bl k, H, I, rfl, q⟩
theorem op_eq : OpR X (compareOp .Eq) rEq := by
  intro pins s σ H x y v u Q I rx ry h
  obtain ⟨hs, q⟩ := h
  cases x with
  | non =>
    cases rx
    cases y with
    | non => cases ry; exact PySem.EqNone.eq_none_none (fin_bl I q (by simp))
    | bl j => cases ry; exact PySem.EqNone.eq_none_bool (fin_bl I q (by simp))
    | int j => obtain ⟨t', rfl⟩ := ry; exact PySem.EqNone.eq_none_int (fin_bl I q (by simp))
    | str j => obtain ⟨t', rfl⟩ := ry; exact PySem.EqNone.eq_none_str (fin_bl I q (by simp))
    | _ => exact absurd (show false = true from hs) Bool.false_ne_true
  | bl i =>
    cases rx
    cases y with
    | non => cases ry; exact PySem.EqNone.eq_bool_none (fin_bl I q (by simp))
    | bl j => cases ry; exact eq_bool (fin_bl I q dec_bl)
    | str j => obtain ⟨t', rfl⟩ := ry; exact PySem.EqMixed.eq_bool_str (fin_bl I q (by simp))
    | _ => exact absurd (show false = true from hs) Bool.false_ne_true
  | int i =>
    obtain ⟨t, rfl⟩ := rx
    cases y with
    | non => cases ry; exact PySem.EqNone.eq_int_none (fin_bl I q (by simp))
    | int j => obtain ⟨t', rfl⟩ := ry; exact eq_int (fin_bl I q dec_int)
    | str j => obtain ⟨t', rfl⟩ := ry; exact PySem.EqMixed.eq_int_str (fin_bl I q (by simp))
    | _ => exact absurd (show false = true from hs) Bool.false_ne_true
  | str i =>
    obtain ⟨t, rfl⟩ := rx
    cases y with
    | non => cases ry; exact PySem.EqNone.eq_str_none (fin_bl I q (by simp))
    | bl j => cases ry; exact PySem.EqMixed.eq_str_bool (fin_bl I q (by simp))
    | int j => obtain ⟨t', rfl⟩ := ry; exact PySem.EqMixed.eq_str_int (fin_bl I q (by simp))
    | str j => obtain ⟨t', rfl⟩ := ry; exact eq_str (fin_bl I q dec_str)
    | _ => exact absurd (show false = true from hs) Bool.false_ne_true
  | byt i =>
    obtain ⟨t, rfl⟩ := rx
    cases y with
    | byt j => obtain ⟨t', rfl⟩ := ry; exact PySem.W.eq_bytes (fin_bl I q dec_byt)
    | _ => exact absurd (show false = true from hs) Bool.false_ne_true
  | _ => cases y <;> exact absurd (show false = true from hs) Bool.false_ne_true
theorem op_ne : OpR X (compareOp .NotEq) rNe := by
  intro pins s σ H x y v u Q I rx ry h
  obtain ⟨hs, q⟩ := h
  cases x with
  | non =>
    cases rx
    cases y with
    | non => cases ry; exact PySem.EqNone.ne_none_none (fin_bl I q (by simp))
    | bl j => cases ry; exact PySem.EqNone.ne_none_bool (fin_bl I q (by simp))
    | int j => obtain ⟨t', rfl⟩ := ry; exact PySem.EqNone.ne_none_int (fin_bl I q (by simp))
    | str j => obtain ⟨t', rfl⟩ := ry; exact PySem.EqNone.ne_none_str (fin_bl I q (by simp))
    | _ => exact absurd (show false = true from hs) Bool.false_ne_true
  | bl i =>
    cases rx
    cases y with
    | non => cases ry; exact PySem.EqNone.ne_bool_none (fin_bl I q (by simp))
    | bl j => cases ry; exact ne_bool (fin_bl I q (congrArg not dec_bl))
    | str j => obtain ⟨t', rfl⟩ := ry; exact PySem.EqMixed.ne_bool_str (fin_bl I q (by simp))
    | _ => exact absurd (show false = true from hs) Bool.false_ne_true
  | int i =>
    obtain ⟨t, rfl⟩ := rx
    cases y with
    | non => cases ry; exact PySem.EqNone.ne_int_none (fin_bl I q (by simp))
    | int j => obtain ⟨t', rfl⟩ := ry; exact ne_int (fin_bl I q (congrArg not dec_int))
    | str j => obtain ⟨t', rfl⟩ := ry; exact PySem.EqMixed.ne_int_str (fin_bl I q (by simp))
    | _ => exact absurd (show false = true from hs) Bool.false_ne_true
  | str i =>
    obtain ⟨t, rfl⟩ := rx
    cases y with
    | non => cases ry; exact PySem.EqNone.ne_str_none (fin_bl I q (by simp))
    | bl j => cases ry; exact PySem.EqMixed.ne_str_bool (fin_bl I q (by simp))
    | int j => obtain ⟨t', rfl⟩ := ry; exact PySem.EqMixed.ne_str_int (fin_bl I q (by simp))
    | str j => obtain ⟨t', rfl⟩ := ry; exact ne_str (fin_bl I q (congrArg not dec_str))
    | _ => exact absurd (show false = true from hs) Bool.false_ne_true
  | byt i =>
    obtain ⟨t, rfl⟩ := rx
    cases y with
    | byt j => obtain ⟨t', rfl⟩ := ry; exact PySem.W.ne_bytes (fin_bl I q (congrArg not dec_byt))
    | _ => exact absurd (show false = true from hs) Bool.false_ne_true
  | _ => cases y <;> exact absurd (show false = true from hs) Bool.false_ne_true
theorem op_lt : OpR X (compareOp .Lt) (rI0 fun i j => .bl (decide (i < j))) := opB0 fun _ _ _ _ _ _ _ q => lt_int q
theorem op_le : OpR X (compareOp .LtE) (rI0 fun i j => .bl (decide (i ≤ j))) := opB0 fun _ _ _ _ _ _ _ q => le_int q
theorem op_gt : OpR X (compareOp .Gt) (rI0 fun i j => .bl (decide (j < i))) := opB0 fun _ _ _ _ _ _ _ q => gt_int q
theorem op_ge : OpR X (compareOp .GtE) (rI0 fun i j => .bl (decide (j ≤ i))) := opB0 fun _ _ _ _ _ _ _ q => ge_int q
theorem OpR.or {f : Value → Value → Sem Value} {r r' : R2} (h : OpR X f r) (h' : OpR X f r') : OpR X f (fun x y H Q => r x y H Q ∨ r' x y H Q) := by
  intro pins s σ H x y v u Q I rx ry q
  rcases q with q | q
  · exact h pins s σ H x y v u Q I rx ry q
  · exact h' pins s σ H x y v u Q I rx ry q
theorem nomark (b : Expr) {op : CmpOp} (h : op ≠ .In := by decide) (h2 : op ≠ .NotIn := by decide) : behindInMarks op b = false := by
  have e1 : (op == CmpOp.In) = false := by cases op <;> first | rfl | exact absurd rfl h
  have e2 : (op == CmpOp.NotIn) = false := by cases op <;> first | rfl | exact absurd rfl h2
  cases b <;> simp [behindInMarks, e1, e2]
theorem pe_cmpR {op : CmpOp} {r : R2} (ho : OpR X (compareOp op) r) (ha : PE X a ta) (hb : PE X b tb) (hm : behindInMarks op b = false) : PE X (.Compare a [op] [b] pos) (tOp r ta tb) := by
  intro pins s σ H Q I h
  exact wpAny_Compare1 (binT ha hb I h fun v u s2 x y H2 I2 rx ry q => ho pins s2 σ H2 x y v u Q I2 rx ry q) hm
noncomputable def tTest (t : TE) : TT := fun σ H Q => t σ H fun x H' => ∃ k, x = .bl k ∧ Q k H'
theorem pt_cmpR {op : CmpOp} {r : R2} (ho : OpR X (compareOp op) r) (ha : PE X a ta) (hb : PE X b tb) (hm : behindInMarks op b = false) : PT X (.Compare a [op] [b] pos) (tTest (tOp r ta tb)) := by
  intro pins s σ H Q I h
  refine wpAny_isTrue_Compare1 (thn (ha pins s σ H _ I h) fun v s1 ⟨x, H1, I1, r1, q1⟩ => thn (hb pins s1 σ H1 _ I1 q1) fun u s2 ⟨y, H2, I2, r2, q2⟩ =>
    thn (ho pins s2 σ H2 x y v u _ I2 r1 r2 q2) fun c s3 ⟨z, H3, I3, r3, k, e, q3⟩ => ?_) hm
  subst e
  cases r3
  exact wpAny_truthy_bool ⟨H3, I3, q3⟩
noncomputable def TruV (K : PySem.W.Frag) (x : V) (H : Hp) (k : Bool) : Prop :=
  match x with
  | .non => k = false
  | .bl b => k = b
  | .int i => k = (i != 0)
  | .str y => y.length ≤ sizeLine ∧ k = ((y.length : Int) != 0)
  | .byt y => y.size ≤ sizeLine ∧ k = ((y.size : Int) != 0)
  | .ref p => (∃ xs, SqL K H p xs ∧ k = !xs.isEmpty) ∨ (∃ xs, SqT K H p xs ∧ k = !xs.isEmpty) ∨ ∃ kvs, H p = some (.dK kvs) ∧ k = !kvs.isEmpty
  | _ => False
theorem isEmpty_kv {κ : Type} {kvs : List (κ × V)} {vs : List (κ × Value)} (r : KV kvs vs) : (!vs.isEmpty) = !kvs.isEmpty := by
  cases r <;> rfl
theorem isEmpty_of {xs : List V} {its : List Value} (r : Vals xs its) : (!its.toArray.isEmpty) = !xs.isEmpty := by
  cases r <;> simp
theorem line63 : (sizeLine : Nat) < 2 ^ 63 := by rw [sizeLine_eq]; decide
theorem tru_ok : TruR X (fun x H Q => ∃ k, TruV X.K x H k ∧ Q k H) := by
  intro pins s σ H x v Q I rx h
  obtain ⟨k, e, q⟩ := h
  have hl := line63
  have hs : sizeLine = 16777216 := sizeLine_eq
  cases x with
  | non =>
    cases rx
    have e' : k = false := e
    subst e'
    exact truthy_none ⟨H, I, q⟩
  | bl b =>
    cases rx
    have e' : k = b := e
    subst e'
    exact wpAny_truthy_bool ⟨H, I, q⟩
  | int i =>
    obtain ⟨t, rfl⟩ := rx
    have e' : k = (i != 0) := e
    subst e'
    exact PySem.P.truthy_int ⟨H, I, q⟩
  | str y =>
    obtain ⟨t, rfl⟩ := rx
    obtain ⟨hy, e'⟩ : y.length ≤ sizeLine ∧ k = ((y.length : Int) != 0) := e
    subst e'
    exact PySem.P.truthy_str (by omega) ⟨H, I.tok _, q⟩
  | byt y =>
    obtain ⟨t, rfl⟩ := rx
    obtain ⟨hy, e'⟩ : y.size ≤ sizeLine ∧ k = ((y.size : Int) != 0) := e
    subst e'
    exact PySem.W.truthy_bytes (by omega) ⟨H, I.tok _, q⟩
  | ref p =>
    cases rx
    have e' : (∃ xs, SqL X.K H p xs ∧ k = !xs.isEmpty) ∨ (∃ xs, SqT X.K H p xs ∧ k = !xs.isEmpty) ∨ ∃ kvs, H p = some (.dK kvs) ∧ k = !kvs.isEmpty := e
    rcases e' with ⟨xs, hx, e'⟩ | ⟨xs, hx, e'⟩ | ⟨kvs, hx, e'⟩
    · subst e'
      obtain ⟨its, r, pl, hz⟩ := I.list hx
      have hlen := r.length
      exact wpAny_truthy_list pl.isList (by simp only [List.size_toArray]; omega) ⟨H, I.tok _, by rw [isEmpty_of r]; exact q⟩
    · subst e'
      obtain ⟨its, r, pl, hz⟩ := I.tuple hx
      have hlen := r.length
      exact truthy_tuple pl (by simp only [List.size_toArray]; omega) ⟨H, I.tok _, by rw [isEmpty_of r]; exact q⟩
    · subst e'
      obtain ⟨hz, hS, vs, r, m⟩ : kvs.length ≤ sizeLine ∧ (p == sysModules) = false ∧ ∃ vs, KV kvs vs ∧ s.heap.DictOf (mixKind X.prog X.w) p vs := I.hok p _ hx
      have hlen : kvs.length = vs.length := Paired.length r
      exact wpAny_truthy_dict hS m (by omega) ⟨H, I.tok _, by rw [isEmpty_kv r]; exact q⟩
  | _ => exact (show False from e).elim
theorem pt_truth (ha : PE X a ta) (he : ∀ whole, isTrue a X.env whole = (do let v ← whole; standAt a.pos; holding [v] (truthy v))) :
    PT X a (fun σ H Q => ta σ H fun x H' => ∃ k, TruV X.K x H' k ∧ Q k H') := by
  intro pins s σ H Q I h
  exact isTrue_plain (thn (ha pins s σ H _ I h) fun v s1 ⟨x, H1, I1, r1, q1⟩ => tru_ok pins s1 σ H1 x v Q I1 r1 q1) (he _)
theorem op_add_str : OpR X (binaryOp .Add) (fun x y H Q => ∃ i j, x = .str i ∧ y = .str j ∧ i.length + j.length ≤ sizeLine ∧ Q (.str (i ++ j)) H) := by
  intro pins s σ H x y v u Q I rx ry h
  obtain ⟨i, j, rfl, rfl, hz, q⟩ := h
  obtain ⟨t, rfl⟩ := rx
  obtain ⟨t', rfl⟩ := ry
  exact add_str (fun t' tk => ⟨.str (i ++ j), H, I.tok _, ⟨_, rfl⟩, q⟩) hz
theorem vals1 {x : V} {us : List Value} (r : Vals [x] us) : ∃ u, us = [u] ∧ RelV x u := by
  cases r with
  | cons r1 r2 => cases r2; exact ⟨_, rfl, r1⟩
theorem call_abs : CallR X (.builtin "abs") (fun xs H Q => ∃ i, xs = [.int i] ∧ Q (.int (if i < 0 then -i else i)) H) := by
  intro pins s σ H xs us Q I r h
  obtain ⟨i, rfl, q⟩ := h
  obtain ⟨u, rfl, t, rfl⟩ := vals1 r
  exact call_abs_int fun u tk => ⟨.int (if i < 0 then -i else i), H, I.tok _, ⟨_, rfl⟩, q⟩
end
end L2
namespace L2
open PySem PySem.Spec PyProof.Rows
structure ObjM (h : Heap) (x dx C : Addr) (mA : Str → Option Value) : Prop where
  obj : h.get? x = some (PySem.W.instObj C dx)
  ns : h.Ns1 dx mA
  ne : dx ≠ x
theorem lookIn_ns {h : Heap} {dx : Addr} {mA : Str → Option Value} (n : h.Ns1 dx mA) : ∃ od, h.get? dx = some od ∧ ∀ name, PySem.W.lookIn name od = some (mA name) := by
  obtain ⟨o, es, ep, ho, hd, hk, _, hm⟩ := n
  refine ⟨o, ho, fun name => ?_⟩
  have e := hm name
  unfold nsFind findBy at e
  rw [← Array.find?_toList] at e
  unfold PySem.W.lookIn
  rw [hd]
  dsimp only
  split
  · rename_i y q
    rw [q] at e
    exact congrArg some e
  · rename_i q
    rw [q] at e
    have a : es.toList.any (·.refKey) = false := by
      rw [List.any_eq_false]
      intro y hy
      obtain ⟨z, t, hkey⟩ := hk y (Array.mem_toList_iff.mp hy)
      simp [DictEntry.refKey, hkey]
    have a' : ¬ es.toList.any (·.refKey) = true := by rw [a]; exact Bool.false_ne_true
    rw [if_neg a']
    exact congrArg some e
theorem ObjM.look {h : Heap} {x dx C : Addr} {mA : Str → Option Value} (I : ObjM h x dx C mA) : ∃ od, PySem.W.InstAt h x (PySem.W.instObj C dx) C (some od) ∧ ∀ name, PySem.W.lookIn name od = some (mA name) :=
  let ⟨od, ho, hl⟩ := lookIn_ns I.ns
  ⟨od, ⟨I.obj, rfl, rfl, ho⟩, hl⟩
section
variable {prog : Program} {w : World} {A : Around} {E : Value → Shared → Prop} {s : Shared} {K : PySem.W.Frag} {x dx C f : Addr} {mA : Str → Option Value} {name : Str} {v : Value}
end
section
variable {P : Program} {w : World} {H H' : Hp} {h h' : Heap} {a C dx : Addr} {fs fs' : List (Str × V)}
theorem ins_get (hok : HOk P w H h) (e : H a = some (.ins C dx fs)) : ∃ mA, ObjM h a dx C mA ∧ (∀ f, RelO (fs.lookup f) (mA f)) ∧ PySem.Within mA (fs.map (·.1)) ∧ fs.length ≤ 1000 ∧ H dx = some (.own a) := by
  obtain ⟨d, z, ne, ob, mA, n, r, q⟩ := (show ObjOk P w H h a (.ins C dx fs) from hok a _ e)
  exact ⟨mA, ⟨ob, n, ne⟩, r, q, z, d⟩
end
structure Cls (K : PySem.W.Frag) (C : Addr) : Prop where
  pg : PySem.W.plainGet K C Str.empty = true
  hd : PySem.W.hasDictIn K C = true
  po : PySem.W.plainOver K C = true
  sa : PySem.W.findIn K (.ref C) "__setattr__" = some (some (.builtin "object.__setattr__"))
theorem Cls.get {K : PySem.W.Frag} {C : Addr} (c : Cls K C) (f : Str) : PySem.W.plainGet K C f = true := c.pg
section
variable {X : Cx} {pins : List (Addr × Obj)} {σ : St} {H : Hp} {s : Shared} {a C dx : Addr} {fs : List (Str × V)} {f : Str} {v : V} {A : Around} {E : Value → Shared → Prop}
end
section
variable {X : Cx} {o e value : Expr} {f : Str} {pos pos' tpos : Pos} {ta tv : TE}
end
section
variable {X : Cx} {pins : List (Addr × Obj)} {σ : St} {H : Hp} {s : Shared} {A : Around} {E : Value → Shared → Prop} {Q : Value → Shared → Prop} {c : Value} {b : Bool}
inductive TyOf (K : PySem.W.Frag) (H : Hp) : V → Value → Prop where
  | non : TyOf K H .non (.type "NoneType")
  | bl (x : Bool) : TyOf K H (.bl x) (.type "bool")
  | int (i : Int) : TyOf K H (.int i) (.type "int")
  | str (x : Str) : TyOf K H (.str x) (.type "str")
  | flt (x : UInt64) : TyOf K H (.flt x) (.type "float")
  | lst {a : Addr} {xs : List V} (e : H a = some (.lst xs)) : TyOf K H (.ref a) (.type "list")
  | frz {a : Addr} {o : Obj} {xs : List V} (e : H a = some (.frz o (.lst xs))) : TyOf K H (.ref a) (.type "list")
  | tup {a : Addr} {xs : List V} (e : H a = some (.tup xs)) : TyOf K H (.ref a) (.type "tuple")
  | dK {a : Addr} {kvs : List (Key × V)} (e : H a = some (.dK kvs)) : TyOf K H (.ref a) (.type "dict")
  | dT {a : Addr} {kvs : List (List Key × V)} (e : H a = some (.dT kvs)) : TyOf K H (.ref a) (.type "dict")
  | ins {a C dx : Addr} {fs : List (Str × V)} (e : H a = some (.ins C dx fs)) (cl : Cls K C) (ha : PySem.W.findIn K (.ref C) "__class__" = some (some (.builtin "object.__class__")))
      (hn : PySem.W.specialIn K (.builtin "object.__class__") "__get__" = some (some (.builtin "getset_descriptor.__get__"))) (htk : PySem.W.takesIn K (.builtin "object.__class__") = some true)
      (hm : PySem.W.mroIn K C (.type "object") = some true) : TyOf K H (.ref a) (.ref C)
theorem isinst_ok {x : V} {u t : Value} (I : Inv X pins σ H s) (rx : RelV x u) (ty : TyOf X.K H x t) (e : PySem.W.kitOne X.K t c = some b) (h : ∀ tk, Q (.bool b) { s with toks := tk }) :
    wpAny (model X.prog X.w) A (call (.builtin "isinstance") [u, c]) Q E s := by
  cases ty with
  | non => cases (show u = Value.none from rx); exact PySem.W.kia_one PySem.W.kitx_none I.kIn True.intro e (fun z => nomatch z) h
  | bl y => cases (show u = Value.bool y from rx); exact PySem.W.kia_one PySem.W.kitx_bool I.kIn True.intro e (fun z => nomatch z) h
  | int i => obtain ⟨t, q⟩ := (show ∃ t, u = Value.int i t from rx); cases q; exact PySem.W.kia_one PySem.W.kitx_int I.kIn True.intro e (fun z => nomatch z) h
  | str y => obtain ⟨t, q⟩ := (show ∃ t, u = Value.str y t from rx); cases q; exact PySem.W.kia_one PySem.W.kitx_str I.kIn True.intro e (fun z => nomatch z) h
  | flt y => obtain ⟨t, q⟩ := (show ∃ t, u = Value.float y t from rx); cases q; exact PySem.W.kia_one PySem.W.kitx_float I.kIn True.intro e (fun z => nomatch z) h
  | @lst a xs ea =>
    cases (show u = Value.ref a from rx)
    obtain ⟨_, _, n, _, h1⟩ := (show ObjOk X.prog X.w H s.heap a (.lst xs) from I.hok a _ ea)
    exact PySem.W.kia_one PySem.W.kitx_list I.kIn ⟨_, h1, rfl⟩ e (fun z => nomatch z) h
  | @frz a ob xs ea =>
    cases (show u = Value.ref a from rx)
    obtain ⟨_, _, _, n, _, h1⟩ := (show ObjOk X.prog X.w H s.heap a (.frz ob (.lst xs)) from I.hok a _ ea)
    exact PySem.W.kia_one PySem.W.kitx_list I.kIn ⟨_, h1, rfl⟩ e (fun z => nomatch z) h
  | @tup a xs ea =>
    cases (show u = Value.ref a from rx)
    obtain ⟨_, _, _, p⟩ := (show ObjOk X.prog X.w H s.heap a (.tup xs) from I.hok a _ ea)
    obtain ⟨o, h1, h2, _⟩ := p
    exact PySem.W.kia_one PySem.W.kitx_tuple I.kIn ⟨o, h1, h2⟩ e (fun z => nomatch z) h
  | @dK a kvs ea =>
    cases (show u = Value.ref a from rx)
    obtain ⟨_, _, vs, _, p⟩ := (show ObjOk X.prog X.w H s.heap a (.dK kvs) from I.hok a _ ea)
    obtain ⟨o, es, ep, h1, h2, _⟩ := p
    exact PySem.W.kia_one PySem.W.kitx_dict I.kIn ⟨o, h1, h2.1⟩ e (fun z => nomatch z) h
  | @dT a kvs ea =>
    cases (show u = Value.ref a from rx)
    obtain ⟨_, _, xs, _, o, es, ep, h1, h2, _⟩ := (show ObjOk X.prog X.w H s.heap a (.dT kvs) from I.hok a _ ea)
    exact PySem.W.kia_one PySem.W.kitx_dict I.kIn ⟨o, h1, h2.1⟩ e (fun z => nomatch z) h
  | @ins a C dx fs ea cl ha hn htk hm =>
    cases (show u = Value.ref a from rx)
    obtain ⟨mA, O, _⟩ := ins_get I.hok ea
    obtain ⟨od, J, _⟩ := O.look
    exact PySem.W.kia_one (PySem.W.kitx_own (cl.get _) cl.hd ha hn htk hm) I.kIn J e (fun z => nomatch z) h
end
end L2
namespace L2
open PySem PySem.Spec PyProof.Rows
structure Room (k : Nat) (A : Around) : Prop where
  hd : A.handled = none
  dp : A.depth + 3 * k + 5 < recursionLimit
  un : A.units + 16 * k + 200 < cLine
theorem Room.mono {j k : Nat} {A : Around} (r : Room k A) (h : j ≤ k) : Room j A := ⟨r.hd, by have := r.dp; omega, by have := r.un; omega⟩
theorem Room.deeper {k : Nat} {A : Around} (r : Room (k + 1) A) (env : Env) : Room k (A.deeper env) :=
  ⟨r.hd, by have := r.dp; show A.depth + 1 + 3 * k + 5 < _; omega, by have := r.un; show A.units + 3 + 16 * k + 200 < _; omega⟩
theorem Room.depth {k : Nat} {A : Around} (r : Room k A) : A.depth < recursionLimit := by have := r.dp; omega
theorem Room.units {k : Nat} {A : Around} (r : Room k A) : A.units + 64 < cLine := by have := r.un; omega
noncomputable def tNil : TA := fun _ H Q => Q [] H
noncomputable def tCons (ta : TE) (tr : TA) : TA := fun σ H Q => ta σ H fun x H1 => tr σ H1 fun xs H2 => Q (x :: xs) H2
section
variable {X : Cx} {e : Expr} {es : List Expr} {te : TE} {t : TA} {pos : Pos}
theorem pa_nil : PA X [] tNil := fun _ _ _ _ H Q I h => Calls.spliced_nil ⟨[], H, I, .nil, h⟩
theorem pa_cons (ha : PE X e te) (hr : PA X es t) (hs : starEach (e :: es) X.env = (false, eval e X.env) :: starEach es X.env := by rfl) : PA X (e :: es) (tCons te t) := by
  intro pos pins s σ H Q I h
  rw [hs]
  show wpAny _ _ (spliced ((false, eval e X.env) :: backTo pos (starEach es X.env))) _ _ s
  refine Calls.spliced_cons (thn (ha pins s σ H _ I h) fun u s1 ⟨x, H1, I1, r1, q1⟩ => ?_)
  exact thn (hr pos pins s1 σ H1 _ I1 q1) fun us s2 ⟨xs, H2, I2, r2, q2⟩ => ⟨x :: xs, H2, I2, .cons r1 r2, q2⟩
noncomputable def tLst (t : TA) : TE := fun σ H Q => t σ H fun xs H1 => xs.length ≤ sizeLine ∧ ∀ p, H1 p = none → Q (.ref p) (upd H1 p (.lst xs))
theorem pe_lst (h : PA X es t) : PE X (.List es pos) (tLst t) := by
  intro pins s σ H Q I hq
  refine wpAny_List_spliced (thn (h pos pins s σ H _ I hq) fun us s1 ⟨xs, H1, I1, r, z, q⟩ => ⟨by rw [← r.length]; exact z, ?_⟩)
  have hf : H1 s1.heap.objs.size = none := I1.hok.fresh (Nat.le_refl _)
  refine ⟨.ref s1.heap.objs.size, upd H1 s1.heap.objs.size (.lst xs), I1.laid (t' := s1.toks) (fun b u e => Heap.get?_push_of_some _ e) (Nat.le_refl _) ?_, rfl, q _ hf⟩
  exact ⟨z, us, 0, r, Heap.get?_push_size _ rfl⟩
end
noncomputable abbrev Sp := List V → Hp → VK → XK → Prop
noncomputable abbrev CXT := List Env → Hp → Shared → XK → Value → Shared → Prop
structure Env0 (P : Program) (w : World) (K : PySem.W.Frag) (mg : Str → Option Value) (base : Heap) (A : Around) (outer : List Env) (s : Shared) (H : Hp) : Prop where
  frames : A.frames = some outer
  mod : Mod K mg base
  bs : ∀ b o, base.get? b = some o → s.heap.get? b = some o ∧ H b = none
  bsz : base.objs.size ≤ s.heap.objs.size
  funs : s.heap.FunFrames base outer
  frf : ∀ b ∈ frs outer, H b = none
  hok : HOk P w H s.heap
  bare : AllBare s.gens
noncomputable def CE (outer : List Env) (P : Program) (w : World) (H : Hp) (s : Shared) (Q : VK) (u : Value) (s' : Shared) : Prop :=
  ∃ v H', s'.os = s.os ∧ AllBare s'.gens ∧ Un (frs outer) [] H H' s.heap s'.heap ∧ HOk P w H' s'.heap ∧ RelV v u ∧ Q v H'
noncomputable def CR (CX : CXT) (outer : List Env) (P : Program) (w : World) (H : Hp) (s : Shared) (Q : VK) (E : XK) (r : Result) (s' : Shared) : Prop :=
  match r with
  | .ok (.ret u) => CE outer P w H s Q u s'
  | .ok _ => False
  | .error e => CX outer H s E e s'
structure FnOk (P : Program) (w : World) (K : PySem.W.Frag) (mg : Str → Option Value) (base : Heap) (CX : CXT) (k : Nat) (f : Addr) (fd : FuncData) (ps : List Str) (sp : Sp) : Prop where
  len : ∀ vs H Q E, sp vs H Q E → vs.length = ps.length
  run : ∀ (A : Around) (outer : List Env) (s : Shared) (H : Hp) (args : Args) (us : List Value) (vs : List V) (Q : VK) (E : XK), Room k A → Env0 P w K mg base A outer s H → BindsTo s fd args (ps.zip us) → Vals vs us → sp vs H Q E →
    codeAny (model P w) A (.call (.ref f) args) (CR CX outer P w H s Q E) s
theorem FnOk.mono {P : Program} {w : World} {K : PySem.W.Frag} {mg : Str → Option Value} {base : Heap} {CX : CXT} {j k : Nat} {f : Addr} {fd : FuncData} {ps : List Str} {sp : Sp} (F : FnOk P w K mg base CX j f fd ps sp) (h : j ≤ k) :
    FnOk P w K mg base CX k f fd ps sp := ⟨F.len, fun A outer s H args us vs Q E hr => F.run A outer s H args us vs Q E (hr.mono h)⟩
theorem FnOk.imp {P : Program} {w : World} {K : PySem.W.Frag} {mg : Str → Option Value} {base : Heap} {CX : CXT} {k : Nat} {f : Addr} {fd : FuncData} {ps : List Str} {sp sp' : Sp} (F : FnOk P w K mg base CX k f fd ps sp)
    (h : ∀ vs H Q E, sp' vs H Q E → sp vs H Q E) : FnOk P w K mg base CX k f fd ps sp' :=
  ⟨fun vs H Q E q => F.len vs H Q E (h _ _ _ _ q), fun A outer s H args us vs Q E hr he hb hv hs => F.run A outer s H args us vs Q E hr he hb hv (h _ _ _ _ hs)⟩
section
variable {X : Cx} {pins : List (Addr × Obj)} {σ : St} {H : Hp} {s s' : Shared}
theorem Inv.env0 (I : Inv X pins σ H s) : Env0 X.prog X.w X.K X.mg X.base X.A X.stack s H :=
  ⟨I.ok.frames, I.ok.mod, I.bs, Nat.le_trans I.ok.bsz I.sz, I.stack, I.stkFree, I.hok, I.bare⟩
theorem Inv.after {Q : VK} {u : Value} (I : Inv X pins σ H s) (h : CE X.stack X.prog X.w H s Q u s') : EP X pins σ Q u s' := by
  obtain ⟨v, H', os, bare, un, hok, r, q⟩ := h
  obtain ⟨hh, g, d, t, os'⟩ := s'
  obtain rfl : os' = s.os := os
  exact ⟨v, H', I.call (h' := hh) (g' := g) (d' := d) (t' := t) (ch := []) un hok bare (fun b z => absurd z (by simp)), r, q⟩
end
noncomputable def tCall (sp : Sp) (dvs : List V) (E : XK) (t : TA) : TE := fun σ H Q => t σ H fun vs H1 => sp (vs ++ dvs) H1 Q E
noncomputable def Binds (K : PySem.W.Frag) (fd : FuncData) (ps : List Str) (ds : List Value) : Prop :=
  ∀ (s : Shared) (us : List Value), K.In s.heap → (us ++ ds).length = ps.length → BindsTo s fd ⟨us, []⟩ (ps.zip (us ++ ds))
theorem Binds.all {K : PySem.W.Frag} {fd : FuncData} {ps : List Str} (h : ∀ us : List Value, us.length = ps.length → bindArgs fd ⟨us, []⟩ = pure (ps.zip us)) : Binds K fd ps [] := fun s us _ hl => by
  rw [List.append_nil] at hl ⊢
  exact .of_eq (h us hl)
noncomputable def Passes (CX : CXT) (X : Cx) (E : XK) : Prop := ∀ (pins : List (Addr × Obj)) (σ : St) (H : Hp) (s : Shared) (e : Value) (s' : Shared), Inv X pins σ H s → CX X.stack H s E e s' → X.xe e s'
section
variable {X : Cx} {CX : CXT} {k : Nat} {f C : Addr} {fd : FuncData} {ps : List Str} {sp : Sp} {dvs : List V} {ds : List Value} {E : XK} {x m : Str} {p pos apos : Pos} {e o : Expr} {es : List Expr} {ta : TE} {t : TA}
theorem run_fn {pins : List (Addr × Obj)} {σ : St} {H : Hp} {s : Shared} {Q : VK} {us : List Value} {vs : List V} (F : FnOk X.prog X.w X.K X.mg X.base CX k f fd ps sp) (hr : Room k X.A) (hb : Binds X.K fd ps ds) (hd : Vals dvs ds) (hx : Passes CX X E)
    (I : Inv X pins σ H s) (r : Vals vs us) (h : sp (vs ++ dvs) H Q E) : wpAny (model X.prog X.w) X.A (call (.ref f) us) (EP X pins σ Q) X.xe s := by
  have r2 : Vals (vs ++ dvs) (us ++ ds) := r.append hd
  have hl : (us ++ ds).length = ps.length := by rw [← r2.length]; exact F.len _ _ _ _ h
  refine wpAny_call (codeAny_mono (F.run X.A X.stack s H ⟨us, []⟩ (us ++ ds) (vs ++ dvs) Q E hr I.env0 (hb s us I.kIn hl) r2 h) fun r s' hq => ?_)
  cases r with
  | error e => exact hx pins σ H s e s' I hq
  | ok fl =>
    cases fl with
    | ret u => exact I.after hq
    | next => exact False.elim hq
    | brk => exact False.elim hq
    | cont => exact False.elim hq
theorem pe_call (F : FnOk X.prog X.w X.K X.mg X.base CX k f fd ps sp) (hr : Room k X.A) (hg : Gl X x) (hm : X.mg x = some (.ref f)) (hk : PySem.W.keepIn X.K (.ref f) = true) (hb : Binds X.K fd ps ds) (hd : Vals dvs ds) (hx : Passes CX X E)
    (ha : PA X (e :: es) t) (hdb : (x == ("__debug__" : Str)) = false := by decide) (he : starEach (e :: es) X.env = (false, eval e X.env) :: starEach es X.env := by rfl) (hpl : (backTo pos (starEach es X.env)).any (·.1) = false := by rfl) :
    PE X (.Call (.Name x p) (e :: es) [] pos) (tCall sp dvs E t) := by
  intro pins s σ H Q I h
  refine wpAny_Call_Name_kw (ld_glob I hg hm ?_ hdb)
  refine PySem.W.callWith_K (h₀ := X.base) I.ok.mod.kin hk (thn (ha pos pins s σ H _ I h) fun us s1 ⟨vs, H1, I1, r, q⟩ => ⟨I1.kIn, ?_⟩) he hpl
  exact run_fn F hr hb hd hx I1 r q
end
section
variable {X : Cx} {CX : CXT} {k : Nat} {f C : Addr} {fd : FuncData} {ps ks : List Str} {sp : Sp} {E : XK} {x m : Str} {p pos apos kpos : Pos} {e o : Expr} {es : List Expr} {kws : List Keyword} {te ta : TE} {t tk : TA} {nm : Option Str}
variable {g : List Value → List Value → List Value} {gV : List V → List V → List V}
end
structure FnScope (N P : List Str) (sc : Scope) : Prop where
  kind : sc.kind = .function
  co : sc.isCoroutine = false
  gen : sc.isGenerator = false
  nd : N.Nodup
  pre : N.take P.length = P
  par : ∀ x ∈ P, sc.names.lookup x = some .local ∨ sc.names.lookup x = some .cell
  nofree : ∀ y ∈ sc.names, y.2 ≠ .free
theorem bindL_out {kindOf : Str → Option NameKind} {x : Str} : ∀ {binds : List (Str × Value)} {m : Str → Option Value}, (∀ v, (x, v) ∉ binds) → bindL kindOf binds m x = m x
  | [], _, _ => rfl
  | (n, v) :: r, m, h => by
    unfold bindL
    rw [bindL_out fun w hw => h w (List.mem_cons_of_mem _ hw)]
    split
    · have : x ≠ n := by rintro rfl; exact h v List.mem_cons_self
      simp [this]
    · rfl
theorem bindC_out {kindOf : Str → Option NameKind} {x : Str} : ∀ {binds : List (Str × Value)} {m : Str → Option Value}, (∀ v, (x, v) ∉ binds) → bindC kindOf binds m x = m x
  | [], _, _ => rfl
  | (n, v) :: r, m, h => by
    unfold bindC
    rw [bindC_out fun w hw => h w (List.mem_cons_of_mem _ hw)]
    split
    · rfl
    · have : x ≠ n := by rintro rfl; exact h v List.mem_cons_self
      simp [this]
theorem bindL_get {kindOf : Str → Option NameKind} {x : Str} {v : Value} : ∀ {P : List Str} {vs : List Value} {i : Nat} {m : Str → Option Value}, P.Nodup → P[i]? = some x → vs[i]? = some v → kindOf x = some .local →
    bindL kindOf (P.zip vs) m x = some v
  | [], _, _, _, _, h, _, _ => by simp at h
  | _ :: _, [], _, _, _, _, h, _ => by simp at h
  | p :: P, w :: vs, 0, m, nd, h1, h2, hk => by
    simp at h1 h2; subst h1; subst h2
    show bindL kindOf ((p, w) :: P.zip vs) m p = _
    unfold bindL
    rw [bindL_out fun v hv => (List.nodup_cons.mp nd).1 (List.of_mem_zip hv).1, if_pos hk]
    simp
  | p :: P, w :: vs, i + 1, m, nd, h1, h2, hk => by
    show bindL kindOf ((p, w) :: P.zip vs) m x = _
    unfold bindL
    exact bindL_get (i := i) (List.nodup_cons.mp nd).2 (by simpa using h1) (by simpa using h2) hk
theorem bindC_get {kindOf : Str → Option NameKind} {x : Str} {v : Value} : ∀ {P : List Str} {vs : List Value} {i : Nat} {m : Str → Option Value}, P.Nodup → P[i]? = some x → vs[i]? = some v → kindOf x ≠ some .local →
    bindC kindOf (P.zip vs) m x = some v
  | [], _, _, _, _, h, _, _ => by simp at h
  | _ :: _, [], _, _, _, _, h, _ => by simp at h
  | p :: P, w :: vs, 0, m, nd, h1, h2, hk => by
    simp at h1 h2; subst h1; subst h2
    show bindC kindOf ((p, w) :: P.zip vs) m p = _
    unfold bindC
    rw [bindC_out fun v hv => (List.nodup_cons.mp nd).1 (List.of_mem_zip hv).1, if_neg hk]
    simp
  | p :: P, w :: vs, i + 1, m, nd, h1, h2, hk => by
    show bindC kindOf ((p, w) :: P.zip vs) m x = _
    unfold bindC
    exact bindC_get (i := i) (List.nodup_cons.mp nd).2 (by simpa using h1) (by simpa using h2) hk
noncomputable def start (N : List Str) (vs : List V) : St := vs.map some ++ List.replicate (N.length - vs.length) none
noncomputable def cxOf (CX : CXT) (P : Program) (w : World) (K : PySem.W.Frag) (mg : Str → Option Value) (base : Heap) (N : List Str) (qual : Str) (scope : Scope) (f : Addr) (cd : Value) (A : Around) (outer : List Env) (s : Shared) (H : Hp) (E : XK) : Cx where
  prog := P
  w := w
  K := K
  mg := mg
  base := base
  A := A.deeper (envOfC qual scope s.heap.objs.size f cd)
  N := N
  s₀ := s
  H₀ := H
  env := envOfC qual scope s.heap.objs.size f cd
  outer := outer
  stack := envOfC qual scope s.heap.objs.size f cd :: outer
  ex := []
  calm := true
  fn := fun _ => true
  pn := []
  xe := fun e s' => wpAny (model P w) (A.deeper (envOfC qual scope s.heap.objs.size f cd)) (leaving (envOfC qual scope s.heap.objs.size f cd) e) (fun _ s'' => CX outer H s E e s'') (fun e' s'' => CX outer H s E e' s'') s'
theorem cell_has {sc : Scope} {n : Nat} {x : Str} (h : sc.names.lookup x = some .cell) : ∃ c, (cellsFrom n sc.names []).lookup x = some c := by
  have q := PySem.W.cellsFrom_some sc.names n [] (.inl h)
  exact Option.isSome_iff_exists.mp q
theorem inv_start {CX : CXT} {P : Program} {w : World} {K : PySem.W.Frag} {mg : Str → Option Value} {base : Heap} {N ps : List Str} {qual : Str} {scope : Scope} {f : Addr} {cd : Value} {A : Around} {outer : List Env} {s s1 : Shared} {H : Hp} {E : XK} {us : List Value} {vs : List V}
    (S : FnScope N ps scope) (hd : A.handled = none) (e0 : Env0 P w K mg base A outer s H) (hl : vs.length = ps.length) (r : Vals vs us)
    (x : InCallC s s.heap.objs.size (bindL (envOfC qual scope s.heap.objs.size f cd).kindOf (ps.zip us) fun _ => none) (cellsFrom (s.heap.objs.size + 1) scope.names []) (bindC (envOfC qual scope s.heap.objs.size f cd).kindOf (ps.zip us) fun _ => none) s1) :
    Inv (cxOf CX P w K mg base N qual scope f cd A outer s H E) [] (start N vs) H s1 := by
  have hpl : ps.length ≤ N.length := by have := congrArg List.length S.pre; rw [List.length_take] at this; omega
  obtain ⟨h1, tk, rfl, hk⟩ := x.done
  have noA : ∀ b : Addr, b ∉ (cxOf CX P w K mg base N qual scope f cd A outer s H E).ex := fun b z => absurd (show b ∈ ([] : List Addr) from z) (by simp)
  refine ⟨⟨e0.mod, S.kind, rfl, rfl, Nat.le_refl _, fun y z c h1 h2 => ?_, fun y hy => ?_, fun y c _ h => ?_, fun _ => hd, Around.frames_deeper e0.frames, .inr ⟨rfl, rfl⟩, fun b z => absurd z (noA b), e0.bs, e0.bsz, fun b _ _ => noA b, fun b z => absurd z (noA b), e0.funs, e0.frf⟩,
    rfl, e0.bare, Un.kept hk, ⟨_, x.toInCall.ns, fun i y v h1 h2 h3 => ?_⟩, fun y c h => ⟨_, x.cell y c h⟩, e0.hok.fresh (Nat.le_refl _), fun y c h => ?_, fun p hp => absurd (show p ∈ ([] : List (Addr × Obj)) from hp) (by simp), e0.hok.kept hk, ?_⟩
  · exact name_of_addr x.apart (PySem.mem_of_lookup h1) (PySem.mem_of_lookup h2)
  · have hy : scope.names.lookup y = some .cell ∨ scope.names.lookup y = some .free := hy
    rcases hy with hy | hy
    · exact cell_has hy
    · exact absurd rfl (S.nofree _ (PySem.mem_of_lookup hy))
  · exact Nat.le_of_lt (x.above y c (PySem.mem_of_lookup h))
  · have hi : i < vs.length := by
      unfold start at h2
      by_cases hi : i < vs.length
      · exact hi
      · rw [List.getElem?_append_right (by simpa using hi)] at h2
        rw [List.getElem?_replicate] at h2
        split at h2 <;> cases h2
    have ha : vs[i]? = some v := by
      unfold start at h2
      rw [List.getElem?_append_left (by simpa using hi), List.getElem?_map] at h2
      cases e : vs[i]? with
      | none => rw [e] at h2; cases h2
      | some a => rw [e] at h2; cases h2; rfl
    obtain ⟨u, hu, rv⟩ := r.get ha
    have hp : ps[i]? = some y := by
      rw [← S.pre, List.getElem?_take_of_lt (by omega)]; exact h1
    have ndP : ps.Nodup := by rw [← S.pre]; exact S.nd.sublist (List.take_sublist _ _)
    refine ⟨u, rv, ?_⟩
    rcases S.par y (List.mem_of_getElem? hp) with k | k
    · exact .inl ⟨k, bindL_get ndP hp hu k⟩
    · obtain ⟨c, e⟩ := cell_has (n := s.heap.objs.size + 1) k
      refine .inr ⟨.inl k, c, e, ?_⟩
      have q := x.cell y c e
      rw [bindC_get ndP hp hu (by show scope.names.lookup y ≠ _; rw [k]; decide)] at q
      exact q
  · exact e0.hok.fresh (Nat.le_of_lt (x.above y c (PySem.mem_of_lookup h)))
  · unfold start
    show _ = N.length
    rw [List.length_append, List.length_map, List.length_replicate]
    omega
theorem fn_of {CX : CXT} {P : Program} {w : World} {K : PySem.W.Frag} {mg : Str → Option Value} {base : Heap} {k : Nat} {f : Addr} {name qual : Str} {params : Arguments} {body : List Stmt} {scope : Scope} {dV kV doc pm cdv ct oc : Value} {an od : Option Addr}
    {osl : Array (Option Value)} {N ps : List Str} {sp : Sp} (lk : K.lookup f = some ⟨oc, od, .func (PySem.W.fnOf name qual params body scope dV kV doc pm an cdv ct), osl⟩) (hcd : PySem.W.codeIn K cdv qual = true) (S : FnScope N ps scope)
    (len : ∀ vs H Q E, sp vs H Q E → vs.length = ps.length)
    (hbody : ∀ (A : Around) (outer : List Env) (s : Shared) (H : Hp) (vs : List V) (Q : VK) (E : XK), Room k (A.deeper (envOfC qual scope s.heap.objs.size f cdv)) → sp vs H Q E →
      ∃ t, PSs (cxOf CX P w K mg base N qual scope f cdv A outer s H E) body t ∧ t { nx := fun _ H' => Q .non H', rt := Q } (start N vs) H) :
    FnOk P w K mg base CX (k + 1) f (PySem.W.fnOf name qual params body scope dV kV doc pm an cdv ct) ps sp := by
  refine ⟨len, fun A outer s H args us vs Q E hr e0 hb r hsp => ?_⟩
  have hl := len _ _ _ _ hsp
  have KX : K.In s.heap := e0.mod.kin.keeps fun b o e => (e0.bs b o e).1
  have lim : s.heap.NoLimit := e0.mod.nolimit.keeps fun b o e => (e0.bs b o e).1
  have hkind : ∀ y ∈ ps.zip us, scope.names.lookup y.1 = some .local ∨ (scope.names.lookup y.1 = some .cell ∧ ((cellsFrom (s.heap.objs.size + 1) scope.names []).lookup y.1).isSome = true) := fun ⟨n, v⟩ hy => by
    rcases S.par n (List.of_mem_zip hy).1 with q | q
    · exact .inl q
    · exact .inr ⟨q, PySem.W.cellsFrom_some _ _ _ (.inl q)⟩
  refine codeAny_call_function hr.depth (KX _ _ lk) rfl S.co S.gen rfl (PySem.W.codeRec_of KX hcd) (hb _ _ _ _ ?_)
  refine wpAny_newFunctionEnv_cells S.kind hkind fun env he s1 x => ?_
  subst he
  refine ⟨lim.keeps x.toInCall.keep, codeAny_func ?_⟩
  obtain ⟨t, ht, hq⟩ := hbody A outer s H vs Q E (hr.deeper _) hsp
  have I : Inv (cxOf CX P w K mg base N qual scope f cdv A outer s H E) [] (start N vs) H s1 := inv_start S hr.hd e0 hl r x
  refine wpAny_mono (ht [] s1 (start N vs) H _ I hq) (fun fl s' hs => ?_) fun e s' hs => hs
  have fin : ∀ {σ' : St} {H' : Hp} {v : V} {u : Value}, Inv (cxOf CX P w K mg base N qual scope f cdv A outer s H E) [] σ' H' s' → RelV v u → Q v H' → CE outer P w H s Q u s' :=
    fun {σ' H' v u} J rv q => ⟨v, H', J.os, J.bare, J.base, J.hok, rv, q⟩
  cases fl with
  | ret u =>
    obtain ⟨v, σ', H', J, rv, q⟩ := hs
    exact fin J rv q
  | next =>
    obtain ⟨σ', H', J, q⟩ := hs
    exact fin (v := V.non) (u := Value.none) J rfl q
  | brk =>
    obtain ⟨_, _, _, q⟩ := hs
    exact False.elim q
  | cont =>
    obtain ⟨_, _, _, q⟩ := hs
    exact False.elim q
end L2
namespace L2
open PySem PySem.Spec PyProof.Rows
section
variable {X : Cx} {x : Str} {p pos : Pos} {e : Expr} {es : List Expr} {t : TA} {id T : String} {r : List V → Hp → VK → Prop}
noncomputable def tCB (r : List V → Hp → VK → Prop) (t : TA) : TE := fun σ H Q => t σ H fun vs H1 => r vs H1 Q
theorem pe_callB (hc : CallR X (.builtin id) r) (hg : Gl X x) (hm : X.mg x = none) (hv : bootBuiltins x = some (.builtin id)) (ha : PA X (e :: es) t) (hn : x ≠ "__name__" := by decide) (hdb : (x == ("__debug__" : Str)) = false := by decide)
    (he : starEach (e :: es) X.env = (false, eval e X.env) :: starEach es X.env := by rfl) (hpl : (backTo pos (starEach es X.env)).any (·.1) = false := by rfl) : PE X (.Call (.Name x p) (e :: es) [] pos) (tCB r t) := by
  intro pins s σ H Q I h
  refine wpAny_Call_Name_kw (ld_blt I hg hm hv ?_ hn hdb)
  exact PyProof.Rows.callWith_builtin1 (thn (ha pos pins s σ H _ I h) fun us s1 ⟨vs, H1, I1, r1, q1⟩ => hc pins s1 σ H1 vs us Q I1 r1 q1) he hpl
theorem pe_callTy (hc : CallR X (.type T) r) (hg : Gl X x) (hm : X.mg x = none) (hv : bootBuiltins x = some (.type T)) (ha : PA X (e :: es) t) (hn : x ≠ "__name__" := by decide) (hdb : (x == ("__debug__" : Str)) = false := by decide)
    (he : starEach (e :: es) X.env = (false, eval e X.env) :: starEach es X.env := by rfl) (hpl : (backTo pos (starEach es X.env)).any (·.1) = false := by rfl) : PE X (.Call (.Name x p) (e :: es) [] pos) (tCB r t) := by
  intro pins s σ H Q I h
  refine wpAny_Call_Name_kw (ld_blt I hg hm hv ?_ hn hdb)
  exact PyProof.Rows.callWith_type1 (thn (ha pos pins s σ H _ I h) fun us s1 ⟨vs, H1, I1, r1, q1⟩ => hc pins s1 σ H1 vs us Q I1 r1 q1) he hpl
end
end L2
namespace HT
open PySem PyProof.Rows
section
open PySem.SeqAt
open PySem.AutoSeq1 (wpAny_loadPart')
open PySem.MeetsSeq PySem.MeetsSeq2 PySem.MeetsSeq3
end
section
variable {prog : Program} {w : World} {A : Around} {E : Value → Shared → Prop} {s : Shared}
noncomputable def sIx (n d : Nat) : Option Int → Nat
  | none => d
  | some v => if v < 0 then (v + (n : Int)).toNat else min v.toNat n
theorem sIx_nat (n d k : Nat) : sIx n d (some (k : Int)) = min k n := by
  show (if (k : Int) < 0 then ((k : Int) + (n : Int)).toNat else min (k : Int).toNat n) = min k n
  rw [if_neg (by omega), Int.toNat_natCast]
end
end HT
namespace L2
open PySem PySem.Spec PyProof.Rows
noncomputable abbrev TO := St → Hp → (Option Int → Hp → Prop) → Prop
noncomputable def PO (X : Cx) (e : Option Expr) (t : TO) : Prop :=
  ∀ (pins : List (Addr × Obj)) (s : Shared) (σ : St) (H : Hp) (Q : Option Int → Hp → Prop), Inv X pins σ H s → t σ H Q →
    wpAny (model X.prog X.w) X.A (evalPart e X.env) (fun u s' => ∃ o H', Inv X pins σ H' s' ∧ IsPart u o ∧ Q o H') X.xe s
noncomputable def tPart (t : TE) : TO := fun σ H Q => t σ H fun x H1 => ∃ i, x = .int i ∧ Q (some i) H1
section
variable {X : Cx} {e : Expr} {te : TE} {lo hi : Option Expr} {tl th : TO} {pos p2 : Pos}
theorem po_some (h : PE X e te) : PO X (some e) (tPart te) := by
  intro pins s σ H Q I hw
  rw [evalPart_some]
  refine thn (h pins s σ H _ I hw) fun u s1 ⟨x, H1, I1, r1, q1⟩ => ?_
  obtain ⟨i, rfl, q⟩ := q1
  obtain ⟨t, rfl⟩ := r1
  exact ⟨some i, H1, I1, .int i t, q⟩
noncomputable def SlR (X : Cx) (r : V → Option Int → Option Int → Hp → VK → Prop) : Prop :=
  ∀ (pins : List (Addr × Obj)) (s : Shared) (σ : St) (H : Hp) (x : V) (v vl vu : Value) (lo hi : Option Int) (sl : Addr) (Q : VK), Inv X pins σ H s → RelV x v → s.heap.IsSliceOf sl vl vu .none → IsPart vl lo → IsPart vu hi → r x lo hi H Q →
    ∃ T id, typeLookup (.type T) "__getitem__" = pure (some (.builtin id)) ∧ s.TypeIs v T ∧ wpAny (model X.prog X.w) X.A (getItem v (.ref sl)) (EP X pins σ Q) X.xe s
theorem SlR.or {r r' : V → Option Int → Option Int → Hp → VK → Prop} (h : SlR X r) (h' : SlR X r') : SlR X (fun x lo hi H Q => r x lo hi H Q ∨ r' x lo hi H Q) := by
  intro pins s σ H x v vl vu lo hi sl Q I rx hs pl pu q
  rcases q with q | q
  · exact h pins s σ H x v vl vu lo hi sl Q I rx hs pl pu q
  · exact h' pins s σ H x v vl vu lo hi sl Q I rx hs pl pu q
noncomputable def tSl (r : V → Option Int → Option Int → Hp → VK → Prop) (te : TE) (tl th : TO) : TE := fun σ H Q => te σ H fun x H1 => tl σ H1 fun l H2 => th σ H2 fun u H3 => r x l u H3 Q
theorem pe_slice {r : V → Option Int → Option Int → Hp → VK → Prop} (hr : SlR X r) (he : PE X e te) (hl : PO X lo tl) (hu : PO X hi th) : PE X (.Subscript e (.Slice lo hi none p2) pos) (tSl r te tl th) := by
  intro pins s σ H Q I h
  refine Subscript_ (thn (he pins s σ H _ I h) fun v s1 ⟨x, H1, I1, r1, q1⟩ => ?_)
  refine wpAny_Slice (thn (hl pins s1 σ H1 _ I1 q1) fun vl s2 ⟨l, H2, I2, pl, q2⟩ => thn (hu pins s2 σ H2 _ I2 q2) fun vu s3 ⟨u, H3, I3, pu, q3⟩ => ?_)
  rw [evalPart_none]
  refine wpAny_pure ?_
  have I4 : Inv X pins σ H3 { s3 with heap := s3.heap.push { cls := .type "slice", data := .fields #[vl, vu, .none] } } := I3.kept (t' := s3.toks) fun b ob q => Heap.get?_push_of_some _ q
  obtain ⟨T, id, hT, ht, hg⟩ := hr pins { s3 with heap := s3.heap.push { cls := .type "slice", data := .fields #[vl, vu, .none] } } σ H3 x v vl vu l u s3.heap.objs.size Q I4 r1 (Heap.IsSliceOf.new ..) pl pu q3
  show wpAny (model X.prog X.w) X.A (subscriptTail e (.Slice lo hi none p2) v (.ref s3.heap.objs.size)) (EP X pins σ Q) X.xe { s3 with heap := s3.heap.push { cls := .type "slice", data := .fields #[vl, vu, .none] } }
  exact tail_any (ops := [.ref s3.heap.objs.size, v]) ht hT hg (by with_unfolding_all rfl)
noncomputable def cutV (xs : List V) (lo hi : Option Int) : List V := (xs.drop (HT.sIx xs.length 0 lo)).take (HT.sIx xs.length xs.length hi - HT.sIx xs.length 0 lo)
theorem cutV_length (xs : List V) (lo hi : Option Int) : (cutV xs lo hi).length ≤ xs.length := by
  unfold cutV
  rw [List.length_take, List.length_drop]
  omega
end
end L2
namespace L2
open PySem PySem.Spec PyProof.Rows
noncomputable def ixN (n : Nat) (i : Int) : Option Nat := if 0 ≤ i then (if i < n then some i.toNat else none) else if -(n : Int) ≤ i then some (i + n).toNat else none
noncomputable def atI {α : Type} (xs : List α) (i : Int) : Option α := (ixN xs.length i).bind fun j => xs[j]?
theorem ixN_seq {n : Nat} {i : Int} {j : Nat} (h : ixN n i = some j) : seqIndex? i n = some j ∧ j < n ∧ -(n : Int) ≤ i ∧ i < n := by
  unfold ixN at h
  by_cases h0 : 0 ≤ i
  · rw [if_pos h0] at h
    by_cases h1 : i < n
    · rw [if_pos h1] at h
      have e : i.toNat = j := Option.some.inj h
      exact ⟨by rw [seqIndex_of h0 h1, e], by omega, by omega, h1⟩
    · rw [if_neg h1] at h; cases h
  · rw [if_neg h0] at h
    by_cases h1 : -(n : Int) ≤ i
    · rw [if_pos h1] at h
      have e : (i + n).toNat = j := Option.some.inj h
      exact ⟨by rw [seqIndex_neg (by omega) h1, e], by omega, h1, by omega⟩
    · rw [if_neg h1] at h; cases h
theorem atI_get {α : Type} {xs : List α} {i : Int} {v : α} (h : atI xs i = some v) : ∃ j, seqIndex? i xs.length = some j ∧ xs[j]? = some v ∧ j < xs.length ∧ -(xs.length : Int) ≤ i ∧ i < xs.length := by
  unfold atI at h
  cases e : ixN xs.length i with
  | none => rw [e] at h; cases h
  | some j =>
    rw [e] at h
    obtain ⟨h1, h2, h3, h4⟩ := ixN_seq e
    exact ⟨j, h1, h, h2, h3, h4⟩
noncomputable def PlainIx (b : Expr) : Prop := ∀ o i, subscripted b false o i = operate [o, i] (getItem o i)
noncomputable def IxR (X : Cx) (r : R2) : Prop :=
  ∀ (value slice : Expr) (pins : List (Addr × Obj)) (s : Shared) (σ : St) (H : Hp) (x y : V) (v u : Value) (Q : VK), Inv X pins σ H s → RelV x v → RelV y u → r x y H Q →
    subscripted slice false v u = operate [v, u] (getItem v u) → wpAny (model X.prog X.w) X.A (subscriptTail value slice v u) (EP X pins σ Q) X.xe s
noncomputable def MtR (X : Cx) (id : String) (r : V → List V → Hp → VK → Prop) : Prop :=
  ∀ (pins : List (Addr × Obj)) (s : Shared) (σ : St) (H : Hp) (x : V) (xs : List V) (v : Value) (us : List Value) (Q : VK), Inv X pins σ H s → RelV x v → Vals xs us → r x xs H Q →
    wpAny (model X.prog X.w) X.A (call (.builtin id) (v :: us)) (EP X pins σ Q) X.xe s
section
variable {X : Cx} {a b : Expr} {ta tb : TE} {pos : Pos}
theorem IxR.or {r r' : R2} (h : IxR X r) (h' : IxR X r') : IxR X (fun x y H Q => r x y H Q ∨ r' x y H Q) := by
  intro value slice pins s σ H x y v u Q I rx ry q hs
  rcases q with q | q
  · exact h value slice pins s σ H x y v u Q I rx ry q hs
  · exact h' value slice pins s σ H x y v u Q I rx ry q hs
theorem MtR.or {id : String} {r r' : V → List V → Hp → VK → Prop} (h : MtR X id r) (h' : MtR X id r') : MtR X id (fun x xs H Q => r x xs H Q ∨ r' x xs H Q) := by
  intro pins s σ H x xs v us Q I rx rs q
  rcases q with q | q
  · exact h pins s σ H x xs v us Q I rx rs q
  · exact h' pins s σ H x xs v us Q I rx rs q
theorem pe_ix {r : R2} (hr : IxR X r) (ha : PE X a ta) (hb : PE X b tb) (hs : PlainIx b) : PE X (.Subscript a b pos) (tOp r ta tb) := by
  intro pins s σ H Q I h
  exact Subscript_ (binT ha hb I h fun v u s2 x y H2 I2 rx ry q => hr a b pins s2 σ H2 x y v u Q I2 rx ry q (hs _ _))
noncomputable def rIxL (K : PySem.W.Frag) : R2 := fun x y H Q => ∃ p xs i v, x = .ref p ∧ y = .int i ∧ SqL K H p xs ∧ atI xs i = some v ∧ Q v H
noncomputable def rIxT (K : PySem.W.Frag) : R2 := fun x y H Q => ∃ p xs i v, x = .ref p ∧ y = .int i ∧ SqT K H p xs ∧ atI xs i = some v ∧ Q v H
noncomputable def rIxS : R2 := fun x y H Q => ∃ z i c, x = .str z ∧ y = .int i ∧ z.length ≤ sizeLine ∧ atI z.cps.toList i = some c ∧ Q (.str ⟨#[c]⟩) H
theorem ix_list : IxR X (rIxL X.K) := by
  intro value slice pins s σ H x y v u Q I rx ry h hs
  obtain ⟨p, xs, i, z, rfl, rfl, hq, he, q⟩ := h
  cases rx
  obtain ⟨t, rfl⟩ := ry
  obtain ⟨its, r, pl, hz⟩ := I.list hq
  obtain ⟨j, h1, h2, h3, h4, h5⟩ := atI_get he
  obtain ⟨w, ew, rw'⟩ := r.get h2
  have hl := r.length
  have hn := line63
  have fin : EP X pins σ Q w s := ⟨z, H, I, rw', q⟩
  by_cases h0 : 0 ≤ i
  · have hj : i.toNat = j := by
      rw [seqIndex_of h0 h5] at h1
      exact Option.some.inj h1
    exact item_listR pl.isList h0 (by omega) (by rw [hj]; simpa using ew) fin hs
  · have hj : (i + (its.toArray.size : Int)).toNat = j := by
      rw [seqIndex_neg (by omega) h4] at h1
      rw [List.size_toArray, ← hl]
      exact Option.some.inj h1
    exact subscriptTail_builtinR (x := w) pl.isList.typeIs slot_list_getitem.lookup
      (wpAny_getItem_list_neg (Q := fun r s' => r = w ∧ EP X pins σ Q r s') pl.isList (by omega) (by rw [List.size_toArray] <;> omega) (by omega) (by rw [hj]; simpa using ew) ⟨rfl, fin⟩) hs
theorem ix_tup : IxR X (rIxT X.K) := by
  intro value slice pins s σ H x y v u Q I rx ry h hs
  obtain ⟨p, xs, i, z, rfl, rfl, hq, he, q⟩ := h
  cases rx
  obtain ⟨t, rfl⟩ := ry
  obtain ⟨its, r, pl, hz⟩ := I.tuple hq
  obtain ⟨j, h1, h2, h3, h4, h5⟩ := atI_get he
  obtain ⟨w, ew, rw'⟩ := r.get h2
  have hl := r.length
  have hn := line63
  have fin : EP X pins σ Q w s := ⟨z, H, I, rw', q⟩
  exact subscriptTail_builtinR (x := w) pl.typeIs slot_tuple_getitem.lookup
    (getItem_tuple (j := j) (Q := fun r s' => r = w ∧ EP X pins σ Q r s') pl (by omega) (by omega) (by rw [List.size_toArray, ← hl]; exact h1) (by simpa using ew) ⟨rfl, fin⟩) hs
theorem ix_str : IxR X rIxS := by
  intro value slice pins s σ H x y v u Q I rx ry h hs
  obtain ⟨z, i, c, rfl, rfl, hz, he, q⟩ := h
  obtain ⟨t, rfl⟩ := rx
  obtain ⟨t', rfl⟩ := ry
  obtain ⟨j, h1, h2, h3, h4, h5⟩ := atI_get he
  have hl : z.cps.toList.length = z.length := by simp [Str.length]
  rw [hl] at h1 h4 h5
  have hn := line63
  exact tail_any (typeIs_str s z t) slot_str_getitem.lookup (getItem_str (c := c) (by
    have e1 : decide (i < -(2 ^ 63 : Int)) = false := decide_eq_false (by omega)
    have e2 : decide (i ≥ 2 ^ 63) = false := decide_eq_false (by omega)
    rw [e1, e2, Bool.or_false]) (by rw [h1]; simpa using h2) ⟨.str ⟨#[c]⟩, H, I.tok _, ⟨_, rfl⟩, q⟩) hs
theorem mapSeq_set (its : List Value) (n j : Nat) (u : Value) : Obj.mapSeq (·.setIfInBounds j u) { cls := .type "list", data := .seq its.toArray n } = { cls := .type "list", data := .seq (its.set j u).toArray n } := by
  simp [Obj.mapSeq]
theorem Inv.lst {pins : List (Addr × Obj)} {σ : St} {H : Hp} {s : Shared} {p : Addr} {xs : List V} (I : Inv X pins σ H s) (h : H p = some (.lst xs)) :
    ∃ (its : List Value) (n : Nat), Vals xs its ∧ s.heap.get? p = some { cls := .type "list", data := .seq its.toArray n } ∧ xs.length ≤ sizeLine := by
  obtain ⟨z, its, n, r, e⟩ := I.hok p _ h
  exact ⟨its, n, r, e, z⟩
theorem Inv.lstUpd {pins : List (Addr × Obj)} {σ : St} {H : Hp} {s : Shared} {p : Addr} {xs ys : List V} {its its' : List Value} {n n' : Nat} {f : Obj → Obj} (I : Inv X pins σ H s) (h : H p = some (.lst xs))
    (ho : s.heap.get? p = some { cls := .type "list", data := .seq its.toArray n }) (hf : f { cls := .type "list", data := .seq its.toArray n } = { cls := .type "list", data := .seq its'.toArray n' }) (r : Vals ys its') (hz : ys.length ≤ sizeLine) (t : Nat) :
    Inv X pins σ (upd H p (.lst ys)) { s with heap := s.heap.update p f, toks := t } := by
  have e : (s.heap.update p f).get? p = some { cls := .type "list", data := .seq its'.toArray n' } := by
    rw [Heap.get?_update_self f ho (by rw [hf] <;> rfl), hf]
  refine I.write (x := p) (e := p) (by rw [h]; trivial) (.inl rfl) (fun b u hb q => (Heap.get?_update_other _ _ (Ne.symm hb)).trans q) ⟨_, e⟩ ?_
  exact ⟨hz, its', n', r, e⟩
noncomputable def rSetL : V → V → V → Hp → (Hp → Prop) → Prop := fun o i v H Q => ∃ p xs k j, o = .ref p ∧ i = .int k ∧ H p = some (.lst xs) ∧ ixN xs.length k = some j ∧ Q (upd H p (.lst (xs.set j v)))
theorem set_list : PSet X rSetL := by
  intro pins s σ H o i v ov iv u Q I ro ri rv h
  obtain ⟨p, xs, k, j, rfl, rfl, hp, hj, q⟩ := h
  cases ro
  obtain ⟨t, rfl⟩ := ri
  obtain ⟨its, n, r, ho, hz⟩ := I.lst hp
  obtain ⟨h1, h2, h3, h4⟩ := ixN_seq hj
  have hl := r.length
  have hn := line63
  have I' : Inv X pins σ (upd H p (.lst (xs.set j v))) { s with heap := s.heap.update p (Obj.mapSeq (·.setIfInBounds j u)) } :=
    I.lstUpd hp ho (mapSeq_set its n j u) (r.set rv j) (by rw [List.length_set]; exact hz) s.toks
  by_cases h0 : 0 ≤ k
  · have hk : k.toNat = j := by
      rw [seqIndex_of h0 h4] at h1
      exact Option.some.inj h1
    exact PySem.W.ki_setAt ho h0 (by omega) (by rw [List.size_toArray, ← hl]; exact h4) (by rw [hk]; exact ⟨_, I', q⟩)
  · have hk : (k + (its.toArray.size : Int)).toNat = j := by
      rw [seqIndex_neg (by omega) h3] at h1
      rw [List.size_toArray, ← hl]
      exact Option.some.inj h1
    exact PySem.W.ki_setBack ho (by omega) (by rw [List.size_toArray, ← hl]; exact h3) (by omega) (by rw [hk]; exact ⟨_, I', q⟩)
theorem slice_bounds (lo hi : Option Int) (n : Nat) : (sliceBounds lo hi none n).1 = ((HT.sIx n 0 lo : Nat) : Int) ∧ (sliceBounds lo hi none n).2.1 = ((HT.sIx n n hi : Nat) : Int) ∧ (sliceBounds lo hi none n).2.2 = 1 := by
  refine ⟨?_, ?_, rfl⟩
  · cases lo with
    | none => simp [sliceBounds, HT.sIx]
    | some i =>
      simp only [sliceBounds, HT.sIx, Option.getD_none, show (1 : Int) > 0 by decide, if_true]
      by_cases h : i < 0
      · simp only [h, if_true] <;> omega
      · simp only [h, if_false] <;> omega
  · cases hi with
    | none => simp [sliceBounds, HT.sIx]
    | some i =>
      simp only [sliceBounds, HT.sIx, Option.getD_none, show (1 : Int) > 0 by decide, if_true]
      by_cases h : i < 0
      · simp only [h, if_true] <;> omega
      · simp only [h, if_false] <;> omega
theorem slicePick_cut (its : List Value) (lo hi : Option Int) : slicePick its.toArray lo hi none = ((its.drop (HT.sIx its.length 0 lo)).take (HT.sIx its.length its.length hi - HT.sIx its.length 0 lo)).toArray := by
  obtain ⟨h1, h2, h3⟩ := slice_bounds lo hi its.toArray.size
  unfold slicePick
  rw [h1, h2, h3]
  simp only [sliceRange_one, pick_run, List.size_toArray] <;> rfl
noncomputable def rSlL (K : PySem.W.Frag) : V → Option Int → Option Int → Hp → VK → Prop := fun x lo hi H Q => ∃ a xs, x = .ref a ∧ SqL K H a xs ∧ ∀ p, H p = none → Q (.ref p) (upd H p (.lst (cutV xs lo hi)))
theorem sl_list : SlR X (rSlL X.K) := by
  intro pins s σ H x v vl vu lo hi sl Q I rx hs pl pu h
  obtain ⟨a, xs, rfl, hx, q⟩ := h
  cases rx
  obtain ⟨its, r, ht, hz⟩ := I.list hx
  have hlen := r.length
  refine ⟨"list", _, slot_list_getitem.lookup, ht.isList.typeIs, ?_⟩
  refine wpAny_getItem_list_slice ht.isList hs pl pu .none (by simp) ?_ (by rw [List.size_toArray] <;> omega)
  rw [slicePick_cut, ← hlen]
  refine ⟨.ref s.heap.objs.size, _, I.laid (t' := s.toks) (o := .lst (cutV xs lo hi)) (fun b ob q => Heap.get?_push_of_some _ q) (Nat.le_refl _) ?_, rfl, q _ (I.hok.fresh (Nat.le_refl _))⟩
  exact ⟨Nat.le_trans (cutV_length xs lo hi) hz, _, 0, (r.drop (HT.sIx xs.length 0 lo)).take (HT.sIx xs.length xs.length hi - HT.sIx xs.length 0 lo), Heap.get?_push_size _ rfl⟩
theorem call_len_seq : CallR X (.builtin "len") (fun xs H Q => ∃ p ys, xs = [.ref p] ∧ (SqL X.K H p ys ∨ SqT X.K H p ys) ∧ Q (.int ys.length) H) := by
  intro pins s σ H xs us Q I r h
  obtain ⟨p, ys, rfl, hq, q⟩ := h
  obtain ⟨u, rfl, rx⟩ := vals1 r
  cases rx
  have hn := line63
  rcases hq with hq | hq
  · obtain ⟨its, r', pl, hz⟩ := I.list hq
    have hlen := r'.length
    exact Calls.call_len_list pl.isList (by simp only [List.size_toArray] <;> omega) ⟨.int ys.length, H, I.tok _, ⟨s.toks + 1, by rw [List.size_toArray, hlen]⟩, q⟩
  · obtain ⟨its, r', pl, hz⟩ := I.tuple hq
    have hlen := r'.length
    exact len_tuple pl (by simp only [List.size_toArray] <;> omega) ⟨.int ys.length, H, I.tok _, ⟨s.toks + 1, by rw [List.size_toArray, hlen]⟩, q⟩
theorem call_len_str : CallR X (.builtin "len") (fun xs H Q => ∃ z, xs = [.str z] ∧ z.length ≤ sizeLine ∧ Q (.int z.length) H) := by
  intro pins s σ H xs us Q I r h
  obtain ⟨z, rfl, hz, q⟩ := h
  obtain ⟨u, rfl, t, rfl⟩ := vals1 r
  have hn := line63
  exact len_str (by omega) ⟨.int z.length, H, I.tok _, ⟨_, rfl⟩, q⟩
theorem CallR.or {f : Value} {r r' : List V → Hp → VK → Prop} (h : CallR X f r) (h' : CallR X f r') : CallR X f (fun xs H Q => r xs H Q ∨ r' xs H Q) := by
  intro pins s σ H xs us Q I rs q
  rcases q with q | q
  · exact h pins s σ H xs us Q I rs q
  · exact h' pins s σ H xs us Q I rs q
theorem call_list_of : CallR X (.type "list") (fun xs H Q => ∃ p ys, xs = [.ref p] ∧ (SqL X.K H p ys ∨ SqT X.K H p ys) ∧ ∀ l, H l = none → Q (.ref l) (upd H l (.lst ys))) := by
  intro pins s σ H xs us Q I r h
  obtain ⟨p, ys, rfl, hq, q⟩ := h
  obtain ⟨u, rfl, rx⟩ := vals1 r
  cases rx
  have fin : ∀ (its : List Value), Vals ys its → ys.length ≤ sizeLine → ∀ (h' : Heap) (c' : Nat), (∀ b o', s.heap.get? b = some o' → h'.get? b = some o') →
      h'.get? s.heap.objs.size = some { cls := .type "list", dict := none, data := .seq its.toArray c', slots := #[] } → EP X pins σ Q (.ref s.heap.objs.size) { s with heap := h' } := fun its r' hz h' c' kp e =>
    ⟨.ref s.heap.objs.size, _, I.laid (t' := s.toks) kp (Nat.le_refl _) (show ObjOk X.prog X.w _ h' _ (.lst ys) from ⟨hz, its, c', r', e⟩), rfl, q _ (I.hok.fresh (Nat.le_refl _))⟩
  rcases hq with hq | hq
  · obtain ⟨its, r', pl, hz⟩ := I.list hq
    have hlen := r'.length
    obtain ⟨o, ho, hc, n, hd⟩ := pl.isList
    exact call_list_seq p (.inl rfl) ho hc hd (fun h' c' kp e => fin its r' hz h' c' kp e) (by simp only [List.size_toArray] <;> omega)
  · obtain ⟨its, r', pl, hz⟩ := I.tuple hq
    have hlen := r'.length
    obtain ⟨o, ho, hc, n, hd⟩ := pl
    exact call_list_seq p (.inr rfl) ho hc hd (fun h' c' kp e => fin its r' hz h' c' kp e) (by simp only [List.size_toArray] <;> omega)
noncomputable def tyV (K : PySem.W.Frag) (T : String) (x : V) (H : Hp) : Prop := match x with
  | .str _ => T = "str"
  | .int _ => T = "int"
  | .ref p => (T = "list" ∧ ∃ xs, SqL K H p xs) ∨ (T = "tuple" ∧ ∃ o, K.lookup p = some o ∧ o.cls = .type "tuple" ∧ o.dict = none) ∨
      (T = "dict" ∧ ((∃ kvs, H p = some (.dK kvs)) ∨ ∃ kvs, H p = some (.dT kvs))) ∨ (T = "set" ∧ ∃ S n, H p = some (.set S n))
  | _ => False
theorem tyV_is {pins : List (Addr × Obj)} {σ : St} {H : Hp} {s : Shared} {T : String} {x : V} {v : Value} (I : Inv X pins σ H s) (r : RelV x v) (ty : tyV X.K T x H) :
    s.TypeIs v T ∧ ∀ a, v = .ref a → ∃ ob, s.heap.get? a = some ob ∧ ob.dict = none := by
  cases x with
  | str z =>
    obtain ⟨t, rfl⟩ := r
    cases (show T = "str" from ty)
    exact ⟨typeIs_str s z t, fun _ e => nomatch e⟩
  | int i =>
    obtain ⟨t, rfl⟩ := r
    cases (show T = "int" from ty)
    exact ⟨typeIs_int s i t, fun _ e => nomatch e⟩
  | ref p =>
    cases r
    rcases ty with ⟨rfl, xs, hq⟩ | ⟨rfl, o, hk, hc, hd⟩ | ⟨rfl, hk⟩ | ⟨rfl, S, n, hk⟩
    · obtain ⟨its, _, pl, _⟩ := I.list hq
      refine ⟨pl.isList.typeIs, fun a e => ?_⟩
      cases e
      obtain ⟨o, n, e, c, hd, _⟩ := pl
      exact ⟨o, e, hd⟩
    · refine ⟨⟨o, I.kIn p o hk, hc⟩, fun a e => ?_⟩
      cases e
      exact ⟨o, I.kIn _ o hk, hd⟩
    · have z : ∃ o, s.heap.get? p = some o ∧ o.ExactDict := by
        rcases hk with ⟨kvs, hk⟩ | ⟨kvs, hk⟩
        · obtain ⟨_, _, _, _, o, _, _, e, ex, _⟩ := I.hok p _ hk
          exact ⟨o, e, ex⟩
        · obtain ⟨_, _, _, _, o, _, _, e, ex, _⟩ := I.hok p _ hk
          exact ⟨o, e, ex⟩
      obtain ⟨o, e, ex⟩ := z
      refine ⟨⟨o, e, ex.1⟩, fun a e2 => ?_⟩
      cases e2
      exact ⟨o, e, ex.2.1⟩
    · obtain ⟨o, _, _, _, e, ex, _⟩ := I.hok p _ hk
      refine ⟨⟨o, e, ex.1⟩, fun a e2 => ?_⟩
      cases e2
      exact ⟨o, e, ex.2.1⟩
  | _ => exact False.elim ty
noncomputable def tBM (K : PySem.W.Frag) (T : String) (r : V → List V → Hp → VK → Prop) (to : TE) (t : TA) : TE := fun σ H Q => to σ H fun x H1 => tyV K T x H1 ∧ t σ H1 fun xs H2 => r x xs H2 Q
variable {o e : Expr} {es : List Expr} {to : TE} {t : TA} {name : Str} {apos cpos : Pos} {T id : String} {r : V → List V → Hp → VK → Prop}
theorem pe_bm (pa : PlainAttrs T) (slot : Slot T name id) (hty : typeOf (.builtin id) = pure (.type "method_descriptor")) (hm : MtR X id r) (ho : PE X o to) (ha : PA X (e :: es) t)
    (hbase : attributeBase o name X.env (eval o X.env) = eval o X.env := by rfl)
    (hfew : ((backTo cpos (starEach (e :: es) X.env)).all (fun x => !x.1) && (backToKw cpos (keywordEach [] X.env)).all (fun x => x.1.isSome)
      && decide ((e :: es).length + ([] : List Keyword).length + (if ([] : List Keyword).isEmpty then 0 else 1) < 30)) = true := by rfl)
    (hline : (apos.endLine == cpos.line) = true := by rfl) (hs : starEach (e :: es) X.env = (false, eval e X.env) :: starEach es X.env := by rfl) (hplain : (backTo cpos (starEach es X.env)).any (·.1) = false := by rfl) :
    PE X (.Call (.Attribute o name apos) (e :: es) [] cpos) (tBM X.K T r to t) := by
  intro pins s σ H Q I h
  refine wpAny_Call_method_late hbase hfew hline rfl (thn (ho pins s σ H _ I h) fun v s1 ⟨x, H1, I1, r1, ty, q1⟩ => ?_)
  obtain ⟨h1, h2⟩ := tyV_is I1 r1 ty
  refine ⟨T, id, pa, slot, hty, h1, h2, ?_⟩
  have hA := ha cpos pins s1 σ H1 _ I1 q1
  rw [hs] at hA ⊢
  refine Calls.callWith_builtin (by show (false || (backTo cpos (starEach es X.env)).any (·.1)) = false; rw [hplain] <;> rfl) (Calls.evalArgs_plain ?_)
  exact thn hA fun us s2 ⟨vs, H2, I2, r2, q2⟩ => hm pins s2 σ H2 x vs v us Q I2 r1 r2 q2
end
end L2
namespace L2
open PySem PySem.Spec PyProof.Rows
noncomputable def MtM (X : Cx) (id : String) (r : V → List V → Hp → VK → Prop) : Prop :=
  ∀ (pins : List (Addr × Obj)) (s : Shared) (σ : St) (H : Hp) (x : V) (xs : List V) (v : Value) (us : List Value) (Q : VK), Inv X pins σ H s → RelV x v → Vals xs us → r x xs H Q →
    wpAny (model X.prog X.w) X.A (call (.builtin id) (v :: us)) (EP X pins σ Q) X.xe s
theorem Vals.one : ∀ {x : V} {us : List Value}, Vals [x] us → ∃ u, us = [u] ∧ RelV x u
  | _, _, .cons r .nil => ⟨_, rfl, r⟩
theorem Vals.two : ∀ {x y : V} {us : List Value}, Vals [x, y] us → ∃ u v, us = [u, v] ∧ RelV x u ∧ RelV y v
  | _, _, _, .cons r (.cons q .nil) => ⟨_, _, rfl, r, q⟩
theorem Vals.zero : ∀ {us : List Value}, Vals [] us → us = []
  | _, .nil => rfl
theorem Vals.dropLast {xs : List V} {us : List Value} (h : Vals xs us) : Vals xs.dropLast us.dropLast := by
  induction h with
  | nil => exact .nil
  | cons r t ih =>
    cases t with
    | nil => exact .nil
    | cons q t' => exact .cons r ih
theorem Vals.eraseIdx : ∀ {xs : List V} {us : List Value} (i : Nat), Vals xs us → Vals (xs.eraseIdx i) (us.eraseIdx i)
  | _, _, _, .nil => .nil
  | _, _, 0, .cons _ t => t
  | _, _, i + 1, .cons r t => .cons r (Vals.eraseIdx i t)
theorem Vals.reverse {xs : List V} {us : List Value} (h : Vals xs us) : Vals xs.reverse us.reverse := by
  induction h with
  | nil => exact .nil
  | cons r t ih => rw [List.reverse_cons, List.reverse_cons]; exact Vals.append ih (.cons r .nil)
section
variable {X : Cx} {pins : List (Addr × Obj)} {σ : St} {H : Hp} {s : Shared} {l b : Addr} {xs ys zs : List V}
theorem Inv.lset {its its' : List Value} {n : Nat} {f : Array Value → Array Value} {t' : Nat} (I : Inv X pins σ H s) (hH : H l = some (.lst xs))
    (e : s.heap.get? l = some { cls := .type "list", data := .seq its.toArray n }) (hf : f its.toArray = its'.toArray) (hv : Vals ys its') (hz : ys.length ≤ sizeLine) :
    Inv X pins σ (upd H l (.lst ys)) { s with heap := s.heap.update l (Obj.mapSeq f), toks := t' } := by
  have q := PySem.IsL.update e f
  rw [hf] at q
  refine I.write (x := l) (e := l) (by rw [hH]; exact trivial) (.inl rfl) (fun b' u hb hu => (Heap.get?_update_other s.heap (Obj.mapSeq f) (Ne.symm hb)).trans hu) ⟨_, q⟩ ?_
  exact ⟨hz, its', _, hv, q⟩
theorem Inv.lnew {its : List Value} {t' : Nat} (I : Inv X pins σ H s) (hv : Vals ys its) (hz : ys.length ≤ sizeLine) :
    Inv X pins σ (upd H s.heap.objs.size (.lst ys)) { s with heap := s.heap.push { cls := .type "list", data := .seq its.toArray }, toks := t' } :=
  I.laid (fun _ _ q => Heap.get?_push_of_some _ q) (Nat.le_refl _) ⟨hz, its, 0, hv, Heap.get?_push_size _ rfl⟩
theorem Inv.fresh (I : Inv X pins σ H s) : H s.heap.objs.size = none := I.hok.fresh (Nat.le_refl _)
theorem Inv.lstM (I : Inv X pins σ H s) (hH : H l = some (.lst xs)) : xs.length ≤ sizeLine ∧ ∃ (its : List Value) (n : Nat), Vals xs its ∧ xs.length = its.length ∧ s.heap.get? l = some { cls := .type "list", data := .seq its.toArray n } := by
  obtain ⟨z, its, n, r, e⟩ := I.hok l _ hH
  exact ⟨z, its, n, r, r.length, e⟩
end
section
variable {X : Cx}
noncomputable def rAppend : V → List V → Hp → VK → Prop := fun x vs H Q => ∃ l xs y, x = .ref l ∧ vs = [y] ∧ H l = some (.lst xs) ∧ xs.length < sizeLine ∧ Q .non (upd H l (.lst (xs ++ [y])))
theorem mt_append : MtM X "list.append" rAppend := by
  intro pins s σ H x vs v us Q I rx rv h
  obtain ⟨l, xs, y, rfl, rfl, hH, hz, q⟩ := h
  cases rx
  obtain ⟨u, rfl, ru⟩ := rv.one
  obtain ⟨z, its, n, r, hl, e⟩ := I.lstM hH
  refine call_meets F.slot_list_append ⟨_, e, rfl⟩ F.entry_list_append (F.args_list_append_2 _ _) (PySem.list_append l its.toArray n u (by rw [List.size_toArray]; omega)) ⟨e, ?_⟩
  refine ⟨.non, _, I.lset (its' := its ++ [u]) hH e (by simp) (r.append (.cons ru .nil)) ?_, rfl, q⟩
  rw [List.length_append, List.length_singleton]
  omega
noncomputable def rCat : R2 := fun x y H Q => ∃ l b xs zs, x = .ref l ∧ y = .ref b ∧ H l = some (.lst xs) ∧ H b = some (.lst zs) ∧ xs.length + zs.length ≤ sizeLine ∧ ∀ p, H p = none → Q (.ref p) (upd H p (.lst (xs ++ zs)))
theorem op_cat : OpR X (binaryOp .Add) rCat := by
  intro pins s σ H x y v u Q I rx ry h
  obtain ⟨l, b, xs, zs, rfl, rfl, hH, hB, hz, q⟩ := h
  cases rx
  cases ry
  obtain ⟨z, its, n, r, hl, e⟩ := I.lstM hH
  obtain ⟨z2, its2, n2, r2, hl2, e2⟩ := I.lstM hB
  refine PySem.P.add_list e e2 ?_ (by rw [List.size_toArray, List.size_toArray]; omega)
  have ea : its.toArray ++ its2.toArray = (its ++ its2).toArray := by simp
  rw [ea]
  exact ⟨.ref _, _, I.lnew (t' := s.toks) (r.append r2) (by rw [List.length_append]; omega), rfl, q _ I.fresh⟩
end
section
variable {prog : Program} {w : World} {A : Around} {E : Value → Shared → Prop} {s : Shared}
end
section
variable {X : Cx}
end
end L2
namespace L2
open PySem PySem.Spec PyProof.Rows
section
variable {κ : Type} [DecidableEq κ]
noncomputable def valV (kvs : List (κ × V)) (k : κ) : Option V := (kvs.find? fun kv => decide (kv.1 = k)).map (·.2)
noncomputable def putK (kvs : List (κ × V)) (k : κ) (v : V) : List (κ × V) :=
  if (kvs.any fun kv => decide (kv.1 = k)) = true then kvs.map (fun kv => if kv.1 = k then (kv.1, v) else kv) else kvs ++ [(k, v)]
noncomputable def dropK (kvs : List (κ × V)) (k : κ) : List (κ × V) := kvs.filter fun kv => decide (kv.1 ≠ k)
theorem valV_pos {p : κ × V} {r : List (κ × V)} {k : κ} (e : p.1 = k) : valV (p :: r) k = some p.2 := by simp [valV, List.find?_cons, e]
theorem valV_neg {p : κ × V} {r : List (κ × V)} {k : κ} (e : ¬ p.1 = k) : valV (p :: r) k = valV r k := by simp [valV, List.find?_cons, e]
theorem RelO.getD {o : Option V} {u : Option Value} {d : V} {d' : Value} (r : RelO o u) (rd : RelV d d') : RelV (o.getD d) (u.getD d') := by
  cases o with
  | none => cases u with
    | none => exact rd
    | some _ => exact (show False from r).elim
  | some _ => cases u with
    | none => exact (show False from r).elim
    | some _ => exact r
theorem KV.val {kvs : List (κ × V)} {vs : List (κ × Value)} (r : KV kvs vs) (k : κ) : RelO (valV kvs k) (valueAt vs k) := by
  unfold KV at r
  induction r with
  | nil => exact True.intro
  | @cons p q ps qs h t ih =>
    obtain ⟨h1, h2⟩ := h
    by_cases e : p.1 = k
    · have e' : q.1 = k := h1.symm.trans e
      have b : valueAt (q :: qs) k = some q.2 := by simp [valueAt, List.find?_cons, e']
      rw [valV_pos e, b]; exact h2
    · have e' : ¬ q.1 = k := fun z => e (h1.trans z)
      have b : valueAt (q :: qs) k = valueAt qs k := by simp [valueAt, List.find?_cons, e']
      rw [valV_neg e, b]; exact ih
theorem KV.any {kvs : List (κ × V)} {vs : List (κ × Value)} (r : KV kvs vs) (k : κ) : (kvs.any fun kv => decide (kv.1 = k)) = vs.any fun kv => decide (kv.1 = k) := by
  unfold KV at r
  induction r with
  | nil => rfl
  | cons h t ih => rw [List.any_cons, List.any_cons, ih, h.1]
theorem KV.drop {kvs : List (κ × V)} {vs : List (κ × Value)} (r : KV kvs vs) (k : κ) : KV (dropK kvs k) (without vs k) := by
  unfold KV at r ⊢
  unfold dropK without
  induction r with
  | nil => exact .nil
  | @cons p q ps qs h t ih =>
    obtain ⟨h1, h2⟩ := h
    rw [List.filter_cons, List.filter_cons]
    by_cases e : p.1 = k
    · have a : ¬ decide (p.1 ≠ k) = true := by simp [e]
      have b : ¬ decide (q.1 ≠ k) = true := by simp [h1.symm.trans e]
      rw [if_neg a, if_neg b]; exact ih
    · have e' : ¬ q.1 = k := fun z => e (h1.trans z)
      have a : decide (p.1 ≠ k) = true := by simp [e]
      have b : decide (q.1 ≠ k) = true := by simp [e']
      rw [if_pos a, if_pos b]; exact .cons ⟨h1, h2⟩ ih
theorem KV.length {kvs : List (κ × V)} {vs : List (κ × Value)} (r : KV kvs vs) : kvs.length = vs.length := Paired.length r
end
noncomputable abbrev KT (H : Hp) : List (List Key × V) → List (List Key × Addr × Value) → Prop := Paired fun p q => p.1 = q.1 ∧ H q.2.1 = some (.tup (p.1.map kV)) ∧ RelV p.2 q.2.2
theorem KT.val {H : Hp} {kvs : List (List Key × V)} {xs : List (List Key × Addr × Value)} (r : KT H kvs xs) (k : List Key) : RelO (valV kvs k) ((atKey xs k).map (·.2)) := by
  induction r with
  | nil => exact True.intro
  | @cons p q ps qs h t ih =>
    obtain ⟨h1, _, h2⟩ := h
    by_cases e : p.1 = k
    · have e' : q.1 = k := h1.symm.trans e
      have b : atKey (q :: qs) k = some q.2 := by simp [atKey, List.find?_cons, e']
      rw [valV_pos e, b]; exact h2
    · have e' : ¬ q.1 = k := fun z => e (h1.trans z)
      have b : atKey (q :: qs) k = atKey qs k := by simp [atKey, List.find?_cons, e']
      rw [valV_neg e, b]; exact ih
theorem KT.keeps {H H' : Hp} {kvs : List (List Key × V)} {xs : List (List Key × Addr × Value)} (r : KT H kvs xs) (ht : ∀ b ys, H b = some (.tup ys) → H' b = some (.tup ys)) : KT H' kvs xs :=
  Paired.mapP r fun _ _ z => ⟨z.1, ht _ _ z.2.1, z.2.2⟩
section
variable {P : Program} {w : World} {H : Hp} {h : Heap} {a : Addr}
theorem rd_of {u : HO} (ok : HOk P w H h) (e : Rd H a u) : ObjOk P w H h a u := e.ok ok
theorem dk_rd {kvs : List (Key × V)} (ok : HOk P w H h) (e : Rd H a (.dK kvs)) : kvs.length ≤ sizeLine ∧ (a == sysModules) = false ∧ ∃ vs, KV kvs vs ∧ h.DictOf (mixKind P w) a vs :=
  show ObjOk P w H h a (.dK kvs) from rd_of ok e
end
noncomputable def DGet (H : Hp) (a : Addr) (y : V) (r : Option V) : Prop :=
  (∃ kvs k, Rd H a (.dK kvs) ∧ y = kV k ∧ r = valV kvs k) ∨ ∃ kvs k b, Rd H a (.dT kvs) ∧ y = .ref b ∧ H b = some (.tup (k.map kV)) ∧ r = valV kvs k
noncomputable def DPut (H : Hp) (a : Addr) (y v : V) (H' : Hp) : Prop :=
  (∃ kvs k, H a = some (.dK kvs) ∧ y = kV k ∧ kvs.length < sizeLine ∧ H' = upd H a (.dK (putK kvs k v))) ∨
  ∃ kvs k b, H a = some (.dT kvs) ∧ y = .ref b ∧ H b = some (.tup (k.map kV)) ∧ kvs.length < sizeLine ∧ H' = upd H a (.dT (putK kvs k v))
theorem DGet.k {H : Hp} {a : Addr} {kvs : List (Key × V)} {k : Key} (e : H a = some (.dK kvs)) : DGet H a (kV k) (valV kvs k) := .inl ⟨kvs, k, .inl e, rfl, rfl⟩
theorem DGet.t {H : Hp} {a b : Addr} {kvs : List (List Key × V)} {k : List Key} (e : H a = some (.dT kvs)) (eb : H b = some (.tup (k.map kV))) : DGet H a (.ref b) (valV kvs k) := .inr ⟨kvs, k, b, .inl e, rfl, eb, rfl⟩
theorem DPut.k {H : Hp} {a : Addr} {kvs : List (Key × V)} {k : Key} {v : V} (e : H a = some (.dK kvs)) (hl : kvs.length < sizeLine) : DPut H a (kV k) v (upd H a (.dK (putK kvs k v))) := .inl ⟨kvs, k, e, rfl, hl, rfl⟩
theorem DPut.t {H : Hp} {a b : Addr} {kvs : List (List Key × V)} {k : List Key} {v : V} (e : H a = some (.dT kvs)) (eb : H b = some (.tup (k.map kV))) (hl : kvs.length < sizeLine) :
    DPut H a (.ref b) v (upd H a (.dT (putK kvs k v))) := .inr ⟨kvs, k, b, e, rfl, eb, hl, rfl⟩
section
variable {X : Cx} {pins : List (Addr × Obj)} {σ : St} {H : Hp} {s : Shared} {a : Addr} {y v : V} {u r : Value} {o : Option V} {A : Around} {E : Value → Shared → Prop}
end
section
variable {X : Cx} {pins : List (Addr × Obj)} {σ : St} {H : Hp} {s : Shared} {a : Addr} {kvs : List (Key × V)} {k : Key} {u : Value} {A : Around} {E : Value → Shared → Prop}
theorem d_len {Q : Value → Shared → Prop} (I : Inv X pins σ H s) (e : Rd H a (.dK kvs)) (h : ∀ t s', Inv X pins σ H s' → Q (.int kvs.length t) s') : wpAny (model X.prog X.w) A (call (.builtin "len") [.ref a]) Q E s := by
  obtain ⟨z, hd, vs, rel, dd⟩ := dk_rd I.hok e
  refine call_len_dict hd dd (by rw [← rel.length]; rw [sizeLine_eq] at z; omega) ?_
  rw [← rel.length]
  exact h _ _ (I.tok _)
end
section
variable {X : Cx} {o i e value : Expr} {pos pos' tpos : Pos} {td ty tv : TE}
end
section
variable {X : Cx} {pos : Pos}
end
structure M1 (X : Cx) (o : Expr) (m : Str) (apos : Pos) (e : Expr) (cpos : Pos) : Prop where
  base : attributeBase o m X.env (eval o X.env) = eval o X.env
  few : ((backTo cpos (starEach [e] X.env)).all (fun x => !x.1) && (backToKw cpos (keywordEach [] X.env)).all (fun x => x.1.isSome)
    && decide (([e] : List Expr).length + ([] : List Keyword).length + (if ([] : List Keyword).isEmpty then 0 else 1) < 30)) = true
  line : (apos.endLine == cpos.line) = true
  trees : backTo cpos (starEach [e] X.env) = [(false, eval e X.env)]
structure M2 (X : Cx) (o : Expr) (m : Str) (apos : Pos) (e f : Expr) (cpos : Pos) : Prop where
  base : attributeBase o m X.env (eval o X.env) = eval o X.env
  few : ((backTo cpos (starEach [e, f] X.env)).all (fun x => !x.1) && (backToKw cpos (keywordEach [] X.env)).all (fun x => x.1.isSome)
    && decide (([e, f] : List Expr).length + ([] : List Keyword).length + (if ([] : List Keyword).isEmpty then 0 else 1) < 30)) = true
  line : (apos.endLine == cpos.line) = true
  trees : backTo cpos (starEach [e, f] X.env) = [(false, eval e X.env), (false, eval f X.env)]
section
variable {X : Cx} {pins : List (Addr × Obj)} {σ : St} {H : Hp} {s : Shared} {a : Addr} {y d : V} {u r : Value} {o : Option V} {A : Around} {E : Value → Shared → Prop}
end
section
variable {X : Cx} {o e f : Expr} {apos cpos : Pos} {td ty tx : TE}
end
section
variable {X : Cx} {pins : List (Addr × Obj)} {σ : St} {H : Hp} {s : Shared} {a : Addr} {kvs : List (Key × V)} {A : Around} {E : Value → Shared → Prop}
end
section
variable {X : Cx} {pins : List (Addr × Obj)} {σ : St} {H : Hp} {s : Shared} {a : Addr} {y : V} {u : Value} {A : Around} {E : Value → Shared → Prop}
end
end L2
namespace Att
open PySem PySem.W PySem.Calls PyProof.Rows
theorem ints_of_wellAll {P : Params} {h : Heap} : ∀ (ns : List Int) (vs : List Value), WellAll P h vs (ns.map WData.int) → IntsAre vs ns := by
  intro ns
  induction ns with
  | nil =>
    intro vs w
    rw [List.map_nil] at w
    cases w
    exact .nil
  | cons n ns ih =>
    intro vs w
    rw [List.map_cons] at w
    cases w with
    | cons a b =>
      cases a
      exact .cons _ _ (ih _ b)
theorem script_of {l : OpenLaw} {n : Nat} (hn : l.most = some n) {P : Params} {h : Heap} {args : List WData} {vals : List Value}
    (hpre : l.row.toRowW.claim.pre args = true) (hwl : WellAll P h vals args) :
    ∃ a vs ns, vals = [Value.ref a] ∧ args = [WData.list (ns.map WData.int)] ∧ h.get? a = some { cls := .type "list", data := .seq vs.toArray } ∧ IntsAre vs ns ∧ ns.length ≤ n := by
  have hsh : WShape.hasAll [] args [.list .int] = true := (pre_splitW hpre).1
  have hc : l.pre.holds [] { args := args } = true := (pre_splitW hpre).2
  obtain ⟨d, r, rfl, h1, h2⟩ := hasAllW_cons hsh
  obtain rfl := hasAllW_nil h2
  obtain ⟨xs, rfl, h3⟩ := hasW_list h1
  obtain ⟨ns, rfl⟩ := items_int h3
  have hlen : ns.length ≤ n := by
    unfold OpenLaw.pre at hc
    have h4 : (WTm.not (.lt (.lit (.int (n : Int))) (.len (.arg 0)))).holds [] { args := [.list (ns.map .int)] } = true := by
      have h4 := (holds_andW hc).1
      rw [hn] at h4
      exact h4
    have h5 := condW_of h4 (w_not (w_lt w_lit (w_len_list (w_arg rfl))))
    rw [List.length_map] at h5
    refine Nat.le_of_not_lt fun q => ?_
    have q' : (n : Int) < ((ns.length : Nat) : Int) := by omega
    first
      | (rw [decide_eq_true q'] at h5; exact absurd h5 (by decide))
      | (simp at h5; omega)
  cases hwl with
  | cons w1 w2 =>
    cases w2
    cases w1 with
    | list ho hall => exact ⟨_, _, ns, rfl, rfl, ho, ints_of_wellAll ns _ hall, hlen⟩
theorem post_true (l : OpenLaw) (args : List WData) : l.row.toRowW.claim.post args (.bool true) args = true :=
  postW_of (r := l.row.toRowW) (X := (true == true))
    (show WShape.has [] (.bool true) .bool = true by first | rfl | decide | simp [WShape.has, WShape.arms, WShape.armsAll])
    (show (WTm.eq .res (.lit (.bool true))).value [] { args := args, res := some (.bool true), after := args } = some (.bool (true == true)) from w_eq_bool (w_res rfl) w_lit) rfl
theorem attach_call {l : OpenLaw} {n : Nat} {q : Program} {loose : List Str} {XP : (Str → Option Value) → Heap → Prop} {YP : World → Heap → Prop} {d : DefRec}
    (hn : l.most = some n) (hdf : d.params.defaults = [])
    (call : ∀ (w : World) (s₀ s₁ : Shared) (mg mb : Str → Option Value) (fa : Addr) (o : Obj) (pm cd doc : Value) (a : Addr) (vs : List Value) (ns : List Int),
      Ground q loose [] XP w s₀ mg mb s₁.heap → YP w s₁.heap →
      s₁.heap.get? fa = some o → o.data = .func (docDef d.name d.params d.body d.scope pm cd doc) → s₁.heap.CodeRec cd d.name → mg d.name = some (.ref fa) →
      s₁.heap.get? a = some { cls := .type "list", data := .seq vs.toArray } → IntsAre vs ns → ns.length ≤ n → s₁.gens = #[] →
      codeAny (model l.prog w) callerA (.call (.ref fa) ⟨[.ref a], []⟩) (fun r s' => r = .ok (.ret (.bool true)) ∧ OldK s₁.heap s'.heap ∧ s'.os = s₁.os ∧ AllBare s'.gens) s₁) :
    WalkO q loose XP YP l.row.toRowW d [] (fun f vs => PySem.call f vs) := by
  intro w s₀ s₁ mg mb G Y fa o pm cd doc dV kV ho hd hcd hD hmg hg args vals as hpre hlay hrd hwl hlo
  obtain rfl : dV = .none := Dflts.none hD hdf
  obtain rfl : kV = .none := Dflts.noKw hD
  obtain ⟨a, vs, ns, rfl, rfl, hobj, hints, hlen⟩ := script_of hn hpre hwl
  refine enter_call (codeAny_mono (call w s₀ s₁ mg mb fa o pm cd doc a vs ns G Y ho (fd_plain hd) hcd hmg hobj hints hlen hg) fun r s' hq => ?_)
  obtain ⟨rfl, h2, h3, h4⟩ := hq
  exact ⟨.inl ⟨.bool true, .bool true, [], rfl, fun _ => rfl, .bool true, post_true l _, fun _ => ⟨List.Pairwise.nil, fun _ hm => (nomatch hm)⟩⟩, h2, h3, h4⟩
section
variable {prog : Program} {w : World} {A : Around} {E : Value → Shared → Prop} {s : Shared} {K : Frag}
end
end Att
namespace L2
open PySem PySem.Spec PyProof.Rows
theorem vals_ints : ∀ {vs : List Value} {ns : List Int}, IntsAre vs ns → Vals (ns.map V.int) vs
  | _, _, .nil => .nil
  | _, _, .cons n t h => .cons ⟨t, rfl⟩ (vals_ints h)
noncomputable def Only (H : Hp) : Prop := ∀ b, H b = none ∨ ∃ o xs, H b = some (.frz o (.lst xs))
theorem law_call {P : Program} {w : World} {K : PySem.W.Frag} {mg mb : Str → Option Value} {CX : CXT} {k : Nat} {fa a : Addr} {fd : FuncData} {x : Str} {sp : Sp} {s₁ : Shared} {vs : List Value} {ns : List Int}
    (KX : K.In s₁.heap) (hns : s₁.heap.Ns mainGlobals mg) (hb : s₁.heap.Ns builtinsNs mb) (hbb : ∀ x : Str, x ≠ "__name__" → mb x = bootBuiltins x) (hlim : s₁.heap.NoLimit) (hg : s₁.gens = #[])
    (ha : s₁.heap.get? a = some { cls := .type "list", data := .seq vs.toArray }) (hi : IntsAre vs ns) (hl : ns.length ≤ sizeLine) (hr : Room k callerA)
    (F : ∀ base : Heap, K.In base → base.Ns mainGlobals mg → FnOk P w K mg base CX k fa fd [x] sp) (hbind : ∀ (s : Shared) (u : Value), BindsTo s fd ⟨[u], []⟩ [(x, u)])
    (hsp : ∀ H : Hp, Only H → SqL K H a (ns.map V.int) → sp [.ref a] H (fun v _ => v = .bl true) fun _ _ _ => False)
    (hCX : ∀ H e s', CX [] H s₁ (fun _ _ _ => False) e s' → False) :
    codeAny (model P w) callerA (.call (.ref fa) ⟨[.ref a], []⟩) (fun r s' => r = .ok (.ret (.bool true)) ∧ OldK s₁.heap s'.heap ∧ s'.os = s₁.os ∧ AllBare s'.gens) s₁ := by
  have rv := vals_ints hi
  have lenV := hi.length
  have core : ∀ H : Hp, Only H → SqL K H a (ns.map V.int) → HOk P w H s₁.heap → (∀ b, H b ≠ none → b = a) → (H a ≠ none → K.lookup a = none) →
      codeAny (model P w) callerA (.call (.ref fa) ⟨[.ref a], []⟩) (fun r s' => r = .ok (.ret (.bool true)) ∧ OldK s₁.heap s'.heap ∧ s'.os = s₁.os ∧ AllBare s'.gens) s₁ := by
    intro H hO hS hok hA hK
    have base_of : ∀ {b : Addr} {o : Obj}, s₁.heap.get? b = some o → H b = none → (hidT s₁.heap H).get? b = some o := fun e n => hidT_get e n
    have noA : ∀ {b : Addr} {o : Obj} {es : Array DictEntry} {ep : Nat}, s₁.heap.get? b = some o → o.data = .dict es ep → H b = none := fun {b o es ep} e d => by
      cases q : H b with
      | none => rfl
      | some u =>
        have e' : b = a := hA b (by rw [q]; simp)
        subst e'
        rw [ha] at e; cases e
        have d' : Data.seq vs.toArray _ = Data.dict es ep := d
        cases d'
    have nsK : ∀ {b : Addr} {m : Str → Option Value}, s₁.heap.Ns b m → (hidT s₁.heap H).Ns b m := fun {b m} ⟨o, es, ep, e, d, r⟩ => ⟨o, es, ep, base_of e (noA e d), d, r⟩
    have hKb : K.In (hidT s₁.heap H) := fun b o e => base_of (KX b o e) (by
      cases q : H b with
      | none => rfl
      | some u =>
        have e' : b = a := hA b (by rw [q]; simp)
        subst e'
        rw [hK (by rw [q]; simp)] at e; cases e)
    have hM : Mod K mg (hidT s₁.heap H) := ⟨hKb, nsK hns, ⟨mb, nsK hb, hbb⟩, let ⟨mc, h1, h2⟩ := hlim; ⟨mc, nsK h1, h2⟩⟩
    have e0 : Env0 P w K mg (hidT s₁.heap H) callerA [] s₁ H := ⟨rfl, hM, fun b o e => of_hidT e, Nat.le_of_eq (hidT_size _ _), trivial, fun b hb => absurd (show b ∈ ([] : List Addr) from hb) (by simp), hok, .of_eq hg⟩
    refine codeAny_mono ((F _ hKb (nsK hns)).run callerA [] s₁ H ⟨[.ref a], []⟩ [.ref a] [.ref a] _ _ hr e0 (hbind s₁ (.ref a)) (.cons rfl .nil) (hsp H hO hS)) fun r s' h => ?_
    cases r with
    | error e => exact (hCX H e s' h).elim
    | ok fl =>
      cases fl with
      | next => exact False.elim h
      | brk => exact False.elim h
      | cont => exact False.elim h
      | ret u =>
        obtain ⟨v, H', os, bare, un, hok', r', q⟩ := h
        have q' : v = .bl true := q
        subst q'
        obtain rfl : u = Value.bool true := r'
        refine ⟨rfl, OldK.of_keep fun b o e => ?_, os, bare⟩
        cases q : H b with
        | none => exact un.keep b o e q (by intro z; exact absurd (show b ∈ ([] : List Addr) from z) (by simp)) (by simp)
        | some u =>
          rcases hO b with z | ⟨ob, xs, z⟩
          · rw [q] at z; cases z
          · have z2 := un.frzs b ob _ z
            obtain ⟨e1, _⟩ := hok b _ z
            obtain ⟨e2, _⟩ := hok' b _ z2
            rw [e] at e1; cases e1
            exact e2
  cases hk : K.lookup a with
  | some o =>
    have e := KX a o hk
    rw [ha] at e
    cases e
    refine core (fun _ => none) (fun _ => .inl rfl) (.inr ⟨_, vs.toArray, _, hk, rfl, rfl, rfl, by rw [List.size_toArray, lenV]; exact hl, by simpa using rv⟩) (fun b u z => by have z' : (none : Option HO) = some u := z; cases z') (fun b z => absurd rfl z) fun z => absurd rfl z
  | none =>
    refine core (fun b => if b = a then some (.frz { cls := .type "list", data := .seq vs.toArray } (.lst (ns.map V.int))) else none) (fun b => ?_) (.inl (.inr ⟨{ cls := .type "list", data := .seq vs.toArray }, if_pos rfl⟩)) (fun b u z => ?_) (fun b z => ?_) fun _ => hk
    · by_cases hb : b = a
      · exact .inr ⟨_, _, if_pos hb⟩
      · exact .inl (if_neg hb)
    · by_cases hb : b = a
      · have z' := (if_pos hb).symm.trans z
        cases z'
        subst hb
        exact ⟨ha, by rw [List.length_map]; exact hl, vs, _, rv, ha⟩
      · have z' := (if_neg hb).symm.trans z
        cases z'
    · by_cases hb : b = a
      · exact hb
      · exact absurd (if_neg hb) z
end L2
namespace L2
open PySem PySem.Spec PyProof.Rows
theorem walk_of {l : PySem.W.OpenLaw} {n k : Nat} {q : Program} {loose : List Str} {XP : (Str → Option Value) → Heap → Prop} {YP : World → Heap → Prop} {d : DefRec} {K : Params → PySem.W.Frag} {CX : World → CXT} {sp : World → Sp} {x : Str}
    (hn : l.most = some n) (hn2 : n ≤ sizeLine) (hdf : d.params.defaults = []) (hr : Room k callerA)
    (hY : ∀ (w : World) (h : Heap), YP w h → (K w.params).In h)
    (F : ∀ (w : World) (mg : Str → Option Value) (fa : Addr) (h : Heap), (K w.params).In h → h.Ns mainGlobals mg → mg d.name = some (.ref fa) →
      ∃ fd : FuncData, (∀ (s : Shared) (u : Value), BindsTo s fd ⟨[u], []⟩ [(x, u)]) ∧
        ∀ base : Heap, (K w.params).In base → base.Ns mainGlobals mg → FnOk l.prog w (K w.params) mg base (CX w) k fa fd [x] (sp w))
    (hsp : ∀ (w : World) (H : Hp) (a : Addr) (ns : List Int), ns.length ≤ n → Only H → SqL (K w.params) H a (ns.map V.int) → sp w [.ref a] H (fun v _ => v = .bl true) fun _ _ _ => False)
    (hCX : ∀ (w : World) (H : Hp) (s : Shared) (e : Value) (s' : Shared), CX w [] H s (fun _ _ _ => False) e s' → False) :
    PySem.W.WalkO q loose XP YP l.row.toRowW d [] (fun f vs => PySem.call f vs) := by
  refine Att.attach_call hn hdf fun w s₀ s₁ mg mb fa o pm cd doc a vs ns G Y ho hd hcd hmg hobj hints hlen hg => ?_
  have KX := hY w _ Y
  obtain ⟨fd, hb, hF⟩ := F w mg fa _ KX G.T.g hmg
  exact law_call KX G.T.g G.T.b G.T.builtins G.T.nolimit hg hobj hints (Nat.le_trans hlen hn2) hr hF hb (fun H hO hS => hsp w H a ns hlen hO hS) fun H e s' => hCX w H s₁ e s'
theorem walk_ofK {l : PySem.W.OpenLaw} {n k : Nat} {q : Program} {loose : List Str} {XP : (Str → Option Value) → Heap → Prop} {YP : World → Heap → Prop} {d : DefRec} {K : Params → PySem.W.Frag} {CX : CXT} {sp : PySem.W.Frag → Sp} {x : Str}
    (hn : l.most = some n) (hn2 : n ≤ sizeLine) (hdf : d.params.defaults = []) (hr : Room k callerA)
    (hY : ∀ (w : World) (h : Heap), YP w h → (K w.params).In h)
    (F : ∀ (w : World) (mg : Str → Option Value) (fa : Addr) (h : Heap), (K w.params).In h → h.Ns mainGlobals mg → mg d.name = some (.ref fa) →
      ∃ fd : FuncData, (∀ (s : Shared) (u : Value), BindsTo s fd ⟨[u], []⟩ [(x, u)]) ∧
        ∀ base : Heap, (K w.params).In base → base.Ns mainGlobals mg → FnOk l.prog w (K w.params) mg base CX k fa fd [x] (sp (K w.params)))
    (hsp : ∀ (K : PySem.W.Frag) (H : Hp) (a : Addr) (ns : List Int), ns.length ≤ n → Only H → SqL K H a (ns.map V.int) → sp K [.ref a] H (fun v _ => v = .bl true) fun _ _ _ => False)
    (hCX : ∀ (H : Hp) (s : Shared) (e : Value) (s' : Shared), CX [] H s (fun _ _ _ => False) e s' → False) :
    PySem.W.WalkO q loose XP YP l.row.toRowW d [] (fun f vs => PySem.call f vs) :=
  walk_of (K := K) (CX := fun _ => CX) (sp := fun w => sp (K w.params)) hn hn2 hdf hr hY F (fun w H a ns h1 h2 h3 => hsp (K w.params) H a ns h1 h2 h3) fun _ H s e s' => hCX H s e s'
end L2
namespace L2
open PySem PySem.Spec PyProof.Rows
noncomputable def defArgs (s : Stmt) : Arguments := match s with
  | .FunctionDef _ a _ _ _ _ _ _ _ _ => a
  | _ => { posonlyargs := [], args := [], vararg := none, kwonlyargs := [], kw_defaults := [], kwarg := none, defaults := [] }
noncomputable def defBody (s : Stmt) : List Stmt := match s with
  | .FunctionDef _ _ b _ _ _ _ _ _ _ => b
  | _ => []
noncomputable def defScope (s : Stmt) : Scope := match s with
  | .FunctionDef _ _ _ _ _ _ sc _ _ _ => sc
  | _ => { kind := .function, names := [], isGenerator := false, isCoroutine := false }
noncomputable abbrev CX0 : CXT := fun _ _ _ _ _ _ => False
noncomputable abbrev E0 : XK := fun _ _ _ => False
theorem pass0 {X : Cx} : Passes CX0 X E0 := fun _ _ _ _ _ _ _ h => h.elim
structure Fun (K : PySem.W.Frag) (x qual : Str) (st : Stmt) (f : Addr) (fd : FuncData) : Prop where
  ex : ∃ (oc : Value) (od : Option Addr) (kV doc pm : Value) (an : Option Addr) (cdv ct : Value) (osl : Array (Option Value)),
    fd = PySem.W.fnOf x qual (defArgs st) (defBody st) (defScope st) .none kV doc pm an cdv ct ∧ K.lookup f = some ⟨oc, od, .func fd, osl⟩ ∧ PySem.W.codeIn K cdv qual = true
  kp : PySem.W.keepIn K (.ref f) = true
section
variable {P : Program} {w : World} {K : PySem.W.Frag} {mg : Str → Option Value} {base : Heap}
theorem Fun.ok {x qual : Str} {st : Stmt} {f : Addr} {fd : FuncData} {N ps : List Str} {k : Nat} {sp : Sp} (F : Fun K x qual st f fd) (S : FnScope N ps (defScope st)) (len : ∀ vs H Q E, sp vs H Q E → vs.length = ps.length)
    (hbody : ∀ (cdv : Value) (A : Around) (outer : List Env) (s : Shared) (H : Hp) (vs : List V) (Q : VK) (E : XK), Room k (A.deeper (envOfC qual (defScope st) s.heap.objs.size f cdv)) → sp vs H Q E →
      ∃ t, PSs (cxOf CX0 P w K mg base N qual (defScope st) f cdv A outer s H E).nox (defBody st) t ∧ t { nx := fun _ H' => Q .non H', rt := Q } (start N vs) H) : FnOk P w K mg base CX0 (k + 1) f fd ps sp := by
  obtain ⟨oc, od, kV, doc, pm, an, cdv, ct, osl, rfl, lk, hcd⟩ := F.ex
  refine fn_of lk hcd S len fun A outer s H vs Q E hr hsp => ?_
  obtain ⟨t, h, q⟩ := hbody cdv A outer s H vs Q E hr hsp
  exact ⟨t, h.nox, q⟩
theorem Fun.binds {x qual : Str} {st : Stmt} {f : Addr} {fd : FuncData} {ps : List Str} (F : Fun K x qual st f fd)
    (h : ∀ (kV doc pm : Value) (an : Option Addr) (cdv ct : Value) (us : List Value), us.length = ps.length → bindArgs (PySem.W.fnOf x qual (defArgs st) (defBody st) (defScope st) .none kV doc pm an cdv ct) ⟨us, []⟩ = pure (ps.zip us)) : Binds K fd ps [] := by
  obtain ⟨oc, od, kV, doc, pm, an, cdv, ct, osl, rfl, lk, hcd⟩ := F.ex
  exact .all (h kV doc pm an cdv ct)
theorem fun_mk {x qual : Str} {st : Stmt} {f : Addr} {oc : Value} {od an : Option Addr} {osl : Array (Option Value)} {kV doc pm cdv ct : Value} (l : K.lookup f = some ⟨oc, od, .func (PySem.W.fnOf x qual (defArgs st) (defBody st) (defScope st) .none kV doc pm an cdv ct), osl⟩)
    (c : PySem.W.codeIn K cdv qual = true) (k : PySem.W.keepIn K (.ref f) = true) : Fun K x qual st f (PySem.W.fnOf x qual (defArgs st) (defBody st) (defScope st) .none kV doc pm an cdv ct) := ⟨⟨oc, od, kV, doc, pm, an, cdv, ct, osl, rfl, l, c⟩, k⟩
end
section
variable {X : Cx}
end
noncomputable def Same (H H' : Hp) : Prop := ∀ b o, H b = some o → H' b = some o
theorem Same.refl (H : Hp) : Same H H := fun _ _ h => h
theorem Same.trans {H H1 H2 : Hp} (a : Same H H1) (b : Same H1 H2) : Same H H2 := fun c o h => b c o (a c o h)
theorem Same.free {H H' : Hp} (e : Same H H') {l : Addr} (h : H' l = Option.none) : H l = Option.none := by
  cases q : H l with
  | none => rfl
  | some o =>
    rw [e l o q] at h
    cases h
theorem Same.seq {K : PySem.W.Frag} {H H' : Hp} {a : Addr} {xs : List V} (e : Same H H') (h : SqL K H a xs) : SqL K H' a xs := by
  rcases h with (h | ⟨o, h⟩) | h
  · exact .inl (.inl (e _ _ h))
  · exact .inl (.inr ⟨o, e _ _ h⟩)
  · exact .inr h
section
variable {X : Cx}
theorem call_lenD : CallR X (.builtin "len") (fun xs H Q => ∃ a kvs, xs = [V.ref a] ∧ H a = some (.dK kvs) ∧ Q (.int kvs.length) H) := by
  intro pins s σ H xs us Q I r h
  obtain ⟨a, kvs, rfl, ha, q⟩ := h
  obtain ⟨u, rfl, ru⟩ := vals1 r
  cases ru
  exact d_len I (.inl ha) fun t s' I' => ⟨.int kvs.length, H, I', ⟨t, rfl⟩, q⟩
end
section
variable {κ : Type} [DecidableEq κ]
end
end L2
namespace L2
open PySem PySem.Spec PyProof.Rows
noncomputable def cxC (X : Cx) (N' : List Str) (scope : Scope) (cl : List (Str × Addr)) (C : Addr) (s₀ : Shared) (H₀ : Hp) (ex : List Addr) : Cx where
  prog := X.prog
  w := X.w
  K := X.K
  mg := X.mg
  base := X.base
  A := X.A
  N := N'
  s₀ := s₀
  H₀ := H₀
  env := compEnvC scope cl C X.env
  outer := X.stack
  stack := X.stack
  ex := ex
  fn := fun _ => false
  calm := X.calm
  pn := []
  xe := fun _ _ => False
theorem closure_of {scope : Scope} {env : Env} (h : ∀ y ∈ scope.names, y.2 = .free → ∃ c, env.cells.lookup y.1 = some c) :
    ∃ cl, closureFor scope env = pure cl ∧ (∀ y c, cl.lookup y = some c → env.cells.lookup y = some c) ∧ ∀ y ∈ scope.names, y.2 = .free → ∃ c, cl.lookup y.1 = some c := by
  have go : ∀ (names : List (Str × NameKind)) (acc : List (Str × Addr)), (∀ y ∈ names, y.2 = .free → ∃ c, env.cells.lookup y.1 = some c) → (∀ y c, acc.lookup y = some c → env.cells.lookup y = some c) →
      ∃ cl, (forIn names acc fun x r => if (x.2 == NameKind.free) = true then do let c ← cellOf env x.1; pure (ForInStep.yield ((x.1, c) :: r)) else pure (ForInStep.yield r) : Sem _) = pure cl ∧
        (∀ y c, cl.lookup y = some c → env.cells.lookup y = some c) ∧ (∀ y c, acc.lookup y = some c → ∃ c, cl.lookup y = some c) ∧ ∀ y ∈ names, y.2 = .free → ∃ c, cl.lookup y.1 = some c := by
    intro names
    induction names with
    | nil => intro acc _ h2; exact ⟨acc, rfl, h2, fun y c e => ⟨c, e⟩, fun y hy => nomatch hy⟩
    | cons z r ih =>
      intro acc h1 h2
      obtain ⟨n, k⟩ := z
      rw [List.forIn_cons]
      by_cases hk : k = .free
      · subst hk
        obtain ⟨c, hc⟩ := h1 (n, .free) List.mem_cons_self rfl
        obtain ⟨cl, e, a1, a2, a3⟩ := ih ((n, c) :: acc) (fun y hy => h1 y (List.mem_cons_of_mem _ hy)) (fun y d hd => by
          rw [List.lookup_cons] at hd
          cases hb : y == n with
          | true => rw [hb] at hd; simp only at hd; cases hd; rw [eq_of_beq hb]; exact hc
          | false => rw [hb] at hd; exact h2 y d hd)
        refine ⟨cl, ?_, a1, fun y d hd => ?_, fun y hy hf => ?_⟩
        · rw [← e]
          have e1 : cellOf env n = pure c := by
            unfold cellOf
            rw [hc]
          simp only [beq_self_eq_true, if_true, e1, pure_bind]
        · by_cases hyn : y = n
          · exact a2 y c (by rw [hyn, List.lookup_cons, beq_self_eq_true])
          · exact a2 y d (by rw [List.lookup_cons, show (y == n) = false by simpa using hyn]; exact hd)
        · (rcases List.mem_cons.mp hy with rfl | hy)
          · exact a2 n c (by rw [List.lookup_cons, beq_self_eq_true])
          · exact a3 y hy hf
      · have hb : (k == NameKind.free) = false := by simpa using hk
        obtain ⟨cl, e, a1, a2, a3⟩ := ih acc (fun y hy => h1 y (List.mem_cons_of_mem _ hy)) h2
        refine ⟨cl, ?_, a1, a2, fun y hy hf => ?_⟩
        · rw [← e]
          simp only [hb, Bool.false_eq_true, if_false, pure_bind]
        · (rcases List.mem_cons.mp hy with rfl | hy)
          · exact absurd hf hk
          · exact a3 y hy hf
  obtain ⟨cl, e, a1, _, a3⟩ := go scope.names [] h (fun y c e => nomatch e)
  refine ⟨cl, ?_, a1, a3⟩
  unfold closureFor
  simp only [] at e ⊢
  rw [e]
  rfl
theorem relabel_free {env : Env} : ∀ {names : List (Str × NameKind)} {x : Str}, names.lookup x = some .free →
    (names.map fun (n, k) => if (k == NameKind.free && env.scope.kind == .function && env.kindOf n == some .cell) then (n, NameKind.cell) else (n, k)).lookup x = some .cell ∨
    (names.map fun (n, k) => if (k == NameKind.free && env.scope.kind == .function && env.kindOf n == some .cell) then (n, NameKind.cell) else (n, k)).lookup x = some .free
  | [], _, h => by simp at h
  | (n, k) :: r, x, h => by
    have ih := @relabel_free env r x
    show List.lookup x ((if (k == NameKind.free && env.scope.kind == .function && env.kindOf n == some .cell) = true then (n, NameKind.cell) else (n, k)) :: _) = _ ∨ List.lookup x ((if (k == NameKind.free && env.scope.kind == .function && env.kindOf n == some .cell) = true then (n, NameKind.cell) else (n, k)) :: _) = _
    cases hx : x == n with
    | true =>
      (simp only [List.lookup_cons, hx] at h)
      cases h
      by_cases hc : (NameKind.free == NameKind.free && env.scope.kind == .function && env.kindOf n == some .cell) = true
      · rw [if_pos hc]; left; simp only [List.lookup_cons, hx]
      · rw [if_neg hc]; right; simp only [List.lookup_cons, hx]
    | false =>
      (simp only [List.lookup_cons, hx] at h)
      (by_cases hc : (k == NameKind.free && env.scope.kind == .function && env.kindOf n == some .cell) = true)
      · (rw [if_pos hc]; simp only [List.lookup_cons, hx]; exact ih h)
      · (rw [if_neg hc]; simp only [List.lookup_cons, hx]; exact ih h)
noncomputable def compOk (osc : Scope) (oN : List Str) (k : Nat) (js : List Nat) (N' : List Str) (scope : Scope) : Bool :=
  scope.kind == .function && scope.names.all (fun y => y.2 != .cell) && scope.names.all (fun y => y.2 != .local || scope.names.lookup y.1 == some .local) &&
  scope.names.all (fun y => y.2 != .free || osc.names.lookup y.1 == some .cell || osc.names.lookup y.1 == some .free) &&
  N'.length == k + js.length && decide N'.Nodup &&
  (List.range js.length).all fun i => match js[i]? with
    | none => false
    | some j => match oN[j]? with
      | none => false
      | some y => N'[k + i]? == some y && scope.names.lookup y == some .free
structure CompScope (X : Cx) (k : Nat) (js : List Nat) (N' : List Str) (scope : Scope) : Prop where
  kind : scope.kind = .function
  nocell : ∀ y ∈ scope.names, y.2 ≠ .cell
  names : ∀ y ∈ scope.names, y.2 = .local → scope.names.lookup y.1 = some .local
  free : ∀ y ∈ scope.names, y.2 = .free → X.env.kindOf y.1 = some .cell ∨ X.env.kindOf y.1 = some .free
  len : N'.length = k + js.length
  nd : N'.Nodup
  idx : ∀ i j : Nat, js[i]? = some j → ∃ y, X.N[j]? = some y ∧ N'[k + i]? = some y ∧ scope.names.lookup y = some .free
theorem CompScope.of {X : Cx} {osc : Scope} {oN : List Str} {k : Nat} {js : List Nat} {N' : List Str} {scope : Scope} (h : compOk osc oN k js N' scope = true) (e : X.env.scope = osc) (eN : X.N = oN) : CompScope X k js N' scope := by
  subst e eN
  unfold compOk at h
  (simp only [Bool.and_eq_true] at h)
  obtain ⟨⟨⟨⟨⟨⟨h1, h2⟩, h3⟩, h4⟩, h5⟩, h6⟩, h7⟩ := h
  refine ⟨eq_of_beq h1, fun y hy => by simpa using List.all_eq_true.mp h2 y hy, fun y hy hl => ?_, fun y hy hf => ?_, eq_of_beq h5, of_decide_eq_true h6, fun i j hj => ?_⟩
  · have q := List.all_eq_true.mp h3 y hy
    rw [hl] at q
    simpa using q
  · have q := List.all_eq_true.mp h4 y hy
    rw [hf] at q
    simp at q
    exact q
  · have hi : i < js.length := (List.getElem?_eq_some_iff.mp hj).1
    have q := List.all_eq_true.mp h7 i (List.mem_range.mpr hi)
    rw [hj] at q
    simp only at q
    cases hN : X.N[j]? with
    | none => rw [hN] at q; cases q
    | some y =>
      rw [hN] at q
      simp only [Bool.and_eq_true] at q
      exact ⟨y, rfl, eq_of_beq q.1, eq_of_beq q.2⟩
noncomputable def capsOf (js : List Nat) (σ : St) : St := js.map fun j => (σ[j]?).join
noncomputable def start0 (k : Nat) (js : List Nat) (σ : St) : St := List.replicate k none ++ capsOf js σ
section
variable {X : Cx}
theorem inv_comp {pins : List (Addr × Obj)} {σ : St} {H : Hp} {s : Shared} {k : Nat} {js : List Nat} {N' : List Str} {scope : Scope} {cl : List (Str × Addr)} {fp : List Addr} {h1 : Heap} {tk : Nat}
    (I : Inv X pins σ H s) (S : CompScope X k js N' scope) (hf : ∀ b ∈ fp, FpOk X pins H b) (hfo : ∀ b ∈ fp, b < s.heap.objs.size)
    (c1 : ∀ y c, cl.lookup y = some c → X.env.cells.lookup y = some c) (c2 : ∀ y ∈ scope.names, y.2 = .free → ∃ c, cl.lookup y.1 = some c)
    (ns : ∃ m, h1.Ns (s.heap.objs.size + 1) m) (kp : ∀ b o, s.heap.get? b = some o → h1.get? b = some o) (hD : h1.get? s.heap.objs.size = some { cls := .type "list", data := .seq #[] }) :
    Inv (cxC X N' scope cl (s.heap.objs.size + 1) s H fp) [] (start0 k js σ) (upd H s.heap.objs.size (.lst [])) { s with heap := h1, toks := tk } := by
  have hfr : H s.heap.objs.size = none := I.hok.fresh (Nat.le_refl _)
  have hfr1 : H (s.heap.objs.size + 1) = none := I.hok.fresh (Nat.le_succ _)
  have cells : ∀ y c, cl.lookup y = some c → c < s.heap.objs.size := fun y c e => by
    obtain ⟨v, q⟩ := I.cell y c (c1 y c e)
    exact q.lt
  have exb : ∀ b ∈ fp, ∀ o, X.base.get? b = some o → False := fun b hb o e => by
    rcases (hf b hb).2.2.2.1 with z | z
    · exact I.ok.noex b o e z
    · exact absurd (Nat.lt_of_lt_of_le (Heap.lt_size (I.ok.bs b o e).1) z) (Nat.lt_irrefl _)
  have exs : ∀ b ∈ fp, b ∉ frs X.stack := fun b hb z => by
    rcases List.mem_cons.mp (I.stkSub b z) with q | q
    · exact (hf b hb).2.1 q
    · exact (hf b hb).2.2.1 q
  obtain ⟨m1, hn1⟩ := ns
  have upk : ∀ y, scope.names.lookup y = some .free → ((cxC X N' scope cl (s.heap.objs.size + 1) s H fp).env.kindOf y = some .cell ∨ (cxC X N' scope cl (s.heap.objs.size + 1) s H fp).env.kindOf y = some .free) := fun y hy => relabel_free hy
  have memf : ∀ y, scope.names.lookup y = some .free → ∃ c, cl.lookup y = some c := fun y hy => c2 (y, .free) (PySem.mem_of_lookup hy) rfl
  have back : ∀ y, ((cxC X N' scope cl (s.heap.objs.size + 1) s H fp).env.kindOf y = some .cell ∨ (cxC X N' scope cl (s.heap.objs.size + 1) s H fp).env.kindOf y = some .free) → scope.names.lookup y = some .free := by
    intro y hy
    have key : ∀ names : List (Str × NameKind), (∀ z ∈ names, z.2 ≠ .cell) →
        ((names.map fun (n, k) => if (k == NameKind.free && X.env.scope.kind == .function && X.env.kindOf n == some .cell) then (n, NameKind.cell) else (n, k)).lookup y = some .cell ∨
        (names.map fun (n, k) => if (k == NameKind.free && X.env.scope.kind == .function && X.env.kindOf n == some .cell) then (n, NameKind.cell) else (n, k)).lookup y = some .free) → names.lookup y = some .free := by
      intro names
      induction names with
      | nil => intro _ h; simp at h
      | cons z r ih =>
        intro hz h
        obtain ⟨n, kd⟩ := z
        have ih' := ih fun z hz' => hz z (List.mem_cons_of_mem _ hz')
        have hkd : kd ≠ .cell := hz (n, kd) List.mem_cons_self
        have h' : List.lookup y ((if (kd == NameKind.free && X.env.scope.kind == .function && X.env.kindOf n == some .cell) = true then (n, NameKind.cell) else (n, kd)) :: r.map _) = _ ∨
            List.lookup y ((if (kd == NameKind.free && X.env.scope.kind == .function && X.env.kindOf n == some .cell) = true then (n, NameKind.cell) else (n, kd)) :: r.map _) = _ := h
        rw [List.lookup_cons]
        cases hx : y == n with
        | true =>
          by_cases hc : (kd == NameKind.free && X.env.scope.kind == .function && X.env.kindOf n == some .cell) = true
          · have : (kd == NameKind.free) = true := by
              (simp only [Bool.and_eq_true] at hc)
              exact hc.1.1
            rw [eq_of_beq this]
          · rw [if_neg hc] at h'
            simp only [List.lookup_cons, hx] at h'
            rcases h' with q | q
            · exact absurd (Option.some.inj q) hkd
            · exact q
        | false =>
          simp only
          by_cases hc : (kd == NameKind.free && X.env.scope.kind == .function && X.env.kindOf n == some .cell) = true
          · rw [if_pos hc] at h'
            simp only [List.lookup_cons, hx] at h'
            exact ih' h'
          · rw [if_neg hc] at h'
            simp only [List.lookup_cons, hx] at h'
            exact ih' h'
    exact key scope.names S.nocell hy
  refine ⟨⟨I.mod, S.kind, I.ok.glob, I.ok.blt, Nat.le_succ _, fun x y c e1 e2 => I.ok.inj x y c (c1 x c e1) (c1 y c e2), fun y hy => memf y (back y hy), fun x c hx => (nomatch hx), I.ok.hd, I.ok.frames, .inl rfl,
      fun b hb => ⟨Nat.ne_of_lt (Nat.lt_succ_of_lt (hfo b hb)), fun x c e => (hf b hb).2.2.2.2.1 x c (c1 x c e)⟩, I.bs, Nat.le_trans I.ok.bsz I.sz, fun b o e hb => exb b hb o e, exs, I.stack, I.stkFree⟩,
    rfl, I.bare, Un.laid kp (Nat.le_refl _) hfr, ⟨m1, hn1, fun i x v e1 e2 e3 => ?_⟩, fun x c e => ?_, ?_, fun x c e => ?_, fun p hp => (nomatch hp), I.hok.laid kp (Nat.le_refl _) ⟨by simp, [], 0, .nil, hD⟩, ?_⟩
  · -- a name's value within the block
    have hi : ¬ i < k := fun hi => by
      unfold start0 at e2
      rw [List.getElem?_append_left (by simpa using hi), List.getElem?_replicate, if_pos hi] at e2
      cases e2
    have hik : k ≤ i := Nat.le_of_not_lt hi
    have e2' : (capsOf js σ)[i - k]? = some (some v) := by
      unfold start0 at e2
      rw [List.getElem?_append_right (by simpa using hik), List.length_replicate] at e2
      exact e2
    unfold capsOf at e2'
    rw [List.getElem?_map] at e2'
    cases hj : js[i - k]? with
    | none => rw [hj] at e2'; cases e2'
    | some j =>
      rw [hj] at e2'
      have e4 : (σ[j]?).join = some v := Option.some.inj e2'
      obtain ⟨y, n1, n2, n3⟩ := S.idx (i - k) j hj
      rw [Nat.add_sub_cancel' hik] at n2
      have e1' : N'[i]? = some x := e1
      rw [e1'] at n2
      obtain rfl : x = y := Option.some.inj n2
      have e5 : σ[j]? = some (some v) := by
        cases q : σ[j]? with
        | none => rw [q] at e4; cases e4
        | some o => rw [q] at e4; exact congrArg some e4
      obtain ⟨m, hn, hl⟩ := I.loc
      have hk := S.free (x, .free) (PySem.mem_of_lookup n3) rfl
      have hv : Vis X.env.scope x := .inr hk
      obtain ⟨u, r, l⟩ := hl j x v n1 e5 hv
      refine ⟨u, r, .inr ⟨upk x n3, ?_⟩⟩
      rcases l with ⟨q, _⟩ | ⟨_, c, hc, hcell⟩
      · rcases hk with z | z <;> (rw [show X.env.kindOf x = some NameKind.local from q] at z; cases z)
      · obtain ⟨c', hc'⟩ := memf x n3
        have : c' = c := Option.some.inj ((c1 x c' hc').symm.trans hc)
        subst this
        obtain ⟨o, ho, hd⟩ := hcell
        exact ⟨c', hc', o, kp _ _ ho, hd⟩
  · obtain ⟨v, o, ho, hd⟩ := I.cell x c (c1 x c e)
    exact ⟨v, o, kp _ _ ho, hd⟩
  · show upd H s.heap.objs.size (.lst []) (s.heap.objs.size + 1) = none
    rw [upd_ne (Nat.succ_ne_self _)]
    exact hfr1
  · show upd H s.heap.objs.size (.lst []) c = none
    rw [upd_ne (Nat.ne_of_lt (cells x c e))]
    exact I.freeC x c (c1 x c e)
  · show (start0 k js σ).length = N'.length
    unfold start0 capsOf
    rw [List.length_append, List.length_replicate, List.length_map, S.len]
noncomputable def PIf (X : Cx) (ifs : List Expr) (t : TT) : Prop :=
  ∀ (pins : List (Addr × Obj)) (s : Shared) (σ : St) (H : Hp) (Q : Bool → Hp → Prop), Inv X pins σ H s → t σ H Q →
    wpAny (model X.prog X.w) X.A (forIn ifs true fun c r => if r = true then do let ok ← isTrue c X.env (eval c X.env); pure (ForInStep.yield ok) else pure (ForInStep.yield r)) (TP X pins σ Q) X.xe s
noncomputable def tIf0 : TT := fun _ H Q => Q true H
theorem pif_nil : PIf X [] tIf0 := fun _ _ _ H _ I h => wpAny_tests_nil ⟨H, I, h⟩
noncomputable def CompW (J : It) (g : TG) (tif : TT) (te : TE) (D : Addr) (Q : VK) (W : Nat → Nat → St → List V → Hp → Prop) : Prop :=
  ∀ i m σ ys H, W i m σ ys H → H D = some (.lst ys) → (J.stop i H ∧ Q (.ref D) H) ∨ (J.go i H ∧ ∀ x H', J.yld i H x H' → g x σ H' fun σ2 H2 => tif σ2 H2 fun b H3 =>
    if b = true then te σ2 H3 fun y H4 => H4 D = some (.lst ys) ∧ ys.length < sizeLine ∧ ∃ m', m' < m ∧ W (i + 1) m' σ2 (ys ++ [y]) (upd H4 D (.lst (ys ++ [y])))
    else H3 D = some (.lst ys) ∧ ∃ m', m' < m ∧ W (i + 1) m' σ2 ys H3)
theorem comp_loop {elt tg iter : Expr} {ifs : List Expr} {scope : Scope} {pos : Pos} {it D : Addr} {J : It} {fp : List Addr} {tn : Nat → Heap → Prop} {g : TG} {tif : TT} {te : TE} {Q : VK} {R : Result → Shared → Prop}
    (hx : ∀ e s', X.xe e s' → False) (hc : X.calm = true) (T : Turn X.prog X.w X.K tg J fp it tn) (hg : PG X tg g) (hif : PIf X ifs tif) (he : PE X elt te)
    (stat : ∀ {H' : Hp}, (∀ b ∈ fp, H' b = none) → ∀ b ∈ fp, FpOk X [] H' b)
    {W : Nat → Nat → St → List V → Hp → Prop} (turn : CompW J g tif te D Q W)
    (hR : ∀ σ' H' s', Inv X [] σ' H' s' → Q (.ref D) H' → R (.ok .next) s')
    {σ : St} {H : Hp} {s : Shared} {m : Nat} (I : Inv X [] σ H s) (st : tn 0 s.heap) (fr : ∀ b ∈ fp, H b = none) (hD : H D = some (.lst [])) (w0 : W 0 m σ [] H) :
    codeAny (model X.prog X.w) X.A (.compLoop (.ListComp elt [⟨tg, iter, ifs, 0⟩] scope pos) 0 (.ref it) (.ref D) X.env) R s := by
  refine codeAny_loop rfl (fun n s' => ∃ i ys σ' H', Inv X [] σ' H' s' ∧ tn i s'.heap ∧ (∀ b ∈ fp, H' b = none) ∧ H' D = some (.lst ys) ∧ W i n σ' ys H') (fun n s3 hI => ?_) m ⟨0, [], σ, H, I, st, fr, hD, w0⟩
  obtain ⟨i, ys, σ3, H3, I3, st3, fr3, d3, w3⟩ := hI
  show wpAny _ X.A ((compTurn (.ListComp elt [⟨tg, iter, ifs, 0⟩] scope pos) 0 (.ref it) (.ref D) X.env).onRaise (fun x => do noteFrame x X.env; theTreesLotGoes x)) _ _ s3
  refine wpAny_noted ?_
  rw [compTurn_list]
  (refine wpAny_bind (wpAny_standAt (wpAny_bind ?_)))
  have sub : ∀ {α : Type} {t : Sem α} {P : α → Shared → Prop} {E' : Value → Shared → Prop} {s : Shared}, wpAny (model X.prog X.w) X.A t P X.xe s → wpAny (model X.prog X.w) X.A t P E' s := fun h => wpAny_mono h (fun _ _ q => q) fun e s' q => (hx e s' q).elim
  rcases turn i n σ3 ys H3 w3 d3 with ⟨stop, q⟩ | ⟨go, step⟩
  · refine sub (thn (T.done X rfl rfl rfl hc i [] s3 σ3 H3 X.xe I3 (stat fr3) st3 stop) fun r s4 ⟨hr, I4⟩ => ?_)
    subst hr
    exact wpAny_pure (hR σ3 H3 s4 I4 q)
  · refine sub (thn (T.item X rfl rfl rfl hc i [] s3 σ3 H3 X.xe I3 (stat fr3) st3 go) fun r s4 ⟨u, hr, h4⟩ => ?_)
    subst hr
    refine wpAny_bind (sub (thn h4 fun _ s5 ⟨x, H5, I5, r5, y5, st5, fr5⟩ => ?_))
    have I5' := I5.pinned (stat fr5) (T.obj _ _ st5)
    refine wpAny_bind (sub (thn (hg _ s5 σ3 H5 x u _ I5' r5 (step x H5 y5)) fun _ s6 ⟨σ6, H6, I6, q6⟩ => ?_))
    have again : ∀ {s7 : Shared} {H7 : Hp} {ys7 : List V}, Inv X ([] ++ pinsAt fp s5.heap) σ6 H7 s7 → H7 D = some (.lst ys7) → (∃ m', m' < n ∧ W (i + 1) m' σ6 ys7 H7) →
        ∃ m, m < n ∧ ∃ i ys σ' H', Inv X [] σ' H' s7 ∧ tn i s7.heap ∧ (∀ b ∈ fp, H' b = none) ∧ H' D = some (.lst ys) ∧ W i m σ' ys H' := fun {s7 H7 ys7} I7 d7 w7 => by
      obtain ⟨m', hm, w7⟩ := w7
      refine ⟨m', hm, i + 1, ys7, σ6, H7, I7.unpinned, T.keep _ _ _ st5 fun b hb o e => (I7.pin (b, o) (List.mem_append_right _ (List.mem_append_right _ (mem_pinsAt hb e)))).1, fun b hb => ?_, d7, w7⟩
      obtain ⟨o, e, d⟩ := T.obj _ _ st5 b hb
      exact (I7.pin (b, o) (List.mem_append_right _ (List.mem_append_right _ (mem_pinsAt hb e)))).2.1
    refine wpAny_bind (sub (thn (hif _ s6 σ6 H6 _ I6 q6) fun ok s7 ⟨H7, I7, q7⟩ => ?_))
    cases ok with
    | false =>
      rw [if_neg Bool.false_ne_true] at q7
      exact wpAny_pure ⟨rfl, again I7 q7.1 q7.2⟩
    | true =>
      rw [if_pos rfl] at q7
      refine wpAny_bind (wpAny_bind (sub (thn (he _ s7 σ6 H7 _ I7 q7) fun y s8 ⟨v, H8, I8, r8, d8, z8, w8⟩ => ?_)))
      have ap := mt_append (X := X) _ s8 σ6 H8 (.ref D) [v] (.ref D) [y] (fun _ H9 => H9 = upd H8 D (.lst (ys ++ [v]))) I8 rfl (.cons r8 .nil) ⟨D, ys, v, rfl, rfl, d8, z8, rfl⟩
      refine wpAny_bind (sub (thn ap fun _ s9 ⟨_, H9, I9, _, e9⟩ => ?_))
      subst e9
      exact wpAny_pure (wpAny_pure ⟨rfl, again I9 upd_same w8⟩)
noncomputable def tComp (k : Nat) (js : List Nat) (wi : TI) (g : TG) (tif : TT) (te : TE) : TE := fun σ H Q => wi σ H fun J H1 => ∀ D, H1 D = none → ∃ W : Nat → Nat → St → List V → Hp → Prop,
  (∃ m, W 0 m (start0 k js σ) [] (upd H1 D (.lst []))) ∧ CompW J g tif te D Q W
theorem comp_block {elt tg iter : Expr} {ifs : List Expr} {scope : Scope} {pos : Pos} {k : Nat} {js : List Nat} {N' : List Str} {J : It} {fp : List Addr} {tn : Nat → Heap → Prop} {it : Addr} {g : TG} {tif : TT} {te : TE} {Q : VK} {E : Value → Shared → Prop}
    {pins : List (Addr × Obj)} {s : Shared} {σ : St} {H : Hp} {cl : List (Str × Addr)} {RR : Value → Addr → Result → Shared → Prop}
    (hc : X.calm = true) (S : CompScope X k js N' scope) (T : Turn X.prog X.w X.K tg J fp it tn) (st : tn 0 s.heap) (hf : ∀ b ∈ fp, FpOk X pins H b)
    (c1 : ∀ y c, cl.lookup y = some c → X.env.cells.lookup y = some c) (c2 : ∀ y ∈ scope.names, y.2 = .free → ∃ c, cl.lookup y.1 = some c)
    (hin : ∀ (cl : List (Str × Addr)) (C : Addr) (s₀ : Shared) (H₀ : Hp) (ex : List Addr), PG (cxC X N' scope cl C s₀ H₀ ex) tg g ∧ PIf (cxC X N' scope cl C s₀ H₀ ex) ifs tif ∧ PE (cxC X N' scope cl C s₀ H₀ ex) elt te)
    (I : Inv X pins σ H s) (q : ∀ D, H D = none → ∃ W : Nat → Nat → St → List V → Hp → Prop, (∃ m, W 0 m (start0 k js σ) [] (upd H D (.lst []))) ∧ CompW J g tif te D Q W)
    (hRR : ∀ (D C : Addr) (s' : Shared) (H' : Hp), s.heap.get? C = none → (∃ m, s'.heap.Ns C m) → Inv X pins σ H' s' → FpOk X pins H' C → Q (.ref D) H' → RR (.ref D) C (.ok .next) s') :
    wpAny (model X.prog X.w) X.A (newList []) (fun acc s₃ => wpAny (model X.prog X.w) X.A (newFunctionEnv scope X.env.globals cl [] X.env.qual none .none (some X.env)) (fun cenv s₄ =>
      codeAny (model X.prog X.w) X.A (.compStart (.ListComp elt [⟨tg, iter, ifs, 0⟩] scope pos) 0 (.ref it) acc { cenv with scope := relabel scope X.env }) (RR acc cenv.locals) s₄) E s₃) E s := by
  refine wpAny_newObj_type (wpAny_newFunctionEnv S.nocell (by intro y hy; simp at hy) (fun h₁ hns₁ hsb₁ => ?_) S.kind)
  dsimp only at hns₁ hsb₁ ⊢
  generalize hH2 : s.heap.push { cls := .type "list", dict := none, data := .seq ([] : List Value).toArray } = H2 at hns₁ hsb₁ ⊢
  have hC : H2.objs.size = s.heap.objs.size + 1 := by rw [← hH2, Heap.size_push]
  rw [hC] at hns₁ hsb₁ ⊢
  have kp : ∀ b o, s.heap.get? b = some o → h₁.get? b = some o := fun b o e => hsb₁.extBut b o (Nat.ne_of_lt (Nat.lt_succ_of_lt (Heap.lt_size e))) (Heap.get?_push_of_some _ (hH2 ▸ Heap.get?_push_of_some _ e))
  have hD : h₁.get? s.heap.objs.size = some { cls := .type "list", data := .seq #[] } := hsb₁.extBut _ _ (Nat.ne_of_lt (Nat.lt_succ_self _)) (Heap.get?_push_of_some _ (hH2 ▸ Heap.get?_push_size _ rfl))
  have hfo : ∀ b ∈ fp, b < s.heap.objs.size := fun b hb => by obtain ⟨o, e, _⟩ := T.obj _ _ st b hb; exact Heap.lt_size e
  obtain ⟨W, ⟨m0, w0⟩, turn⟩ := q s.heap.objs.size (I.hok.fresh (Nat.le_refl _))
  obtain ⟨gG, gI, gE⟩ := hin cl (s.heap.objs.size + 1) s H fp
  have fresh1 : s.heap.get? (s.heap.objs.size + 1) = none := by
    cases e : s.heap.get? (s.heap.objs.size + 1) with
    | none => rfl
    | some o => exact absurd (Heap.lt_size e) (Nat.not_lt.mpr (Nat.le_succ _))
  have I1 : ∀ tk, Inv (cxC X N' scope cl (s.heap.objs.size + 1) s H fp) [] (start0 k js σ) (upd H s.heap.objs.size (.lst [])) { s with heap := h₁, toks := tk } := fun tk => inv_comp I S hf hfo c1 c2 ⟨_, hns₁⟩ kp hD
  have ffr : ∀ b ∈ fp, upd H s.heap.objs.size (.lst []) b = none := fun b hb => by
    rw [upd_ne (Nat.ne_of_lt (hfo b hb))]
    exact (hf b hb).1
  have exs : ∀ b ∈ fp, b ∉ frs X.stack := (I1 0).ok.exfs
  have stat : ∀ {H' : Hp}, (∀ b ∈ fp, H' b = none) → ∀ b ∈ fp, FpOk (cxC X N' scope cl (s.heap.objs.size + 1) s H fp) [] H' b := fun hn b hb =>
    ⟨hn b hb, ((I1 0).ok.exf b hb).1, exs b hb, .inl hb, ((I1 0).ok.exf b hb).2, fun p hp => (nomatch hp)⟩
  have st1 : tn 0 h₁ := T.keep _ _ _ st fun b _ o e => kp b o e
  have loop : ∀ tk, codeAny (model X.prog X.w) X.A (.compLoop (.ListComp elt [⟨tg, iter, ifs, 0⟩] scope pos) 0 (.ref it) (.ref s.heap.objs.size) (compEnvC scope cl (s.heap.objs.size + 1) X.env))
      (RR (.ref s.heap.objs.size) (s.heap.objs.size + 1)) { s with heap := h₁, toks := tk } := fun tk => by
    refine comp_loop (X := cxC X N' scope cl (s.heap.objs.size + 1) s H fp) (fun _ _ z => z) hc T gG gI gE stat turn (fun σ' H' s' J q' => ?_) (I1 tk) st1 ffr upd_same w0
    have u : Un (frs X.stack) fp H H' s.heap s'.heap := J.base
    have J1 : Inv X pins σ H' s' := I.call' J.os u J.hok J.bare fun b hb => ⟨(hf b hb).2.2.2.1, (hf b hb).2.1, (hf b hb).2.2.2.2.1, (hf b hb).2.2.2.2.2⟩
    obtain ⟨m', hn', _⟩ := J.loc
    refine hRR _ _ s' H' fresh1 ⟨m', hn'⟩ J1 ⟨J.free, Nat.ne_of_gt (Nat.lt_succ_of_lt I.lt), I.nofs (Nat.le_succ _), .inr (Nat.le_trans I.sz (Nat.le_succ _)), fun x c e z => ?_, fun p hp z => ?_⟩ q'
    · obtain ⟨v, qc⟩ := I.cell x c e
      have h1 := qc.lt
      rw [z] at h1
      exact absurd h1 (Nat.not_lt.mpr (Nat.le_succ _))
    · have h1 := Heap.lt_size (I.pin p hp).1
      rw [z] at h1
      exact absurd h1 (Nat.not_lt.mpr (Nat.le_succ _))
  exact codeAny_compStart_list (loop _) (T.self X.A 0 _ _ _ st1 (loop _))
theorem ps_setc {i : Nat} {x : Str} {elt tg iter : Expr} {ifs : List Expr} {scope : Scope} {pos spos pos' : Pos} {k : Nat} {js : List Nat} {N' : List Str} {wi : TI} {g : TG} {tif : TT} {te : TE}
    (hN : X.N.Nodup) (hi : X.N[i]? = some x) (hx : Loc X.env.scope x)
    (hc : X.calm = true) (S : CompScope X k js N' scope) (hit : PI X tg iter wi)
    (hin : ∀ (cl : List (Str × Addr)) (C : Addr) (s₀ : Shared) (H₀ : Hp) (ex : List Addr), PG (cxC X N' scope cl C s₀ H₀ ex) tg g ∧ PIf (cxC X N' scope cl C s₀ H₀ ex) ifs tif ∧ PE (cxC X N' scope cl C s₀ H₀ ex) elt te)
    (hsw : swapsWith (.ListComp elt [⟨tg, iter, ifs, 0⟩] scope pos) (some (.Name x pos')) spos.line X.env = pure true := by rfl)
    (hf : X.fn x = true ∨ X.env.scope.names.lookup x = some .local := by first | exact .inl rfl | exact .inr rfl | assumption)
    (hs : ∀ x, foldedSetIterable iter X.env x = pure x := by intro _; rfl) : PS X (.Assign [.Name x pos'] (.ListComp elt [⟨tg, iter, ifs, 0⟩] scope pos) spos) (tAsg (tComp k js wi g tif te) (gName i)) := by
  intro pins s σ H D I h
  obtain ⟨cl, ec, c1, c2⟩ := closure_of (scope := scope) (env := X.env) fun y hy hf => I.ok.has y.1 (S.free y hy hf)
  (rw [exec_Assign_Name_used _ _ _ _ hsw])
  (refine wpAny_bind (wpAny_standAt (wpAny_bind ?_)))
  show wpAny _ X.A (do let _ ← comprehension (.ListComp elt [⟨tg, iter, ifs, 0⟩] scope pos) scope X.env _ (newList []) false (eval iter X.env) (some (assign (.Name x pos') X.env))) _ _ s
  refine wpAny_bind (wpAny_mono (wpAny_comprehension_free (use := some (assign (.Name x pos') X.env)) (Q := fun _ s' => SP X pins D .next s') rfl hs ec S.kind S.names
    (thn (hit pins s σ H _ I h) fun xv s1 h1 => thn h1 fun itv s2 h2 => ?_)) (fun _ s' hq => wpAny_pure (wpAny_pure hq)) fun _ _ e => e)
  obtain ⟨it, fp, tn, J, H2, e, I2, T, st2, f2, q⟩ := h2
  subst e
  refine comp_block (Q := fun v H' => gName i v σ H' D.nx) (RR := fun acc C => compPost (model X.prog X.w) X.A X.xe (some (assign (.Name x pos') X.env)) (fun _ s' => SP X pins D .next s') acc C) hc S T st2 f2 c1 c2 hin I2 q ?_
  intro Da C s' H' fr hn J1 fC q'
  obtain ⟨m', hn⟩ := hn
  obtain ⟨f0, f1, f2, f3, f4, f5⟩ := fC
  obtain ⟨oC, es, ep, hoC, hdC, hkC, hmC⟩ := id hn
  show wpAny _ X.A (assign (.Name x pos') X.env (.ref Da)) _ _ _
  have J2 : Inv X (pins ++ [(C, oC)]) σ H' s' := J1.pins_of fun p hp => by
    (rcases List.mem_append.mp hp with z | z)
    · exact J1.pin p (List.mem_append_right _ z)
    · have z' : p = (C, oC) := by simpa using z
      subst z'
      exact ⟨hoC, f0, f1, f2, fun v e => by rw [hdC] at e; cases e⟩
  refine wpAny_assign_Name (store_ok J2 hN hi hx (v := .ref Da) rfl (fun s'' I'' => ?_) hf)
  have hC'' := (I''.pin (C, oC) (List.mem_append_right _ (List.mem_append_right _ (by simp)))).1
  refine ⟨m', ⟨oC, es, ep, hC'', hdC, hkC, hmC⟩, fun h' hs' => ?_⟩
  have I3 : Inv X pins (σ.set i (some (.ref Da))) H' s'' := I''.unpinned
  exact ⟨_, H', I3.turned (t' := s''.toks) (fun b o hb e => hs'.extBut b o hb e) f0 f1 f3 f4 f5, q'⟩
end
end L2
namespace L2
open PySem PySem.Spec PyProof.Rows
mutual
inductive Den (K : PySem.W.Frag) (H : Hp) : V → PyData → Prop
  | non : Den K H .non .none
  | bl (b : Bool) : Den K H (.bl b) (.bool b)
  | int (i : Int) : Den K H (.int i) (.int i)
  | str (x : Str) : Den K H (.str x) (.str x)
  | lst {a : Addr} {vs : List V} {ds : List PyData} : SqL K H a vs → DenL K H vs ds → Den K H (.ref a) (.list ds)
  | tup {a : Addr} {vs : List V} {ds : List PyData} : SqT K H a vs → DenL K H vs ds → Den K H (.ref a) (.tuple ds)
inductive DenL (K : PySem.W.Frag) (H : Hp) : List V → List PyData → Prop
  | nil : DenL K H [] []
  | cons {v : V} {d : PyData} {vs : List V} {ds : List PyData} : Den K H v d → DenL K H vs ds → DenL K H (v :: vs) (d :: ds)
end
theorem Same.tupq {K : PySem.W.Frag} {H H' : Hp} {a : Addr} {xs : List V} (e : Same H H') (h : SqT K H a xs) : SqT K H' a xs := by
  rcases h with (h | ⟨o, h⟩) | h
  · exact .inl (.inl (e _ _ h))
  · exact .inl (.inr ⟨o, e _ _ h⟩)
  · exact .inr h
mutual
theorem Den.same {K : PySem.W.Frag} {H H' : Hp} (e : Same H H') : ∀ {v : V} {d : PyData}, Den K H v d → Den K H' v d
  | _, _, .non => .non
  | _, _, .bl b => .bl b
  | _, _, .int i => .int i
  | _, _, .str x => .str x
  | _, _, .lst h r => .lst (e.seq h) (DenL.same e r)
  | _, _, .tup h r => .tup (e.tupq h) (DenL.same e r)
theorem DenL.same {K : PySem.W.Frag} {H H' : Hp} (e : Same H H') : ∀ {vs : List V} {ds : List PyData}, DenL K H vs ds → DenL K H' vs ds
  | _, _, .nil => .nil
  | _, _, .cons h r => .cons (Den.same e h) (DenL.same e r)
end
section
variable {X : Cx} {pins : List (Addr × Obj)} {σ : St} {H : Hp} {s : Shared}
mutual
theorem Den.reads (I : Inv X pins σ H s) : ∀ {v : V} {d : PyData} {u : Value}, Den X.K H v d → RelV v u → ∃ as, Reads s.heap u d as
  | _, _, _, .non, r => by cases (show _ = Value.none from r); exact ⟨_, .none⟩
  | _, _, _, .bl b, r => by cases (show _ = Value.bool b from r); exact ⟨_, .bool b⟩
  | _, _, _, .int i, r => by obtain ⟨t, q⟩ := (show ∃ t, _ = Value.int i t from r); cases q; exact ⟨_, .int i t⟩
  | _, _, _, .str x, r => by obtain ⟨t, q⟩ := (show ∃ t, _ = Value.str x t from r); cases q; exact ⟨_, .str x t⟩
  | _, _, _, .lst (a := a) h q, r => by
    cases (show _ = Value.ref a from r)
    obtain ⟨its, rv, p, hz⟩ := I.list h
    obtain ⟨as, ra⟩ := DenL.reads I q rv
    obtain ⟨o, ho, hc, n, hd⟩ := p.isList
    exact ⟨_, .list ho hc hd (by simpa using ra)⟩
  | _, _, _, .tup (a := a) h q, r => by
    cases (show _ = Value.ref a from r)
    obtain ⟨its, rv, p, hz⟩ := I.tuple h
    obtain ⟨as, ra⟩ := DenL.reads I q rv
    obtain ⟨o, ho, hc, n, hd⟩ := (show s.heap.IsTuple a its.toArray from p)
    exact ⟨_, .tuple ho hc hd (by simpa using ra)⟩
theorem DenL.reads (I : Inv X pins σ H s) : ∀ {vs : List V} {ds : List PyData} {us : List Value}, DenL X.K H vs ds → Vals vs us → ∃ as, ReadsAll s.heap us ds as
  | _, _, _, .nil, r => by cases r; exact ⟨_, .nil⟩
  | _, _, _, .cons h q, r => by
    cases r with
    | cons r1 r2 =>
      obtain ⟨as, ra⟩ := Den.reads I h r1
      obtain ⟨bs, rb⟩ := DenL.reads I q r2
      exact ⟨_, .cons ra rb⟩
end
end
section
variable {X : Cx}
noncomputable def rEqD (K : PySem.W.Frag) : R2 := fun x y H Q => ∃ d e, Den K H x d ∧ Den K H y e ∧ SeqAt.shaped d = true ∧ SeqAt.shaped e = true ∧ Q (.bl (PyData.eqv d e)) H
noncomputable def rNeD (K : PySem.W.Frag) : R2 := fun x y H Q => ∃ d e, Den K H x d ∧ Den K H y e ∧ SeqAt.shaped d = true ∧ SeqAt.shaped e = true ∧ Q (.bl (!PyData.eqv d e)) H
theorem op_eqD (hu : X.A.units + 64 < cLine) : OpR X (compareOp .Eq) (rEqD X.K) := by
  intro pins s σ H x y v u Q I rx ry h
  obtain ⟨d, e, hd, he, s1, s2, q⟩ := h
  obtain ⟨as, ra⟩ := hd.reads I rx
  obtain ⟨bs, rb⟩ := he.reads I ry
  exact eq_dataH ra rb s1 s2 hu ⟨.bl _, H, I, rfl, q⟩
theorem op_neD (hu : X.A.units + 64 < cLine) : OpR X (compareOp .NotEq) (rNeD X.K) := by
  intro pins s σ H x y v u Q I rx ry h
  obtain ⟨d, e, hd, he, s1, s2, q⟩ := h
  obtain ⟨as, ra⟩ := hd.reads I rx
  obtain ⟨bs, rb⟩ := he.reads I ry
  exact ne_dataH ra rb s1 s2 hu ⟨.bl _, H, I, rfl, q⟩
noncomputable def rSlS : V → Option Int → Option Int → Hp → VK → Prop := fun x lo hi H Q => ∃ z, x = .str z ∧ z.length ≤ sizeLine ∧ Q (.str (Txt.slice z lo hi)) H
theorem sl_str : SlR X rSlS := by
  intro pins s σ H x v vl vu lo hi sl Q I rx hs pl pu h
  obtain ⟨z, rfl, hz, q⟩ := h
  obtain ⟨t, rfl⟩ := rx
  refine ⟨"str", _, F.slot_str_getitem.lookup, typeIs_str _ _ _, ?_⟩
  have fin : ∀ t' k, EP X pins σ Q (.str (Txt.slice z lo hi) t') { s with toks := k } := fun t' k => ⟨.str _, H, I.tok k, ⟨t', rfl⟩, q⟩
  have hle := Nat.le_trans (Txt.slice_le z lo hi) hz
  cases pl with
  | none =>
    cases pu with
    | none => exact wpAny_getItem_str_slice (l := none) (u := none) (st := none) hs rfl (post_val_or_str ⟨hle, fin⟩)
    | int j tj => exact wpAny_getItem_str_slice (l := none) (u := some (j, tj)) (st := none) hs rfl (post_val_or_str ⟨hle, fin⟩)
  | int i ti =>
    cases pu with
    | none => exact wpAny_getItem_str_slice (l := some (i, ti)) (u := none) (st := none) hs rfl (post_val_or_str ⟨hle, fin⟩)
    | int j tj => exact wpAny_getItem_str_slice (l := some (i, ti)) (u := some (j, tj)) (st := none) hs rfl (post_val_or_str ⟨hle, fin⟩)
theorem call_isi (c : V) (cu : Value) (rc : RelV c cu) (huniq : ∀ u, RelV c u → u = cu) : CallR X (.builtin "isinstance") (fun xs H Q => ∃ x t b, xs = [x, c] ∧ TyOf X.K H x t ∧ PySem.W.kitOne X.K t cu = some b ∧ Q (.bl b) H) := by
  intro pins s σ H xs us Q I r h
  obtain ⟨x, t, b, rfl, ty, e, q⟩ := h
  obtain ⟨u, w', rfl, ru, rw'⟩ := r.two
  obtain rfl := huniq w' rw'
  exact isinst_ok I ru ty e fun tk => ⟨.bl b, H, I.tok tk, rfl, q⟩
end
end L2
namespace L2
open PySem PySem.Spec PyProof.Rows
noncomputable def Its (x : Str) : It := ⟨fun i _ => i < x.cps.size, fun i H v H' => H' = H ∧ ∃ c, x.cps[i]? = some c ∧ v = .str ⟨#[c]⟩, fun i _ => x.cps.size ≤ i⟩
theorem turn_str {P : Program} {w : World} {K : PySem.W.Frag} {tg : Expr} (it : Addr) (x : Str) (t : Tok) {ty : String} (hty : ty = "str_ascii_iterator" ∨ ty = "str_iterator") : Turn P w K tg (Its x) [it] it (fun i h => i ≤ x.cps.size ∧ h.IsStrIter it ty x t i) where
  mem := by simp
  obj := fun i h st b hb => by
    have e : b = it := by simpa using hb
    subst e
    obtain ⟨_, o, e, c, d⟩ := st
    exact ⟨o, e, fun v z => by rw [d] at z; cases z⟩
  keep := fun i h h' st k => ⟨st.1, let ⟨o, ho, r⟩ := st.2; ⟨o, k it (by simp) o ho, r⟩⟩
  item := by
    intro X hP hw hK hc i pins s σ H E I hf st hg
    subst hP hw hK
    obtain ⟨f0, f1, f2, f3, f4, f5⟩ := hf it (by simp)
    have go : ∀ {W : Walks X.prog X.w X.A it [it] [it] x.cps.size (SignAt x) (fun i h => h.IsStrIter it ty x t i)}, wpAny (model X.prog X.w) X.A (pyNext (.ref it)) (fun r s1 => ∃ u, r = some u ∧
      wpAny (model X.prog X.w) X.A (letOwnedTupleGo tg (.ref it) u) (fun _ s2 => ∃ v H', Inv X pins σ H' s2 ∧ RelV v u ∧ (Its x).yld i H v H' ∧ (i + 1 ≤ x.cps.size ∧ s2.heap.IsStrIter it ty x t (i + 1)) ∧ ∀ b ∈ [it], H' b = none) E s1) E s := fun {W} => by
      refine W.item i s _ _ hg st.2 fun v h' tk hv st' kk => ?_
      obtain ⟨c, u, ec, rfl⟩ := hv
      have I1 : Inv X pins σ H { s with heap := h', toks := tk } := I.turned (fun b o hb e => kk b o (by simpa using hb) e) f0 f1 f3 f4 f5
      obtain ⟨o, e, cc, d⟩ := id st'
      refine ⟨_, rfl, go_of (s := { s with heap := h', toks := tk }) e cc d ?_ ⟨.str ⟨#[c]⟩, H, I1, ⟨u, rfl⟩, ⟨rfl, c, ec, rfl⟩, ⟨hg, st'⟩, fun b hb => (hf b hb).1⟩⟩
      rcases hty with rfl | rfl <;> decide
    rcases hty with rfl | rfl
    · exact go (W := Walks.strAscii (I.ok.hd hc) it x t)
    · exact go (W := Walks.strWide (I.ok.hd hc) it x t)
  done := by
    intro X hP hw hK hc i pins s σ H E I hf st hg
    subst hP hw hK
    obtain ⟨f0, f1, f2, f3, f4, f5⟩ := hf it (by simp)
    obtain rfl : i = x.cps.size := Nat.le_antisymm st.1 hg
    rcases hty with rfl | rfl
    · exact (Walks.strAscii (prog := X.prog) (w := X.w) (I.ok.hd hc) it x t).done s _ _ st.2 fun h' tk kk => ⟨rfl, I.turned (fun b o hb e => kk b o (by simpa using hb) e) f0 f1 f3 f4 f5⟩
    · exact (Walks.strWide (prog := X.prog) (w := X.w) (I.ok.hd hc) it x t).done s _ _ st.2 fun h' tk kk => ⟨rfl, I.turned (fun b o hb e => kk b o (by simpa using hb) e) f0 f1 f3 f4 f5⟩
  self := fun A i s Q E st h => by
    rcases hty with rfl | rfl
    · exact wpAny_pyIter_striter_ascii st.2 h
    · exact wpAny_pyIter_striter_wide st.2 h
section
variable {X : Cx} {tg : Expr}
noncomputable def iStr (tl : TE) : TI := fun σ H R => tl σ H fun v H1 => ∃ x, v = .str x ∧ R (Its x) H1
theorem pi_str {l : Expr} {tl : TE} (hl : PE X l tl) : PI X tg l (iStr tl) := by
  intro pins s σ H R I h
  refine thn (hl pins s σ H _ I h) fun v s1 ⟨y, H1, I1, r1, q1⟩ => ?_
  obtain ⟨x, e, q⟩ := q1
  subst e
  obtain ⟨t, rfl⟩ := r1
  have fin : ∀ (o : Obj) (ty : String), (ty = "str_ascii_iterator" ∨ ty = "str_iterator") → (s1.heap.push o).IsStrIter s1.heap.objs.size ty x t 0 → PIE X pins σ tg R (.ref s1.heap.objs.size) { s1 with heap := s1.heap.push o } := fun o ty hty hit => by
    refine ⟨s1.heap.objs.size, [s1.heap.objs.size], _, _, H1, rfl, I1.kept (t' := s1.toks) fun b o e => Heap.get?_push_of_some _ e, turn_str _ x t hty, ⟨Nat.zero_le _, hit⟩, fun b hb => ?_, q⟩
    have e : b = s1.heap.objs.size := by simpa using hb
    subst e
    exact I1.fpOk (Nat.le_refl _) (I1.hok.fresh (Nat.le_refl _))
  (cases ha : x.cps.all (· < 128))
  · exact wpAny_pyIter_wide ha (fin _ _ (.inr rfl) ⟨_, Heap.get?_push_size _ rfl, rfl, rfl⟩)
  · exact wpAny_pyIter_ascii ha (fin _ _ (.inl rfl) ⟨_, Heap.get?_push_size _ rfl, rfl, rfl⟩)
end
end L2
namespace L2
open PySem PySem.Spec PyProof.Rows
structure FnAt (P : Program) (w : World) (K : PySem.W.Frag) (mg : Str → Option Value) (base : Heap) (x : Str) (k : Nat) (ps : List Str) (sp : Sp) : Prop where
  ex : ∃ (f : Addr) (fd : FuncData), FnOk P w K mg base CX0 k f fd ps sp ∧ mg x = some (.ref f) ∧ PySem.W.keepIn K (.ref f) = true ∧ Binds K fd ps []
section
variable {X : Cx} {x m : Str} {j n : Nat} {ps : List Str} {sp : Sp} {C : Addr} {e o : Expr} {es : List Expr} {ta : TE} {t : TA} {p pos apos : Pos}
theorem pe_fn (G : FnAt X.prog X.w X.K X.mg X.base x j ps sp) (hr : Room n X.A) (ha : PA X (e :: es) t) (hj : j ≤ n := by decide) (hg : Gl X x := by rfl) (hdb : (x == ("__debug__" : Str)) = false := by decide)
    (he : starEach (e :: es) X.env = (false, eval e X.env) :: starEach es X.env := by rfl) (hpl : (backTo pos (starEach es X.env)).any (·.1) = false := by rfl) : PE X (.Call (.Name x p) (e :: es) [] pos) (tCall sp [] E0 t) := by
  obtain ⟨f, fd, F, hm, hk, hb⟩ := G.ex
  exact pe_call F (hr.mono hj) hg hm hk hb .nil pass0 ha hdb he hpl
end
theorem capsOf_cons (j : Nat) (js : List Nat) (σ : St) : capsOf (j :: js) σ = (σ[j]?).join :: capsOf js σ := rfl
theorem DenL.length {K : PySem.W.Frag} {H : Hp} : ∀ {vs : List V} {ds : List PyData}, DenL K H vs ds → vs.length = ds.length
  | _, _, .nil => rfl
  | _, _, .cons _ r => by rw [List.length_cons, List.length_cons, DenL.length r]
theorem DenL.get {K : PySem.W.Frag} {H : Hp} : ∀ {vs : List V} {ds : List PyData} {i : Nat} {d : PyData}, DenL K H vs ds → ds[i]? = some d → ∃ v, vs[i]? = some v ∧ Den K H v d
  | _, _, _, _, .nil, e => by simp at e
  | _, _, 0, _, .cons h _, e => by simp at e; subst e; exact ⟨_, rfl, h⟩
  | _, _, i + 1, d, .cons _ r, e => by
    obtain ⟨v, h1, h2⟩ := DenL.get (i := i) (d := d) r (by simpa using e)
    exact ⟨v, by simpa using h1, h2⟩
theorem DenL.append {K : PySem.W.Frag} {H : Hp} : ∀ {vs ws : List V} {ds es : List PyData}, DenL K H vs ds → DenL K H ws es → DenL K H (vs ++ ws) (ds ++ es)
  | _, _, _, _, .nil, s => s
  | _, _, _, _, .cons h r, s => .cons h (DenL.append r s)
theorem DenL.strs {K : PySem.W.Frag} {H : Hp} : ∀ ts : List Str, DenL K H (ts.map V.str) (ts.map PyData.str)
  | [] => .nil
  | x :: ts => .cons (.str x) (DenL.strs ts)
end L2
namespace L2
open PySem PySem.Spec PyProof.Rows
theorem b_isinstance : bootBuiltins "isinstance" = some (.builtin "isinstance") := by decide +kernel
theorem b_int : bootBuiltins "int" = some (.type "int") := by decide +kernel
theorem b_bool : bootBuiltins "bool" = some (.type "bool") := by decide +kernel
theorem b_list : bootBuiltins "list" = some (.type "list") := by decide +kernel
end L2
namespace L2
open PySem PySem.Spec PyProof.Rows
noncomputable def slotOk (sc : Scope) (N : List Str) (i : Nat) (x : Str) (b : Bool) : Bool := N[i]? == some x && sc.names.lookup x == some (if b then .cell else .local) && !(x == ("__debug__" : Str)) && !(x == ("__classdict__" : Str))
noncomputable def freeOk (sc : Scope) (N : List Str) (i : Nat) (x : Str) : Bool := N[i]? == some x && (sc.names.lookup x == some .cell || sc.names.lookup x == some .free) && !(x == ("__debug__" : Str)) && !(x == ("__classdict__" : Str))
noncomputable def glOk (sc : Scope) (x : Str) : Bool := sc.names.lookup x == some .globalImplicit && !(x == ("__debug__" : Str)) && !(x == ("__name__" : Str))
noncomputable def relabelS (scope osc : Scope) : Scope :=
  { scope with names := scope.names.map fun (n, k) => if (k == .free && osc.kind == .function && osc.names.lookup n == some .cell) then (n, .cell) else (n, k) }
section
variable {X : Cx} {sc : Scope} {N : List Str} {i : Nat} {x : Str} {b : Bool} {pos : Pos}
theorem slotOk.at (h : slotOk sc N i x b = true) : N[i]? = some x ∧ sc.names.lookup x = some (if b then .cell else .local) ∧ (x == ("__debug__" : Str)) = false ∧ (x == ("__classdict__" : Str)) = false := by
  unfold slotOk at h
  (simp only [Bool.and_eq_true, Bool.not_eq_true'] at h)
  exact ⟨eq_of_beq h.1.1.1, eq_of_beq h.1.1.2, h.1.2, h.2⟩
theorem slotOk.loc (h : slotOk sc N i x b = true) : Loc sc x := by
  have q := (slotOk.at h).2.1
  cases b
  · exact .inl q
  · exact .inr q
theorem pvs (h : slotOk sc N i x b = true) (e1 : X.env.scope = sc := by rfl) (e2 : X.N = N := by rfl) : PE X (.Name x pos) (tVar i) := by
  obtain ⟨h1, h2, h3, h4⟩ := slotOk.at h
  have l := slotOk.loc h
  subst e1 e2
  refine pe_var h1 ?_ h3 h4
  rcases l with l | l
  · exact .inl l
  · exact .inr (.inl l)
theorem pvf (h : freeOk sc N i x = true) (e1 : X.env.scope = sc := by rfl) (e2 : X.N = N := by rfl) : PE X (.Name x pos) (tVar i) := by
  unfold freeOk at h
  simp only [Bool.and_eq_true, Bool.not_eq_true', Bool.or_eq_true] at h
  subst e1 e2
  refine pe_var (eq_of_beq h.1.1.1) ?_ h.1.2 h.2
  rcases h.1.1.2 with l | l
  · exact .inr (.inl (eq_of_beq l))
  · exact .inr (.inr (eq_of_beq l))
theorem glk (h : glOk sc x = true) (e1 : X.env.scope = sc := by rfl) : Gl X x := by
  unfold glOk at h
  (simp only [Bool.and_eq_true] at h)
  subst e1
  exact eq_of_beq h.1.1
theorem dbk (h : glOk sc x = true) : (x == ("__debug__" : Str)) = false := by
  unfold glOk at h
  (simp only [Bool.and_eq_true, Bool.not_eq_true'] at h)
  exact h.1.2
theorem nmk (h : glOk sc x = true) : x ≠ "__name__" := by
  unfold glOk at h
  (simp only [Bool.and_eq_true, Bool.not_eq_true'] at h)
  intro e
  have := h.2
  rw [e, beq_self_eq_true] at this
  cases this
theorem pg_names (h : slotOk sc N i x b = true) (nd : N.Nodup) (e1 : X.env.scope = sc := by rfl) (e2 : X.N = N := by rfl) (hf : X.fn x = true ∨ b = false := by first | exact .inl rfl | exact .inr rfl) : PG X (.Name x pos) (gName i) := by
  obtain ⟨h1, h2, h3, h4⟩ := slotOk.at h
  have l := slotOk.loc h
  subst e1 e2
  refine pg_name nd h1 l ?_
  rcases hf with q | q
  · exact .inl q
  · subst q
    exact .inr h2
noncomputable def swapOk (osc scope : Scope) (x : Str) : Bool := osc.kind == .function && osc.names.lookup x == some .local && !(scope.names.any fun (n, k) => n == x && (k == .local || k == .cell))
theorem swaps_true {elt : Expr} {gens : List Comprehension} {scope osc : Scope} {pos' : Pos} {line : Nat} {env : Env} (h : swapOk osc scope x = true) (hl : (pos'.line == pos.line) = true) (e : env.scope = osc) :
    swapsWith (.ListComp elt gens scope pos) (some (.Name x pos')) line env = pure true := by
  subst e
  unfold swapOk at h
  (simp only [Bool.and_eq_true, Bool.not_eq_true'] at h)
  obtain ⟨⟨h1, h2⟩, h3⟩ := h
  show (pure (env.blockKind == .function && env.kindOf x == some .local && pos'.line == pos.line && !(scope.names.any fun (n, k) => n == x && (k == .local || k == .cell))) : Sem Bool) = pure true
  have hb : (env.blockKind == ScopeKind.function) = true := by
    unfold Env.blockKind
    rw [eq_of_beq h1]
    rfl
  have hk : (env.kindOf x == some NameKind.local) = true := h2
  rw [hb, hk, hl, h3]
  rfl
theorem ps_setcs {elt tg iter : Expr} {ifs : List Expr} {scope : Scope} {spos pos' : Pos} {k : Nat} {js : List Nat} {N' : List Str} {wi : TI} {g : TG} {tif : TT} {te : TE}
    (h : slotOk sc N i x false = true) (nd : N.Nodup) (hw : swapOk sc scope x = true)
    (hc : X.calm = true) (S : CompScope X k js N' scope) (hit : PI X tg iter wi)
    (hin : ∀ (cl : List (Str × Addr)) (C : Addr) (s₀ : Shared) (H₀ : Hp) (ex : List Addr), PG (cxC X N' scope cl C s₀ H₀ ex) tg g ∧ PIf (cxC X N' scope cl C s₀ H₀ ex) ifs tif ∧ PE (cxC X N' scope cl C s₀ H₀ ex) elt te)
    (hl : (pos'.line == pos.line) = true := by rfl) (e1 : X.env.scope = sc := by rfl) (e2 : X.N = N := by rfl)
    (hs : ∀ x, foldedSetIterable iter X.env x = pure x := by intro _; rfl) : PS X (.Assign [.Name x pos'] (.ListComp elt [⟨tg, iter, ifs, 0⟩] scope pos) spos) (tAsg (tComp k js wi g tif te) (gName i)) := by
  obtain ⟨h1, h2, h3, h4⟩ := slotOk.at h
  have l := slotOk.loc h
  have w := fun (e : X.env.scope = sc) => swaps_true (elt := elt) (gens := [⟨tg, iter, ifs, 0⟩]) (pos := pos) (line := spos.line) hw hl e
  have w1 := w e1
  subst e1 e2
  exact ps_setc nd h1 l hc S hit hin w1 (.inr h2) hs
end
end L2
namespace L2
open PySem
section
variable {A : Around} {M : Model} {s : Shared} {E : Value → Shared → Prop}
end
section
variable {prog : Program} {w : World} {A : Around} {E : Value → Shared → Prop} {s : Shared}
end
end L2
namespace L2
open PySem PySem.Spec
section
variable {X : Cx} {pins : List (Addr × Obj)} {σ : St} {H : Hp} {s : Shared} {h' : Heap}
theorem Inv.turnedL {t' : Nat} {fp : List Addr} (I : Inv X pins σ H s) (k : ∀ b o, b ∉ fp → s.heap.get? b = some o → h'.get? b = some o) (hf : ∀ b ∈ fp, FpOk X pins H b) : Inv X pins σ H { s with heap := h', toks := t' } := by
  have nf : ∀ b u, H b = some u → b ∉ fp := fun b u e z => by rw [(hf b z).1] at e; cases e
  have hL : X.env.locals ∉ fp := fun z => (hf _ z).2.1 rfl
  refine I.step (g' := s.gens) (d' := s.drawn) (ch := fp) (fun b hb => ?_) (fun b o _ _ hc e _ => k b o hc e) (fun b o _ _ hc e _ => ⟨o.slots, k b o hc e⟩) (fun _ _ _ _ n => n) (fun b o hc e => ⟨o, k b o hc e⟩)
    (fun _ _ e => e) (fun _ _ _ e => e) (fun b ps e => ⟨#[], by rw [e]; simp⟩) (fun m hm => ?_) (fun b u e => ?_) I.bare
  · obtain ⟨f0, f1, f2, f3, f4, f5⟩ := hf b hb
    exact ⟨f3, f1, f4, f5⟩
  · obtain ⟨o, es, ep, ho, r⟩ := hm
    exact ⟨o, es, ep, k _ o hL ho, r⟩
  · refine (I.hok b u e).stay (fun c v hc q => k c v ?_ q) (fun _ q => q) fun _ _ q => q
    exact hc.elim (fun z => by rw [z]; exact nf b u e) fun z => nf c _ z
theorem get_push_lt {h : Heap} {o o' : Obj} {b : Addr} (hb : b < h.objs.size) (e : (h.push o).get? b = some o') : h.get? b = some o' := by
  (obtain ⟨e1, e2⟩ := Heap.get?_some_iff.mp e)
  refine Heap.get?_some_iff.mpr ⟨?_, e2⟩
  cases h
  simpa [Heap.push, Array.getElem?_push, Nat.ne_of_lt hb] using e1
theorem Inv.laidT {t' : Nat} {fp : List Addr} {xs : List V} {us : List Value} (I : Inv X pins σ H s) (r : Vals xs us) (hz : xs.length ≤ sizeLine) (ht : h'.get? s.heap.objs.size = some { cls := .type "tuple", data := .seq us.toArray })
    (k : ∀ b o, b ∉ fp → s.heap.get? b = some o → h'.get? b = some o) (hf : ∀ b ∈ fp, FpOk X pins H b) (hlt : ∀ b ∈ fp, b < s.heap.objs.size) : Inv X pins σ (upd H s.heap.objs.size (.tup xs)) { s with heap := h', toks := t' } := by
  have I1 : Inv X pins σ (upd H s.heap.objs.size (.tup xs)) { s with heap := s.heap.push { cls := .type "tuple", data := .seq us.toArray }, toks := t' } :=
    I.laid (fun b u e => Heap.get?_push_of_some _ e) (Nat.le_refl _) ⟨hz, us, r, ⟨_, Heap.get?_push_size _ rfl, rfl, _, rfl⟩⟩
  refine (fun (go : ∀ b o, b ∉ fp → (s.heap.push { cls := .type "tuple", data := .seq us.toArray }).get? b = some o → h'.get? b = some o) => ?_) fun b o hb e => ?_
  · exact Inv.turnedL (s := { s with heap := s.heap.push { cls := .type "tuple", data := .seq us.toArray }, toks := t' }) (fp := fp) (t' := t') (h' := h') I1 go fun b hb => ⟨by rw [upd_ne (Nat.ne_of_lt (hlt b hb))]; exact (hf b hb).1, (hf b hb).2⟩
  · by_cases hq : b = s.heap.objs.size
    · subst hq
      rw [Heap.get?_push_size _ rfl] at e
      rw [← e]
      exact ht
    · have : b < s.heap.objs.size := by
        have := Heap.lt_size e
        rw [Heap.size_push] at this
        exact Nat.lt_of_le_of_ne (Nat.le_of_lt_succ this) hq
      exact k b o hb (get_push_lt this e)
end
section
variable {X : Cx} {es : List Expr} {k1 : Nat} {l ke : Expr} {t : TA} {p pos q kp : Pos} {c : Int}
end
end L2
namespace L2
open PySem PySem.Spec
noncomputable def Itz (K : PySem.W.Frag) (a b : Addr) : It where
  go i H := ∃ xs ys x y, SqL K H a xs ∧ SqL K H b ys ∧ xs[i]? = some x ∧ ys[i]? = some y
  yld i H x H' := ∃ A u v, x = .ref A ∧ H A = none ∧ H' = upd H A (.tup [u, v]) ∧ (∀ xs, SqL K H a xs → xs[i]? = some u) ∧ ∀ ys, SqL K H b ys → ys[i]? = some v
  stop i H := ∃ xs ys, SqL K H a xs ∧ SqL K H b ys ∧ (xs.length ≤ i ∨ ys.length ≤ i)
theorem mem5 {P : Addr → Prop} {z t u v w : Addr} (h1 : P z) (h2 : P t) (h3 : P u) (h4 : P v) (h5 : P w) : ∀ b ∈ [z, t, u, v, w], P b := fun b hb => by
  (simp only [List.mem_cons, List.not_mem_nil, or_false] at hb)
  rcases hb with rfl | rfl | rfl | rfl | rfl <;> assumption
theorem turn_zip {P : Program} {w : World} {K : PySem.W.Frag} {es : List Expr} {k1 : Nat} {pos : Pos} (a b z TI TO i1 i2 : Addr) (ap : ZipApart z TI TO i1 i2 a b) : Turn P w K (.Tuple es k1 pos) (Itz K a b) [z, TI, TO, i1, i2] z
    (fun i h => IsZip h z TI TO .none ∧ IsPair h TI (.ref i1) (.ref i2) ∧ (∃ u v, IsPair h TO u v) ∧ h.IsListIter i1 a i ∧ h.IsListIter i2 b i) where
  mem := by simp
  obj := fun i h st => by
    obtain ⟨hz, hI, ⟨u, v, hO⟩, ⟨o1, e1, c1, d1⟩, ⟨o2, e2, c2, d2⟩⟩ := st
    refine mem5 (P := fun b => ∃ o, h.get? b = some o ∧ ∀ v, o.data ≠ .cell v) ⟨_, hz, fun v q => ?_⟩ ⟨_, hI, fun v q => ?_⟩ ⟨_, hO, fun v q => ?_⟩ ⟨o1, e1, fun v q => by rw [d1] at q; cases q⟩ ⟨o2, e2, fun v q => by rw [d2] at q; cases q⟩
    · have q' : Data.fields _ = Data.cell v := q
      cases q'
    · have q' : Data.seq _ _ = Data.cell v := q
      cases q'
    · have q' : Data.seq _ _ = Data.cell _ := q
      cases q'
  keep := fun i h h' st k => ⟨k z (by simp) _ st.1, k TI (by simp) _ st.2.1, st.2.2.1.imp fun u hu => hu.imp fun v hv => k TO (by simp) _ hv, st.2.2.2.1.at fun o y => k i1 (by simp) o y, st.2.2.2.2.at fun o y => k i2 (by simp) o y⟩
  item := by
    intro X hP hw hK hc i pins s σ H E I hf st hg
    subst hP hw hK
    obtain ⟨xs, ys, x, y, hqx, hqy, hx, hy⟩ := hg
    obtain ⟨its, rv, p, _⟩ := I.list hqx
    obtain ⟨jts, rw', p', _⟩ := I.list hqy
    obtain ⟨u, hu, ru⟩ := rv.get hx
    obtain ⟨v, hv, rv'⟩ := rw'.get hy
    obtain ⟨hz, hI, ⟨u0, v0, hO⟩, hi1, hi2⟩ := st
    have lt : ∀ b ∈ [z, TI, TO, i1, i2], b < s.heap.objs.size := mem5 (P := fun b => b < s.heap.objs.size) (Heap.lt_size hz) (Heap.lt_size hI) (Heap.lt_size hO) (by obtain ⟨_, q, _⟩ := hi1; exact Heap.lt_size q) (by obtain ⟨_, q, _⟩ := hi2; exact Heap.lt_size q)
    refine wpAny_pyNext_zip_item ap hz hI hO hi1 hi2 p.isList p'.isList (x := u) (y := v) (by simpa using hu) (by simpa using hv) fun h' ho hO' hi1' hi2' hT _ hk => ⟨_, rfl, ?_⟩
    refine wpAny_letOwnedTupleGo_zip ho fun h2 hz2 hs2 => ?_
    have up : ∀ b o, b ≠ z → h'.get? b = some o → h2.get? b = some o := fun b o n q => hs2.extBut b o n q
    have zlt := lt z (by simp)
    have I2 := I.laidT (fp := [z, TI, TO, i1, i2]) (h' := h2) (t' := s.toks) (xs := [x, y]) (us := [u, v]) (.cons ru (.cons rv' .nil)) (by simp [sizeLine])
      (up _ _ (Nat.ne_of_gt zlt) hT) (fun b o hb q => up b o (fun e => hb (by simp [e])) (hk b o (fun e => hb (by simp [e])) (fun e => hb (by simp [e])) (fun e => hb (by simp [e])) (fun e => hb (by simp [e])) q)) hf lt
    have hI' : IsPair h' TI (.ref i1) (.ref i2) := hk TI _ ap.TIz ap.TITO ap.TIi1 ap.TIi2 hI
    refine ⟨.ref s.heap.objs.size, _, I2, rfl, ⟨_, x, y, rfl, I.hok.fresh (Nat.le_refl _), rfl, fun zs q => by rw [I.list_inj q hqx]; exact hx, fun zs q => by rw [I.list_inj q hqy]; exact hy⟩,
      ⟨hz2, up _ _ ap.TIz hI', ⟨u, v, up _ _ ap.TOz hO'⟩, hi1'.at fun o q => up i1 o ap.i1z q, hi2'.at fun o q => up i2 o ap.i2z q⟩, fun b hb => ?_⟩
    rw [upd_ne (Nat.ne_of_lt (lt b hb))]
    exact (hf b hb).1
  done := by
    intro X hP hw hK hc i pins s σ H E I hf st hg
    subst hP hw hK
    obtain ⟨xs, ys, hqx, hqy, hend⟩ := hg
    obtain ⟨its, rv, p, _⟩ := I.list hqx
    obtain ⟨jts, rw', p', _⟩ := I.list hqy
    obtain ⟨hz, hI, ⟨u0, v0, hO⟩, hi1, hi2⟩ := st
    have l1 := rv.length
    have l2 := rw'.length
    refine wpAny_pyNext_zip_end (I.ok.hd hc) ap hz hI hO hi1 hi2 p.isList p'.isList ?_ fun h' hk => ⟨rfl, I.turnedL (t' := s.toks) (fun b o hb q => hk b o (fun e => hb (by simp [e])) (fun e => hb (by simp [e])) (fun e => hb (by simp [e])) (fun e => hb (by simp [e])) q) hf⟩
    rcases hend with h | h
    · exact .inl (by simp; omega)
    · exact .inr (by simp; omega)
  self := fun _ _ _ _ _ st h => wpAny_pyIter_zip st.1 h
section
variable {X : Cx} {es : List Expr} {k1 : Nat} {l r : Expr} {t : TA} {p pos q : Pos}
noncomputable def iZip (K : PySem.W.Frag) (t : TA) : TI := fun σ H R => t σ H fun vs H1 => ∃ a b, vs = [.ref a, .ref b] ∧ (∃ xs, SqL K H1 a xs) ∧ (∃ ys, SqL K H1 b ys) ∧ R (Itz K a b) H1
theorem pi_zip (hg : Gl X "zip") (hm : X.mg "zip" = none) (ha : PA X [l, r] t) (hs : starEach [l, r] X.env = [(false, eval l X.env), (false, eval r X.env)] := by rfl) (hs2 : starEach [r] X.env = [(false, eval r X.env)] := by rfl) : PI X (.Tuple es k1 q) (.Call (.Name "zip" p) [l, r] [] pos) (iZip X.K t) := by
  intro pins s σ H R I h
  refine PyProof.Rows.Call_ (ld_blt I hg hm PyProof.Rows.boot_zip (PyProof.Rows.callWith_type1 (thn (ha pos pins s σ H _ I h) fun us s1 ⟨vs, H1, I1, r1, q1⟩ => ?_) (by rw [hs, hs2]) (by rw [hs2]; rfl)))
  obtain ⟨a, b, e, ⟨xs, hq⟩, ⟨ys, hq'⟩, y⟩ := q1
  subst e
  cases r1 with
  | cons u uu =>
    cases uu with
    | cons u' uu =>
      cases uu
      cases u
      cases u'
      obtain ⟨its, rv, pl, _⟩ := I1.list hq
      obtain ⟨jts, rw', pl', _⟩ := I1.list hq'
      have la : @LT.lt Nat _ a s1.heap.objs.size := by obtain ⟨o, n, e, _⟩ := pl; exact Heap.lt_size e
      have lb : @LT.lt Nat _ b s1.heap.objs.size := by obtain ⟨o, n, e, _⟩ := pl'; exact Heap.lt_size e
      refine call_zip_2 pl.isList pl'.isList fun h' hz hI hO hi1 hi2 _ hk => wpAny_pyIter_zip hz ?_
      generalize hn : s1.heap.objs.size = n at *
      have ap : ZipApart (n + 4) (n + 2) (n + 3) n (n + 1) a b := by
        have c1 : @LT.lt Nat _ a n := la
        have c2 : @LT.lt Nat _ b n := lb
        constructor <;> (first | exact Nat.ne_of_lt (by omega) | exact Nat.ne_of_gt (by omega))
      refine ⟨_, [n + 4, n + 2, n + 3, n, n + 1], _, _, H1, rfl, I1.kept (t' := s1.toks) hk, turn_zip a b _ _ _ _ _ ap, ⟨hz, hI, ⟨_, _, hO⟩, hi1, hi2⟩, ?_, y⟩
      refine mem5 (P := fun b => FpOk X pins H1 b) ?_ ?_ ?_ ?_ ?_ <;> exact I1.fpOk (by rw [hn]; omega) (I1.hok.fresh (by rw [hn]; omega))
end
end L2
namespace T
open PySem L2
inductive Kd where
  | lst | frl | tup | ftp | dic (ks : List Key) | ins (C : Addr) (fs : List Str)
  deriving DecidableEq
inductive D where
  | sc (v : V) | hole | node (k : Kd) (o : Bool) (ds : List D)
mutual
noncomputable def shr : D → D
  | .sc v => .sc v
  | .hole => .hole
  | .node k _ ds => .node k false (shrL ds)
noncomputable def shrL : List D → List D
  | [] => []
  | d :: ds => shr d :: shrL ds
end
noncomputable def NodeR (K : PySem.W.Frag) (H : Hp) (a : Addr) (vs : List V) : Kd → Prop
  | .lst => H a = some (.lst vs)
  | .frl => SqL K H a vs
  | .tup => H a = some (.tup vs)
  | .ftp => SqT K H a vs
  | .dic ks => ks.length = vs.length ∧ H a = some (.dK (ks.zip vs))
  | .ins C fs => fs.length = vs.length ∧ ∃ dx, H a = some (.ins C dx (fs.zip vs))
noncomputable def NodeO (H : Hp) (a : Addr) (vs : List V) : Kd → Prop
  | .lst => H a = some (.lst vs)
  | .frl => False
  | .tup => H a = some (.tup vs)
  | .ftp => False
  | .dic ks => ks.length = vs.length ∧ H a = some (.dK (ks.zip vs))
  | .ins C fs => fs.length = vs.length ∧ ∃ dx, H a = some (.ins C dx (fs.zip vs))
theorem NodeO.r {K : PySem.W.Frag} {H : Hp} {a : Addr} {vs : List V} {k : Kd} (h : NodeO H a vs k) : NodeR K H a vs k := by
  cases k with
  | lst => exact h
  | frl => exact h.elim
  | tup => exact h
  | ftp => exact h.elim
  | dic ks => exact h
  | ins C fs => exact h
theorem NodeO.at {H : Hp} {a : Addr} {vs : List V} {k : Kd} (h : NodeO H a vs k) : H a ≠ none := by
  cases k with
  | lst => rw [show H a = _ from h]; simp
  | frl => exact h.elim
  | tup => rw [show H a = _ from h]; simp
  | ftp => exact h.elim
  | dic ks => rw [h.2]; simp
  | ins C fs => obtain ⟨_, dx, e⟩ := h; rw [e]; simp
theorem NodeO.eq {H H' : Hp} {a : Addr} {vs : List V} {k : Kd} (h : NodeO H a vs k) (e : H' a = H a) : NodeO H' a vs k := by
  cases k with
  | lst => exact e.trans h
  | frl => exact h.elim
  | tup => exact e.trans h
  | ftp => exact h.elim
  | dic ks => exact ⟨h.1, e.trans h.2⟩
  | ins C fs => obtain ⟨l, dx, q⟩ := h; exact ⟨l, dx, e.trans q⟩
theorem Same.tupq' {K : PySem.W.Frag} {H H' : Hp} {a : Addr} {xs : List V} (e : Same H H') (h : SqT K H a xs) : SqT K H' a xs := by
  rcases h with (h | ⟨o, h⟩) | h
  · exact .inl (.inl (e _ _ h))
  · exact .inl (.inr ⟨o, e _ _ h⟩)
  · exact .inr h
theorem NodeR.same {K : PySem.W.Frag} {H H' : Hp} {a : Addr} {vs : List V} {k : Kd} (e : Same H H') (h : NodeR K H a vs k) : NodeR K H' a vs k := by
  cases k with
  | lst => exact e _ _ h
  | frl => exact e.seq h
  | tup => exact e _ _ h
  | ftp => exact Same.tupq' e h
  | dic ks => exact ⟨h.1, e _ _ h.2⟩
  | ins C fs => obtain ⟨l, dx, q⟩ := h; exact ⟨l, dx, e _ _ q⟩
noncomputable abbrev Bud := Addr → Nat
noncomputable def one (a : Addr) : Bud := fun b => if b = a then 1 else 0
mutual
inductive Rep (K : PySem.W.Frag) (H Hs : Hp) : V → D → Bud → Prop
  | sc (v : V) (m : Bud) : Rep K H Hs v (.sc v) m
  | hole (v : V) (m : Bud) : Rep K H Hs v .hole m
  | own {a : Addr} {k : Kd} {vs : List V} {ds : List D} {m m' : Bud} : NodeO H a vs k → RepL K H Hs vs ds m' → (∀ b, one a b + m' b ≤ m b) → Rep K H Hs (.ref a) (.node k true ds) m
  | shd {a : Addr} {k : Kd} {vs : List V} {ds : List D} {m : Bud} : NodeR K Hs a vs k → RepL K H Hs vs ds (fun _ => 0) → Rep K H Hs (.ref a) (.node k false ds) m
inductive RepL (K : PySem.W.Frag) (H Hs : Hp) : List V → List D → Bud → Prop
  | nil (m : Bud) : RepL K H Hs [] [] m
  | cons {v : V} {d : D} {vs : List V} {ds : List D} {m1 m2 m : Bud} : Rep K H Hs v d m1 → RepL K H Hs vs ds m2 → (∀ b, m1 b + m2 b ≤ m b) → RepL K H Hs (v :: vs) (d :: ds) m
end
structure Good (H Hs : Hp) (M : Bud) : Prop where
  sub : Same Hs H
  le : ∀ b, M b ≤ 1
  ne : ∀ b, M b = 1 → Hs b = none
  has : ∀ b, M b = 1 → H b ≠ none
structure Stp (H Hs : Hp) (M : Bud) (H' Hs' : Hp) (M' : Bud) : Prop where
  keep : ∀ b o, H b = some o → M b = 0 → H' b = some o
  own : ∀ b, M' b = 1 → M b = 1 ∨ H b = none
  grow : Same Hs Hs'
  shr : ∀ b, Hs b = none → Hs' b ≠ none → M b = 1 ∨ H b = none
  stay : ∀ b, H b ≠ none → H' b ≠ none
section
variable {K : PySem.W.Frag} {H Hs H' Hs' H1 Hs1 H2 Hs2 : Hp} {M M' M1 M2 m m1 m2 m' : Bud}
mutual
theorem Rep.mono : ∀ {v : V} {d : D} {m m' : Bud}, Rep K H Hs v d m → (∀ b, m b ≤ m' b) → Rep K H Hs v d m'
  | _, _, _, _, .sc v _, _ => .sc v _
  | _, _, _, _, .hole v _, _ => .hole v _
  | _, _, _, _, .own n r h, l => .own n r fun b => Nat.le_trans (h b) (l b)
  | _, _, _, _, .shd n r, _ => .shd n r
end
theorem RepL.mono {vs : List V} {ds : List D} {m m' : Bud} (h : RepL K H Hs vs ds m) (l : ∀ b, m b ≤ m' b) : RepL K H Hs vs ds m' := by
  cases h with
  | nil => exact .nil _
  | cons a b c => exact .cons a b fun x => Nat.le_trans (c x) (l x)
mutual
theorem Rep.frame (g : Same Hs Hs') : ∀ {v : V} {d : D} {m : Bud}, (∀ b, m b ≥ 1 → H b ≠ none → H' b = H b) → Rep K H Hs v d m → Rep K H' Hs' v d m
  | _, _, _, _, .sc v _ => .sc v _
  | _, _, _, _, .hole v _ => .hole v _
  | _, _, m, k, .own (a := a) (m' := m') n r h => by
    have h1 : m a ≥ 1 := by have := h a; simp only [one, if_pos] at this; omega
    refine .own (n.eq (k a h1 n.at)) (RepL.frame g (fun b hb hn => k b ?_ hn) r) h
    have := h b
    omega
  | _, _, _, k, .shd n r => .shd (n.same g) (RepL.frame g (fun b hb => absurd hb (by simp)) r)
theorem RepL.frame (g : Same Hs Hs') : ∀ {vs : List V} {ds : List D} {m : Bud}, (∀ b, m b ≥ 1 → H b ≠ none → H' b = H b) → RepL K H Hs vs ds m → RepL K H' Hs' vs ds m
  | _, _, _, _, .nil _ => .nil _
  | _, _, m, k, .cons (m1 := m1) (m2 := m2) x y h => by
    refine .cons (Rep.frame g (fun b hb => k b ?_) x) (RepL.frame g (fun b hb => k b ?_) y) h
    · have := h b; omega
    · have := h b; omega
end
theorem Good.drop (g : Good H Hs M) (l : ∀ b, M' b ≤ M b) : Good H Hs M' :=
  ⟨g.sub, fun b => Nat.le_trans (l b) (g.le b), fun b h => g.ne b (by have := l b; have := g.le b; omega), fun b h => g.has b (by have := l b; have := g.le b; omega)⟩
theorem Stp.drop (s : Stp H Hs M H' Hs' M1) (l : ∀ b, M2 b ≤ M1 b) (le : ∀ b, M1 b ≤ 1) : Stp H Hs M H' Hs' M2 :=
  ⟨s.keep, fun b h => s.own b (by have := l b; have := le b; omega), s.grow, s.shr, s.stay⟩
theorem Stp.refl (H Hs : Hp) (M : Bud) : Stp H Hs M H Hs M := ⟨fun _ _ h _ => h, fun _ h => .inl h, Same.refl _, fun _ h h' => absurd h h', fun _ h => h⟩
theorem step2 (g : Good H Hs M) (g1 : Good H1 Hs1 (fun b => m1 b + M1 b)) (s1 : Stp H Hs M H1 Hs1 (fun b => m1 b + M1 b)) (g2 : Good H2 Hs2 M2) (s2 : Stp H1 Hs1 M1 H2 Hs2 M2) :
    Good H2 Hs2 (fun b => m1 b + M2 b) ∧ Stp H Hs M H2 Hs2 (fun b => m1 b + M2 b) ∧ (∀ b, m1 b ≥ 1 → H1 b ≠ none → H2 b = H1 b) := by
  have d : ∀ b, m1 b = 1 → M2 b = 0 := fun b h => by
    have l1 : m1 b + M1 b ≤ 1 := g1.le b
    have l2 := g2.le b
    have : M2 b ≠ 1 := fun e => by
      rcases s2.own b e with q | q
      · omega
      · exact g1.has b (by show m1 b + M1 b = 1; omega) q
    omega
  have k1 : ∀ b, m1 b ≥ 1 → H1 b ≠ none → H2 b = H1 b := fun b h n => by
    have l1 : m1 b + M1 b ≤ 1 := g1.le b
    cases q : H1 b with
    | none => exact absurd q n
    | some o => exact s2.keep b o q (by omega)
  refine ⟨⟨g2.sub, fun b => ?_, fun b h => ?_, fun b h => ?_⟩, ⟨fun b o e z => ?_, fun b h => ?_, s1.grow.trans s2.grow, fun b n n' => ?_, fun b n => s2.stay b (s1.stay b n)⟩, k1⟩
  · have l1 : m1 b + M1 b ≤ 1 := g1.le b
    have l2 := g2.le b
    show m1 b + M2 b ≤ 1
    by_cases h : m1 b = 1
    · have := d b h; omega
    · omega
  · have h : m1 b + M2 b = 1 := h
    have l1 : m1 b + M1 b ≤ 1 := g1.le b
    by_cases h1 : m1 b = 1
    · cases q : Hs2 b with
      | none => rfl
      | some o =>
        have n1 : Hs1 b = none := g1.ne b (by show m1 b + M1 b = 1; omega)
        rcases s2.shr b n1 (by rw [q]; simp) with z | z
        · omega
        · exact absurd z (g1.has b (by show m1 b + M1 b = 1; omega))
    · exact g2.ne b (by omega)
  · have h : m1 b + M2 b = 1 := h
    have l1 : m1 b + M1 b ≤ 1 := g1.le b
    by_cases h1 : m1 b = 1
    · have n := g1.has b (by show m1 b + M1 b = 1; omega)
      rw [k1 b (by omega) n]; exact n
    · exact g2.has b (by omega)
  · have e1 := s1.keep b o e z
    have : ¬ (m1 b + M1 b = 1) := fun q => by
      rcases s1.own b q with w | w
      · omega
      · rw [e] at w; cases w
    have l1 : m1 b + M1 b ≤ 1 := g1.le b
    exact s2.keep b o e1 (by omega)
  · have h : m1 b + M2 b = 1 := h
    have l1 : m1 b + M1 b ≤ 1 := g1.le b
    by_cases h1 : m1 b = 1
    · exact s1.own b (by show m1 b + M1 b = 1; omega)
    · rcases s2.own b (by omega) with q | q
      · exact s1.own b (by show m1 b + M1 b = 1; omega)
      · cases w : H b with
        | none => exact .inr rfl
        | some o => exact absurd q (s1.stay b (by rw [w]; simp))
  · cases q : Hs1 b with
    | some o => exact s1.shr b n (by rw [q]; simp)
    | none =>
      rcases s2.shr b q n' with z | z
      · have l1 : m1 b + M1 b ≤ 1 := g1.le b
        exact s1.own b (by show m1 b + M1 b = 1; omega)
      · cases w : H b with
        | none => exact .inr rfl
        | some o => exact absurd z (s1.stay b (by rw [w]; simp))
end
end T
namespace T
open PySem L2
inductive Rs (α : Type) where
  | ok (a : α) | exc (x : D) (δ : List D) | stuck
noncomputable abbrev M (α : Type) := List D → Rs (α × List D)
noncomputable def M.ret {α : Type} (a : α) : M α := fun δ => .ok (a, δ)
noncomputable def M.bnd {α β : Type} (c : M α) (f : α → M β) : M β := fun δ => match c δ with
  | .ok (a, δ') => f a δ'
  | .exc x δ' => .exc x δ'
  | .stuck => .stuck
noncomputable def lift {α : Type} : Option α → M α
  | some a => M.ret a
  | none => fun _ => .stuck
noncomputable def stk {α : Type} : M α := fun _ => .stuck
inductive Ty where
  | int | bool | str | list | tuple | dict | own (C : Addr)
  deriving DecidableEq
inductive BF where
  | len | abs | str | int | bool | sum | min | max | list | tuple | all | any | sorted | isi (t : Ty) | dict | ord
  deriving DecidableEq
inductive BM where
  | split | join | get | index | count | find | replace | strip | startswith | endswith | isdigit | copy | lower | upper
  deriving DecidableEq
inductive MM where
  | append | extend | pop | popAt | reverse | clear | insert | update | popKey | remove
  deriving DecidableEq
inductive IK where
  | rng1 | rng2 | rng3 | val | valS | enum | zip | rev | items | values
  deriving DecidableEq
inductive Tg where
  | name (i : Nat) | tup (is : List Nat)
structure FI where
  lend : Bool
  run : List D → Rs (D × List D)
inductive E where
  | k (v : V)
  | g (d : D)
  | v (i : Nat)
  | bin (op : Operator) (a b : E)
  | neg (a : E)
  | cmp (op : CmpOp) (a b : E)
  | chain (op op' : CmpOp) (a b c : E)
  | isN (p : Bool) (a : E)
  | isB (c p : Bool) (a : E)
  | nt (a : E)
  | and (a b : E)
  | or (a b : E)
  | ife (c a b : E)
  | ix (a i : E)
  | sl (a lo hi : E)
  | fld (a : E) (f : Str)
  | lst (es : List E)
  | tup (es : List E)
  | kl (vs : List V)
  | kt (vs : List V)
  | dct0
  | call (f : FI) (es : List E)
  | bf (f : BF) (es : List E)
  | bm (m : BM) (o : E) (es : List E)
  | mut (m : MM) (i : Nat) (ps : List E) (es : List E)
  | meth (A : Addr) (m : Str) (f : FI) (o : E) (es : List E)
  | new (A : Addr) (f : FI) (es : List E)
  | comp (k : Nat) (js : List Nat) (tg : Tg) (ik : IK) (ies : List E) (cond : List E) (elt : E)
  | fs (es : List E)
  | callE (f : FI) (i : Nat) (ix : E) (es : List E)
inductive S where
  | asg (i : Nat) (e : E)
  | unp (is : List Nat) (e : E)
  | sub (i : Nat) (ps : List E) (ix : E) (e : E)
  | attr (i : Nat) (f : Str) (e : E)
  | ex (e : E)
  | ret (e : E)
  | retN
  | iff (c : E) (a b : List S)
  | for_ (tg : Tg) (ik : IK) (ies : List E) (body : List S)
  | while_ (c : E) (body : List S)
  | pass | brk | cnt
  | raise (e : E)
inductive Op where
  | late (i : Nat) | tmp (d : D)
inductive W where
  | sc (v : V) | nd (k : Kd) (ds : List D)
noncomputable def lateM (i : Nat) : M Op := fun δ => match δ[i]? with
  | some (.sc _) => .ok (.late i, δ)
  | some (.node _ _ _) => .ok (.late i, δ)
  | _ => .stuck
noncomputable def opdOf (e : E) (c : M D) : M Op := match e with
  | .v i => lateM i
  | _ => c.bnd fun d => M.ret (.tmp d)
noncomputable def view : Op → M W
  | .tmp (.sc v) => M.ret (.sc v)
  | .tmp (.node k _ ds) => M.ret (.nd k ds)
  | .tmp .hole => stk
  | .late i => fun δ => match δ[i]? with
    | some (.sc v) => .ok (.sc v, δ)
    | some (.node k false ds) => .ok (.nd k ds, δ)
    | some (.node k true ds) => .ok (.nd k (shrL ds), δ.set i (.node k true (shrL ds)))
    | _ => .stuck
noncomputable def views : List Op → M (List W)
  | [] => M.ret []
  | p :: ps => (view p).bnd fun w => (views ps).bnd fun ws => M.ret (w :: ws)
noncomputable def valV (i : Nat) : M D := fun δ => match δ[i]? with
  | some (.sc v) => .ok (.sc v, δ)
  | some (.node k false ds) => .ok (.node k false ds, δ)
  | some (.node k true ds) => .ok (.node k false (shrL ds), δ.set i (.node k false (shrL ds)))
  | _ => .stuck
noncomputable def newL (ds : List D) : Option D := if ds.length ≤ sizeLine then some (.node .lst true ds) else none
noncomputable def newT (ds : List D) : Option D := if ds.length ≤ sizeLine then some (.node .tup true ds) else none
noncomputable def binW : Operator → W → W → Option D
  | .Add, .sc (.int i), .sc (.int j) => some (.sc (.int (i + j)))
  | .Sub, .sc (.int i), .sc (.int j) => some (.sc (.int (i - j)))
  | .Mult, .sc (.int i), .sc (.int j) => if (-(2 ^ 64) < i ∧ i < 2 ^ 64) ∨ (-(2 ^ 64) < j ∧ j < 2 ^ 64) then some (.sc (.int (i * j))) else none
  | .FloorDiv, .sc (.int i), .sc (.int j) => if 0 < j ∧ j < 1073741824 then some (.sc (.int (i / j))) else none
  | .Mod, .sc (.int i), .sc (.int j) => if 0 < j then some (.sc (.int (i % j))) else none
  | .Pow, .sc (.int i), .sc (.int j) => if 0 ≤ j ∧ j ≤ 1000000 ∧ i.natAbs < 2 ^ 64 then some (.sc (.int (i ^ j.toNat))) else none
  | .Add, .sc (.str x), .sc (.str y) => if x.length + y.length ≤ sizeLine then some (.sc (.str (x ++ y))) else none
  | .Add, .nd .lst xs, .nd .lst ys => newL (xs ++ ys)
  | _, _, _ => none
noncomputable def cmpI (op : CmpOp) (i j : Int) : Option Bool := match op with
  | .Lt => some (decide (i < j)) | .LtE => some (decide (i ≤ j)) | .Gt => some (decide (j < i)) | .GtE => some (decide (j ≤ i))
  | _ => none
mutual
noncomputable def py : D → Option PyData
  | .sc .non => some .none
  | .sc (.bl b) => some (.bool b)
  | .sc (.int i) => some (.int i)
  | .sc (.str x) => some (.str x)
  | .node .lst _ ds => (pyL ds).map .list
  | .node .frl _ ds => (pyL ds).map .list
  | .node .tup _ ds => (pyL ds).map .tuple
  | .node .ftp _ ds => (pyL ds).map .tuple
  | _ => none
noncomputable def pyL : List D → Option (List PyData)
  | [] => some []
  | d :: ds => (py d).bind fun a => (pyL ds).map (a :: ·)
end
noncomputable def toD : W → D
  | .sc v => .sc v
  | .nd k ds => .node k false ds
noncomputable def eqPy (a b : PyData) : Option Bool := if SeqAt.shaped a = true ∧ SeqAt.shaped b = true then some (PyData.eqv a b) else none
noncomputable def eqW : W → W → Option Bool
  | .sc u, .sc v => if scal u v = true then some (decide (u = v)) else (py (.sc u)).bind fun a => (py (.sc v)).bind fun b => eqPy a b
  | x, y => (py (toD x)).bind fun a => (py (toD y)).bind fun b => eqPy a b
noncomputable def cmpW : CmpOp → W → W → Option Bool
  | .Eq, x, y => eqW x y
  | .NotEq, x, y => (eqW x y).map (!·)
  | op, .sc (.int i), .sc (.int j) => cmpI op i j
  | _, _, _ => none
noncomputable def ixN' (n : Nat) (i : Int) : Option Nat := if 0 ≤ i then (if i < n then some i.toNat else none) else if -(n : Int) ≤ i then some (i + n).toNat else none
noncomputable def ixW : W → W → Option D
  | .nd .lst ds, .sc (.int i) => (ixN' ds.length i).bind fun j => ds[j]?
  | .nd .frl ds, .sc (.int i) => (ixN' ds.length i).bind fun j => ds[j]?
  | .nd .tup ds, .sc (.int i) => (ixN' ds.length i).bind fun j => ds[j]?
  | .nd .ftp ds, .sc (.int i) => (ixN' ds.length i).bind fun j => ds[j]?
  | .sc (.str z), .sc (.int i) => if z.length ≤ sizeLine then ((ixN' z.cps.toList.length i).bind fun j => z.cps.toList[j]?).map fun c => .sc (.str ⟨#[c]⟩) else none
  | _, _ => none
noncomputable def ixW2 (x y : W) : Option D := ixW x y
noncomputable def cmpW2 (op : CmpOp) (x y : W) : Option Bool := cmpW op x y
noncomputable def lookF (f : Str) : List Str → List D → Option D
  | g :: fs, d :: ds => if g = f then some d else lookF f fs ds
  | _, _ => none
noncomputable def fldW (ok : Addr → Str → Bool) (f : Str) : W → Option D
  | .nd (.ins C fs) ds => if ok C f then lookF f fs ds else none
  | _ => none
noncomputable def truW : W → Option Bool
  | .sc (.bl b) => some b
  | .sc (.int i) => some (decide (i ≠ 0))
  | .sc (.str x) => if x.length ≤ sizeLine then some (decide (x.length ≠ 0)) else none
  | .sc .non => some false
  | .nd .lst ds => some (!ds.isEmpty)
  | .nd .frl ds => some (!ds.isEmpty)
  | .nd .tup ds => some (!ds.isEmpty)
  | .nd .ftp ds => some (!ds.isEmpty)
  | .nd (.dic _) ds => some (!ds.isEmpty)
  | _ => none
noncomputable def tyW : Ty → W → Option Bool
  | .int, .sc (.int _) => some true | .int, .sc (.bl _) => some true | .int, .sc (.str _) => some false | .int, .sc .non => some false
  | .int, .nd .lst _ => some false | .int, .nd .tup _ => some false
  | .bool, .sc (.bl _) => some true | .bool, .sc (.int _) => some false | .bool, .sc (.str _) => some false | .bool, .sc .non => some false
  | .bool, .nd .lst _ => some false | .bool, .nd .tup _ => some false
  | .str, .sc (.str _) => some true | .str, .sc (.int _) => some false | .str, .sc (.bl _) => some false | .str, .sc .non => some false
  | .str, .nd .lst _ => some false | .str, .nd .tup _ => some false
  | .list, .nd .lst _ => some true | .list, .nd .tup _ => some false | .list, .sc (.int _) => some false | .list, .sc (.bl _) => some false | .list, .sc (.str _) => some false | .list, .sc .non => some false
  | .tuple, .nd .tup _ => some true | .tuple, .nd .lst _ => some false | .tuple, .sc (.int _) => some false | .tuple, .sc (.bl _) => some false | .tuple, .sc (.str _) => some false | .tuple, .sc .non => some false
  | _, _ => none
noncomputable def intsOf : List D → Option (List Int)
  | [] => some []
  | .sc (.int i) :: r => (intsOf r).map (i :: ·)
  | _ => none
noncomputable def boolsOf : List D → Option (List Bool)
  | [] => some []
  | .sc (.bl b) :: r => (boolsOf r).map (b :: ·)
  | _ => none
noncomputable def cutD (xs : List D) (lo hi : Option Int) : List D := (xs.drop (HT.sIx xs.length 0 lo)).take (HT.sIx xs.length xs.length hi - HT.sIx xs.length 0 lo)
noncomputable def slD : W → Option Int → Option Int → Option D
  | .nd .lst ds, lo, hi => some (.node .lst true (cutD ds lo hi))
  | .nd .frl ds, lo, hi => some (.node .lst true (cutD ds lo hi))
  | .sc (.str z), lo, hi => if z.length ≤ sizeLine then some (.sc (.str (Txt.slice z lo hi))) else none
  | _, _, _ => none
noncomputable def intP : W → Option (Option Int)
  | .sc (.int i) => some (some i)
  | _ => none
noncomputable def partM (e : E) (c : M Op) : M (Option Int) := match e with
  | .k .non => M.ret none
  | _ => (c.bnd view).bnd fun w => lift (intP w)
noncomputable def strsOf : List D → Option (List Str)
  | [] => some []
  | .sc (.str x) :: r => (strsOf r).map (x :: ·)
  | _ => none
noncomputable def lenB : List W → Option D
  | [.nd .lst ds] => some (.sc (.int ds.length))
  | [.nd .frl ds] => some (.sc (.int ds.length))
  | [.nd .tup ds] => some (.sc (.int ds.length))
  | [.nd .ftp ds] => some (.sc (.int ds.length))
  | [.nd (.dic _) ds] => some (.sc (.int ds.length))
  | [.sc (.str x)] => if x.length ≤ sizeLine then some (.sc (.int x.length)) else none
  | _ => none
noncomputable def absB : List W → Option D
  | [.sc (.int i)] => some (.sc (.int (if i < 0 then -i else i)))
  | _ => none
noncomputable def strB : List W → Option D
  | [.sc (.int i)] => if i.natAbs.log2 < 1920 then some (.sc (.str (Str.ofString (toString i)))) else none
  | _ => none
noncomputable def intB : List W → Option D
  | [.sc (.int i)] => some (.sc (.int i))
  | [.sc (.bl b)] => some (.sc (.int (if b then 1 else 0)))
  | [.sc (.str z)] => match intText? z with
    | some n => if z.length ≤ 640 then some (.sc (.int n)) else none
    | none => none
  | _ => none
noncomputable def listB : List W → Option D
  | [.nd .lst ds] => some (.node .lst true ds)
  | [.nd .frl ds] => some (.node .lst true ds)
  | [.nd .tup ds] => some (.node .lst true ds)
  | [.nd .ftp ds] => some (.node .lst true ds)
  | _ => none
noncomputable def tupleB : List W → Option D
  | [.nd .lst ds] => some (.node .tup true ds)
  | _ => none
noncomputable def isiB (t : Ty) : List W → Option D
  | [w] => (tyW t w).map fun b => .sc (.bl b)
  | _ => none
noncomputable def allB : List W → Option D
  | [.nd .lst ds] => (boolsOf ds).map fun bs => .sc (.bl (bs.all id))
  | _ => none
noncomputable def sumB : List W → Option D
  | [.nd .lst ds] => (intsOf ds).map fun is => .sc (.int is.sum)
  | _ => none
noncomputable def minB : List W → Option D
  | [.sc (.int i), .sc (.int j)] => some (.sc (.int (if j < i then j else i)))
  | _ => none
noncomputable def maxB : List W → Option D
  | [.sc (.int i), .sc (.int j)] => some (.sc (.int (if j > i then j else i)))
  | _ => none
noncomputable def bfW : BF → List W → Option D
  | .len, ws => lenB ws
  | .abs, ws => absB ws
  | .str, ws => strB ws
  | .int, ws => intB ws
  | .list, ws => listB ws
  | .tuple, ws => tupleB ws
  | .isi t, ws => isiB t ws
  | .all, ws => allB ws
  | .sum, ws => sumB ws
  | .min, ws => minB ws
  | .max, ws => maxB ws
  | _, _ => none
noncomputable def strW : W → Option Str
  | .sc (.str z) => some z
  | _ => none
noncomputable def bmW : BM → Str → List W → Option D
  | .split, z, [.sc (.str s)] => if s.cps.size = 1 ∧ z.length + 2 ≤ sizeLine then some (.node .lst true ((Txt.split z s).map fun x => .sc (.str x))) else none
  | .join, z, [.nd .lst ds] => (strsOf ds).bind fun ts => if JoinOk z ts = true then some (.sc (.str (Txt.join z ts))) else none
  | _, _, _ => none
noncomputable def rng (a b : Int) : List D := (List.range (b - a).toNat).map fun (k : Nat) => .sc (.int (a + k))
noncomputable def okR (i : Int) : Bool := decide (-(2 ^ 62) ≤ i) && decide (i < 2 ^ 62)
noncomputable def enumD : Int → List D → List D
  | _, [] => []
  | c, d :: ds => .node .tup false [.sc (.int c), d] :: enumD (c + 1) ds
noncomputable def zipD : List D → List D → List D
  | d :: ds, e :: es => .node .tup false [d, e] :: zipD ds es
  | _, _ => []
noncomputable def zipI : List W → Option (List D)
  | [.nd k ds, .nd k' es] => if (k = .lst ∨ k = .frl) ∧ (k' = .lst ∨ k' = .frl) then some (zipD ds es) else none
  | _ => none
noncomputable def enumI : List W → Option (List D)
  | [.nd k ds, .sc (.int c)] => if (k = .lst ∨ k = .frl) ∧ okR c = true then some (enumD c ds) else none
  | _ => none
noncomputable def rng1I : List W → Option (List D)
  | [.sc (.int n)] => if okR n then some (rng 0 n) else none
  | _ => none
noncomputable def rng2I : List W → Option (List D)
  | [.sc (.int a), .sc (.int b)] => if okR a && okR b then some (rng a b) else none
  | _ => none
noncomputable def valI : List W → Option (List D)
  | [.nd .lst ds] => some ds
  | [.nd .frl ds] => some ds
  | [.nd .tup ds] => some ds
  | [.nd .ftp ds] => some ds
  | [.sc (.str x)] => some (x.cps.toList.map fun c => .sc (.str ⟨#[c]⟩))
  | _ => none
noncomputable def itW : IK → List W → Option (List D)
  | .zip, ws => zipI ws
  | .enum, ws => enumI ws
  | .rng1, ws => rng1I ws
  | .rng2, ws => rng2I ws
  | .val, ws => valI ws
  | _, _ => none
noncomputable def holdV : Op → M (W × Option (Nat × D))
  | .tmp (.sc v) => M.ret (.sc v, none)
  | .tmp (.node k _ ds) => M.ret (.nd k (shrL ds), none)
  | .tmp .hole => stk
  | .late i => fun δ => match δ[i]? with
    | some (.sc v) => .ok ((.sc v, none), δ)
    | some (.node k false ds) => .ok ((.nd k ds, none), δ)
    | some (.node k true ds) => .ok ((.nd k (shrL ds), some (i, .node k true (shrL ds))), δ.set i .hole)
    | _ => .stuck
noncomputable def holdVs : List Op → M (List W × List (Nat × D))
  | [] => M.ret ([], [])
  | p :: ps => (holdV p).bnd fun w => (holdVs ps).bnd fun ws => M.ret (w.1 :: ws.1, w.2.toList ++ ws.2)
noncomputable def giveH : List (Nat × D) → M Unit
  | [] => M.ret ()
  | (i, d) :: r => fun δ => giveH r (δ.set i d)
noncomputable def walked : List E → Nat → Bool
  | [], _ => false
  | .v i :: r, j => i == j || walked r j
  | _ :: r, j => walked r j
noncomputable def takeA (lend : Bool) : Op → M D
  | .tmp d => M.ret d
  | .late i => fun δ => match δ[i]? with
    | some (.sc v) => .ok (.sc v, δ)
    | some (.node k false ds) => .ok (.node k false ds, δ)
    | some (.node k true ds) => if lend then .ok (.node k true ds, δ.set i .hole) else .ok (.node k false (shrL ds), δ.set i (.node k false (shrL ds)))
    | _ => .stuck
noncomputable def takeAs (lend : Bool) : List Op → M (List D)
  | [] => M.ret []
  | p :: ps => (takeA lend p).bnd fun d => (takeAs lend ps).bnd fun ds => M.ret (d :: ds)
noncomputable def giveA : Op → D → M Unit
  | .tmp _, _ => M.ret ()
  | .late i, d => fun δ => match δ[i]? with
    | some .hole => .ok ((), δ.set i d)
    | _ => .ok ((), δ)
noncomputable def giveAs : List Op → List D → M Unit
  | p :: ps, d :: ds => (giveA p d).bnd fun _ => giveAs ps ds
  | _, _ => M.ret ()
noncomputable def callF (fi : FI) (ps : List Op) : M D := (takeAs fi.lend ps).bnd fun ds => match fi.run ds with
  | .ok (d, ds') => (giveAs ps ds').bnd fun _ => M.ret d
  | .exc x _ => fun δ => .exc x δ
  | .stuck => stk
noncomputable def chkI (A : Addr) (m : Str) : Op → M Unit
  | .late i => fun δ => match δ[i]? with
    | some (.node (.ins B fs) _ _) => if B = A ∧ m ∉ fs then .ok ((), δ) else .stuck
    | _ => .stuck
  | .tmp (.node (.ins B fs) _ _) => fun δ => if B = A ∧ m ∉ fs then .ok ((), δ) else .stuck
  | _ => stk
noncomputable def newF (C : Addr) (fi : FI) (ps : List Op) : M D := (takeAs fi.lend ps).bnd fun ds => match fi.run (.node (.ins C []) true [] :: ds) with
  | .ok (.sc .non, d :: ds') => (giveAs ps ds').bnd fun _ => M.ret d
  | .ok _ => stk
  | .exc x _ => fun δ => .exc x δ
  | .stuck => stk
noncomputable def asgN (lock : Nat → Bool) (i : Nat) (d : D) : M Unit := fun δ => if i < δ.length && !lock i then .ok ((), δ.set i d) else .stuck
noncomputable def asgNs (lock : Nat → Bool) : List Nat → List D → M Unit
  | [], [] => M.ret ()
  | i :: is, d :: ds => (asgN lock i d).bnd fun _ => asgNs lock is ds
  | _, _ => stk
noncomputable def asgT (lock : Nat → Bool) : Tg → D → M Unit
  | .name i, d => asgN lock i d
  | .tup is, .node .tup _ ds => asgNs lock is ds
  | .tup _, _ => stk
noncomputable def modS (i : Nat) (f : Kd → List D → Option (D × Kd × List D)) : M D := fun δ => match δ[i]? with
  | some (.node k true ds) => match f k ds with
    | some (r, k', ds') => .ok (r, δ.set i (.node k' true ds'))
    | none => .stuck
  | _ => .stuck
noncomputable def mutD : MM → List W → Kd → List D → Option (D × Kd × List D)
  | .extend, [.nd .lst es], .lst, ds => if ds.length + es.length ≤ sizeLine then some (.sc .non, .lst, ds ++ es) else none
  | .pop, [], .lst, ds => ds.getLast?.map fun d => (d, .lst, ds.dropLast)
  | .popAt, [.sc (.int i)], .lst, ds => if -(2 ^ 63) ≤ i ∧ i < 2 ^ 63 then (ixN' ds.length i).bind fun j => ds[j]?.map fun d => (d, .lst, ds.eraseIdx j) else none
  | .reverse, [], .lst, ds => some (.sc .non, .lst, ds.reverse)
  | .clear, [], .lst, _ => some (.sc .non, .lst, [])
  | _, _, _, _ => none
noncomputable def appD (d : D) : Kd → List D → Option (D × Kd × List D)
  | .lst, ds => if ds.length < sizeLine then some (.sc .non, .lst, ds ++ [d]) else none
  | _, _ => none
noncomputable def appM (i : Nat) : List D → M D
  | [d] => modS i (appD d)
  | _ => stk
noncomputable def chkL (i : Nat) : M Unit := fun δ => match δ[i]? with
  | some (.node .lst _ _) => .ok ((), δ)
  | _ => .stuck
noncomputable def setD (w : W) (d : D) : Kd → List D → Option (D × Kd × List D)
  | .lst, ds => match w with
    | .sc (.int i) => (ixN' ds.length i).map fun j => (.sc .non, .lst, ds.set j d)
    | _ => none
  | _, _ => none
noncomputable def setD2 (w : W) (d : D) (k : Kd) (ds : List D) : Option (D × Kd × List D) := setD w d k ds
noncomputable def putN (f : Str) : List Str → List Str
  | [] => [f]
  | g :: r => if g = f then g :: r else g :: putN f r
noncomputable def putV {α : Type} (f : Str) (d : α) : List Str → List α → List α
  | g :: r, x :: ds => if g = f then d :: ds else x :: putV f d r ds
  | _, _ => [d]
noncomputable def putD (ok : Addr → Str → Bool) (f : Str) (d : D) : Kd → List D → Option (D × Kd × List D)
  | .ins C fs, ds => if fs.length < 1000 ∧ ok C f = true then some (.sc .non, .ins C (putN f fs), putV f d fs ds) else none
  | _, _ => none
structure Ctx where
  lock : Nat → Bool
  fok : Addr → Str → Bool
  fuel : Nat
noncomputable def capTake : List Nat → M (List D)
  | [] => M.ret []
  | j :: js => fun δ => match δ[j]? with
    | some d => ((capTake js).bnd fun ds => M.ret (d :: ds)) (δ.set j .hole)
    | none => .stuck
noncomputable def capGive : List Nat → List D → M Unit
  | j :: js, d :: ds => fun δ => capGive js ds (δ.set j d)
  | _, _ => M.ret ()
noncomputable def compL (asg : D → M Unit) (cond : M Bool) (elt : M D) : List D → List D → M (List D)
  | [], acc => M.ret acc
  | d :: ds, acc => (asg d).bnd fun _ => cond.bnd fun b => if b then elt.bnd fun x => compL asg cond elt ds (acc ++ [x]) else compL asg cond elt ds acc
noncomputable def compM (k : Nat) (js : List Nat) (loop : M (List D)) : M D := (capTake js).bnd fun caps δ => match loop (List.replicate k .hole ++ caps) with
  | .ok (acc, δ') => ((capGive js (δ'.drop k)).bnd fun _ => lift (newL acc)) δ
  | .exc _ _ => .stuck
  | .stuck => .stuck
noncomputable def fmtD : V → Option Str
  | .int i => if i.natAbs.log2 < 1920 then some (Str.ofString (toString i)) else none
  | .str x => some x
  | .non => some (Str.ofString "None")
  | _ => none
noncomputable def fmtW (acc : Str) : W → Option Str
  | .sc v => (fmtD v).bind fun z => if z.length ≤ sizeLine ∧ (acc ++ z).length ≤ sizeLine then some (acc ++ z) else none
  | _ => none
noncomputable def isNW (p : Bool) : W → D
  | .sc v => .sc (.bl (decide (v = .non) == p))
  | .nd _ _ => .sc (.bl (!p))
noncomputable def isBW (c p : Bool) : W → Option D
  | .sc (.bl b) => some (.sc (.bl ((b == c) == p)))
  | _ => none
noncomputable def negW : W → Option D
  | .sc (.int i) => some (.sc (.int (-i)))
  | _ => none
noncomputable def notW : W → Option D
  | .sc (.bl t) => some (.sc (.bl (!t)))
  | _ => none
noncomputable def andM (b : M D) : W → M D
  | .sc (.bl true) => b
  | .sc (.bl false) => M.ret (.sc (.bl false))
  | _ => stk
noncomputable def orM (b : M D) : W → M D
  | .sc (.bl false) => b
  | .sc (.bl true) => M.ret (.sc (.bl true))
  | _ => stk
noncomputable def boolM (c : M D) : M Bool := c.bnd fun d => lift (match d with | .sc (.bl b) => some b | _ => none)
noncomputable def tdef (e : E) (c : M D) : M Bool := (opdOf e c).bnd fun p => (view p).bnd fun w => lift (truW w)
noncomputable def vdef (e : E) (c : M D) : M W := (opdOf e c).bnd view
noncomputable def atE (δ : List D) : E → Option V
  | .k v => some v
  | .v i => match δ[i]? with
    | some (.sc v) => some v
    | _ => none
  | _ => none
noncomputable def atEs (δ : List D) : List E → Option (List V)
  | [] => some []
  | e :: es => (atE δ e).bind fun v => (atEs δ es).map (v :: ·)
noncomputable def callR (i j : Nat) (ds δ : List D) : Rs (D × List D) → Rs (D × List D)
  | .ok (d, c :: _) => .ok (d, δ.set i (.node .lst true (ds.set j c)))
  | _ => .stuck
noncomputable def callC (f : FI) (i : Nat) (es : List E) (w : W) : M D := fun δ => match w, δ[i]?, atEs δ es with
  | .sc (.int k), some (.node .lst true ds), some vs => match ixN' ds.length k with
    | some j => match ds[j]? with
      | some c => callR i j ds δ (f.run (c :: vs.map D.sc))
      | none => .stuck
    | none => .stuck
  | _, _, _ => .stuck
mutual
noncomputable def evb (C : Ctx) : E → M D × M Bool
  | .k v => let c : M D := M.ret (.sc v); (c, tdef (.k v) c)
  | .g d => let c : M D := M.ret d; (c, tdef (.g d) c)
  | .v i => (valV i, tdef (.v i) (valV i))
  | .bin op a b =>
    let c : M D := (opdOf a (evb C a).1).bnd fun p => (opdOf b (evb C b).1).bnd fun q => (view p).bnd fun x => (view q).bnd fun y => lift (binW op x y)
    (c, tdef (.bin op a b) c)
  | .neg a =>
    let c : M D := (vdef a (evb C a).1).bnd fun x => lift (negW x)
    (c, tdef (.neg a) c)
  | .cmp op a b =>
    let c : M D := (opdOf a (evb C a).1).bnd fun p => (opdOf b (evb C b).1).bnd fun q => (view p).bnd fun x => (view q).bnd fun y => lift ((cmpW2 op x y).map fun t => .sc (.bl t))
    (c, boolM c)
  | .chain op op' a b e =>
    let c : M D := (opdOf a (evb C a).1).bnd fun p => (opdOf b (evb C b).1).bnd fun q => (view p).bnd fun x => (view q).bnd fun y => (lift (cmpW op x y)).bnd fun t => if t then (opdOf e (evb C e).1).bnd fun r => (view q).bnd fun y => (view r).bnd fun z => lift ((cmpW op' y z).map fun t => .sc (.bl t)) else M.ret (.sc (.bl false))
    (c, boolM c)
  | .isN p a =>
    let c : M D := (vdef a (evb C a).1).bnd fun x => M.ret (isNW p x)
    (c, tdef (.isN p a) c)
  | .isB c p a =>
    let r : M D := (vdef a (evb C a).1).bnd fun x => lift (isBW c p x)
    (r, tdef (.isB c p a) r)
  | .nt a => ((vdef a (evb C a).1).bnd fun w => lift (notW w), (evb C a).2.bnd fun b => M.ret (!b))
  | .and a b => ((vdef a (evb C a).1).bnd (andM (evb C b).1), (evb C a).2.bnd fun t => if t then (evb C b).2 else M.ret false)
  | .or a b => ((vdef a (evb C a).1).bnd (orM (evb C b).1), (evb C a).2.bnd fun t => if t then M.ret true else (evb C b).2)
  | .ife c a b =>
    let r : M D := (evb C c).2.bnd fun t => if t then (evb C a).1 else (evb C b).1
    (r, tdef (.ife c a b) r)
  | .ix a i =>
    let c : M D := (opdOf a (evb C a).1).bnd fun p => (opdOf i (evb C i).1).bnd fun q => (view p).bnd fun x => (view q).bnd fun y => lift (ixW2 x y)
    (c, tdef (.ix a i) c)
  | .sl a lo hi =>
    let c : M D := (opdOf a (evb C a).1).bnd fun p => (partM lo (opdOf lo (evb C lo).1)).bnd fun l => (partM hi (opdOf hi (evb C hi).1)).bnd fun h => (view p).bnd fun x => lift (slD x l h)
    (c, tdef (.sl a lo hi) c)
  | .fld a f =>
    let c : M D := (vdef a (evb C a).1).bnd fun x => lift (fldW C.fok f x)
    (c, tdef (.fld a f) c)
  | .lst es =>
    let c : M D := (evs C es).bnd fun ds => lift (newL ds)
    (c, tdef (.lst es) c)
  | .tup es =>
    let c : M D := (evs C es).bnd fun ds => lift (newT ds)
    (c, tdef (.tup es) c)
  | .kl vs =>
    let c : M D := lift (newL (vs.map D.sc))
    (c, tdef (.kl vs) c)
  | .kt vs =>
    let c : M D := lift (newT (vs.map D.sc))
    (c, tdef (.kt vs) c)
  | .dct0 =>
    let c : M D := M.ret (.node (.dic []) true [])
    (c, tdef .dct0 c)
  | .call f es =>
    let c : M D := (opds C es).bnd fun ps => callF f ps
    (c, tdef (.call f es) c)
  | .bf f es =>
    let c : M D := (opds C es).bnd fun ps => (views ps).bnd fun ws => lift (bfW f ws)
    (c, tdef (.bf f es) c)
  | .bm m o es =>
    let c : M D := (vdef o (evb C o).1).bnd fun w => (lift (strW w)).bnd fun z => (opds C es).bnd fun ps => (views ps).bnd fun ws => lift (bmW m z ws)
    (c, tdef (.bm m o es) c)
  | .mut m i ps es =>
    let c : M D := match m, ps with
      | .append, [] => (chkL i).bnd fun _ => (evs C es).bnd fun ds => appM i ds
      | m, [] => (chkL i).bnd fun _ => (opds C es).bnd fun ps => (views ps).bnd fun ws => modS i (mutD m ws)
      | _, _ => stk
    (c, tdef (.mut m i ps es) c)
  | .meth A m f o es =>
    let c : M D := (opdOf o (evb C o).1).bnd fun p => (chkI A m p).bnd fun _ => (opds C es).bnd fun ps => callF f (p :: ps)
    (c, tdef (.meth A m f o es) c)
  | .new A f es =>
    let c : M D := (opds C es).bnd fun ps => newF A f ps
    (c, tdef (.new A f es) c)
  | .comp k js tg ik ies cond elt =>
    let C' : Ctx := { C with lock := fun i => decide (k ≤ i) }
    let loop (items : List D) : M (List D) := compL (asgT C'.lock tg) (tsts C' cond) (evb C' elt).1 items []
    let c : M D := (opds C ies).bnd fun ps => (holdVs ps).bnd fun h => (lift (itW ik h.1)).bnd fun items => (compM k js (loop items)).bnd fun d => (giveH h.2).bnd fun _ => M.ret d
    (c, tdef (.comp k js tg ik ies cond elt) c)
  | .fs es =>
    let c : M D := fss C es Str.empty
    (c, tdef (.fs es) c)
  | .callE f i ix es =>
    let c : M D := (lateM i).bnd fun _ => (vdef ix (evb C ix).1).bnd fun w => callC f i es w
    (c, tdef (.callE f i ix es) c)
noncomputable def fss (C : Ctx) : List E → Str → M D
  | [], acc => M.ret (.sc (.str acc))
  | e :: es, acc => (vdef e (evb C e).1).bnd fun w => (lift (fmtW acc w)).bnd fun acc' => fss C es acc'
noncomputable def opds (C : Ctx) : List E → M (List Op)
  | [] => M.ret []
  | e :: es => (opdOf e (evb C e).1).bnd fun p => (opds C es).bnd fun ps => M.ret (p :: ps)
noncomputable def evs (C : Ctx) : List E → M (List D)
  | [] => M.ret []
  | e :: es => (evb C e).1.bnd fun p => (evs C es).bnd fun ps => M.ret (p :: ps)
noncomputable def tsts (C : Ctx) : List E → M Bool
  | [] => M.ret true
  | e :: es => (evb C e).2.bnd fun b => if b then tsts C es else M.ret false
end
noncomputable abbrev ev (C : Ctx) (e : E) : M D := (evb C e).1
noncomputable abbrev tst (C : Ctx) (e : E) : M Bool := (evb C e).2
inductive Fl where
  | nx | rt (d : D) | bk | ct
noncomputable def forL (asg : D → M Unit) (body : M Fl) : List D → M Fl
  | [] => M.ret .nx
  | d :: ds => (asg d).bnd fun _ => body.bnd fun f => match f with
    | .nx => forL asg body ds
    | .ct => forL asg body ds
    | .bk => M.ret .nx
    | .rt x => M.ret (.rt x)
noncomputable def whileL (c : M Bool) (body : M Fl) : Nat → M Fl
  | 0 => stk
  | n + 1 => c.bnd fun b => if b then body.bnd fun f => match f with
    | .nx => whileL c body n
    | .ct => whileL c body n
    | .bk => M.ret .nx
    | .rt x => M.ret (.rt x)
    else M.ret .nx
noncomputable def movV (i : Nat) : M D := fun δ => match δ[i]? with
  | some (.sc v) => .ok (.sc v, δ)
  | some (.node k o ds) => .ok (.node k o ds, δ.set i .hole)
  | _ => .stuck
noncomputable def retV (C : Ctx) (e : E) : M D := match e with
  | .v i => if C.lock i then valV i else movV i
  | e => ev C e
noncomputable def seqL (c : M Fl) (r : M Fl) : M Fl := c.bnd fun f => match f with
  | .nx => r
  | f => M.ret f
noncomputable def unpM (lock : Nat → Bool) (is : List Nat) : W → M Unit
  | .nd .tup ds => asgNs lock is ds
  | .nd .lst ds => asgNs lock is ds
  | _ => stk
mutual
noncomputable def ex (C : Ctx) : S → M Fl
  | .asg i e => (ev C e).bnd fun d => (asgN C.lock i d).bnd fun _ => M.ret .nx
  | .unp is e => (vdef e (ev C e)).bnd fun w => (unpM C.lock is w).bnd fun _ => M.ret .nx
  | .sub i ps ix e => match ps with
    | [] => (ev C e).bnd fun d => (lateM i).bnd fun _ => (vdef ix (ev C ix)).bnd fun w => (modS i (setD2 w d)).bnd fun _ => M.ret .nx
    | _ => stk
  | .attr i f e => (ev C e).bnd fun d => (lateM i).bnd fun _ => (modS i (putD C.fok f d)).bnd fun _ => M.ret .nx
  | .ex e => (ev C e).bnd fun _ => M.ret .nx
  | .ret e => (retV C e).bnd fun d => M.ret (.rt d)
  | .retN => M.ret (.rt (.sc .non))
  | .iff c a b => (tst C c).bnd fun t => if t then exs C a else exs C b
  | .for_ tg ik ies body =>
    let lk : Nat → Bool := fun j => C.lock j || walked ies j
    (opds C ies).bnd fun ps => (holdVs ps).bnd fun h => (lift (itW ik h.1)).bnd fun items => (forL (asgT lk tg) (exs { C with lock := lk } body) items).bnd fun f => (giveH h.2).bnd fun _ => M.ret f
  | .while_ c body => whileL (tst C c) (exs C body) C.fuel
  | .pass => M.ret .nx
  | .brk => M.ret .bk
  | .cnt => M.ret .ct
  | .raise _ => stk
noncomputable def exs (C : Ctx) : List S → M Fl
  | [] => M.ret .nx
  | s :: r => seqL (ex C s) (exs C r)
end
noncomputable def endDef (n : Nat) : Rs (Fl × List D) → Rs (D × List D)
  | .ok (.rt d, δ) => .ok (d, δ.take n)
  | .ok (.nx, δ) => .ok (.sc .non, δ.take n)
  | .ok _ => .stuck
  | .exc x _ => .exc x []
  | .stuck => .stuck
noncomputable def runDef (C : Ctx) (n N : Nat) (body : List S) (ds : List D) : Rs (D × List D) :=
  if ds.length = n then endDef n (exs { C with lock := fun i => decide (i < n) } body (ds ++ List.replicate (N - n) .hole)) else .stuck
end T
namespace T
open PySem L2
inductive Sep {α : Type} (R : α → D → Bud → Prop) : List α → List D → Bud → Prop
  | nil (m : Bud) : Sep R [] [] m
  | cons {a : α} {d : D} {as : List α} {ds : List D} {m1 m2 m : Bud} : R a d m1 → Sep R as ds m2 → (∀ b, m1 b + m2 b ≤ m b) → Sep R (a :: as) (d :: ds) m
theorem RepL.sep {K : PySem.W.Frag} {H Hs : Hp} : ∀ {vs : List V} {ds : List D} {m : Bud}, RepL K H Hs vs ds m → Sep (Rep K H Hs) vs ds m
  | _, _, _, .nil _ => .nil _
  | _, _, _, .cons a b c => .cons a b.sep c
theorem Sep.repL {K : PySem.W.Frag} {H Hs : Hp} : ∀ {vs : List V} {ds : List D} {m : Bud}, Sep (Rep K H Hs) vs ds m → RepL K H Hs vs ds m
  | _, _, _, .nil _ => .nil _
  | _, _, _, .cons a b c => .cons a b.repL c
section
variable {α β : Type} {R R' : α → D → Bud → Prop}
theorem Sep.length : ∀ {as : List α} {ds : List D} {m : Bud}, Sep R as ds m → as.length = ds.length
  | _, _, _, .nil _ => rfl
  | _, _, _, .cons _ b _ => by rw [List.length_cons, List.length_cons, b.length]
theorem Sep.mono {as : List α} {ds : List D} {m m' : Bud} (h : Sep R as ds m) (l : ∀ b, m b ≤ m' b) : Sep R as ds m' := by
  cases h with
  | nil => exact .nil _
  | cons a b c => exact .cons a b fun x => Nat.le_trans (c x) (l x)
theorem Sep.imp : ∀ {as : List α} {ds : List D} {m : Bud}, (∀ a d m', (∀ b, m' b ≤ m b) → R a d m' → R' a d m') → Sep R as ds m → Sep R' as ds m
  | _, _, _, _, .nil _ => .nil _
  | _, _, m, f, .cons (m1 := m1) (m2 := m2) x y c => .cons (f _ _ _ (fun b => by have := c b; omega) x) (y.imp fun a d m' l => f a d m' fun b => by have := c b; have := l b; (try dsimp only at *); omega) c
theorem Sep.focus : ∀ {as : List α} {ds : List D} {m : Bud} {i : Nat} {d : D}, Sep R as ds m → ds[i]? = some d → ∃ (a : α) (m1 m2 : Bud), as[i]? = some a ∧ R a d m1 ∧ (∀ b, m1 b + m2 b ≤ m b) ∧
    ∀ (R' : α → D → Bud → Prop) (a' : α) (d' : D) (m' : Bud), (∀ a d m', (∀ b, m' b ≤ m2 b) → R a d m' → R' a d m') → R' a' d' m' → Sep R' (as.set i a') (ds.set i d') (fun b => m' b + m2 b)
  | _, _, _, _, _, .nil _, h => by simp at h
  | _, _, m, 0, _, .cons (a := a) (m1 := m1) (m2 := m2) x y c, h => by
    (simp only [List.getElem?_cons_zero, Option.some.injEq] at h)
    subst h
    exact ⟨a, m1, m2, rfl, x, c, fun R' a' d' m' f x' => .cons x' (y.imp f) fun b => Nat.le_refl _⟩
  | _, _, m, i + 1, d, .cons (a := a) (m1 := m1) (m2 := m2) x y c, h => by
    obtain ⟨a', n1, n2, e, r, l, f⟩ := Sep.focus (i := i) y (by simpa using h)
    refine ⟨a', n1, fun b => m1 b + n2 b, by simpa using e, r, fun b => by have := c b; have := l b; (try dsimp only at *); omega, fun R' a'' d'' m' g x' => ?_⟩
    have q := f R' a'' d'' m' (fun a d m' l' => g a d m' fun b => by have := l' b; (try dsimp only at *); omega) x'
    exact .cons (m2 := fun b => m' b + n2 b) (g _ _ _ (fun b => by (try dsimp only at *); omega) x) q fun b => by (try dsimp only at *); omega
theorem Sep.append : ∀ {as bs : List α} {ds es : List D} {m1 m2 : Bud}, Sep R as ds m1 → Sep R bs es m2 → Sep R (as ++ bs) (ds ++ es) (fun b => m1 b + m2 b)
  | _, _, _, _, _, _, .nil _, y => y.mono fun b => by (try dsimp only at *); omega
  | _, _, _, _, _, m2, .cons (m2 := n2) x y c, z => .cons (m2 := fun b => n2 b + m2 b) x (y.append z) fun b => by have := c b; omega
theorem Sep.get {as : List α} {ds : List D} {m : Bud} {i : Nat} {d : D} (h : Sep R as ds m) (e : ds[i]? = some d) : ∃ (a : α) (m1 : Bud), as[i]? = some a ∧ R a d m1 ∧ ∀ b, m1 b ≤ m b := by
  obtain ⟨a, m1, m2, e, r, l, _⟩ := h.focus e
  exact ⟨a, m1, e, r, fun b => by have := l b; omega⟩
theorem Sep.split : ∀ {as : List α} {ds es : List D} {m : Bud}, Sep R as (ds ++ es) m → ∃ (a1 a2 : List α) (m1 m2 : Bud), as = a1 ++ a2 ∧ Sep R a1 ds m1 ∧ Sep R a2 es m2 ∧ ∀ b, m1 b + m2 b ≤ m b
  | as, [], es, m, h => ⟨[], as, fun _ => 0, m, rfl, .nil _, h, fun b => by (try dsimp only at *); omega⟩
  | _, d :: ds, es, m, .cons (a := a) (m1 := m1) x y c => by
    obtain ⟨a1, a2, n1, n2, e, p, q, l⟩ := Sep.split (ds := ds) (es := es) y
    subst e
    exact ⟨a :: a1, a2, fun b => m1 b + n1 b, n2, rfl, .cons x p fun b => Nat.le_refl _, q, fun b => by have := c b; have := l b; (try dsimp only at *); omega⟩
theorem Sep.take {as : List α} {ds : List D} {m : Bud} (h : Sep R as ds m) (n : Nat) : Sep R (as.take n) (ds.take n) m := by
  have e : ds.take n ++ ds.drop n = ds := List.take_append_drop n ds
  rw [← e] at h
  obtain ⟨a1, a2, m1, m2, q, p, p', l⟩ := h.split
  have hl := p.length
  have hd := h.length
  subst q
  have : (a1 ++ a2).take n = a1 := by
    by_cases hn : n ≤ ds.length
    · rw [List.take_left' (by rw [hl, List.length_take]; omega)]
    · have e2 : a2 = [] := by
        have := p'.length
        rw [List.length_drop] at this
        exact List.length_eq_zero_iff.mp (by (try dsimp only at *); omega)
      rw [e2, List.append_nil]
      exact List.take_of_length_le (by rw [hl, List.length_take]; omega)
  rw [this]
  exact p.mono fun b => by have := l b; omega
theorem Sep.drop {as : List α} {ds : List D} {m : Bud} (h : Sep R as ds m) (n : Nat) : Sep R (as.drop n) (ds.drop n) m := by
  have e : ds.take n ++ ds.drop n = ds := List.take_append_drop n ds
  rw [← e] at h
  obtain ⟨a1, a2, m1, m2, q, p, p', l⟩ := h.split
  have hl := p.length
  subst q
  have : (a1 ++ a2).drop n = a2 := by
    by_cases hn : n ≤ ds.length
    · rw [List.drop_left' (by rw [hl, List.length_take]; omega)]
    · have e2 : a2 = [] := by
        have := p'.length
        rw [List.length_drop] at this
        exact List.length_eq_zero_iff.mp (by (try dsimp only at *); omega)
      rw [e2, List.append_nil]
      exact List.drop_of_length_le (by rw [hl, List.length_take]; omega)
  rw [this]
  exact p'.mono fun b => by have := l b; omega
end
section
variable {K : PySem.W.Frag} {H Hs Hs' : Hp}
mutual
theorem Rep.share (g : Same Hs Hs') : ∀ {v : V} {d : D} {m : Bud}, (∀ b, m b ≥ 1 → H b ≠ none → Hs' b = H b) → Rep K H Hs v d m → Rep K H Hs' v (shr d) (fun _ => 0)
  | _, _, _, _, .sc v _ => .sc v _
  | _, _, _, _, .hole v _ => .hole v _
  | _, _, m, k, .own (a := a) (m' := m') n r h => by
    have h1 : m a ≥ 1 := by have := h a; simp only [one, if_pos] at this; omega
    refine .shd (NodeO.r (n.eq (k a h1 n.at))) (RepL.share g (fun b hb => k b ?_) r)
    have := h b
    omega
  | _, _, _, _, .shd n r => .shd (n.same g) (RepL.share g (fun b hb => absurd hb (by simp)) r)
theorem RepL.share (g : Same Hs Hs') : ∀ {vs : List V} {ds : List D} {m : Bud}, (∀ b, m b ≥ 1 → H b ≠ none → Hs' b = H b) → RepL K H Hs vs ds m → RepL K H Hs' vs (shrL ds) (fun _ => 0)
  | _, _, _, _, .nil _ => .nil _
  | _, _, m, k, .cons x y h => by
    refine .cons (Rep.share g (fun b hb => k b ?_) x) (RepL.share g (fun b hb => k b ?_) y) fun b => Nat.le_refl _
    · have := h b; omega
    · have := h b; omega
end
noncomputable def shH (H Hs : Hp) (m : Bud) : Hp := fun b => if m b ≥ 1 then H b else Hs b
theorem shH_same {M : Bud} {m : Bud} (g : Good H Hs M) (l : ∀ b, m b ≤ M b) : Same Hs (shH H Hs m) := fun b o e => by
  unfold shH
  split
  · exact g.sub b o e
  · exact e
theorem shH_at {m : Bud} : ∀ b, m b ≥ 1 → H b ≠ none → shH H Hs m b = H b := fun b h _ => if_pos h
theorem Good.share {m M : Bud} (g : Good H Hs (fun b => m b + M b)) : Good H (shH H Hs m) M where
  sub := fun b o e => by
    unfold shH at e
    split at e
    · exact e
    · exact g.sub b o e
  le := fun b => by have : m b + M b ≤ 1 := g.le b; omega
  ne := fun b h => by
    have : m b + M b ≤ 1 := g.le b
    unfold shH
    rw [if_neg (by (try dsimp only at *); omega)]
    exact g.ne b (by show m b + M b = 1; omega)
  has := fun b h => by
    have : m b + M b ≤ 1 := g.le b
    exact g.has b (by show m b + M b = 1; omega)
theorem Stp.share {m M : Bud} (g : Good H Hs (fun b => m b + M b)) : Stp H Hs (fun b => m b + M b) H (shH H Hs m) M where
  keep := fun _ _ h _ => h
  own := fun b h => .inl (by have : m b + M b ≤ 1 := g.le b; show m b + M b = 1; omega)
  grow := shH_same g fun b => by (try dsimp only at *); omega
  shr := fun b h h' => by
    unfold shH at h'
    split at h'
    · have : m b + M b ≤ 1 := g.le b
      exact .inl (by show m b + M b = 1; omega)
    · exact absurd h h'
  stay := fun _ h => h
end
noncomputable def RepO (K : PySem.W.Frag) (H Hs : Hp) (o : Option V) (d : D) (m : Bud) : Prop := d = .hole ∨ ∃ v, o = some v ∧ Rep K H Hs v d m
noncomputable abbrev RepS (K : PySem.W.Frag) (H Hs : Hp) (σ : St) (δ : List D) (m : Bud) : Prop := Sep (RepO K H Hs) σ δ m
section
variable {K : PySem.W.Frag} {H Hs H' Hs' : Hp}
theorem RepO.frame {o : Option V} {d : D} {m : Bud} (g : Same Hs Hs') (k : ∀ b, m b ≥ 1 → H b ≠ none → H' b = H b) (h : RepO K H Hs o d m) : RepO K H' Hs' o d m := by
  rcases h with h | ⟨v, e, r⟩
  · exact .inl h
  · exact .inr ⟨v, e, r.frame g k⟩
theorem RepS.frame {σ : St} {δ : List D} {m : Bud} (g : Same Hs Hs') (k : ∀ b, m b ≥ 1 → H b ≠ none → H' b = H b) (h : RepS K H Hs σ δ m) : RepS K H' Hs' σ δ m :=
  h.imp fun a d m' l r => RepO.frame g (fun b hb => k b (Nat.le_trans hb (l b))) r
theorem RepL.slots : ∀ {vs : List V} {ds : List D} {m : Bud}, RepL K H Hs vs ds m → RepS K H Hs (vs.map some) ds m
  | _, _, _, .nil _ => .nil _
  | _, _, _, .cons x y c => .cons (.inr ⟨_, rfl, x⟩) (RepL.slots y) c
theorem holes (o : Nat → Option V) : ∀ (n : Nat) (m : Bud) (σ : St), σ.length = n → RepS K H Hs σ (List.replicate n .hole) m
  | 0, m, [], _ => .nil _
  | n + 1, m, o :: σ, h => .cons (m1 := fun _ => 0) (.inl rfl) (holes (fun _ => none) n m σ (by simpa using h)) fun b => by (try dsimp only at *); omega
theorem RepS.slot {σ : St} {δ : List D} {m : Bud} {i : Nat} {d : D} (h : RepS K H Hs σ δ m) (e : δ[i]? = some d) (hd : d ≠ .hole) : ∃ (v : V) (m1 m2 : Bud), σ[i]? = some (some v) ∧ Rep K H Hs v d m1 ∧ (∀ b, m1 b + m2 b ≤ m b) ∧
    ∀ (H' Hs' : Hp) (o : Option V) (d' : D) (m' : Bud), Same Hs Hs' → (∀ b, m2 b ≥ 1 → H b ≠ none → H' b = H b) → RepO K H' Hs' o d' m' → RepS K H' Hs' (σ.set i o) (δ.set i d') (fun b => m' b + m2 b) := by
  obtain ⟨o, m1, m2, e1, r, l, f⟩ := h.focus e
  rcases r with r | ⟨v, rfl, r⟩
  · exact absurd r hd
  · exact ⟨v, m1, m2, e1, r, l, fun H' Hs' o d' m' g k x => f _ o d' m' (fun a d m'' l' q => RepO.frame g (fun b hb => k b (Nat.le_trans hb (l' b))) q) x⟩
theorem set_self {α : Type} : ∀ {l : List α} {i : Nat} {a : α}, l[i]? = some a → l.set i a = l
  | [], _, _, h => by simp at h
  | b :: l, 0, a, h => by simp at h; subst h; rfl
  | b :: l, i + 1, a, h => by rw [List.set_cons_succ, set_self (by simpa using h)]
end
end T
namespace T
open PySem PySem.Spec L2
theorem bnd_ok {α β : Type} {c : M α} {f : α → M β} {δ : List D} {r : β × List D} (h : c.bnd f δ = .ok r) : ∃ a δ', c δ = .ok (a, δ') ∧ f a δ' = .ok r := by
  unfold M.bnd at h
  split at h
  · rename_i a δ' e
    exact ⟨a, δ', e, h⟩
  · cases h
  · cases h
theorem ret_ok {α : Type} {a : α} {δ : List D} {r : α × List D} (h : M.ret a δ = .ok r) : r = (a, δ) := by
  unfold M.ret at h
  injection h with h
  exact h.symm
theorem lift_ok {α : Type} {o : Option α} {δ : List D} {a : α} {δ' : List D} (h : lift o δ = .ok (a, δ')) : o = some a ∧ δ' = δ := by
  cases o with
  | none => cases h
  | some x =>
    have := ret_ok h
    cases this
    exact ⟨rfl, rfl⟩
noncomputable def RepP (K : PySem.W.Frag) (H Hs : Hp) (σ : St) (v : V) : Op → Bud → Prop
  | .late i, _ => σ[i]? = some (some v)
  | .tmp d, m => Rep K H Hs v d m
theorem RepP.frame {K : PySem.W.Frag} {H Hs H' Hs' : Hp} {σ : St} {v : V} {p : Op} {m : Bud} (g : Same Hs Hs') (k : ∀ b, m b ≥ 1 → H b ≠ none → H' b = H b) (h : RepP K H Hs σ v p m) : RepP K H' Hs' σ v p m := by
  cases p with
  | late i => exact h
  | tmp d => exact Rep.frame g k h
inductive View (K : PySem.W.Frag) (H Hs : Hp) : V → W → Bud → Prop
  | sc (v : V) (m : Bud) : View K H Hs v (.sc v) m
  | nd {a : Addr} {k : Kd} {vs : List V} {ds : List D} {m : Bud} : NodeR K H a vs k → RepL K H Hs vs ds m → View K H Hs (.ref a) (.nd k ds) m
theorem View.frame {K : PySem.W.Frag} {H Hs Hs' : Hp} {v : V} {w : W} {m : Bud} (g : Same Hs Hs') (h : View K H Hs v w m) : View K H Hs' v w m := by
  cases h with
  | sc v m => exact .sc v m
  | nd n r => exact .nd n (r.frame g fun _ _ _ => rfl)
section
variable {K : PySem.W.Frag} {H Hs H' Hs' H1 Hs1 H2 Hs2 : Hp} {σ : St} {δ δ' : List D} {M M' B m : Bud}
theorem Good.re (g : Good H Hs M) (l : ∀ b, M' b ≤ M b := by intro b; (try dsimp only); omega) : Good H Hs M' := g.drop l
theorem view_ok {p : Op} {v : V} {w : W} (g : Good H Hs (fun b => B b + M b)) (s : RepS K H Hs σ δ M) (r : RepP K H Hs σ v p m) (e : view p δ = .ok (w, δ')) :
    ∃ Hs' M', Good H Hs' (fun b => B b + M' b) ∧ Stp H Hs (fun b => B b + M b) H Hs' (fun b => B b + M' b) ∧ View K H Hs' v w m ∧ RepS K H Hs' σ δ' M' := by
  cases p with
  | tmp d =>
    cases d with
    | sc u =>
      have := ret_ok e
      cases this
      cases r
      exact ⟨Hs, M, g, Stp.refl _ _ _, .sc _ _, s⟩
    | hole => cases e
    | node k o ds =>
      have := ret_ok e
      cases this
      refine ⟨Hs, M, g, Stp.refl _ _ _, ?_, s⟩
      cases r with
      | own n q l => exact .nd n.r (q.mono fun b => by have := l b; omega)
      | shd n q => exact .nd (n.same g.sub) (q.mono fun b => Nat.zero_le _)
  | late i =>
    have r : σ[i]? = some (some v) := r
    unfold view at e
    dsimp only at e
    split at e
    · rename_i u hi
      cases e
      obtain ⟨v', m1, m2, e1, q, l, f⟩ := s.slot hi (by simp)
      rw [r] at e1
      cases e1
      cases q
      exact ⟨Hs, M, g, Stp.refl _ _ _, .sc _ _, s⟩
    · rename_i k ds hi
      cases e
      obtain ⟨v', m1, m2, e1, q, l, f⟩ := s.slot hi (by simp)
      rw [r] at e1
      cases e1
      cases q with
      | shd n q => exact ⟨Hs, M, g, Stp.refl _ _ _, .nd (n.same g.sub) (q.mono fun b => Nat.zero_le _), s⟩
    · rename_i k ds hi
      cases e
      obtain ⟨v', m1, m2, e1, q, l, f⟩ := s.slot hi (by simp)
      rw [r] at e1
      cases e1
      cases q with
      | @own a _ vs _ _ m' n q l' =>
        have g2 : Good H Hs (fun b => m' b + (B b + (one a b + m2 b))) := g.re fun b => by have := l b; have := l' b; omega
        have hsame := shH_same g2 (m := m') fun b => by omega
        have q2 := RepL.share hsame (shH_at (H := H) (Hs := Hs) (m := m')) q
        refine ⟨shH H Hs m', fun b => one a b + m2 b, g2.share, ?_, .nd n.r (q2.mono fun b => Nat.zero_le _), ?_⟩
        · have s1 := Stp.share g2
          exact ⟨fun b o h z => h, fun b h => by
            rcases s1.own b h with q | q
            · left
              have : B b + M b ≤ 1 := g.le b
              have h1 := l b
              have h2 := l' b
              have h3 : m' b + (B b + (one a b + m2 b)) = 1 := q
              show B b + M b = 1
              omega
            · exact .inr q, s1.grow, fun b h h' => by
            rcases s1.shr b h h' with q | q
            · left
              have : B b + M b ≤ 1 := g.le b
              have h1 := l b
              have h2 := l' b
              have h3 : m' b + (B b + (one a b + m2 b)) = 1 := q
              show B b + M b = 1
              omega
            · exact .inr q, fun b h => h⟩
        · have z := f H (shH H Hs m') (some (.ref a)) (.node k true (shrL ds)) (one a) hsame (fun _ _ _ => rfl) (.inr ⟨_, rfl, .own n q2 fun b => by simp⟩)
          rw [set_self r] at z
          exact z
    · cases e
noncomputable def Outs (K : PySem.W.Frag) (H Hs : Hp) (m : Bud) (d : D) (Q : VK) : Prop := ∀ (v : V) (H' : Hp) (m' : Bud), Same H H' → (∀ b, m' b ≤ 1) → (∀ b, m' b = 1 → H' b ≠ none) → (∀ b, H b ≠ none → m' b ≤ m b) → Rep K H' Hs v d m' → Q v H'
theorem Outs.sc {u : V} {Q : VK} (h : Outs K H Hs m (.sc u) Q) : Q u H := h u H (fun _ => 0) (Same.refl _) (fun _ => Nat.zero_le _) (fun _ h => by simp at h) (fun _ _ => Nat.zero_le _) (.sc u _)
theorem upd_same_new {H : Hp} {p : Addr} {o : HO} (h : H p = none) : Same H (upd H p o) := fun b u e => by
  rw [upd_ne (ne_of_none e h)]
  exact e
theorem Outs.new {k : Kd} {ds : List D} {vs : List V} {o : HO} {p : Addr} {Q : VK} (h : Outs K H Hs m (.node k true ds) Q) (hm : ∀ b, m b ≤ 1) (hh : ∀ b, m b = 1 → H b ≠ none) (hp : H p = none) (n : NodeO (upd H p o) p vs k) (r : RepL K H Hs vs ds m) : Q (.ref p) (upd H p o) := by
  have hs := upd_same_new (o := o) hp
  have mp : m p = 0 := by
    have := hm p
    by_cases q : m p = 1
    · exact absurd hp (hh p q)
    · omega
  refine h (.ref p) (upd H p o) (fun b => one p b + m b) hs (fun b => ?_) (fun b q => ?_) (fun b q => ?_) (.own n (r.frame (Same.refl _) fun b hb hn => ?_) fun b => Nat.le_refl _)
  · unfold one
    have := hm b
    split
    · rename_i e; subst e; omega
    · omega
  · by_cases e : b = p
    · subst e; rw [upd_same]; simp
    · rw [upd_ne e]
      exact hh b (by simp only [one, if_neg e] at q; omega)
  · have e : b ≠ p := fun e => by subst e; exact q hp
    simp only [one, if_neg e]
    omega
  · have e : b ≠ p := fun e => by subst e; exact hn hp
    rw [upd_ne e]
theorem outs_of {H0 Hs0 : Hp} {M0 : Bud} {d : D} {Q : VK} (st : Stp H0 Hs0 M0 H Hs (fun b => B b + M b)) (g : Good H Hs (fun b => B b + M b)) (s : RepS K H Hs σ δ M)
    (q : ∀ (v : V) (H' Hs' : Hp) (m M' : Bud), Good H' Hs' (fun b => m b + M' b) → Stp H0 Hs0 M0 H' Hs' (fun b => m b + M' b) → Rep K H' Hs' v d m → RepS K H' Hs' σ δ M' → Q v H') : Outs K H Hs B d Q := by
  intro v H' m' hs h1 h2 h3 r
  have hz : ∀ b, H b = none → M b = 0 ∧ B b = 0 := fun b hb => by
    have := g.has b
    have l : B b + M b ≤ 1 := g.le b
    by_cases e : B b + M b = 1
    · exact absurd hb (this e)
    · omega
  have hst : ∀ b, H b ≠ none → H' b ≠ none := fun b hb => by
    cases e : H b with
    | none => exact absurd e hb
    | some o => rw [hs b o e]; simp
  refine q v H' Hs m' M ⟨fun b o e => hs b o (g.sub b o e), fun b => ?_, fun b h => ?_, fun b h => ?_⟩ ⟨fun b o e z => hs b o (st.keep b o e z), fun b h => ?_, st.grow, st.shr, fun b h => hst b (st.stay b h)⟩ r (s.frame (Same.refl _) fun b hb hn => ?_)
  · have l : B b + M b ≤ 1 := g.le b
    have := h1 b
    by_cases e : H b = none
    · have := hz b e; show m' b + M b ≤ 1; omega
    · have := h3 b e; show m' b + M b ≤ 1; omega
  · have h : m' b + M b = 1 := h
    have l : B b + M b ≤ 1 := g.le b
    by_cases e : H b = none
    · cases q : Hs b with
      | none => rfl
      | some o => rw [g.sub b o q] at e; cases e
    · have := h3 b e
      exact g.ne b (by show B b + M b = 1; omega)
  · have h : m' b + M b = 1 := h
    have l : B b + M b ≤ 1 := g.le b
    by_cases e : m' b = 1
    · exact h2 b e
    · exact hst b (g.has b (by show B b + M b = 1; omega))
  · have h : m' b + M b = 1 := h
    have l : B b + M b ≤ 1 := g.le b
    by_cases e : H b = none
    · right
      cases w : H0 b with
      | none => rfl
      | some o => exact absurd e (st.stay b (by rw [w]; simp))
    · have := h3 b e
      exact st.own b (by show B b + M b = 1; omega)
  · cases e : H b with
    | none => exact absurd e hn
    | some o => exact hs b o e
theorem RepL.app {vs ws : List V} {ds es : List D} {m1 m2 : Bud} (a : RepL K H Hs vs ds m1) (b : RepL K H Hs ws es m2) : RepL K H Hs (vs ++ ws) (ds ++ es) (fun b => m1 b + m2 b) := (a.sep.append b.sep).repL
theorem RepL.len {vs : List V} {ds : List D} {m : Bud} (a : RepL K H Hs vs ds m) : vs.length = ds.length := a.sep.length
end
end T
namespace T
open PySem PySem.Spec L2
noncomputable def tG {α : Type} (K : PySem.W.Frag) (c : M α) (R : Hp → Hp → St → α → V → Bud → Prop) : TE := fun σ H Q => ∃ (δ : List D) (Hs : Hp) (M : Bud) (a : α) (δ' : List D), Good H Hs M ∧ RepS K H Hs σ δ M ∧ c δ = .ok (a, δ') ∧
  ∀ (v : V) (H' Hs' : Hp) (m M' : Bud), Good H' Hs' (fun b => m b + M' b) → Stp H Hs M H' Hs' (fun b => m b + M' b) → R H' Hs' σ a v m → RepS K H' Hs' σ δ' M' → Q v H'
noncomputable def tM (K : PySem.W.Frag) (c : M D) : TE := tG K c fun H Hs _ d v m => Rep K H Hs v d m
noncomputable def tP (K : PySem.W.Frag) (c : M Op) : TE := tG K c fun H Hs σ p v m => RepP K H Hs σ v p m
noncomputable def tT (K : PySem.W.Frag) (c : M Bool) : TT := fun σ H Q => ∃ (δ : List D) (Hs : Hp) (M : Bud) (b : Bool) (δ' : List D), Good H Hs M ∧ RepS K H Hs σ δ M ∧ c δ = .ok (b, δ') ∧
  ∀ (H' Hs' : Hp) (M' : Bud), Good H' Hs' M' → Stp H Hs M H' Hs' M' → RepS K H' Hs' σ δ' M' → Q b H'
noncomputable def RepPs (K : PySem.W.Frag) (H Hs : Hp) (σ : St) : List V → List Op → Bud → Prop
  | [], [], _ => True
  | v :: vs, p :: ps, m => ∃ m1 m2 : Bud, RepP K H Hs σ v p m1 ∧ RepPs K H Hs σ vs ps m2 ∧ ∀ b, m1 b + m2 b ≤ m b
  | _, _, _ => False
theorem RepPs.frame {K : PySem.W.Frag} {H Hs H' Hs' : Hp} {σ : St} (g : Same Hs Hs') : ∀ {vs : List V} {ps : List Op} {m : Bud}, (∀ b, m b ≥ 1 → H b ≠ none → H' b = H b) → RepPs K H Hs σ vs ps m → RepPs K H' Hs' σ vs ps m
  | [], [], _, _, h => h
  | v :: vs, p :: ps, m, k, ⟨m1, m2, a, b, l⟩ => ⟨m1, m2, a.frame g fun c hc => k c (by have := l c; omega), b.frame g fun c hc => k c (by have := l c; omega), l⟩
  | [], _ :: _, _, _, h => h.elim
  | _ :: _, [], _, _, h => h.elim
noncomputable def tPs (K : PySem.W.Frag) (c : M (List Op)) : TA := fun σ H Q => ∃ (δ : List D) (Hs : Hp) (M : Bud) (a : List Op) (δ' : List D), Good H Hs M ∧ RepS K H Hs σ δ M ∧ c δ = .ok (a, δ') ∧
  ∀ (vs : List V) (H' Hs' : Hp) (m M' : Bud), Good H' Hs' (fun b => m b + M' b) → Stp H Hs M H' Hs' (fun b => m b + M' b) → RepPs K H' Hs' σ vs a m → RepS K H' Hs' σ δ' M' → Q vs H'
noncomputable def tDs (K : PySem.W.Frag) (c : M (List D)) : TA := fun σ H Q => ∃ (δ : List D) (Hs : Hp) (M : Bud) (a : List D) (δ' : List D), Good H Hs M ∧ RepS K H Hs σ δ M ∧ c δ = .ok (a, δ') ∧
  ∀ (vs : List V) (H' Hs' : Hp) (m M' : Bud), Good H' Hs' (fun b => m b + M' b) → Stp H Hs M H' Hs' (fun b => m b + M' b) → RepL K H' Hs' vs a m → RepS K H' Hs' σ δ' M' → Q vs H'
section
variable {X : Cx} {e a b : Expr} {es : List Expr} {pos : Pos}
theorem PE.imp {t t' : TE} (h : PE X e t) (w : ∀ σ H Q, t' σ H Q → t σ H Q) : PE X e t' := fun pins s σ H Q I q => h pins s σ H Q I (w σ H Q q)
theorem PT.imp {t t' : TT} (h : PT X e t) (w : ∀ σ H Q, t' σ H Q → t σ H Q) : PT X e t' := fun pins s σ H Q I q => h pins s σ H Q I (w σ H Q q)
theorem PA.imp {t t' : TA} (h : PA X es t) (w : ∀ σ H Q, t' σ H Q → t σ H Q) : PA X es t' := fun pos pins s σ H Q I q => h pos pins s σ H Q I (w σ H Q q)
theorem good0 {H Hs : Hp} {M : Bud} (g : Good H Hs M) : Good H Hs (fun b => (fun _ => 0) b + M b) := g.drop fun b => by simp
theorem stp0 (H Hs : Hp) (M : Bud) : Stp H Hs M H Hs (fun b => (fun _ => 0) b + M b) := by
  have e : (fun b => (fun _ => 0) b + M b) = M := by funext b; simp
  rw [e]
  exact Stp.refl H Hs M
theorem ok_k {v : V} (h : PE X e (tC v)) : PE X e (tM X.K (M.ret (.sc v))) := PE.imp h fun σ H Q ⟨δ, Hs, M, d, δ', g, r, e, q⟩ => by
  have := ret_ok e
  cases this
  exact q v H Hs (fun _ => 0) M (good0 g) (stp0 H Hs M) (.sc v _) r
theorem ok_late {i : Nat} (h : PE X e (tVar i)) : PE X e (tP X.K (lateM i)) := PE.imp h fun σ H Q ⟨δ, Hs, M, p, δ', g, r, e, q⟩ => by
  have fin : ∀ {d : D}, δ[i]? = some d → d ≠ .hole → p = .late i → δ' = δ → tVar i σ H Q := fun hd hn e1 e2 => by
    subst e1 e2
    obtain ⟨v, m1, m2, e3, _⟩ := r.slot hd hn
    exact ⟨v, e3, q v H Hs (fun _ => 0) M (good0 g) (stp0 H Hs M) e3 r⟩
  unfold lateM at e
  split at e
  · rename_i hd
    injection e with e
    cases e
    exact fin hd (by simp) rfl rfl
  · rename_i hd
    injection e with e
    cases e
    exact fin hd (by simp) rfl rfl
  · cases e
theorem ok_v {i : Nat} (h : PE X e (tVar i)) : PE X e (tM X.K (valV i)) := PE.imp h fun σ H Q ⟨δ, Hs, M, d, δ', g, s, e, q⟩ => by
  unfold valV at e
  split at e
  · rename_i u hd
    injection e with e
    cases e
    obtain ⟨v, m1, m2, e3, r, _⟩ := s.slot hd (by simp)
    cases r
    exact ⟨u, e3, q u H Hs (fun _ => 0) M (good0 g) (stp0 H Hs M) (.sc _ _) s⟩
  · rename_i k ds hd
    injection e with e
    cases e
    obtain ⟨v, m1, m2, e3, r, _⟩ := s.slot hd (by simp)
    cases r with
    | shd n r => exact ⟨_, e3, q _ H Hs (fun _ => 0) M (good0 g) (stp0 H Hs M) (.shd n r) s⟩
  · rename_i k ds hd
    injection e with e
    cases e
    obtain ⟨v, m1, m2, e3, r, l, f⟩ := s.slot hd (by simp)
    refine ⟨v, e3, ?_⟩
    have g2 : Good H Hs (fun b => m1 b + m2 b) := g.re fun b => by have := l b; omega
    have hsame := shH_same g2 (m := m1) fun b => by omega
    have r2 := Rep.share hsame (shH_at (H := H) (Hs := Hs) (m := m1)) r
    have st := Stp.share g2
    refine q v H (shH H Hs m1) (fun _ => 0) m2 (good0 g2.share) ⟨fun b o h _ => h, fun b h => ?_, st.grow, fun b h h' => ?_, fun b h => h⟩ r2 ?_
    · have h : (fun _ => 0) b + m2 b = 1 := h
      have := l b
      have := g.le b
      left; simp at h; omega
    · rcases st.shr b h h' with z | z
      · have z : m1 b + m2 b = 1 := z
        have := l b
        have := g.le b
        left; omega
      · exact .inr z
    · have z := f H (shH H Hs m1) (some v) (.node k false (shrL ds)) (fun _ => 0) hsame (fun _ _ _ => rfl) (.inr ⟨v, rfl, r2⟩)
      rw [set_self e3] at z
      exact z.mono fun b => by simp
  · cases e
theorem ok_tmp {c : M D} (h : PE X e (tM X.K c)) : PE X e (tP X.K (c.bnd fun d => M.ret (.tmp d))) := PE.imp h fun σ H Q ⟨δ, Hs, M, p, δ', g, s, e, q⟩ => by
  obtain ⟨d, δ1, e1, e2⟩ := bnd_ok e
  have := ret_ok e2
  cases this
  exact ⟨δ, Hs, M, d, _, g, s, e1, fun v H' Hs' m M' g' st r s' => q v H' Hs' m M' g' st r s'⟩
theorem seq2 {K : PySem.W.Frag} {ca cb : M Op} {σ : St} {H Hs : Hp} {M : Bud} {δ δ1 δ2 : List D} {p q : Op} {R : V → V → Hp → Prop} (g : Good H Hs M) (s : RepS K H Hs σ δ M) (e1 : ca δ = .ok (p, δ1)) (e2 : cb δ1 = .ok (q, δ2))
    (h : ∀ (x y : V) (H2 Hs2 : Hp) (m1 m2 M2 : Bud), Good H2 Hs2 (fun b => (m1 b + m2 b) + M2 b) → Stp H Hs M H2 Hs2 (fun b => (m1 b + m2 b) + M2 b) → RepP K H2 Hs2 σ x p m1 → RepP K H2 Hs2 σ y q m2 → RepS K H2 Hs2 σ δ2 M2 → R x y H2) :
    tP K ca σ H fun x H1 => tP K cb σ H1 fun y H2 => R x y H2 := by
  refine ⟨δ, Hs, M, p, δ1, g, s, e1, fun x H1 Hs1 m1 M1 g1 st1 r1 s1 => ⟨δ1, Hs1, M1, q, δ2, g1.re, s1, e2, fun y H2 Hs2 m2 M2 g2 st2 r2 s2 => ?_⟩⟩
  obtain ⟨G, S, k⟩ := step2 g g1 st1 g2 st2
  have le : ∀ b, m1 b + (m2 b + M2 b) ≤ 1 := G.le
  exact h x y H2 Hs2 m1 m2 M2 G.re (S.drop (fun b => by omega) le) (r1.frame st2.grow k) r2 s2
theorem view2 {K : PySem.W.Frag} {σ : St} {H Hs : Hp} {m1 m2 M : Bud} {δ δ1 δ2 : List D} {p q : Op} {x y : V} {w1 w2 : W} (g : Good H Hs (fun b => (m1 b + m2 b) + M b)) (s : RepS K H Hs σ δ M) (r1 : RepP K H Hs σ x p m1) (r2 : RepP K H Hs σ y q m2)
    (e1 : view p δ = .ok (w1, δ1)) (e2 : view q δ1 = .ok (w2, δ2)) : ∃ Hs' M', Good H Hs' (fun b => (m1 b + m2 b) + M' b) ∧ Stp H Hs (fun b => (m1 b + m2 b) + M b) H Hs' (fun b => (m1 b + m2 b) + M' b) ∧ View K H Hs' x w1 m1 ∧ View K H Hs' y w2 m2 ∧ RepS K H Hs' σ δ2 M' := by
  obtain ⟨Hs1, M1, g1, st1, v1, s1⟩ := view_ok (B := fun b => m1 b + m2 b) g s r1 e1
  obtain ⟨Hs2, M2, g2, st2, v2, s2⟩ := view_ok (B := fun b => m1 b + m2 b) g1 s1 (r2.frame st1.grow fun _ _ _ => rfl) e2
  refine ⟨Hs2, M2, g2, ?_, v1.frame st2.grow, v2, s2⟩
  have z := step2 (m1 := fun _ => 0) g (g1.re fun b => by simp) (st1.drop (fun b => by simp) g1.le) g2 st2
  exact z.2.1.drop (fun b => by simp) z.1.le
noncomputable def r2W (K : PySem.W.Frag) (f : W → W → Option D) : R2 := fun x y H Q => ∃ (Hs : Hp) (w1 w2 : W) (m1 m2 : Bud) (d : D), Same Hs H ∧ (∀ b, m1 b + m2 b ≤ 1) ∧ (∀ b, m1 b + m2 b = 1 → H b ≠ none) ∧ View K H Hs x w1 m1 ∧ View K H Hs y w2 m2 ∧ f w1 w2 = some d ∧ Outs K H Hs (fun b => m1 b + m2 b) d Q
theorem op2 {K : PySem.W.Frag} {ca cb : M Op} {f : W → W → Option D} {σ : St} {H : Hp} {Q : VK} (h : tM K (ca.bnd fun p => cb.bnd fun q => (view p).bnd fun x => (view q).bnd fun y => lift (f x y)) σ H Q) : tOp (r2W K f) (tP K ca) (tP K cb) σ H Q := by
  obtain ⟨δ, Hs, M, d, δ', g, s, e, q⟩ := h
  obtain ⟨p, δ1, e1, e⟩ := bnd_ok e
  obtain ⟨p2, δ2, e2, e⟩ := bnd_ok e
  obtain ⟨w1, δ3, e3, e⟩ := bnd_ok e
  obtain ⟨w2, δ4, e4, e⟩ := bnd_ok e
  obtain ⟨e5, rfl⟩ := lift_ok e
  refine seq2 g s e1 e2 fun x y H2 Hs2 m1 m2 M2 g2 st2 r1 r2 s2 => ?_
  obtain ⟨Hs3, M3, g3, st3, v1, v2, s3⟩ := view2 g2 s2 r1 r2 e3 e4
  have z := step2 (m1 := fun _ => 0) g (g2.re fun b => by simp) (st2.drop (fun b => by simp) g2.le) g3 st3
  have st : Stp H Hs M H2 Hs3 (fun b => (m1 b + m2 b) + M3 b) := z.2.1.drop (fun b => by simp) z.1.le
  exact ⟨Hs3, w1, w2, m1, m2, d, g3.sub, fun b => by have : (m1 b + m2 b) + M3 b ≤ 1 := g3.le b; omega, fun b hb => g3.has b (by have : (m1 b + m2 b) + M3 b ≤ 1 := g3.le b; show (m1 b + m2 b) + M3 b = 1; omega), v1, v2, e5, outs_of st g3 s3 q⟩
theorem ok_bin {op : Operator} {ca cb : M Op} (ho : OpR X (binaryOp op) (r2W X.K (binW op))) (ha : PE X a (tP X.K ca)) (hb : PE X b (tP X.K cb)) :
    PE X (.BinOp a op b pos) (tM X.K (ca.bnd fun p => cb.bnd fun q => (view p).bnd fun x => (view q).bnd fun y => lift (binW op x y))) := PE.imp (pe_op ho ha hb) fun σ H Q h => op2 h
theorem bin_ok (op : Operator) : OpR X (binaryOp op) (r2W X.K (binW op)) := by
  intro pins s σ H x y v u Q I rx ry h
  obtain ⟨Hs, w1, w2, m1, m2, d, hs, h1, h2, v1, v2, e, o⟩ := h
  unfold binW at e
  split at e
  · cases e; cases v1; cases v2; exact op_add pins s σ H _ _ v u Q I rx ry ⟨_, _, rfl, rfl, o.sc⟩
  · cases e; cases v1; cases v2; exact op_sub pins s σ H _ _ v u Q I rx ry ⟨_, _, rfl, rfl, o.sc⟩
  · split at e
    · rename_i hc; cases e; cases v1; cases v2; exact op_mul pins s σ H _ _ v u Q I rx ry ⟨_, _, rfl, rfl, hc, o.sc⟩
    · cases e
  · split at e
    · rename_i hc; cases e; cases v1; cases v2; exact op_fdiv pins s σ H _ _ v u Q I rx ry ⟨_, _, rfl, rfl, hc, o.sc⟩
    · cases e
  · split at e
    · rename_i hc; cases e; cases v1; cases v2; exact op_mod pins s σ H _ _ v u Q I rx ry ⟨_, _, rfl, rfl, hc, o.sc⟩
    · cases e
  · split at e
    · rename_i hc; cases e; cases v1; cases v2; exact op_pow pins s σ H _ _ v u Q I rx ry ⟨_, _, rfl, rfl, hc, o.sc⟩
    · cases e
  · split at e
    · rename_i hc; cases e; cases v1; cases v2; exact op_add_str pins s σ H _ _ v u Q I rx ry ⟨_, _, rfl, rfl, hc, o.sc⟩
    · cases e
  · unfold newL at e
    split at e
    · rename_i hc
      cases e
      cases v1 with
      | nd n1 r1 => cases v2 with
        | nd n2 r2 =>
          have l1 := r1.len
          have l2 := r2.len
          rw [List.length_append] at hc
          exact op_cat pins s σ H _ _ v u Q I rx ry ⟨_, _, _, _, rfl, rfl, n1, n2, by omega, fun p hp => o.new h1 h2 hp (show upd H p _ p = _ from upd_same) (r1.app r2)⟩
    · cases e
  · cases e
end
end T
namespace T
open PySem PySem.Spec L2
mutual
theorem Rep.den {K : PySem.W.Frag} {H Hs : Hp} (g : Same Hs H) : ∀ {v : V} {d : D} {m : Bud} {a : PyData}, Rep K H Hs v d m → py d = some a → Den K H v a
  | _, _, _, _, .sc .non _, h => by simp only [py, Option.some.injEq] at h; subst h; exact .non
  | _, _, _, _, .sc (.bl b) _, h => by simp only [py, Option.some.injEq] at h; subst h; exact .bl b
  | _, _, _, _, .sc (.int b) _, h => by simp only [py, Option.some.injEq] at h; subst h; exact .int b
  | _, _, _, _, .sc (.str b) _, h => by simp only [py, Option.some.injEq] at h; subst h; exact .str b
  | _, _, _, _, .sc (.byt b) _, h => by simp [py] at h
  | _, _, _, _, .sc (.flt b) _, h => by simp [py] at h
  | _, _, _, _, .sc (.ref b) _, h => by simp [py] at h
  | _, _, _, _, .sc (.ty b) _, h => by simp [py] at h
  | _, _, _, _, .hole v _, h => by simp [py] at h
  | _, _, _, _, .own (k := .lst) n r _, h => by
    simp only [py, Option.map_eq_some_iff] at h
    obtain ⟨x, h, rfl⟩ := h
    exact .lst (.inl (.inl n)) (RepL.den g r h)
  | _, _, _, _, .own (k := .frl) n r _, h => n.elim
  | _, _, _, _, .own (k := .tup) n r _, h => by
    simp only [py, Option.map_eq_some_iff] at h
    obtain ⟨x, h, rfl⟩ := h
    exact .tup (.inl (.inl n)) (RepL.den g r h)
  | _, _, _, _, .own (k := .ftp) n r _, h => n.elim
  | _, _, _, _, .own (k := .dic _) n r _, h => by simp [py] at h
  | _, _, _, _, .own (k := .ins _ _) n r _, h => by simp [py] at h
  | _, _, _, _, .shd (k := .lst) n r, h => by
    simp only [py, Option.map_eq_some_iff] at h
    obtain ⟨x, h, rfl⟩ := h
    exact .lst (.inl (.inl (g _ _ n))) (RepL.den g r h)
  | _, _, _, _, .shd (k := .frl) n r, h => by
    simp only [py, Option.map_eq_some_iff] at h
    obtain ⟨x, h, rfl⟩ := h
    exact .lst (g.seq n) (RepL.den g r h)
  | _, _, _, _, .shd (k := .tup) n r, h => by
    simp only [py, Option.map_eq_some_iff] at h
    obtain ⟨x, h, rfl⟩ := h
    exact .tup (.inl (.inl (g _ _ n))) (RepL.den g r h)
  | _, _, _, _, .shd (k := .ftp) n r, h => by
    simp only [py, Option.map_eq_some_iff] at h
    obtain ⟨x, h, rfl⟩ := h
    exact .tup (Same.tupq' g n) (RepL.den g r h)
  | _, _, _, _, .shd (k := .dic _) n r, h => by simp [py] at h
  | _, _, _, _, .shd (k := .ins _ _) n r, h => by simp [py] at h
theorem RepL.den {K : PySem.W.Frag} {H Hs : Hp} (g : Same Hs H) : ∀ {vs : List V} {ds : List D} {m : Bud} {as : List PyData}, RepL K H Hs vs ds m → pyL ds = some as → DenL K H vs as
  | _, _, _, _, .nil _, h => by simp only [pyL, Option.some.injEq] at h; subst h; exact .nil
  | _, _, _, _, .cons x y _, h => by
    simp only [pyL, Option.bind_eq_some_iff, Option.map_eq_some_iff] at h
    obtain ⟨a, h1, as, h2, rfl⟩ := h
    exact .cons (Rep.den g x h1) (RepL.den g y h2)
end
theorem View.den {K : PySem.W.Frag} {H Hs : Hp} (g : Same Hs H) {v : V} {w : W} {m : Bud} {a : PyData} (h : View K H Hs v w m) (e : py (toD w) = some a) : Den K H v a := by
  cases h with
  | sc v m => exact Rep.den g (.sc v m) e
  | @nd ad k vs ds m n r =>
    cases k with
    | lst =>
      simp only [toD, py, Option.map_eq_some_iff] at e
      obtain ⟨x, e, rfl⟩ := e
      exact .lst (.inl (.inl n)) (r.den g e)
    | frl =>
      simp only [toD, py, Option.map_eq_some_iff] at e
      obtain ⟨x, e, rfl⟩ := e
      exact .lst n (r.den g e)
    | tup =>
      simp only [toD, py, Option.map_eq_some_iff] at e
      obtain ⟨x, e, rfl⟩ := e
      exact .tup (.inl (.inl n)) (r.den g e)
    | ftp =>
      simp only [toD, py, Option.map_eq_some_iff] at e
      obtain ⟨x, e, rfl⟩ := e
      exact .tup n (r.den g e)
    | dic ks => simp [toD, py] at e
    | ins C fs => simp [toD, py] at e
section
variable {X : Cx} {e a b c : Expr} {es rest : List Expr} {pos : Pos}
theorem eqPy_ok {a b : PyData} {t : Bool} (h : eqPy a b = some t) : SeqAt.shaped a = true ∧ SeqAt.shaped b = true ∧ PyData.eqv a b = t := by
  unfold eqPy at h
  split at h
  · rename_i q
    exact ⟨q.1, q.2, Option.some.inj h⟩
  · cases h
theorem eqW_ok {K : PySem.W.Frag} {H Hs : Hp} (g : Same Hs H) {x y : V} {w1 w2 : W} {m1 m2 : Bud} {t : Bool} (v1 : View K H Hs x w1 m1) (v2 : View K H Hs y w2 m2) (h : eqW w1 w2 = some t) :
    (scal x y = true ∧ decide (x = y) = t) ∨ ∃ d e, Den K H x d ∧ Den K H y e ∧ SeqAt.shaped d = true ∧ SeqAt.shaped e = true ∧ PyData.eqv d e = t := by
  have go : ((py (toD w1)).bind fun a => (py (toD w2)).bind fun b => eqPy a b) = some t → ∃ d e, Den K H x d ∧ Den K H y e ∧ SeqAt.shaped d = true ∧ SeqAt.shaped e = true ∧ PyData.eqv d e = t := fun q => by
    simp only [Option.bind_eq_some_iff] at q
    obtain ⟨d, q1, e, q2, q3⟩ := q
    obtain ⟨s1, s2, s3⟩ := eqPy_ok q3
    exact ⟨d, e, v1.den g q1, v2.den g q2, s1, s2, s3⟩
  cases v1 with
  | sc u _ => cases v2 with
    | sc v _ =>
      have h : (if scal x y = true then some (decide (x = y)) else (py (.sc x)).bind fun a => (py (.sc y)).bind fun b => eqPy a b) = some t := h
      by_cases q : scal x y = true
      · rw [if_pos q] at h
        exact .inl ⟨q, Option.some.inj h⟩
      · rw [if_neg q] at h
        exact .inr (go h)
    | nd n r => exact .inr (go h)
  | nd n r => exact .inr (go h)
theorem cmp_ok (op : CmpOp) (hu : X.A.units + 64 < cLine) : OpR X (compareOp op) (r2W X.K fun x y => (cmpW op x y).map fun t => .sc (.bl t)) := by
  intro pins s σ H x y v u Q I rx ry h
  obtain ⟨Hs, w1, w2, m1, m2, d, hs, h1, h2, v1, v2, e, o⟩ := h
  simp only [Option.map_eq_some_iff] at e
  obtain ⟨t, e, rfl⟩ := e
  have q := o.sc
  unfold cmpW at e
  split at e
  · rcases eqW_ok hs v1 v2 e with ⟨h3, rfl⟩ | ⟨d, f, h3, h4, h5, h6, rfl⟩
    · exact op_eq pins s σ H _ _ v u Q I rx ry ⟨h3, q⟩
    · exact op_eqD hu pins s σ H _ _ v u Q I rx ry ⟨d, f, h3, h4, h5, h6, q⟩
  · simp only [Option.map_eq_some_iff] at e
    obtain ⟨t, e, rfl⟩ := e
    rcases eqW_ok hs v1 v2 e with ⟨h3, rfl⟩ | ⟨d, f, h3, h4, h5, h6, rfl⟩
    · exact op_ne pins s σ H _ _ v u Q I rx ry ⟨h3, q⟩
    · exact op_neD hu pins s σ H _ _ v u Q I rx ry ⟨d, f, h3, h4, h5, h6, q⟩
  · rename_i i j _ _
    cases v1; cases v2
    cases op with
    | Lt => cases e; exact op_lt pins s σ H _ _ v u Q I rx ry ⟨_, _, rfl, rfl, q⟩
    | LtE => cases e; exact op_le pins s σ H _ _ v u Q I rx ry ⟨_, _, rfl, rfl, q⟩
    | Gt => cases e; exact op_gt pins s σ H _ _ v u Q I rx ry ⟨_, _, rfl, rfl, q⟩
    | GtE => cases e; exact op_ge pins s σ H _ _ v u Q I rx ry ⟨_, _, rfl, rfl, q⟩
    | _ => cases e
  · cases e
theorem ok_cmp {op : CmpOp} {ca cb : M Op} (hu : X.A.units + 64 < cLine) (ha : PE X a (tP X.K ca)) (hb : PE X b (tP X.K cb)) (hm : behindInMarks op b = false := by first | exact nomark _ | with_unfolding_all rfl) :
    PE X (.Compare a [op] [b] pos) (tM X.K (ca.bnd fun p => cb.bnd fun q => (view p).bnd fun x => (view q).bnd fun y => lift ((cmpW op x y).map fun t => .sc (.bl t)))) := PE.imp (pe_cmpR (cmp_ok op hu) ha hb hm) fun σ H Q h => op2 h
theorem boolM_ok {c : M D} {δ : List D} {r : Bool × List D} (h : boolM c δ = .ok r) : c δ = .ok (.sc (.bl r.1), r.2) := by
  obtain ⟨d, δ1, e1, e2⟩ := bnd_ok h
  obtain ⟨b, δ2⟩ := r
  obtain ⟨e3, rfl⟩ := lift_ok e2
  cases d with
  | sc v => cases v with
    | bl t => cases e3; exact e1
    | _ => cases e3
  | _ => cases e3
theorem test_of {c : M D} {σ : St} {H : Hp} {Q : Bool → Hp → Prop} {K : PySem.W.Frag} (h : tT K (boolM c) σ H Q) : tM K c σ H fun x H' => ∃ k, x = .bl k ∧ Q k H' := by
  obtain ⟨δ, Hs, M, b, δ', g, s, e, q⟩ := h
  refine ⟨δ, Hs, M, .sc (.bl b), δ', g, s, boolM_ok e, fun v H' Hs' m M' g' st r s' => ?_⟩
  cases r
  exact ⟨b, rfl, q H' Hs' M' g'.re (st.drop (fun b => by omega) g'.le) s'⟩
theorem ok_cmpT {op : CmpOp} {ca cb : M Op} (hu : X.A.units + 64 < cLine) (ha : PE X a (tP X.K ca)) (hb : PE X b (tP X.K cb)) (hm : behindInMarks op b = false := by first | exact nomark _ | with_unfolding_all rfl) :
    PT X (.Compare a [op] [b] pos) (tT X.K (boolM (ca.bnd fun p => cb.bnd fun q => (view p).bnd fun x => (view q).bnd fun y => lift ((cmpW op x y).map fun t => .sc (.bl t))))) := PT.imp (pt_cmpR (cmp_ok op hu) ha hb hm) fun σ H Q h => op2 (test_of h)
theorem op1 {K : PySem.W.Frag} {ca : M Op} {f : W → Option D} {σ : St} {H : Hp} {Q : VK} {r : V → Hp → VK → Prop} (h : tM K ((ca.bnd view).bnd fun x => lift (f x)) σ H Q)
    (hr : ∀ (x : V) (H Hs : Hp) (w : W) (m : Bud) (d : D), Same Hs H → (∀ b, m b ≤ 1) → (∀ b, m b = 1 → H b ≠ none) → View K H Hs x w m → f w = some d → Outs K H Hs m d Q → r x H Q) : tUn r (tP K ca) σ H Q := by
  obtain ⟨δ, Hs, M, d, δ', g, s, e, q⟩ := h
  obtain ⟨w, δ2, e, e5⟩ := bnd_ok e
  obtain ⟨p, δ1, e1, e3⟩ := bnd_ok e
  obtain ⟨e6, rfl⟩ := lift_ok e5
  refine ⟨δ, Hs, M, p, δ1, g, s, e1, fun x H2 Hs2 m1 M2 g2 st2 r1 s2 => ?_⟩
  obtain ⟨Hs3, M3, g3, st3, v1, s3⟩ := view_ok (B := m1) g2 s2 r1 e3
  have z := step2 (m1 := fun _ => 0) g (g2.re fun b => by simp) (st2.drop (fun b => by simp) g2.le) g3 st3
  have st : Stp H Hs M H2 Hs3 (fun b => m1 b + M3 b) := z.2.1.drop (fun b => by simp) z.1.le
  exact hr x H2 Hs3 w m1 d g3.sub (fun b => by have : m1 b + M3 b ≤ 1 := g3.le b; omega) (fun b hb => g3.has b (by have : m1 b + M3 b ≤ 1 := g3.le b; show m1 b + M3 b = 1; omega)) v1 e6 (outs_of st g3 s3 q)
theorem ok_neg {ca : M Op} (ha : PE X a (tP X.K ca)) : PE X (.UnaryOp .USub a pos) (tM X.K ((ca.bnd view).bnd fun x => lift (negW x))) :=
  PE.imp (pe_un un_neg ha) fun σ H Q h => op1 h fun x H Hs w m d g h1 h2 v e o => by
    unfold negW at e
    split at e
    · cases e; cases v; exact ⟨_, rfl, o.sc⟩
    · cases e
theorem tru_of {K : PySem.W.Frag} {H Hs : Hp} {v : V} {w : W} {m : Bud} {t : Bool} (h : View K H Hs v w m) (e : truW w = some t) : TruV K v H t := by
  cases h with
  | sc v m =>
    cases v with
    | bl b => cases e; rfl
    | int i => cases e; show decide (i ≠ 0) = (i != 0); rw [Bool.eq_iff_iff]; simp
    | str x =>
      have e : (if x.length ≤ sizeLine then some (decide (x.length ≠ 0)) else none) = some t := e
      split at e
      · rename_i q
        cases e
        exact ⟨q, by rw [Bool.eq_iff_iff]; simp⟩
      · cases e
    | non => cases e; rfl
    | _ => cases e
  | @nd a k vs ds m n r =>
    have l : (!vs.isEmpty) = !ds.isEmpty := by
      have := r.len
      cases vs <;> cases ds <;> simp at this ⊢
    cases k with
    | lst => cases e; exact .inl ⟨vs, .inl (.inl n), by rw [l]⟩
    | frl => cases e; exact .inl ⟨vs, n, by rw [l]⟩
    | tup => cases e; exact .inr (.inl ⟨vs, .inl (.inl n), by rw [l]⟩)
    | ftp => cases e; exact .inr (.inl ⟨vs, n, by rw [l]⟩)
    | dic ks =>
      cases e
      obtain ⟨hl, n⟩ := n
      refine .inr (.inr ⟨_, n, ?_⟩)
      rw [← l]
      cases ks <;> cases vs <;> simp at hl ⊢
    | ins C fs => cases e
theorem ok_tst {ca : M Op} (ha : PE X e (tP X.K ca)) (he : ∀ whole, isTrue e X.env whole = (do let v ← whole; standAt e.pos; holding [v] (truthy v)) := by intro _; rfl) :
    PT X e (tT X.K (ca.bnd fun p => (view p).bnd fun w => lift (truW w))) := PT.imp (pt_truth ha he) fun σ H Q h => by
  obtain ⟨δ, Hs, M, t, δ', g, s, e, q⟩ := h
  obtain ⟨p, δ1, e1, e⟩ := bnd_ok e
  obtain ⟨w, δ2, e3, e5⟩ := bnd_ok e
  obtain ⟨e6, rfl⟩ := lift_ok e5
  refine ⟨δ, Hs, M, p, δ1, g, s, e1, fun x H2 Hs2 m1 M2 g2 st2 r1 s2 => ?_⟩
  obtain ⟨Hs3, M3, g3, st3, v1, s3⟩ := view_ok (B := m1) g2 s2 r1 e3
  have z := step2 (m1 := fun _ => 0) g (g2.re fun b => by simp) (st2.drop (fun b => by simp) g2.le) g3 st3
  exact ⟨t, tru_of v1 e6, q H2 Hs3 M3 g3.re (z.2.1.drop (fun b => by simp) z.1.le) s3⟩
end
end T
namespace T
open PySem PySem.Spec L2
section
variable {X : Cx} {e a b c : Expr} {es rest : List Expr} {pos : Pos}
theorem PW.imp {t t' : TT} (h : PW X e t) (w : ∀ σ H Q, t' σ H Q → t σ H Q) : PW X e t' := fun wh pins s σ H Q I q => h wh pins s σ H Q I (w σ H Q q)
theorem tt_seq {K : PySem.W.Frag} {ca : M Bool} {f : Bool → M Bool} {σ : St} {H : Hp} {Q : Bool → Hp → Prop} (h : tT K (ca.bnd f) σ H Q) : tT K ca σ H fun t H1 => tT K (f t) σ H1 Q := by
  obtain ⟨δ, Hs, M, b, δ', g, s, e, q⟩ := h
  obtain ⟨t, δ1, e1, e2⟩ := bnd_ok e
  refine ⟨δ, Hs, M, t, δ1, g, s, e1, fun H1 Hs1 M1 g1 st1 s1 => ⟨δ1, Hs1, M1, b, δ', g1, s1, e2, fun H2 Hs2 M2 g2 st2 s2 => ?_⟩⟩
  have z := step2 (m1 := fun _ => 0) g (g1.re fun b => by simp) (st1.drop (fun b => by simp) g1.le) g2 st2
  exact q H2 Hs2 M2 g2 (z.2.1.drop (fun b => by simp) z.1.le) s2
theorem tt_ret {K : PySem.W.Frag} {t : Bool} {σ : St} {H : Hp} {Q : Bool → Hp → Prop} (h : tT K (M.ret t) σ H Q) : Q t H := by
  obtain ⟨δ, Hs, M, b, δ', g, s, e, q⟩ := h
  have := ret_ok e
  cases this
  exact q H Hs M g (Stp.refl _ _ _) s
theorem ok_and1 {ca : M Bool} (ha : PT X a (tT X.K ca)) : PW X (.BoolOp .And [a] pos) (tT X.K ca) := pw_and1 ha
theorem ok_or1 {ca : M Bool} (ha : PT X a (tT X.K ca)) : PW X (.BoolOp .Or [a] pos) (tT X.K ca) := pw_or1 ha
theorem ok_andT {ca cb : M Bool} (ha : PT X a (tT X.K ca)) (hb : PW X (.BoolOp .And (b :: rest) pos) (tT X.K cb)) : PW X (.BoolOp .And (a :: b :: rest) pos) (tT X.K (ca.bnd fun t => if t then cb else M.ret false)) :=
  PW.imp (pw_and ha hb) fun σ H Q h => by
    obtain ⟨δ, Hs, M, t, δ', g, s, e, q⟩ := tt_seq h
    refine ⟨δ, Hs, M, t, δ', g, s, e, fun H' Hs' M' g' st s' => ?_⟩
    have z := q H' Hs' M' g' st s'
    cases t with
    | true => exact z
    | false => exact tt_ret z
theorem ok_orT {ca cb : M Bool} (ha : PT X a (tT X.K ca)) (hb : PW X (.BoolOp .Or (b :: rest) pos) (tT X.K cb)) : PW X (.BoolOp .Or (a :: b :: rest) pos) (tT X.K (ca.bnd fun t => if t then M.ret true else cb)) :=
  PW.imp (pw_or ha hb) fun σ H Q h => by
    obtain ⟨δ, Hs, M, t, δ', g, s, e, q⟩ := tt_seq h
    refine ⟨δ, Hs, M, t, δ', g, s, e, fun H' Hs' M' g' st s' => ?_⟩
    have z := q H' Hs' M' g' st s'
    cases t with
    | false => exact z
    | true => exact tt_ret z
theorem ok_notT {ca : M Bool} (ha : PT X a (tT X.K ca)) : PT X (.UnaryOp .Not a pos) (tT X.K (ca.bnd fun t => M.ret (!t))) :=
  PT.imp (pt_not ha) fun σ H Q h => by
    obtain ⟨δ, Hs, M, t, δ', g, s, e, q⟩ := tt_seq h
    exact ⟨δ, Hs, M, t, δ', g, s, e, fun H' Hs' M' g' st s' => tt_ret (q H' Hs' M' g' st s')⟩
theorem RepL.at {K : PySem.W.Frag} {H Hs : Hp} {vs : List V} {ds : List D} {m : Bud} {j : Nat} {d : D} (r : RepL K H Hs vs ds m) (e : ds[j]? = some d) : ∃ (v : V) (m1 : Bud), vs[j]? = some v ∧ Rep K H Hs v d m1 ∧ ∀ b, m1 b ≤ m b := r.sep.get e
theorem Outs.part {K : PySem.W.Frag} {H Hs : Hp} {m m1 : Bud} {v : V} {d : D} {Q : VK} (h : Outs K H Hs m d Q) (hm : ∀ b, m b ≤ 1) (hh : ∀ b, m b = 1 → H b ≠ none) (l : ∀ b, m1 b ≤ m b) (r : Rep K H Hs v d m1) : Q v H :=
  h v H m1 (Same.refl _) (fun b => Nat.le_trans (l b) (hm b)) (fun b e => hh b (by have := l b; have := hm b; omega)) (fun b _ => l b) r
theorem ixN_eq (n : Nat) (i : Int) : ixN' n i = ixN n i := rfl
theorem ix_ok : IxR X (r2W X.K ixW) := by
  intro value slice pins s σ H x y v u Q I rx ry h hsl
  obtain ⟨Hs, w1, w2, m1, m2, d, hs, h1, h2, v1, v2, e, o⟩ := h
  have fin : ∀ {ds : List D} {vs : List V} {i : Int}, RepL X.K H Hs vs ds m1 → ((ixN' ds.length i).bind fun j => ds[j]?) = some d → ∃ z, atI vs i = some z ∧ Q z H := fun {ds vs i} r e => by
    simp only [Option.bind_eq_some_iff] at e
    obtain ⟨j, e1, e2⟩ := e
    obtain ⟨z, m3, e3, rz, l⟩ := r.at e2
    refine ⟨z, ?_, o.part h1 h2 (fun b => by have := l b; omega) rz⟩
    unfold atI
    rw [r.len, ← ixN_eq, e1]
    exact e3
  unfold ixW at e
  split at e
  · cases v1 with
    | nd n r => cases v2; obtain ⟨z, e1, q⟩ := fin r e; exact ix_list value slice pins s σ H _ _ v u Q I rx ry ⟨_, _, _, z, rfl, rfl, .inl (.inl n), e1, q⟩ hsl
  · cases v1 with
    | nd n r => cases v2; obtain ⟨z, e1, q⟩ := fin r e; exact ix_list value slice pins s σ H _ _ v u Q I rx ry ⟨_, _, _, z, rfl, rfl, n, e1, q⟩ hsl
  · cases v1 with
    | nd n r => cases v2; obtain ⟨z, e1, q⟩ := fin r e; exact ix_tup value slice pins s σ H _ _ v u Q I rx ry ⟨_, _, _, z, rfl, rfl, .inl (.inl n), e1, q⟩ hsl
  · cases v1 with
    | nd n r => cases v2; obtain ⟨z, e1, q⟩ := fin r e; exact ix_tup value slice pins s σ H _ _ v u Q I rx ry ⟨_, _, _, z, rfl, rfl, n, e1, q⟩ hsl
  · split at e
    · rename_i z i hz
      cases v1; cases v2
      simp only [Option.map_eq_some_iff] at e
      obtain ⟨c, e, rfl⟩ := e
      exact ix_str value slice pins s σ H _ _ v u Q I rx ry ⟨_, _, c, rfl, rfl, hz, e, o.sc⟩ hsl
    · cases e
  · cases e
theorem ok_ix {ca cb : M Op} (ha : PE X a (tP X.K ca)) (hb : PE X b (tP X.K cb)) (hs : PlainIx b := by intro _ _; rfl) :
    PE X (.Subscript a b pos) (tM X.K (ca.bnd fun p => cb.bnd fun q => (view p).bnd fun x => (view q).bnd fun y => lift (ixW x y))) := PE.imp (pe_ix ix_ok ha hb hs) fun σ H Q h => op2 h
end
end T
namespace T
open PySem PySem.Spec L2
section
variable {X : Cx} {e a b c : Expr} {es rest : List Expr} {pos : Pos}
theorem tG.mono {α : Type} {K : PySem.W.Frag} {c : M α} {R : Hp → Hp → St → α → V → Bud → Prop} {σ : St} {H : Hp} {Q Q' : VK} (h : tG K c R σ H Q) (w : ∀ v H', Q v H' → Q' v H') : tG K c R σ H Q' := by
  obtain ⟨δ, Hs, M, a, δ', g, s, e, q⟩ := h
  exact ⟨δ, Hs, M, a, δ', g, s, e, fun v H' Hs' m M' g' st r s' => w v H' (q v H' Hs' m M' g' st r s')⟩
theorem RepL.take {K : PySem.W.Frag} {H Hs : Hp} {vs : List V} {ds : List D} {m : Bud} (r : RepL K H Hs vs ds m) (n : Nat) : RepL K H Hs (vs.take n) (ds.take n) m := (r.sep.take n).repL
theorem RepL.drop {K : PySem.W.Frag} {H Hs : Hp} {vs : List V} {ds : List D} {m : Bud} (r : RepL K H Hs vs ds m) (n : Nat) : RepL K H Hs (vs.drop n) (ds.drop n) m := (r.sep.drop n).repL
noncomputable def rSlW (K : PySem.W.Frag) : V → Option Int → Option Int → Hp → VK → Prop := fun x lo hi H Q => ∃ (Hs : Hp) (w : W) (m : Bud) (d : D), Same Hs H ∧ (∀ b, m b ≤ 1) ∧ (∀ b, m b = 1 → H b ≠ none) ∧ View K H Hs x w m ∧ slD w lo hi = some d ∧ Outs K H Hs m d Q
theorem sl_ok : SlR X (rSlW X.K) := by
  intro pins s σ H x v vl vu lo hi sl Q I rx hsl pl pu h
  obtain ⟨Hs, w, m, d, hs, h1, h2, v1, e, o⟩ := h
  have go : ∀ {a : Addr} {vs : List V} {ds : List D}, RepL X.K H Hs vs ds m → d = .node .lst true (cutD ds lo hi) → ∀ p, H p = none → Q (.ref p) (upd H p (.lst (cutV vs lo hi))) := fun {a vs ds} r e p hp => by
    subst e
    refine o.new h1 h2 hp (vs := cutV vs lo hi) upd_same ?_
    unfold cutV cutD
    rw [r.len]
    exact (r.drop _).take _
  unfold slD at e
  split at e
  · cases v1 with
    | nd n r => exact sl_list pins s σ H _ v vl vu lo hi sl Q I rx hsl pl pu ⟨_, _, rfl, .inl (.inl n), go (a := 0) r (Option.some.inj e).symm⟩
  · cases v1 with
    | nd n r => exact sl_list pins s σ H _ v vl vu lo hi sl Q I rx hsl pl pu ⟨_, _, rfl, n, go (a := 0) r (Option.some.inj e).symm⟩
  · split at e
    · rename_i hz
      cases e
      cases v1
      exact sl_str pins s σ H _ v vl vu lo hi sl Q I rx hsl pl pu ⟨_, rfl, hz, o.sc⟩
    · cases e
  · cases e
noncomputable def tW (K : PySem.W.Frag) (c : M (Option Int)) : TO := fun σ H Q => ∃ (δ : List D) (Hs : Hp) (M : Bud) (l : Option Int) (δ' : List D), Good H Hs M ∧ RepS K H Hs σ δ M ∧ c δ = .ok (l, δ') ∧
  ∀ (H' Hs' : Hp) (M' : Bud), Good H' Hs' M' → Stp H Hs M H' Hs' M' → RepS K H' Hs' σ δ' M' → Q l H'
theorem PO.imp {o : Option Expr} {t t' : TO} (h : PO X o t) (w : ∀ σ H Q, t' σ H Q → t σ H Q) : PO X o t' := fun pins s σ H Q I q => h pins s σ H Q I (w σ H Q q)
theorem ok_part {ca : M Op} (ha : PE X a (tP X.K ca)) : PO X (some a) (tW X.K ((ca.bnd view).bnd fun w => lift (intP w))) := PO.imp (po_some ha) fun σ H Q h => by
  obtain ⟨δ, Hs, M, l, δ', g, s, e, q⟩ := h
  obtain ⟨w, δ2, e, e5⟩ := bnd_ok e
  obtain ⟨p, δ1, e1, e3⟩ := bnd_ok e
  obtain ⟨e6, rfl⟩ := lift_ok e5
  refine ⟨δ, Hs, M, p, δ1, g, s, e1, fun x H2 Hs2 m1 M2 g2 st2 r1 s2 => ?_⟩
  obtain ⟨Hs3, M3, g3, st3, v1, s3⟩ := view_ok (B := m1) g2 s2 r1 e3
  have z := step2 (m1 := fun _ => 0) g (g2.re fun b => by simp) (st2.drop (fun b => by simp) g2.le) g3 st3
  have fin := q H2 Hs3 M3 g3.re (z.2.1.drop (fun b => by simp) z.1.le) s3
  cases v1 with
  | sc u _ => cases x with
    | int i => cases e6; exact ⟨i, rfl, fin⟩
    | _ => cases e6
  | nd n r => cases e6
variable {lo hi : Option Expr} {ca : M Op} {cl ch : M (Option Int)} {p2 : Pos}
theorem ok_sl (ha : PE X a (tP X.K ca)) (hl : PO X lo (tW X.K cl)) (hh : PO X hi (tW X.K ch)) :
    PE X (.Subscript a (.Slice lo hi none p2) pos) (tM X.K (ca.bnd fun p => cl.bnd fun l => ch.bnd fun h => (view p).bnd fun x => lift (slD x l h))) :=
  PE.imp (pe_slice sl_ok ha hl hh) fun σ H Q h => by
    obtain ⟨δ, Hs, M, d, δ', g, s, e, q⟩ := h
    obtain ⟨p, δ1, e1, e⟩ := bnd_ok e
    obtain ⟨l, δ2, e2, e⟩ := bnd_ok e
    obtain ⟨u, δ3, e3, e⟩ := bnd_ok e
    obtain ⟨w, δ4, e4, e⟩ := bnd_ok e
    obtain ⟨e7, rfl⟩ := lift_ok e
    refine ⟨δ, Hs, M, p, δ1, g, s, e1, fun x H1 Hs1 m1 M1 g1 st1 r1 s1 => ⟨δ1, Hs1, M1, l, δ2, g1.re, s1, e2, fun H2 Hs2 M2 g2 st2 s2 => ⟨δ2, Hs2, M2, u, δ3, g2, s2, e3, fun H3 Hs3 M3 g3 st3 s3 => ?_⟩⟩⟩
    obtain ⟨G2, S2, k2⟩ := step2 g g1 st1 g2 st2
    obtain ⟨G3, S3, k3⟩ := step2 g G2 S2 g3 st3
    have r2 := RepP.frame st2.grow k2 r1
    have r3 := RepP.frame st3.grow (fun b hb hn => k3 b hb hn) r2
    obtain ⟨Hs4, M4, g4, st4, v4, s4⟩ := view_ok (B := m1) G3 s3 r3 e4
    have z := step2 (m1 := fun _ => 0) g (G3.re fun b => by simp) (S3.drop (fun b => by simp) G3.le) g4 st4
    have S4 : Stp H Hs M H3 Hs4 (fun b => m1 b + M4 b) := z.2.1.drop (fun b => by simp) z.1.le
    have le : ∀ b, m1 b + M4 b ≤ 1 := g4.le
    exact ⟨Hs4, w, m1, d, g4.sub, fun b => by have := le b; omega, fun b hb => g4.has b (by have := le b; show m1 b + M4 b = 1; omega), v4, e7, outs_of S4 g4 s4 q⟩
theorem ok_pa0 : PA X [] (tPs X.K (M.ret [])) := PA.imp pa_nil fun σ H Q h => by
  obtain ⟨δ, Hs, M, b, δ', g, s, e, q⟩ := h
  have := ret_ok e
  cases this
  exact q [] H Hs (fun _ => 0) M (good0 g) (stp0 _ _ _) trivial s
theorem ok_pa {cs : M (List Op)} (ha : PE X e (tP X.K ca)) (hr : PA X es (tPs X.K cs)) (hs : starEach (e :: es) X.env = (false, eval e X.env) :: starEach es X.env := by rfl) :
    PA X (e :: es) (tPs X.K (ca.bnd fun p => cs.bnd fun ps => M.ret (p :: ps))) := PA.imp (pa_cons ha hr hs) fun σ H Q h => by
  obtain ⟨δ, Hs, M, b, δ', g, s, e, q⟩ := h
  obtain ⟨p, δ1, e1, e⟩ := bnd_ok e
  obtain ⟨ps, δ2, e2, e⟩ := bnd_ok e
  have := ret_ok e
  cases this
  refine ⟨δ, Hs, M, p, δ1, g, s, e1, fun x H1 Hs1 m1 M1 g1 st1 r1 s1 => ⟨δ1, Hs1, M1, ps, _, g1.re, s1, e2, fun xs H2 Hs2 m2 M2 g2 st2 r2 s2 => ?_⟩⟩
  obtain ⟨G2, S2, k2⟩ := step2 g g1 st1 g2 st2
  exact q (x :: xs) H2 Hs2 (fun b => m1 b + m2 b) M2 (G2.re fun b => by omega) (S2.drop (fun b => by omega) G2.le) ⟨m1, m2, r1.frame st2.grow k2, r2, fun b => Nat.le_refl _⟩ s2
theorem ok_ds0 : PA X [] (tDs X.K (M.ret [])) := PA.imp pa_nil fun σ H Q h => by
  obtain ⟨δ, Hs, M, b, δ', g, s, e, q⟩ := h
  have := ret_ok e
  cases this
  exact q [] H Hs (fun _ => 0) M (good0 g) (stp0 _ _ _) (.nil _) s
theorem ok_ds {c : M D} {cs : M (List D)} (ha : PE X e (tM X.K c)) (hr : PA X es (tDs X.K cs)) (hs : starEach (e :: es) X.env = (false, eval e X.env) :: starEach es X.env := by rfl) :
    PA X (e :: es) (tDs X.K (c.bnd fun p => cs.bnd fun ps => M.ret (p :: ps))) := PA.imp (pa_cons ha hr hs) fun σ H Q h => by
  obtain ⟨δ, Hs, M, b, δ', g, s, e, q⟩ := h
  obtain ⟨p, δ1, e1, e⟩ := bnd_ok e
  obtain ⟨ps, δ2, e2, e⟩ := bnd_ok e
  have := ret_ok e
  cases this
  refine ⟨δ, Hs, M, p, δ1, g, s, e1, fun x H1 Hs1 m1 M1 g1 st1 r1 s1 => ⟨δ1, Hs1, M1, ps, _, g1.re, s1, e2, fun xs H2 Hs2 m2 M2 g2 st2 r2 s2 => ?_⟩⟩
  obtain ⟨G2, S2, k2⟩ := step2 g g1 st1 g2 st2
  exact q (x :: xs) H2 Hs2 (fun b => m1 b + m2 b) M2 (G2.re fun b => by omega) (S2.drop (fun b => by omega) G2.le) (.cons (r1.frame st2.grow k2) r2 fun b => Nat.le_refl _) s2
theorem tds_new {K : PySem.W.Frag} {cs : M (List D)} {f : List D → Option D} {σ : St} {H : Hp} {Q : VK} (h : tM K (cs.bnd fun ds => lift (f ds)) σ H Q) : tDs K cs σ H fun vs H1 => ∃ (Hs : Hp) (m : Bud) (ds : List D) (d : D), (∀ b, m b ≤ 1) ∧ (∀ b, m b = 1 → H1 b ≠ none) ∧ RepL K H1 Hs vs ds m ∧ f ds = some d ∧ Outs K H1 Hs m d Q := by
  obtain ⟨δ, Hs, M, b, δ', g, s, e, q⟩ := h
  obtain ⟨ds, δ1, e1, e⟩ := bnd_ok e
  obtain ⟨e2, rfl⟩ := lift_ok e
  refine ⟨δ, Hs, M, ds, _, g, s, e1, fun vs H1 Hs1 m1 M1 g1 st1 r1 s1 => ⟨Hs1, m1, ds, b, fun b => by have : m1 b + M1 b ≤ 1 := g1.le b; omega, fun b hb => g1.has b (by have : m1 b + M1 b ≤ 1 := g1.le b; show m1 b + M1 b = 1; omega), r1, e2, outs_of st1 g1 s1 q⟩⟩
theorem ok_lst {cs : M (List D)} (h : PA X es (tDs X.K cs)) : PE X (.List es pos) (tM X.K (cs.bnd fun ds => lift (newL ds))) := PE.imp (pe_lst h) fun σ H Q hq => by
  obtain ⟨δ, Hs, M, ds, δ', g, s, e, q⟩ := tds_new hq
  refine ⟨δ, Hs, M, ds, δ', g, s, e, fun vs H1 Hs1 m1 M1 g1 st1 r1 s1 => ?_⟩
  obtain ⟨Hs2, m, ds, d, h1, h2, r, e, o⟩ := q vs H1 Hs1 m1 M1 g1 st1 r1 s1
  unfold newL at e
  split at e
  · rename_i hl
    cases e
    exact ⟨by rw [r.len]; exact hl, fun p hp => o.new h1 h2 hp (vs := vs) upd_same r⟩
  · cases e
end
end T
namespace T
open PySem PySem.Spec L2
noncomputable def Views (K : PySem.W.Frag) (H Hs : Hp) : List V → List W → Bud → Prop
  | [], [], _ => True
  | v :: vs, w :: ws, m => ∃ m1 m2 : Bud, View K H Hs v w m1 ∧ Views K H Hs vs ws m2 ∧ ∀ b, m1 b + m2 b ≤ m b
  | _, _, _ => False
theorem views_ok {K : PySem.W.Frag} {H : Hp} {σ : St} {B : Bud} : ∀ {ps : List Op} {vs : List V} {Hs : Hp} {δ δ' : List D} {M m : Bud} {ws : List W}, Good H Hs (fun b => B b + M b) → RepS K H Hs σ δ M → RepPs K H Hs σ vs ps m → views ps δ = .ok (ws, δ') →
    ∃ Hs' M', Good H Hs' (fun b => B b + M' b) ∧ Stp H Hs (fun b => B b + M b) H Hs' (fun b => B b + M' b) ∧ Views K H Hs' vs ws m ∧ RepS K H Hs' σ δ' M'
  | [], [], Hs, δ, δ', M, m, ws, g, s, r, e => by
    have := ret_ok e
    cases this
    exact ⟨Hs, M, g, Stp.refl _ _ _, trivial, s⟩
  | [], _ :: _, _, _, _, _, _, _, _, _, r, _ => r.elim
  | _ :: _, [], _, _, _, _, _, _, _, _, r, _ => r.elim
  | p :: ps, v :: vs, Hs, δ, δ', M, m, ws, g, s, ⟨m1, m2, r1, r2, l⟩, e => by
    obtain ⟨w, δ1, e1, e⟩ := bnd_ok e
    obtain ⟨ws', δ2, e2, e⟩ := bnd_ok e
    have := ret_ok e
    cases this
    obtain ⟨Hs1, M1, g1, st1, v1, s1⟩ := view_ok g s r1 e1
    obtain ⟨Hs2, M2, g2, st2, v2, s2⟩ := views_ok g1 s1 (r2.frame st1.grow fun _ _ _ => rfl) e2
    have z := step2 (m1 := fun _ => 0) g (g1.re fun b => by simp) (st1.drop (fun b => by simp) g1.le) g2 st2
    exact ⟨Hs2, M2, g2, z.2.1.drop (fun b => by simp) z.1.le, ⟨m1, m2, v1.frame st2.grow, v2, l⟩, s2⟩
noncomputable def rNW (K : PySem.W.Frag) (f : List W → Option D) : List V → Hp → VK → Prop := fun vs H Q => ∃ (Hs : Hp) (ws : List W) (m : Bud) (d : D), Same Hs H ∧ (∀ b, m b ≤ 1) ∧ (∀ b, m b = 1 → H b ≠ none) ∧ Views K H Hs vs ws m ∧ f ws = some d ∧ Outs K H Hs m d Q
theorem opN {K : PySem.W.Frag} {cs : M (List Op)} {f : List W → Option D} {σ : St} {H : Hp} {Q : VK} (h : tM K (cs.bnd fun ps => (views ps).bnd fun ws => lift (f ws)) σ H Q) : tPs K cs σ H fun vs H1 => rNW K f vs H1 Q := by
  obtain ⟨δ, Hs, M, d, δ', g, s, e, q⟩ := h
  obtain ⟨ps, δ1, e1, e⟩ := bnd_ok e
  obtain ⟨ws, δ2, e2, e⟩ := bnd_ok e
  obtain ⟨e3, rfl⟩ := lift_ok e
  refine ⟨δ, Hs, M, ps, δ1, g, s, e1, fun vs H1 Hs1 m1 M1 g1 st1 r1 s1 => ?_⟩
  obtain ⟨Hs2, M2, g2, st2, v2, s2⟩ := views_ok (B := m1) g1 s1 r1 e2
  have z := step2 (m1 := fun _ => 0) g (g1.re fun b => by simp) (st1.drop (fun b => by simp) g1.le) g2 st2
  have S : Stp H Hs M H1 Hs2 (fun b => m1 b + M2 b) := z.2.1.drop (fun b => by simp) z.1.le
  have le : ∀ b, m1 b + M2 b ≤ 1 := g2.le
  exact ⟨Hs2, ws, m1, d, g2.sub, fun b => by have := le b; omega, fun b hb => g2.has b (by have := le b; show m1 b + M2 b = 1; omega), v2, e3, outs_of S g2 s2 q⟩
theorem Views.one {K : PySem.W.Frag} {H Hs : Hp} {vs : List V} {w : W} {m : Bud} (h : Views K H Hs vs [w] m) : ∃ (v : V) (m1 : Bud), vs = [v] ∧ View K H Hs v w m1 ∧ ∀ b, m1 b ≤ m b := by
  cases vs with
  | nil => exact h.elim
  | cons v vs =>
    obtain ⟨m1, m2, h1, h2, l⟩ := h
    cases vs with
    | nil => exact ⟨v, m1, rfl, h1, fun b => by have := l b; omega⟩
    | cons _ _ => exact h2.elim
theorem Views.two {K : PySem.W.Frag} {H Hs : Hp} {vs : List V} {w w' : W} {m : Bud} (h : Views K H Hs vs [w, w'] m) : ∃ (v v' : V) (m1 m2 : Bud), vs = [v, v'] ∧ View K H Hs v w m1 ∧ View K H Hs v' w' m2 ∧ ∀ b, m1 b + m2 b ≤ m b := by
  cases vs with
  | nil => exact h.elim
  | cons v vs =>
    obtain ⟨m1, m2, h1, h2, l⟩ := h
    obtain ⟨v', m3, rfl, h3, l'⟩ := Views.one h2
    exact ⟨v, v', m1, m3, rfl, h1, h3, fun b => by have := l b; have := l' b; omega⟩
section
variable {X : Cx} {e : Expr} {es : List Expr} {pos p : Pos} {x : Str} {id ty : String} {f : BF} {cs : M (List Op)}
theorem ok_bfB (hc : CallR X (.builtin id) (rNW X.K (bfW f))) (hg : Gl X x) (hm : X.mg x = none) (hv : bootBuiltins x = some (.builtin id)) (ha : PA X (e :: es) (tPs X.K cs)) (hn : x ≠ "__name__" := by decide) (hdb : (x == ("__debug__" : Str)) = false := by decide)
    (he : starEach (e :: es) X.env = (false, eval e X.env) :: starEach es X.env := by rfl) (hpl : (backTo pos (starEach es X.env)).any (·.1) = false := by rfl) :
    PE X (.Call (.Name x p) (e :: es) [] pos) (tM X.K (cs.bnd fun ps => (views ps).bnd fun ws => lift (bfW f ws))) := PE.imp (pe_callB hc hg hm hv ha hn hdb he hpl) fun σ H Q h => opN h
theorem ok_bfT (hc : CallR X (.type ty) (rNW X.K (bfW f))) (hg : Gl X x) (hm : X.mg x = none) (hv : bootBuiltins x = some (.type ty)) (ha : PA X (e :: es) (tPs X.K cs)) (hn : x ≠ "__name__" := by decide) (hdb : (x == ("__debug__" : Str)) = false := by decide)
    (he : starEach (e :: es) X.env = (false, eval e X.env) :: starEach es X.env := by rfl) (hpl : (backTo pos (starEach es X.env)).any (·.1) = false := by rfl) :
    PE X (.Call (.Name x p) (e :: es) [] pos) (tM X.K (cs.bnd fun ps => (views ps).bnd fun ws => lift (bfW f ws))) := PE.imp (pe_callTy hc hg hm hv ha hn hdb he hpl) fun σ H Q h => opN h
theorem len_ok : CallR X (.builtin "len") (rNW X.K (bfW .len)) := by
  intro pins s σ H xs us Q I r h
  obtain ⟨Hs, ws, m, d, hs, h1, h2, v, e, o⟩ := h
  replace e : lenB _ = _ := e
  unfold lenB at e
  split at e <;> first | (rename_i z; cases z; done) | skip
  all_goals first
    | (obtain ⟨y, m1, rfl, v, l⟩ := v.one
       cases v with
       | nd n r' =>
         have hl := r'.len
         cases e
         first
         | exact call_len_seq pins s σ H _ us Q I r ⟨_, _, rfl, .inl (.inl (.inl n)), by rw [hl]; exact o.sc⟩
         | exact call_len_seq pins s σ H _ us Q I r ⟨_, _, rfl, .inl n, by rw [hl]; exact o.sc⟩
         | exact call_len_seq pins s σ H _ us Q I r ⟨_, _, rfl, .inr n, by rw [hl]; exact o.sc⟩
         | exact call_len_seq pins s σ H _ us Q I r ⟨_, _, rfl, .inr (.inl (.inl n)), by rw [hl]; exact o.sc⟩
         | (obtain ⟨n1, n2⟩ := n
            exact call_lenD pins s σ H _ us Q I r ⟨_, _, rfl, n2, by rw [List.length_zip, n1, Nat.min_self, hl]; exact o.sc⟩))
    | (obtain ⟨y, m1, rfl, v, l⟩ := v.one
       split at e
       · rename_i hz
         cases e
         cases v
         exact call_len_str pins s σ H _ us Q I r ⟨_, rfl, hz, o.sc⟩
       · cases e)
    | cases e
theorem abs_ok : CallR X (.builtin "abs") (rNW X.K (bfW .abs)) := by
  intro pins s σ H xs us Q I r h
  obtain ⟨Hs, ws, m, d, hs, h1, h2, v, e, o⟩ := h
  replace e : absB _ = _ := e
  unfold absB at e
  split at e <;> first | (rename_i z; cases z; done) | skip
  all_goals first
    | (obtain ⟨y, m1, rfl, v, l⟩ := v.one
       cases v
       cases e
       exact call_abs pins s σ H _ us Q I r ⟨_, rfl, o.sc⟩)
    | cases e
theorem list_ok : CallR X (.type "list") (rNW X.K (bfW .list)) := by
  intro pins s σ H xs us Q I r h
  obtain ⟨Hs, ws, m, d, hs, h1, h2, v, e, o⟩ := h
  replace e : listB _ = _ := e
  unfold listB at e
  split at e <;> first | (rename_i z; cases z; done) | skip
  all_goals first
    | (obtain ⟨y, m1, rfl, v, l⟩ := v.one
       cases v with
       | nd n r' =>
         cases e
         have go : ∀ p, H p = none → Q (.ref p) (upd H p (.lst _)) := fun p hp => o.new h1 h2 hp upd_same (r'.mono l)
         first
         | exact call_list_of pins s σ H _ us Q I r ⟨_, _, rfl, .inl (.inl (.inl n)), go⟩
         | exact call_list_of pins s σ H _ us Q I r ⟨_, _, rfl, .inl n, go⟩
         | exact call_list_of pins s σ H _ us Q I r ⟨_, _, rfl, .inr n, go⟩
         | exact call_list_of pins s σ H _ us Q I r ⟨_, _, rfl, .inr (.inl (.inl n)), go⟩)
    | cases e
end
end T
namespace T
open PySem PySem.Spec L2
noncomputable def kitB (a b : String) : Option Bool := if (Value.type a == Value.type b) = true then some true else if PySem.W.kitMeta b = true then (PySem.fastBuiltinMro a).map (·.contains (.type b)) else none
theorem kitB_eq (K : PySem.W.Frag) (a b : String) : PySem.W.kitOne K (.type a) (.type b) = kitB a b := rfl
noncomputable def tyS : Ty → Option String
  | .int => some "int" | .bool => some "bool" | .str => some "str" | .list => some "list" | .tuple => some "tuple" | .dict => some "dict" | .own _ => none
theorem kb_ii : kitB "int" "int" = some true := by decide +kernel
theorem kb_bi : kitB "bool" "int" = some true := by decide +kernel
theorem kb_si : kitB "str" "int" = some false := by decide +kernel
theorem kb_ni : kitB "NoneType" "int" = some false := by decide +kernel
theorem kb_li : kitB "list" "int" = some false := by decide +kernel
theorem kb_ti : kitB "tuple" "int" = some false := by decide +kernel
theorem kb_bb : kitB "bool" "bool" = some true := by decide +kernel
theorem kb_ib : kitB "int" "bool" = some false := by decide +kernel
theorem kb_sb : kitB "str" "bool" = some false := by decide +kernel
theorem kb_nb : kitB "NoneType" "bool" = some false := by decide +kernel
theorem kb_lb : kitB "list" "bool" = some false := by decide +kernel
theorem kb_tb : kitB "tuple" "bool" = some false := by decide +kernel
theorem kb_ss : kitB "str" "str" = some true := by decide +kernel
theorem kb_is : kitB "int" "str" = some false := by decide +kernel
theorem kb_bs : kitB "bool" "str" = some false := by decide +kernel
theorem kb_ns : kitB "NoneType" "str" = some false := by decide +kernel
theorem kb_ls : kitB "list" "str" = some false := by decide +kernel
theorem kb_ts : kitB "tuple" "str" = some false := by decide +kernel
theorem kb_ll : kitB "list" "list" = some true := by decide +kernel
theorem kb_tl : kitB "tuple" "list" = some false := by decide +kernel
theorem kb_il : kitB "int" "list" = some false := by decide +kernel
theorem kb_bl : kitB "bool" "list" = some false := by decide +kernel
theorem kb_sl : kitB "str" "list" = some false := by decide +kernel
theorem kb_nl : kitB "NoneType" "list" = some false := by decide +kernel
theorem kb_tt : kitB "tuple" "tuple" = some true := by decide +kernel
theorem kb_lt : kitB "list" "tuple" = some false := by decide +kernel
theorem kb_it : kitB "int" "tuple" = some false := by decide +kernel
theorem kb_bt : kitB "bool" "tuple" = some false := by decide +kernel
theorem kb_st : kitB "str" "tuple" = some false := by decide +kernel
theorem kb_nt : kitB "NoneType" "tuple" = some false := by decide +kernel
theorem ty_ok {K : PySem.W.Frag} {H Hs : Hp} {t : Ty} {n : String} {v : V} {w : W} {m : Bud} {b : Bool} (hn : tyS t = some n) (hv : View K H Hs v w m) (h : tyW t w = some b) : ∃ tv, TyOf K H v tv ∧ PySem.W.kitOne K tv (.type n) = some b := by
  cases hv with
  | sc v _ =>
    cases t <;> cases hn <;> cases v <;> cases h <;> first
      | exact ⟨_, .int _, by rw [kitB_eq]; first | exact kb_ii | exact kb_ib | exact kb_is | exact kb_il | exact kb_it⟩
      | exact ⟨_, .bl _, by rw [kitB_eq]; first | exact kb_bi | exact kb_bb | exact kb_bs | exact kb_bl | exact kb_bt⟩
      | exact ⟨_, .str _, by rw [kitB_eq]; first | exact kb_si | exact kb_sb | exact kb_ss | exact kb_sl | exact kb_st⟩
      | exact ⟨_, .non, by rw [kitB_eq]; first | exact kb_ni | exact kb_nb | exact kb_ns | exact kb_nl | exact kb_nt⟩
  | @nd a k vs ds m n r =>
    cases t <;> cases hn <;> cases k <;> cases h <;> first
      | exact ⟨_, .lst n, by rw [kitB_eq]; first | exact kb_li | exact kb_lb | exact kb_ls | exact kb_ll | exact kb_lt⟩
      | exact ⟨_, .tup n, by rw [kitB_eq]; first | exact kb_ti | exact kb_tb | exact kb_ts | exact kb_tl | exact kb_tt⟩
section
variable {X : Cx} {a e c : Expr} {es : List Expr} {pos p : Pos} {x : Str} {n : String} {ca : M Op}
theorem ok_isi {t : Ty} (hn : tyS t = some n) (hg : Gl X "isinstance") (hm : X.mg "isinstance" = none) (ha : PE X a (tP X.K ca)) (hc : PE X c (tC (.ty n))) (hs : starEach [a, c] X.env = [(false, eval a X.env), (false, eval c X.env)] := by rfl)
    (hs1 : starEach [c] X.env = [(false, eval c X.env)] := by rfl) :
    PE X (.Call (.Name "isinstance" p) [a, c] [] pos) (tM X.K ((ca.bnd fun p => (M.ret ([] : List Op)).bnd fun ps => M.ret (p :: ps)).bnd fun ps => (views ps).bnd fun ws => lift (bfW (.isi t) ws))) :=
  PE.imp (pe_callB (call_isi (.ty n) (.type n) rfl fun u h => h) hg hm b_isinstance (pa_cons ha (pa_cons hc pa_nil (by rw [hs1]; rfl)) (by rw [hs, hs1])) (by decide) (by decide) (by rw [hs, hs1]) (by rw [hs1]; rfl)) fun σ H Q h => by
    have h2 : tM X.K ((ca.bnd view).bnd fun w => lift (bfW (.isi t) [w])) σ H Q := by
      obtain ⟨δ, Hs, M, d, δ', g, s, e, q⟩ := h
      refine ⟨δ, Hs, M, d, δ', g, s, ?_, q⟩
      obtain ⟨ps, δ1, e1, e⟩ := bnd_ok e
      obtain ⟨pp, δ2, e2, e3⟩ := bnd_ok e1
      obtain ⟨z, δ3, e4, e5⟩ := bnd_ok e3
      have := ret_ok e4
      cases this
      have := ret_ok e5
      cases this
      obtain ⟨ws, δ4, e6, e⟩ := bnd_ok e
      obtain ⟨w, δ5, e7, e8⟩ := bnd_ok e6
      obtain ⟨z, δ6, e9, e10⟩ := bnd_ok e8
      have := ret_ok e9
      cases this
      have := ret_ok e10
      cases this
      show T.M.bnd (ca.bnd view) _ δ = _
      unfold T.M.bnd
      rw [e2]
      dsimp only
      rw [e7]
      exact e
    refine op1 (r := fun x H1 Q => ∃ x' t' b, [x, V.ty n] = [x', V.ty n] ∧ TyOf X.K H1 x' t' ∧ PySem.W.kitOne X.K t' (.type n) = some b ∧ Q (.bl b) H1) h2 fun x H Hs w m d g h1 h2 v e o => ?_
    simp only [bfW, isiB, Option.map_eq_some_iff] at e
    obtain ⟨b, e, rfl⟩ := e
    obtain ⟨tv, h3, h4⟩ := ty_ok hn v e
    exact ⟨x, tv, b, rfl, h3, h4, o.sc⟩
end
noncomputable def spF (K : PySem.W.Frag) (F : List D → Rs (D × List D)) : Sp := fun vs H Q _ => ∃ (ds : List D) (Hs : Hp) (m : Bud) (d : D) (ds' : List D), Good H Hs m ∧ RepL K H Hs vs ds m ∧ F ds = .ok (d, ds') ∧
  ∀ (v : V) (H' Hs' : Hp) (m1 m' : Bud), Good H' Hs' (fun b => m1 b + m' b) → Stp H Hs m H' Hs' (fun b => m1 b + m' b) → Rep K H' Hs' v d m1 → RepL K H' Hs' vs ds' m' → Q v H'
theorem take_ok {K : PySem.W.Frag} {H Hs : Hp} {σ : St} {B m M : Bud} {δ δ' : List D} {lend : Bool} {p : Op} {v : V} {d : D} (g : Good H Hs (fun b => B b + (m b + M b))) (s : RepS K H Hs σ δ M) (r : RepP K H Hs σ v p m) (e : takeA lend p δ = .ok (d, δ')) :
    ∃ Hs' m' M', Good H Hs' (fun b => B b + (m' b + M' b)) ∧ Stp H Hs (fun b => B b + (m b + M b)) H Hs' (fun b => B b + (m' b + M' b)) ∧ Rep K H Hs' v d m' ∧ RepS K H Hs' σ δ' M' ∧ ∀ b, m' b + M' b ≤ m b + M b := by
  cases p with
  | tmp d' =>
    have := ret_ok e
    cases this
    exact ⟨Hs, m, M, g, Stp.refl _ _ _, r, s, fun b => Nat.le_refl _⟩
  | late i =>
    have r : σ[i]? = some (some v) := r
    have same : ∀ {d : D}, δ[i]? = some d → d ≠ .hole → (∀ m1, Rep K H Hs v d m1 → Rep K H Hs v d (fun _ => 0)) → ∃ Hs' m' M', Good H Hs' (fun b => B b + (m' b + M' b)) ∧ Stp H Hs (fun b => B b + (m b + M b)) H Hs' (fun b => B b + (m' b + M' b)) ∧ Rep K H Hs' v d m' ∧ RepS K H Hs' σ δ M' ∧ ∀ b, m' b + M' b ≤ m b + M b := fun {d} hi hn hz => by
      obtain ⟨v', m1, m2, e1, q, l, f⟩ := s.slot hi hn
      rw [r] at e1
      cases e1
      exact ⟨Hs, fun _ => 0, M, g.re fun b => by (try simp); (try omega), (Stp.refl H Hs _).drop (fun b => by (try simp); (try omega)) g.le, hz _ q, s, fun b => by (try simp); (try omega)⟩
    unfold takeA at e
    dsimp only at e
    split at e
    · rename_i u hi
      cases e
      exact same hi (by simp) fun m1 q => by cases q; exact .sc _ _
    · rename_i k ds hi
      cases e
      exact same hi (by simp) fun m1 q => by cases q with | shd n q => exact .shd n q
    · rename_i k ds hi
      obtain ⟨v', m1, m2, e1, q, l, f⟩ := s.slot hi (by simp)
      rw [r] at e1
      cases e1
      split at e
      · cases e
        refine ⟨Hs, m1, m2, g.re fun b => by have := l b; omega, (Stp.refl H Hs _).drop (fun b => by have := l b; omega) g.le, q, ?_, fun b => by have := l b; omega⟩
        have z := f H Hs (some v) .hole (fun _ => 0) (Same.refl _) (fun _ _ _ => rfl) (.inl rfl)
        rw [set_self r] at z
        exact z.mono fun b => by simp
      · cases e
        have g2 : Good H Hs (fun b => m1 b + (B b + m2 b)) := g.re fun b => by have := l b; omega
        have hsame := shH_same g2 (m := m1) fun b => by omega
        have r2 := Rep.share hsame (shH_at (H := H) (Hs := Hs) (m := m1)) q
        have st := Stp.share g2
        refine ⟨shH H Hs m1, fun _ => 0, m2, g2.share.re fun b => by simp, ⟨fun b o h _ => h, fun b h => ?_, st.grow, fun b h h' => ?_, fun b h => h⟩, r2, ?_, fun b => by have := l b; simp; omega⟩
        · have h : B b + (0 + m2 b) = 1 := h
          have l0 : B b + (m b + M b) ≤ 1 := g.le b
          have := l b
          left
          show B b + (m b + M b) = 1
          omega
        · rcases st.shr b h h' with z | z
          · have z : m1 b + (B b + m2 b) = 1 := z
            have l0 : B b + (m b + M b) ≤ 1 := g.le b
            have := l b
            left
            show B b + (m b + M b) = 1
            omega
          · exact .inr z
        · have z := f H (shH H Hs m1) (some v) (.node k false (shrL ds)) (fun _ => 0) hsame (fun _ _ _ => rfl) (.inr ⟨v, rfl, r2⟩)
          rw [set_self r] at z
          exact z.mono fun b => by simp
    · cases e
theorem takes_ok {K : PySem.W.Frag} {H : Hp} {σ : St} {lend : Bool} : ∀ {ps : List Op} {vs : List V} {Hs : Hp} {δ δ' : List D} {B M m : Bud} {ds : List D}, Good H Hs (fun b => B b + (m b + M b)) → RepS K H Hs σ δ M → RepPs K H Hs σ vs ps m → takeAs lend ps δ = .ok (ds, δ') →
    ∃ Hs' m' M', Good H Hs' (fun b => B b + (m' b + M' b)) ∧ Stp H Hs (fun b => B b + (m b + M b)) H Hs' (fun b => B b + (m' b + M' b)) ∧ RepL K H Hs' vs ds m' ∧ RepS K H Hs' σ δ' M'
  | [], [], Hs, δ, δ', B, M, m, ds, g, s, r, e => by
    have := ret_ok e
    cases this
    exact ⟨Hs, m, M, g, Stp.refl _ _ _, .nil _, s⟩
  | [], _ :: _, _, _, _, _, _, _, _, _, _, r, _ => r.elim
  | _ :: _, [], _, _, _, _, _, _, _, _, _, r, _ => r.elim
  | p :: ps, v :: vs, Hs, δ, δ', B, M, m, ds, g, s, ⟨n1, n2, r1, r2, l⟩, e => by
    obtain ⟨d, δ1, e1, e⟩ := bnd_ok e
    obtain ⟨ds', δ2, e2, e⟩ := bnd_ok e
    have := ret_ok e
    cases this
    have g0 : Good H Hs (fun b => (B b + n2 b) + (n1 b + M b)) := g.re fun b => by have := l b; omega
    obtain ⟨Hs1, m1, M1, g1, st1, q1, s1, l1⟩ := take_ok g0 s r1 e1
    have g1' : Good H Hs1 (fun b => (B b + m1 b) + (n2 b + M1 b)) := g1.re fun b => by omega
    obtain ⟨Hs2, m2, M2, g2, st2, q2, s2⟩ := takes_ok g1' s1 (r2.frame st1.grow fun _ _ _ => rfl) e2
    have S0 : Stp H Hs (fun b => B b + (m b + M b)) H Hs1 (fun b => (B b + m1 b) + (n2 b + M1 b)) := by
      refine ⟨fun b o h _ => h, fun b h => ?_, st1.grow, fun b h h' => ?_, fun b h => h⟩
      · have h : (B b + m1 b) + (n2 b + M1 b) = 1 := h
        rcases st1.own b (show (B b + n2 b) + (m1 b + M1 b) = 1 by omega) with z | z
        · have z : (B b + n2 b) + (n1 b + M b) = 1 := z
          have l0 : B b + (m b + M b) ≤ 1 := g.le b
          have := l b
          left
          show B b + (m b + M b) = 1
          omega
        · exact .inr z
      · rcases st1.shr b h h' with z | z
        · have z : (B b + n2 b) + (n1 b + M b) = 1 := z
          have l0 : B b + (m b + M b) ≤ 1 := g.le b
          have := l b
          left
          show B b + (m b + M b) = 1
          omega
        · exact .inr z
    have z := step2 (m1 := fun _ => 0) g (g1'.re fun b => by simp) (S0.drop (fun b => by simp) g1'.le) g2 st2
    have S : Stp H Hs (fun b => B b + (m b + M b)) H Hs2 (fun b => (B b + m1 b) + (m2 b + M2 b)) := z.2.1.drop (fun b => by simp) z.1.le
    exact ⟨Hs2, fun b => m1 b + m2 b, M2, g2.re fun b => by dsimp only; omega, S.drop (fun b => by dsimp only; omega) g2.le, .cons (q1.frame st2.grow fun _ _ _ => rfl) q2 fun b => Nat.le_refl _, s2⟩
theorem gives_ok {K : PySem.W.Frag} {H Hs : Hp} {σ : St} : ∀ {ps : List Op} {vs : List V} {δ δ' : List D} {M m : Bud} {ds : List D} {u : Unit}, RepS K H Hs σ δ M → RepL K H Hs vs ds m → (∀ i v, (.late i, v) ∈ ps.zip vs → σ[i]? = some (some v)) → giveAs ps ds δ = .ok (u, δ') → RepS K H Hs σ δ' (fun b => m b + M b)
  | [], vs, δ, δ', M, m, ds, u, s, r, hl, e => by
    have := ret_ok (show T.M.ret () δ = Rs.ok (u, δ') by unfold giveAs at e; exact e)
    cases this
    exact s.mono fun b => by omega
  | p :: ps, [], δ, δ', M, m, ds, u, s, r, hl, e => by
    cases r
    have := ret_ok (show T.M.ret () δ = Rs.ok (u, δ') by unfold giveAs at e; exact e)
    cases this
    exact s.mono fun b => by omega
  | p :: ps, v :: vs, δ, δ', M, m, ds, u, s, r, hl, e => by
    cases r with
    | @cons _ d _ ds' m1 m2 _ x y l =>
      unfold giveAs at e
      obtain ⟨_, δ1, e1, e2⟩ := bnd_ok e
      have hl' : ∀ i v, (.late i, v) ∈ ps.zip vs → σ[i]? = some (some v) := fun i v h => hl i v (by rw [List.zip_cons_cons]; exact List.mem_cons_of_mem _ h)
      have go : ∀ {M1 : Bud}, RepS K H Hs σ δ1 M1 → (∀ b, M1 b ≤ m1 b + M b) → RepS K H Hs σ δ' (fun b => m b + M b) := fun {M1} s1 l1 =>
        (gives_ok s1 y hl' e2).mono fun b => by have := l b; have := l1 b; omega
      cases p with
      | tmp d' =>
        have := ret_ok e1
        cases this
        exact go s fun b => by omega
      | late i =>
        have hi := hl i v (by rw [List.zip_cons_cons]; exact List.mem_cons_self)
        unfold giveA at e1
        dsimp only at e1
        split at e1
        · rename_i hh
          cases e1
          obtain ⟨o, n1, n2, q1, q2, q3, f⟩ := s.focus hh
          have z := f (RepO K H Hs) (some v) d m1 (fun a d m' _ q => q) (.inr ⟨v, rfl, x⟩)
          rw [set_self hi] at z
          exact go z fun b => by have := q3 b; omega
        · cases e1
          exact go s fun b => by omega
theorem lates {K : PySem.W.Frag} {H Hs : Hp} {σ : St} : ∀ {ps : List Op} {vs : List V} {m : Bud}, RepPs K H Hs σ vs ps m → ∀ i v, (.late i, v) ∈ ps.zip vs → σ[i]? = some (some v)
  | [], [], _, _, i, v, h => by simp at h
  | [], _ :: _, _, r, _, _, _ => r.elim
  | _ :: _, [], _, r, _, _, _ => r.elim
  | p :: ps, w :: vs, _, ⟨m1, m2, r1, r2, _⟩, i, v, h => by
    rw [List.zip_cons_cons] at h
    rcases List.mem_cons.mp h with e | e
    · injection e with e1 e2
      subst e1 e2
      exact r1
    · exact lates r2 i v e
theorem call_fin {K : PySem.W.Frag} {fi : FI} {σ : St} {H H1 Hs Hs1 : Hp} {M m1 M1 : Bud} {δ1 δ' : List D} {d : D} {ps : List Op} {vs : List V} {Q : VK} {E : XK} (g : Good H Hs M) (g1 : Good H1 Hs1 (fun b => m1 b + M1 b)) (st1 : Stp H Hs M H1 Hs1 (fun b => m1 b + M1 b))
    (r1 : RepPs K H1 Hs1 σ vs ps m1) (s1 : RepS K H1 Hs1 σ δ1 M1) (e : callF fi ps δ1 = .ok (d, δ'))
    (q : ∀ (v : V) (H' Hs' : Hp) (m M' : Bud), Good H' Hs' (fun b => m b + M' b) → Stp H Hs M H' Hs' (fun b => m b + M' b) → Rep K H' Hs' v d m → RepS K H' Hs' σ δ' M' → Q v H') : spF K fi.run vs H1 Q E := by
  unfold callF at e
  obtain ⟨ds, δ2, e2, e⟩ := bnd_ok e
  cases hF : fi.run ds with
  | ok r =>
    obtain ⟨d', ds'⟩ := r
    rw [hF] at e
    dsimp only at e
    obtain ⟨u, δ3, e3, e⟩ := bnd_ok e
    have := ret_ok e
    cases this
    obtain ⟨Hs2, m2, M2, g2, st2, q2, s2⟩ := takes_ok (B := fun _ => 0) (g1.re fun b => by simp) s1 r1 e2
    have z0 := step2 (m1 := fun _ => 0) g (g1.re fun b => by simp) (st1.drop (fun b => by simp) g1.le) (g2.re fun b => by simp) (M1 := fun b => m1 b + M1 b) (M2 := fun b => m2 b + M2 b) (by
      have := st2
      exact ⟨fun b o h z => this.keep b o h (by simpa using z), fun b h => by have := this.own b (by simpa using h); simpa using this, this.grow, fun b h h' => by have := this.shr b h h'; simpa using this, this.stay⟩)
    have G2 : Good H1 Hs2 (fun b => M2 b + m2 b) := g2.re fun b => by simp; omega
    have S2 : Stp H Hs M H1 Hs2 (fun b => M2 b + m2 b) := z0.2.1.drop (fun b => by simp; omega) z0.1.le
    refine ⟨ds, Hs2, m2, _, ds', G2.re fun b => by omega, q2, hF, fun v H3 Hs3 n1 n2 g3 st3 r3 r4 => ?_⟩
    obtain ⟨G, S, k⟩ := step2 g G2 S2 g3 st3
    have s3 := RepS.frame st3.grow k s2
    have fin := gives_ok s3 r4 (lates r1) e3
    exact q v H3 Hs3 n1 (fun b => n2 b + M2 b) (G.re fun b => by (try dsimp only); omega) (S.drop (fun b => by (try dsimp only); omega) G.le) r3 fin
  | exc x y => rw [hF] at e; cases e
  | stuck => rw [hF] at e; cases e
theorem call_of {K : PySem.W.Frag} {fi : FI} {cs : M (List Op)} {σ : St} {H : Hp} {Q : VK} {E : XK} (h : tM K (cs.bnd fun ps => callF fi ps) σ H Q) : tPs K cs σ H fun vs H1 => spF K fi.run vs H1 Q E := by
  obtain ⟨δ, Hs, M, d, δ', g, s, e, q⟩ := h
  obtain ⟨ps, δ1, e1, e⟩ := bnd_ok e
  exact ⟨δ, Hs, M, ps, δ1, g, s, e1, fun vs H1 Hs1 m1 M1 g1 st1 r1 s1 => call_fin g g1 st1 r1 s1 e q⟩
section
variable {X : Cx} {a e c : Expr} {es : List Expr} {pos p : Pos} {x : Str} {j n : Nat} {fi : FI} {ps : List Str} {cs : M (List Op)}
theorem ok_fn (G : FnAt X.prog X.w X.K X.mg X.base x j ps (spF X.K fi.run)) (hr : Room n X.A) (ha : PA X (e :: es) (tPs X.K cs)) (hj : j ≤ n := by decide) (hg : Gl X x := by rfl) (hdb : (x == ("__debug__" : Str)) = false := by decide)
    (he : starEach (e :: es) X.env = (false, eval e X.env) :: starEach es X.env := by rfl) (hpl : (backTo pos (starEach es X.env)).any (·.1) = false := by rfl) :
    PE X (.Call (.Name x p) (e :: es) [] pos) (tM X.K (cs.bnd fun ps => callF fi ps)) := PE.imp (pe_fn G hr ha hj hg hdb he hpl) fun σ H Q h => by
  obtain ⟨δ, Hs, M, a, δ', g, s, e, q⟩ := call_of (E := E0) h
  refine ⟨δ, Hs, M, a, δ', g, s, e, fun vs H' Hs' m M' g' st r s' => ?_⟩
  show spF X.K fi.run (vs ++ []) H' Q E0
  rw [List.append_nil]
  exact q vs H' Hs' m M' g' st r s'
end
end T
namespace T
open PySem PySem.Spec L2
theorem modL {K : PySem.W.Frag} {H Hs : Hp} {σ : St} {B M : Bud} {δ : List D} {i : Nat} {k : Kd} {ds : List D} (g : Good H Hs (fun b => B b + M b)) (s : RepS K H Hs σ δ M) (hi : δ[i]? = some (.node k true ds)) :
    ∃ (p : Addr) (vs : List V) (m' m2 : Bud), σ[i]? = some (some (.ref p)) ∧ NodeO H p vs k ∧ RepL K H Hs vs ds m' ∧ (∀ b, one p b + m' b + m2 b ≤ M b) ∧
      ∀ (o' : HO) (k' : Kd) (vs' : List V) (ds' : List D) (n' nr : Bud) (rv : V) (r : D), (∀ b, n' b + nr b ≤ m' b + B b) → NodeO (upd H p o') p vs' k' → RepL K H Hs vs' ds' n' → Rep K H Hs rv r nr →
        Good (upd H p o') Hs (fun b => nr b + (one p b + n' b + m2 b)) ∧ Stp H Hs (fun b => B b + M b) (upd H p o') Hs (fun b => nr b + (one p b + n' b + m2 b)) ∧ Rep K (upd H p o') Hs rv r nr ∧
        RepS K (upd H p o') Hs σ (δ.set i (.node k' true ds')) (fun b => one p b + n' b + m2 b) := by
  obtain ⟨v, m1, m2, e1, q, l, f⟩ := s.slot hi (by simp)
  cases q with
  | @own p _ vs _ _ m' n r l' =>
    have le : ∀ b, one p b + m' b + m2 b ≤ M b := fun b => by have := l b; have := l' b; omega
    refine ⟨p, vs, m', m2, e1, n, r, le, fun o' k' vs' ds' n' nr rv rd h1 hn hr hq => ?_⟩
    have one_p : one p p = 1 := by simp [one]
    have tot : ∀ b, nr b + (one p b + n' b + m2 b) ≤ B b + M b := fun b => by have := le b; have := h1 b; omega
    have zp : m' p = 0 ∧ B p = 0 ∧ m2 p = 0 := by
      have := le p
      have := g.le p
      try dsimp only at this
      omega
    have zp2 : n' p = 0 ∧ nr p = 0 := by have := h1 p; omega
    have Hp : H p ≠ none := n.at
    have eqH : ∀ b, b ≠ p → upd H p o' b = H b := fun b hb => upd_ne hb
    have hs2 : Hs p = none := g.ne p (by have := le p; have := g.le p; (try dsimp only at this ⊢); omega)
    refine ⟨⟨fun b o e => ?_, fun b => ?_, fun b h => ?_, fun b h => ?_⟩, ⟨fun b o e z => ?_, fun b h => ?_, Same.refl _, fun b h h' => absurd h h', fun b h => ?_⟩, ?_, ?_⟩
    · have hb : b ≠ p := fun q => by subst q; rw [hs2] at e; cases e
      rw [eqH b hb]
      exact g.sub b o e
    · have := g.le b
      have := tot b
      (try dsimp only at *)
      omega
    · have := g.le b
      have := tot b
      exact g.ne b (by (try dsimp only at *); omega)
    · by_cases hb : b = p
      · subst hb; rw [upd_same]; simp
      · rw [eqH b hb]
        have := g.le b
        have := tot b
        exact g.has b (by (try dsimp only at *); omega)
    · have hb : b ≠ p := fun q => by
        subst q
        have := le b
        have := g.le b
        (try dsimp only at *)
        omega
      rw [eqH b hb]
      exact e
    · have := g.le b
      have := tot b
      left
      (try dsimp only at *)
      omega
    · by_cases hb : b = p
      · subst hb; rw [upd_same]; simp
      · rw [eqH b hb]; exact h
    · exact hq.frame (Same.refl _) fun b hb hn' => eqH b fun q => by subst q; omega
    · have r' : RepL K (upd H p o') Hs vs' ds' n' := hr.frame (Same.refl _) fun b hb hn' => eqH b fun q => by subst q; omega
      have z := f (upd H p o') Hs (some (.ref p)) (.node k' true ds') (fun b => one p b + n' b) (Same.refl _) (fun b hb hn' => eqH b fun q => by subst q; omega) (.inr ⟨_, rfl, .own hn r' fun b => Nat.le_refl _⟩)
      rw [set_self e1] at z
      exact z.mono fun b => by (try dsimp only); omega
theorem modS_ok {i : Nat} {f : Kd → List D → Option (D × Kd × List D)} {δ δ' : List D} {d : D} (h : modS i f δ = .ok (d, δ')) : ∃ k ds k' ds', δ[i]? = some (.node k true ds) ∧ f k ds = some (d, k', ds') ∧ δ' = δ.set i (.node k' true ds') := by
  unfold modS at h
  split at h
  · rename_i k ds hi
    split at h
    · rename_i r k' ds' hf
      cases h
      exact ⟨k, ds, k', ds', hi, hf, rfl⟩
    · cases h
  · cases h
section
variable {X : Cx} {o e : Expr} {es : List Expr} {cpos apos : Pos} {i : Nat} {name : Str} {id : String}
theorem chk_ok {K : PySem.W.Frag} {H Hs : Hp} {σ : St} {M : Bud} {δ δ' : List D} {u : Unit} (g : Good H Hs M) (s : RepS K H Hs σ δ M) (h : chkL i δ = .ok (u, δ')) : δ' = δ ∧ ∃ p, σ[i]? = some (some (.ref p)) ∧ tyV K "list" (.ref p) H := by
  unfold chkL at h
  split at h
  · rename_i oo ds hi
    cases h
    obtain ⟨v, m1, m2, e1, q, l, f⟩ := s.slot hi (by simp)
    refine ⟨rfl, ?_⟩
    cases q with
    | own n r _ => exact ⟨_, e1, .inl ⟨rfl, _, .inl (.inl n)⟩⟩
    | shd n r => exact ⟨_, e1, .inl ⟨rfl, _, .inl (.inl (g.sub _ _ n))⟩⟩
  · cases h
theorem ok_append {cs : M (List D)} (ho : PE X o (tVar i)) (ha : PA X [e] (tDs X.K cs))
    (hbase : attributeBase o "append" X.env (eval o X.env) = eval o X.env := by rfl)
    (hfew : ((backTo cpos (starEach [e] X.env)).all (fun x => !x.1) && (backToKw cpos (keywordEach [] X.env)).all (fun x => x.1.isSome)
      && decide ([e].length + ([] : List Keyword).length + (if ([] : List Keyword).isEmpty then 0 else 1) < 30)) = true := by rfl)
    (hline : (apos.endLine == cpos.line) = true := by rfl) (hs : starEach [e] X.env = (false, eval e X.env) :: starEach [] X.env := by rfl) (hplain : (backTo cpos (starEach [] X.env)).any (·.1) = false := by rfl) :
    PE X (.Call (.Attribute o "append" apos) [e] [] cpos) (tM X.K ((chkL i).bnd fun _ => cs.bnd fun ds => appM i ds)) :=
  PE.imp (pe_bm PySem.F.plainAttrs_list PySem.F.slot_list_append PySem.F.type_list_append mt_append ho ha hbase hfew hline hs hplain) fun σ H Q h => by
    obtain ⟨δ, Hs, M, d, δ', g, s, ea, q⟩ := h
    obtain ⟨u, δ0, e0, eb⟩ := bnd_ok ea
    obtain ⟨ds, δ1, e1, ec⟩ := bnd_ok eb
    obtain ⟨rfl, p0, h1, h2⟩ := chk_ok g s e0
    refine ⟨_, h1, h2, δ0, Hs, M, ds, δ1, g, s, e1, fun vs H1 Hs1 m1 M1 g1 st1 r1 s1 => ?_⟩
    unfold appM at ec
    split at ec
    · rename_i x
      obtain ⟨k, ds0, k', ds', hi, hf, rfl⟩ := modS_ok ec
      unfold appD at hf
      split at hf
      · split at hf
        · rename_i hl
          cases hf
          cases r1 with
          | @cons y _ _ _ a1 a2 _ rx r2 la =>
            cases r2
            obtain ⟨p, ws, m', m2, e2, n, rl, le, fin⟩ := modL g1 s1 hi
            have e3 : some (some (V.ref p)) = some (some (V.ref p0)) := by rw [← e2, h1]
            cases e3
            obtain ⟨G, S, R, SS⟩ := fin (.lst (ws ++ [y])) .lst (ws ++ [y]) (ds0 ++ [x]) (fun b => m' b + a1 b) (fun _ => 0) .non (.sc .non) (fun b => by have := la b; (try dsimp only); omega) upd_same (rl.app (.cons rx (.nil (fun _ => 0)) fun b => by simp)) (.sc _ _)
            have z := step2 (m1 := fun _ => 0) g (g1.re fun b => by simp) (st1.drop (fun b => by simp) g1.le) G S
            exact ⟨_, ws, y, rfl, rfl, n, by rw [rl.len]; exact hl, q _ _ Hs1 _ _ G (z.2.1.drop (fun b => by simp) z.1.le) R SS⟩
        · cases hf
      · cases hf
    · cases ec
end
end T
namespace L2
open PySem PySem.Spec PyProof.Rows
section
variable {prog : Program} {w : World} {A : Around} {E : Value → Shared → Prop} {s : Shared}
theorem drawL {it a : Addr} {us : Array Value} (ne : a ≠ it) : ∀ (m j : Nat) (s : Shared) (Q : List Value → Shared → Prop), s.heap.IsListIter it a j → s.heap.IsList a us → j + m ≤ us.size →
    (∀ g, Heap.IsListIter g it a (j + m) → Heap.SameBut it s.heap g → Q ((us.toList.drop j).take m) { s with heap := g }) → wpAny (model prog w) A (draw (.ref it) m) Q E s
  | 0, j, s, Q, st, _, _, q => wpAny_pure (by simpa using q s.heap st (Heap.SameBut.refl ..))
  | m + 1, j, s, Q, st, hl, le, q => by
    have lt : j < us.size := by omega
    refine wpAny_bind (wpAny_pyNext_list_item st hl (x := us[j]) (by simp [lt]) fun g1 st1 k1 => ?_)
    refine wpAny_bind (wpAny_holding (drawL ne m (j + 1) _ _ st1 (hl.extBut k1.extBut ne) (by omega) fun g2 st2 k2 => wpAny_pure ?_))
    have z := q g2 (by rw [show j + (m + 1) = j + 1 + m by omega]; exact st2) (k1.trans k2)
    rw [show us.toList.drop j = us[j] :: us.toList.drop (j + 1) by simp [List.drop_eq_getElem_cons, lt], List.take_succ_cons] at z
    exact z
theorem unpackL {a : Addr} {us : Array Value} {Q : List Value → Shared → Prop} (hh : A.handled = none) (hl : s.heap.IsList a us)
    (q : ∀ g, Heap.ExtBut s.heap.objs.size s.heap g → Q us.toList { s with heap := g }) : wpAny (model prog w) A (unpackItems (.ref a) us.size none) Q E s := by
  have ne : a ≠ s.heap.objs.size := Nat.ne_of_lt (by obtain ⟨o, e, _⟩ := hl; exact Heap.lt_size e)
  unfold unpackItems
  refine wpAny_bind (?_ : wpAny _ _ _ _ _ _)
  unfold notIterableAtAll
  refine wpAny_bind (wpAny_specialOf hl.typeIs slot_list_iter.lookup (wpAny_pure ?_))
  simp only [if_false, Bool.false_eq_true]
  refine wpAny_bind (wpAny_holding (wpAny_pyIter_list hl (wpAny_bind (wpAny_holding (drawL ne us.size 0 _ _ ⟨_, Heap.get?_push_size _ rfl, rfl, rfl⟩ (hl.push _) (by omega) fun g1 st1 k1 => ?_)))))
  rw [show List.take us.size (List.drop 0 us.toList) = us.toList from by rw [List.drop_zero, List.take_of_length_le (by simp)], if_neg (by simp)]
  refine wpAny_bind (wpAny_holding (wpAny_pyNext_list_end hh st1 ((hl.push _).extBut k1.extBut ne) (by simp) fun g2 k2 => ?_))
  simp only [if_false, Bool.false_eq_true, Option.isSome_none]
  exact wpAny_pure (q g2 fun b o hb e => k2 b o hb (k1.extBut b o hb (Heap.get?_push_of_some _ e)))
theorem assignL {env : Env} {es : List Expr} {k : Nat} {p : Pos} {a : Addr} {us : Array Value} {Q : Unit → Shared → Prop} (hh : A.handled = none) (hl : s.heap.IsList a us) (hn : (assignEach es env).length = us.size) (hst : (assignEach es env).findIdx? (·.1) = none)
    (q : ∀ g, Heap.ExtBut s.heap.objs.size s.heap g → wpAny (model prog w) A (assignInOrder ((assignEach es env).map (·.2)) us.toList) Q E { s with heap := g }) : wpAny (model prog w) A (assign (.Tuple es k p) env (.ref a)) Q E s := by
  rw [assign_Tuple]
  refine wpAny_bind (wpAny_standAt ?_)
  unfold unpack
  rw [hn, hst]
  exact wpAny_bind (wpAny_holding (unpackL hh hl q))
end
noncomputable def gSeq (K : PySem.W.Frag) (n : Nat) (t : TGs) : TG := fun v σ H Q => ∃ a xs, v = .ref a ∧ (SqT K H a xs ∨ SqL K H a xs) ∧ xs.length = n ∧ t xs σ H Q
theorem pg_seq {X : Cx} {pos : Pos} {es : List Expr} {k : Nat} {t : TGs} {n : Nat} (hc : X.calm = true) (h : PGs X es t)
    (hn : (assignEach es X.env).length = n := by rfl) (hst : (assignEach es X.env).findIdx? (·.1) = none := by rfl) : PG X (.Tuple es k pos) (gSeq X.K n t) := by
  intro pins s σ H v u Q I r hw
  obtain ⟨a, xs, e1, hq, hl, hw⟩ := hw
  rcases hq with hq | hq
  · exact pg_tup hc h hn hst pins s σ H v u Q I r ⟨a, xs, e1, hq, hl, hw⟩
  · subst e1
    cases r
    obtain ⟨its, rv, ht, hz⟩ := I.list hq
    refine assignL (I.ok.hd hc) ht.isList (by simp [hn, ← hl, rv.length]) hst fun h' hx => ?_
    have I1 : Inv X pins σ H { s with heap := h' } := I.kept (t' := s.toks) fun b o e => hx b o (Nat.ne_of_lt (Heap.lt_size e)) e
    exact h pins _ σ H xs _ Q I1 (by simpa using rv) hw
end L2
namespace T
open PySem PySem.Spec L2
noncomputable def Keeps (lk : Nat → Bool) (σ σ' : St) : Prop := ∀ i, lk i = true → σ'[i]? = σ[i]?
theorem Keeps.refl (lk : Nat → Bool) (σ : St) : Keeps lk σ σ := fun _ _ => rfl
theorem Keeps.trans {lk : Nat → Bool} {σ σ1 σ2 : St} (a : Keeps lk σ σ1) (b : Keeps lk σ1 σ2) : Keeps lk σ σ2 := fun i h => (b i h).trans (a i h)
noncomputable def Post (K : PySem.W.Frag) (lk : Nat → Bool) (E : Ends) (σ : St) (H Hs : Hp) (M : Bud) (f : Fl) (δ' : List D) : Prop := match f with
  | .nx => ∀ (σ' : St) (H' Hs' : Hp) (M' : Bud), Keeps lk σ σ' → Good H' Hs' M' → Stp H Hs M H' Hs' M' → RepS K H' Hs' σ' δ' M' → E.nx σ' H'
  | .bk => ∀ (σ' : St) (H' Hs' : Hp) (M' : Bud), Keeps lk σ σ' → Good H' Hs' M' → Stp H Hs M H' Hs' M' → RepS K H' Hs' σ' δ' M' → E.bk σ' H'
  | .ct => ∀ (σ' : St) (H' Hs' : Hp) (M' : Bud), Keeps lk σ σ' → Good H' Hs' M' → Stp H Hs M H' Hs' M' → RepS K H' Hs' σ' δ' M' → E.ct σ' H'
  | .rt d => ∀ (v : V) (σ' : St) (H' Hs' : Hp) (m M' : Bud), Keeps lk σ σ' → Good H' Hs' (fun b => m b + M' b) → Stp H Hs M H' Hs' (fun b => m b + M' b) → Rep K H' Hs' v d m → RepS K H' Hs' σ' δ' M' → E.rt v H'
noncomputable def tS (K : PySem.W.Frag) (lk : Nat → Bool) (c : M Fl) : TS := fun E σ H => ∃ (δ : List D) (Hs : Hp) (M : Bud) (f : Fl) (δ' : List D), Good H Hs M ∧ RepS K H Hs σ δ M ∧ c δ = .ok (f, δ') ∧ Post K lk E σ H Hs M f δ'
theorem Post.ahead {K : PySem.W.Frag} {lk : Nat → Bool} {E : Ends} {σ σ1 : St} {H Hs H1 Hs1 : Hp} {M M1 : Bud} {f : Fl} {δ' : List D} (k : Keeps lk σ σ1) (g : Good H Hs M) (g1 : Good H1 Hs1 M1) (st : Stp H Hs M H1 Hs1 M1) (h : Post K lk E σ H Hs M f δ') : Post K lk E σ1 H1 Hs1 M1 f δ' := by
  have tr : ∀ {H' Hs' : Hp} {M' : Bud}, Good H' Hs' M' → Stp H1 Hs1 M1 H' Hs' M' → Stp H Hs M H' Hs' M' := fun {H' Hs' M'} g' st' => by
    have z := step2 (m1 := fun _ => 0) g (g1.re fun b => by simp) (st.drop (fun b => by simp) g1.le) g' st'
    exact z.2.1.drop (fun b => by simp) z.1.le
  cases f with
  | nx => exact fun σ' H' Hs' M' k' g' st' r => h σ' H' Hs' M' (k.trans k') g' (tr g' st') r
  | bk => exact fun σ' H' Hs' M' k' g' st' r => h σ' H' Hs' M' (k.trans k') g' (tr g' st') r
  | ct => exact fun σ' H' Hs' M' k' g' st' r => h σ' H' Hs' M' (k.trans k') g' (tr g' st') r
  | rt d => exact fun v σ' H' Hs' m M' k' g' st' rv r => h v σ' H' Hs' m M' (k.trans k') g' (tr g' st') rv r
section
variable {X : Cx} {e a b c o : Expr} {st : Stmt} {rest : List Stmt} {pos pos' : Pos} {lk : Nat → Bool} {i : Nat} {x : Str}
theorem PS.imp {t t' : TS} (h : PS X st t) (w : ∀ E σ H, t' E σ H → t E σ H) : PS X st t' := fun pins s σ H E I q => h pins s σ H E I (w E σ H q)
theorem PSs.imp {t t' : TS} (h : PSs X rest t) (w : ∀ E σ H, t' E σ H → t E σ H) : PSs X rest t' := fun pins s σ H E I q => h pins s σ H E I (w E σ H q)
theorem ok_nil : PSs X [] (tS X.K lk (M.ret .nx)) := PSs.imp pss_nil fun E σ H h => by
  obtain ⟨δ, Hs, M, f, δ', g, s, e, q⟩ := h
  have := ret_ok e
  cases this
  exact q σ H Hs M (Keeps.refl _ _) g (Stp.refl _ _ _) s
theorem ok_seq {c r : M Fl} (h1 : PS X st (tS X.K lk c)) (h2 : PSs X rest (tS X.K lk r)) : PSs X (st :: rest) (tS X.K lk (seqL c r)) := PSs.imp (pss_cons h1 h2) fun E σ H h => by
  obtain ⟨δ, Hs, M, f, δ', g, s, e, q⟩ := h
  obtain ⟨f1, δ1, e1, e2⟩ := bnd_ok e
  refine ⟨δ, Hs, M, f1, δ1, g, s, e1, ?_⟩
  cases f1 with
  | nx => exact fun σ' H' Hs' M' k g' st' r => ⟨δ1, Hs', M', f, δ', g', r, e2, q.ahead k g g' st'⟩
  | bk => have := ret_ok e2; cases this; exact q
  | ct => have := ret_ok e2; cases this; exact q
  | rt d => have := ret_ok e2; cases this; exact q
theorem ok_expr {c : M D} (he : PE X e (tM X.K c)) (hs : swapsWith e none pos.line X.env = pure false := by rfl) : PS X (.Expr e pos) (tS X.K lk (c.bnd fun _ => M.ret .nx)) := PS.imp (ps_expr he hs) fun E σ H h => by
  obtain ⟨δ, Hs, M, f, δ', g, s, e, q⟩ := h
  obtain ⟨d, δ1, e1, e2⟩ := bnd_ok e
  have := ret_ok e2
  cases this
  exact ⟨δ, Hs, M, d, _, g, s, e1, fun v H' Hs' m M' g' st' r s' => q σ H' Hs' M' (Keeps.refl _ _) g'.re (st'.drop (fun b => by omega) g'.le) s'⟩
theorem ok_ret {c : M D} (he : PE X e (tM X.K c)) : PS X (.Return (some e) pos) (tS X.K lk (c.bnd fun d => M.ret (.rt d))) := PS.imp (ps_ret he) fun E σ H h => by
  obtain ⟨δ, Hs, M, f, δ', g, s, e, q⟩ := h
  obtain ⟨d, δ1, e1, e2⟩ := bnd_ok e
  have := ret_ok e2
  cases this
  exact ⟨δ, Hs, M, d, _, g, s, e1, fun v H' Hs' m M' g' st' r s' => q v σ H' Hs' m M' (Keeps.refl _ _) g' st' r s'⟩
theorem ok_mov (h : PE X e (tVar i)) : PE X e (tM X.K (movV i)) := PE.imp h fun σ H Q ⟨δ, Hs, M, d, δ', g, s, e, q⟩ => by
  unfold movV at e
  split at e
  · rename_i u hd
    cases e
    obtain ⟨v, m1, m2, e3, r, _⟩ := s.slot hd (by simp)
    cases r
    exact ⟨u, e3, q u H Hs (fun _ => 0) M (good0 g) (stp0 H Hs M) (.sc _ _) s⟩
  · rename_i k oo ds hd
    cases e
    obtain ⟨v, m1, m2, e3, r, l, f⟩ := s.slot hd (by simp)
    have z := f H Hs (some v) .hole (fun _ => 0) (Same.refl _) (fun _ _ _ => rfl) (.inl rfl)
    rw [set_self e3] at z
    exact ⟨v, e3, q v H Hs m1 m2 (g.re fun b => by have := l b; omega) ((Stp.refl H Hs M).drop (fun b => by have := l b; omega) g.le) r (z.mono fun b => by simp)⟩
  · cases e
theorem ok_if {cc : M Bool} {ca cb : M Fl} {A B : List Stmt} (hc : PT X c (tT X.K cc)) (ha : PSs X A (tS X.K lk ca)) (hb : PSs X B (tS X.K lk cb)) : PS X (.If c A B pos) (tS X.K lk (cc.bnd fun t => if t then ca else cb)) := PS.imp (ps_if hc ha hb) fun E σ H h => by
  obtain ⟨δ, Hs, M, f, δ', g, s, e, q⟩ := h
  obtain ⟨t, δ1, e1, e2⟩ := bnd_ok e
  refine ⟨δ, Hs, M, t, δ1, g, s, e1, fun H' Hs' M' g' st' s' => ?_⟩
  cases t with
  | true => exact ⟨δ1, Hs', M', f, δ', g', s', e2, q.ahead (Keeps.refl _ _) g g' st'⟩
  | false => exact ⟨δ1, Hs', M', f, δ', g', s', e2, q.ahead (Keeps.refl _ _) g g' st'⟩
theorem set_slot {K : PySem.W.Frag} {H Hs : Hp} {σ : St} {δ : List D} {m M : Bud} {v : V} {d : D} (s : RepS K H Hs σ δ M) (hi : i < δ.length) (r : Rep K H Hs v d m) : RepS K H Hs (σ.set i (some v)) (δ.set i d) (fun b => m b + M b) := by
  obtain ⟨o, m1, m2, e1, q, l, f⟩ := s.focus (List.getElem?_eq_getElem hi)
  exact (f (RepO K H Hs) (some v) d m (fun a d m' _ q => q) (.inr ⟨v, rfl, r⟩)).mono fun b => by have := l b; (try dsimp only); omega
theorem asgN_ok {δ δ' : List D} {d : D} {u : Unit} (h : asgN lk i d δ = .ok (u, δ')) : i < δ.length ∧ lk i = false ∧ δ' = δ.set i d := by
  unfold asgN at h
  split at h
  · rename_i hc
    simp only [Bool.and_eq_true, decide_eq_true_eq, Bool.not_eq_true'] at hc
    cases h
    exact ⟨hc.1, hc.2, rfl⟩
  · cases h
theorem keeps_set {σ : St} {v : Option V} (h : lk i = false) : Keeps lk σ (σ.set i v) := fun j hj => by
  have : i ≠ j := fun q => by subst q; rw [h] at hj; cases hj
  rw [List.getElem?_set_ne this]
theorem ok_asg {c : M D} (hN : X.N.Nodup) (hi : X.N[i]? = some x) (hx : Loc X.env.scope x) (he : PE X e (tM X.K c)) (hs : swapsWith e (some (.Name x pos')) pos.line X.env = pure false := by rfl)
    (hf : X.fn x = true ∨ X.env.scope.names.lookup x = some .local := by first | exact .inl rfl | exact .inr rfl | assumption) :
    PS X (.Assign [.Name x pos'] e pos) (tS X.K lk (c.bnd fun d => (asgN lk i d).bnd fun _ => M.ret .nx)) := PS.imp (ps_set hN hi hx he hs hf) fun E σ H h => by
  obtain ⟨δ, Hs, M, f, δ', g, s, e, q⟩ := h
  obtain ⟨d, δ1, e1, e2⟩ := bnd_ok e
  obtain ⟨u, δ2, e3, e4⟩ := bnd_ok e2
  have := ret_ok e4
  cases this
  obtain ⟨h1, h2, rfl⟩ := asgN_ok e3
  exact ⟨δ, Hs, M, d, δ1, g, s, e1, fun v H' Hs' m M' g' st' r s' => q _ H' Hs' _ (keeps_set h2) g' st' (set_slot s' h1 r)⟩
end
end T
namespace T
open PySem PySem.Spec L2
noncomputable def gNs : List Nat → TGs
  | [] => gNil
  | i :: is => gCons (gName i) (gNs is)
theorem asgs_ok {K : PySem.W.Frag} {H Hs : Hp} {lk : Nat → Bool} : ∀ {is : List Nat} {ds : List D} {vs : List V} {σ : St} {δ δ' : List D} {m M : Bud} {u : Unit} {Q : St → Hp → Prop}, asgNs lk is ds δ = .ok (u, δ') → RepL K H Hs vs ds m → RepS K H Hs σ δ M →
    (∀ σ', Keeps lk σ σ' → RepS K H Hs σ' δ' (fun b => m b + M b) → Q σ' H) → vs.length = is.length ∧ gNs is vs σ H Q
  | [], [], _, σ, δ, δ', m, M, u, Q, e, .nil _, s, q => by
    have := ret_ok e
    cases this
    exact ⟨rfl, rfl, q σ (Keeps.refl _ _) (s.mono fun b => by omega)⟩
  | [], _ :: _, _, _, _, _, _, _, _, _, e, _, _, _ => by cases e
  | _ :: _, [], _, _, _, _, _, _, _, _, e, _, _, _ => by cases e
  | i :: is, d :: ds, _, σ, δ, δ', m, M, u, Q, e, .cons (v := v) (vs := vs) (m1 := m1) (m2 := m2) x y l, s, q => by
    obtain ⟨u1, δ1, e1, e2⟩ := bnd_ok e
    obtain ⟨h1, h2, rfl⟩ := asgN_ok e1
    obtain ⟨hl, hq⟩ := asgs_ok (Q := Q) e2 y (set_slot s h1 x) fun σ' k r => q σ' ((keeps_set h2).trans k) (r.mono fun b => by have := l b; (try dsimp only); omega)
    exact ⟨by rw [List.length_cons, List.length_cons, hl], v, vs, rfl, hq⟩
section
variable {X : Cx} {e o k : Expr} {es : List Expr} {pos pos' : Pos} {lk : Nat → Bool} {i j : Nat} {is : List Nat} {x : Str}
theorem ok_g0 : PGs X [] (gNs []) := pgs_nil
theorem ok_g (hN : X.N.Nodup) (hi : X.N[i]? = some x) (hx : Loc X.env.scope x) (hr : PGs X es (gNs is)) (hf : X.fn x = true ∨ X.env.scope.names.lookup x = some .local := by first | exact .inl rfl | exact .inr rfl | assumption)
    (hs : (assignEach (.Name x pos :: es) X.env).map (·.2) = assign (.Name x pos) X.env :: (assignEach es X.env).map (·.2) := by rfl) : PGs X (.Name x pos :: es) (gNs (i :: is)) := pgs_cons (pg_name hN hi hx hf) hr hs
theorem unp_fin {K : PySem.W.Frag} {H Hs : Hp} {σ : St} {δ δ' : List D} {m M : Bud} {x : V} {w : W} {u : Unit} {Q : St → Hp → Prop} (v : View K H Hs x w m) (s : RepS K H Hs σ δ M) (e : unpM lk is w δ = .ok (u, δ'))
    (q : ∀ σ', Keeps lk σ σ' → RepS K H Hs σ' δ' (fun b => m b + M b) → Q σ' H) : gSeq K is.length (gNs is) x σ H Q := by
  unfold unpM at e
  split at e
  · cases v with
    | nd n r =>
      obtain ⟨hl, hq⟩ := asgs_ok e r s q
      exact ⟨_, _, rfl, .inl (.inl (.inl n)), hl, hq⟩
  · cases v with
    | nd n r =>
      obtain ⟨hl, hq⟩ := asgs_ok e r s q
      exact ⟨_, _, rfl, .inr (.inl (.inl n)), hl, hq⟩
  · cases e
theorem ok_unp {ca : M Op} (hc : X.calm = true) (he : PE X e (tP X.K ca)) (hg : PGs X es (gNs is)) (hn : (assignEach es X.env).length = is.length := by rfl) (hst : (assignEach es X.env).findIdx? (·.1) = none := by rfl)
    (hs : swapsWithSole [.Tuple es j pos'] e pos.line X.env = pure false := by rfl) (hw : swappedStores [.Tuple es j pos'] e X.env = pure none := by rfl)
    (h1 : (assignEach [.Tuple es j pos'] X.env).map (·.2) = [assign (.Tuple es j pos') X.env] := by rfl) :
    PS X (.Assign [.Tuple es j pos'] e pos) (tS X.K lk ((ca.bnd view).bnd fun w => (unpM lk is w).bnd fun _ => M.ret .nx)) := PS.imp (ps_asg he (pg_seq hc hg hn hst) hs hw h1) fun E σ H h => by
  obtain ⟨δ, Hs, M, f, δ', g, s, ea, q⟩ := h
  obtain ⟨w, δ2, eb, ec⟩ := bnd_ok ea
  obtain ⟨p, δ1, e1, e2⟩ := bnd_ok eb
  obtain ⟨u, δ3, e3, e4⟩ := bnd_ok ec
  have := ret_ok e4
  cases this
  refine ⟨δ, Hs, M, p, δ1, g, s, e1, fun x H2 Hs2 m1 M2 g2 st2 r1 s2 => ?_⟩
  obtain ⟨Hs3, M3, g3, st3, v1, s3⟩ := view_ok (B := m1) g2 s2 r1 e2
  have z := step2 (m1 := fun _ => 0) g (g2.re fun b => by simp) (st2.drop (fun b => by simp) g2.le) g3 st3
  exact unp_fin v1 s3 e3 fun σ' kk r => q σ' H2 Hs3 _ kk g3 (z.2.1.drop (fun b => by simp) z.1.le) r
theorem RepL.set {K : PySem.W.Frag} {H Hs : Hp} {vs : List V} {ds : List D} {m m1 : Bud} {n : Nat} {v : V} {d d0 : D} (r : RepL K H Hs vs ds m) (hn : ds[n]? = some d0) (x : Rep K H Hs v d m1) : RepL K H Hs (vs.set n v) (ds.set n d) (fun b => m b + m1 b) := by
  obtain ⟨a, n1, n2, e1, q, l, f⟩ := r.sep.focus hn
  exact ((f (Rep K H Hs) v d m1 (fun a d m' _ q => q) x).mono fun b => by have := l b; (try dsimp only); omega).repL
theorem late_ok {K : PySem.W.Frag} {H Hs : Hp} {σ : St} {δ δ' : List D} {M : Bud} {p : Op} (s : RepS K H Hs σ δ M) (h : lateM i δ = .ok (p, δ')) : δ' = δ ∧ ∃ v, σ[i]? = some (some v) := by
  unfold lateM at h
  split at h
  · rename_i hd
    cases h
    obtain ⟨v, _, _, e, _⟩ := s.slot hd (by simp)
    exact ⟨rfl, v, e⟩
  · rename_i hd
    cases h
    obtain ⟨v, _, _, e, _⟩ := s.slot hd (by simp)
    exact ⟨rfl, v, e⟩
  · cases h
theorem ok_sub {c : M D} {ck : M Op} (ho : PE X o (tVar i)) (hk : PE X k (tP X.K ck)) (he : PE X e (tM X.K c))
    (ha : ∀ v, assign (.Subscript o k pos') X.env v = (do
      let ov ← holding [v] (eval o X.env)
      let iv ← holding [v, ov] (eval k X.env)
      standAt pos'
      holding [v, ov, iv] (setItem ov iv v)
      release [v, ov, iv] []) := by intro _; rfl)
    (hs : swapsWithSole [.Subscript o k pos'] e pos.line X.env = pure false := by rfl) (hw : swappedStores [.Subscript o k pos'] e X.env = pure none := by rfl)
    (h1 : (assignEach [.Subscript o k pos'] X.env).map (·.2) = [assign (.Subscript o k pos') X.env] := by rfl) :
    PS X (.Assign [.Subscript o k pos'] e pos) (tS X.K lk (c.bnd fun d => (lateM i).bnd fun _ => (ck.bnd view).bnd fun w => (modS i (setD w d)).bnd fun _ => M.ret .nx)) :=
  PS.imp (ps_asg he (pg_sub ho hk set_list ha) hs hw h1) fun E σ H h => by
  obtain ⟨δ, Hs, M, f, δ', g, s, ea, q⟩ := h
  obtain ⟨d, δ1, e1, eb⟩ := bnd_ok ea
  obtain ⟨p0, δ2, e2, ec⟩ := bnd_ok eb
  obtain ⟨w, δ3, e3, ed⟩ := bnd_ok ec
  obtain ⟨p, δ4, e4, e5⟩ := bnd_ok e3
  obtain ⟨r0, δ5, e6, e7⟩ := bnd_ok ed
  have := ret_ok e7
  cases this
  obtain ⟨kk, ds0, k', ds', hi, hf, rfl⟩ := modS_ok e6
  refine ⟨δ, Hs, M, d, δ1, g, s, e1, fun v H1 Hs1 m1 M1 g1 st1 r1 s1 => ?_⟩
  obtain ⟨rfl, vo, ho⟩ := late_ok s1 e2
  refine ⟨vo, ho, δ2, Hs1, M1, p, δ4, g1.re, s1, e4, fun y H2 Hs2 m2 M2 g2 st2 r2 s2 => ?_⟩
  obtain ⟨G2, S2, k2⟩ := step2 g g1 st1 g2 st2
  have r1' := r1.frame st2.grow k2
  obtain ⟨Hs3, M3, g3, st3, v3, s3⟩ := view_ok (B := fun b => m1 b + m2 b) (G2.re fun b => by (try dsimp only); omega) s2 r2 e5
  have r1'' := r1'.frame (H' := H2) st3.grow fun _ _ _ => rfl
  obtain ⟨p1, us, m', n2, e8, n, rl, le, fin⟩ := modL g3 s3 hi
  rw [ho] at e8
  cases e8
  unfold setD at hf
  split at hf
  · split at hf
    · rename_i nn
      simp only [Option.map_eq_some_iff] at hf
      obtain ⟨jj, hj, hf⟩ := hf
      cases hf
      cases v3
      have hl := rl.len
      have hjj : ixN us.length nn = some jj := by rw [hl]; exact hj
      have hlt : jj < ds0.length := by
        unfold ixN' at hj
        split at hj
        · split at hj
          · cases hj; omega
          · cases hj
        · split at hj
          · cases hj; omega
          · cases hj
      obtain ⟨G, S, R, SS⟩ := fin (.lst (us.set jj v)) .lst (us.set jj v) (ds0.set jj d) (fun b => m' b + m1 b) (fun _ => 0) .non (.sc .non) (fun b => by (try dsimp only); omega) upd_same (rl.set (List.getElem?_eq_getElem hlt) r1'') (.sc _ _)
      have S2' : Stp H Hs M H2 Hs2 (fun b => m1 b + m2 b + M2 b) := S2.drop (fun b => by omega) G2.le
      have G2' : Good H2 Hs2 (fun b => m1 b + m2 b + M2 b) := G2.re fun b => by omega
      have z3 := step2 (m1 := fun _ => 0) g (G2'.re fun b => by simp) (S2'.drop (fun b => by simp) G2'.le) g3 st3
      have S3 : Stp H Hs M H2 Hs3 (fun b => m1 b + m2 b + M3 b) := z3.2.1.drop (fun b => by simp) z3.1.le
      have z := step2 (m1 := fun _ => 0) g (g3.re fun b => by simp) (S3.drop (fun b => by simp) g3.le) G S
      exact ⟨_, us, nn, jj, rfl, rfl, n, hjj, q σ _ Hs3 _ (Keeps.refl _ _) (G.re fun b => by (try dsimp only); omega) ((z.2.1.drop (fun b => by simp) z.1.le).drop (fun b => by (try dsimp only); omega) G.le) SS⟩
    · cases hf
  · cases hf
end
end T
namespace T
open PySem PySem.Spec L2
structure WalkV (J : It) (vs : List V) (B : Bud) (Pp : Hp → Hp → Prop) : Prop where
  stay : ∀ {H Hs H' Hs' : Hp}, Pp H Hs → Same Hs Hs' → (∀ b, B b ≥ 1 → H b ≠ none → H' b = H b) → Pp H' Hs'
  go : ∀ {H Hs : Hp} {i : Nat} {v : V}, Same Hs H → Pp H Hs → vs[i]? = some v → J.go i H
  yld : ∀ {H Hs H' : Hp} {i : Nat} {x v : V}, Same Hs H → Pp H Hs → vs[i]? = some v → J.yld i H x H' → H' = H ∧ x = v
  stop : ∀ {H Hs : Hp} {i : Nat}, Same Hs H → Pp H Hs → vs.length ≤ i → J.stop i H
noncomputable def Grow (H Hs H' Hs' : Hp) : Prop := (H' = H ∧ Hs' = Hs) ∨ ∃ A o, H A = none ∧ H' = upd H A o ∧ Hs' = upd Hs A o
theorem Grow.same {H Hs H' Hs' : Hp} (w : Grow H Hs H' Hs') (g : Same Hs H) : Same Hs Hs' ∧ (∀ b, H b ≠ none → H' b = H b) ∧ Same Hs' H' := by
  rcases w with ⟨rfl, rfl⟩ | ⟨A, o, h, rfl, rfl⟩
  · exact ⟨Same.refl _, fun _ _ => rfl, g⟩
  · have hs : Hs A = none := by
      cases q : Hs A with
      | none => rfl
      | some u => rw [g A u q] at h; cases h
    have ne : ∀ b u, Hs b = some u → b ≠ A := fun b u e z => by subst z; rw [hs] at e; cases e
    refine ⟨fun b u e => ?_, fun b n => upd_ne fun z => n (by rw [z]; exact h), fun b u e => ?_⟩
    · rw [upd_ne (ne b u e)]; exact e
    · by_cases z : b = A
      · subst z; rw [upd_same] at e ⊢; exact e
      · rw [upd_ne z] at e ⊢; exact g b u e
theorem Grow.good {H Hs H' Hs' : Hp} {M : Bud} (w : Grow H Hs H' Hs') (g : Good H Hs M) : Good H' Hs' M := by
  obtain ⟨s1, s2, s3⟩ := w.same g.sub
  refine ⟨s3, g.le, fun b h => ?_, fun b h => ?_⟩
  · rcases w with ⟨rfl, rfl⟩ | ⟨A, o, n, rfl, rfl⟩
    · exact g.ne b h
    · rw [upd_ne fun z => g.has b h (by rw [z]; exact n)]; exact g.ne b h
  · rw [s2 b (g.has b h)]; exact g.has b h
theorem Grow.stp {H Hs H' Hs' H0 Hs0 : Hp} {M M0 : Bud} (w : Grow H Hs H' Hs') (g : Good H Hs M) (t : Stp H0 Hs0 M0 H Hs M) : Stp H0 Hs0 M0 H' Hs' M := by
  obtain ⟨s1, s2, s3⟩ := w.same g.sub
  refine ⟨fun b o e z => ?_, t.own, t.grow.trans s1, fun b n n' => ?_, fun b n => ?_⟩
  · have e1 := t.keep b o e z
    rw [s2 b (by rw [e1]; simp)]; exact e1
  · by_cases q : Hs b = none
    · rcases w with ⟨rfl, rfl⟩ | ⟨A, o, h, rfl, rfl⟩
      · exact absurd q n'
      · by_cases z : b = A
        · subst z
          cases y : H0 b with
          | none => exact .inr rfl
          | some u => exact absurd h (t.stay b (by rw [y]; simp))
        · rw [upd_ne z] at n'; exact absurd q n'
    · exact t.shr b n q
  · have := t.stay b n
    rw [s2 b this]; exact this
structure Walk (K : PySem.W.Frag) (J : It) (items : List D) (B : Bud) (Pp : Hp → Hp → Prop) : Prop where
  stay : ∀ {H Hs H' Hs' : Hp}, Pp H Hs → Same Hs Hs' → (∀ b, B b ≥ 1 → H b ≠ none → H' b = H b) → Pp H' Hs'
  go : ∀ {H Hs : Hp} {i : Nat}, Same Hs H → Pp H Hs → i < items.length → J.go i H
  yld : ∀ {H Hs H' : Hp} {i : Nat} {x : V} {d : D}, Same Hs H → Pp H Hs → items[i]? = some d → J.yld i H x H' → ∃ Hs', Grow H Hs H' Hs' ∧ Rep K H' Hs' x d (fun _ => 0)
  stop : ∀ {H Hs : Hp} {i : Nat}, Same Hs H → Pp H Hs → items.length ≤ i → J.stop i H
theorem WalkV.w {K : PySem.W.Frag} {J : It} {vs : List V} {items : List D} {B : Bud} {Pp : Hp → Hp → Prop} (w : WalkV J vs B Pp) : Walk K J items B (fun H Hs => Pp H Hs ∧ RepL K H Hs vs items (fun _ => 0)) where
  stay := fun h g k => ⟨w.stay h.1 g k, h.2.frame g fun b hb => absurd hb (by simp)⟩
  go := fun {H Hs i} g h l => by
    have e := h.2.len
    exact w.go g h.1 (List.getElem?_eq_getElem (show i < vs.length by omega))
  yld := fun {H Hs H' i x d} g h e y => by
    obtain ⟨v, m1, ev, rv, lv⟩ := h.2.at e
    obtain ⟨rfl, rfl⟩ := w.yld g h.1 ev y
    exact ⟨Hs, .inl ⟨rfl, rfl⟩, rv.mono lv⟩
  stop := fun {H Hs i} g h l => w.stop g h.1 (by have := h.2.len; omega)
noncomputable def Held (K : PySem.W.Frag) (H Hs : Hp) (σ : St) : List (Nat × D) → Bud → Prop
  | [], _ => True
  | (i, d) :: r, m => ∃ (v : V) (m1 m2 : Bud), σ[i]? = some (some v) ∧ Rep K H Hs v d m1 ∧ Held K H Hs σ r m2 ∧ ∀ b, m1 b + m2 b ≤ m b
theorem Held.frame {K : PySem.W.Frag} {H Hs H' Hs' : Hp} {σ : St} (g : Same Hs Hs') : ∀ {hs : List (Nat × D)} {m : Bud}, (∀ b, m b ≥ 1 → H b ≠ none → H' b = H b) → Held K H Hs σ hs m → Held K H' Hs' σ hs m
  | [], _, _, h => h
  | (i, d) :: r, m, k, ⟨v, m1, m2, e, x, y, l⟩ => ⟨v, m1, m2, e, x.frame g fun b hb => k b (by have := l b; omega), y.frame g fun b hb => k b (by have := l b; omega), l⟩
theorem Held.keeps {K : PySem.W.Frag} {H Hs : Hp} {σ σ' : St} {lk : Nat → Bool} (k : Keeps lk σ σ') : ∀ {hs : List (Nat × D)} {m : Bud}, (∀ p ∈ hs, lk p.1 = true) → Held K H Hs σ hs m → Held K H Hs σ' hs m
  | [], _, _, h => h
  | (i, d) :: r, m, hl, ⟨v, m1, m2, e, x, y, l⟩ => ⟨v, m1, m2, (k i (hl (i, d) List.mem_cons_self)).trans e, x, y.keeps k fun p hp => hl p (List.mem_cons_of_mem _ hp), l⟩
theorem giveH_ok {K : PySem.W.Frag} {H Hs : Hp} {σ : St} : ∀ {hs : List (Nat × D)} {m M : Bud} {δ δ' : List D} {u : Unit}, giveH hs δ = .ok (u, δ') → Held K H Hs σ hs m → RepS K H Hs σ δ M → RepS K H Hs σ δ' (fun b => m b + M b)
  | [], m, M, δ, δ', u, e, h, s => by
    have := ret_ok e
    cases this
    exact s.mono fun b => by omega
  | (i, d) :: r, m, M, δ, δ', u, e, ⟨v, m1, m2, e1, x, y, l⟩, s => by
    have hi : i < δ.length := by
      have := s.length
      have := (List.getElem?_eq_some_iff.mp e1).1
      omega
    have z := set_slot s hi x
    rw [set_self e1] at z
    exact (giveH_ok (show giveH r (δ.set i d) = _ from e) y z).mono fun b => by have := l b; (try dsimp only); omega
noncomputable def tI (K : PySem.W.Frag) (ik : IK) (cs : M (List Op)) : TI := fun σ H R => ∃ (δ : List D) (Hs : Hp) (M : Bud) (h : List W × List (Nat × D)) (items : List D) (δ' : List D), Good H Hs M ∧ RepS K H Hs σ δ M ∧ (cs.bnd holdVs) δ = .ok (h, δ') ∧ itW ik h.1 = some items ∧
  ∀ (J : It) (Pp : Hp → Hp → Prop) (H' Hs' : Hp) (B M' : Bud), Good H' Hs' (fun b => B b + M' b) → Stp H Hs M H' Hs' (fun b => B b + M' b) → RepS K H' Hs' σ δ' M' → Held K H' Hs' σ h.2 B → Walk K J items B Pp → Pp H' Hs' → R J H'
theorem PI.imp {X : Cx} {tg it : Expr} {w w' : TI} (h : PI X tg it w) (q : ∀ σ H R, w' σ H R → w σ H R) : PI X tg it w' := fun pins s σ H R I z => h pins s σ H R I (q σ H R z)
noncomputable def HW (K : PySem.W.Frag) (H Hs : Hp) (B : Bud) (v : V) : W → Prop
  | .sc u => v = u
  | .nd k ds => ∃ a vs, v = .ref a ∧ RepL K H Hs vs ds (fun _ => 0) ∧ (NodeR K Hs a vs k ∨ (NodeO H a vs k ∧ B a ≥ 1))
theorem hold_ok {K : PySem.W.Frag} {H Hs : Hp} {σ : St} {δ δ' : List D} {m M : Bud} {p : Op} {v : V} {w : W × Option (Nat × D)} (g : Good H Hs (fun b => m b + M b)) (s : RepS K H Hs σ δ M) (r : RepP K H Hs σ v p m) (e : holdV p δ = .ok (w, δ')) :
    ∃ Hs' B M', Good H Hs' (fun b => B b + M' b) ∧ Stp H Hs (fun b => m b + M b) H Hs' (fun b => B b + M' b) ∧ RepS K H Hs' σ δ' M' ∧ Held K H Hs' σ w.2.toList B ∧ HW K H Hs' B v w.1 := by
  have dropM : ∀ {Hs' : Hp} {M' : Bud}, Good H Hs' M' → Good H Hs' (fun b => (fun _ => 0) b + M' b) := fun g => g.re fun b => by simp
  cases p with
  | tmp d =>
    cases d with
    | hole => cases e
    | sc u =>
      have := ret_ok e
      cases this
      cases r
      exact ⟨Hs, fun _ => 0, M, g.re fun b => by simp, (Stp.refl H Hs _).drop (fun b => by simp) g.le, s, trivial, rfl⟩
    | node k o ds =>
      have := ret_ok e
      cases this
      have hsame := shH_same g (m := m) fun b => by omega
      have r2 := Rep.share hsame (shH_at (H := H) (Hs := Hs) (m := m)) r
      refine ⟨shH H Hs m, fun _ => 0, M, dropM g.share, (Stp.share g).drop (fun b => by simp) g.share.le, s.frame hsame fun _ _ _ => rfl, trivial, ?_⟩
      simp only [shr] at r2
      cases r2 with
      | shd n r3 => exact ⟨_, _, rfl, r3, .inl n⟩
  | late i =>
    have r : σ[i]? = some (some v) := r
    unfold holdV at e
    dsimp only at e
    split at e
    · rename_i u hi
      cases e
      obtain ⟨v', m1, m2, e1, q, l, f⟩ := s.slot hi (by simp)
      rw [r] at e1
      cases e1
      cases q
      exact ⟨Hs, fun _ => 0, M, g.re fun b => by simp, (Stp.refl H Hs _).drop (fun b => by simp) g.le, s, trivial, rfl⟩
    · rename_i k ds hi
      cases e
      obtain ⟨v', m1, m2, e1, q, l, f⟩ := s.slot hi (by simp)
      rw [r] at e1
      cases e1
      cases q with
      | shd n q => exact ⟨Hs, fun _ => 0, M, g.re fun b => by simp, (Stp.refl H Hs _).drop (fun b => by simp) g.le, s, trivial, _, _, rfl, q, .inl n⟩
    · rename_i k ds hi
      cases e
      obtain ⟨v', m1, m2, e1, q, l, f⟩ := s.slot hi (by simp)
      rw [r] at e1
      cases e1
      cases q with
      | @own a _ vs _ _ m' n q l' =>
        have g2 : Good H Hs (fun b => m' b + (one a b + m2 b)) := g.re fun b => by have := l b; have := l' b; omega
        have hsame := shH_same g2 (m := m') fun b => by omega
        have q2 := RepL.share hsame (shH_at (H := H) (Hs := Hs) (m := m')) q
        have st := Stp.share g2
        have z := f H (shH H Hs m') (some (.ref a)) .hole (fun _ => 0) hsame (fun _ _ _ => rfl) (.inl rfl)
        rw [set_self r] at z
        refine ⟨shH H Hs m', one a, m2, g2.share, ⟨fun b o h _ => h, fun b h => ?_, st.grow, fun b h h' => ?_, fun b h => h⟩, z.mono fun b => by simp, ⟨_, one a, fun _ => 0, r, .own n q2 fun b => by simp, trivial, fun b => by simp⟩, _, _, rfl, q2, .inr ⟨n, by simp [one]⟩⟩
        · have h : one a b + m2 b = 1 := h
          have l0 : m b + M b ≤ 1 := g.le b
          have := l b
          have := l' b
          left
          show m b + M b = 1
          omega
        · rcases st.shr b h h' with z | z
          · have z : m' b + (one a b + m2 b) = 1 := z
            have l0 : m b + M b ≤ 1 := g.le b
            have := l b
            have := l' b
            left
            show m b + M b = 1
            omega
          · exact .inr z
    · cases e
theorem walk_range (lo : Int) (n : Nat) (B : Bud) : WalkV (Itr lo n) ((List.range n).map fun (k : Nat) => V.int (lo + k)) B (fun _ _ => True) where
  stay := fun _ _ _ => trivial
  go := fun {H Hs i v} _ _ h => by
    have := (List.getElem?_eq_some_iff.mp h).1
    simp only [List.length_map, List.length_range] at this
    exact this
  yld := fun {H Hs H' i x v} _ _ h y => by
    obtain ⟨e, y⟩ := y
    have := (List.getElem?_eq_some_iff.mp h).1
    simp only [List.length_map, List.length_range] at this
    rw [List.getElem?_map, List.getElem?_range this] at h
    simp only [Option.map_some, Option.some.injEq] at h
    exact ⟨e, y.trans h⟩
  stop := fun {H Hs i} _ _ h => by
    simp only [List.length_map, List.length_range] at h
    exact h
theorem walk_list {K : PySem.W.Frag} {a : Addr} {vs : List V} {B : Bud} : WalkV (Itl K a) vs B (fun H Hs => SqL K Hs a vs ∨ (H a = some (.lst vs) ∧ B a ≥ 1)) := by
  have sq : ∀ {H Hs : Hp}, Same Hs H → (SqL K Hs a vs ∨ (H a = some (.lst vs) ∧ B a ≥ 1)) → SqL K H a vs := fun g h => by
    rcases h with h | h
    · exact g.seq h
    · exact .inl (.inl h.1)
  refine ⟨fun h g k => ?_, fun g h e => ⟨vs, _, sq g h, e⟩, fun g h e y => ?_, fun g h e => ⟨vs, sq g h, e⟩⟩
  · rcases h with h | ⟨h, hb⟩
    · exact .inl (g.seq h)
    · exact .inr ⟨(k a hb (by rw [h]; simp)).trans h, hb⟩
  · obtain ⟨e1, y⟩ := y
    have := y vs (sq g h)
    rw [e] at this
    exact ⟨e1, (Option.some.inj this).symm⟩
theorem walk_tup {K : PySem.W.Frag} {a : Addr} {vs : List V} {B : Bud} : WalkV (Itt K a) vs B (fun H Hs => SqT K Hs a vs ∨ (H a = some (.tup vs) ∧ B a ≥ 1)) := by
  have sq : ∀ {H Hs : Hp}, Same Hs H → (SqT K Hs a vs ∨ (H a = some (.tup vs) ∧ B a ≥ 1)) → SqT K H a vs := fun g h => by
    rcases h with h | h
    · exact Same.tupq' g h
    · exact .inl (.inl h.1)
  refine ⟨fun h g k => ?_, fun g h e => ⟨vs, _, sq g h, e⟩, fun g h e y => ?_, fun g h e => ⟨vs, sq g h, e⟩⟩
  · rcases h with h | ⟨h, hb⟩
    · exact .inl (Same.tupq' g h)
    · exact .inr ⟨(k a hb (by rw [h]; simp)).trans h, hb⟩
  · obtain ⟨e1, y⟩ := y
    have := y vs (sq g h)
    rw [e] at this
    exact ⟨e1, (Option.some.inj this).symm⟩
section
variable {X : Cx} {tg a b l : Expr} {ca cb : M Op} {pos p : Pos}
theorem hold1 {c : M Op} {δ δ' : List D} {h : List W × List (Nat × D)} (e : ((c.bnd fun p => (M.ret ([] : List Op)).bnd fun ps => M.ret (p :: ps)).bnd holdVs) δ = .ok (h, δ')) : ∃ p δ1 w, c δ = .ok (p, δ1) ∧ holdV p δ1 = .ok (w, δ') ∧ h = ([w.1], w.2.toList) := by
  obtain ⟨ps, δ1, e1, e2⟩ := bnd_ok e
  obtain ⟨p, δ2, e3, e4⟩ := bnd_ok e1
  obtain ⟨z, δ3, e5, e6⟩ := bnd_ok e4
  have := ret_ok e5
  cases this
  have := ret_ok e6
  cases this
  obtain ⟨w, δ4, e7, e8⟩ := bnd_ok e2
  obtain ⟨z, δ5, e9, e10⟩ := bnd_ok e8
  have := ret_ok e9
  cases this
  have := ret_ok e10
  cases this
  exact ⟨p, δ1, w, e3, e7, by simp⟩
theorem repl_ints {K : PySem.W.Frag} {H Hs : Hp} : ∀ (l : List Int), RepL K H Hs (l.map V.int) (l.map fun i => D.sc (.int i)) (fun _ => 0)
  | [] => .nil _
  | i :: l => .cons (m1 := fun _ => 0) (m2 := fun _ => 0) (.sc _ _) (repl_ints l) fun b => by simp
theorem rng_rep {K : PySem.W.Frag} {H Hs : Hp} (lo hi : Int) : RepL K H Hs ((List.range (hi - lo).toNat).map fun (k : Nat) => V.int (lo + k)) (rng lo hi) (fun _ => 0) := by
  have z := repl_ints (K := K) (H := H) (Hs := Hs) ((List.range (hi - lo).toNat).map fun (k : Nat) => lo + k)
  rw [List.map_map, List.map_map] at z
  exact z
theorem ok_rng1 (hg : Gl X "range") (hm : X.mg "range" = none) (ha : PE X a (tP X.K ca)) (hs : starEach [a] X.env = [(false, eval a X.env)] := by rfl) :
    PI X tg (.Call (.Name "range" p) [a] [] pos) (tI X.K .rng1 (ca.bnd fun p => (M.ret ([] : List Op)).bnd fun ps => M.ret (p :: ps))) := PI.imp (pi_range1 hg hm (pa_cons ha pa_nil (by rw [hs]; rfl)) hs) fun σ H R h => by
  obtain ⟨δ, Hs, M, h, items, δ', g, s, e, ei, q⟩ := h
  obtain ⟨p, δ1, w, e1, e2, rfl⟩ := hold1 e
  refine ⟨δ, Hs, M, p, δ1, g, s, e1, fun x H2 Hs2 m1 M2 g2 st2 r1 s2 => ?_⟩
  obtain ⟨Hs3, B, M3, g3, st3, s3, hh, hw⟩ := hold_ok g2 s2 r1 e2
  have z := step2 (m1 := fun _ => 0) g (g2.re fun b => by simp) (st2.drop (fun b => by simp) g2.le) g3 st3
  obtain ⟨w1, w2⟩ := w
  replace ei : rng1I _ = _ := ei
  unfold rng1I at ei
  split at ei
  rotate_left
  · cases ei
  rename_i n hx
  cases hx
  split at ei
  · rename_i hok
    cases ei
    obtain rfl := hw
    simp only [okR, Bool.and_eq_true, decide_eq_true_eq] at hok
    have hz : (n - 0).toNat = n.toNat := by omega
    refine ⟨n, rfl, hok.1, hok.2, ?_⟩
    have := rng_rep (K := X.K) (H := H2) (Hs := Hs3) 0 n
    rw [hz] at this
    exact q _ _ H2 Hs3 B M3 g3 (z.2.1.drop (fun b => by simp) z.1.le) s3 hh (walk_range 0 n.toNat B).w ⟨trivial, this⟩
  · cases ei
theorem repl_chars {K : PySem.W.Frag} {H Hs : Hp} : ∀ (l : List Nat), RepL K H Hs (l.map fun c => V.str ⟨#[c]⟩) (l.map fun c => D.sc (.str ⟨#[c]⟩)) (fun _ => 0)
  | [] => .nil _
  | i :: l => .cons (m1 := fun _ => 0) (m2 := fun _ => 0) (.sc _ _) (repl_chars l) fun b => by simp
theorem walk_str (x : Str) (B : Bud) : WalkV (Its x) (x.cps.toList.map fun c => V.str ⟨#[c]⟩) B (fun _ _ => True) where
  stay := fun _ _ _ => trivial
  go := fun {H Hs i v} _ _ h => by
    have := (List.getElem?_eq_some_iff.mp h).1
    have : i < x.cps.size := by simpa using this
    exact this
  yld := fun {H Hs H' i y v} _ _ h z => by
    obtain ⟨e, c, h1, h2⟩ := z
    refine ⟨e, ?_⟩
    rw [List.getElem?_map, Array.getElem?_toList, h1] at h
    simp only [Option.map_some, Option.some.injEq] at h
    exact h2.trans h
  stop := fun {H Hs i} _ _ h => by
    have h : x.cps.size ≤ i := by simpa using h
    exact h
theorem ok_val (hl : PE X l (tP X.K ca)) : PI X tg l (tI X.K .val (ca.bnd fun p => (M.ret ([] : List Op)).bnd fun ps => M.ret (p :: ps))) := by
  intro pins st0 σ H R I hh0
  obtain ⟨δ, Hs, M, h, items, δ', g, s, e, ei, q⟩ := hh0
  obtain ⟨p, δ1, w, e1, e2, rfl⟩ := hold1 e
  obtain ⟨w1, w2⟩ := w
  have core : ∀ (x : V) (H2 Hs2 : Hp) (m1 M2 : Bud), Good H2 Hs2 (fun b => m1 b + M2 b) → Stp H Hs M H2 Hs2 (fun b => m1 b + M2 b) → RepP X.K H2 Hs2 σ x p m1 → RepS X.K H2 Hs2 σ δ1 M2 →
      ∃ Hs3 B M3, Good H2 Hs3 (fun b => B b + M3 b) ∧ Stp H Hs M H2 Hs3 (fun b => B b + M3 b) ∧ RepS X.K H2 Hs3 σ δ' M3 ∧ Held X.K H2 Hs3 σ w2.toList B ∧ HW X.K H2 Hs3 B x w1 := fun x H2 Hs2 m1 M2 g2 st2 r1 s2 => by
    obtain ⟨Hs3, B, M3, g3, st3, s3, hh, hw⟩ := hold_ok g2 s2 r1 e2
    have z := step2 (m1 := fun _ => 0) g (g2.re fun b => by simp) (st2.drop (fun b => by simp) g2.le) g3 st3
    exact ⟨Hs3, B, M3, g3, z.2.1.drop (fun b => by simp) z.1.le, s3, hh, hw⟩
  cases w1 with
  | sc u =>
    cases u with
    | str z =>
      cases ei
      refine pi_str hl pins st0 σ H R I ⟨δ, Hs, M, p, δ1, g, s, e1, fun x H2 Hs2 m1 M2 g2 st2 r1 s2 => ?_⟩
      obtain ⟨Hs3, B, M3, g3, st3, s3, hh, hw⟩ := core x H2 Hs2 m1 M2 g2 st2 r1 s2
      exact ⟨z, hw, q _ _ H2 Hs3 B M3 g3 st3 s3 hh (walk_str z B).w ⟨trivial, repl_chars _⟩⟩
    | _ => cases ei
  | nd k ds =>
    cases k with
    | lst =>
      cases ei
      refine pi_list hl pins st0 σ H R I ⟨δ, Hs, M, p, δ1, g, s, e1, fun x H2 Hs2 m1 M2 g2 st2 r1 s2 => ?_⟩
      obtain ⟨Hs3, B, M3, g3, st3, s3, hh, a, vs, hx, hr, hn⟩ := core x H2 Hs2 m1 M2 g2 st2 r1 s2
      have hp : SqL X.K Hs3 a vs ∨ (H2 a = some (.lst vs) ∧ B a ≥ 1) := hn.elim (fun n => .inl (.inl (.inl n))) fun n => .inr n
      refine ⟨a, hx, ⟨vs, ?_⟩, q _ _ H2 Hs3 B M3 g3 st3 s3 hh walk_list.w ⟨hp, hr⟩⟩
      rcases hp with hp | hp
      · exact g3.sub.seq hp
      · exact .inl (.inl hp.1)
    | frl =>
      cases ei
      refine pi_list hl pins st0 σ H R I ⟨δ, Hs, M, p, δ1, g, s, e1, fun x H2 Hs2 m1 M2 g2 st2 r1 s2 => ?_⟩
      obtain ⟨Hs3, B, M3, g3, st3, s3, hh, a, vs, hx, hr, hn⟩ := core x H2 Hs2 m1 M2 g2 st2 r1 s2
      have hp : SqL X.K Hs3 a vs ∨ (H2 a = some (.lst vs) ∧ B a ≥ 1) := hn.elim (fun n => .inl n) fun n => n.1.elim
      refine ⟨a, hx, ⟨vs, ?_⟩, q _ _ H2 Hs3 B M3 g3 st3 s3 hh walk_list.w ⟨hp, hr⟩⟩
      rcases hp with hp | hp
      · exact g3.sub.seq hp
      · exact .inl (.inl hp.1)
    | tup =>
      cases ei
      refine pi_tup hl pins st0 σ H R I ⟨δ, Hs, M, p, δ1, g, s, e1, fun x H2 Hs2 m1 M2 g2 st2 r1 s2 => ?_⟩
      obtain ⟨Hs3, B, M3, g3, st3, s3, hh, a, vs, hx, hr, hn⟩ := core x H2 Hs2 m1 M2 g2 st2 r1 s2
      have hp : SqT X.K Hs3 a vs ∨ (H2 a = some (.tup vs) ∧ B a ≥ 1) := hn.elim (fun n => .inl (.inl (.inl n))) fun n => .inr n
      refine ⟨a, hx, ⟨vs, ?_⟩, q _ _ H2 Hs3 B M3 g3 st3 s3 hh walk_tup.w ⟨hp, hr⟩⟩
      rcases hp with hp | hp
      · exact Same.tupq' g3.sub hp
      · exact .inl (.inl hp.1)
    | ftp =>
      cases ei
      refine pi_tup hl pins st0 σ H R I ⟨δ, Hs, M, p, δ1, g, s, e1, fun x H2 Hs2 m1 M2 g2 st2 r1 s2 => ?_⟩
      obtain ⟨Hs3, B, M3, g3, st3, s3, hh, a, vs, hx, hr, hn⟩ := core x H2 Hs2 m1 M2 g2 st2 r1 s2
      have hp : SqT X.K Hs3 a vs ∨ (H2 a = some (.tup vs) ∧ B a ≥ 1) := hn.elim (fun n => .inl n) fun n => n.1.elim
      refine ⟨a, hx, ⟨vs, ?_⟩, q _ _ H2 Hs3 B M3 g3 st3 s3 hh walk_tup.w ⟨hp, hr⟩⟩
      rcases hp with hp | hp
      · exact Same.tupq' g3.sub hp
      · exact .inl (.inl hp.1)
    | dic ks => cases ei
    | ins C fs => cases ei
end
end T
namespace T
open PySem PySem.Spec L2
noncomputable def gT (K : PySem.W.Frag) : Tg → TG
  | .name i => gName i
  | .tup is => gSeq K is.length (gNs is)
theorem asgT_ok {K : PySem.W.Frag} {H Hs : Hp} {lk : Nat → Bool} {tg : Tg} {d : D} {v : V} {σ : St} {δ δ' : List D} {M : Bud} {u : Unit} {Q : St → Hp → Prop} (hs : Same Hs H) (e : asgT lk tg d δ = .ok (u, δ')) (r : Rep K H Hs v d (fun _ => 0)) (s : RepS K H Hs σ δ M)
    (q : ∀ σ', Keeps lk σ σ' → RepS K H Hs σ' δ' M → Q σ' H) : gT K tg v σ H Q := by
  cases tg with
  | name i =>
    obtain ⟨h1, h2, rfl⟩ := asgN_ok e
    exact q _ (keeps_set h2) ((set_slot s h1 r).mono fun b => by simp)
  | tup is =>
    cases d with
    | sc v => cases e
    | hole => cases e
    | node k o ds =>
      cases k with
      | tup =>
        have e : asgNs lk is ds δ = .ok (u, δ') := e
        cases r with
        | own n r l =>
          rename_i a _ _
          have := l a
          simp [one] at this
        | shd n r =>
          obtain ⟨hl, hq⟩ := asgs_ok (Q := Q) e r s fun σ' k z => q σ' k (z.mono fun b => by simp)
          exact ⟨_, _, rfl, .inl (.inl (.inl (hs _ _ n))), hl, hq⟩
      | _ => cases e
theorem opd_tmp {a : E} {c : M D} (h : ∀ j, a ≠ .v j) : opdOf a c = c.bnd fun d => M.ret (.tmp d) := by
  cases a <;> first | rfl | exact absurd rfl (h _)
theorem holdVs_late : ∀ {ps : List Op} {δ δ' : List D} {h : List W × List (Nat × D)}, holdVs ps δ = .ok (h, δ') → ∀ q ∈ h.2, .late q.1 ∈ ps
  | [], δ, δ', h, e, q, hq => by
    have := ret_ok (show T.M.ret (([] : List W), ([] : List (Nat × D))) δ = .ok (h, δ') from e)
    cases this
    simp at hq
  | p :: ps, δ, δ', h, e, q, hq => by
    obtain ⟨w, δ1, e1, e2⟩ := bnd_ok e
    obtain ⟨ws, δ2, e3, e4⟩ := bnd_ok e2
    have := ret_ok e4
    cases this
    rcases List.mem_append.mp hq with h | h
    · have : p = .late q.1 := by
        cases p with
        | tmp d => cases d <;> cases e1 <;> simp at h
        | late i =>
          unfold holdV at e1
          dsimp only at e1
          split at e1 <;> cases e1 <;> simp at h
          subst h
          rfl
      rw [this]
      exact List.mem_cons_self
    · exact List.mem_cons_of_mem _ (holdVs_late e3 q h)
noncomputable def HWs (cs : M (List Op)) (lk : Nat → Bool) : Prop := ∀ δ h δ', (cs.bnd holdVs) δ = .ok (h, δ') → ∀ q ∈ h.2, lk q.1 = true
noncomputable def LkLe (lk lk' : Nat → Bool) : Prop := ∀ i, lk i = true → lk' i = true
theorem le_or (lk f : Nat → Bool) : LkLe lk (fun j => lk j || f j) := fun i h => by
  show (lk i || f i) = true
  rw [h]
  rfl
section
variable {X : Cx} {tg iter : Expr} {body : List Stmt} {pos : Pos} {lk lk' : Nat → Bool} {ik : IK} {cs : M (List Op)} {tgt : Tg} {cb : M Fl}
theorem ok_for (hp : PassesOwn (model X.prog X.w) X.A X.env X.xe) (hc : X.calm = true) (hl : LkLe lk lk') (hw : HWs cs lk')
    (hi : PI X tg iter (tI X.K ik cs)) (hg : PG X tg (gT X.K tgt)) (hb : PSs X body (tS X.K lk' cb)) (hs : ∀ x, foldedSetIterable iter X.env x = pure x := by intro _; rfl) :
    PS X (.For tg iter body [] pos) (tS X.K lk (cs.bnd fun ps => (holdVs ps).bnd fun h => (lift (itW ik h.1)).bnd fun items => (forL (asgT lk' tgt) cb items).bnd fun f => (giveH h.2).bnd fun _ => M.ret f)) :=
  PS.imp (ps_for hp hc hi hg hb hs) fun E σ H h => by
  obtain ⟨δ, Hs, M, f, δ', g, s, ea, q⟩ := h
  obtain ⟨ps, δ1, e1, eb⟩ := bnd_ok ea
  obtain ⟨hh, δ2, e2, ec⟩ := bnd_ok eb
  obtain ⟨items, δ3, e3, ed⟩ := bnd_ok ec
  obtain ⟨e3', rfl⟩ := lift_ok e3
  obtain ⟨f1, δ4, e4, ee⟩ := bnd_ok ed
  obtain ⟨u, δ5, e5, e6⟩ := bnd_ok ee
  have := ret_ok e6
  cases this
  have e12 : (cs.bnd holdVs) δ = .ok (hh, δ3) := by
    show T.M.bnd cs holdVs δ = _
    unfold T.M.bnd
    rw [e1]
    exact e2
  have locked := hw _ _ _ e12
  refine ⟨δ, Hs, M, hh, items, δ3, g, s, e12, e3', fun J Pp H1 Hs1 B M1 g1 st1 s1 held wk pp => ?_⟩
  have kl : ∀ {σ1 σ2 : St}, Keeps lk' σ1 σ2 → Keeps lk σ1 σ2 := fun k i h => k i (hl i h)
  refine ⟨fun i m σ2 H2 => m = items.length - i ∧ i ≤ items.length ∧ Keeps lk' σ σ2 ∧ ∃ (δ2 : List D) (Hs2 : Hp) (M2 : Bud), Good H2 Hs2 (fun b => B b + M2 b) ∧ Stp H Hs M H2 Hs2 (fun b => B b + M2 b) ∧ RepS X.K H2 Hs2 σ2 δ2 M2 ∧ Held X.K H2 Hs2 σ2 hh.2 B ∧ Pp H2 Hs2 ∧ forL (asgT lk' tgt) cb (items.drop i) δ2 = .ok (f, δ4),
    ⟨items.length, by simp, Nat.zero_le _, Keeps.refl _ _, δ3, Hs1, M1, g1, st1, s1, held, pp, by rw [List.drop_zero]; exact e4⟩, ?_⟩
  rintro i m σ2 H2 ⟨rfl, hle, k2, δ2, Hs2, M2, g2, st2, s2, held2, pp2, e7⟩
  have fin_nx : ∀ {σ3 : St} {H3 Hs3 : Hp} {M3 : Bud}, f = .nx → Keeps lk' σ σ3 → Good H3 Hs3 (fun b => B b + M3 b) → Stp H Hs M H3 Hs3 (fun b => B b + M3 b) → RepS X.K H3 Hs3 σ3 δ4 M3 → Held X.K H3 Hs3 σ3 hh.2 B → E.nx σ3 H3 := fun {σ3 H3 Hs3 M3} ef k3 g3 st3 s3 held3 => by
    subst ef
    exact q σ3 H3 Hs3 _ (kl k3) g3 st3 (giveH_ok e5 held3 s3)
  by_cases hlt : i < items.length
  · right
    have hd : items[i]? = some (items[i]'(by omega)) := List.getElem?_eq_getElem (by omega)
    have hdrop : items.drop i = items[i]'(by omega) :: items.drop (i + 1) := List.drop_eq_getElem_cons (by omega)
    rw [hdrop] at e7
    obtain ⟨u1, δ5', e8, e9⟩ := bnd_ok e7
    obtain ⟨fl, δ6, e10, e11⟩ := bnd_ok e9
    refine ⟨wk.go g2.sub pp2 hlt, fun σ3 H3 => Keeps lk' σ σ3 ∧ ∃ (δ2 : List D) (Hs2 : Hp) (M2 : Bud), Good H3 Hs2 (fun b => B b + M2 b) ∧ Stp H Hs M H3 Hs2 (fun b => B b + M2 b) ∧ RepS X.K H3 Hs2 σ3 δ2 M2 ∧ Held X.K H3 Hs2 σ3 hh.2 B ∧ Pp H3 Hs2 ∧ forL (asgT lk' tgt) cb (items.drop (i + 1)) δ2 = .ok (f, δ4),
      fun σ3 H3 ⟨k3, z⟩ => ⟨items.length - (i + 1), by omega, rfl, hlt, k3, z⟩, fun x H' y => ?_⟩
    obtain ⟨Hs3, gr, rv⟩ := wk.yld g2.sub pp2 hd y
    obtain ⟨sm, fr, _⟩ := gr.same g2.sub
    have pp2 := wk.stay pp2 sm fun b _ n => fr b n
    have s2 := RepS.frame sm (fun b _ n => fr b n) s2
    have held2 := held2.frame sm fun b _ n => fr b n
    have st2 := gr.stp g2 st2
    have g2 := gr.good g2
    clear gr sm fr y
    generalize Hs3 = Hs2 at *
    refine asgT_ok (Hs := Hs2) g2.sub e8 rv s2 fun σ3 k3 s3 => ?_
    refine ⟨δ5', Hs2, M2, fl, δ6, g2.re, s3, e10, ?_⟩
    have held3 : Held X.K H' Hs2 σ3 hh.2 B := held2.keeps k3 locked
    have nxt : ∀ {σ4 : St} {H4 Hs4 : Hp} {M4 : Bud}, Keeps lk' σ3 σ4 → Good H4 Hs4 M4 → Stp H' Hs2 M2 H4 Hs4 M4 →
        Keeps lk' σ σ4 ∧ Good H4 Hs4 (fun b => B b + M4 b) ∧ Stp H Hs M H4 Hs4 (fun b => B b + M4 b) ∧ Held X.K H4 Hs4 σ4 hh.2 B ∧ Pp H4 Hs4 := fun {σ4 H4 Hs4 M4} k4 g4 st4 => by
      obtain ⟨G, S, kk⟩ := step2 g g2 st2 g4 st4
      exact ⟨k2.trans (k3.trans k4), G, S, (held3.keeps k4 locked).frame st4.grow kk, wk.stay pp2 st4.grow kk⟩
    cases fl with
    | nx =>
      refine fun σ4 H4 Hs4 M4 k4 g4 st4 s4 => ?_
      obtain ⟨a1, a2, a3, a4, a6⟩ := nxt k4 g4 st4
      exact ⟨a1, δ6, Hs4, M4, a2, a3, s4, a4, a6, e11⟩
    | ct =>
      refine fun σ4 H4 Hs4 M4 k4 g4 st4 s4 => ?_
      obtain ⟨a1, a2, a3, a4, a6⟩ := nxt k4 g4 st4
      exact ⟨a1, δ6, Hs4, M4, a2, a3, s4, a4, a6, e11⟩
    | bk =>
      refine fun σ4 H4 Hs4 M4 k4 g4 st4 s4 => ?_
      obtain ⟨a1, a2, a3, a4, a6⟩ := nxt k4 g4 st4
      have := ret_ok e11
      cases this
      exact fin_nx rfl a1 a2 a3 s4 a4
    | rt d =>
      refine fun v σ4 H4 Hs4 m4 M4 k4 g4 st4 rd s4 => ?_
      obtain ⟨a1, a2, a3, a4, a6⟩ := nxt k4 g4 st4
      have := ret_ok e11
      cases this
      exact q v σ4 H4 Hs4 m4 (fun b => B b + M4 b) (kl a1) (a2.re fun b => by (try dsimp only); omega) (a3.drop (fun b => by (try dsimp only); omega) a2.le) rd (giveH_ok e5 a4 s4)
  · left
    have e0 : items.drop i = [] := List.drop_of_length_le (by omega)
    rw [e0] at e7
    have := ret_ok e7
    cases this
    exact ⟨wk.stop g2.sub pp2 (by omega), fin_nx rfl k2 g2 st2 s2 held2⟩
end
theorem RepS.toL {K : PySem.W.Frag} {H Hs : Hp} : ∀ {vs : List V} {ds : List D} {m : Bud}, RepS K H Hs (vs.map some) ds m → RepL K H Hs vs ds m
  | [], _, _, h => by cases h; exact .nil _
  | v :: vs, _, _, h => by
    cases h with
    | cons x y l =>
      refine .cons ?_ (RepS.toL y) l
      rcases x with rfl | ⟨w, e, r⟩
      · exact .hole _ _
      · cases e
        exact r
end T
namespace T
open PySem PySem.Spec L2
section
variable {P : Program} {w : World} {K : PySem.W.Frag} {mg : Str → Option Value} {base : Heap}
theorem start_take {N : List Str} {vs : List V} {σ' : St} {n : Nat} (hn : vs.length = n) (k : Keeps (fun i => decide (i < n)) (L2.start N vs) σ') : σ'.take n = vs.map some := by
  apply List.ext_getElem?
  intro i
  by_cases hi : i < n
  · rw [List.getElem?_take_of_lt hi, k i (by simpa using hi)]
    unfold L2.start
    rw [List.getElem?_append_left (by rw [List.length_map]; omega)]
  · rw [List.getElem?_eq_none (by rw [List.length_take]; omega), List.getElem?_eq_none (by rw [List.length_map]; omega)]
theorem start_rep {N : List Str} {vs : List V} {ds : List D} {H Hs : Hp} {m : Bud} (r : RepL K H Hs vs ds m) : RepS K H Hs (L2.start N vs) (ds ++ List.replicate (N.length - ds.length) .hole) m := by
  unfold L2.start
  rw [r.len]
  have z := Sep.append (RepL.slots r) (holes (K := K) (H := H) (Hs := Hs) (fun _ => none) (N.length - ds.length) (fun _ => 0) (List.replicate (N.length - ds.length) none) (by simp))
  exact z.mono fun b => by simp
theorem def_ok {x qual : Str} {st : Stmt} {f : Addr} {fd : FuncData} {N ps : List Str} {k : Nat} {C : Ctx} {body : List S} (F : Fun K x qual st f fd) (Sc : FnScope N ps (defScope st))
    (hb : ∀ (cdv : Value) (A : Around) (outer : List Env) (s : Shared) (H : Hp) (E : XK), Room k (A.deeper (PyProof.Rows.envOfC qual (defScope st) s.heap.objs.size f cdv)) →
      PSs (cxOf CX0 P w K mg base N qual (defScope st) f cdv A outer s H E).nox (defBody st) (tS K (fun i => decide (i < ps.length)) (exs { C with lock := fun i => decide (i < ps.length) } body))) :
    FnOk P w K mg base CX0 (k + 1) f fd ps (spF K (runDef C ps.length N.length body)) := by
  refine F.ok Sc (fun vs H Q E h => ?_) (fun cdv A outer s H vs Q E hr h => ⟨_, hb cdv A outer s H E hr, ?_⟩)
  · obtain ⟨ds, Hs, m, d, ds', g, r, e, q⟩ := h
    unfold runDef at e
    split at e
    · rename_i hl
      rw [r.len]
      exact hl
    · cases e
  · obtain ⟨ds, Hs, m, d, ds', g, r, e, q⟩ := h
    unfold runDef at e
    split at e
    · rename_i hl
      have hv : vs.length = ps.length := by rw [r.len]; exact hl
      have hr0 := start_rep (N := N) r
      rw [hl] at hr0
      cases he : exs { C with lock := fun i => decide (i < ps.length) } body (ds ++ List.replicate (N.length - ps.length) .hole) with
      | ok z =>
        obtain ⟨fl, δ'⟩ := z
        rw [he] at e
        refine ⟨_, Hs, m, fl, δ', g, hr0, he, ?_⟩
        have back : ∀ {σ' : St} {H' Hs' : Hp} {M' : Bud}, Keeps (fun i => decide (i < ps.length)) (L2.start N vs) σ' → RepS K H' Hs' σ' δ' M' → RepL K H' Hs' vs (δ'.take ps.length) M' := fun k' s' => by
          have z := s'.take ps.length
          rw [start_take hv k'] at z
          exact RepS.toL z
        cases fl with
        | nx =>
          cases e
          exact fun σ' H' Hs' M' k' g' st' s' => q .non H' Hs' (fun _ => 0) M' (good0 g') (st'.drop (fun b => by simp) g'.le) (.sc _ _) (back k' s')
        | rt dd =>
          cases e
          exact fun v σ' H' Hs' m1 M' k' g' st' rv s' => q v H' Hs' m1 M' g' st' rv (back k' s')
        | bk => cases e
        | ct => cases e
      | exc x y => rw [he] at e; cases e
      | stuck => rw [he] at e; cases e
    · cases e
theorem def_ok' {x qual : Str} {st : Stmt} {f : Addr} {fd : FuncData} {N ps : List Str} {k n nN : Nat} {C : Ctx} {body : List S} (F : Fun K x qual st f fd) (Sc : FnScope N ps (defScope st)) (hn : ps.length = n) (hN : N.length = nN)
    (hb : ∀ (cdv : Value) (A : Around) (outer : List Env) (s : Shared) (H : Hp) (E : XK), Room k (A.deeper (PyProof.Rows.envOfC qual (defScope st) s.heap.objs.size f cdv)) →
      PSs (cxOf CX0 P w K mg base N qual (defScope st) f cdv A outer s H E).nox (defBody st) (tS K (fun i => decide (i < n)) (exs { C with lock := fun i => decide (i < n) } body))) :
    FnOk P w K mg base CX0 (k + 1) f fd ps (spF K (runDef C n nN body)) := by
  subst hn hN
  exact def_ok F Sc hb
end
end T
namespace T
open PySem PySem.Spec L2
theorem capTake_ok {K : PySem.W.Frag} {H Hs : Hp} {σ : St} : ∀ {js : List Nat} {δ δ' : List D} {caps : List D} {M : Bud}, capTake js δ = .ok (caps, δ') → RepS K H Hs σ δ M → ∃ mc M', RepS K H Hs (capsOf js σ) caps mc ∧ RepS K H Hs σ δ' M' ∧ (∀ b, mc b + M' b ≤ M b) ∧ ∀ j ∈ js, j < σ.length
  | [], δ, δ', caps, M, e, s => by
    have := ret_ok e
    cases this
    exact ⟨fun _ => 0, M, .nil _, s, fun b => by simp, fun j hj => by simp at hj⟩
  | j :: js, δ, δ', caps, M, e, s => by
    unfold capTake at e
    split at e
    · rename_i d hd
      obtain ⟨ds, δ1, e1, e2⟩ := bnd_ok e
      have := ret_ok e2
      cases this
      obtain ⟨o, m1, m2, q1, q2, l, f⟩ := s.focus hd
      have z := f (RepO K H Hs) o .hole (fun _ => 0) (fun a d m' _ q => q) (.inl rfl)
      rw [set_self q1] at z
      obtain ⟨mc, M', h1, h2, h3, h4⟩ := capTake_ok e1 z
      refine ⟨fun b => m1 b + mc b, M', ?_, h2, fun b => by have := l b; have := h3 b; dsimp only at *; omega, fun i hi => ?_⟩
      · rw [capsOf_cons]
        have ho : (σ[j]?).join = o := by rw [q1]; rfl
        rw [ho]
        exact .cons q2 h1 fun b => Nat.le_refl _
      · rcases List.mem_cons.mp hi with rfl | hi
        · exact (List.getElem?_eq_some_iff.mp q1).1
        · exact h4 i hi
    · cases e
theorem capGive_nil (caps : List D) : capGive [] caps = M.ret () := by cases caps <;> rfl
theorem capGive_cons (j : Nat) (js : List Nat) (d : D) (ds δ : List D) : capGive (j :: js) (d :: ds) δ = capGive js ds (δ.set j d) := rfl
theorem capGive_ok {K : PySem.W.Frag} {H Hs : Hp} {σ : St} (js : List Nat) : ∀ (caps δ δ' : List D) (mc M : Bud) (u : Unit), (∀ j ∈ js, j < σ.length) → capGive js caps δ = .ok (u, δ') → RepS K H Hs (capsOf js σ) caps mc → RepS K H Hs σ δ M → RepS K H Hs σ δ' (fun b => mc b + M b) := by
  induction js with
  | nil =>
    intro caps δ δ' mc M u hj e c s
    rw [capGive_nil] at e
    have := ret_ok e
    cases this
    exact s.mono fun b => by omega
  | cons j js ih =>
    intro caps δ δ' mc M u hj e c s
    rw [capsOf_cons] at c
    cases c with
    | @cons _ d _ ds m1 m2 _ x y l =>
      rw [capGive_cons] at e
      have hlt := hj j List.mem_cons_self
      have hlt2 : j < δ.length := by rw [← s.length]; exact hlt
      obtain ⟨o, n1, n2, q1, q2, l2, f⟩ := s.focus (List.getElem?_eq_getElem hlt2)
      have ho : (σ[j]?).join = o := by rw [q1]; rfl
      rw [ho] at x
      have z := f (RepO K H Hs) o d m1 (fun a d m' _ q => q) x
      rw [set_self q1] at z
      have fin := ih ds (δ.set j d) δ' m2 _ u (fun i hi => hj i (List.mem_cons_of_mem _ hi)) e y z
      exact fin.mono fun b => by have := l b; have := l2 b; (try dsimp only); omega
theorem acc_step {H Hs H0 Hs0 : Hp} {M0 N : Bud} {A : Addr} {o : HO} (hA0 : H0 A = none) (hA : Hs A = none) (g : Good H Hs (fun b => one A b + N b)) (st : Stp H0 Hs0 M0 H Hs (fun b => one A b + N b)) : Good (upd H A o) Hs (fun b => one A b + N b) ∧ Stp H0 Hs0 M0 (upd H A o) Hs (fun b => one A b + N b) ∧ ∀ b, N b ≥ 1 → upd H A o b = H b := by
  have hn : N A = 0 := by have : one A A + N A ≤ 1 := g.le A; simp [one] at this; omega
  have ne : ∀ b, b ≠ A → upd H A o b = H b := fun b hb => upd_ne hb
  refine ⟨⟨fun b u e => ?_, g.le, g.ne, fun b h => ?_⟩, ⟨fun b u e z => ?_, st.own, st.grow, st.shr, fun b h => ?_⟩, fun b hb => ne b fun q => by subst q; omega⟩
  · have hb : b ≠ A := fun q => by subst q; rw [hA] at e; cases e
    rw [ne b hb]
    exact g.sub b u e
  · by_cases hb : b = A
    · subst hb; rw [upd_same]; simp
    · rw [ne b hb]; exact g.has b h
  · have hb : b ≠ A := fun q => by subst q; rw [hA0] at e; cases e
    rw [ne b hb]
    exact st.keep b u e z
  · by_cases hb : b = A
    · subst hb; rw [upd_same]; simp
    · rw [ne b hb]; exact st.stay b h
theorem comp_of {K : PySem.W.Frag} {k : Nat} {js : List Nat} {ik : IK} {cs : M (List Op)} {tgt : Tg} {cc : M Bool} {celt : M D} {σ : St} {H : Hp} {Q : VK}
    (h : tM K (cs.bnd fun ps => (holdVs ps).bnd fun h => (lift (itW ik h.1)).bnd fun items => (compM k js (compL (asgT (fun i => decide (k ≤ i)) tgt) cc celt items [])).bnd fun d => (giveH h.2).bnd fun _ => M.ret d) σ H Q) :
    tComp k js (tI K ik cs) (gT K tgt) (tT K cc) (tM K celt) σ H Q := by
  obtain ⟨δ, Hs, M, d, δ', g, s, ea, q⟩ := h
  obtain ⟨ps, δ1, e1, eb⟩ := bnd_ok ea
  obtain ⟨hh, δ2, e2, ec⟩ := bnd_ok eb
  obtain ⟨items, δ3, e3, ed⟩ := bnd_ok ec
  obtain ⟨e3', rfl⟩ := lift_ok e3
  obtain ⟨dd, δ4, e4, ee⟩ := bnd_ok ed
  obtain ⟨u, δ5, e5, e6⟩ := bnd_ok ee
  have := ret_ok e6
  cases this
  have e12 : (cs.bnd holdVs) δ = .ok (hh, δ3) := by
    show T.M.bnd cs holdVs δ = _
    unfold T.M.bnd
    rw [e1]
    exact e2
  refine ⟨δ, Hs, M, hh, items, δ3, g, s, e12, e3', fun J Pp H1 Hs1 B M1 g1 st1 s1 held wk pp A hA => ?_⟩
  unfold compM at e4
  obtain ⟨caps, δ6, e7, e8⟩ := bnd_ok e4
  obtain ⟨mc, M2, c1, c2, c3, c4⟩ := capTake_ok e7 s1
  have hA0 : H A = none := by
    cases q : H A with
    | none => rfl
    | some o => exact absurd hA (st1.stay A (by rw [q]; simp))
  cases hL : compL (asgT (fun i => decide (k ≤ i)) tgt) cc celt items [] (List.replicate k .hole ++ caps) with
  | exc x y => rw [hL] at e8; cases e8
  | stuck => rw [hL] at e8; cases e8
  | ok r =>
  obtain ⟨accF, δF⟩ := r
  rw [hL] at e8
  obtain ⟨u2, δ7, e9, e10⟩ := bnd_ok e8
  obtain ⟨e11, rfl⟩ := lift_ok e10
  have hs1A : Hs1 A = none := by
    cases q : Hs1 A with
    | none => rfl
    | some o => rw [g1.sub A o q] at hA; cases hA
  have zA : B A = 0 ∧ M1 A = 0 := by
    have l : B A + M1 A ≤ 1 := g1.le A
    have : B A + M1 A ≠ 1 := fun e => g1.has A e hA
    omega
  have z2 : mc A = 0 ∧ M2 A = 0 := by have := c3 A; omega
  have fr : ∀ b, b ≠ A → upd H1 A (.lst []) b = H1 b := fun b hb => upd_ne hb
  have g2 : Good (upd H1 A (.lst [])) Hs1 (fun b => (one A b + (B b + M2 b)) + mc b) := by
    refine ⟨fun b o e => ?_, fun b => ?_, fun b hb => ?_, fun b hb => ?_⟩
    · have hb : b ≠ A := fun q => by subst q; rw [hs1A] at e; cases e
      rw [fr b hb]; exact g1.sub b o e
    · have l : B b + M1 b ≤ 1 := g1.le b
      have := c3 b
      unfold one
      (try dsimp only)
      split
      · rename_i e; subst e; omega
      · omega
    · by_cases e : b = A
      · subst e; exact hs1A
      · have hb : (one A b + (B b + M2 b)) + mc b = 1 := hb
        simp only [one, if_neg e] at hb
        have l : B b + M1 b ≤ 1 := g1.le b
        have := c3 b
        exact g1.ne b (by show B b + M1 b = 1; omega)
    · by_cases e : b = A
      · subst e; rw [upd_same]; simp
      · rw [fr b e]
        have hb : (one A b + (B b + M2 b)) + mc b = 1 := hb
        simp only [one, if_neg e] at hb
        have l : B b + M1 b ≤ 1 := g1.le b
        have := c3 b
        exact g1.has b (by show B b + M1 b = 1; omega)
  have st2 : Stp H Hs M (upd H1 A (.lst [])) Hs1 (fun b => (one A b + (B b + M2 b)) + mc b) := by
    refine ⟨fun b o e z => ?_, fun b hb => ?_, st1.grow, st1.shr, fun b hb => ?_⟩
    · have hb : b ≠ A := fun q => by subst q; rw [hA0] at e; cases e
      rw [fr b hb]; exact st1.keep b o e z
    · by_cases e : b = A
      · subst e; exact .inr hA0
      · have hb : (one A b + (B b + M2 b)) + mc b = 1 := hb
        simp only [one, if_neg e] at hb
        have l : B b + M1 b ≤ 1 := g1.le b
        have := c3 b
        exact st1.own b (by show B b + M1 b = 1; omega)
    · by_cases e : b = A
      · subst e; rw [upd_same]; simp
      · rw [fr b e]; exact st1.stay b hb
  have keepA : ∀ (N : Bud), N A = 0 → ∀ b, N b ≥ 1 → H1 b ≠ none → upd H1 A (.lst []) b = H1 b := fun N hN b hb _ => fr b fun q => by subst q; omega
  refine ⟨fun i m σ2 ys H2 => m = items.length - i ∧ i ≤ items.length ∧ Keeps (fun i => decide (k ≤ i)) (start0 k js σ) σ2 ∧ ∃ (δ2 : List D) (Hs2 : Hp) (N ma : Bud) (acc : List D), Good H2 Hs2 (fun b => (one A b + (B b + M2 b + ma b)) + N b) ∧ Stp H Hs M H2 Hs2 (fun b => (one A b + (B b + M2 b + ma b)) + N b) ∧ RepS K H2 Hs2 σ2 δ2 N ∧
      RepL K H2 Hs2 ys acc ma ∧ RepS K H2 Hs2 σ δ6 M2 ∧ Held K H2 Hs2 σ hh.2 B ∧ Pp H2 Hs2 ∧ compL (asgT (fun i => decide (k ≤ i)) tgt) cc celt (items.drop i) acc δ2 = .ok (accF, δF),
    ⟨items.length, by simp, Nat.zero_le _, Keeps.refl _ _, List.replicate k .hole ++ caps, Hs1, mc, fun _ => 0, [], g2.re fun b => by (try dsimp only); omega, st2.drop (fun b => by (try dsimp only); omega) g2.le, ?_, .nil _, c2.frame (Same.refl _) (keepA M2 z2.2), held.frame (Same.refl _) (keepA B zA.1), wk.stay pp (Same.refl _) (keepA B zA.1), by rw [List.drop_zero]; exact hL⟩, ?_⟩
  · have z := Sep.append (holes (K := K) (H := H1) (Hs := Hs1) (fun _ => none) k (fun _ => 0) (List.replicate k none) (by simp)) c1
    exact RepS.frame (Same.refl _) (keepA mc z2.1) (z.mono fun b => by simp)
  rintro i m σ2 ys H2 ⟨rfl, hle, k2, δ2, Hs2, N, ma, acc, g3, st3, s3, ra, so, held2, pp2, e13⟩ hD
  have hsA : Hs2 A = none := g3.ne A (by have := g3.le A; (try dsimp only at this ⊢); simp only [one, if_pos] at this ⊢; omega)
  by_cases hlt : i < items.length
  · right
    have hd : items[i]? = some (items[i]'(by omega)) := List.getElem?_eq_getElem (by omega)
    have hdrop : items.drop i = items[i]'(by omega) :: items.drop (i + 1) := List.drop_eq_getElem_cons (by omega)
    rw [hdrop] at e13
    obtain ⟨u3, δ8, e14, e15⟩ := bnd_ok e13
    obtain ⟨t, δ9, e16, e17⟩ := bnd_ok e15
    refine ⟨wk.go g3.sub pp2 hlt, fun x H' y => ?_⟩
    obtain ⟨Hs3, gr, rv⟩ := wk.yld g3.sub pp2 hd y
    obtain ⟨sm, fr, _⟩ := gr.same g3.sub
    have pp2 := wk.stay pp2 sm fun b _ n => fr b n
    have s3 := RepS.frame sm (fun b _ n => fr b n) s3
    have so := RepS.frame sm (fun b _ n => fr b n) so
    have ra := ra.frame sm fun b _ n => fr b n
    have held2 := held2.frame sm fun b _ n => fr b n
    have hD : H' A = some (.lst ys) := (fr A (by rw [hD]; simp)).trans hD
    have st3 := gr.stp g3 st3
    have g3 := gr.good g3
    clear gr sm fr y hsA
    generalize Hs3 = Hs2 at *
    generalize H' = H2 at *
    refine asgT_ok (Hs := Hs2) g3.sub e14 rv s3 fun σ3 k3 s4 => ?_
    refine ⟨δ8, Hs2, N, t, δ9, g3.re fun b => by (try dsimp only); omega, s4, e16, fun H4 Hs4 M4 g4 st4 s5 => ?_⟩
    obtain ⟨G, S, kk⟩ := step2 (m1 := fun b => one A b + (B b + M2 b + ma b)) g g3 st3 g4 st4
    have kA : H4 A = some (.lst ys) := by rw [← hD]; exact kk A (by simp [one]) (by rw [hD]; simp)
    have ra4 := ra.frame st4.grow fun b hb => kk b (by (try dsimp only); omega)
    have so4 := RepS.frame st4.grow (fun b hb => kk b (by (try dsimp only); omega)) so
    have held4 := held2.frame st4.grow fun b hb => kk b (by (try dsimp only); omega)
    have pp4 := wk.stay pp2 st4.grow fun b hb => kk b (by (try dsimp only); omega)
    have lmeas : items.length - (i + 1) < items.length - i := by omega
    cases t with
    | false =>
      dsimp only
      rw [if_neg Bool.false_ne_true]
      exact ⟨kA, _, lmeas, rfl, hlt, k2.trans k3, δ9, Hs4, M4, ma, acc, G, S, s5, ra4, so4, held4, pp4, e17⟩
    | true =>
      dsimp only
      rw [if_pos rfl]
      rw [if_pos rfl] at e17
      obtain ⟨xd, δ10, e18, e19⟩ := bnd_ok e17
      refine ⟨δ9, Hs4, M4, xd, δ10, g4, s5, e18, fun yv H5 Hs5 m5 M5 g5 st5 r5 s6 => ?_⟩
      obtain ⟨G5, S5, kk5⟩ := step2 (m1 := fun b => one A b + (B b + M2 b + ma b)) g G S g5 st5
      have kA5 : H5 A = some (.lst ys) := by rw [← kA]; exact kk5 A (by simp [one]) (by rw [kA]; simp)
      have hsz : ys.length < sizeLine := by
        have e20 : accF.length ≤ sizeLine := by
          unfold newL at e11
          split at e11
          · rename_i hz; exact hz
          · cases e11
        have grow : ∀ (its acc : List D) (δ : List D) (r : List D × List D), compL (asgT (fun i => decide (k ≤ i)) tgt) cc celt its acc δ = .ok r → acc.length ≤ r.1.length := by
          intro its
          induction its with
          | nil => intro acc δ r e; have := ret_ok e; subst this; exact Nat.le_refl _
          | cons a its ih =>
            intro acc δ r e
            obtain ⟨_, _, _, f1⟩ := bnd_ok e
            obtain ⟨tt, _, _, f2⟩ := bnd_ok f1
            cases tt with
            | false => exact ih _ _ _ f2
            | true =>
              rw [if_pos rfl] at f2
              obtain ⟨_, _, _, f3⟩ := bnd_ok f2
              have := ih _ _ _ f3
              rw [List.length_append, List.length_singleton] at this
              omega
        have := grow _ _ _ _ e19
        dsimp only at this
        rw [List.length_append, List.length_singleton] at this
        have := ra.len
        omega
      have hsA5 : Hs5 A = none := G5.ne A (by have := G5.le A; (try dsimp only at this ⊢); simp only [one, if_pos] at this ⊢; omega)
      have G5' : Good H5 Hs5 (fun b => one A b + (B b + M2 b + ma b + (m5 b + M5 b))) := G5.re fun b => by (try dsimp only); omega
      obtain ⟨G6, S6, k6⟩ := acc_step (o := .lst (ys ++ [yv])) hA0 hsA5 G5' (S5.drop (fun b => by (try dsimp only); omega) G5.le)
      have fr6 : ∀ (R : Bud), (∀ b, R b ≤ B b + M2 b + ma b + (m5 b + M5 b)) → ∀ b, R b ≥ 1 → H5 b ≠ none → upd H5 A (.lst (ys ++ [yv])) b = H5 b := fun R hR b hb _ => k6 b (by have := hR b; omega)
      refine ⟨kA5, hsz, _, lmeas, rfl, hlt, k2.trans k3, δ10, Hs5, M5, fun b => ma b + m5 b, acc ++ [xd], G6.re fun b => by (try dsimp only); omega, S6.drop (fun b => by (try dsimp only); omega) G6.le, RepS.frame (Same.refl _) (fr6 M5 fun b => by omega) s6, ?_, ?_, ?_, ?_, e19⟩
      · exact RepL.frame (Same.refl _) (fr6 _ fun b => by (try dsimp only); omega) ((ra4.frame st5.grow fun b hb => kk5 b (by (try dsimp only); omega)).app (.cons r5 (.nil (fun _ => 0)) fun b => by simp))
      · exact RepS.frame (Same.refl _) (fr6 M2 fun b => by omega) (RepS.frame st5.grow (fun b hb => kk5 b (by (try dsimp only); omega)) so4)
      · exact (held4.frame st5.grow fun b hb => kk5 b (by (try dsimp only); omega)).frame (Same.refl _) (fr6 B fun b => by omega)
      · exact wk.stay (wk.stay pp4 st5.grow fun b hb => kk5 b (by (try dsimp only); omega)) (Same.refl _) (fr6 B fun b => by omega)
  · left
    have e0 : items.drop i = [] := List.drop_of_length_le (by omega)
    rw [e0] at e13
    have := ret_ok e13
    cases this
    refine ⟨wk.stop g3.sub pp2 (by omega), ?_⟩
    have hdrop : σ2.drop k = capsOf js σ := by
      have hl2 : σ2.length = δF.length := s3.length
      apply List.ext_getElem?
      intro j
      rw [List.getElem?_drop, k2 (k + j) (by simp)]
      unfold start0
      rw [List.getElem?_append_right (by simp)]
      simp
    have sd := s3.drop k
    rw [hdrop] at sd
    have so' := capGive_ok js _ _ _ _ _ _ c4 e9 sd so
    unfold newL at e11
    split at e11
    · cases e11
      have rD : Rep K H2 Hs2 (.ref A) (.node .lst true accF) (fun b => one A b + ma b) := .own hD ra fun b => Nat.le_refl _
      exact q _ H2 Hs2 (fun b => one A b + ma b) (fun b => B b + (N b + M2 b)) (g3.re fun b => by (try dsimp only); omega) (st3.drop (fun b => by (try dsimp only); omega) g3.le) rD (giveH_ok e5 held2 so')
    · cases e11
section
variable {X : Cx} {elt tg iter : Expr} {ifs : List Expr} {scope : Scope} {pos spos pos' : Pos} {k : Nat} {js : List Nat} {N' : List Str} {ik : IK} {cs : M (List Op)} {tgt : Tg} {cc : M Bool} {celt : M D} {lk : Nat → Bool} {i : Nat} {x : Str} {sc : Scope} {N : List Str}
theorem PIf.imp {t t' : TT} (h : PIf X ifs t) (w : ∀ σ H Q, t' σ H Q → t σ H Q) : PIf X ifs t' := fun pins s σ H Q I q => h pins s σ H Q I (w σ H Q q)
theorem ok_if0 : PIf X [] (tT X.K (M.ret true)) := PIf.imp pif_nil fun σ H Q h => tt_ret h
theorem ok_setc (h : slotOk sc N i x false = true) (nd : N.Nodup) (hw : swapOk sc scope x = true) (hc : X.calm = true) (S : CompScope X k js N' scope) (hi : PI X tg iter (tI X.K ik cs))
    (hin : ∀ (cl : List (Str × Addr)) (C : Addr) (s₀ : Shared) (H₀ : Hp) (ex : List Addr), PG (cxC X N' scope cl C s₀ H₀ ex) tg (gT X.K tgt) ∧ PIf (cxC X N' scope cl C s₀ H₀ ex) ifs (tT X.K cc) ∧ PE (cxC X N' scope cl C s₀ H₀ ex) elt (tM X.K celt))
    (hl : (pos'.line == pos.line) = true := by rfl) (e1 : X.env.scope = sc := by rfl) (e2 : X.N = N := by rfl) (hs : ∀ x, foldedSetIterable iter X.env x = pure x := by intro _; rfl) :
    PS X (.Assign [.Name x pos'] (.ListComp elt [⟨tg, iter, ifs, 0⟩] scope pos) spos) (tS X.K lk ((cs.bnd fun ps => (holdVs ps).bnd fun h => (lift (itW ik h.1)).bnd fun items => (compM k js (compL (asgT (fun i => decide (k ≤ i)) tgt) cc celt items [])).bnd fun d => (giveH h.2).bnd fun _ => M.ret d).bnd fun d => (asgN lk i d).bnd fun _ => M.ret .nx)) :=
  PS.imp (ps_setcs h nd hw hc S hi hin hl e1 e2 hs) fun E σ H hh => by
  obtain ⟨δ, Hs, M, f, δ', g, s, e, q⟩ := hh
  obtain ⟨d, δ1, e1, e2⟩ := bnd_ok e
  obtain ⟨u, δ2, e3, e4⟩ := bnd_ok e2
  have := ret_ok e4
  cases this
  obtain ⟨h1, h2, rfl⟩ := asgN_ok e3
  exact comp_of ⟨δ, Hs, M, d, δ1, g, s, e1, fun v H' Hs' m M' g' st' r s' => q _ H' Hs' _ (keeps_set h2) g' st' (set_slot s' h1 r)⟩
theorem ok_asgs {e : Expr} {c : M D} {b : Bool} (h : slotOk sc N i x b = true) (nd : N.Nodup) (he : PE X e (tM X.K c)) (hs : swapsWith e (some (.Name x pos')) pos.line X.env = pure false := by rfl) (e1 : X.env.scope = sc := by rfl) (e2 : X.N = N := by rfl)
    (hf : X.fn x = true ∨ b = false := by first | exact .inl rfl | exact .inr rfl) : PS X (.Assign [.Name x pos'] e pos) (tS X.K lk (c.bnd fun d => (asgN lk i d).bnd fun _ => M.ret .nx)) := by
  obtain ⟨h1, h2, h3, h4⟩ := slotOk.at h
  have l := slotOk.loc h
  subst e1 e2
  refine ok_asg nd h1 l he hs ?_
  rcases hf with q | q
  · exact .inl q
  · subst q
    exact .inr h2
theorem ok_gs {es : List Expr} {is : List Nat} {b : Bool} (h : slotOk sc N i x b = true) (nd : N.Nodup) (hr : PGs X es (gNs is)) (e1 : X.env.scope = sc := by rfl) (e2 : X.N = N := by rfl) (hf : X.fn x = true ∨ b = false := by first | exact .inl rfl | exact .inr rfl)
    (hs : (assignEach (.Name x pos :: es) X.env).map (·.2) = assign (.Name x pos) X.env :: (assignEach es X.env).map (·.2) := by rfl) : PGs X (.Name x pos :: es) (gNs (i :: is)) := by
  obtain ⟨h1, h2, h3, h4⟩ := slotOk.at h
  have l := slotOk.loc h
  subst e1 e2
  refine ok_g nd h1 l hr ?_ hs
  rcases hf with q | q
  · exact .inl q
  · subst q
    exact .inr h2
theorem ok_tn {b : Bool} (h : slotOk sc N i x b = true) (nd : N.Nodup) (e1 : X.env.scope = sc := by rfl) (e2 : X.N = N := by rfl) (hf : X.fn x = true ∨ b = false := by first | exact .inl rfl | exact .inr rfl) : PG X (.Name x pos) (gT X.K (.name i)) := pg_names h nd e1 e2 hf
end
end T
namespace T
open PySem PySem.Spec L2
noncomputable def LatesIn (ca : M Op) (lk : Nat → Bool) : Prop := ∀ δ p δ', ca δ = .ok (p, δ') → ∀ i, p = .late i → lk i = true
theorem lt_late {i : Nat} {lk : Nat → Bool} (h : lk i = true) : LatesIn (lateM i) lk := fun δ p δ' e j hj => by
  unfold lateM at e
  split at e <;> cases e <;> cases hj <;> exact h
theorem lt_tmp {c : M D} {lk : Nat → Bool} : LatesIn (c.bnd fun d => M.ret (.tmp d)) lk := fun δ p δ' e j hj => by
  obtain ⟨d, δ1, e1, e2⟩ := bnd_ok e
  have := ret_ok e2
  cases this
  cases hj
theorem hold_late {p : Op} {δ δ' : List D} {w : W × Option (Nat × D)} (e : holdV p δ = .ok (w, δ')) : ∀ q ∈ w.2.toList, p = .late q.1 := fun q hq => by
  cases p with
  | tmp d => cases d <;> cases e <;> simp at hq
  | late i =>
    unfold holdV at e
    dsimp only at e
    split at e <;> cases e <;> simp at hq
    subst hq
    rfl
theorem hw_1 {ca : M Op} {lk : Nat → Bool} (h : LatesIn ca lk) : HWs (ca.bnd fun p => (M.ret ([] : List Op)).bnd fun ps => M.ret (p :: ps)) lk := fun δ w δ' e q hq => by
  obtain ⟨p, δ1, w1, e1, e2, rfl⟩ := hold1 e
  exact h _ _ _ e1 _ (hold_late e2 q hq)
theorem hw_2 {ca cb : M Op} {lk : Nat → Bool} (h1 : LatesIn ca lk) (h2 : LatesIn cb lk) : HWs (ca.bnd fun p => (cb.bnd fun p => (M.ret ([] : List Op)).bnd fun ps => M.ret (p :: ps)).bnd fun ps => M.ret (p :: ps)) lk := fun δ w δ' e q hq => by
  obtain ⟨ps, δ1, e1, e2⟩ := bnd_ok e
  obtain ⟨p1, δ2, e3, e4⟩ := bnd_ok e1
  obtain ⟨qs, δ3, e5, e6⟩ := bnd_ok e4
  obtain ⟨p2, δ4, e7, e8⟩ := bnd_ok e5
  obtain ⟨z, δ5, e9, e10⟩ := bnd_ok e8
  have := ret_ok e9
  cases this
  have := ret_ok e10
  cases this
  have := ret_ok e6
  cases this
  have := holdVs_late e2 q hq
  rcases List.mem_cons.mp this with z | z
  · exact h1 _ _ _ e3 _ z.symm
  · exact h2 _ _ _ e7 _ (List.mem_singleton.mp z).symm
section
variable {X : Cx} {e a b c : Expr} {pos p : Pos} {ca cb cc : M Op} {x : Str} {j n : Nat} {fi : FI} {ps : List Str}
end
theorem repl_sc {K : PySem.W.Frag} {H Hs : Hp} : ∀ (vs : List V), RepL K H Hs vs (vs.map D.sc) (fun _ => 0)
  | [] => .nil _
  | v :: vs => .cons (m1 := fun _ => 0) (m2 := fun _ => 0) (.sc v _) (repl_sc vs) fun b => by simp
theorem bb_len : bootBuiltins "len" = some (.builtin "len") := by decide +kernel
theorem bb_abs : bootBuiltins "abs" = some (.builtin "abs") := by decide +kernel
theorem bb_list : bootBuiltins "list" = some (.type "list") := by decide +kernel
noncomputable def C0 : Ctx := { lock := fun _ => false, fok := fun _ _ => false, fuel := 0 }
end T
namespace T
open PySem PySem.Spec L2
section
variable {X : Cx} {o e a : Expr} {es : List Expr} {cpos apos pos p : Pos} {ca : M Op} {cs : M (List Op)} {i : Nat} {name m x f : Str} {A : Addr} {fi : FI} {j n : Nat} {ps : List Str}
theorem RepL.putV {K : PySem.W.Frag} {H Hs : Hp} {v : V} {d : D} {m1 : Bud} (f : Str) (x : Rep K H Hs v d m1) : ∀ {fs : List Str} {vs : List V} {ds : List D} {m : Bud}, fs.length = vs.length → RepL K H Hs vs ds m → RepL K H Hs (T.putV f v fs vs) (T.putV f d fs ds) (fun b => m b + m1 b)
  | [], _, _, m, h, .nil _ => .cons x (.nil (fun _ => 0)) fun b => by (try dsimp only); omega
  | [], _, _, m, h, .cons _ _ _ => by simp at h
  | _ :: _, _, _, m, h, .nil _ => by simp at h
  | g :: fs, _, _, m, h, .cons (m1 := a1) (m2 := a2) y z l => by
    simp only [T.putV]
    split
    · exact .cons x z fun b => by have := l b; (try dsimp only); omega
    · exact .cons y (RepL.putV f x (by simpa using h) z) fun b => by have := l b; (try dsimp only); omega
end
end T
namespace T
open PySem PySem.Spec L2 PySem.W
noncomputable def scr (ns : List Int) : D := .node .frl false (ns.map fun i => .sc (.int i))
theorem law_sp {K : PySem.W.Frag} {H : Hp} {a : Addr} {ns : List Int} {F : List D → Rs (D × List D)} {E : XK} (hS : SqL K H a (ns.map V.int)) (e : ∃ ds', F [scr ns] = .ok (.sc (.bl true), ds')) : spF K F [.ref a] H (fun v _ => v = .bl true) E := by
  obtain ⟨ds', e⟩ := e
  refine ⟨[scr ns], H, fun _ => 0, _, ds', ⟨Same.refl _, fun b => Nat.zero_le _, fun b h => by simp at h, fun b h => by simp at h⟩, .cons (m1 := fun _ => 0) (m2 := fun _ => 0) (.shd (vs := ns.map V.int) hS (repl_ints ns)) (.nil _) fun b => by simp, e, fun v H' Hs' m1 m' g st r _ => ?_⟩
  cases r
  rfl
theorem law_walk {l : PySem.W.OpenLaw} {q : Program} {loose : List Str} {XP : (Str → Option Value) → Heap → Prop} {YP : World → Heap → Prop} {d : DefRec} {K : Params → PySem.W.Frag} {k : Nat} {x : Str} {R : PySem.W.Frag → List D → Rs (D × List D)} (hn : l.most = some 63) (hdf : d.params.defaults = []) (hr : Room k callerA)
    (hY : ∀ (w : World) (h : Heap), YP w h → (K w.params).In h)
    (F : ∀ (w : World) (mg : Str → Option Value) (fa : Addr) (h : Heap), (K w.params).In h → h.Ns mainGlobals mg → mg d.name = some (.ref fa) →
      ∃ fd : FuncData, (∀ (s : Shared) (u : Value), BindsTo s fd ⟨[u], []⟩ [(x, u)]) ∧ ∀ base : Heap, (K w.params).In base → base.Ns mainGlobals mg → FnOk l.prog w (K w.params) mg base CX0 k fa fd [x] (spF (K w.params) (R (K w.params))))
    (hL : ∀ (K : PySem.W.Frag) (ns : List Int), ns.length ≤ 63 → ∃ ds', R K [scr ns] = .ok (.sc (.bl true), ds')) :
    PySem.W.WalkO q loose XP YP l.row.toRowW d [] (fun f vs => PySem.call f vs) :=
  L2.walk_ofK (n := 63) (k := k) (x := x) (CX := CX0) (sp := fun K => spF K (R K)) hn (by decide) hdf hr hY F (fun K H a ns hl _ hS => law_sp hS (hL K ns hl)) fun _ _ _ _ z => z
end T
namespace T
open PySem PySem.Spec L2 PySem.W
theorem bnd_eq {α β : Type} {c : M α} {f : α → M β} {δ δ' : List D} {a : α} (h : c δ = .ok (a, δ')) : c.bnd f δ = f a δ' := by
  unfold M.bnd
  rw [h]
theorem runA {C : Ctx} {n N : Nat} {body : List S} {ds : List D} (h : ds.length = n) : runDef C n N body ds = endDef n (exs { C with lock := fun i => decide (i < n) } body (ds ++ List.replicate (N - n) .hole)) := if_pos h
theorem szl : sizeLine = 16777216 := by rw [sizeLine_eq]
section
variable {α β : Type} {C : Ctx} {δ δ' : List D} {a : α} {i j : Nat} {x y : Int} {v w : V} {k : Kd} {ds es : List D} {d : D}
noncomputable def bndR (f : α → M β) : Rs (α × List D) → Rs (β × List D)
  | .ok (a, δ) => f a δ
  | .exc x δ => .exc x δ
  | .stuck => .stuck
theorem bndA (c : M α) (f : α → M β) (δ : List D) : c.bnd f δ = bndR f (c δ) := by
  unfold M.bnd bndR
  cases c δ <;> rfl
theorem bndR_ok (f : α → M β) : bndR f (.ok (a, δ)) = f a δ := (rfl)
theorem retA : M.ret a δ = .ok (a, δ) := (rfl)
theorem liftA : lift (some a) δ = .ok (a, δ) := (rfl)
theorem ite_app (c : Prop) [Decidable c] (f g : M α) (δ : List D) : (if c then f else g) δ = if c then f δ else g δ := by split <;> rfl
theorem opd_v (c : M D) : opdOf (.v i) c = lateM i := (rfl)
noncomputable def atR (i : Nat) (δ : List D) : Option D → Rs (Op × List D)
  | some (.sc _) => .ok (.late i, δ)
  | some (.node _ _ _) => .ok (.late i, δ)
  | _ => .stuck
theorem lateA : lateM i δ = atR i δ δ[i]? := by unfold lateM atR; cases δ[i]? with | none => rfl | some d => cases d <;> rfl
theorem atR_sc : atR i δ (some (.sc v)) = .ok (.late i, δ) := (rfl)
theorem atR_nd {o : Bool} : atR i δ (some (.node k o ds)) = .ok (.late i, δ) := (rfl)
noncomputable def vwR (i : Nat) (δ : List D) : Option D → Rs (W × List D)
  | some (.sc v) => .ok (.sc v, δ)
  | some (.node k false ds) => .ok (.nd k ds, δ)
  | some (.node k true ds) => .ok (.nd k (shrL ds), δ.set i (.node k true (shrL ds)))
  | _ => .stuck
theorem viewA : view (.late i) δ = vwR i δ δ[i]? := by
  unfold view vwR
  (try dsimp only)
  all_goals
    cases δ[i]? with
    | none => rfl
    | some d => cases d with
      | node k o ds => cases o <;> rfl
      | _ => rfl
theorem vwR_sc : vwR i δ (some (.sc v)) = .ok (.sc v, δ) := (rfl)
theorem vwR_f : vwR i δ (some (.node k false ds)) = .ok (.nd k ds, δ) := (rfl)
theorem vwR_t : vwR i δ (some (.node k true ds)) = .ok (.nd k (shrL ds), δ.set i (.node k true (shrL ds))) := (rfl)
theorem view_sc : view (.tmp (.sc v)) = M.ret (.sc v) := (rfl)
theorem view_nd {o : Bool} : view (.tmp (.node k o ds)) = M.ret (.nd k ds) := (rfl)
noncomputable def vlR (i : Nat) (δ : List D) : Option D → Rs (D × List D)
  | some (.sc v) => .ok (.sc v, δ)
  | some (.node k false ds) => .ok (.node k false ds, δ)
  | some (.node k true ds) => .ok (.node k false (shrL ds), δ.set i (.node k false (shrL ds)))
  | _ => .stuck
theorem valA : T.valV i δ = vlR i δ δ[i]? := by
  unfold T.valV vlR
  cases δ[i]? with
  | none => rfl
  | some d => cases d with
    | node k o ds => cases o <;> rfl
    | _ => rfl
theorem vlR_sc : vlR i δ (some (.sc v)) = .ok (.sc v, δ) := (rfl)
noncomputable def mvR (i : Nat) (δ : List D) : Option D → Rs (D × List D)
  | some (.sc v) => .ok (.sc v, δ)
  | some (.node k o ds) => .ok (.node k o ds, δ.set i .hole)
  | _ => .stuck
theorem movA : movV i δ = mvR i δ δ[i]? := by unfold movV mvR; cases δ[i]? with | none => rfl | some d => cases d <;> rfl
theorem mvR_sc : mvR i δ (some (.sc v)) = .ok (.sc v, δ) := (rfl)
theorem mvR_nd {o : Bool} : mvR i δ (some (.node k o ds)) = .ok (.node k o ds, δ.set i .hole) := (rfl)
noncomputable def tkR (lend : Bool) (i : Nat) (δ : List D) : Option D → Rs (D × List D)
  | some (.sc v) => .ok (.sc v, δ)
  | some (.node k false ds) => .ok (.node k false ds, δ)
  | some (.node k true ds) => if lend then .ok (.node k true ds, δ.set i .hole) else .ok (.node k false (shrL ds), δ.set i (.node k false (shrL ds)))
  | _ => .stuck
theorem takeL {lend : Bool} : takeA lend (.late i) δ = tkR lend i δ δ[i]? := by
  unfold takeA tkR
  (try dsimp only)
  all_goals
    cases δ[i]? with
    | none => rfl
    | some d => cases d with
      | node k o ds => cases o <;> rfl
      | _ => rfl
theorem takeT {lend : Bool} : takeA lend (.tmp d) = M.ret d := (rfl)
theorem tkR_sc {lend : Bool} : tkR lend i δ (some (.sc v)) = .ok (.sc v, δ) := (rfl)
theorem tkR_f {lend : Bool} : tkR lend i δ (some (.node k false ds)) = .ok (.node k false ds, δ) := (rfl)
theorem tkR_t : tkR true i δ (some (.node k true ds)) = .ok (.node k true ds, δ.set i .hole) := (rfl)
theorem takes0 {lend : Bool} : takeAs lend [] = M.ret [] := (rfl)
theorem takes1 {lend : Bool} {p : Op} {ps : List Op} : takeAs lend (p :: ps) = (takeA lend p).bnd fun d => (takeAs lend ps).bnd fun ds => M.ret (d :: ds) := (rfl)
noncomputable def gvR (i : Nat) (δ : List D) (d : D) : Option D → Rs (Unit × List D)
  | some .hole => .ok ((), δ.set i d)
  | _ => .ok ((), δ)
theorem giveL : giveA (.late i) d δ = gvR i δ d δ[i]? := by unfold giveA gvR; (try dsimp only); all_goals (cases δ[i]? with | none => rfl | some d => cases d <;> rfl)
theorem giveT {d' : D} : giveA (.tmp d') d = M.ret () := (rfl)
theorem gvR_sc : gvR i δ d (some (.sc v)) = .ok ((), δ) := (rfl)
theorem gvR_nd {o : Bool} : gvR i δ d (some (.node k o ds)) = .ok ((), δ) := (rfl)
theorem gvR_h : gvR i δ d (some .hole) = .ok ((), δ.set i d) := (rfl)
theorem gives0 {ds : List D} : giveAs [] ds = M.ret () := by cases ds <;> rfl
theorem gives1 {p : Op} {ps : List Op} : giveAs (p :: ps) (d :: ds) = (giveA p d).bnd fun _ => giveAs ps ds := (rfl)
theorem views0 : views [] = M.ret [] := (rfl)
theorem views1 {p : Op} {ps : List Op} : views (p :: ps) = (view p).bnd fun w => (views ps).bnd fun ws => M.ret (w :: ws) := (rfl)
noncomputable def cfR (ps : List Op) (δ : List D) : Rs (D × List D) → Rs (D × List D)
  | .ok (d, ds') => ((giveAs ps ds').bnd fun _ => M.ret d) δ
  | .exc x _ => .exc x δ
  | .stuck => .stuck
theorem callA {fi : FI} {ps : List Op} : callF fi ps = (takeAs fi.lend ps).bnd fun ds δ => cfR ps δ (fi.run ds) := by
  unfold callF cfR
  congr 1
  funext ds δ
  cases fi.run ds with
  | ok r => obtain ⟨d, ds'⟩ := r; rfl
  | exc x y => rfl
  | stuck => rfl
theorem cfR_ok {ps : List Op} {ds' : List D} : cfR ps δ (.ok (d, ds')) = ((giveAs ps ds').bnd fun _ => M.ret d) δ := (rfl)
noncomputable def seqR (r : M Fl) : Rs (Fl × List D) → Rs (Fl × List D)
  | .ok (.nx, δ) => r δ
  | .ok (f, δ) => .ok (f, δ)
  | .exc x δ => .exc x δ
  | .stuck => .stuck
theorem exs1 {s : S} {r : List S} : exs C (s :: r) δ = seqR (exs C r) (ex C s δ) := by
  show seqL (ex C s) (exs C r) δ = _
  unfold seqL M.bnd seqR
  cases ex C s δ with
  | ok z => obtain ⟨f, δ1⟩ := z; cases f <;> rfl
  | exc x y => rfl
  | stuck => rfl
noncomputable def forR (asg : D → M Unit) (body : M Fl) (ds : List D) : Rs (Fl × List D) → Rs (Fl × List D)
  | .ok (.nx, δ) => forL asg body ds δ
  | .ok (.ct, δ) => forL asg body ds δ
  | .ok (.bk, δ) => .ok (.nx, δ)
  | .ok (.rt x, δ) => .ok (.rt x, δ)
  | .exc x δ => .exc x δ
  | .stuck => .stuck
theorem forL1 {asg : D → M Unit} {body : M Fl} : forL asg body (d :: ds) δ = forR asg body ds (((asg d).bnd fun _ => body) δ) := by
  show ((asg d).bnd fun _ => body.bnd fun f => match f with | .nx => forL asg body ds | .ct => forL asg body ds | .bk => M.ret .nx | .rt x => M.ret (.rt x)) δ = _
  unfold forR M.bnd
  cases asg d δ with
  | ok r =>
    dsimp only
    cases body r.2 with
    | ok z => obtain ⟨f, δ1⟩ := z; cases f <;> rfl
    | exc x y => rfl
    | stuck => rfl
  | exc x y => rfl
  | stuck => rfl
theorem forL0 {asg : D → M Unit} {body : M Fl} : forL asg body [] δ = .ok (.nx, δ) := (rfl)
theorem forR_nx {asg : D → M Unit} {body : M Fl} : forR asg body ds (.ok (.nx, δ)) = forL asg body ds δ := (rfl)
theorem forR_rt {asg : D → M Unit} {body : M Fl} : forR asg body ds (.ok (.rt d, δ)) = .ok (.rt d, δ) := (rfl)
theorem exs0 : exs C [] δ = .ok (.nx, δ) := (rfl)
theorem seqR_nx (r : M Fl) : seqR r (.ok (.nx, δ)) = r δ := (rfl)
theorem seqR_rt (r : M Fl) : seqR r (.ok (.rt d, δ)) = .ok (.rt d, δ) := (rfl)
end
end T
namespace T
open PySem PySem.Spec L2 PySem.W
theorem e_k (C : Ctx) (v : V) : (evb C (.k v)).1 = (M.ret (.sc v)) := (rfl)
theorem o_k (v : V) (z : M D) : opdOf (.k v) z = z.bnd fun d => M.ret (.tmp d) := (rfl)
theorem e_bin (C : Ctx) (op : Operator) (a : E) (b : E) : (evb C (.bin op a b)).1 = ((opdOf a (evb C a).1).bnd fun p => (opdOf b (evb C b).1).bnd fun q => (view p).bnd fun x => (view q).bnd fun y => lift (binW op x y)) := (rfl)
theorem o_bin (op : Operator) (a : E) (b : E) (z : M D) : opdOf (.bin op a b) z = z.bnd fun d => M.ret (.tmp d) := (rfl)
theorem e_neg (C : Ctx) (a : E) : (evb C (.neg a)).1 = (((opdOf a (evb C a).1).bnd view).bnd fun x => lift (negW x)) := (rfl)
theorem o_neg (a : E) (z : M D) : opdOf (.neg a) z = z.bnd fun d => M.ret (.tmp d) := (rfl)
theorem e_cmp (C : Ctx) (op : CmpOp) (a : E) (b : E) : (evb C (.cmp op a b)).1 = ((opdOf a (evb C a).1).bnd fun p => (opdOf b (evb C b).1).bnd fun q => (view p).bnd fun x => (view q).bnd fun y => lift ((cmpW2 op x y).map fun t => .sc (.bl t))) := (rfl)
theorem t_cmp (C : Ctx) (op : CmpOp) (a : E) (b : E) : (evb C (.cmp op a b)).2 = boolM (evb C (.cmp op a b)).1 := (rfl)
theorem t_nt (C : Ctx) (a : E) : (evb C (.nt a)).2 = ((evb C a).2.bnd fun b => M.ret (!b)) := (rfl)
theorem t_and (C : Ctx) (a : E) (b : E) : (evb C (.and a b)).2 = ((evb C a).2.bnd fun t => if t then (evb C b).2 else M.ret false) := (rfl)
theorem t_or (C : Ctx) (a : E) (b : E) : (evb C (.or a b)).2 = ((evb C a).2.bnd fun t => if t then M.ret true else (evb C b).2) := (rfl)
theorem e_ix (C : Ctx) (a : E) (b : E) : (evb C (.ix a b)).1 = ((opdOf a (evb C a).1).bnd fun p => (opdOf b (evb C b).1).bnd fun q => (view p).bnd fun x => (view q).bnd fun y => lift (ixW2 x y)) := (rfl)
theorem o_ix (a : E) (b : E) (z : M D) : opdOf (.ix a b) z = z.bnd fun d => M.ret (.tmp d) := (rfl)
theorem e_sl (C : Ctx) (a : E) (b : E) (c : E) : (evb C (.sl a b c)).1 = ((opdOf a (evb C a).1).bnd fun p => (partM b (opdOf b (evb C b).1)).bnd fun l => (partM c (opdOf c (evb C c).1)).bnd fun h => (view p).bnd fun x => lift (slD x l h)) := (rfl)
theorem o_sl (a : E) (b : E) (c : E) (z : M D) : opdOf (.sl a b c) z = z.bnd fun d => M.ret (.tmp d) := (rfl)
theorem e_lst (C : Ctx) (es : List E) : (evb C (.lst es)).1 = ((evs C es).bnd fun ds => lift (newL ds)) := (rfl)
theorem o_lst (es : List E) (z : M D) : opdOf (.lst es) z = z.bnd fun d => M.ret (.tmp d) := (rfl)
theorem e_call (C : Ctx) (fi : FI) (es : List E) : (evb C (.call fi es)).1 = ((opds C es).bnd fun ps => callF fi ps) := (rfl)
theorem t_call (C : Ctx) (fi : FI) (es : List E) : (evb C (.call fi es)).2 = ((opdOf (.call fi es) (evb C (.call fi es)).1).bnd fun p => (view p).bnd fun w => lift (truW w)) := (rfl)
theorem o_call (fi : FI) (es : List E) (z : M D) : opdOf (.call fi es) z = z.bnd fun d => M.ret (.tmp d) := (rfl)
theorem e_bf (C : Ctx) (f : BF) (es : List E) : (evb C (.bf f es)).1 = ((opds C es).bnd fun ps => (views ps).bnd fun ws => lift (bfW f ws)) := (rfl)
theorem t_bf (C : Ctx) (f : BF) (es : List E) : (evb C (.bf f es)).2 = ((opdOf (.bf f es) (evb C (.bf f es)).1).bnd fun p => (view p).bnd fun w => lift (truW w)) := (rfl)
theorem o_bf (f : BF) (es : List E) (z : M D) : opdOf (.bf f es) z = z.bnd fun d => M.ret (.tmp d) := (rfl)
theorem e_cE (C : Ctx) (f : FI) (i : Nat) (ix : E) (es : List E) : (evb C (.callE f i ix es)).1 = ((lateM i).bnd fun _ => ((opdOf ix (evb C ix).1).bnd view).bnd fun w => callC f i es w) := (rfl)
theorem o_cE (f : FI) (i : Nat) (ix : E) (es : List E) (z : M D) : opdOf (.callE f i ix es) z = z.bnd fun d => M.ret (.tmp d) := (rfl)
theorem e_v (C : Ctx) (i : Nat) : (evb C (.v i)).1 = T.valV i := (rfl)
theorem e_append (C : Ctx) (i : Nat) (es : List E) : (evb C (.mut .append i [] es)).1 = ((chkL i).bnd fun _ => (evs C es).bnd fun ds => appM i ds) := (rfl)
theorem opds0 (C : Ctx) : opds C [] = M.ret [] := (rfl)
theorem opds1 (C : Ctx) (e : E) (es : List E) : opds C (e :: es) = ((opdOf e (evb C e).1).bnd fun p => (opds C es).bnd fun ps => M.ret (p :: ps)) := (rfl)
theorem evs0 (C : Ctx) : evs C [] = M.ret [] := (rfl)
theorem evs1 (C : Ctx) (e : E) (es : List E) : evs C (e :: es) = ((evb C e).1.bnd fun p => (evs C es).bnd fun ps => M.ret (p :: ps)) := (rfl)
theorem tsts0 (C : Ctx) : tsts C [] = M.ret true := (rfl)
theorem x_asg (C : Ctx) (i : Nat) (e : E) : ex C (.asg i e) = ((evb C e).1.bnd fun d => (asgN C.lock i d).bnd fun _ => M.ret .nx) := (rfl)
theorem x_unp (C : Ctx) (is : List Nat) (e : E) : ex C (.unp is e) = (((opdOf e (evb C e).1).bnd view).bnd fun w => (unpM C.lock is w).bnd fun _ => M.ret .nx) := (rfl)
theorem x_sub (C : Ctx) (i : Nat) (x e : E) : ex C (.sub i [] x e) = ((evb C e).1.bnd fun d => (lateM i).bnd fun _ => ((opdOf x (evb C x).1).bnd view).bnd fun w => (modS i (setD2 w d)).bnd fun _ => M.ret .nx) := (rfl)
theorem x_ex (C : Ctx) (e : E) : ex C (.ex e) = ((evb C e).1.bnd fun _ => M.ret .nx) := (rfl)
theorem x_ret (C : Ctx) (e : E) : ex C (.ret e) = ((retV C e).bnd fun d => M.ret (.rt d)) := (rfl)
theorem x_iff (C : Ctx) (c : E) (a b : List S) : ex C (.iff c a b) = ((evb C c).2.bnd fun t => if t then exs C a else exs C b) := (rfl)
theorem x_for_ (C : Ctx) (tg : Tg) (ik : IK) (ies : List E) (body : List S) : ex C (.for_ tg ik ies body) = ((opds C ies).bnd fun ps => (holdVs ps).bnd fun h => (lift (itW ik h.1)).bnd fun items => (forL (asgT (fun j => C.lock j || walked ies j) tg) (exs { C with lock := fun j => C.lock j || walked ies j } body) items).bnd fun f => (giveH h.2).bnd fun _ => M.ret f) := (rfl)
theorem ret_v (C : Ctx) (i : Nat) : retV C (.v i) = if C.lock i then T.valV i else movV i := (rfl)
theorem r_k (C : Ctx) (v : V) : retV C (.k v) = (evb C (.k v)).1 := (rfl)
theorem r_bin (C : Ctx) (op : Operator) (a : E) (b : E) : retV C (.bin op a b) = (evb C (.bin op a b)).1 := (rfl)
theorem r_cmp (C : Ctx) (op : CmpOp) (a : E) (b : E) : retV C (.cmp op a b) = (evb C (.cmp op a b)).1 := (rfl)
theorem r_lst (C : Ctx) (es : List E) : retV C (.lst es) = (evb C (.lst es)).1 := (rfl)
theorem r_call (C : Ctx) (fi : FI) (es : List E) : retV C (.call fi es) = (evb C (.call fi es)).1 := (rfl)
theorem b_add (i j : Int) : binW .Add (.sc (.int i)) (.sc (.int j)) = some (.sc (.int (i + j))) := (rfl)
theorem b_sub (i j : Int) : binW .Sub (.sc (.int i)) (.sc (.int j)) = some (.sc (.int (i - j))) := (rfl)
theorem b_mul (i j : Int) (h : (-(2 ^ 64) < i ∧ i < 2 ^ 64) ∨ (-(2 ^ 64) < j ∧ j < 2 ^ 64)) : binW .Mult (.sc (.int i)) (.sc (.int j)) = some (.sc (.int (i * j))) := if_pos h
theorem b_div (i j : Int) (h : 0 < j ∧ j < 1073741824) : binW .FloorDiv (.sc (.int i)) (.sc (.int j)) = some (.sc (.int (i / j))) := if_pos h
theorem b_mod (i j : Int) (h : 0 < j) : binW .Mod (.sc (.int i)) (.sc (.int j)) = some (.sc (.int (i % j))) := if_pos h
theorem b_cat (xs ys : List D) (h : (xs ++ ys).length ≤ sizeLine) : binW .Add (.nd .lst xs) (.nd .lst ys) = some (.node .lst true (xs ++ ys)) := if_pos h
theorem newL_eq (ds : List D) (h : ds.length ≤ sizeLine) : newL ds = some (.node .lst true ds) := if_pos h
theorem c_gt2 (i j : Int) : cmpW2 .Gt (.sc (.int i)) (.sc (.int j)) = some (decide (j < i)) := (rfl)
theorem c_eqi2 (i j : Int) : cmpW2 .Eq (.sc (.int i)) (.sc (.int j)) = some (decide (V.int i = V.int j)) := (rfl)
theorem c_nei2 (i j : Int) : cmpW2 .NotEq (.sc (.int i)) (.sc (.int j)) = some (!decide (V.int i = V.int j)) := (rfl)
theorem boolA (c : M D) (δ : List D) : boolM c δ = bndR (fun d => lift (match d with | .sc (.bl b) => some b | _ => none)) (c δ) := bndA _ _ _
theorem neg_i (i : Int) : negW (.sc (.int i)) = some (.sc (.int (-i))) := (rfl)
theorem tru_b (b : Bool) : truW (.sc (.bl b)) = some b := (rfl)
theorem len_l (ds : List D) : bfW .len [.nd .lst ds] = some (.sc (.int ds.length)) := (rfl)
theorem abs_i (i : Int) : bfW .abs [.sc (.int i)] = some (.sc (.int (if i < 0 then -i else i))) := (rfl)
theorem list_l (ds : List D) : bfW .list [.nd .lst ds] = some (.node .lst true ds) := (rfl)
theorem part_v (i : Nat) (c : M Op) : partM (.v i) c = ((c.bnd view).bnd fun w => lift (intP w)) := (rfl)
theorem part_b (op : Operator) (a b : E) (c : M Op) : partM (.bin op a b) c = ((c.bnd view).bnd fun w => lift (intP w)) := (rfl)
theorem intp (i : Int) : intP (.sc (.int i)) = some (some i) := (rfl)
theorem sl_f (ds : List D) (l h : Option Int) : slD (.nd .frl ds) l h = some (.node .lst true (cutD ds l h)) := (rfl)
theorem unp_l (lk : Nat → Bool) (is : List Nat) (ds : List D) : unpM lk is (.nd .lst ds) = asgNs lk is ds := (rfl)
theorem asgs0 (lk : Nat → Bool) : asgNs lk [] [] = M.ret () := (rfl)
theorem asgs1 (lk : Nat → Bool) (i : Nat) (is : List Nat) (d : D) (ds : List D) : asgNs lk (i :: is) (d :: ds) = ((asgN lk i d).bnd fun _ => asgNs lk is ds) := (rfl)
theorem asgt_n (lk : Nat → Bool) (i : Nat) (d : D) : asgT lk (.name i) d = asgN lk i d := (rfl)
theorem asgn (lk : Nat → Bool) (i : Nat) (d : D) (δ : List D) : asgN lk i d δ = if (decide (i < δ.length) && !lk i) = true then .ok ((), δ.set i d) else .stuck := (rfl)
theorem holds0 : holdVs [] = M.ret ([], []) := (rfl)
theorem holds1 (p : Op) (ps : List Op) : holdVs (p :: ps) = ((holdV p).bnd fun w => (holdVs ps).bnd fun ws => M.ret (w.1 :: ws.1, w.2.toList ++ ws.2)) := (rfl)
noncomputable def hdR (i : Nat) (δ : List D) : Option D → Rs ((W × Option (Nat × D)) × List D)
  | some (.sc v) => .ok ((.sc v, none), δ)
  | some (.node k false ds) => .ok ((.nd k ds, none), δ)
  | some (.node k true ds) => .ok ((.nd k (shrL ds), some (i, .node k true (shrL ds))), δ.set i .hole)
  | _ => .stuck
theorem hold_l (i : Nat) (δ : List D) : holdV (.late i) δ = hdR i δ δ[i]? := by
  unfold holdV hdR
  (try dsimp only)
  all_goals
    cases δ[i]? with
    | none => rfl
    | some d => cases d with
      | node k o ds => cases o <;> rfl
      | _ => rfl
theorem hdR_t (i : Nat) (δ : List D) (k : Kd) (ds : List D) : hdR i δ (some (.node k true ds)) = .ok ((.nd k (shrL ds), some (i, .node k true (shrL ds))), δ.set i .hole) := (rfl)
theorem hold_s (v : V) : holdV (.tmp (.sc v)) = M.ret (.sc v, none) := (rfl)
theorem hold_n (k : Kd) (o : Bool) (ds : List D) : holdV (.tmp (.node k o ds)) = M.ret (.nd k (shrL ds), none) := (rfl)
theorem giveH0 : giveH [] = M.ret () := (rfl)
theorem giveH1 (i : Nat) (d : D) (r : List (Nat × D)) (δ : List D) : giveH ((i, d) :: r) δ = giveH r (δ.set i d) := (rfl)
theorem it_l (ds : List D) : itW .val [.nd .lst ds] = some ds := (rfl)
theorem it_1 (n : Int) (h : okR n = true) : itW .rng1 [.sc (.int n)] = some (rng 0 n) := if_pos h
noncomputable def mdR (i : Nat) (δ : List D) (f : Kd → List D → Option (D × Kd × List D)) : Option D → Rs (D × List D)
  | some (.node k true ds) => match f k ds with
    | some (r, k', ds') => .ok (r, δ.set i (.node k' true ds'))
    | none => .stuck
  | _ => .stuck
theorem modA (i : Nat) (f : Kd → List D → Option (D × Kd × List D)) (δ : List D) : modS i f δ = mdR i δ f δ[i]? := by
  unfold modS mdR
  cases δ[i]? with
  | none => rfl
  | some d => cases d with
    | node k o ds => cases o <;> rfl
    | _ => rfl
theorem md_app (i : Nat) (δ : List D) (d : D) (ds : List D) (h : ds.length < sizeLine) : mdR i δ (appD d) (some (.node .lst true ds)) = .ok (.sc .non, δ.set i (.node .lst true (ds ++ [d]))) := by
  show (match (if ds.length < sizeLine then some (D.sc .non, Kd.lst, ds ++ [d]) else none) with | some (r, k', ds') => Rs.ok (r, δ.set i (.node k' true ds')) | none => .stuck) = _
  rw [if_pos h]
theorem md_set (i : Nat) (δ : List D) (d : D) (ds : List D) (n : Int) (j : Nat) (h : ixN' ds.length n = some j) : mdR i δ (setD2 (.sc (.int n)) d) (some (.node .lst true ds)) = .ok (.sc .non, δ.set i (.node .lst true (ds.set j d))) := by
  show (match ((ixN' ds.length n).map fun j => (D.sc .non, Kd.lst, ds.set j d)) with | some (r, k', ds') => Rs.ok (r, δ.set i (.node k' true ds')) | none => .stuck) = _
  rw [h]
  rfl
theorem appM1 (i : Nat) (d : D) : appM i [d] = modS i (appD d) := (rfl)
noncomputable def ckR (δ : List D) : Option D → Rs (Unit × List D)
  | some (.node .lst _ _) => .ok ((), δ)
  | _ => .stuck
theorem chkA (i : Nat) (δ : List D) : chkL i δ = ckR δ δ[i]? := by
  unfold chkL ckR
  cases δ[i]? with
  | none => rfl
  | some d => cases d with
    | node k o ds => cases k <;> rfl
    | _ => rfl
theorem ckR_l (δ : List D) (o : Bool) (ds : List D) : ckR δ (some (.node .lst o ds)) = .ok ((), δ) := (rfl)
theorem ix_l (ds : List D) (i : Int) : ixW2 (.nd .lst ds) (.sc (.int i)) = (ixN' ds.length i).bind fun j => ds[j]? := (rfl)
theorem ixN_nat (n j : Nat) (h : j < n) : ixN' n (j : Int) = some j := by
  unfold ixN'
  rw [if_pos (Int.natCast_nonneg j), if_pos (by omega)]
  simp
end T
namespace T
open PySem PySem.Spec L2
section
variable {X : Cx} {a b c : Expr} {pos : Pos}
end
section
variable {K : PySem.W.Frag} {H Hs : Hp}
theorem RepL.rev : ∀ {vs : List V} {ds : List D} {m : Bud}, RepL K H Hs vs ds m → RepL K H Hs vs.reverse ds.reverse m
  | _, _, _, .nil m => .nil m
  | _, _, _, .cons (m1 := m1) (m2 := m2) x r l => by
    (rw [List.reverse_cons, List.reverse_cons])
    exact ((RepL.rev r).app (.cons x (.nil (fun _ => 0)) fun b => by simp; exact Nat.le_refl _)).mono fun b => by have := l b; (try dsimp only); omega
end
section
variable {X : Cx} {o e : Expr} {es : List Expr} {cpos apos : Pos} {i : Nat}
end
section
variable {X : Cx} {e a b : Expr} {es : List Expr} {pos : Pos} {K : PySem.W.Frag}
end
end T
namespace T
open PySem PySem.Spec L2
section
variable {X : Cx} {a b o e k : Expr} {pos pos' : Pos} {i : Nat} {lk : Nat → Bool}
theorem PE.or {t t' : TE} (h : PE X e t) (h' : PE X e t') : PE X e fun σ H Q => t σ H Q ∨ t' σ H Q := fun pins s σ H Q I q => q.elim (h pins s σ H Q I) (h' pins s σ H Q I)
theorem ok_ix2 {ca cb : M Op} (hu : X.A.units + 64 < cLine) (ha : PE X a (tP X.K ca)) (hb : PE X b (tP X.K cb)) (hs : PlainIx b := by intro _ _; rfl) :
    PE X (.Subscript a b pos) (tM X.K (ca.bnd fun p => cb.bnd fun q => (view p).bnd fun x => (view q).bnd fun y => lift (ixW2 x y))) := ok_ix ha hb hs
theorem ok_cmp2 {op : CmpOp} {ca cb : M Op} (hu : X.A.units + 64 < cLine) (ha : PE X a (tP X.K ca)) (hb : PE X b (tP X.K cb)) (hm : behindInMarks op b = false := by first | exact nomark _ | with_unfolding_all rfl) :
    PE X (.Compare a [op] [b] pos) (tM X.K (ca.bnd fun p => cb.bnd fun q => (view p).bnd fun x => (view q).bnd fun y => lift ((cmpW2 op x y).map fun t => .sc (.bl t)))) := ok_cmp hu ha hb hm
theorem ok_cmp2T {op : CmpOp} {ca cb : M Op} (hu : X.A.units + 64 < cLine) (ha : PE X a (tP X.K ca)) (hb : PE X b (tP X.K cb)) (hm : behindInMarks op b = false := by first | exact nomark _ | with_unfolding_all rfl) :
    PT X (.Compare a [op] [b] pos) (tT X.K (boolM (ca.bnd fun p => cb.bnd fun q => (view p).bnd fun x => (view q).bnd fun y => lift ((cmpW2 op x y).map fun t => .sc (.bl t))))) := ok_cmpT hu ha hb hm
theorem ok_sub2 {c : M D} {ck : M Op} (hu : X.A.units + 64 < cLine) (ho : PE X o (tVar i)) (hk : PE X k (tP X.K ck)) (he : PE X e (tM X.K c))
    (ha : ∀ v, assign (.Subscript o k pos') X.env v = (do
      let ov ← holding [v] (eval o X.env)
      let iv ← holding [v, ov] (eval k X.env)
      standAt pos'
      holding [v, ov, iv] (setItem ov iv v)
      release [v, ov, iv] []) := by intro _; rfl)
    (hs : swapsWithSole [.Subscript o k pos'] e pos.line X.env = pure false := by rfl) (hw : swappedStores [.Subscript o k pos'] e X.env = pure none := by rfl)
    (h1 : (assignEach [.Subscript o k pos'] X.env).map (·.2) = [assign (.Subscript o k pos') X.env] := by rfl) :
    PS X (.Assign [.Subscript o k pos'] e pos) (tS X.K lk (c.bnd fun d => (lateM i).bnd fun _ => (ck.bnd view).bnd fun w => (modS i (setD2 w d)).bnd fun _ => M.ret .nx)) := ok_sub ho hk he ha hs hw h1
end
end T
namespace T
open PySem PySem.Spec L2
theorem ok_tt {X : Cx} {es : List Expr} {k1 : Nat} {q : Pos} {is : List Nat} (hc : X.calm = true) (hg : PGs X es (gNs is)) (hn : (assignEach es X.env).length = is.length := by rfl) (hst : (assignEach es X.env).findIdx? (·.1) = none := by rfl) : PG X (.Tuple es k1 q) (gT X.K (.tup is)) := pg_seq hc hg hn hst
section
variable {X : Cx} {es : List Expr} {k1 : Nat} {l ke : Expr} {ca cb : M Op} {p pos q kp : Pos} {c : Int}
end
end T
namespace T
open PySem PySem.Spec L2 PySem.W
noncomputable abbrev dI (xs : List Int) : List D := xs.map fun i => D.sc (.int i)
theorem dI_cons (x : Int) (xs : List Int) : dI (x :: xs) = .sc (.int x) :: dI xs := (rfl)
theorem dI_app (xs ys : List Int) : dI (xs ++ ys) = dI xs ++ dI ys := List.map_append
theorem dI_len (xs : List Int) : (dI xs).length = xs.length := List.length_map _
theorem shr_ints (xs : List Int) : shrL (dI xs) = dI xs := by
  induction xs with
  | nil => rfl
  | cons x xs ih => simp only [List.map_cons, shrL, shr] at ih ⊢; rw [ih]
theorem isi_b (w : W) : bfW (.isi .bool) [w] = (tyW .bool w).map fun b => .sc (.bl b) := (rfl)
theorem pyL_ints (xs : List Int) : pyL (dI xs) = some (xs.map PyData.int) := by
  induction xs with
  | nil => rfl
  | cons x xs ih => simp only [List.map_cons, pyL, py] at ih ⊢; rw [ih]; rfl
theorem lay_ints (xs : List Int) : PyData.canLayAll0 (xs.map PyData.int) = true := by
  induction xs with
  | nil => rfl
  | cons x xs ih => simp only [List.map_cons, PyData.canLayAll0, PyData.canLay0, ih, Bool.and_self]
theorem deep_ints (xs : List Int) : PyData.depthAll (xs.map PyData.int) = 0 := by
  induction xs with
  | nil => rfl
  | cons x xs ih => simp only [List.map_cons, PyData.depthAll, PyData.depth, ih, Nat.max_self]
theorem shaped_ints (xs : List Int) : SeqAt.shaped (.list (xs.map PyData.int)) = true := by
  simp only [SeqAt.shaped, PyData.canLay0, PyData.depth, lay_ints, deep_ints]
  decide
theorem eqv_ints : ∀ xs ys : List Int, PyData.eqvAll (xs.map PyData.int) (ys.map PyData.int) = decide (xs = ys)
  | [], [] => by simp only [List.map_nil, PyData.eqvAll, decide_true]
  | [], y :: ys => by simp [PyData.eqvAll]
  | x :: xs, [] => by simp [PyData.eqvAll]
  | x :: xs, y :: ys => by
    simp only [List.map_cons, PyData.eqvAll, PyData.eqv, eqv_ints xs ys]
    (by_cases h1 : x = y <;> by_cases h2 : xs = ys <;> simp [h1, h2])
theorem c_eql (xs ys : List Int) : cmpW2 .Eq (.nd .lst (dI xs)) (.nd .lst (dI ys)) = some (decide (xs = ys)) := by
  show (py (.node .lst false (dI xs))).bind (fun a => (py (.node .lst false (dI ys))).bind fun b => eqPy a b) = _
  simp only [py, pyL_ints, Option.map_some, Option.bind_some]
  unfold eqPy
  rw [if_pos ⟨shaped_ints xs, shaped_ints ys⟩]
  simp only [PyData.eqv, eqv_ints]
noncomputable def cutI (xs : List Int) (lo hi : Option Int) : List Int := (xs.drop (HT.sIx xs.length 0 lo)).take (HT.sIx xs.length xs.length hi - HT.sIx xs.length 0 lo)
theorem cut_ints (xs : List Int) (lo hi : Option Int) : cutD (dI xs) lo hi = dI (cutI xs lo hi) := by
  unfold cutD cutI
  simp only [List.length_map, List.map_take, List.map_drop]
theorem cutI_one (xs : List Int) (k : Nat) : cutI xs (some (k : Int)) (some ((k : Int) + 1)) = (xs[k]?).toList := by
  unfold cutI
  have e1 : ((k : Int) + 1) = ((k + 1 : Nat) : Int) := by omega
  rw [e1, HT.sIx_nat, HT.sIx_nat]
  by_cases h : k < xs.length
  · rw [Nat.min_eq_left (by omega), Nat.min_eq_left (by omega), List.getElem?_eq_getElem h, List.drop_eq_getElem_cons h]
    have : k + 1 - k = 1 := by omega
    rw [this]
    rfl
  · rw [Nat.min_eq_right (by omega), Nat.min_eq_right (by omega), List.getElem?_eq_none (by omega)]
    simp
noncomputable def rngI : Int → Nat → List Int
  | _, 0 => []
  | a, n + 1 => a :: rngI (a + 1) n
theorem rng_map (a : Int) : ∀ (n : Nat) (f : Nat → Int), (∀ k, f k = a + k) → (List.range n).map (fun k => D.sc (.int (f k))) = dI (rngI a n) := by
  intro n
  induction n generalizing a with
  | zero => intro f _; rfl
  | succ n ih =>
    intro f hf
    (rw [List.range_succ_eq_map, List.map_cons, List.map_map])
    show _ = D.sc (.int a) :: dI (rngI (a + 1) n)
    have h0 : f 0 = a := by rw [hf]; simp
    rw [h0]
    congr 1
    exact ih (a + 1) (fun k => f (k + 1)) fun k => by rw [hf]; omega
theorem rng_ints (a b : Int) : rng a b = dI (rngI a (b - a).toNat) := rng_map a _ (fun k => a + k) fun k => rfl
theorem it_r1 (n : Int) (h : -(2 ^ 62) ≤ n ∧ n < 2 ^ 62) : itW .rng1 [.sc (.int n)] = some (dI (rngI 0 n.toNat)) := by
  rw [it_1 n (by simp only [okR, Bool.and_eq_true, decide_eq_true_eq]; exact h), rng_ints]
  have : n - 0 = n := by omega
  rw [this]
theorem asgt_t (lk : Nat → Bool) (is : List Nat) (o : Bool) (ds : List D) : asgT lk (.tup is) (.node .tup o ds) = asgNs lk is ds := (rfl)
noncomputable def notV : E → Bool
  | .v _ => false
  | _ => true
theorem lt_opd {e : E} {c : M D} {lk : Nat → Bool} (h : notV e = true) : LatesIn (opdOf e c) lk := by
  rw [opd_tmp fun j z => by subst z; cases h]
  exact lt_tmp
section
variable {asg : D → M Unit} {cond : M Bool} {elt : M D} {d : D} {ds acc δ δ' δ1 caps : List D} {k : Nat} {js : List Nat} {loop : M (List D)}
theorem compL1 : compL asg cond elt (d :: ds) acc δ = ((asg d).bnd fun _ => cond.bnd fun b => if b then elt.bnd fun x => compL asg cond elt ds (acc ++ [x]) else compL asg cond elt ds acc) δ := (rfl)
noncomputable def compE (fok : Addr → Str → Bool) (fuel k : Nat) (tg : Tg) (cond : List E) (elt : E) (items acc : List D) : M (List D) := compL (asgT (fun i => decide (k ≤ i)) tg) (tsts ⟨fun i => decide (k ≤ i), fok, fuel⟩ cond) (evb ⟨fun i => decide (k ≤ i), fok, fuel⟩ elt).1 items acc
theorem e_compE (C : Ctx) (k : Nat) (js : List Nat) (tg : Tg) (ik : IK) (es es' : List E) (a : E) : (evb C (.comp k js tg ik es es' a)).1 = ((opds C es).bnd fun ps => (holdVs ps).bnd fun h => (lift (itW ik h.1)).bnd fun items => (compM k js (compE C.fok C.fuel k tg es' a items [])).bnd fun d => (giveH h.2).bnd fun _ => M.ret d) := (rfl)
theorem compM_ok (h1 : capTake js δ = .ok (caps, δ1)) (h2 : loop (List.replicate k .hole ++ caps) = .ok (acc, δ')) (h3 : acc.length ≤ sizeLine) : compM k js loop δ = ((capGive js (δ'.drop k)).bnd fun _ => M.ret (.node .lst true acc)) δ1 := by
  unfold compM
  rw [bnd_eq h1, h2]
  show ((capGive js (δ'.drop k)).bnd fun _ => lift (newL acc)) δ1 = _
  rw [newL_eq _ h3]
  rfl
end
end T
namespace T
open PySem PySem.Spec L2
section
variable {X : Cx} {a : Expr} {pos pos' : Pos} {ca : M Op}
end
end T
namespace T
open PySem PySem.Spec L2
theorem zipD_at : ∀ (ds es : List D) (i : Nat) {d : D}, (zipD ds es)[i]? = some d → ∃ x y, ds[i]? = some x ∧ es[i]? = some y ∧ d = .node .tup false [x, y]
  | [], es, i, d, h => by simp [zipD] at h
  | x :: ds, [], i, d, h => by simp [zipD] at h
  | x :: ds, y :: es, 0, d, h => by
    rw [zipD, List.getElem?_cons_zero] at h
    cases h
    exact ⟨x, y, rfl, rfl, rfl⟩
  | x :: ds, y :: es, i + 1, d, h => by
    rw [zipD, List.getElem?_cons_succ] at h
    obtain ⟨u, v, e1, e2, e3⟩ := zipD_at ds es i h
    exact ⟨u, v, by rw [List.getElem?_cons_succ]; exact e1, by rw [List.getElem?_cons_succ]; exact e2, e3⟩
theorem zipD_len : ∀ ds es : List D, (zipD ds es).length = min ds.length es.length
  | [], es => by simp [zipD]
  | x :: ds, [] => by simp [zipD]
  | x :: ds, y :: es => by rw [zipD, List.length_cons, List.length_cons, List.length_cons, zipD_len ds es]; omega
noncomputable def Stays (K : PySem.W.Frag) (B : Bud) (a : Addr) (vs : List V) (H Hs : Hp) : Prop := SqL K Hs a vs ∨ (H a = some (.lst vs) ∧ B a ≥ 1)
theorem Stays.sq {K : PySem.W.Frag} {B : Bud} {a : Addr} {vs : List V} {H Hs : Hp} (g : Same Hs H) (h : Stays K B a vs H Hs) : SqL K H a vs := h.elim (fun h => g.seq h) fun h => .inl (.inl h.1)
theorem Stays.frame {K : PySem.W.Frag} {B : Bud} {a : Addr} {vs : List V} {H Hs H' Hs' : Hp} (h : Stays K B a vs H Hs) (g : Same Hs Hs') (k : ∀ b, B b ≥ 1 → H b ≠ none → H' b = H b) : Stays K B a vs H' Hs' := by
  rcases h with h | ⟨h, hb⟩
  · exact .inl (g.seq h)
  · exact .inr ⟨(k a hb (by rw [h]; simp)).trans h, hb⟩
theorem walk_zip {K : PySem.W.Frag} {a b : Addr} {vs ws : List V} {ds es : List D} {B : Bud} : Walk K (Itz K a b) (zipD ds es) B (fun H Hs => (Stays K B a vs H Hs ∧ Stays K B b ws H Hs) ∧ RepL K H Hs vs ds (fun _ => 0) ∧ RepL K H Hs ws es (fun _ => 0)) := by
  refine ⟨fun h g k => ⟨⟨h.1.1.frame g k, h.1.2.frame g k⟩, h.2.1.frame g fun b hb => absurd hb (by simp), h.2.2.frame g fun b hb => absurd hb (by simp)⟩, fun {H Hs i} g h l => ?_, fun {H Hs H' i x d} g h e y => ?_, fun {H Hs i} g h l => ?_⟩
  · have e1 := h.2.1.len
    have e2 := h.2.2.len
    rw [zipD_len] at l
    exact ⟨vs, ws, _, _, h.1.1.sq g, h.1.2.sq g, List.getElem?_eq_getElem (show i < vs.length by omega), List.getElem?_eq_getElem (show i < ws.length by omega)⟩
  · obtain ⟨x1, y1, e1, e2, rfl⟩ := zipD_at ds es i e
    obtain ⟨A, u, v, rfl, hA, rfl, hu, hv⟩ := y
    obtain ⟨u', m1, eu, ru, lu⟩ := h.2.1.at e1
    obtain ⟨v', m2, ev, rv, lv⟩ := h.2.2.at e2
    have qu := hu vs (h.1.1.sq g)
    have qv := hv ws (h.1.2.sq g)
    rw [eu] at qu
    rw [ev] at qv
    cases qu
    cases qv
    have gr : Grow H Hs (upd H A (.tup [u, v])) (upd Hs A (.tup [u, v])) := .inr ⟨A, _, hA, rfl, rfl⟩
    obtain ⟨sm, fr, _⟩ := gr.same g
    refine ⟨_, gr, .shd (k := .tup) (vs := [u, v]) (show _ = some _ from upd_same) (.cons (m1 := fun _ => 0) (m2 := fun _ => 0) ((ru.mono lu).frame sm fun b _ n => fr b n) (.cons (m1 := fun _ => 0) (m2 := fun _ => 0) ((rv.mono lv).frame sm fun b _ n => fr b n) (.nil _) fun b => by simp) fun b => by simp)⟩
  · have e1 := h.2.1.len
    have e2 := h.2.2.len
    rw [zipD_len] at l
    exact ⟨vs, ws, h.1.1.sq g, h.1.2.sq g, by omega⟩
theorem Held.app {K : PySem.W.Frag} {H Hs : Hp} {σ : St} : ∀ {l r : List (Nat × D)} {m n : Bud}, Held K H Hs σ l m → Held K H Hs σ r n → Held K H Hs σ (l ++ r) (fun b => m b + n b)
  | [], r, m, n, _, h => Held.more h fun b => by omega
  | (i, d) :: l, r, m, n, ⟨v, m1, m2, e, x, y, q⟩, h => ⟨v, m1, fun b => m2 b + n b, e, x, Held.app y h, fun b => by have := q b; (try dsimp only); omega⟩
where
  Held.more {K : PySem.W.Frag} {H Hs : Hp} {σ : St} : ∀ {l : List (Nat × D)} {m n : Bud}, Held K H Hs σ l m → (∀ b, m b ≤ n b) → Held K H Hs σ l n
    | [], _, _, h, _ => h
    | (i, d) :: l, m, n, ⟨v, m1, m2, e, x, y, q⟩, k => ⟨v, m1, m2, e, x, y, fun b => Nat.le_trans (q b) (k b)⟩
theorem HW.nd_stays {K : PySem.W.Frag} {H Hs Hs' : Hp} {B B' : Bud} {x : V} {k : Kd} {ds : List D} (hk : k = .lst ∨ k = .frl) (g : Same Hs Hs') (l : ∀ b, B b ≤ B' b) (h : HW K H Hs B x (.nd k ds)) : ∃ a vs, x = .ref a ∧ Stays K B' a vs H Hs' ∧ RepL K H Hs' vs ds (fun _ => 0) := by
  obtain ⟨a, vs, e, r, n⟩ := h
  refine ⟨a, vs, e, ?_, r.frame g fun b hb => absurd hb (by simp)⟩
  rcases hk with rfl | rfl
  · rcases n with n | n
    · exact .inl (.inl (.inl (g _ _ n)))
    · exact .inr ⟨n.1, Nat.le_trans n.2 (l a)⟩
  · rcases n with n | n
    · exact .inl (g.seq n)
    · exact n.1.elim
section
variable {X : Cx} {es : List Expr} {k1 : Nat} {l r : Expr} {ca cb : M Op} {p pos q : Pos}
theorem zip_of (σ : St) (H : Hp) (R : It → Hp → Prop) (h : tI X.K .zip (ca.bnd fun p => (cb.bnd fun p => (M.ret ([] : List Op)).bnd fun ps => M.ret (p :: ps)).bnd fun ps => M.ret (p :: ps)) σ H R) : iZip X.K (tCons (tP X.K ca) (tCons (tP X.K cb) tNil)) σ H R := by
  obtain ⟨δ, Hs, M, h, items, δ', g, s, e, ei, z⟩ := h
  obtain ⟨ps, δ1, e1, e2⟩ := bnd_ok e
  obtain ⟨p1, δ2, e3, e4⟩ := bnd_ok e1
  obtain ⟨qs, δ3, e5, e6⟩ := bnd_ok e4
  obtain ⟨p2, δ4, e7, e8⟩ := bnd_ok e5
  obtain ⟨y0, δ5, e9, e10⟩ := bnd_ok e8
  have := ret_ok e9
  cases this
  have := ret_ok e10
  cases this
  have := ret_ok e6
  cases this
  obtain ⟨w1, δ6, e11, e12⟩ := bnd_ok e2
  obtain ⟨ws, δ7, e13, e14⟩ := bnd_ok e12
  obtain ⟨w2, δ8, e15, e16⟩ := bnd_ok e13
  obtain ⟨y1, δ9, e17, e18⟩ := bnd_ok e16
  have := ret_ok e17
  cases this
  have := ret_ok e18
  cases this
  have := ret_ok e14
  cases this
  obtain ⟨w1, h1⟩ := w1
  obtain ⟨w2, h2⟩ := w2
  refine ⟨δ, Hs, M, p1, δ2, g, s, e3, fun x H1 Hs1 m1 M1 g1 st1 r1 s1 => ⟨δ2, Hs1, M1, p2, _, g1.re, s1, e7, fun y H2 Hs2 m2 M2 g2 st2 r2 s2 => ?_⟩⟩
  obtain ⟨G2, S2, k2⟩ := step2 g g1 st1 g2 st2
  have r1' := RepP.frame st2.grow k2 r1
  obtain ⟨Hs3, B3, M3, g3, st3, s3, hh3, hw3⟩ := hold_ok (m := m1) (M := M2) (G2.re fun b => by (try dsimp only); omega) s2 r1' e11
  have G2' : Good H2 Hs2 (fun b => m2 b + (m1 b + M2 b)) := G2.re fun b => by (try dsimp only); omega
  have S2' : Stp H Hs M H2 Hs2 (fun b => m2 b + (m1 b + M2 b)) := S2.drop (fun b => by (try dsimp only); omega) G2.le
  obtain ⟨G3, S3, k3⟩ := step2 (m1 := m2) g G2' S2' g3 st3
  have r2' : RepP X.K H2 Hs3 σ y p2 m2 := RepP.frame st3.grow k3 r2
  obtain ⟨Hs4, B4, M4, g4, st4, s4, hh4, hw4⟩ := hold_ok (m := m2) (M := M3) (G3.re fun b => by (try dsimp only); omega) s3 r2' e15
  have G3' : Good H2 Hs3 (fun b => B3 b + (m2 b + M3 b)) := G3.re fun b => by (try dsimp only); omega
  have S3' : Stp H Hs M H2 Hs3 (fun b => B3 b + (m2 b + M3 b)) := S3.drop (fun b => by (try dsimp only); omega) G3.le
  obtain ⟨G4, S4, k4⟩ := step2 (m1 := B3) g G3' S3' g4 st4
  cases w1 with
  | sc u => cases ei
  | nd k ds =>
    cases w2 with
    | sc u => cases ei
    | nd k' ds' =>
      have hkk : ((k = .lst ∨ k = .frl) ∧ (k' = .lst ∨ k' = .frl)) ∧ items = zipD ds ds' := by
        simp only [itW, zipI] at ei
        split at ei
        · rename_i hk; cases ei; exact ⟨hk, rfl⟩
        · cases ei
      obtain ⟨⟨hk, hk'⟩, rfl⟩ := hkk
      obtain ⟨a, vs, rfl, sa, ra⟩ := HW.nd_stays (B' := fun b => B3 b + B4 b) hk st4.grow (fun b => by omega) hw3
      obtain ⟨b, us, rfl, sb, rb⟩ := HW.nd_stays (B' := fun b => B3 b + B4 b) hk' (Same.refl _) (fun b => by omega) hw4
      have gg : Good H2 Hs4 (fun b => (fun b => B3 b + B4 b) b + M4 b) := G4.re fun b => by (try dsimp only); omega
      have hh := Held.app (hh3.frame st4.grow fun b _ _ => rfl) hh4
      exact ⟨a, b, rfl, ⟨vs, sa.sq gg.sub⟩, ⟨us, sb.sq gg.sub⟩, z _ _ H2 Hs4 (fun b => B3 b + B4 b) M4 gg (S4.drop (fun b => by (try dsimp only); omega) G4.le) s4 (by simpa using hh) walk_zip ⟨⟨sa, sb⟩, ra, rb⟩⟩
theorem ok_zip (hg : Gl X "zip") (hm : X.mg "zip" = none) (hl : PE X l (tP X.K ca)) (hr : PE X r (tP X.K cb)) (hs : starEach [l, r] X.env = [(false, eval l X.env), (false, eval r X.env)] := by rfl) (hs2 : starEach [r] X.env = [(false, eval r X.env)] := by rfl) :
    PI X (.Tuple es k1 q) (.Call (.Name "zip" p) [l, r] [] pos) (tI X.K .zip (ca.bnd fun p => (cb.bnd fun p => (M.ret ([] : List Op)).bnd fun ps => M.ret (p :: ps)).bnd fun ps => M.ret (p :: ps))) :=
  PI.imp (pi_zip hg hm (pa_cons hl (pa_cons hr pa_nil (by rw [hs2]; rfl)) (by rw [hs, hs2])) hs hs2) fun σ H R h => zip_of σ H R h
end
end T
namespace T
open PySem PySem.Spec L2
noncomputable def atS (σ : St) : E → Option V
  | .k v => some v
  | .v i => σ[i]?.join
  | _ => none
noncomputable def atSs (σ : St) : List E → Option (List V)
  | [] => some []
  | e :: es => (atS σ e).bind fun v => (atSs σ es).map (v :: ·)
noncomputable def tAt (es : List E) : TA := fun σ H Q => ∃ vs, atSs σ es = some vs ∧ Q vs H
theorem at_ok {K : PySem.W.Frag} {H Hs : Hp} {σ : St} {δ : List D} {M : Bud} {e : E} {v : V} (s : RepS K H Hs σ δ M) (h : atE δ e = some v) : atS σ e = some v := by
  unfold atE at h
  split at h
  · exact h
  · split at h
    · rename_i i u hi
      cases h
      obtain ⟨v', m1, m2, e1, q, l, f⟩ := s.slot hi (by simp)
      cases q
      unfold atS
      dsimp only
      rw [e1]
      rfl
    · cases h
  · cases h
theorem ats_ok {K : PySem.W.Frag} {H Hs : Hp} {σ : St} {δ : List D} {M : Bud} (s : RepS K H Hs σ δ M) : ∀ {es : List E} {vs : List V}, atEs δ es = some vs → atSs σ es = some vs
  | [], _, h => h
  | e :: es, vs, h => by
    unfold atEs at h
    simp only [Option.bind_eq_some_iff, Option.map_eq_some_iff] at h
    obtain ⟨v, h1, ws, h2, rfl⟩ := h
    unfold atSs
    rw [at_ok s h1, ats_ok s h2]
    rfl
section
variable {X : Cx} {e o k : Expr} {es : List Expr} {pos pos' p : Pos} {x : Str} {i j n : Nat} {fi : FI} {ps : List Str} {es' : List E}
theorem ok_at0 : PA X [] (tAt []) := PA.imp pa_nil fun σ H Q ⟨vs, h, q⟩ => by cases h; exact q
theorem ok_atV {i : Nat} (he : PE X e (tVar i)) (hr : PA X es (tAt es')) (hs : starEach (e :: es) X.env = (false, eval e X.env) :: starEach es X.env := by rfl) : PA X (e :: es) (tAt (.v i :: es')) := PA.imp (pa_cons he hr hs) fun σ H Q ⟨vs, h, q⟩ => by
  unfold atSs at h
  simp only [Option.bind_eq_some_iff, Option.map_eq_some_iff] at h
  obtain ⟨v, h1, ws, h2, rfl⟩ := h
  unfold atS at h1
  dsimp only at h1
  rw [Option.join_eq_some_iff] at h1
  exact ⟨v, h1, ws, h2, q⟩
theorem ok_callE {ck : M Op} (G : FnAt X.prog X.w X.K X.mg X.base x j ps (spF X.K fi.run)) (hr : Room n X.A) (ho : PE X o (tVar i)) (hk : PE X k (tP X.K ck)) (ha : PA X es (tAt es')) (hs : PlainIx k := by intro _ _; rfl) (hj : j ≤ n := by decide) (hg : Gl X x := by rfl) (hdb : (x == ("__debug__" : Str)) = false := by decide)
    (he : starEach (.Subscript o k pos' :: es) X.env = (false, eval (.Subscript o k pos') X.env) :: starEach es X.env := by rfl) (hpl : (backTo pos (starEach es X.env)).any (·.1) = false := by rfl) :
    PE X (.Call (.Name x p) (.Subscript o k pos' :: es) [] pos) (tM X.K ((lateM i).bnd fun _ => (ck.bnd view).bnd fun w => callC fi i es' w)) := PE.imp (pe_fn G hr (pa_cons (pe_ix ix_list ho hk hs) ha he) hj hg hdb he hpl) fun σ H Q h => by
  obtain ⟨δ, Hs, M, d, δ', g, s, e, q⟩ := h
  obtain ⟨p0, δ1, e1, ea⟩ := bnd_ok e
  obtain ⟨rfl, vo, hvo⟩ := late_ok s e1
  obtain ⟨w, δ2, e2, eb⟩ := bnd_ok ea
  clear e
  have e := eb
  obtain ⟨p, δ3, e3, e4⟩ := bnd_ok e2
  refine ⟨vo, hvo, δ1, Hs, M, p, δ3, g, s, e3, fun y H2 Hs2 m2 M2 g2 st2 r2 s2 => ?_⟩
  obtain ⟨Hs3, M3, g3, st3, v3, s3⟩ := view_ok g2 s2 r2 e4
  unfold callC at e
  split at e
  · rename_i kk ds vs hi hat
    split at e
    · rename_i jj hjj
      split at e
      · rename_i c hc
        obtain ⟨v', n1, n2, f1, f2, f3, f4⟩ := s3.slot hi (by simp)
        rw [hvo] at f1
        cases f1
        cases v3
        cases f2 with
        | @own p1 _ us _ _ m' nn r l' =>
          obtain ⟨z, mc, mo, ez, rc, lc, fr⟩ := r.sep.focus hc
          have hl := r.len
          refine ⟨p1, us, kk, z, rfl, rfl, .inl (.inl nn), ?_, vs, ats_ok s3 hat, ?_⟩
          · unfold atI
            rw [hl, ← ixN_eq, hjj]
            exact ez
          show spF X.K fi.run ((z :: vs) ++ []) H2 Q E0
          rw [List.append_nil]
          cases hF : fi.run (c :: vs.map D.sc) with
          | ok rr =>
            obtain ⟨d1, ds1⟩ := rr
            rw [hF] at e
            cases ds1 with
            | nil => cases e
            | cons c' rest =>
              cases e
              have l1 : ∀ b, one p1 b + m' b + n2 b ≤ M3 b := fun b => by have := f3 b; have := l' b; omega
              have z0 := step2 (m1 := fun _ => 0) g (g2.re fun b => by simp) (st2.drop (fun b => by simp) g2.le) g3 (M1 := fun b => m2 b + M2 b) (M2 := fun b => m2 b + M3 b) st3
              have G2 : Good H2 Hs3 (fun b => (one p1 b + mo b + n2 b) + mc b) := g3.re fun b => by have := l1 b; have := lc b; omega
              have S2 : Stp H Hs M H2 Hs3 (fun b => (one p1 b + mo b + n2 b) + mc b) := z0.2.1.drop (fun b => by have := l1 b; have := lc b; (try simp); omega) z0.1.le
              refine ⟨c :: vs.map D.sc, Hs3, mc, d, c' :: rest, G2.re fun b => by omega, .cons (m2 := fun _ => 0) rc (repl_sc vs) fun b => by simp, hF, fun v H' Hs' k1 k2 g' st' rv rl => ?_⟩
              obtain ⟨GG, S, kf⟩ := step2 g G2 S2 g' st'
              cases rl with
              | @cons _ _ _ _ q1 q2 _ x1 y1 lq =>
                have rl2 := fr (Rep X.K H' Hs') z c' q1 (fun a d mm hm hr => hr.frame st'.grow fun b hb => kf b (by have := hm b; omega)) x1
                rw [set_self ez] at rl2
                have n' : NodeO H' p1 us .lst := nn.eq (kf p1 (by simp [one]; omega) nn.at)
                have zz := f4 H' Hs' (some (.ref p1)) (.node .lst true (ds.set jj c')) (fun b => one p1 b + (q1 b + mo b)) st'.grow (fun b hb => kf b (by omega)) (.inr ⟨_, rfl, .own n' rl2.repL fun b => Nat.le_refl _⟩)
                rw [set_self hvo] at zz
                exact q v H' Hs' k1 _ (GG.re fun b => by have := lq b; omega) (S.drop (fun b => by have := lq b; omega) GG.le) rv zz
          | exc x y => rw [hF] at e; cases e
          | stuck => rw [hF] at e; cases e
      · cases e
    · cases e
  · cases e
end
theorem cE_ok (f : FI) (i : Nat) (es : List E) (k : Int) (δ ds : List D) (vs : List V) (j : Nat) (c : D) (h1 : δ[i]? = some (.node .lst true ds)) (h2 : atEs δ es = some vs) (h3 : ixN' ds.length k = some j) (h4 : ds[j]? = some c) : callC f i es (.sc (.int k)) δ = callR i j ds δ (f.run (c :: vs.map D.sc)) := by
  unfold callC
  simp only [h1, h2, h3, h4]
end T
namespace My
open PySem PySem.Spec L2 T
section
seal L2.PE L2.PS L2.PSs L2.PT L2.PI L2.PA L2.PG L2.PGs
noncomputable def top (i : Nat) : Stmt := PySem.Challenge.pw_barlabel_k40_edges.main.body.getD i (.Pass ⟨0, 0, 0, 0⟩)
structure Txt (K : PySem.W.Frag) (mg : Str → Option Value) : Prop where
  abs_ : mg "abs" = none
  bool_ : mg "bool" = none
  int_ : mg "int" = none
  isinstance_ : mg "isinstance" = none
  len_ : mg "len" = none
  list_ : mg "list" = none
  range_ : mg "range" = none
  zip_ : mg "zip" = none
noncomputable abbrev s__law_nth : Stmt := top 3
noncomputable abbrev N__law_nth : List Str := ["_law_script", "_law_k", "_law_cell"]
theorem sc__law_nth : FnScope N__law_nth ["_law_script", "_law_k"] (defScope s__law_nth) := ⟨rfl, rfl, rfl, by decide +kernel, rfl, by decide +kernel, by decide +kernel⟩
theorem n__law_nth_0 : slotOk (defScope s__law_nth) N__law_nth 0 "_law_script" false = true := by decide +kernel
theorem n__law_nth_1 : slotOk (defScope s__law_nth) N__law_nth 1 "_law_k" false = true := by decide +kernel
theorem n__law_nth_2 : slotOk (defScope s__law_nth) N__law_nth 2 "_law_cell" false = true := by decide +kernel
noncomputable def ir__law_nth : List T.S := [.for_ (.name 2) .val [.sl (.v 0) (.v 1) (.bin .Add (.v 1) (.k (.int 1)))] [.ret (.v 2)], .ret (.k (.int 0))]
noncomputable def f__law_nth : T.FI := ⟨true, T.runDef C0 2 3 ir__law_nth⟩
set_option maxHeartbeats 8000000 in
theorem ok__law_nth {P : Program} {w : World} {K : PySem.W.Frag} {mg : Str → Option Value} {base : Heap} {f : Addr} {fd : FuncData} (F : Fun K "_law_nth" "_law_nth" s__law_nth f fd) (Z : Txt K mg )  : FnOk P w K mg base CX0 (0 + 1) f fd ["_law_script", "_law_k"] (T.spF K (T.runDef C0 2 3 ir__law_nth)) :=
  T.def_ok' (C := C0) (body := ir__law_nth) (k := 0) (N := N__law_nth) F sc__law_nth rfl rfl fun cdv A outer s H E hr =>
  have hu := hr.units
  (ok_seq (ok_for PassesOwn.never rfl (le_or _ _) (hw_1 (lt_opd rfl)) (ok_val (ok_tmp (ok_sl (ok_late (pvs n__law_nth_0)) (ok_part (ok_late (pvs n__law_nth_1))) (ok_part (ok_tmp (ok_bin (bin_ok _) (ok_late (pvs n__law_nth_1)) (ok_tmp (ok_k pe_int)))))))) (ok_tn n__law_nth_2 sc__law_nth.nd)
      (ok_seq (ok_ret (ok_mov (pvs n__law_nth_2)))
      ok_nil))
      (ok_seq (ok_ret (ok_k pe_int))
      ok_nil))
noncomputable abbrev s__law_spun : Stmt := top 4
noncomputable abbrev N__law_spun : List Str := ["_law_cell", "_law_turn", "_law_many", "_law_number"]
theorem sc__law_spun : FnScope N__law_spun ["_law_cell", "_law_turn", "_law_many"] (defScope s__law_spun) := ⟨rfl, rfl, rfl, by decide +kernel, rfl, by decide +kernel, by decide +kernel⟩
theorem n__law_spun_3 : slotOk (defScope s__law_spun) N__law_spun 3 "_law_number" false = true := by decide +kernel
theorem n__law_spun_0 : slotOk (defScope s__law_spun) N__law_spun 0 "_law_cell" false = true := by decide +kernel
theorem n__law_spun_1 : slotOk (defScope s__law_spun) N__law_spun 1 "_law_turn" false = true := by decide +kernel
theorem n__law_spun_2 : slotOk (defScope s__law_spun) N__law_spun 2 "_law_many" false = true := by decide +kernel
noncomputable def ir__law_spun : List T.S := [.asg 3 (.bin .Mod (.bin .Mult (.bin .Add (.bin .Mod (.v 0) (.k (.int 2305843009213693951))) (.k (.int 977))) (.bin .Add (.bin .Mult (.k (.int 2)) (.v 1)) (.k (.int 30011)))) (.k (.int 2305843009213693951))), .asg 3 (.bin .Add (.bin .FloorDiv (.v 3) (.k (.int 65537))) (.bin .Mult (.bin .Mod (.v 3) (.k (.int 65537))) (.bin .Add (.v 1) (.k (.int 5))))), .ret (.bin .Mod (.bin .Add (.bin .Mult (.bin .Mod (.v 3) (.k (.int 1000003))) (.k (.int 1000003))) (.bin .Mod (.bin .FloorDiv (.v 3) (.k (.int 97))) (.k (.int 1000003)))) (.v 2))]
noncomputable def f__law_spun : T.FI := ⟨true, T.runDef C0 3 4 ir__law_spun⟩
set_option maxHeartbeats 8000000 in
theorem ok__law_spun {P : Program} {w : World} {K : PySem.W.Frag} {mg : Str → Option Value} {base : Heap} {f : Addr} {fd : FuncData} (F : Fun K "_law_spun" "_law_spun" s__law_spun f fd) (Z : Txt K mg )  : FnOk P w K mg base CX0 (0 + 1) f fd ["_law_cell", "_law_turn", "_law_many"] (T.spF K (T.runDef C0 3 4 ir__law_spun)) :=
  T.def_ok' (C := C0) (body := ir__law_spun) (k := 0) (N := N__law_spun) F sc__law_spun rfl rfl fun cdv A outer s H E hr =>
  have hu := hr.units
  (ok_seq (ok_asgs n__law_spun_3 sc__law_spun.nd (ok_bin (bin_ok _) (ok_tmp (ok_bin (bin_ok _) (ok_tmp (ok_bin (bin_ok _) (ok_tmp (ok_bin (bin_ok _) (ok_late (pvs n__law_spun_0)) (ok_tmp (ok_k pe_int)))) (ok_tmp (ok_k pe_int)))) (ok_tmp (ok_bin (bin_ok _) (ok_tmp (ok_bin (bin_ok _) (ok_tmp (ok_k pe_int)) (ok_late (pvs n__law_spun_1)))) (ok_tmp (ok_k pe_int)))))) (ok_tmp (ok_k pe_int))))
      (ok_seq (ok_asgs n__law_spun_3 sc__law_spun.nd (ok_bin (bin_ok _) (ok_tmp (ok_bin (bin_ok _) (ok_late (pvs n__law_spun_3)) (ok_tmp (ok_k pe_int)))) (ok_tmp (ok_bin (bin_ok _) (ok_tmp (ok_bin (bin_ok _) (ok_late (pvs n__law_spun_3)) (ok_tmp (ok_k pe_int)))) (ok_tmp (ok_bin (bin_ok _) (ok_late (pvs n__law_spun_1)) (ok_tmp (ok_k pe_int))))))))
      (ok_seq (ok_ret (ok_bin (bin_ok _) (ok_tmp (ok_bin (bin_ok _) (ok_tmp (ok_bin (bin_ok _) (ok_tmp (ok_bin (bin_ok _) (ok_late (pvs n__law_spun_3)) (ok_tmp (ok_k pe_int)))) (ok_tmp (ok_k pe_int)))) (ok_tmp (ok_bin (bin_ok _) (ok_tmp (ok_bin (bin_ok _) (ok_late (pvs n__law_spun_3)) (ok_tmp (ok_k pe_int)))) (ok_tmp (ok_k pe_int)))))) (ok_late (pvs n__law_spun_2))))
      ok_nil)))
noncomputable abbrev s__law_source : Stmt := top 5
noncomputable abbrev N__law_source : List Str := ["_law_cell"]
theorem sc__law_source : FnScope N__law_source ["_law_cell"] (defScope s__law_source) := ⟨rfl, rfl, rfl, by decide +kernel, rfl, by decide +kernel, by decide +kernel⟩
theorem n__law_source_0 : slotOk (defScope s__law_source) N__law_source 0 "_law_cell" false = true := by decide +kernel
theorem g__law_source_abs : glOk (defScope s__law_source) "abs" = true := by decide +kernel
noncomputable def ir__law_source : List T.S := [.ret (.lst [.v 0, .bin .FloorDiv (.bf .abs [.v 0]) (.k (.int 2)), .k (.int 0)])]
noncomputable def f__law_source : T.FI := ⟨true, T.runDef C0 1 1 ir__law_source⟩
set_option maxHeartbeats 8000000 in
theorem ok__law_source {P : Program} {w : World} {K : PySem.W.Frag} {mg : Str → Option Value} {base : Heap} {f : Addr} {fd : FuncData} (F : Fun K "_law_source" "_law_source" s__law_source f fd) (Z : Txt K mg )  : FnOk P w K mg base CX0 (0 + 1) f fd ["_law_cell"] (T.spF K (T.runDef C0 1 1 ir__law_source)) :=
  T.def_ok' (C := C0) (body := ir__law_source) (k := 0) (N := N__law_source) F sc__law_source rfl rfl fun cdv A outer s H E hr =>
  have hu := hr.units
  (ok_seq (ok_ret (ok_lst (ok_ds (ok_v (pvs n__law_source_0)) (ok_ds (ok_bin (bin_ok _) (ok_tmp (ok_bfB abs_ok (glk g__law_source_abs) Z.abs_ bb_abs (ok_pa (ok_late (pvs n__law_source_0)) ok_pa0) (nmk g__law_source_abs) (dbk g__law_source_abs))) (ok_tmp (ok_k pe_int))) (ok_ds (ok_k pe_int) ok_ds0)))))
      ok_nil)
noncomputable abbrev s__law_next : Stmt := top 6
noncomputable abbrev N__law_next : List Str := ["_law_source_here", "_law_many", "_law_cell", "_law_number", "_law_turn"]
theorem sc__law_next : FnScope N__law_next ["_law_source_here", "_law_many"] (defScope s__law_next) := ⟨rfl, rfl, rfl, by decide +kernel, rfl, by decide +kernel, by decide +kernel⟩
theorem n__law_next_0 : slotOk (defScope s__law_next) N__law_next 0 "_law_source_here" false = true := by decide +kernel
theorem n__law_next_4 : slotOk (defScope s__law_next) N__law_next 4 "_law_turn" false = true := by decide +kernel
theorem n__law_next_3 : slotOk (defScope s__law_next) N__law_next 3 "_law_number" false = true := by decide +kernel
theorem n__law_next_2 : slotOk (defScope s__law_next) N__law_next 2 "_law_cell" false = true := by decide +kernel
theorem n__law_next_1 : slotOk (defScope s__law_next) N__law_next 1 "_law_many" false = true := by decide +kernel
theorem g__law_next__law_spun : glOk (defScope s__law_next) "_law_spun" = true := by decide +kernel
noncomputable def ir__law_next : List T.S := [.unp [2, 3, 4] (.v 0), .sub 0 [] (.k (.int 1)) (.bin .FloorDiv (.v 3) (.v 1)), .sub 0 [] (.k (.int 2)) (.bin .Add (.v 4) (.k (.int 1))), .iff (.and (.cmp .Eq (.bin .Mod (.v 2) (.k (.int 2))) (.k (.int 1))) (.cmp .Gt (.v 3) (.k (.int 0)))) [.ret (.bin .Mod (.v 3) (.v 1))] [], .ret (.call f__law_spun [.v 2, .v 4, .v 1])]
noncomputable def f__law_next : T.FI := ⟨true, T.runDef C0 2 5 ir__law_next⟩
set_option maxHeartbeats 8000000 in
theorem ok__law_next {P : Program} {w : World} {K : PySem.W.Frag} {mg : Str → Option Value} {base : Heap} {f : Addr} {fd : FuncData} (F : Fun K "_law_next" "_law_next" s__law_next f fd) (Z : Txt K mg ) (G__law_spun : FnAt P w K mg base "_law_spun" 1 ["_law_cell", "_law_turn", "_law_many"] (T.spF K f__law_spun.run)) : FnOk P w K mg base CX0 (1 + 1) f fd ["_law_source_here", "_law_many"] (T.spF K (T.runDef C0 2 5 ir__law_next)) :=
  T.def_ok' (C := C0) (body := ir__law_next) (k := 1) (N := N__law_next) F sc__law_next rfl rfl fun cdv A outer s H E hr =>
  have hu := hr.units
  (ok_seq (ok_unp rfl (ok_late (pvs n__law_next_0)) (ok_gs n__law_next_2 sc__law_next.nd (ok_gs n__law_next_3 sc__law_next.nd (ok_gs n__law_next_4 sc__law_next.nd ok_g0))))
      (ok_seq (ok_sub2 hu (pvs n__law_next_0) (ok_tmp (ok_k pe_int)) (ok_bin (bin_ok _) (ok_late (pvs n__law_next_3)) (ok_late (pvs n__law_next_1))))
      (ok_seq (ok_sub2 hu (pvs n__law_next_0) (ok_tmp (ok_k pe_int)) (ok_bin (bin_ok _) (ok_late (pvs n__law_next_4)) (ok_tmp (ok_k pe_int))))
      (ok_seq (ok_if (PW.pt (ok_andT (ok_cmp2T hu (ok_tmp (ok_bin (bin_ok _) (ok_late (pvs n__law_next_2)) (ok_tmp (ok_k pe_int)))) (ok_tmp (ok_k pe_int))) (ok_and1 (ok_cmp2T hu (ok_late (pvs n__law_next_3)) (ok_tmp (ok_k pe_int)))))) (ok_seq (ok_ret (ok_bin (bin_ok _) (ok_late (pvs n__law_next_3)) (ok_late (pvs n__law_next_1))))
      ok_nil) ok_nil)
      (ok_seq (ok_ret (ok_fn G__law_spun hr (ok_pa (ok_late (pvs n__law_next_2)) (ok_pa (ok_late (pvs n__law_next_4)) (ok_pa (ok_late (pvs n__law_next_1)) ok_pa0))) (hg := glk g__law_next__law_spun) (hdb := dbk g__law_next__law_spun)))
      ok_nil)))))
noncomputable abbrev s_edges_of : Stmt := top 1
noncomputable abbrev N_edges_of : List Str := ["widths", "first", "unit", "edges", "width"]
theorem sc_edges_of : FnScope N_edges_of ["widths", "first", "unit"] (defScope s_edges_of) := ⟨rfl, rfl, rfl, by decide +kernel, rfl, by decide +kernel, by decide +kernel⟩
theorem n_edges_of_3 : slotOk (defScope s_edges_of) N_edges_of 3 "edges" false = true := by decide +kernel
theorem n_edges_of_1 : slotOk (defScope s_edges_of) N_edges_of 1 "first" false = true := by decide +kernel
theorem n_edges_of_0 : slotOk (defScope s_edges_of) N_edges_of 0 "widths" false = true := by decide +kernel
theorem n_edges_of_4 : slotOk (defScope s_edges_of) N_edges_of 4 "width" false = true := by decide +kernel
theorem n_edges_of_2 : slotOk (defScope s_edges_of) N_edges_of 2 "unit" false = true := by decide +kernel
noncomputable def ir_edges_of : List T.S := [.asg 3 (.lst [.v 1]), .for_ (.name 4) .val [.v 0] [.ex (.mut .append 3 [] [.bin .Add (.ix (.v 3) (.neg (.k (.int 1)))) (.bin .Mult (.v 4) (.v 2))])], .ret (.v 3)]
noncomputable def f_edges_of : T.FI := ⟨true, T.runDef C0 3 5 ir_edges_of⟩
set_option maxHeartbeats 8000000 in
theorem ok_edges_of {P : Program} {w : World} {K : PySem.W.Frag} {mg : Str → Option Value} {base : Heap} {f : Addr} {fd : FuncData} (F : Fun K "edges_of" "edges_of" s_edges_of f fd) (Z : Txt K mg )  : FnOk P w K mg base CX0 (0 + 1) f fd ["widths", "first", "unit"] (T.spF K (T.runDef C0 3 5 ir_edges_of)) :=
  T.def_ok' (C := C0) (body := ir_edges_of) (k := 0) (N := N_edges_of) F sc_edges_of rfl rfl fun cdv A outer s H E hr =>
  have hu := hr.units
  (ok_seq (ok_asgs n_edges_of_3 sc_edges_of.nd (ok_lst (ok_ds (ok_v (pvs n_edges_of_1)) ok_ds0)))
      (ok_seq (ok_for PassesOwn.never rfl (le_or _ _) (hw_1 (lt_late rfl)) (ok_val (ok_late (pvs n_edges_of_0))) (ok_tn n_edges_of_4 sc_edges_of.nd)
      (ok_seq (ok_expr (ok_append (pvs n_edges_of_3) (ok_ds (ok_bin (bin_ok _) (ok_tmp (ok_ix2 hu (ok_late (pvs n_edges_of_3)) (ok_tmp (ok_neg (ok_tmp (ok_k pe_int)))))) (ok_tmp (ok_bin (bin_ok _) (ok_late (pvs n_edges_of_4)) (ok_late (pvs n_edges_of_2))))) ok_ds0)))
      ok_nil))
      (ok_seq (ok_ret (ok_mov (pvs n_edges_of_3)))
      ok_nil)))
noncomputable abbrev s__law_due : Stmt := top 7
noncomputable abbrev N__law_due : List Str := ["_law_widths", "_law_first", "_law_unit", "_law_found", "_law_width"]
theorem sc__law_due : FnScope N__law_due ["_law_widths", "_law_first", "_law_unit"] (defScope s__law_due) := ⟨rfl, rfl, rfl, by decide +kernel, rfl, by decide +kernel, by decide +kernel⟩
theorem n__law_due_3 : slotOk (defScope s__law_due) N__law_due 3 "_law_found" false = true := by decide +kernel
theorem n__law_due_1 : slotOk (defScope s__law_due) N__law_due 1 "_law_first" false = true := by decide +kernel
theorem n__law_due_0 : slotOk (defScope s__law_due) N__law_due 0 "_law_widths" false = true := by decide +kernel
theorem n__law_due_4 : slotOk (defScope s__law_due) N__law_due 4 "_law_width" false = true := by decide +kernel
theorem g__law_due_len : glOk (defScope s__law_due) "len" = true := by decide +kernel
theorem n__law_due_2 : slotOk (defScope s__law_due) N__law_due 2 "_law_unit" false = true := by decide +kernel
noncomputable def ir__law_due : List T.S := [.asg 3 (.lst [.v 1]), .for_ (.name 4) .val [.v 0] [.ex (.mut .append 3 [] [.bin .Add (.ix (.v 3) (.bin .Sub (.bf .len [.v 3]) (.k (.int 1)))) (.bin .Mult (.v 2) (.v 4))])], .ret (.v 3)]
noncomputable def f__law_due : T.FI := ⟨true, T.runDef C0 3 5 ir__law_due⟩
set_option maxHeartbeats 8000000 in
theorem ok__law_due {P : Program} {w : World} {K : PySem.W.Frag} {mg : Str → Option Value} {base : Heap} {f : Addr} {fd : FuncData} (F : Fun K "_law_due" "_law_due" s__law_due f fd) (Z : Txt K mg )  : FnOk P w K mg base CX0 (0 + 1) f fd ["_law_widths", "_law_first", "_law_unit"] (T.spF K (T.runDef C0 3 5 ir__law_due)) :=
  T.def_ok' (C := C0) (body := ir__law_due) (k := 0) (N := N__law_due) F sc__law_due rfl rfl fun cdv A outer s H E hr =>
  have hu := hr.units
  (ok_seq (ok_asgs n__law_due_3 sc__law_due.nd (ok_lst (ok_ds (ok_v (pvs n__law_due_1)) ok_ds0)))
      (ok_seq (ok_for PassesOwn.never rfl (le_or _ _) (hw_1 (lt_late rfl)) (ok_val (ok_late (pvs n__law_due_0))) (ok_tn n__law_due_4 sc__law_due.nd)
      (ok_seq (ok_expr (ok_append (pvs n__law_due_3) (ok_ds (ok_bin (bin_ok _) (ok_tmp (ok_ix2 hu (ok_late (pvs n__law_due_3)) (ok_tmp (ok_bin (bin_ok _) (ok_tmp (ok_bfB len_ok (glk g__law_due_len) Z.len_ bb_len (ok_pa (ok_late (pvs n__law_due_3)) ok_pa0) (nmk g__law_due_len) (dbk g__law_due_len))) (ok_tmp (ok_k pe_int)))))) (ok_tmp (ok_bin (bin_ok _) (ok_late (pvs n__law_due_2)) (ok_late (pvs n__law_due_4))))) ok_ds0)))
      ok_nil))
      (ok_seq (ok_ret (ok_mov (pvs n__law_due_3)))
      ok_nil)))
noncomputable abbrev s__law_same : Stmt := top 8
noncomputable abbrev N__law_same : List Str := ["_law_found", "_law_due_here", "_law_one", "_law_other"]
theorem sc__law_same : FnScope N__law_same ["_law_found", "_law_due_here"] (defScope s__law_same) := ⟨rfl, rfl, rfl, by decide +kernel, rfl, by decide +kernel, by decide +kernel⟩
theorem g__law_same_len : glOk (defScope s__law_same) "len" = true := by decide +kernel
theorem n__law_same_0 : slotOk (defScope s__law_same) N__law_same 0 "_law_found" false = true := by decide +kernel
theorem n__law_same_1 : slotOk (defScope s__law_same) N__law_same 1 "_law_due_here" false = true := by decide +kernel
theorem g__law_same_isinstance : glOk (defScope s__law_same) "isinstance" = true := by decide +kernel
theorem g__law_same_list : glOk (defScope s__law_same) "list" = true := by decide +kernel
theorem g__law_same_zip : glOk (defScope s__law_same) "zip" = true := by decide +kernel
theorem n__law_same_3 : slotOk (defScope s__law_same) N__law_same 3 "_law_other" false = true := by decide +kernel
theorem n__law_same_2 : slotOk (defScope s__law_same) N__law_same 2 "_law_one" false = true := by decide +kernel
theorem g__law_same_bool : glOk (defScope s__law_same) "bool" = true := by decide +kernel
theorem g__law_same_int : glOk (defScope s__law_same) "int" = true := by decide +kernel
noncomputable def ir__law_same : List T.S := [.iff (.or (.nt (.bf (.isi .list) [.v 0])) (.cmp .NotEq (.bf .len [.v 0]) (.bf .len [.v 1]))) [.ret (.k (.bl false))] [], .for_ (.tup [2, 3]) .zip [.v 0, .v 1] [.iff (.or (.nt (.bf (.isi .int) [.v 2])) (.or (.bf (.isi .bool) [.v 2]) (.cmp .NotEq (.v 2) (.v 3)))) [.ret (.k (.bl false))] []], .ret (.k (.bl true))]
noncomputable def f__law_same : T.FI := ⟨true, T.runDef C0 2 4 ir__law_same⟩
set_option maxHeartbeats 8000000 in
theorem ok__law_same {P : Program} {w : World} {K : PySem.W.Frag} {mg : Str → Option Value} {base : Heap} {f : Addr} {fd : FuncData} (F : Fun K "_law_same" "_law_same" s__law_same f fd) (Z : Txt K mg )  : FnOk P w K mg base CX0 (0 + 1) f fd ["_law_found", "_law_due_here"] (T.spF K (T.runDef C0 2 4 ir__law_same)) :=
  T.def_ok' (C := C0) (body := ir__law_same) (k := 0) (N := N__law_same) F sc__law_same rfl rfl fun cdv A outer s H E hr =>
  have hu := hr.units
  (ok_seq (ok_if (PW.pt (ok_orT (ok_notT (ok_tst (ok_tmp (ok_isi (t := .list) (n := "list") rfl (glk g__law_same_isinstance) Z.isinstance_ (ok_late (pvs n__law_same_0)) (pe_bltn (v := .ty "list") (glk g__law_same_list) Z.list_ b_list rfl (nmk g__law_same_list) (dbk g__law_same_list)))))) (ok_or1 (ok_cmp2T hu (ok_tmp (ok_bfB len_ok (glk g__law_same_len) Z.len_ bb_len (ok_pa (ok_late (pvs n__law_same_0)) ok_pa0) (nmk g__law_same_len) (dbk g__law_same_len))) (ok_tmp (ok_bfB len_ok (glk g__law_same_len) Z.len_ bb_len (ok_pa (ok_late (pvs n__law_same_1)) ok_pa0) (nmk g__law_same_len) (dbk g__law_same_len))))))) (ok_seq (ok_ret (ok_k pe_bl))
      ok_nil) ok_nil)
      (ok_seq (ok_for PassesOwn.never rfl (le_or _ _) (hw_2 (lt_late rfl) (lt_late rfl)) (ok_zip (glk g__law_same_zip) Z.zip_ (ok_late (pvs n__law_same_0)) (ok_late (pvs n__law_same_1))) (ok_tt rfl (ok_gs n__law_same_2 sc__law_same.nd (ok_gs n__law_same_3 sc__law_same.nd ok_g0)))
      (ok_seq (ok_if (PW.pt (ok_orT (ok_notT (ok_tst (ok_tmp (ok_isi (t := .int) (n := "int") rfl (glk g__law_same_isinstance) Z.isinstance_ (ok_late (pvs n__law_same_2)) (pe_bltn (v := .ty "int") (glk g__law_same_int) Z.int_ b_int rfl (nmk g__law_same_int) (dbk g__law_same_int)))))) (ok_orT (ok_tst (ok_tmp (ok_isi (t := .bool) (n := "bool") rfl (glk g__law_same_isinstance) Z.isinstance_ (ok_late (pvs n__law_same_2)) (pe_bltn (v := .ty "bool") (glk g__law_same_bool) Z.bool_ b_bool rfl (nmk g__law_same_bool) (dbk g__law_same_bool))))) (ok_or1 (ok_cmp2T hu (ok_late (pvs n__law_same_2)) (ok_late (pvs n__law_same_3))))))) (ok_seq (ok_ret (ok_k pe_bl))
      ok_nil) ok_nil)
      ok_nil))
      (ok_seq (ok_ret (ok_k pe_bl))
      ok_nil)))
noncomputable abbrev s_law : Stmt := top 9
noncomputable abbrev N_law : List Str := ["_law_script", "_law_source_here", "_law_first", "_law_unit", "_law_most", "_law_sources", "_law_widths", "_law_k", "_law_handed", "_law_due_here", "_law_found"]
theorem sc_law : FnScope N_law ["_law_script"] (defScope s_law) := ⟨rfl, rfl, rfl, by decide +kernel, rfl, by decide +kernel, by decide +kernel⟩
theorem n_law_1 : slotOk (defScope s_law) N_law 1 "_law_source_here" false = true := by decide +kernel
theorem g_law__law_source : glOk (defScope s_law) "_law_source" = true := by decide +kernel
theorem g_law__law_nth : glOk (defScope s_law) "_law_nth" = true := by decide +kernel
theorem n_law_0 : slotOk (defScope s_law) N_law 0 "_law_script" true = true := by decide +kernel
theorem n_law_2 : slotOk (defScope s_law) N_law 2 "_law_first" false = true := by decide +kernel
theorem n_law_3 : slotOk (defScope s_law) N_law 3 "_law_unit" false = true := by decide +kernel
theorem g_law__law_next : glOk (defScope s_law) "_law_next" = true := by decide +kernel
theorem n_law_4 : slotOk (defScope s_law) N_law 4 "_law_most" false = true := by decide +kernel
theorem n_law_5 : slotOk (defScope s_law) N_law 5 "_law_sources" false = true := by decide +kernel
theorem g_law_range : glOk (defScope s_law) "range" = true := by decide +kernel
noncomputable abbrev cs_law_c0 : Scope := { kind := .function, names := [(Str.ofString ".0", NameKind.local), (Str.ofString "_law_k", NameKind.local), (Str.ofString "_law_source", NameKind.globalImplicit), (Str.ofString "_law_nth", NameKind.globalImplicit), (Str.ofString "_law_script", NameKind.free)], isGenerator := false, isCoroutine := false, more := [] }
noncomputable abbrev N_law_c0 : List Str := ["_law_k", "_law_script"]
theorem ocs_law_c0 : compOk (defScope s_law) N_law 1 [0] N_law_c0 cs_law_c0 = true := by decide +kernel
theorem ndcs_law_c0 : N_law_c0.Nodup := by decide +kernel
theorem n_law_c0_0 : slotOk (relabelS cs_law_c0 (defScope s_law)) N_law_c0 0 "_law_k" false = true := by decide +kernel
theorem g_law_c0__law_source : glOk (relabelS cs_law_c0 (defScope s_law)) "_law_source" = true := by decide +kernel
theorem g_law_c0__law_nth : glOk (relabelS cs_law_c0 (defScope s_law)) "_law_nth" = true := by decide +kernel
theorem f_law_c0_1 : freeOk (relabelS cs_law_c0 (defScope s_law)) N_law_c0 1 "_law_script" = true := by decide +kernel
theorem w_cs_law_c0 : swapOk (defScope s_law) cs_law_c0 "_law_sources" = true := by decide +kernel
theorem n_law_6 : slotOk (defScope s_law) N_law 6 "_law_widths" false = true := by decide +kernel
theorem n_law_7 : slotOk (defScope s_law) N_law 7 "_law_k" false = true := by decide +kernel
theorem n_law_8 : slotOk (defScope s_law) N_law 8 "_law_handed" false = true := by decide +kernel
theorem g_law_list : glOk (defScope s_law) "list" = true := by decide +kernel
theorem n_law_9 : slotOk (defScope s_law) N_law 9 "_law_due_here" false = true := by decide +kernel
theorem g_law__law_due : glOk (defScope s_law) "_law_due" = true := by decide +kernel
theorem n_law_10 : slotOk (defScope s_law) N_law 10 "_law_found" false = true := by decide +kernel
theorem g_law_edges_of : glOk (defScope s_law) "edges_of" = true := by decide +kernel
theorem g_law__law_same : glOk (defScope s_law) "_law_same" = true := by decide +kernel
noncomputable def ir_law : List T.S := [.asg 1 (.call f__law_source [.call f__law_nth [.v 0, .k (.int 0)]]), .asg 2 (.bin .Add (.bin .Sub (.bin .Mod (.call f__law_nth [.v 0, .k (.int 1)]) (.bin .Sub (.bin .Mult (.k (.int 2)) (.bin .Pow (.k (.int 10)) (.k (.int 17)))) (.k (.int 1)))) (.bin .Pow (.k (.int 10)) (.k (.int 17)))) (.k (.int 1))), .asg 3 (.ix (.lst [.bin .Add (.k (.int 1)) (.bin .Mod (.call f__law_nth [.v 0, .k (.int 2)]) (.bin .Pow (.k (.int 10)) (.k (.int 12)))), .k (.int 1)]) (.bin .FloorDiv (.call f__law_next [.v 1, .k (.int 4)]) (.k (.int 3)))), .asg 4 (.ix (.lst [.k (.int 4), .bin .Pow (.k (.int 10)) (.k (.int 6))]) (.call f__law_next [.v 1, .k (.int 2)])), .asg 5 (.comp 1 [0] (.name 0) .rng1 [.k (.int 50)] [] (.call f__law_source [.call f__law_nth [.v 1, .bin .Add (.k (.int 3)) (.v 0)]])), .asg 6 (.lst []), .for_ (.name 7) .rng1 [.call f__law_next [.v 1, .k (.int 101)]] [.ex (.mut .append 6 [] [.bin .Add (.k (.int 1)) (.callE f__law_next 5 (.bin .FloorDiv (.v 7) (.k (.int 2))) [.v 4])])], .asg 8 (.bf .list [.v 6]), .asg 9 (.call f__law_due [.v 6, .v 2, .v 3]), .asg 10 (.call f_edges_of [.v 8, .v 2, .v 3]), .iff (.or (.nt (.call f__law_same [.v 10, .v 9])) (.cmp .NotEq (.v 8) (.v 6))) [.ret (.k (.bl false))] [], .ex (.mut .append 10 [] [.k (.int 0)]), .iff (.or (.nt (.call f__law_same [.call f_edges_of [.v 6, .v 2, .v 3], .v 9])) (.nt (.call f__law_same [.call f_edges_of [.lst [], .v 2, .v 3], .lst [.v 2]]))) [.ret (.k (.bl false))] [], .ret (.cmp .Eq (.v 10) (.bin .Add (.v 9) (.lst [.k (.int 0)])))]
noncomputable def f_law : T.FI := ⟨true, T.runDef C0 1 11 ir_law⟩
set_option maxHeartbeats 8000000 in
theorem ok_law {P : Program} {w : World} {K : PySem.W.Frag} {mg : Str → Option Value} {base : Heap} {f : Addr} {fd : FuncData} (F : Fun K "law" "law" s_law f fd) (Z : Txt K mg ) (G__law_source : FnAt P w K mg base "_law_source" 1 ["_law_cell"] (T.spF K f__law_source.run)) (G__law_nth : FnAt P w K mg base "_law_nth" 1 ["_law_script", "_law_k"] (T.spF K f__law_nth.run)) (G__law_next : FnAt P w K mg base "_law_next" 2 ["_law_source_here", "_law_many"] (T.spF K f__law_next.run)) (G__law_due : FnAt P w K mg base "_law_due" 1 ["_law_widths", "_law_first", "_law_unit"] (T.spF K f__law_due.run)) (G_edges_of : FnAt P w K mg base "edges_of" 1 ["widths", "first", "unit"] (T.spF K f_edges_of.run)) (G__law_same : FnAt P w K mg base "_law_same" 1 ["_law_found", "_law_due_here"] (T.spF K f__law_same.run)) : FnOk P w K mg base CX0 (2 + 1) f fd ["_law_script"] (T.spF K (T.runDef C0 1 11 ir_law)) :=
  T.def_ok' (C := C0) (body := ir_law) (k := 2) (N := N_law) F sc_law rfl rfl fun cdv A outer s H E hr =>
  have hu := hr.units
  (ok_seq (ok_asgs n_law_1 sc_law.nd (ok_fn G__law_source hr (ok_pa (ok_tmp (ok_fn G__law_nth hr (ok_pa (ok_late (pvs n_law_0)) (ok_pa (ok_tmp (ok_k pe_int)) ok_pa0)) (hg := glk g_law__law_nth) (hdb := dbk g_law__law_nth))) ok_pa0) (hg := glk g_law__law_source) (hdb := dbk g_law__law_source)))
      (ok_seq (ok_asgs n_law_2 sc_law.nd (ok_bin (bin_ok _) (ok_tmp (ok_bin (bin_ok _) (ok_tmp (ok_bin (bin_ok _) (ok_tmp (ok_fn G__law_nth hr (ok_pa (ok_late (pvs n_law_0)) (ok_pa (ok_tmp (ok_k pe_int)) ok_pa0)) (hg := glk g_law__law_nth) (hdb := dbk g_law__law_nth))) (ok_tmp (ok_bin (bin_ok _) (ok_tmp (ok_bin (bin_ok _) (ok_tmp (ok_k pe_int)) (ok_tmp (ok_bin (bin_ok _) (ok_tmp (ok_k pe_int)) (ok_tmp (ok_k pe_int)))))) (ok_tmp (ok_k pe_int)))))) (ok_tmp (ok_bin (bin_ok _) (ok_tmp (ok_k pe_int)) (ok_tmp (ok_k pe_int)))))) (ok_tmp (ok_k pe_int))))
      (ok_seq (ok_asgs n_law_3 sc_law.nd (ok_ix2 hu (ok_tmp (ok_lst (ok_ds (ok_bin (bin_ok _) (ok_tmp (ok_k pe_int)) (ok_tmp (ok_bin (bin_ok _) (ok_tmp (ok_fn G__law_nth hr (ok_pa (ok_late (pvs n_law_0)) (ok_pa (ok_tmp (ok_k pe_int)) ok_pa0)) (hg := glk g_law__law_nth) (hdb := dbk g_law__law_nth))) (ok_tmp (ok_bin (bin_ok _) (ok_tmp (ok_k pe_int)) (ok_tmp (ok_k pe_int))))))) (ok_ds (ok_k pe_int) ok_ds0)))) (ok_tmp (ok_bin (bin_ok _) (ok_tmp (ok_fn G__law_next hr (ok_pa (ok_late (pvs n_law_1)) (ok_pa (ok_tmp (ok_k pe_int)) ok_pa0)) (hg := glk g_law__law_next) (hdb := dbk g_law__law_next))) (ok_tmp (ok_k pe_int))))))
      (ok_seq (ok_asgs n_law_4 sc_law.nd (ok_ix2 hu (ok_tmp (ok_lst (ok_ds (ok_k pe_int) (ok_ds (ok_bin (bin_ok _) (ok_tmp (ok_k pe_int)) (ok_tmp (ok_k pe_int))) ok_ds0)))) (ok_tmp (ok_fn G__law_next hr (ok_pa (ok_late (pvs n_law_1)) (ok_pa (ok_tmp (ok_k pe_int)) ok_pa0)) (hg := glk g_law__law_next) (hdb := dbk g_law__law_next)))))
      (ok_seq (ok_setc n_law_5 sc_law.nd w_cs_law_c0 rfl (CompScope.of ocs_law_c0 rfl rfl) (ok_rng1 (glk g_law_range) Z.range_ (ok_tmp (ok_k pe_int))) (fun cl C s₀ H₀ ex => ⟨(ok_tn n_law_c0_0 ndcs_law_c0), ok_if0, (ok_fn G__law_source hr (ok_pa (ok_tmp (ok_fn G__law_nth hr (ok_pa (ok_late (pvf f_law_c0_1)) (ok_pa (ok_tmp (ok_bin (bin_ok _) (ok_tmp (ok_k pe_int)) (ok_late (pvs n_law_c0_0)))) ok_pa0)) (hg := glk g_law_c0__law_nth) (hdb := dbk g_law_c0__law_nth))) ok_pa0) (hg := glk g_law_c0__law_source) (hdb := dbk g_law_c0__law_source))⟩))
      (ok_seq (ok_asgs n_law_6 sc_law.nd (ok_lst ok_ds0))
      (ok_seq (ok_for PassesOwn.never rfl (le_or _ _) (hw_1 (lt_opd rfl)) (ok_rng1 (glk g_law_range) Z.range_ (ok_tmp (ok_fn G__law_next hr (ok_pa (ok_late (pvs n_law_1)) (ok_pa (ok_tmp (ok_k pe_int)) ok_pa0)) (hg := glk g_law__law_next) (hdb := dbk g_law__law_next)))) (ok_tn n_law_7 sc_law.nd)
      (ok_seq (ok_expr (ok_append (pvs n_law_6) (ok_ds (ok_bin (bin_ok _) (ok_tmp (ok_k pe_int)) (ok_tmp (ok_callE G__law_next hr (pvs n_law_5) (ok_tmp (ok_bin (bin_ok _) (ok_late (pvs n_law_7)) (ok_tmp (ok_k pe_int)))) (ok_atV (pvs n_law_4) ok_at0) (hg := glk g_law__law_next) (hdb := dbk g_law__law_next)))) ok_ds0)))
      ok_nil))
      (ok_seq (ok_asgs n_law_8 sc_law.nd (ok_bfT list_ok (glk g_law_list) Z.list_ bb_list (ok_pa (ok_late (pvs n_law_6)) ok_pa0) (nmk g_law_list) (dbk g_law_list)))
      (ok_seq (ok_asgs n_law_9 sc_law.nd (ok_fn G__law_due hr (ok_pa (ok_late (pvs n_law_6)) (ok_pa (ok_late (pvs n_law_2)) (ok_pa (ok_late (pvs n_law_3)) ok_pa0))) (hg := glk g_law__law_due) (hdb := dbk g_law__law_due)))
      (ok_seq (ok_asgs n_law_10 sc_law.nd (ok_fn G_edges_of hr (ok_pa (ok_late (pvs n_law_8)) (ok_pa (ok_late (pvs n_law_2)) (ok_pa (ok_late (pvs n_law_3)) ok_pa0))) (hg := glk g_law_edges_of) (hdb := dbk g_law_edges_of)))
      (ok_seq (ok_if (PW.pt (ok_orT (ok_notT (ok_tst (ok_tmp (ok_fn G__law_same hr (ok_pa (ok_late (pvs n_law_10)) (ok_pa (ok_late (pvs n_law_9)) ok_pa0)) (hg := glk g_law__law_same) (hdb := dbk g_law__law_same))))) (ok_or1 (ok_cmp2T hu (ok_late (pvs n_law_8)) (ok_late (pvs n_law_6)))))) (ok_seq (ok_ret (ok_k pe_bl))
      ok_nil) ok_nil)
      (ok_seq (ok_expr (ok_append (pvs n_law_10) (ok_ds (ok_k pe_int) ok_ds0)))
      (ok_seq (ok_if (PW.pt (ok_orT (ok_notT (ok_tst (ok_tmp (ok_fn G__law_same hr (ok_pa (ok_tmp (ok_fn G_edges_of hr (ok_pa (ok_late (pvs n_law_6)) (ok_pa (ok_late (pvs n_law_2)) (ok_pa (ok_late (pvs n_law_3)) ok_pa0))) (hg := glk g_law_edges_of) (hdb := dbk g_law_edges_of))) (ok_pa (ok_late (pvs n_law_9)) ok_pa0)) (hg := glk g_law__law_same) (hdb := dbk g_law__law_same))))) (ok_or1 (ok_notT (ok_tst (ok_tmp (ok_fn G__law_same hr (ok_pa (ok_tmp (ok_fn G_edges_of hr (ok_pa (ok_tmp (ok_lst ok_ds0)) (ok_pa (ok_late (pvs n_law_2)) (ok_pa (ok_late (pvs n_law_3)) ok_pa0))) (hg := glk g_law_edges_of) (hdb := dbk g_law_edges_of))) (ok_pa (ok_tmp (ok_lst (ok_ds (ok_v (pvs n_law_2)) ok_ds0))) ok_pa0)) (hg := glk g_law__law_same) (hdb := dbk g_law__law_same)))))))) (ok_seq (ok_ret (ok_k pe_bl))
      ok_nil) ok_nil)
      (ok_seq (ok_ret (ok_cmp2 hu (ok_late (pvs n_law_10)) (ok_tmp (ok_bin (bin_ok _) (ok_late (pvs n_law_9)) (ok_tmp (ok_lst (ok_ds (ok_k pe_int) ok_ds0)))))))
      ok_nil))))))))))))))
theorem all_mk {l : PySem.W.OpenLaw} {w : World} {K : PySem.W.Frag} {h : Heap} {mg : Str → Option Value} {fa a0 a1 a2 a3 a4 a5 a6 a7 : Addr} (X : K.In h) (G : h.Ns mainGlobals mg) (hfa : mg "law" = some (.ref fa))
    {od0 an0 od1 an1 od2 an2 od3 an3 od4 an4 od5 an5 od6 an6 od7 an7 : Option Addr} {sl0 sl1 sl2 sl3 sl4 sl5 sl6 sl7 : Array (Option Value)} {oc0 kV0 dc0 pm0 cd0 ct0 oc1 kV1 dc1 pm1 cd1 ct1 oc2 kV2 dc2 pm2 cd2 ct2 oc3 kV3 dc3 pm3 cd3 ct3 oc4 kV4 dc4 pm4 cd4 ct4 oc5 kV5 dc5 pm5 cd5 ct5 oc6 kV6 dc6 pm6 cd6 ct6 oc7 kV7 dc7 pm7 cd7 ct7 : Value}
    (x0 : PySem.W.nsIn K mainGlobals "_law_nth" = some (some (.ref a0))) (l0 : K.lookup a0 = some ⟨oc0, od0, .func (PySem.W.fnOf "_law_nth" "_law_nth" (defArgs s__law_nth) (defBody s__law_nth) (defScope s__law_nth) .none kV0 dc0 pm0 an0 cd0 ct0), sl0⟩) (c0 : PySem.W.codeIn K cd0 "_law_nth" = true) (k0 : PySem.W.keepIn K (.ref a0) = true)
    (x1 : PySem.W.nsIn K mainGlobals "_law_spun" = some (some (.ref a1))) (l1 : K.lookup a1 = some ⟨oc1, od1, .func (PySem.W.fnOf "_law_spun" "_law_spun" (defArgs s__law_spun) (defBody s__law_spun) (defScope s__law_spun) .none kV1 dc1 pm1 an1 cd1 ct1), sl1⟩) (c1 : PySem.W.codeIn K cd1 "_law_spun" = true) (k1 : PySem.W.keepIn K (.ref a1) = true)
    (x2 : PySem.W.nsIn K mainGlobals "_law_source" = some (some (.ref a2))) (l2 : K.lookup a2 = some ⟨oc2, od2, .func (PySem.W.fnOf "_law_source" "_law_source" (defArgs s__law_source) (defBody s__law_source) (defScope s__law_source) .none kV2 dc2 pm2 an2 cd2 ct2), sl2⟩) (c2 : PySem.W.codeIn K cd2 "_law_source" = true) (k2 : PySem.W.keepIn K (.ref a2) = true)
    (x3 : PySem.W.nsIn K mainGlobals "_law_next" = some (some (.ref a3))) (l3 : K.lookup a3 = some ⟨oc3, od3, .func (PySem.W.fnOf "_law_next" "_law_next" (defArgs s__law_next) (defBody s__law_next) (defScope s__law_next) .none kV3 dc3 pm3 an3 cd3 ct3), sl3⟩) (c3 : PySem.W.codeIn K cd3 "_law_next" = true) (k3 : PySem.W.keepIn K (.ref a3) = true)
    (x4 : PySem.W.nsIn K mainGlobals "edges_of" = some (some (.ref a4))) (l4 : K.lookup a4 = some ⟨oc4, od4, .func (PySem.W.fnOf "edges_of" "edges_of" (defArgs s_edges_of) (defBody s_edges_of) (defScope s_edges_of) .none kV4 dc4 pm4 an4 cd4 ct4), sl4⟩) (c4 : PySem.W.codeIn K cd4 "edges_of" = true) (k4 : PySem.W.keepIn K (.ref a4) = true)
    (x5 : PySem.W.nsIn K mainGlobals "_law_due" = some (some (.ref a5))) (l5 : K.lookup a5 = some ⟨oc5, od5, .func (PySem.W.fnOf "_law_due" "_law_due" (defArgs s__law_due) (defBody s__law_due) (defScope s__law_due) .none kV5 dc5 pm5 an5 cd5 ct5), sl5⟩) (c5 : PySem.W.codeIn K cd5 "_law_due" = true) (k5 : PySem.W.keepIn K (.ref a5) = true)
    (x6 : PySem.W.nsIn K mainGlobals "_law_same" = some (some (.ref a6))) (l6 : K.lookup a6 = some ⟨oc6, od6, .func (PySem.W.fnOf "_law_same" "_law_same" (defArgs s__law_same) (defBody s__law_same) (defScope s__law_same) .none kV6 dc6 pm6 an6 cd6 ct6), sl6⟩) (c6 : PySem.W.codeIn K cd6 "_law_same" = true) (k6 : PySem.W.keepIn K (.ref a6) = true)
    (x7 : PySem.W.nsIn K mainGlobals "law" = some (some (.ref a7))) (l7 : K.lookup a7 = some ⟨oc7, od7, .func (PySem.W.fnOf "law" "law" (defArgs s_law) (defBody s_law) (defScope s_law) .none kV7 dc7 pm7 an7 cd7 ct7), sl7⟩) (c7 : PySem.W.codeIn K cd7 "law" = true) (k7 : PySem.W.keepIn K (.ref a7) = true)
    (z0 : PySem.W.nsIn K mainGlobals "abs" = some none)
    (z1 : PySem.W.nsIn K mainGlobals "bool" = some none)
    (z2 : PySem.W.nsIn K mainGlobals "int" = some none)
    (z3 : PySem.W.nsIn K mainGlobals "isinstance" = some none)
    (z4 : PySem.W.nsIn K mainGlobals "len" = some none)
    (z5 : PySem.W.nsIn K mainGlobals "list" = some none)
    (z6 : PySem.W.nsIn K mainGlobals "range" = some none)
    (z7 : PySem.W.nsIn K mainGlobals "zip" = some none)
    : ∃ fd : FuncData, (∀ (s : Shared) (v : Value), BindsTo s fd ⟨[v], []⟩ [("_law_script", v)]) ∧ ∀ base : Heap, K.In base → base.Ns mainGlobals mg → FnOk l.prog w K mg base CX0 3 fa fd ["_law_script"] (T.spF K f_law.run) := by
  have e := hfa.symm.trans (PySem.W.mg_of X G x7)
  cases e
  have Z : Txt K mg  := ⟨PySem.W.mg_none_of X G z0, PySem.W.mg_none_of X G z1, PySem.W.mg_none_of X G z2, PySem.W.mg_none_of X G z3, PySem.W.mg_none_of X G z4, PySem.W.mg_none_of X G z5, PySem.W.mg_none_of X G z6, PySem.W.mg_none_of X G z7⟩
  have F0 := fun_mk (st := s__law_nth) l0 c0 k0
  have b0 := F0.binds (ps := ["_law_script", "_law_k"]) fun _ _ _ _ _ _ us hl => match us, hl with | [_, _], _ => rfl
  have F1 := fun_mk (st := s__law_spun) l1 c1 k1
  have b1 := F1.binds (ps := ["_law_cell", "_law_turn", "_law_many"]) fun _ _ _ _ _ _ us hl => match us, hl with | [_, _, _], _ => rfl
  have F2 := fun_mk (st := s__law_source) l2 c2 k2
  have b2 := F2.binds (ps := ["_law_cell"]) fun _ _ _ _ _ _ us hl => match us, hl with | [_], _ => rfl
  have F3 := fun_mk (st := s__law_next) l3 c3 k3
  have b3 := F3.binds (ps := ["_law_source_here", "_law_many"]) fun _ _ _ _ _ _ us hl => match us, hl with | [_, _], _ => rfl
  have F4 := fun_mk (st := s_edges_of) l4 c4 k4
  have b4 := F4.binds (ps := ["widths", "first", "unit"]) fun _ _ _ _ _ _ us hl => match us, hl with | [_, _, _], _ => rfl
  have F5 := fun_mk (st := s__law_due) l5 c5 k5
  have b5 := F5.binds (ps := ["_law_widths", "_law_first", "_law_unit"]) fun _ _ _ _ _ _ us hl => match us, hl with | [_, _, _], _ => rfl
  have F6 := fun_mk (st := s__law_same) l6 c6 k6
  have b6 := F6.binds (ps := ["_law_found", "_law_due_here"]) fun _ _ _ _ _ _ us hl => match us, hl with | [_, _], _ => rfl
  have F7 := fun_mk (st := s_law) l7 c7 k7
  refine ⟨PySem.W.fnOf "law" "law" (defArgs s_law) (defBody s_law) (defScope s_law) .none kV7 dc7 pm7 an7 cd7 ct7, fun s v => .of_eq rfl, fun base _ _ => ?_⟩
  have G__law_nth : FnAt l.prog w K mg base "_law_nth" 1 ["_law_script", "_law_k"] (T.spF K f__law_nth.run) := ⟨_, _, ok__law_nth (P := l.prog) (w := w) (base := base) F0 Z , PySem.W.mg_of X G x0, k0, b0⟩
  have G__law_spun : FnAt l.prog w K mg base "_law_spun" 1 ["_law_cell", "_law_turn", "_law_many"] (T.spF K f__law_spun.run) := ⟨_, _, ok__law_spun (P := l.prog) (w := w) (base := base) F1 Z , PySem.W.mg_of X G x1, k1, b1⟩
  have G__law_source : FnAt l.prog w K mg base "_law_source" 1 ["_law_cell"] (T.spF K f__law_source.run) := ⟨_, _, ok__law_source (P := l.prog) (w := w) (base := base) F2 Z , PySem.W.mg_of X G x2, k2, b2⟩
  have G__law_next : FnAt l.prog w K mg base "_law_next" 2 ["_law_source_here", "_law_many"] (T.spF K f__law_next.run) := ⟨_, _, ok__law_next (P := l.prog) (w := w) (base := base) F3 Z G__law_spun, PySem.W.mg_of X G x3, k3, b3⟩
  have G_edges_of : FnAt l.prog w K mg base "edges_of" 1 ["widths", "first", "unit"] (T.spF K f_edges_of.run) := ⟨_, _, ok_edges_of (P := l.prog) (w := w) (base := base) F4 Z , PySem.W.mg_of X G x4, k4, b4⟩
  have G__law_due : FnAt l.prog w K mg base "_law_due" 1 ["_law_widths", "_law_first", "_law_unit"] (T.spF K f__law_due.run) := ⟨_, _, ok__law_due (P := l.prog) (w := w) (base := base) F5 Z , PySem.W.mg_of X G x5, k5, b5⟩
  have G__law_same : FnAt l.prog w K mg base "_law_same" 1 ["_law_found", "_law_due_here"] (T.spF K f__law_same.run) := ⟨_, _, ok__law_same (P := l.prog) (w := w) (base := base) F6 Z , PySem.W.mg_of X G x6, k6, b6⟩
  exact ok_law (P := l.prog) (w := w) (base := base) F7 Z G__law_source G__law_nth G__law_next G__law_due G_edges_of G__law_same
end
local macro_rules | `(tactic| walk_at "ev") => `(tactic| simp only [bndA, bndR_ok, retA, liftA, ite_app, opd_v, lateA, atR_sc, atR_nd, viewA, vwR_sc, vwR_f, vwR_t, view_sc, view_nd, valA, vlR_sc, movA, mvR_sc, mvR_nd, takeL, takeT, tkR_sc, tkR_f, tkR_t, takes0, takes1, giveL, giveT, gvR_sc, gvR_nd, gvR_h, gives0, gives1, views0, views1, callA, cfR_ok, exs1, exs0, seqR_nx, seqR_rt, forR_nx, forR_rt, e_k, o_k, e_bin, o_bin, e_neg, o_neg, e_cmp, t_cmp, t_nt, t_and, t_or, e_ix, o_ix, e_sl, o_sl, e_lst, o_lst, e_call, t_call, o_call, e_bf, t_bf, o_bf, e_compE, e_cE, o_cE, e_v, e_append, opds0, opds1, evs0, evs1, tsts0, x_asg, x_unp, x_sub, x_ex, x_ret, x_iff, x_for_, ret_v, r_k, r_bin, r_cmp, r_lst, r_call, b_add, b_sub, c_gt2, c_eqi2, c_nei2, boolA, neg_i, tru_b, len_l, abs_i, list_l, part_v, part_b, intp, sl_f, unp_l, asgs0, asgs1, asgt_n, asgn, holds0, holds1, hold_l, hdR_t, hold_s, hold_n, giveH0, giveH1, it_l, modA, appM1, chkA, ckR_l, ix_l, shrL, shr, walked, C0, scr, List.getElem?_cons_zero, List.getElem?_cons_succ, List.set_cons_zero, List.set_cons_succ, List.length_cons, List.length_nil, Option.map_some, Option.bind_some, Option.toList_none, Option.toList_some, List.nil_append, List.append_nil, List.cons_append, List.map_cons, List.map_nil, if_true, if_false, Bool.false_eq_true, Bool.and_true, Bool.true_and, Bool.or_true, Bool.true_or, Bool.or_false, Bool.false_or, Bool.not_false, Bool.not_true, decide_true, decide_false, Nat.reduceLT, Nat.reduceAdd, Nat.reduceLeDiff, beq_self_eq_true, Nat.reduceBEq, Bool.and_false, Bool.false_and, reduceCtorEq, ite_true, ite_false])
noncomputable abbrev I (i : Int) : D := .sc (.int i)
noncomputable abbrev Ls (o : Bool) (xs : List Int) : D := .node .lst o (dI xs)
theorem nth_run (ns : List Int) (k : Nat) : f__law_nth.run [scr ns, I k] = .ok (I (ns.getD k 0), [scr ns, I k]) := by
  show runDef C0 2 3 ir__law_nth [scr ns, I k] = _
  rw [runA (show [scr ns, I k].length = 2 from rfl)]
  unfold ir__law_nth
  simp only [List.replicate, Nat.reduceSub]
  have hc := cut_ints ns (some (k : Int)) (some ((k : Int) + 1))
  rw [cutI_one] at hc
  (rw [List.getD_eq_getElem?_getD])
  cases h : ns[k]? with
  | none =>
    rw [h] at hc
    repeat (first | walk_at "ev" | simp only [hc, forL0])
    rfl
  | some x =>
    rw [h] at hc
    repeat (first | walk_at "ev" | simp only [hc, forL1])
    rfl
theorem spun_run (c t m : Int) (hm : 0 < m) : ∃ r, 0 ≤ r ∧ r < m ∧ f__law_spun.run [I c, I t, I m] = .ok (I r, [I c, I t, I m]) := by
  have e1 : ∀ a : Int, binW .Mod (.sc (.int a)) (.sc (.int 2305843009213693951)) = some (.sc (.int (a % 2305843009213693951))) := fun a => b_mod _ _ (by decide)
  have e2 : ∀ a : Int, binW .Mult (.sc (.int (a % 2305843009213693951 + 977))) (.sc (.int (2 * t + 30011))) = some (.sc (.int ((a % 2305843009213693951 + 977) * (2 * t + 30011)))) := fun a => b_mul _ _ (.inl (by omega))
  have e3 : binW .Mult (.sc (.int 2)) (.sc (.int t)) = some (.sc (.int (2 * t))) := b_mul _ _ (.inl (by decide))
  have e4 : ∀ a : Int, binW .FloorDiv (.sc (.int a)) (.sc (.int 65537)) = some (.sc (.int (a / 65537))) := fun a => b_div _ _ (by decide)
  have e5 : ∀ a : Int, binW .Mod (.sc (.int a)) (.sc (.int 65537)) = some (.sc (.int (a % 65537))) := fun a => b_mod _ _ (by decide)
  have e6 : ∀ a : Int, binW .Mult (.sc (.int (a % 65537))) (.sc (.int (t + 5))) = some (.sc (.int (a % 65537 * (t + 5)))) := fun a => b_mul _ _ (.inl (by omega))
  have e7 : ∀ a : Int, binW .Mod (.sc (.int a)) (.sc (.int 1000003)) = some (.sc (.int (a % 1000003))) := fun a => b_mod _ _ (by decide)
  have e8 : ∀ a : Int, binW .Mult (.sc (.int (a % 1000003))) (.sc (.int 1000003)) = some (.sc (.int (a % 1000003 * 1000003))) := fun a => b_mul _ _ (.inr (by decide))
  have e9 : ∀ a : Int, binW .FloorDiv (.sc (.int a)) (.sc (.int 97)) = some (.sc (.int (a / 97))) := fun a => b_div _ _ (by decide)
  show ∃ r, 0 ≤ r ∧ r < m ∧ runDef C0 3 4 ir__law_spun [I c, I t, I m] = _
  rw [runA (show [I c, I t, I m].length = 3 from rfl)]
  unfold ir__law_spun
  simp only [List.replicate, Nat.reduceSub]
  repeat (first | walk_at "ev" | simp only [e1, e2, e3, e4, e5, e6, e7, e8, e9, b_mod _ _ hm])
  exact ⟨_, Int.emod_nonneg _ (by omega), Int.emod_lt_of_pos _ hm, rfl⟩
theorem source_run (c : Int) : ∃ n, f__law_source.run [I c] = .ok (D.node .lst true [I c, I n, I 0], [I c]) := by
  show ∃ n, runDef C0 1 1 ir__law_source [I c] = _
  rw [runA (show [I c].length = 1 from rfl)]
  unfold ir__law_source
  simp only [List.replicate, Nat.reduceSub]
  have e1 : ∀ a : Int, binW .FloorDiv (.sc (.int a)) (.sc (.int 2)) = some (.sc (.int (a / 2))) := fun a => b_div _ _ (by decide)
  have hz : (3 : Nat) ≤ sizeLine := by rw [szl]; decide
  repeat (first | walk_at "ev" | simp only [e1])
  rw [newL_eq _ (by simpa using hz)]
  walk_at "ev"
  exact ⟨_, rfl⟩
theorem next_run (c n t m : Int) (hm : 0 < m) (h2 : m < 1073741824) : ∃ r n' t', 0 ≤ r ∧ r < m ∧ f__law_next.run [D.node .lst true [I c, I n, I t], I m] = .ok (I r, [D.node .lst true [I c, I n', I t'], I m]) := by
  obtain ⟨r, hr1, hr2, hr⟩ := spun_run c t m hm
  show ∃ r n' t', 0 ≤ r ∧ r < m ∧ runDef C0 2 5 ir__law_next [D.node .lst true [I c, I n, I t], I m] = _
  rw [runA (show [D.node .lst true [I c, I n, I t], I m].length = 2 from rfl)]
  unfold ir__law_next
  simp only [List.replicate, Nat.reduceSub]
  have l1 : f__law_spun.lend = true := rfl
  have e1 : ∀ a : Int, binW .FloorDiv (.sc (.int a)) (.sc (.int m)) = some (.sc (.int (a / m))) := fun a => b_div _ _ ⟨hm, h2⟩
  have e2 : ∀ a : Int, binW .Mod (.sc (.int a)) (.sc (.int 2)) = some (.sc (.int (a % 2))) := fun a => b_mod _ _ (by decide)
  have i1 : ixN' 3 1 = some 1 := rfl
  have i2 : ixN' 3 2 = some 2 := rfl
  have s1 : ∀ (i : Nat) (δ : List D) (d a b e : D), mdR i δ (setD2 (.sc (.int 1)) d) (some (.node .lst true [a, b, e])) = .ok (.sc .non, δ.set i (.node .lst true [a, d, e])) := fun i δ d a b e => md_set i δ d _ 1 1 rfl
  have s2 : ∀ (i : Nat) (δ : List D) (d a b e : D), mdR i δ (setD2 (.sc (.int 2)) d) (some (.node .lst true [a, b, e])) = .ok (.sc .non, δ.set i (.node .lst true [a, b, d])) := fun i δ d a b e => md_set i δ d _ 2 2 rfl
  by_cases h : c % 2 = 1
  · by_cases hn : 0 < n
    · repeat (first | walk_at "ev" | simp only [e1, e2, s1, s2, h, hn, V.int.injEq, b_mod _ _ hm])
      exact ⟨_, _, _, Int.emod_nonneg _ (by omega), Int.emod_lt_of_pos _ hm, rfl⟩
    · repeat (first | walk_at "ev" | simp only [e1, e2, s1, s2, h, hn, V.int.injEq, b_mod _ _ hm, l1, hr])
      exact ⟨_, _, _, hr1, hr2, rfl⟩
  · repeat (first | walk_at "ev" | simp only [e1, e2, s1, s2, h, V.int.injEq, b_mod _ _ hm, l1, hr])
    exact ⟨_, _, _, hr1, hr2, rfl⟩
theorem ty_ii (i : Int) : tyW .int (.sc (.int i)) = some true := (rfl)
theorem ty_bi (i : Int) : tyW .bool (.sc (.int i)) = some false := (rfl)
theorem isi_i (w : W) : bfW (.isi .int) [w] = (tyW .int w).map fun b => .sc (.bl b) := (rfl)
theorem isi_b (w : W) : bfW (.isi .bool) [w] = (tyW .bool w).map fun b => .sc (.bl b) := (rfl)
theorem isi_l (w : W) : bfW (.isi .list) [w] = (tyW .list w).map fun b => .sc (.bl b) := (rfl)
theorem ty_ll (ds : List D) : tyW .list (.nd .lst ds) = some true := (rfl)
theorem c_nel (xs ys : List Int) : cmpW2 .NotEq (.nd .lst (dI xs)) (.nd .lst (dI ys)) = some (!decide (xs = ys)) := by
  have := c_eql xs ys
  have e : ∀ x y, cmpW2 .NotEq x y = (cmpW2 .Eq x y).map (!·) := fun _ _ => rfl
  rw [e, this]
  rfl
noncomputable def edg (l u : Int) : List Int → List Int
  | [] => [l]
  | w :: ws => l :: edg (l + w * u) u ws
theorem edg_len (u : Int) : ∀ (ws : List Int) (l : Int), (edg l u ws).length = ws.length + 1
  | [], _ => rfl
  | w :: ws, l => by rw [edg, List.length_cons, edg_len u ws, List.length_cons]
theorem ixI_end (pre : List Int) (l : Int) : ((ixN' (dI (pre ++ [l])).length (-1)).bind fun j => (dI (pre ++ [l]))[j]?) = some (.sc (.int l)) := by
  have e : ixN' (dI (pre ++ [l])).length (-1) = some pre.length := by
    rw [dI_len, List.length_append, List.length_singleton]
    unfold ixN'
    rw [if_neg (by decide), if_pos (by omega)]
    congr 1
    omega
  rw [e]
  show (dI (pre ++ [l]))[pre.length]? = _
  rw [List.getElem?_map, List.getElem?_append_right (Nat.le_refl _)]
  simp
theorem ixI_end2 (pre : List Int) (l : Int) : ((ixN' (dI (pre ++ [l])).length (((dI (pre ++ [l])).length : Int) - 1)).bind fun j => (dI (pre ++ [l]))[j]?) = some (.sc (.int l)) := by
  have e : ixN' (dI (pre ++ [l])).length (((dI (pre ++ [l])).length : Int) - 1) = some pre.length := by
    rw [dI_len, List.length_append, List.length_singleton]
    unfold ixN'
    rw [if_pos (by omega), if_pos (by omega)]
    congr 1
    omega
  rw [e]
  show (dI (pre ++ [l]))[pre.length]? = _
  rw [List.getElem?_map, List.getElem?_append_right (Nat.le_refl _)]
  simp
theorem edges_loop (lk : Nat → Bool) (fok : Addr → Str → Bool) (fuel : Nat) (h3 : lk 3 = false) (h4 : lk 4 = false) (w0 : D) (f u : Int) : ∀ (ws pre : List Int) (l : Int) (a : D), pre.length + ws.length ≤ 1000 → (∀ w ∈ ws, 0 ≤ w ∧ w < 2 ^ 64) → ∃ a',
    forL (asgT lk (.name 4)) (exs ⟨lk, fok, fuel⟩ [.ex (.mut .append 3 [] [.bin .Add (.ix (.v 3) (.neg (.k (.int 1)))) (.bin .Mult (.v 4) (.v 2))])]) (dI ws) [w0, I f, I u, Ls true (pre ++ [l]), a] = .ok (.nx, [w0, I f, I u, Ls true (pre ++ edg l u ws), a']) := by
  intro ws
  induction ws with
  | nil => exact fun pre l a _ _ => ⟨a, rfl⟩
  | cons w ws ih =>
    intro pre l a hl hw
    rw [List.length_cons] at hl
    obtain ⟨a', ih⟩ := ih (pre ++ [l]) (l + w * u) (I w) (by rw [List.length_append, List.length_singleton]; omega) (fun x hx => hw x (List.mem_cons_of_mem _ hx))
    refine ⟨a', ?_⟩
    rw [edg, show pre ++ l :: edg (l + w * u) u ws = (pre ++ [l]) ++ edg (l + w * u) u ws by rw [List.append_assoc]; rfl, ← ih, dI_cons, forL1]
    have hb : 0 ≤ w ∧ w < 2 ^ 64 := hw w (by simp)
    have hm : binW .Mult (.sc (.int w)) (.sc (.int u)) = some (.sc (.int (w * u))) := b_mul _ _ (.inl ⟨by omega, hb.2⟩)
    have hx := ixI_end pre l
    have hz : (dI (pre ++ [l])).length < sizeLine := by rw [dI_len, List.length_append, List.length_singleton, szl]; omega
    have ha := fun (δ : List D) (d : D) => md_app 3 δ d (dI (pre ++ [l])) hz
    have e1 : dI (pre ++ [l]) ++ [I (l + w * u)] = dI ((pre ++ [l]) ++ [l + w * u]) := (dI_app (pre ++ [l]) [l + w * u]).symm
    repeat (first | walk_at "ev" | simp only [h3, h4, hm, hx, ha, shr_ints, e1])
theorem due_loop (lk : Nat → Bool) (fok : Addr → Str → Bool) (fuel : Nat) (h3 : lk 3 = false) (h4 : lk 4 = false) (w0 : D) (f u : Int) : ∀ (ws pre : List Int) (l : Int) (a : D), pre.length + ws.length ≤ 1000 → (∀ w ∈ ws, 0 ≤ w ∧ w < 2 ^ 64) → ∃ a',
    forL (asgT lk (.name 4)) (exs ⟨lk, fok, fuel⟩ [.ex (.mut .append 3 [] [.bin .Add (.ix (.v 3) (.bin .Sub (.bf .len [.v 3]) (.k (.int 1)))) (.bin .Mult (.v 2) (.v 4))])]) (dI ws) [w0, I f, I u, Ls true (pre ++ [l]), a] = .ok (.nx, [w0, I f, I u, Ls true (pre ++ edg l u ws), a']) := by
  intro ws
  induction ws with
  | nil => exact fun pre l a _ _ => ⟨a, rfl⟩
  | cons w ws ih =>
    intro pre l a hl hw
    rw [List.length_cons] at hl
    obtain ⟨a', ih⟩ := ih (pre ++ [l]) (l + w * u) (I w) (by rw [List.length_append, List.length_singleton]; omega) (fun x hx => hw x (List.mem_cons_of_mem _ hx))
    refine ⟨a', ?_⟩
    rw [edg, show pre ++ l :: edg (l + w * u) u ws = (pre ++ [l]) ++ edg (l + w * u) u ws by rw [List.append_assoc]; rfl, ← ih, dI_cons, forL1]
    have hb : 0 ≤ w ∧ w < 2 ^ 64 := hw w (by simp)
    have hm : binW .Mult (.sc (.int u)) (.sc (.int w)) = some (.sc (.int (w * u))) := by
      rw [b_mul _ _ (.inr ⟨by omega, hb.2⟩), Int.mul_comm]
    have hx := ixI_end2 pre l
    have hz : (dI (pre ++ [l])).length < sizeLine := by rw [dI_len, List.length_append, List.length_singleton, szl]; omega
    have ha := fun (δ : List D) (d : D) => md_app 3 δ d (dI (pre ++ [l])) hz
    have e1 : dI (pre ++ [l]) ++ [I (l + w * u)] = dI ((pre ++ [l]) ++ [l + w * u]) := (dI_app (pre ++ [l]) [l + w * u]).symm
    repeat (first | walk_at "ev" | simp only [h3, h4, hm, hx, ha, shr_ints, e1])
theorem edges_run (f u : Int) (ws : List Int) (hl : ws.length ≤ 900) (hw : ∀ w ∈ ws, 0 ≤ w ∧ w < 2 ^ 64) : f_edges_of.run [Ls true ws, I f, I u] = .ok (Ls true (edg f u ws), [Ls true ws, I f, I u]) := by
  rw [show f_edges_of.run = runDef C0 3 5 ir_edges_of from rfl]
  rw [runA (show [Ls true ws, I f, I u].length = 3 from rfl)]
  unfold ir_edges_of
  simp only [List.replicate, Nat.reduceSub]
  have z1 : (1 : Nat) ≤ sizeLine := by rw [szl]; decide
  have hn : ∀ d : D, newL [d] = some (.node .lst true [d]) := fun d => newL_eq _ (by simpa using z1)
  obtain ⟨a', hf⟩ := edges_loop (fun j => (fun i => decide (i < 3)) j || walked [.v 0] j) (fun _ _ => false) 0 rfl rfl .hole f u ws [] f .hole (by rw [List.length_nil]; omega) hw
  rw [List.nil_append, List.nil_append] at hf
  simp only [walked, Bool.or_false] at hf
  have hi : ∀ ds : List D, itW .val [.nd .lst ds] = some ds := fun _ => rfl
  have e1 : D.node .lst true [I f] = Ls true [f] := rfl
  (repeat (first | walk_at "ev" | simp only [hn, hi, shr_ints, e1, hf])) <;> rfl
theorem due_run (f u : Int) (ws : List Int) (hl : ws.length ≤ 900) (hw : ∀ w ∈ ws, 0 ≤ w ∧ w < 2 ^ 64) : f__law_due.run [Ls true ws, I f, I u] = .ok (Ls true (edg f u ws), [Ls true ws, I f, I u]) := by
  rw [show f__law_due.run = runDef C0 3 5 ir__law_due from rfl]
  rw [runA (show [Ls true ws, I f, I u].length = 3 from rfl)]
  unfold ir__law_due
  simp only [List.replicate, Nat.reduceSub]
  have z1 : (1 : Nat) ≤ sizeLine := by rw [szl]; decide
  have hn : ∀ d : D, newL [d] = some (.node .lst true [d]) := fun d => newL_eq _ (by simpa using z1)
  obtain ⟨a', hf⟩ := due_loop (fun j => (fun i => decide (i < 3)) j || walked [.v 0] j) (fun _ _ => false) 0 rfl rfl .hole f u ws [] f .hole (by rw [List.length_nil]; omega) hw
  rw [List.nil_append, List.nil_append] at hf
  simp only [walked, Bool.or_false] at hf
  have hi : ∀ ds : List D, itW .val [.nd .lst ds] = some ds := fun _ => rfl
  have e1 : D.node .lst true [I f] = Ls true [f] := rfl
  (repeat (first | walk_at "ev" | simp only [hn, hi, shr_ints, e1, hf])) <;> rfl
theorem zip_self (x : Int) (xs : List Int) : zipD (dI (x :: xs)) (dI (x :: xs)) = .node .tup false [I x, I x] :: zipD (dI xs) (dI xs) := (rfl)
theorem same_loop (lk : Nat → Bool) (fok : Addr → Str → Bool) (fuel : Nat) (h2 : lk 2 = false) (h3 : lk 3 = false) (x0 y0 : D) : ∀ (xs : List Int) (a b : D), ∃ a' b',
    forL (asgT lk (.tup [2, 3])) (exs ⟨lk, fok, fuel⟩ [.iff (.or (.nt (.bf (.isi .int) [.v 2])) (.or (.bf (.isi .bool) [.v 2]) (.cmp .NotEq (.v 2) (.v 3)))) [.ret (.k (.bl false))] []]) (zipD (dI xs) (dI xs)) [x0, y0, a, b] = .ok (.nx, [x0, y0, a', b']) := by
  intro xs
  induction xs with
  | nil => exact fun a b => ⟨a, b, rfl⟩
  | cons x xs ih =>
    intro a b
    obtain ⟨a', b', ih⟩ := ih (I x) (I x)
    refine ⟨a', b', ?_⟩
    rw [← ih, zip_self, forL1]
    have hd : decide (V.int x = V.int x) = true := decide_eq_true rfl
    repeat (first | walk_at "ev" | simp only [h2, h3, asgt_t, isi_i, isi_b, ty_ii, ty_bi, hd])
theorem same_run (xs : List Int) : f__law_same.run [Ls true xs, Ls true xs] = .ok (.sc (.bl true), [Ls true xs, Ls true xs]) := by
  rw [show f__law_same.run = runDef C0 2 4 ir__law_same from rfl]
  rw [runA (show [Ls true xs, Ls true xs].length = 2 from rfl)]
  unfold ir__law_same
  simp only [List.replicate, Nat.reduceSub]
  obtain ⟨a', b', hf⟩ := same_loop (fun j => (fun i => decide (i < 2)) j || walked [.v 0, .v 1] j) (fun _ _ => false) 0 rfl rfl .hole .hole xs .hole .hole
  simp only [walked, Bool.or_false] at hf
  have hi : ∀ ds es : List D, itW .zip [.nd .lst ds, .nd .lst es] = some (zipD ds es) := fun _ _ => rfl
  have hd : ∀ n : Nat, decide (V.int n = V.int n) = true := fun n => decide_eq_true rfl
  (repeat (first | walk_at "ev" | simp only [hi, shr_ints, hf, isi_l, ty_ll, hd])) <;> rfl
noncomputable abbrev Src (c n t : Int) : D := .node .lst true [I c, I n, I t]
noncomputable def AllSrc (ds : List D) : Prop := ∀ d ∈ ds, ∃ c n t, d = Src c n t
theorem src_loop (lk : Nat → Bool) (fok : Addr → Str → Bool) (fuel : Nat) (h0 : lk 0 = false) (ns : List Int) : ∀ (n i : Nat) (acc : List D) (a : D), AllSrc acc → ∃ (ds : List D) (a' : D), ds.length = acc.length + n ∧ AllSrc ds ∧
    compL (asgT lk (.name 0)) (tsts ⟨lk, fok, fuel⟩ []) (evb ⟨lk, fok, fuel⟩ (.call f__law_source [.call f__law_nth [.v 1, .bin .Add (.k (.int 3)) (.v 0)]])).1 (dI (rngI i n)) acc [a, scr ns] = .ok (ds, [a', scr ns]) := by
  intro n
  induction n with
  | zero => exact fun i acc a ha => ⟨acc, a, rfl, ha, rfl⟩
  | succ n ih =>
    intro i acc a ha
    have hr := nth_run ns (3 + i)
    have e3 : ((3 + i : Nat) : Int) = 3 + (i : Int) := by omega
    rw [e3] at hr
    generalize ns.getD (3 + i) 0 = c at hr
    obtain ⟨n0, hs0⟩ := source_run c
    obtain ⟨ds, a', hy, hs, ih⟩ := ih (i + 1) (acc ++ [Src c n0 0]) (I i) (fun y hy => by
      rcases List.mem_append.mp hy with h | h
      · exact ha y h
      · rw [List.mem_singleton.mp h]; exact ⟨c, n0, 0, rfl⟩)
    refine ⟨ds, a', by rw [hy, List.length_append, List.length_singleton]; omega, hs, ?_⟩
    have e1 : ((i + 1 : Nat) : Int) = (i : Int) + 1 := by omega
    rw [e1] at ih
    rw [← ih, rngI, dI_cons, compL1]
    have l1 : f__law_nth.lend = true := rfl
    have l2 : f__law_source.lend = true := rfl
    simp only [scr] at hr
    repeat (first | walk_at "ev" | simp only [h0, l1, l2, hr, hs0])
theorem widths_loop (lk : Nat → Bool) (fok : Addr → Str → Bool) (fuel : Nat) (h5 : lk 5 = false) (h6 : lk 6 = false) (h7 : lk 7 = false) (s s1 f u h8 h9 h10 : D) (m : Int) (hm : 0 < m) (hm2 : m < 1073741824) : ∀ (n i : Nat) (ds : List D) (ws : List Int) (a : D), i + n ≤ 100 → ds.length = 50 → AllSrc ds → ws.length + n ≤ 200 → (∀ w ∈ ws, 0 ≤ w ∧ w < 2 ^ 64) → ∃ (ds' : List D) (ws' : List Int) (a' : D), ws'.length ≤ 200 ∧ (∀ w ∈ ws', 0 ≤ w ∧ w < 2 ^ 64) ∧
    forL (asgT lk (.name 7)) (exs ⟨lk, fok, fuel⟩ [.ex (.mut .append 6 [] [.bin .Add (.k (.int 1)) (.callE f__law_next 5 (.bin .FloorDiv (.v 7) (.k (.int 2))) [.v 4])])]) (dI (rngI i n)) [s, s1, f, u, I m, .node .lst true ds, Ls true ws, a, h8, h9, h10] = .ok (.nx, [s, s1, f, u, I m, .node .lst true ds', Ls true ws', a', h8, h9, h10]) := by
  intro n
  induction n with
  | zero => exact fun i ds ws a _ _ _ hl hw => ⟨ds, ws, a, by omega, hw, rfl⟩
  | succ n ih =>
    intro i ds ws a hi hds hsrc hl hw
    have hj : i / 2 < ds.length := by omega
    obtain ⟨c, n0, t0, hc⟩ := hsrc ds[i / 2] (List.getElem_mem hj)
    obtain ⟨r, n1, t1, q1, q2, hn⟩ := next_run c n0 t0 m hm hm2
    obtain ⟨ds', ws', a', g1, g2, ih⟩ := ih (i + 1) (ds.set (i / 2) (Src c n1 t1)) (ws ++ [1 + r]) (I i) (by omega) (by rw [List.length_set]; exact hds) (fun d hd => by
      rcases List.mem_or_eq_of_mem_set hd with h | h
      · exact hsrc d h
      · exact ⟨c, n1, t1, h⟩) (by rw [List.length_append, List.length_singleton]; omega) (fun w hm' => by
      rcases List.mem_append.mp hm' with h | h
      · exact hw w h
      · rw [List.mem_singleton.mp h]; omega)
    refine ⟨ds', ws', a', g1, g2, ?_⟩
    have e1 : ((i + 1 : Nat) : Int) = (i : Int) + 1 := by omega
    rw [e1] at ih
    rw [← ih, rngI, dI_cons, forL1]
    have hd : ∀ k : Int, binW .FloorDiv (.sc (.int k)) (.sc (.int 2)) = some (.sc (.int (k / 2))) := fun k => b_div _ _ (by decide)
    have hx : ixN' ds.length ((i : Int) / 2) = some (i / 2) := by
      have := ixN_nat ds.length (i / 2) hj
      rwa [show ((i / 2 : Nat) : Int) = (i : Int) / 2 by omega] at this
    have hcall : ∀ a6 a7 : D, callC f__law_next 5 [.v 4] (.sc (.int ((i : Int) / 2))) [s, s1, f, u, I m, .node .lst true ds, a6, a7, h8, h9, h10] = .ok (I r, [s, s1, f, u, I m, .node .lst true (ds.set (i / 2) (Src c n1 t1)), a6, a7, h8, h9, h10]) := fun a6 a7 => by
      rw [cE_ok f__law_next 5 [.v 4] _ _ ds [.int m] (i / 2) (Src c n0 t0) rfl rfl hx (by rw [List.getElem?_eq_getElem hj, hc])]
      show callR 5 (i / 2) ds _ (f__law_next.run [Src c n0 t0, I m]) = _
      rw [hn]
      rfl
    have hz : (dI ws).length < sizeLine := by rw [dI_len, szl]; omega
    have ha := fun (δ : List D) (d : D) => md_app 6 δ d (dI ws) hz
    have e2 : dI ws ++ [I (1 + r)] = dI (ws ++ [1 + r]) := (dI_app ws [1 + r]).symm
    repeat (first | walk_at "ev" | simp only [h5, h6, h7, hd, hcall, ha, e2])
theorem law_true (ns : List Int) (h : ns.length ≤ 63) : ∃ ds', f_law.run [scr ns] = .ok (.sc (.bl true), ds') := by
  have n0 : f__law_nth.run [scr ns, I 0] = .ok (I (ns.getD 0 0), [scr ns, I 0]) := nth_run ns 0
  have n1 : f__law_nth.run [scr ns, I 1] = .ok (I (ns.getD 1 0), [scr ns, I 1]) := nth_run ns 1
  have n2 : f__law_nth.run [scr ns, I 2] = .ok (I (ns.getD 2 0), [scr ns, I 2]) := nth_run ns 2
  generalize ns.getD 0 0 = w0 at n0
  generalize ns.getD 1 0 = w1 at n1
  generalize ns.getD 2 0 = w2 at n2
  obtain ⟨c0, hs0⟩ := source_run w0
  obtain ⟨r4, c1, t1, q1, q2, x1⟩ := next_run w0 c0 0 4 (by decide) (by decide)
  obtain ⟨r2, c2, t2, q3, q4, x2⟩ := next_run w0 c1 t1 2 (by decide) (by decide)
  obtain ⟨rn, c3, t3, q5, q6, x3⟩ := next_run w0 c2 t2 101 (by decide) (by decide)
  have hp17 : binW .Pow (.sc (.int 10)) (.sc (.int 17)) = some (.sc (.int 100000000000000000)) := by kernel_rfl
  have hp12 : binW .Pow (.sc (.int 10)) (.sc (.int 12)) = some (.sc (.int 1000000000000)) := by kernel_rfl
  have hp6 : binW .Pow (.sc (.int 10)) (.sc (.int 6)) = some (.sc (.int 1000000)) := by kernel_rfl
  have hmul : binW .Mult (.sc (.int 2)) (.sc (.int 100000000000000000)) = some (.sc (.int 200000000000000000)) := by kernel_rfl
  have hmod1 : ∀ a : Int, binW .Mod (.sc (.int a)) (.sc (.int (200000000000000000 - 1))) = some (.sc (.int (a % (200000000000000000 - 1)))) := fun a => b_mod _ _ (by decide)
  have hmod2 : ∀ a : Int, binW .Mod (.sc (.int a)) (.sc (.int 1000000000000)) = some (.sc (.int (a % 1000000000000))) := fun a => b_mod _ _ (by decide)
  have hdiv : ∀ a : Int, binW .FloorDiv (.sc (.int a)) (.sc (.int 3)) = some (.sc (.int (a / 3))) := fun a => b_div _ _ (by decide)
  obtain ⟨u, hu⟩ : ∃ u : Int, ((ixN' 2 (r4 / 3)).bind fun j => [D.sc (.int (1 + w2 % 1000000000000)), D.sc (.int 1)][j]?) = some (.sc (.int u)) := by
    rcases (show r4 / 3 = 0 ∨ r4 / 3 = 1 by omega) with e | e <;> rw [e] <;> exact ⟨_, rfl⟩
  obtain ⟨m, hm0, hm1, hm⟩ : ∃ m : Int, 0 < m ∧ m < 1073741824 ∧ ((ixN' 2 r2).bind fun j => [D.sc (.int 4), D.sc (.int 1000000)][j]?) = some (.sc (.int m)) := by
    rcases (show r2 = 0 ∨ r2 = 1 by omega) with e | e <;> rw [e] <;> exact ⟨_, by decide, by decide, rfl⟩
  obtain ⟨ds, a0, hdl, hsrc, hcomp⟩ := src_loop (fun i => decide (1 ≤ i)) (fun _ _ => false) 0 rfl ns 50 0 [] .hole (fun d hd => by simp at hd)
  rw [List.length_nil, Nat.zero_add] at hdl
  have hcm : ∀ b1 b2 b3 b4 b5 b6 b7 b8 b9 b10 : D, compM 1 [0] (compE (fun _ _ => false) 0 1 (.name 0) [] (.call f__law_source [.call f__law_nth [.v 1, .bin .Add (.k (.int 3)) (.v 0)]]) (dI (rngI 0 50)) []) [scr ns, b1, b2, b3, b4, b5, b6, b7, b8, b9, b10] = .ok (.node .lst true ds, [scr ns, b1, b2, b3, b4, b5, b6, b7, b8, b9, b10]) := fun b1 b2 b3 b4 b5 b6 b7 b8 b9 b10 => by
    replace hcomp : compE (fun _ _ => false) 0 1 (.name 0) [] (.call f__law_source [.call f__law_nth [.v 1, .bin .Add (.k (.int 3)) (.v 0)]]) (dI (rngI 0 50)) [] [.hole, scr ns] = _ := hcomp
    rw [compM_ok (js := [0]) (caps := [scr ns]) (δ1 := [.hole, b1, b2, b3, b4, b5, b6, b7, b8, b9, b10]) rfl hcomp (by rw [hdl, szl]; decide)]
    rfl
  have hit50 : itW .rng1 [.sc (.int 50)] = some (dI (rngI 0 50)) := it_r1 50 (by decide)
  have hitn : itW .rng1 [.sc (.int rn)] = some (dI (rngI 0 rn.toNat)) := it_r1 rn (by omega)
  have k1 : f__law_nth.lend = true := rfl
  have k2 : f__law_source.lend = true := rfl
  have k3 : f__law_next.lend = true := rfl
  have k4 : f_edges_of.lend = true := rfl
  have k5 : f__law_due.lend = true := rfl
  have k6 : f__law_same.lend = true := rfl
  have z0 : newL [] = some (.node .lst true []) := newL_eq _ (by simp)
  have z1 : ∀ a : D, newL [a] = some (.node .lst true [a]) := fun a => newL_eq _ (by rw [szl]; simp)
  have z2 : ∀ a b : D, newL [a, b] = some (.node .lst true [a, b]) := fun a b => newL_eq _ (by rw [szl]; simp)
  generalize hf0 : w1 % (200000000000000000 - 1) - 100000000000000000 + 1 = f
  obtain ⟨ds', ws, a', g1, g2, hwl⟩ := widths_loop (fun j => decide (j < 1)) (fun _ _ => false) 0 rfl rfl rfl (D.node .frl false (ns.map fun i => D.sc (.int i))) (Src w0 c3 t3) (I f) (I u) .hole .hole .hole m hm0 hm1 rn.toNat 0 ds [] .hole (by omega) hdl hsrc (by simp; omega) (fun w hw => by simp at hw)
  have e0 : ((0 : Nat) : Int) = 0 := rfl
  rw [e0] at hwl
  have rd := due_run f u ws (by omega) g2
  have re := edges_run f u ws (by omega) g2
  have r0 := edges_run f u [] (by decide) (fun w hw => by simp at hw)
  have hE := edg_len u ws f
  generalize edg f u ws = es at rd re hE
  have rs := same_run es
  have rs0 := same_run [f]
  have hc1 : cmpW2 .NotEq (.nd .lst (dI ws)) (.nd .lst (dI ws)) = some false := by rw [c_nel]; simp
  have hz : (dI es).length < sizeLine := by rw [dI_len, szl]; omega
  have ha := fun (δ : List D) (d : D) => md_app 10 δ d (dI es) hz
  have hcat : binW .Add (.nd .lst (dI es)) (.nd .lst [.sc (.int 0)]) = some (.node .lst true (dI es ++ [.sc (.int 0)])) := b_cat _ _ (by rw [List.length_append, dI_len, szl]; simp; omega)
  have e2 : dI es ++ [D.sc (.int 0)] = dI (es ++ [0]) := (dI_app es [0]).symm
  have hc2 : cmpW2 .Eq (.nd .lst (dI (es ++ [0]))) (.nd .lst (dI (es ++ [0]))) = some true := by rw [c_eql]; simp
  show ∃ ds', runDef C0 1 11 ir_law [scr ns] = .ok (.sc (.bl true), ds')
  rw [runA (show [scr ns].length = 1 from rfl)]
  unfold ir_law
  simp only [List.replicate, Nat.reduceSub]
  simp only [scr] at hcm n0 n1 n2
  have e3 : D.node .lst true [] = Ls true [] := rfl
  have e4 : D.node .lst true [I f] = Ls true [f] := rfl
  have r0' : f_edges_of.run [Ls true [], I f, I u] = .ok (Ls true [f], [Ls true [], I f, I u]) := r0
  repeat (first | walk_at "ev" | simp only [k1, k2, k3, k4, k5, k6, n0, n1, n2, hs0, x1, x2, x3, hp17, hp12, hp6, hmul, hmod1, hmod2, hdiv, hu, hm, hcm, hit50, hitn, z0, z1, z2, hf0, hwl, rd, re, r0', rs, rs0, hc1, ha, hcat, e2, e3, e4, hc2, shr_ints])
  exact ⟨_, rfl⟩
end My
open PySem PySem.W PyProof.Rows
set_option maxRecDepth 100000 in
set_option maxHeartbeats 0 in
theorem PySem.Challenge.cw_barlabel_k40_edges_holds : PySem.Challenge.rw_barlabel_k40_edges.Holds := by
  w_on; o_law; k_head; (case hw => w_witness2)
  k_fill
  refine T.law_walk (l := PySem.Challenge.rw_barlabel_k40_edges) (k := 3) (x := "_law_script") (R := fun _ => My.f_law.run) rfl rfl ⟨rfl, by decide, by decide⟩ (fun w h Y => PySem.W.kIn_of Y) ?F (fun _ ns hl => My.law_true ns hl)
  case F =>
    intro w mg fa h KX G hmg
    refine' My.all_mk KX G hmg ?x0 ?l0 ?c0 ?k0 ?x1 ?l1 ?c1 ?k1 ?x2 ?l2 ?c2 ?k2 ?x3 ?l3 ?c3 ?k3 ?x4 ?l4 ?c4 ?k4 ?x5 ?l5 ?c5 ?k5 ?x6 ?l6 ?c6 ?k6 ?x7 ?l7 ?c7 ?k7 ?z0 ?z1 ?z2 ?z3 ?z4 ?z5 ?z6 ?z7
    (case x0 => k_is); (case l0 => k_is); (case c0 => k_is); (case k0 => k_is); (case x1 => k_is); (case l1 => k_is)
    (case c1 => k_is); (case k1 => k_is); (case x2 => k_is); (case l2 => k_is); (case c2 => k_is); (case k2 => k_is)
    (case x3 => k_is); (case l3 => k_is); (case c3 => k_is); (case k3 => k_is); (case x4 => k_is); (case l4 => k_is)
    (case c4 => k_is); (case k4 => k_is); (case x5 => k_is); (case l5 => k_is); (case c5 => k_is); (case k5 => k_is)
    (case x6 => k_is); (case l6 => k_is); (case c6 => k_is); (case k6 => k_is); (case x7 => k_is); (case l7 => k_is)
    (case c7 => k_is); (case k7 => k_is); (case z0 => k_is); (case z1 => k_is); (case z2 => k_is); (case z3 => k_is)
    (case z4 => k_is); (case z5 => k_is); (case z6 => k_is); (case z7 => k_is)
