import PyProof.Rows.All
import Wide.All
import OpenK.AllK
import Wide.FinOn
import Lean
import PyProof.EqAt
import PyProof.EqKinds
import PyProof.TupleCall
import PySem.Challenge.RW_barlabel_k44_whole_printed_spoilt_mended
set_option Elab.async false
set_option compiler.extract_closed false
set_option linter.all false
set_option maxRecDepth 100000
set_option maxHeartbeats 4100000
abbrev Pn := List (PySem.Addr × PySem.Obj)
abbrev VS := PySem.Value -> PySem.Shared -> Prop
abbrev SO := PySem.Str -> Option PySem.Value
abbrev Fg := PySem.W.Frag
namespace PySem.W.Fast
def tw12101243681616366955 := ()
def tw1640335023415926099 := ()
def tw2521897264645388736 := ()
def tw10552231289715743674 := ()
def tw6595809597859268782 := ()
def tw4250248404536612947 := ()
def tw9117536500182101330 := ()
def tw4957387404384804472 := ()
def tw2815556777309236286 := ()
def tw1904584993651109287 := ()
def tw9297298325783224391 := ()
def tw5193638807825214073 := ()
def tw15391058280861733749 := ()
def tw6722421715293361217 := ()
def tw13820334546416047333 := ()
def tw6090580895777783601 := ()
def tw15392119277561315187 := ()
def tw10997731239066759727 := ()
def tw13355653911295165037 := ()
def tw8821141075608420908 := ()
def tw9217388760784672070 := ()
def tw14973958389389015262 := ()
def tw5707921685389564202 := ()
def tw13232464795469019615 := ()
def tw3403263106630116192 := ()
def tw11102096291683725535 := ()
def tw17536472664943762746 := ()
def tw6839528054936074520 := ()
def tw3300626903592501393 := ()
def tw2465983451453389963 := ()
def tw13320245038870985116 := ()
def tw12021317447296052428 := ()
def tw8242003042454818247 := ()
def tw15962801693361722540 := ()
def tw5577559979697699199 := ()
def tw18365588371023097476 := ()
def tw6559807706625214103 := ()
def tw8780182591043924278 := ()
def tw18261327897652315385 := ()
def tw7555799978272573849 := ()
def tw10803607451563397767 := ()
def tw1898292607860168096 := ()
def tw1803708003816790593 := ()
def tw14058062706230206912 := ()
def tw7297991326147558431 := ()
def tw15394035126412392930 := ()
def tw12809524209781028815 := ()
def tw16060407045473875733 := ()
def tw685841457123181354 := ()
def tw10779578331607751496 := ()
def tw4705237024191409152 := ()
def tw8027267562332654531 := ()
def tw15045700767874459159 := ()
def tw5996606369437939679 := ()
def tw4617768668021913166 := ()
def tw1030686212738189074 := ()
def tw11554413171042617810 := ()
def tw6100337512336741150 := ()
def tw628458161925043051 := ()
def tw7562154309110221098 := ()
def tw5257942360780268844 := ()
def tw13588362548969112068 := ()
def tw2399712026935905206 := ()
def tw16225275761691877634 := ()
def tw14787456676538970558 := ()
def tw10819771229305800968 := ()
def tw7767930286094827884 := ()
def tw2065749459123025237 := ()
def tw7226984418949450741 := ()
def tw11911329654860671136 := ()
def tw139430393577855574 := ()
def tw14315028558443298728 := ()
def tw11641860258007340606 := ()
def tw14137308637272586974 := ()
def tw15744765309885738557 := ()
def tw190971759377730101 := ()
def tw6092864631954308783 := ()
def tw7410643295586271807 := ()
def tw9929105457716041424 := ()
def tw8309142140575625081 := ()
def tw2800861288812992266 := ()
def tw6887123764424170448 := ()
def tw15643995866505435285 := ()
def tw17219010264297213327 := ()
def tw8956706403320463559 := ()
def tw15067197158396129621 := ()
def tw8851690600970037711 := ()
def tw3790728250266123751 := ()
def tw11090033160193039550 := ()
def tw11618777711728923466 := ()
def tw17875680296993998270 := ()
def tw5571189420347415343 := ()
def tw8789721716034884995 := ()
def tw13379998004556504650 := ()
def tw14152822192214438232 := ()
def tw689509041961427411 := ()
def tw4944396953617434278 := ()
def tw7676653066730337960 := ()
def tw99894610625993751 := ()
def tw6007086064626673738 := ()
def tw13645555133231318564 := ()
def tw8365817251194125483 := ()
def tw9092128111786445849 := ()
def tw10460512998488352478 := ()
def tw4465901821417716807 := ()
def tw15781884974076686005 := ()
def tw602093212595571101 := ()
def tw466214511427942913 := ()
def tw3913456099392215326 := ()
def tw987714739485456892 := ()
def tw1974114952286844534 := ()
def tw1069012529652807549 := ()
def tw8009147985255289741 := ()
def tw6031979172662868711 := ()
def tw15135508689213446596 := ()
def tw2229828580821894612 := ()
def tw7370129443414125381 := ()
def tw17476692205317710744 := ()
def tw3941246818728712336 := ()
def tw8713682900811683494 := ()
def tw12603039417891745300 := ()
def tw11053520030101249411 := ()
def tw11528474534373947054 := ()
def tw10219926217356771967 := ()
def tw567688336026163680 := ()
def tw16174136960768904129 := ()
def tw3163639804151759665 := ()
def tw8323254348213452050 := ()
def tw1968272631190265087 := ()
def tw15060294640347134569 := ()
def tw16556648329576451832 := ()
def tw71327108123694266 := ()
def tw17989758754901706984 := ()
def tw5826615194587612646 := ()
def tw4904035087998663174 := ()
def tw9525661873599416092 := ()
def tw13208246482373860095 := ()
def tw17164855938583131427 := ()
def tw2242327582897875398 := ()
def tw2677677988003669993 := ()
def tw7539008960987032134 := ()
def tw14969706779756227435 := ()
def tw279968698633752759 := ()
def tw2907817279726744446 := ()
def tw1309395865789537550 := ()
def tw17329265929949831466 := ()
def tw12001116482338388485 := ()
def tw16617274296632794277 := ()
def tw4209492419457990144 := ()
def tw2900951721456709569 := ()
def tw9529509151609832515 := ()
def tw9300725838697012455 := ()
def tw2293941768023504258 := ()
def tw3475591654365708048 := ()
def tw17714727932853190736 := ()
def tw2345637931216325265 := ()
def tw17066516143570928957 := ()
def tw3047606720011057109 := ()
def tw11449875427578072930 := ()
def tw1071686517598969799 := ()
def tw5186100709351893080 := ()
def tw10632375442018485162 := ()
def tw1338025849957069930 := ()
def tw279378862059003980 := ()
def tw17635550652296235046 := ()
def tw12329020393904228394 := ()
def tw6223341544388231475 := ()
def tw16210449915297052007 := ()
def tw12731236516433641692 := ()
def tw3556666336867483137 := ()
def tw2642619419143568671 := ()
def tw17052958823900979661 := ()
def tw14465616358138863025 := ()
def tw8973445506462225075 := ()
def tw8186070218455329201 := ()
def tw10985859128307903696 := ()
end PySem.W.Fast
namespace L2
open PySem PySem.Spec PyProof.Rows
noncomputable abbrev Key := Sum Int Str
noncomputable def ZdI : Key -> Value -> Bool
 | .inl k, v => Value.isInt k v
 | .inr x, v => Value.isStrOf x v
noncomputable def keyH (w : World) : Key -> Int
 | .inl k => hashInt k
 | .inr x => hashStr w x
theorem ZU : ∀ {k : Key} {v : Value}, ZdI k v = true -> (∃ i t, k = Sum.inl i /\ v = Value.int i t) \/ (∃ x t, k = Sum.inr x /\ v = Value.str x t)
 | .inl i, v, h => by
  obtain ⟨t, e⟩ := Value.isInt_shape (k := i) (v := v) h
  exact .inl ⟨i, t, rfl, e⟩
 | .inr x, v, h => by
  obtain ⟨t, e⟩ := Value.isStrOf_shape (x := x) (v := v) h
  exact .inr ⟨x, t, rfl, e⟩
theorem Zi4 (i : Int) (t : Tok) : ZdI (.inl i) (.int i t) = true := by simp [ZdI, Value.isInt]
theorem Zi5 (x : Str) (t : Tok) : ZdI (.inr x) (.str x t) = true := by simp [ZdI, Value.isStrOf]
theorem ZmM (a b : Int) : decide ((Sum.inl a : Key) = Sum.inl b) = (a == b) := by
 by_cases e : a = b
 . subst e; simp
 . have h : ¬ (Sum.inl a : Key) = Sum.inl b := fun q => e (Sum.inl.inj q)
   rw [decide_eq_false h]
   exact (beq_eq_false_iff_ne.mpr e).symm
theorem ZmN (a b : Str) : decide ((Sum.inr a : Key) = Sum.inr b) = decide (a = b) := by
 by_cases e : a = b
 . subst e; simp
 . have h : ¬ (Sum.inr a : Key) = Sum.inr b := fun q => e (Sum.inr.inj q)
   rw [decide_eq_false h, decide_eq_false e]
theorem ZmO (a : Int) (b : Str) : decide ((Sum.inl a : Key) = Sum.inr b) = false := decide_eq_false (fun q => nomatch q)
theorem ZmP (a : Str) (b : Int) : decide ((Sum.inr a : Key) = Sum.inl b) = false := decide_eq_false (fun q => nomatch q)
noncomputable def ZM (prog : Program) (w : World) : PySem.KeyKind prog w Key where
 is := ZdI
 hash := keyH w
 inj := fun v a b ha hb => by
  rcases ZU ha with ⟨i, t, rfl, rfl⟩ | ⟨x, t, rfl, rfl⟩
  . rcases ZU hb with ⟨j, u, rfl, e⟩ | ⟨y, u, rfl, e⟩
    . injection e with e1 _; rw [e1]
    . exact nomatch e
  . rcases ZU hb with ⟨j, u, rfl, e⟩ | ⟨y, u, rfl, e⟩
    . exact nomatch e
    . injection e with e1 _; rw [e1]
 byValue := fun k v h => by
  rcases ZU h with ⟨i, t, rfl, rfl⟩ | ⟨x, t, rfl, rfl⟩ <;> rfl
 pyHash := fun hv h => by
  rcases ZU hv with ⟨i, t, rfl, rfl⟩ | ⟨x, t, rfl, rfl⟩
  . exact wpAny_pyHash_int h
  . exact wpAny_pyHash_str h
 eqBool := fun hu hv h => by
  rcases ZU hu with ⟨i, t, rfl, rfl⟩ | ⟨x, t, rfl, rfl⟩
  . rcases ZU hv with ⟨j, u, rfl, rfl⟩ | ⟨y, u, rfl, rfl⟩
    . rw [ZmM] at h; exact wpAny_eqBool_int h
    . rw [ZmO] at h; exact SeqAt.EqAt.int_str i t y u _ _ _ _ h
  . rcases ZU hv with ⟨j, u, rfl, rfl⟩ | ⟨y, u, rfl, rfl⟩
    . rw [ZmP] at h; exact SeqAt.EqAt.str_int x t j u _ _ _ _ h
    . rw [ZmN] at h; exact wpAny_eqBool_str h
 «strs» := fun k x t v h => by
  rcases ZU h with ⟨i, u, rfl, e⟩ | ⟨y, u, rfl, e⟩
  . exact nomatch e
  . injection e with e1 _
    subst e1
    cases v <;> rfl
theorem Zhg (prog : Program) (w : World) (i : Int) (t : Tok) : (ZM prog w).is (.inl i) (.int i t) = true := Zi4 i t
theorem Zhh (prog : Program) (w : World) (x : Str) (t : Tok) : (ZM prog w).is (.inr x) (.str x t) = true := Zi5 x t
inductive V where
 | non | bl (b : Bool) | int (i : Int) | str (x : Str) | byt (b : Array UInt8) | flt (b : UInt64) | ref (a : Addr) | ty (n : String)
 deriving DecidableEq
def RelV : V -> Value -> Prop
 | .non, u => u = Value.none
 | .bl b, u => u = Value.bool b
 | .int i, u => ∃ t, u = Value.int i t
 | .str x, u => ∃ t, u = Value.str x t
 | .byt b, u => ∃ t, u = Value.bytes b t
 | .flt b, u => ∃ t, u = Value.float b t
 | .ref a, u => u = Value.ref a
 | .ty n, u => u = Value.type n
abbrev Vals : List V -> List Value -> Prop := Paired RelV
theorem Vals.length {xs : List V} {us : List Value} (r : Vals xs us) : xs.length = us.length := Paired.length r
theorem Vals.get : ∀ {xs : List V} {us : List Value} {i : Nat} {x : V}, Vals xs us -> xs[i]? = some x -> ∃ u, us[i]? = some u /\ RelV x u
 | _, _, _, _, .nil, e => by simp at e
 | _, _, 0, _, .cons r _, e => by simp at e; subst e; exact ⟨_, rfl, r⟩
 | _, _, i + 1, x, .cons _ t, e => by
  obtain ⟨u, h1, h2⟩ := Vals.get (i := i) (x := x) t (by simpa using e)
  exact ⟨u, by simpa using h1, h2⟩
theorem Vals.set {x : V} {u : Value} (r : RelV x u) : ∀ {xs : List V} {us : List Value} (i : Nat), Vals xs us -> Vals (xs.set i x) (us.set i u)
 | _, _, _, .nil => .nil
 | _, _, 0, .cons _ t => .cons r t
 | _, _, i + 1, .cons q t => .cons q (Vals.set r i t)
theorem Vals.append : ∀ {xs ys : List V} {us ws : List Value}, Vals xs us -> Vals ys ws -> Vals (xs ++ ys) (us ++ ws)
 | _, _, _, _, .nil, s => s
 | _, _, _, _, .cons r t, s => .cons r (Vals.append t s)
theorem Vals.take : ∀ {xs : List V} {us : List Value} (n : Nat), Vals xs us -> Vals (xs.take n) (us.take n)
 | _, _, 0, _ => .nil
 | _, _, _ + 1, .nil => .nil
 | _, _, n + 1, .cons r t => .cons r (Vals.take n t)
theorem Vals.drop : ∀ {xs : List V} {us : List Value} (n : Nat), Vals xs us -> Vals (xs.drop n) (us.drop n)
 | _, _, 0, r => r
 | _, _, _ + 1, .nil => .nil
 | _, _, n + 1, .cons _ t => Vals.drop n t
def RelO : Option V -> Option Value -> Prop
 | some v, some u => RelV v u
 | none, none => True
 | _, _ => False
def KV {κ : Type} : List (κ × V) -> List (κ × Value) -> Prop := Paired fun (p : κ × V) (q : κ × Value) => p.1 = q.1 /\ RelV p.2 q.2
noncomputable def kV : Key -> V
 | .inl i => .int i
 | .inr x => .str x
inductive HO where
 | lst (xs : List V)
 | tup (xs : List V)
 | dK (kvs : List (Key × V)) | dT (kvs : List (List Key × V))
 | set (S : Int -> Bool) (n : Nat)
 | ins (C dx : Addr) (fs : List (Str × V))
 | own (x : Addr)
 | xd (fs : List (Str × V))
 | met (f x : Addr)
 | rng (lo hi : Int)
 | frz (o : Obj) (u : HO)
 | tbl (ps : Array Value)
 | ext (φ : Heap -> Prop)
noncomputable abbrev Hp := Addr -> Option HO
noncomputable def upd (H : Hp) (a : Addr) (o : HO) : Hp := fun b => if b = a then some o else H b
theorem Zm {H : Hp} {a : Addr} {o : HO} : upd H a o a = some o := by unfold upd; rw [if_pos rfl]
theorem Zq {H : Hp} {a b : Addr} {o : HO} (h : b ≠ a) : upd H a o b = H b := by unfold upd; rw [if_neg h]
theorem Zpc {H : Hp} {a b : Addr} {o u : HO} (h : H a = some o) (h' : H b = some u) (d : o ≠ u) : a ≠ b := by
 intro e; subst e; rw [h] at h'; exact d (Option.some.inj h')
theorem ZaM {H : Hp} {a b : Addr} {o : HO} (h : H a = some o) (h' : H b = none) : a ≠ b := by
 intro e; subst e; rw [h] at h'; cases h'
section
variable (P : Program) (w : World)
def Z5 (H : Hp) (h : Heap) (a : Addr) : HO -> Prop
 | .lst xs => xs.length <= sizeLine /\ ∃ (its : List Value) (n : Nat), Vals xs its /\ h.get? a = some { cls := .type "list", data := .seq its.toArray n }
 | .tup xs => xs.length <= sizeLine /\ ∃ its : List Value, Vals xs its /\ IsTup h a its.toArray
 | .dK kvs => kvs.length <= sizeLine /\ (a == sysModules) = false /\ ∃ vs, KV kvs vs /\ h.DictOf (ZM P w) a vs
 | .dT kvs => kvs.length <= sizeLine /\ (a == sysModules) = false /\ ∃ xs : List (List Key × Addr × Value),
  Paired (fun (p : List Key × V) (q : List Key × Addr × Value) => p.1 = q.1 /\ H q.2.1 = some (.tup (p.1.map kV)) /\ RelV p.2 q.2.2) kvs xs /\
  ∃ o es ep, h.get? a = some o /\ o.ExactDict /\ o.data = .dict es ep /\ es.toList = xs.map (entryOfKey (tupleKind (ZM P w))) /\ (xs.map (·.1)).Nodup
 | .set S n => h.SetOf (intKind P w) a S n
 | .ins C dx fs => H dx = some (.own a) /\ fs.length <= 1000 /\ dx ≠ a /\ h.get? a = some (PySem.W.instObj C dx) /\
  ∃ mA, h.Ns1 dx mA /\ (∀ f, RelO (fs.lookup f) (mA f)) /\ PySem.Within mA (fs.map (·.1))
 | .own _ => ∃ o, h.get? a = some o
 | .xd fs => ∃ mA, h.Ns1 a mA /\ ∀ f, RelO (fs.lookup f) (mA f)
 | .rng lo hi => ∃ t u v, h.get? a = some { cls := .type "range", data := .fields #[.int lo t, .int hi u, .int 1 v] }
 | .frz o u => h.get? a = some o /\ Z5 H h a u
 | .tbl ps => h.get? a = some { cls := .none, data := .fields ps }
 | .met f x => h.get? a = some (PySem.W.methodObj (.ref f) (.ref x))
 | .ext φ => φ h /\ (∃ o, h.get? a = some o) /\ ∀ h1 h2 : Heap, φ h1 -> (∀ o, h1.get? a = some o -> h2.get? a = some o) -> φ h2
def HOk (H : Hp) (h : Heap) : Prop := ∀ a o, H a = some o -> Z5 P w H h a o
end
section
variable {P : Program} {w : World} {H H' : Hp} {h h' : Heap} {a : Addr} {o : HO}
theorem Z5.lt (x : Z5 P w H h a o) : a < h.objs.size := by
 cases o with
 | lst xs => obtain ⟨_, _, _, _, e⟩ := x; exact Heap.lt_size e
 | tup xs => obtain ⟨_, _, _, p⟩ := x; exact p.lt
 | dK kvs => obtain ⟨_, _, _, _, o, _, _, e, _⟩ := x; exact Heap.lt_size e
 | dT kvs => obtain ⟨_, _, _, _, o, _, _, e, _⟩ := x; exact Heap.lt_size e
 | set S n => obtain ⟨o, _, _, _, e, _⟩ := x; exact Heap.lt_size e
 | ins C dx fs => obtain ⟨_, _, _, e, _⟩ := x; exact Heap.lt_size e
 | own y => obtain ⟨_, e⟩ := x; exact Heap.lt_size e
 | xd fs => obtain ⟨_, ⟨_, _, _, e, _⟩, _⟩ := x; exact Heap.lt_size e
 | rng lo hi => obtain ⟨_, _, _, e⟩ := x; exact Heap.lt_size e
 | frz ob u => obtain ⟨e, _⟩ := x; exact Heap.lt_size e
 | tbl ps => exact Heap.lt_size (show h.get? a = some _ from x)
 | met f y => exact Heap.lt_size (show h.get? a = some _ from x)
 | ext φ => obtain ⟨_, ⟨_, e⟩, _⟩ := x; exact Heap.lt_size e
theorem Paired.mapP {α β : Type} {F G : α -> β -> Prop} : ∀ {l₁ : List α} {l₂ : List β}, Paired F l₁ l₂ -> (∀ a b, F a b -> G a b) -> Paired G l₁ l₂
 | _, _, .nil, _ => .nil
 | _, _, .cons r t, f => .cons (f _ _ r) (Paired.mapP t f)
theorem Z5.stay (x : Z5 P w H h a o) (k : ∀ b u, (b = a \/ H b = some (.own a)) -> h.get? b = some u -> h'.get? b = some u)
 (ho : ∀ b, H b = some (.own a) -> H' b = some (.own a)) (ht : ∀ b xs, H b = some (.tup xs) -> H' b = some (.tup xs)) : Z5 P w H' h' a o := by
 induction o with
 | lst xs => obtain ⟨z, its, n, r, e⟩ := x; exact ⟨z, its, n, r, k _ _ (.inl rfl) e⟩
 | tup xs => obtain ⟨z, its, r, ob, e, c⟩ := x; exact ⟨z, its, r, ob, k _ _ (.inl rfl) e, c⟩
 | dK kvs => obtain ⟨z, y, vs, r, ob, es, ep, e, c⟩ := x; exact ⟨z, y, vs, r, ob, es, ep, k _ _ (.inl rfl) e, c⟩
 | dT kvs =>
  obtain ⟨z, y, xs, r, ob, es, ep, e, c⟩ := x
  exact ⟨z, y, xs, Paired.mapP r fun p q z => ⟨z.1, ht _ _ z.2.1, z.2.2⟩, ob, es, ep, k _ _ (.inl rfl) e, c⟩
 | set S n => obtain ⟨ob, es, ep, t, e, c⟩ := x; exact ⟨ob, es, ep, t, k _ _ (.inl rfl) e, c⟩
 | ins C dx fs =>
  obtain ⟨d, z, ne, e, mA, ⟨od, es, ep, e2, c⟩, r⟩ := x
  exact ⟨ho _ d, z, ne, k _ _ (.inl rfl) e, mA, ⟨od, es, ep, k _ _ (.inr d) e2, c⟩, r⟩
 | own y => obtain ⟨ob, e⟩ := x; exact ⟨ob, k _ _ (.inl rfl) e⟩
 | xd fs => obtain ⟨mA, ⟨od, es, ep, e, c⟩, r⟩ := x; exact ⟨mA, ⟨od, es, ep, k _ _ (.inl rfl) e, c⟩, r⟩
 | rng lo hi => obtain ⟨t, u, v, e⟩ := x; exact ⟨t, u, v, k _ _ (.inl rfl) e⟩
 | frz ob u ih => obtain ⟨e, q⟩ := x; exact ⟨k _ _ (.inl rfl) e, ih q⟩
 | tbl ps =>
  have e : h.get? a = some { cls := .none, data := .fields ps } := x
  show h'.get? a = some { cls := .none, data := .fields ps }
  exact k a _ (.inl rfl) e
 | met f y =>
  have e : h.get? a = some (PySem.W.methodObj (.ref f) (.ref y)) := x
  show h'.get? a = some (PySem.W.methodObj (.ref f) (.ref y))
  exact k a _ (.inl rfl) e
 | ext φ => obtain ⟨p, ⟨o, e⟩, st⟩ := x; exact ⟨st _ _ p fun o q => k _ _ (.inl rfl) q, ⟨o, k _ _ (.inl rfl) e⟩, st⟩
theorem HOk.lt (x : HOk P w H h) (e : H a = some o) : a < h.objs.size := (x a o e).lt
theorem HOk.fresh (x : HOk P w H h) (e : h.objs.size <= a) : H a = none := by
 cases q : H a with
 | none => rfl
 | some u => exact absurd (Nat.lt_of_lt_of_le (x.lt q) e) (Nat.lt_irrefl _)
theorem HOk.kept (x : HOk P w H h) (k : ∀ b u, h.get? b = some u -> h'.get? b = some u) : HOk P w H h' := fun a o e =>
 (x a o e).stay (fun b u _ q => k b u q) (fun _ q => q) fun _ _ q => q
theorem HOk.laid (x : HOk P w H h) (k : ∀ b u, h.get? b = some u -> h'.get? b = some u) (hp : h.objs.size <= a) (new : Z5 P w (upd H a o) h' a o) : HOk P w (upd H a o) h' := fun b u e => by
 have hn := x.fresh hp
 by_cases hb : b = a
 . subst hb; rw [Zm] at e; cases e; exact new
 . rw [Zq hb] at e
   exact (x b u e).stay (fun c v _ q => k c v q) (fun c q => by rw [Zq (ZaM q hn)]; exact q) fun c xs q => by rw [Zq (ZaM q hn)]; exact q
end
def Rd (H : Hp) (a : Addr) (u : HO) : Prop := H a = some u \/ ∃ o, H a = some (.frz o u)
theorem Rd.ok {P : Program} {w : World} {H : Hp} {h : Heap} {a : Addr} {u : HO} (r : Rd H a u) (x : HOk P w H h) : Z5 P w H h a u := by
 rcases r with r | ⟨o, r⟩
 . exact x a u r
 . obtain ⟨_, q⟩ := x a _ r
   exact q
def Mut : Option HO -> Prop
 | some (.lst _) => True
 | some (.dK _) => True
 | some (.dT _) => True
 | some (.set _ _) => True
 | some (.ins _ _ _) => True
 | some (.ext _) => True
 | _ => False
section
variable {P : Program} {w : World} {H : Hp} {h h' : Heap} {x e : Addr} {o' : HO}
theorem HOk.write (ok : HOk P w H h) (mu : Mut (H x)) (he : e = x \/ H e = some (.own x)) (k : ∀ b u, b ≠ e -> h.get? b = some u -> h'.get? b = some u) (heo : ∃ u, h'.get? e = some u)
 (new : Z5 P w (upd H x o') h' x o') : HOk P w (upd H x o') h' := fun b u q => by
 have nown : ∀ c y, H c = some (.own y) -> c ≠ x := fun c y r z => by subst z; rw [r] at mu; exact mu
 have ntup : ∀ c xs, H c = some (.tup xs) -> c ≠ x := fun c xs r z => by subst z; rw [r] at mu; exact mu
 by_cases hb : b = x
 . subst hb; rw [Zm] at q; cases q; exact new
 . rw [Zq hb] at q
   by_cases hbe : b = e
   . have q' : H b = some (.own x) := by
      rcases he with z | z
      . exact absurd (hbe.trans z) hb
      . rw [hbe]; exact z
     rw [q] at q'; cases q'
     obtain ⟨v, hv⟩ := heo
     exact ⟨v, by rw [hbe]; exact hv⟩
   . refine (ok b u q).stay (fun c v hc r => k c v ?_ r) (fun c r => by rw [Zq (nown c b r)]; exact r) fun c xs r => by rw [Zq (ntup c xs r)]; exact r
     rcases hc with rfl | hc
     . exact hbe
     . rintro rfl
       rcases he with z | z
       . exact nown c b hc z
       . rw [hc] at z; cases z; exact hb rfl
end
structure Un (fs ex : List Addr) (H H' : Hp) (h h' : Heap) : Prop where
 keep : ∀ b o, h.get? b = some o -> H b = none -> b ∉ fs -> b ∉ ex -> h'.get? b = some o
 slot : ∀ b o, h.get? b = some o -> H b = none -> b ∈ fs -> b ∉ ex -> ∃ sl, h'.get? b = some { o with slots := sl }
 free : ∀ b o, h.get? b = some o -> H b = none -> b ∉ ex -> H' b = none
 there : ∀ b o, h.get? b = some o -> b ∉ ex -> ∃ o', h'.get? b = some o'
 tups : ∀ b xs, H b = some (.tup xs) -> H' b = some (.tup xs)
 frzs : ∀ b o u, H b = some (.frz o u) -> H' b = some (.frz o u)
 tbls : ∀ b ps, H b = some (.tbl ps) -> ∃ more, H' b = some (.tbl (ps ++ more))
section
variable {fs fs' ex ex' : List Addr} {H H1 H2 : Hp} {h h1 h2 h' : Heap} {a x e : Addr} {o : HO}
theorem Un.any (u : Un fs ex H H1 h h1) {b : Addr} {ob : Obj} (q : h.get? b = some ob) (n : H b = none) (hx : b ∉ ex) : ∃ sl, h1.get? b = some { ob with slots := sl } := by
 by_cases hb : b ∈ fs
 . exact u.slot b ob q n hb hx
 . exact ⟨ob.slots, u.keep b ob q n hb hx⟩
theorem Un.kept (k : ∀ b u, h.get? b = some u -> h'.get? b = some u) : Un fs ex H H h h' :=
 ⟨fun b ob q _ _ _ => k b ob q, fun b ob q _ _ _ => ⟨ob.slots, k b ob q⟩, fun _ _ _ n _ => n, fun b ob q _ => ⟨ob, k b ob q⟩, fun _ _ q => q, fun _ _ _ q => q, fun _ ps q => ⟨#[], by rw [q]; simp⟩⟩
theorem Un.refl : Un fs ex H H h h := Un.kept fun _ _ q => q
theorem Un.laid (k : ∀ b u, h.get? b = some u -> h'.get? b = some u) (hp : h.objs.size <= a) (hn : H a = none) : Un fs ex H (upd H a o) h h' where
 keep := fun b u q _ _ _ => k b u q
 slot := fun b u q _ _ _ => ⟨u.slots, k b u q⟩
 free := fun b u q n _ => by rw [Zq (Nat.ne_of_lt (Nat.lt_of_lt_of_le (Heap.lt_size q) hp))]; exact n
 there := fun b u q _ => ⟨u, k b u q⟩
 tups := fun b xs q => by rw [Zq (ZaM q hn)]; exact q
 frzs := fun b u xs q => by rw [Zq (ZaM q hn)]; exact q
 tbls := fun b ps q => ⟨#[], by rw [Zq (ZaM q hn), q]; simp⟩
theorem Un.write (mu : Mut (H x)) (he : e = x \/ H e = some (.own x)) (k : ∀ b u, b ≠ e -> h.get? b = some u -> h'.get? b = some u) (heo : ∃ u, h'.get? e = some u) : Un fs ex H (upd H x o) h h' := by
 have hx : ∀ b, H b = none -> b ≠ x := fun b n z => by subst z; rw [n] at mu; exact mu
 have hb : ∀ b, H b = none -> b ≠ e := fun b n z => by
  subst z
  rcases he with r | r
  . exact hx b n r
  . rw [n] at r; cases r
 have hm : ∀ b u, H b = some u -> ¬ Mut (some u) -> b ≠ x := fun b u q nm z => by subst z; rw [q] at mu; exact nm mu
 refine ⟨fun b u q n _ _ => k b u (hb b n) q, fun b u q n _ _ => ⟨u.slots, k b u (hb b n) q⟩, fun b u q n _ => by rw [Zq (hx b n)]; exact n, fun b u q _ => ?_,
  fun b xs q => by rw [Zq (hm b _ q fun z => z)]; exact q, fun b u xs q => by rw [Zq (hm b _ q fun z => z)]; exact q, fun b ps q => ⟨#[], by rw [Zq (hm b _ q fun z => z), q]; simp⟩⟩
 by_cases hbe : b = e
 . subst hbe; exact heo
 . exact ⟨u, k b u hbe q⟩
end
noncomputable def trk (h : Heap) (H : Hp) : List Addr := (List.range h.objs.size).filter fun a => (H a).isSome
noncomputable def hidT (h : Heap) (H : Hp) : Heap := PySem.W.hideAll h (trk h H)
theorem Zi6 (h : Heap) (H : Hp) : (hidT h H).objs.size = h.objs.size := PySem.W.hideAll_size _ _
theorem ZjM {h : Heap} {H : Hp} {b : Addr} {o : Obj} (e : h.get? b = some o) (n : H b = none) : (hidT h H).get? b = some o :=
 PySem.W.hideAll_get _ e fun hm => by
  have q : (H b).isSome = true := (List.mem_filter.mp hm).2
  rw [n] at q; simp at q
theorem Zln {h : Heap} {H : Hp} {b : Addr} {o : Obj} (e : (hidT h H).get? b = some o) : h.get? b = some o /\ H b = none := by
 have e' : h.get? b = some o := PySem.W.of_hideAll (trk h H) e
 refine ⟨e', ?_⟩
 cases q : H b with
 | none => rfl
 | some x =>
  have hm : b ∈ trk h H := List.mem_filter.mpr ⟨List.mem_range.mpr (Heap.lt_size e'), by simp [q]⟩
  have z : (hidT h H).get? b = none := PySem.W.hideAll_none (trk h H) hm
  rw [z] at e; cases e
noncomputable def Zlo (g h : Heap) (L : Addr) : List (Addr × Obj) := (List.range h.objs.size).filterMap fun a => if a = L \/ (g.get? a).isSome = true then none else (h.get? a).map fun o => (a, o)
noncomputable def rest (g h : Heap) (L d : Addr) : List (Addr × Obj) := (Zlo g h L).filter fun p => decide (p.1 ≠ d)
structure Mod (K : Fg) (mg : SO) (base : Heap) : Prop where
 kin : K.In base
 glob : base.Ns mainGlobals mg
 blt : ∃ mb, base.Ns builtinsNs mb /\ ∀ x : Str, x ≠ "__name__" -> mb x = bootBuiltins x
 nolimit : base.NoLimit
structure Cx where
 prog : Program
 w : World
 K : Fg
 mg : Str -> Option Value
 base : Heap
 A : Around
 N : List Str
 s₀ : Shared
 H₀ : Hp
 env : Env
 outer : List Env
 stack : List Env
 ex : List Addr
 fn : Str -> Bool
 calm : Bool
 pn : List (Addr × Obj)
 xe : Value -> Shared -> Prop
noncomputable def frs (l : List Env) : List Addr := l.filterMap (·.frame)
noncomputable abbrev Cx.fs (X : Cx) : List Addr := frs X.outer
def Vis (sc : Scope) (x : Str) : Prop := sc.names.lookup x = some .local \/ sc.names.lookup x = some .cell \/ sc.names.lookup x = some .free
def Loc (sc : Scope) (x : Str) : Prop := sc.names.lookup x = some .local \/ sc.names.lookup x = some .cell
def Look (env : Env) (h : Heap) (m : SO) (x : Str) (u : Value) : Prop :=
 (env.kindOf x = some .local /\ m x = some u) \/ ((env.kindOf x = some .cell \/ env.kindOf x = some .free) /\ ∃ c, env.cells.lookup x = some c /\ h.IsCell c (some u))
structure Cx.Ok (X : Cx) : Prop where
 mod : Mod X.K X.mg X.base
 kind : X.env.scope.kind = .function
 glob : X.env.globals = mainGlobals
 blt : X.env.builtins = builtinsNs
 above : X.s₀.heap.objs.size <= X.env.locals
 inj : ∀ x y c, X.env.cells.lookup x = some c -> X.env.cells.lookup y = some c -> x = y
 has : ∀ x, (X.env.kindOf x = some .cell \/ X.env.kindOf x = some .free) -> ∃ c, X.env.cells.lookup x = some c
 cab : ∀ x c, X.fn x = true -> X.env.cells.lookup x = some c -> X.s₀.heap.objs.size <= c
 hd : X.calm = true -> X.A.handled = none
 frames : X.A.frames = some X.stack
 stk : X.stack = X.outer \/ (X.stack = X.env :: X.outer /\ X.env.frame = some X.env.locals)
 exf : ∀ b ∈ X.ex, b ≠ X.env.locals /\ ∀ x c, X.env.cells.lookup x = some c -> c ≠ b
 bs : ∀ b o, X.base.get? b = some o -> X.s₀.heap.get? b = some o /\ X.H₀ b = none
 bsz : X.base.objs.size <= X.s₀.heap.objs.size
 noex : ∀ b o, X.base.get? b = some o -> b ∉ X.ex
 exfs : ∀ b ∈ X.ex, b ∉ X.fs
 funs : X.s₀.heap.FunFrames X.base X.outer
 frf : ∀ b ∈ X.fs, X.H₀ b = none
structure Inv (X : Cx) (pins : Pn) (σ : List (Option V)) (H : Hp) (s : Shared) : Prop where
 ok : X.Ok
 os : s.os = X.s₀.os
 bare : AllBare s.gens
 base : Un X.fs X.ex X.H₀ H X.s₀.heap s.heap
 loc : ∃ m, s.heap.Ns X.env.locals m /\ ∀ (i : Nat) (x : Str) (v : V), X.N[i]? = some x -> σ[i]? = some (some v) -> Vis X.env.scope x -> ∃ u, RelV v u /\ Look X.env s.heap m x u
 cell : ∀ x c, X.env.cells.lookup x = some c -> ∃ v, s.heap.IsCell c v
 free : H X.env.locals = none
 freeC : ∀ x c, X.env.cells.lookup x = some c -> H c = none
 pin : ∀ p ∈ X.pn ++ pins, s.heap.get? p.1 = some p.2 /\ H p.1 = none /\ p.1 ≠ X.env.locals /\ p.1 ∉ X.fs /\ ∀ v, p.2.data ≠ .cell v
 hok : HOk X.prog X.w H s.heap
 len : σ.length = X.N.length
section
variable {X : Cx} {pins : Pn} {σ : List (Option V)} {H H' : Hp} {s : Shared} {h' : Heap}
theorem Cx.Ok.nofr (ok : X.Ok) {b : Addr} {o : Obj} (e : X.base.get? b = some o) : b ∉ X.fs := fun hb => by
 have := (ok.funs.mem hb).1
 rw [e] at this; cases this
theorem Inv.bs (I : Inv X pins σ H s) : ∀ b o, X.base.get? b = some o -> s.heap.get? b = some o /\ H b = none := fun b o e =>
 ⟨I.base.keep b o (I.ok.bs b o e).1 (I.ok.bs b o e).2 (I.ok.nofr e) (I.ok.noex b o e), I.base.free b o (I.ok.bs b o e).1 (I.ok.bs b o e).2 (I.ok.noex b o e)⟩
theorem Inv.bk (I : Inv X pins σ H s) : ∀ b o, X.base.get? b = some o -> s.heap.get? b = some o := fun b o e => (I.bs b o e).1
theorem Inv.mod (I : Inv X pins σ H s) : Mod X.K X.mg X.base := I.ok.mod
theorem Inv.kIn (I : Inv X pins σ H s) : X.K.In s.heap := I.ok.mod.kin.keeps I.bk
theorem Inv.lt (I : Inv X pins σ H s) : X.env.locals < s.heap.objs.size := let ⟨_, hn, _⟩ := I.loc; hn.lt
theorem Inv.sz (I : Inv X pins σ H s) : X.s₀.heap.objs.size <= s.heap.objs.size := Nat.le_trans I.ok.above (Nat.le_of_lt I.lt)
theorem Inv.nofs (I : Inv X pins σ H s) {a : Addr} (h : s.heap.objs.size <= a) : a ∉ X.fs := fun hb => by
 obtain ⟨_, o, ho, _⟩ := I.ok.funs.mem hb
 exact absurd (Nat.lt_of_lt_of_le (Heap.lt_size ho) (Nat.le_trans I.sz h)) (Nat.lt_irrefl _)
theorem Inv.cne (I : Inv X pins σ H s) : ∀ x c, X.env.cells.lookup x = some c -> c ≠ X.env.locals := fun x c e z => by
 obtain ⟨v, o, ho, hd⟩ := I.cell x c e
 obtain ⟨m, ⟨o', es, ep, ho', hd', _⟩, _⟩ := I.loc
 rw [z, ho'] at ho; cases ho; rw [hd'] at hd; cases hd
theorem Inv.funs (I : Inv X pins σ H s) : s.heap.FunFrames X.base X.outer := by
 have all : ∀ (l : List Env), (∀ b ∈ frs l, b ∈ X.fs) -> X.s₀.heap.FunFrames X.base l -> s.heap.FunFrames X.base l := by
  intro l
  induction l with
  | nil => intro _ _; trivial
  | cons env r ih =>
   intro hs hl
   obtain ⟨hk, ⟨L, o, hf, hn, ho, hd⟩, hr⟩ := hl
   have hL : L ∈ X.fs := hs L (by unfold frs; rw [List.filterMap_cons, hf]; exact List.mem_cons_self)
   obtain ⟨sl, e⟩ := I.base.slot L o ho (I.ok.frf L hL) hL fun z => I.ok.exfs L z hL
   exact ⟨hk, ⟨L, _, hf, hn, e, hd⟩, ih (fun b hb => hs b (by unfold frs; rw [List.filterMap_cons, hf]; exact List.mem_cons_of_mem _ hb)) hr⟩
 exact all X.outer (fun _ hb => hb) I.ok.funs
theorem Inv.stack (I : Inv X pins σ H s) : s.heap.FunFrames X.base X.stack := by
 rcases I.ok.stk with e | ⟨e, hf⟩
 . rw [e]; exact I.funs
 . rw [e]
   obtain ⟨m, hn, _⟩ := I.loc
   refine .cons (by rw [I.ok.kind]; decide) hf hn ?_ I.funs
   exact Heap.get?_none_of_le (Nat.le_trans I.ok.bsz I.ok.above)
theorem Inv.stkSub (I : Inv X pins σ H s) : ∀ b ∈ frs X.stack, b ∈ X.env.locals :: X.fs := fun b hb => by
 rcases I.ok.stk with e | ⟨e, hf⟩
 . rw [e] at hb; exact List.mem_cons_of_mem _ hb
 . rw [e] at hb
   unfold frs at hb
   rw [List.filterMap_cons, hf] at hb
   exact hb
theorem Inv.stkFree (I : Inv X pins σ H s) : ∀ b ∈ frs X.stack, H b = none := fun b hb => by
 rcases List.mem_cons.mp (I.stkSub b hb) with e | hb
 . rw [e]; exact I.free
 . obtain ⟨_, o, ho, _⟩ := I.ok.funs.mem hb
   exact I.base.free b o ho (I.ok.frf b hb) fun z => I.ok.exfs b z hb
theorem Inv.step {g' : Array GenState} {t' : Nat} {d' : Drawn} {ch : List Addr} (I : Inv X pins σ H s)
 (hch : ∀ b ∈ ch, (b ∈ X.ex \/ X.s₀.heap.objs.size <= b) /\ b ≠ X.env.locals /\ (∀ x c, X.env.cells.lookup x = some c -> c ≠ b) /\ ∀ p ∈ X.pn ++ pins, p.1 ≠ b)
 (keep : ∀ b o, b ≠ X.env.locals -> b ∉ X.fs -> b ∉ ch -> s.heap.get? b = some o -> H b = none -> h'.get? b = some o)
 (slot : ∀ b o, b ≠ X.env.locals -> b ∈ X.fs -> b ∉ ch -> s.heap.get? b = some o -> H b = none -> ∃ sl, h'.get? b = some { o with slots := sl }) (free : ∀ b o, b ∉ ch -> s.heap.get? b = some o -> H b = none -> H' b = none)
 (there : ∀ b o, b ∉ ch -> s.heap.get? b = some o -> ∃ o', h'.get? b = some o')
 (tups : ∀ b xs, H b = some (.tup xs) -> H' b = some (.tup xs)) (frzs : ∀ b o u, H b = some (.frz o u) -> H' b = some (.frz o u)) (tbls : ∀ b ps, H b = some (.tbl ps) -> ∃ more, H' b = some (.tbl (ps ++ more)))
 (ns : ∀ m, s.heap.Ns X.env.locals m -> h'.Ns X.env.locals m) (hok : HOk X.prog X.w H' h') (hg : AllBare g') :
 Inv X pins σ H' { s with heap := h', gens := g', drawn := d', toks := t' } := by
 have neL : ∀ b o, X.s₀.heap.get? b = some o -> b ≠ X.env.locals := fun b o e => Nat.ne_of_lt (Nat.lt_of_lt_of_le (Heap.lt_size e) I.ok.above)
 have neC : ∀ b o, X.s₀.heap.get? b = some o -> b ∉ X.ex -> b ∉ ch := fun b o e hx hb => by
  rcases (hch b hb).1 with z | z
  . exact hx z
  . exact absurd (Nat.lt_of_lt_of_le (Heap.lt_size e) z) (Nat.lt_irrefl _)
 have cellK : ∀ x c, X.env.cells.lookup x = some c -> ∀ v, s.heap.IsCell c v -> h'.IsCell c v := fun x c e v z0 => by
  obtain ⟨o, ho, hd⟩ := z0
  have nch : c ∉ ch := fun z => (hch c z).2.2.1 x c e rfl
  by_cases hc : c ∈ X.fs
  . obtain ⟨sl, q⟩ := slot c o (I.cne x c e) hc nch ho (I.freeC x c e)
    exact ⟨_, q, hd⟩
  . exact ⟨o, keep c o (I.cne x c e) hc nch ho (I.freeC x c e), hd⟩
 refine ⟨I.ok, I.os, hg, ⟨fun b o e n hb hx => ?_, fun b o e n hb hx => ?_, fun b o e n hx => ?_, fun b o e hx => ?_, fun b xs e => tups b xs (I.base.tups b xs e), fun b o xs e => frzs b o xs (I.base.frzs b o xs e), fun b ps e => ?_⟩, ?_, fun x c e => ?_, ?_, fun x c e => ?_, fun p hp => ?_, hok, I.len⟩
 . exact keep b o (neL b o e) hb (neC b o e hx) (I.base.keep b o e n hb hx) (I.base.free b o e n hx)
 . obtain ⟨sl, e1⟩ := I.base.slot b o e n hb hx
   obtain ⟨sl', e2⟩ := slot b _ (neL b o e) hb (neC b o e hx) e1 (I.base.free b o e n hx)
   exact ⟨sl', e2⟩
 . obtain ⟨o', e1⟩ := I.base.there b o e hx
   exact free b o' (neC b o e hx) e1 (I.base.free b o e n hx)
 . obtain ⟨o', e1⟩ := I.base.there b o e hx
   exact there b o' (neC b o e hx) e1
 . obtain ⟨m1, e1⟩ := I.base.tbls b ps e
   obtain ⟨m2, e2⟩ := tbls b _ e1
   exact ⟨m1 ++ m2, by rw [e2, Array.append_assoc]⟩
 . obtain ⟨m, hn, hl⟩ := I.loc
   refine ⟨m, ns m hn, fun i x v e1 e2 e3 => ?_⟩
   obtain ⟨u, r, l⟩ := hl i x v e1 e2 e3
   refine ⟨u, r, ?_⟩
   rcases l with l | ⟨k, c, e, z⟩
   . exact .inl l
   . exact .inr ⟨k, c, e, cellK x c e _ z⟩
 . obtain ⟨v, z⟩ := I.cell x c e
   exact ⟨v, cellK x c e v z⟩
 . obtain ⟨m, ⟨o, _, _, ho, _⟩, _⟩ := I.loc
   exact free _ o (fun z => (hch _ z).2.1 rfl) ho I.free
 . obtain ⟨v, o, ho, hd⟩ := I.cell x c e
   exact free c o (fun z => (hch c z).2.2.1 x c e rfl) ho (I.freeC x c e)
 . obtain ⟨e, n, ne, nf, d⟩ := I.pin p hp
   have nch : p.1 ∉ ch := fun z => (hch p.1 z).2.2.2 p hp rfl
   exact ⟨keep p.1 p.2 ne nf nch e n, free p.1 p.2 nch e n, ne, nf, d⟩
theorem Inv.un {t' : Nat} (I : Inv X pins σ H s) (u : Un X.fs [] H H' s.heap h') (hok : HOk X.prog X.w H' h') : Inv X pins σ H' { s with heap := h', toks := t' } := by
 obtain ⟨m, ⟨o, es, ep, ho, r⟩, _⟩ := id I.loc
 obtain ⟨sl, hL⟩ := u.any ho I.free (by simp)
 exact I.step (g' := s.gens) (d' := s.drawn) (ch := []) (fun _ z => nomatch z) (fun b o _ hb _ e n => u.keep b o e n hb (by simp)) (fun b o _ hb _ e n => u.slot b o e n hb (by simp)) (fun b o _ e n => u.free b o e n (by simp)) (fun b o _ e => u.there b o e (by simp)) u.tups u.frzs u.tbls (fun m' hm => by
  obtain ⟨o', es', ep', ho', r'⟩ := hm
  rw [ho] at ho'; cases ho'
  exact ⟨_, es', ep', hL, r'⟩) hok I.bare
theorem Inv.call {g' : Array GenState} {t' : Nat} {d' : Drawn} {ch : List Addr} (I : Inv X pins σ H s) (u : Un (frs X.stack) ch H H' s.heap h') (hok : HOk X.prog X.w H' h') (hg : AllBare g')
 (hch : ∀ b ∈ ch, (b ∈ X.ex \/ X.s₀.heap.objs.size <= b) /\ b ≠ X.env.locals /\ (∀ x c, X.env.cells.lookup x = some c -> c ≠ b) /\ ∀ p ∈ X.pn ++ pins, p.1 ≠ b) :
 Inv X pins σ H' { s with heap := h', gens := g', drawn := d', toks := t' } := by
 obtain ⟨m, ⟨o, es, ep, ho, r⟩, _⟩ := id I.loc
 obtain ⟨sl, hL⟩ := u.any ho I.free fun z => (hch _ z).2.1 rfl
 exact I.step (ch := ch) hch (fun b o hL hb hc e n => u.keep b o e n (fun z => (List.mem_cons.mp (I.stkSub b z)).elim hL hb) hc) (fun b o _ _ hc e n => u.any e n hc) (fun b o hc e n => u.free b o e n hc) (fun b o hc e => u.there b o e hc) u.tups u.frzs u.tbls (fun m' hm => by
  obtain ⟨o', es', ep', ho', r'⟩ := hm
  rw [ho] at ho'; cases ho'
  exact ⟨_, es', ep', hL, r'⟩) hok hg
theorem Inv.turned {t' : Nat} {it : Addr} (I : Inv X pins σ H s) (k : ∀ b o, b ≠ it -> s.heap.get? b = some o -> h'.get? b = some o) (hn : H it = none) (hL : it ≠ X.env.locals)
 (h1 : it ∈ X.ex \/ X.s₀.heap.objs.size <= it) (h2 : ∀ x c, X.env.cells.lookup x = some c -> c ≠ it) (h3 : ∀ p ∈ X.pn ++ pins, p.1 ≠ it) : Inv X pins σ H { s with heap := h', toks := t' } := by
 have nit : ∀ b u, H b = some u -> b ≠ it := fun b u e z => by rw [z, hn] at e; cases e
 refine I.step (g' := s.gens) (d' := s.drawn) (ch := [it]) (fun b hb => ?_) (fun b o _ _ hc e _ => k b o (fun z => hc (by simp [z])) e) (fun b o _ _ hc e _ => ⟨o.slots, k b o (fun z => hc (by simp [z])) e⟩) (fun _ _ _ _ n => n)
  (fun b o hc e => ⟨o, k b o (fun z => hc (by simp [z])) e⟩) (fun _ _ e => e) (fun _ _ _ e => e) (fun b ps e => ⟨#[], by rw [e]; simp⟩) (fun m hm => ?_) (fun b u e => ?_) I.bare
 . have e : b = it := by simpa using hb
   subst e
   exact ⟨h1, hL, h2, h3⟩
 . obtain ⟨o, es, ep, ho, r⟩ := hm
   exact ⟨o, es, ep, k _ o (Ne.symm hL) ho, r⟩
 . refine (I.hok b u e).stay (fun c v hc q => k c v ?_ q) (fun _ q => q) fun _ _ q => q
   rcases hc with z | z
   . rw [z]; exact nit b u e
   . exact nit c _ z
theorem Inv.tok (I : Inv X pins σ H s) (t : Nat) : Inv X pins σ H { s with toks := t } := I.un (h' := s.heap) (t' := t) Un.refl I.hok
theorem Inv.kept {t' : Nat} (I : Inv X pins σ H s) (k : ∀ b u, s.heap.get? b = some u -> h'.get? b = some u) : Inv X pins σ H { s with heap := h', toks := t' } := I.un (Un.kept k) (I.hok.kept k)
theorem Inv.laid {a : Addr} {o : HO} {t' : Nat} (I : Inv X pins σ H s) (k : ∀ b u, s.heap.get? b = some u -> h'.get? b = some u) (hp : s.heap.objs.size <= a) (new : Z5 X.prog X.w (upd H a o) h' a o) :
 Inv X pins σ (upd H a o) { s with heap := h', toks := t' } := I.un (Un.laid k hp (I.hok.fresh hp)) (I.hok.laid k hp new)
theorem Inv.write {x e : Addr} {o : HO} {t' : Nat} (I : Inv X pins σ H s) (mu : Mut (H x)) (he : e = x \/ H e = some (.own x)) (k : ∀ b u, b ≠ e -> s.heap.get? b = some u -> h'.get? b = some u) (heo : ∃ u, h'.get? e = some u)
 (new : Z5 X.prog X.w (upd H x o) h' x o) : Inv X pins σ (upd H x o) { s with heap := h', toks := t' } := I.un (Un.write mu he k heo) (I.hok.write mu he k heo new)
theorem Inv.pins_of {pins' : Pn} (I : Inv X pins σ H s) (h : ∀ p ∈ pins', s.heap.get? p.1 = some p.2 /\ H p.1 = none /\ p.1 ≠ X.env.locals /\ p.1 ∉ X.fs /\ ∀ v, p.2.data ≠ .cell v) : Inv X pins' σ H s :=
 ⟨I.ok, I.os, I.bare, I.base, I.loc, I.cell, I.free, I.freeC, fun p hp => (List.mem_append.mp hp).elim (fun z => I.pin p (List.mem_append_left _ z)) (h p), I.hok, I.len⟩
theorem Zgt {N : List Str} (hN : N.Nodup) {i j : Nat} {x : Str} (a : N[i]? = some x) (b : N[j]? = some x) : i = j := by
 obtain ⟨h1, e1⟩ := List.getElem?_eq_some_iff.mp a
 obtain ⟨h2, e2⟩ := List.getElem?_eq_some_iff.mp b
 exact (List.getElem_inj hN).mp (e1.trans e2.symm)
theorem Zi7 {M : Model} {A : Around} {E : VS} {i : Nat} {x : Str} {v : V} {u : Value} {Q : Unit -> Shared -> Prop} (I : Inv X pins σ H s) (hN : X.N.Nodup) (hi : X.N[i]? = some x) (hx : Loc X.env.scope x) (r : RelV v u)
 (h : ∀ s', Inv X pins (σ.set i (some v)) H s' -> (∃ a, Heap.SameBut a s.heap s'.heap /\ (a = X.env.locals \/ X.env.cells.lookup x = some a)) -> Q () s') (hf : X.fn x = true \/ X.env.scope.names.lookup x = some .local := by first | exact .inl rfl | exact .inr rfl | assumption) : wpAny M A (storeName X.env x u) Q E s := by
 obtain ⟨m, hn, hl⟩ := id I.loc
 have hcls : (X.env.scope.kind == .class || (X.env.scope.kind == .module && X.env.locals != X.env.globals)) = false := by rw [I.ok.kind]; rfl
 have hiσ : i < σ.length := by rw [I.len]; exact (List.getElem?_eq_some_iff.mp hi).1
 have cne := I.cne
 have tracked : ∀ {a : Addr} {h' : Heap}, (∃ o, s.heap.get? a = some o /\ H a = none) -> Heap.SameBut a s.heap h' -> HOk X.prog X.w H h' := fun {a h'} ha hs b ob e => by
  obtain ⟨_, _, hfree⟩ := ha
  refine (I.hok b ob e).stay (fun c w' hc q => (hs.2 c ?_).trans q) (fun _ q => q) fun _ _ q => q
  rintro rfl
  rcases hc with rfl | hc
  . rw [hfree] at e; cases e
  . rw [hfree] at hc; cases hc
 rcases hx with hk | hk
 . refine wpAny_storeName_local hk hn (fun h' hn' hs => ?_) hcls
   obtain ⟨oL, _, _, hoL, _⟩ := id hn
   refine h _ ⟨I.ok, I.os, I.bare, ⟨fun b o e n hb hx => ?_, fun b o e n hb hx => ?_, I.base.free, fun b o e hx => ?_, I.base.tups, I.base.frzs, I.base.tbls⟩, ⟨_, hn', fun j y v' e1 e2 e3 => ?_⟩, fun y c e => ?_, I.free, I.freeC, fun p hp => ?_, tracked ⟨oL, hoL, I.free⟩ hs, by simpa using I.len⟩ ⟨_, hs, .inl rfl⟩
   . exact (hs.2 b (Nat.ne_of_lt (Nat.lt_of_lt_of_le (Heap.lt_size e) I.ok.above))).trans (I.base.keep b o e n hb hx)
   . obtain ⟨sl, e1⟩ := I.base.slot b o e n hb hx
     exact ⟨sl, (hs.2 b (Nat.ne_of_lt (Nat.lt_of_lt_of_le (Heap.lt_size e) I.ok.above))).trans e1⟩
   . obtain ⟨o', e1⟩ := I.base.there b o e hx
     exact ⟨o', (hs.2 b (Nat.ne_of_lt (Nat.lt_of_lt_of_le (Heap.lt_size e) I.ok.above))).trans e1⟩
   . by_cases hj : j = i
     . subst hj
       rw [hi] at e1; cases e1
       rw [List.getElem?_set_self hiσ] at e2
       cases e2
       exact ⟨u, r, .inl ⟨hk, by simp⟩⟩
     . rw [List.getElem?_set_ne (Ne.symm hj)] at e2
       obtain ⟨u', r', q⟩ := hl j y v' e1 e2 e3
       refine ⟨u', r', ?_⟩
       rcases q with ⟨k, e⟩ | ⟨k, c, e, z⟩
       . refine .inl ⟨k, ?_⟩
         have : y ≠ x := fun e => hj (Zgt hN e1 (e ▸ hi))
         simp [this, e]
       . exact .inr ⟨k, c, e, z.sameBut hs (cne y c e)⟩
   . obtain ⟨w', z⟩ := I.cell y c e
     exact ⟨w', z.sameBut hs (cne y c e)⟩
   . obtain ⟨e, n, ne, nf, d⟩ := I.pin p hp
     exact ⟨(hs.2 p.1 ne).trans e, n, ne, nf, d⟩
 . have hfn : X.fn x = true := by
    rcases hf with z | z
    . exact z
    . rw [z] at hk; cases hk
   obtain ⟨c, hc⟩ := I.ok.has x (.inl hk)
   obtain ⟨w', z⟩ := I.cell x c hc
   refine wpAny_storeName_cell I.ok.kind hk hc z (fun h' hc' hs => ?_)
   obtain ⟨oc, hoc, hocd⟩ := id z
   refine h { s with heap := h' } ⟨I.ok, I.os, I.bare, ⟨fun b o e n hb hx => ?_, fun b o e n hb hx => ?_, I.base.free, fun b o e hx => ?_, I.base.tups, I.base.frzs, I.base.tbls⟩, ⟨m, hn.sameBut hs (Ne.symm (cne x c hc)), fun j y v' e1 e2 e3 => ?_⟩, fun y c' e => ?_, I.free, I.freeC, fun p hp => ?_, tracked ⟨oc, hoc, I.freeC x c hc⟩ hs, by simpa using I.len⟩ ⟨c, hs, .inr hc⟩
   . exact (hs.2 b (Nat.ne_of_lt (Nat.lt_of_lt_of_le (Heap.lt_size e) (I.ok.cab x c hfn hc)))).trans (I.base.keep b o e n hb hx)
   . obtain ⟨sl, e1⟩ := I.base.slot b o e n hb hx
     exact ⟨sl, (hs.2 b (Nat.ne_of_lt (Nat.lt_of_lt_of_le (Heap.lt_size e) (I.ok.cab x c hfn hc)))).trans e1⟩
   . obtain ⟨o', e1⟩ := I.base.there b o e hx
     exact ⟨o', (hs.2 b (Nat.ne_of_lt (Nat.lt_of_lt_of_le (Heap.lt_size e) (I.ok.cab x c hfn hc)))).trans e1⟩
   . by_cases hj : j = i
     . subst hj
       rw [hi] at e1; cases e1
       rw [List.getElem?_set_self hiσ] at e2
       cases e2
       exact ⟨u, r, .inr ⟨.inl hk, c, hc, hc'⟩⟩
     . rw [List.getElem?_set_ne (Ne.symm hj)] at e2
       obtain ⟨u', r', q⟩ := hl j y v' e1 e2 e3
       refine ⟨u', r', ?_⟩
       rcases q with q | ⟨k, c', e, z'⟩
       . exact .inl q
       . refine .inr ⟨k, c', e, z'.sameBut hs ?_⟩
         rintro rfl
         exact hj (Zgt hN e1 (I.ok.inj _ _ _ e hc ▸ hi))
   . by_cases hcc : c' = c
     . subst hcc; exact ⟨_, hc'⟩
     . obtain ⟨w2, z2⟩ := I.cell y c' e
       exact ⟨w2, z2.sameBut hs hcc⟩
   . obtain ⟨e, n, ne, nf, d⟩ := I.pin p hp
     refine ⟨(hs.2 p.1 ?_).trans e, n, ne, nf, d⟩
     intro q
     rw [q, hoc] at e
     have q' : oc = p.2 := Option.some.inj e
     exact d w' (by rw [<- q']; exact hocd)
theorem Zew {M : Model} {A : Around} {E : VS} {i : Nat} {x : Str} {v : V} {u : Value} {Q : Unit -> Shared -> Prop} (I : Inv X pins σ H s) (hN : X.N.Nodup) (hi : X.N[i]? = some x) (hx : Loc X.env.scope x) (r : RelV v u)
 (h : ∀ s', Inv X pins (σ.set i (some v)) H s' -> Q () s') (hf : X.fn x = true \/ X.env.scope.names.lookup x = some .local := by first | exact .inl rfl | exact .inr rfl | assumption) : wpAny M A (storeName X.env x u) Q E s :=
 Zi7 I hN hi hx r (fun s' I' _ => h s' I') hf
theorem Inv.call' {s' : Shared} {ch : List Addr} (I : Inv X pins σ H s) (ho : s'.os = s.os) (u : Un (frs X.stack) ch H H' s.heap s'.heap) (hok : HOk X.prog X.w H' s'.heap) (hg : AllBare s'.gens)
 (hch : ∀ b ∈ ch, (b ∈ X.ex \/ X.s₀.heap.objs.size <= b) /\ b ≠ X.env.locals /\ (∀ x c, X.env.cells.lookup x = some c -> c ≠ b) /\ ∀ p ∈ X.pn ++ pins, p.1 ≠ b) : Inv X pins σ H' s' := by
 obtain ⟨h', g', d', t', o'⟩ := s'
 have e : o' = s.os := ho
 subst e
 exact I.call (g' := g') (t' := t') (d' := d') u hok hg hch
end
abbrev XK := Value -> Option Addr -> Hp -> Prop
noncomputable abbrev St := List (Option V)
abbrev VK := V -> Hp -> Prop
abbrev TE := St -> Hp -> VK -> Prop
abbrev TT := St -> Hp -> (Bool -> Hp -> Prop) -> Prop
abbrev TA := St -> Hp -> (List V -> Hp -> Prop) -> Prop
structure Ends where
 nx : St -> Hp -> Prop
 rt : VK
 bk : St -> Hp -> Prop := fun _ _ => False
 ct : St -> Hp -> Prop := fun _ _ => False
abbrev TS := Ends -> St -> Hp -> Prop
def EP (X : Cx) (pins : Pn) (σ : St) (Q : VK) (u : Value) (s' : Shared) : Prop := ∃ v H', Inv X pins σ H' s' /\ RelV v u /\ Q v H'
def TP (X : Cx) (pins : Pn) (σ : St) (Q : Bool -> Hp -> Prop) (b : Bool) (s' : Shared) : Prop := ∃ H', Inv X pins σ H' s' /\ Q b H'
def AP (X : Cx) (pins : Pn) (σ : St) (Q : List V -> Hp -> Prop) (us : List Value) (s' : Shared) : Prop := ∃ vs H', Inv X pins σ H' s' /\ Vals vs us /\ Q vs H'
def SP (X : Cx) (pins : Pn) (D : Ends) (f : Flow) (s' : Shared) : Prop :=
 match f with
 | .next => ∃ σ' H', Inv X pins σ' H' s' /\ D.nx σ' H'
 | .brk => ∃ σ' H', Inv X pins σ' H' s' /\ D.bk σ' H'
 | .cont => ∃ σ' H', Inv X pins σ' H' s' /\ D.ct σ' H'
 | .ret u => ∃ v σ' H', Inv X pins σ' H' s' /\ RelV v u /\ D.rt v H'
def PE (X : Cx) (e : Expr) (t : TE) : Prop :=
 ∀ (pins : Pn) (s : Shared) (σ : St) (H : Hp) (Q : VK), Inv X pins σ H s -> t σ H Q -> wpAny (model X.prog X.w) X.A (eval e X.env) (EP X pins σ Q) X.xe s
def PT (X : Cx) (e : Expr) (t : TT) : Prop :=
 ∀ (pins : Pn) (s : Shared) (σ : St) (H : Hp) (Q : Bool -> Hp -> Prop), Inv X pins σ H s -> t σ H Q -> wpAny (model X.prog X.w) X.A (isTrue e X.env (eval e X.env)) (TP X pins σ Q) X.xe s
def PW (X : Cx) (e : Expr) (t : TT) : Prop :=
 ∀ (whole : Sem Value) (pins : Pn) (s : Shared) (σ : St) (H : Hp) (Q : Bool -> Hp -> Prop), Inv X pins σ H s -> t σ H Q -> wpAny (model X.prog X.w) X.A (isTrue e X.env whole) (TP X pins σ Q) X.xe s
theorem PW.pt {X : Cx} {e : Expr} {t : TT} (h : PW X e t) : PT X e t := h _
def PA (X : Cx) (es : List Expr) (t : TA) : Prop :=
 ∀ (pos : Pos) (pins : Pn) (s : Shared) (σ : St) (H : Hp) (Q : List V -> Hp -> Prop), Inv X pins σ H s -> t σ H Q -> wpAny (model X.prog X.w) X.A (spliced (backTo pos (starEach es X.env))) (AP X pins σ Q) X.xe s
def PS (X : Cx) (st : Stmt) (t : TS) : Prop :=
 ∀ (pins : Pn) (s : Shared) (σ : St) (H : Hp) (D : Ends), Inv X pins σ H s -> t D σ H -> wpAny (model X.prog X.w) X.A (exec st X.env) (SP X pins D) X.xe s
def PSs (X : Cx) (st : List Stmt) (t : TS) : Prop :=
 ∀ (pins : Pn) (s : Shared) (σ : St) (H : Hp) (D : Ends), Inv X pins σ H s -> t D σ H -> wpAny (model X.prog X.w) X.A (execs st X.env) (SP X pins D) X.xe s
theorem thn {α : Type} {t : Sem α} {Q Q' : α -> Shared -> Prop} {M : Model} {A : Around} {E : VS} {s : Shared} (h : wpAny M A t Q E s) (hQ : ∀ a s, Q a s -> Q' a s) : wpAny M A t Q' E s := wpAny_mono h hQ fun _ _ x => x
section
variable {X : Cx}
theorem bin {a b : Expr} {ta tb : TE} (ha : PE X a ta) (hb : PE X b tb) {pins : Pn} {s : Shared} {σ : St} {H : Hp} {R : V -> V -> Hp -> Prop} (I : Inv X pins σ H s) (h : ta σ H fun x H1 => tb σ H1 fun y H2 => R x y H2)
 {α : Type} {Q : α -> Shared -> Prop} {f : Value -> Value -> Sem α}
 (hf : ∀ v u s2 x y H2, Inv X pins σ H2 s2 -> RelV x v -> RelV y u -> R x y H2 -> wpAny (model X.prog X.w) X.A (f v u) Q X.xe s2) :
 wpAny (model X.prog X.w) X.A (eval a X.env) (fun v s₁ => wpAny (model X.prog X.w) X.A (eval b X.env) (fun u s₂ => wpAny (model X.prog X.w) X.A (f v u) Q X.xe s₂) X.xe s₁) X.xe s := by
 refine thn (ha pins s σ H _ I h) fun v s1 z0 => ?_
 obtain ⟨x, H1, I1, r1, q1⟩ := z0
 refine thn (hb pins s1 σ H1 _ I1 q1) fun u s2 z0 => ?_
 obtain ⟨y, H2, I2, r2, q2⟩ := z0
 exact hf v u s2 x y H2 I2 r1 r2 q2
def tVar (i : Nat) : TE := fun σ H Q => ∃ v, σ[i]? = some (some v) /\ Q v H
def tC (v : V) : TE := fun _ H Q => Q v H
theorem Zi8 {i : Nat} {x : Str} {pos : Pos} (hN : X.N[i]? = some x) (hv : Vis X.env.scope x) (hd : (x == ("__debug__" : Str)) = false := by decide) (hcd : (x == ("__classdict__" : Str)) = false := by decide) : PE X (.Name x pos) (tVar i) := by
 intro pins s σ H Q I h
 obtain ⟨v, e, h⟩ := h
 obtain ⟨m, hn, hl⟩ := I.loc
 obtain ⟨u, r, l⟩ := hl i x v hN e hv
 have fin : EP X pins σ Q u s := ⟨v, H, I, r, h⟩
 rcases l with ⟨hk, hm⟩ | ⟨hk, c, hc, hcell⟩
 . exact wpAny_Name (wpAny_loadName_local I.ok.kind hk hn hm fin) hd
 . rcases hk with hk | hk
   . exact wpAny_Name (wpAny_loadName_cell I.ok.kind hk hc hcell fin) hd
   . exact wpAny_Name (wpAny_loadName_free I.ok.kind hk hc hcell fin hcd) hd
theorem ZI {i j pos} : PE X (.Constant (.int i) j pos) (tC (.int i)) := fun _ _ _ H _ I h => wpAny_Constant_int ⟨.int i, H, I.tok _, ⟨_, rfl⟩, h⟩
theorem ZcJ {b j pos} : PE X (.Constant (.bool b) j pos) (tC (.bl b)) := fun _ _ _ H _ I h => Constant_bool ⟨.bl b, H, I, rfl, h⟩
theorem Zgu {j pos} : PE X (.Constant .none j pos) (tC .non) := fun _ _ _ H _ I h => Constant_none ⟨.non, H, I, rfl, h⟩
theorem ZmQ {x j pos} : PE X (.Constant (.str x) j pos) (tC (.str x)) := fun _ _ _ H _ I h => Calls.Constant_str ⟨.str x, H, I.tok _, ⟨_, rfl⟩, h⟩
def Gl (X : Cx) (x : Str) : Prop := X.env.kindOf x = some .globalImplicit
theorem Zfk {E : VS} {pins : Pn} {s : Shared} {σ : St} {H : Hp} {x : Str} {u : Value} {pos : Pos} {Q : VS} (I : Inv X pins σ H s) (hg : Gl X x) (hm : X.mg x = some u) (h : Q u s)
 (hd : (x == ("__debug__" : Str)) = false := by decide) : wpAny (model X.prog X.w) X.A (eval (.Name x pos) X.env) Q E s :=
 Calls.Name_function_global I.ok.kind hg (Calls.loadGlobal_global (by rw [I.ok.glob]; exact I.mod.glob.keeps I.bk) hm h) hd
theorem ZaF {E : VS} {pins : Pn} {s : Shared} {σ : St} {H : Hp} {x : Str} {u : Value} {pos : Pos} {Q : VS} (I : Inv X pins σ H s) (hg : Gl X x) (hm : X.mg x = none) (hv : bootBuiltins x = some u) (h : Q u s)
 (hn : x ≠ "__name__" := by decide) (hd : (x == ("__debug__" : Str)) = false := by decide) : wpAny (model X.prog X.w) X.A (eval (.Name x pos) X.env) Q E s := by
 obtain ⟨mb, h1, h2⟩ := I.mod.blt
 exact Calls.Name_function_global I.ok.kind hg (Calls.loadGlobal_builtin (by rw [I.ok.glob]; exact I.mod.glob.keeps I.bk) hm (by rw [I.ok.blt]; exact h1.keeps I.bk) ((h2 x hn).trans hv) h) hd
theorem Zhx {x : Str} {v : V} {u : Value} {pos : Pos} (hg : Gl X x) (hm : X.mg x = some u) (r : RelV v u) (hd : (x == ("__debug__" : Str)) = false := by decide) : PE X (.Name x pos) (tC v) :=
 fun _ _ _ H _ I h => Zfk I hg hm ⟨v, H, I, r, h⟩ hd
theorem Zlp {x : Str} {v : V} {u : Value} {pos : Pos} (hg : Gl X x) (hm : X.mg x = none) (hv : bootBuiltins x = some u) (r : RelV v u) (hn : x ≠ "__name__" := by decide) (hd : (x == ("__debug__" : Str)) = false := by decide) : PE X (.Name x pos) (tC v) :=
 fun _ _ _ H _ I h => ZaF I hg hm hv ⟨v, H, I, r, h⟩ hn hd
variable {a b : Expr} {ta tb : TE} {pos : Pos}
def PC (X : Cx) (op : CmpOp) (a b : Expr) (t : TE) : Prop :=
 ∀ (pins : Pn) (s : Shared) (σ : St) (H : Hp) (Q : VK), Inv X pins σ H s -> t σ H Q ->
  wpAny (model X.prog X.w) X.A (eval a X.env) (fun v s₁ => wpAny (model X.prog X.w) X.A (eval b X.env) (fun u s₂ => wpAny (model X.prog X.w) X.A (compareOp op v u) (EP X pins σ Q) X.xe s₂) X.xe s₁) X.xe s
theorem ZjN (b : Expr) {op : CmpOp} (h : op ≠ .In) (h2 : op ≠ .NotIn) : behindInMarks op b = false := by
 have e1 : (op == CmpOp.In) = false := by cases op <;> first | rfl | exact absurd rfl h
 have e2 : (op == CmpOp.NotIn) = false := by cases op <;> first | rfl | exact absurd rfl h2
 cases b <;> simp [behindInMarks, e1, e2]
def tIsN (ta : TE) : TE := fun σ H Q => ta σ H fun x H1 => Q (.bl (decide (x = .non))) H1
theorem RelV.none_iff {x : V} {v : Value} (r : RelV x v) : (v == Value.none) = decide (x = .non) := by
 cases x with
 | non => cases r; rfl
 | bl _ => cases r; rfl
 | int _ => obtain ⟨t, rfl⟩ := r; rfl
 | str _ => obtain ⟨t, rfl⟩ := r; rfl
 | byt _ => obtain ⟨t, rfl⟩ := r; rfl
 | flt _ => obtain ⟨t, rfl⟩ := r; rfl
 | ref _ => cases r; rfl
 | ty _ => cases r; rfl
theorem ZmR {j pos'} (ha : PE X a ta) : PC X .Is a (.Constant .none j pos') (tIsN ta) := by
 intro pins s σ H Q I h
 refine thn (ha pins s σ H _ I h) fun v s1 z0 => ?_
 obtain ⟨x, H1, I1, r1, q1⟩ := z0
 exact Constant_none (is_none_gen ⟨.bl _, H1, I1, by rw [r1.none_iff]; rfl, q1⟩)
def tB (t : TE) : TT := fun σ H Q => t σ H fun x H1 => ∃ c, x = .bl c /\ Q c H1
theorem ZmS {op : CmpOp} {t : TE} (h : PC X op a b t) (h1 : behindInMarks op b = false := by first | exact ZjN _ (by decide) (by decide) | rfl) : PT X (.Compare a [op] [b] pos) (tB t) := by
 intro pins s σ H Q I hw
 refine wpAny_isTrue_Compare1 (thn (h pins s σ H _ I hw) fun v s1 h1 => thn h1 fun u s2 h2 => thn h2 fun c s3 z0 => ?_) h1
 obtain ⟨x, H1, I1, r1, q1⟩ := z0
 obtain ⟨d, rfl, q⟩ := q1
 cases r1
 exact wpAny_truthy_bool ⟨H1, I1, q⟩
variable {tA tB' : TT} {rest : List Expr}
def tAnd (t u : TT) : TT := fun σ H Q => t σ H fun c H1 => if c = true then u σ H1 Q else Q false H1
def tOr (t u : TT) : TT := fun σ H Q => t σ H fun c H1 => if c = true then Q true H1 else u σ H1 Q
def tNot (t : TT) : TT := fun σ H Q => t σ H fun c H1 => Q (!c) H1
theorem Zlq (ha : PT X a tA) : PW X (.BoolOp .And [a] pos) tA := by
 intro wh pins s σ H Q I h
 refine isTrue_and (thn (ha pins s σ H Q I h) fun c s1 e => ?_)
 cases c with
 | true => exact isTrue_and_nil e
 | false => exact e
theorem ZmT (ha : PT X a tA) : PW X (.BoolOp .Or [a] pos) tA := by
 intro wh pins s σ H Q I h
 refine isTrue_or (thn (ha pins s σ H Q I h) fun c s1 e => ?_)
 cases c with
 | false => exact isTrue_or_nil e
 | true => exact e
theorem ZmU (ha : PT X a tA) (hb : PW X (.BoolOp .And (b :: rest) pos) tB') : PW X (.BoolOp .And (a :: b :: rest) pos) (tAnd tA tB') := by
 intro wh pins s σ H Q I h
 refine isTrue_and (thn (ha pins s σ H _ I h) fun c s1 z0 => ?_)
 obtain ⟨H1, I1, q1⟩ := z0
 cases c with
 | true => exact hb wh pins s1 σ H1 Q I1 q1
 | false => exact ⟨H1, I1, q1⟩
theorem Zpd (ha : PT X a tA) (hb : PW X (.BoolOp .Or (b :: rest) pos) tB') : PW X (.BoolOp .Or (a :: b :: rest) pos) (tOr tA tB') := by
 intro wh pins s σ H Q I h
 refine isTrue_or (thn (ha pins s σ H _ I h) fun c s1 z0 => ?_)
 obtain ⟨H1, I1, q1⟩ := z0
 cases c with
 | true => exact ⟨H1, I1, q1⟩
 | false => exact hb wh pins s1 σ H1 Q I1 q1
theorem ZmV (ha : PT X a tA) : PT X (.UnaryOp .Not a pos) (tNot tA) := by
 intro pins s σ H Q I h
 exact isTrue_not (ha pins s σ H (fun c H1 => Q (!c) H1) I h)
def Zpe (ta tb : TE) : TE := fun σ H Q => ta σ H fun x H1 => ∃ c, x = .bl c /\ if c = true then tb σ H1 Q else Q (.bl false) H1
def Zpf (ta : TE) : TE := fun σ H Q => ta σ H fun x H1 => ∃ c, x = .bl c /\ Q (.bl (!c)) H1
theorem ZmW {op} {t : TE} (h : PE X a t) : PE X (.BoolOp op [a] pos) t := fun pins s σ H Q I hw => BoolOp_one (h pins s σ H Q I hw)
theorem ZmX (ha : PE X a ta) (hb : PE X (.BoolOp .And (b :: rest) pos) tb) : PE X (.BoolOp .And (a :: b :: rest) pos) (Zpe ta tb) := by
 intro pins s σ H Q I h
 refine BoolOp_and (thn (ha pins s σ H _ I h) fun v s1 z0 => ?_)
 obtain ⟨x, H1, I1, r1, q1⟩ := z0
 obtain ⟨c, rfl, q1⟩ := q1
 cases r1
 refine wpAny_truthy_bool ?_
 cases c with
 | true => exact hb pins s1 σ H1 Q I1 q1
 | false => exact ⟨.bl false, H1, I1, rfl, q1⟩
theorem ZmY (ha : PE X a ta) : PE X (.UnaryOp .Not a pos) (Zpf ta) := by
 intro pins s σ H Q I h
 refine UnaryOp_ (thn (ha pins s σ H _ I h) fun v s1 z0 => ?_)
 obtain ⟨x, H1, I1, r1, q1⟩ := z0
 obtain ⟨c, rfl, q1⟩ := q1
 cases r1
 exact not_of (wpAny_truthy_bool ⟨.bl (!c), H1, I1, rfl, q1⟩)
def tIf (t : TT) (ta tb : TE) : TE := fun σ H Q => t σ H fun c H1 => if c = true then ta σ H1 Q else tb σ H1 Q
theorem ZjO {c : Expr} (hc : PT X c tA) (ha : PE X a ta) (hb : PE X b tb) : PE X (.IfExp c a b pos) (tIf tA ta tb) := by
 intro pins s σ H Q I h
 refine wpAny_IfExp (thn (hc pins s σ H _ I h) fun d s1 z0 => ?_)
 obtain ⟨H1, I1, q1⟩ := z0
 cases d with
 | true => exact ha pins s1 σ H1 Q I1 q1
 | false => exact hb pins s1 σ H1 Q I1 q1
end
def SqL (K : Fg) (H : Hp) (a : Addr) (xs : List V) : Prop :=
 Rd H a (.lst xs) \/
  ∃ (o : Obj) (its : Array Value) (n : Nat), K.lookup a = some o /\ o.cls = .type "list" /\ o.dict = none /\ o.data = .seq its n /\ its.size <= sizeLine /\ Vals xs its.toList
def SqT (K : Fg) (H : Hp) (a : Addr) (xs : List V) : Prop :=
 Rd H a (.tup xs) \/
  ∃ (o : Obj) (its : Array Value) (n : Nat), K.lookup a = some o /\ o.cls = .type "tuple" /\ o.data = .seq its n /\ its.size <= sizeLine /\ Vals xs its.toList
noncomputable def absV : Value -> Option V
 | .none => some .non
 | .bool b => some (.bl b)
 | .int i _ => some (.int i)
 | .str x _ => some (.str x)
 | .bytes b _ => some (.byt b)
 | .float b _ => some (.flt b)
 | .ref a => some (.ref a)
 | .type n => some (.ty n)
 | _ => none
theorem RelV.abs {x : V} {u : Value} (r : RelV x u) : absV u = some x := by
 cases x with
 | non => cases r; rfl
 | bl _ => cases r; rfl
 | int _ => obtain ⟨t, rfl⟩ := r; rfl
 | str _ => obtain ⟨t, rfl⟩ := r; rfl
 | byt _ => obtain ⟨t, rfl⟩ := r; rfl
 | flt _ => obtain ⟨t, rfl⟩ := r; rfl
 | ref _ => cases r; rfl
 | ty _ => cases r; rfl
theorem RelV.inj {x y : V} {u : Value} (r : RelV x u) (q : RelV y u) : x = y := Option.some.inj (r.abs.symm.trans q.abs)
theorem Vals.inj : ∀ {xs ys : List V} {us : List Value}, Vals xs us -> Vals ys us -> xs = ys
 | _, _, _, .nil, .nil => rfl
 | _, _, _, .cons r t, .cons r' t' => by rw [r.inj r', Vals.inj t t']
section
variable {X : Cx} {pins : Pn} {σ : St} {H : Hp} {s : Shared} {a : Addr} {xs ys : List V}
theorem Inv.list (I : Inv X pins σ H s) (h : SqL X.K H a xs) : ∃ its : List Value, Vals xs its /\ PlainL s.heap a its.toArray /\ xs.length <= sizeLine := by
 rcases h with h | ⟨o, its, n, hk, hc, hd, hs, hz, r⟩
 . obtain ⟨z, its, n, r, e⟩ := h.ok I.hok
   exact ⟨its, r, ⟨_, n, e, rfl, rfl, rfl⟩, z⟩
 . refine ⟨its.toList, r, ⟨o, n, I.kIn a o hk, hc, hd, by simpa using hs⟩, ?_⟩
   have e := r.length
   simp only [Array.length_toList] at e
   omega
theorem Inv.tuple (I : Inv X pins σ H s) (h : SqT X.K H a xs) : ∃ its : List Value, Vals xs its /\ IsTup s.heap a its.toArray /\ xs.length <= sizeLine := by
 rcases h with h | ⟨o, its, n, hk, hc, hs, hz, r⟩
 . obtain ⟨z, its, r, p⟩ := h.ok I.hok
   exact ⟨its, r, p, z⟩
 . refine ⟨its.toList, r, ⟨o, I.kIn a o hk, hc, n, by simpa using hs⟩, ?_⟩
   have e := r.length
   simp only [Array.length_toList] at e
   omega
theorem Inv.list_inj (I : Inv X pins σ H s) (h : SqL X.K H a xs) (h' : SqL X.K H a ys) : xs = ys := by
 obtain ⟨its, r, ⟨o, n, e, _, _, d⟩, _⟩ := I.list h
 obtain ⟨its', r', ⟨o', n', e', _, _, d'⟩, _⟩ := I.list h'
 rw [e] at e'; cases e'
 rw [d] at d'
 injection d' with d1 _
 have : its = its' := by simpa using congrArg Array.toList d1
 subst this
 exact r.inj r'
theorem Inv.tuple_inj (I : Inv X pins σ H s) (h : SqT X.K H a xs) (h' : SqT X.K H a ys) : xs = ys := by
 obtain ⟨its, r, ⟨o, e, _, n, d⟩, _⟩ := I.tuple h
 obtain ⟨its', r', ⟨o', e', _, n', d'⟩, _⟩ := I.tuple h'
 rw [e] at e'; cases e'
 rw [d] at d'
 injection d' with d1 _
 have : its = its' := by simpa using congrArg Array.toList d1
 subst this
 exact r.inj r'
end
noncomputable abbrev Cx.wish (X : Cx) (E : VS) : Cx := { X with xe := E }
noncomputable abbrev Cx.nox (X : Cx) : Cx := X.wish fun _ _ => False
theorem Cx.Ok.wish {X : Cx} (ok : X.Ok) (E : VS) : (X.wish E).Ok :=
 ⟨ok.mod, ok.kind, ok.glob, ok.blt, ok.above, ok.inj, ok.has, ok.cab, ok.hd, ok.frames, ok.stk, ok.exf, ok.bs, ok.bsz, ok.noex, ok.exfs, ok.funs, ok.frf⟩
theorem Cx.Ok.unwish {X : Cx} {E : VS} (ok : (X.wish E).Ok) : X.Ok :=
 ⟨ok.mod, ok.kind, ok.glob, ok.blt, ok.above, ok.inj, ok.has, ok.cab, ok.hd, ok.frames, ok.stk, ok.exf, ok.bs, ok.bsz, ok.noex, ok.exfs, ok.funs, ok.frf⟩
section
variable {X : Cx} {pins : Pn} {σ : St} {H : Hp} {s : Shared} {E : VS}
theorem Inv.wish (I : Inv X pins σ H s) (E : VS) : Inv (X.wish E) pins σ H s := ⟨I.ok.wish E, I.os, I.bare, I.base, I.loc, I.cell, I.free, I.freeC, I.pin, I.hok, I.len⟩
theorem Inv.unwish (I : Inv (X.wish E) pins σ H s) : Inv X pins σ H s := ⟨I.ok.unwish, I.os, I.bare, I.base, I.loc, I.cell, I.free, I.freeC, I.pin, I.hok, I.len⟩
theorem SP.unwish {D : Ends} {f : Flow} {s' : Shared} (h : SP (X.wish E) pins D f s') : SP X pins D f s' := by
 cases f with
 | next => obtain ⟨σ', H', I, q⟩ := h; exact ⟨σ', H', I.unwish, q⟩
 | brk => obtain ⟨σ', H', I, q⟩ := h; exact ⟨σ', H', I.unwish, q⟩
 | cont => obtain ⟨σ', H', I, q⟩ := h; exact ⟨σ', H', I.unwish, q⟩
 | ret u => obtain ⟨v, σ', H', I, r, q⟩ := h; exact ⟨v, σ', H', I.unwish, r, q⟩
theorem PSs.nox {st : List Stmt} {t : TS} (h : PSs X.nox st t) : PSs X st t := fun pins s σ H D I hw =>
 wpAny_mono (h pins s σ H D (I.wish _) hw) (fun _ _ q => q.unwish) fun _ _ z => False.elim z
end
section
variable {X : Cx} {st : Stmt} {rest : List Stmt} {t u : TS} {e : Expr} {te : TE} {pos : Pos}
def Zpg : TS := fun D σ H => D.nx σ H
def tSeq (t u : TS) : TS := fun D σ H => t { D with nx := u D } σ H
theorem Zlr : PSs X [] Zpg := fun _ _ σ H _ I h => wpAny_execs_nil ⟨σ, H, I, h⟩
theorem ZjP (h1 : PS X st t) (h2 : PSs X rest u) : PSs X (st :: rest) (tSeq t u) := by
 intro pins s σ H D I h
 refine wpAny_execs_cons (thn (h1 pins s σ H { D with nx := u D } I h) fun f s1 q => ?_)
 cases f with
 | next =>
  obtain ⟨σ', H', I', q⟩ := q
  exact h2 pins s1 σ' H' D I' q
 | ret v => exact q
 | brk => exact q
 | cont => exact q
theorem Inv.quiet {pins : Pn} {σ : St} {H : Hp} {s : Shared} (I : Inv X pins σ H s) : interactive X.env = false := by simp [interactive, I.ok.kind]
def Zph (te : TE) : TS := fun D σ H => te σ H fun _ H1 => D.nx σ H1
theorem Zls (he : PE X e te) (hs : swapsWith e none pos.line X.env = pure false := by rfl) : PS X (.Expr e pos) (Zph te) := by
 intro pins s σ H D I h
 exact wpAny_Expr_any (thn (he pins s σ H _ I h) fun v s1 ⟨x, H1, I1, r1, q1⟩ => ⟨σ, H1, I1, q1⟩) I.quiet hs
def tRet (te : TE) : TS := fun D σ H => te σ H D.rt
theorem ZmZ (he : PE X e te) : PS X (.Return (some e) pos) (tRet te) := by
 intro pins s σ H D I h
 exact wpAny_Return_some (thn (he pins s σ H _ I h) fun v s1 ⟨x, H1, I1, r1, q1⟩ => ⟨x, σ, H1, I1, r1, q1⟩)
def tIfS (c : TT) (t u : TS) : TS := fun D σ H => c σ H fun b H1 => if b = true then t D σ H1 else u D σ H1
theorem Zpi {c : Expr} {a b : List Stmt} {tc : TT} (hc : PT X c tc) (ha : PSs X a t) (hb : PSs X b u) : PS X (.If c a b pos) (tIfS tc t u) := by
 intro pins s σ H D I h
 refine wpAny_If (thn (hc pins s σ H _ I h) fun d s1 z0 => ?_)
 obtain ⟨H1, I1, q1⟩ := z0
 cases d with
 | true => exact ha pins s1 σ H1 D I1 q1
 | false => exact hb pins s1 σ H1 D I1 q1
end
abbrev TG := V -> St -> Hp -> (St -> Hp -> Prop) -> Prop
abbrev TGs := List V -> St -> Hp -> (St -> Hp -> Prop) -> Prop
def PG (X : Cx) (target : Expr) (t : TG) : Prop :=
 ∀ (pins : Pn) (s : Shared) (σ : St) (H : Hp) (v : V) (u : Value) (Q : St -> Hp -> Prop), Inv X pins σ H s -> RelV v u -> t v σ H Q ->
  wpAny (model X.prog X.w) X.A (assign target X.env u) (fun _ s' => ∃ σ' H', Inv X pins σ' H' s' /\ Q σ' H') X.xe s
def PGs (X : Cx) (ts : List Expr) (t : TGs) : Prop :=
 ∀ (pins : Pn) (s : Shared) (σ : St) (H : Hp) (vs : List V) (us : List Value) (Q : St -> Hp -> Prop), Inv X pins σ H s -> Vals vs us -> t vs σ H Q ->
  wpAny (model X.prog X.w) X.A (assignInOrder ((assignEach ts X.env).map (·.2)) us) (fun _ s' => ∃ σ' H', Inv X pins σ' H' s' /\ Q σ' H') X.xe s
abbrev TSet := V -> V -> V -> Hp -> (Hp -> Prop) -> Prop
def PSet (X : Cx) (t : TSet) : Prop :=
 ∀ (pins : Pn) (s : Shared) (σ : St) (H : Hp) (o i v : V) (ov iv u : Value) (Q : Hp -> Prop), Inv X pins σ H s -> RelV o ov -> RelV i iv -> RelV v u -> t o i v H Q ->
  wpAny (model X.prog X.w) X.A (setItem ov iv u) (fun _ s' => ∃ H', Inv X pins σ H' s' /\ Q H') X.xe s
section
variable {X : Cx} {pos : Pos}
noncomputable def Zcu (i : Nat) : TG := fun v σ H Q => Q (σ.set i (some v)) H
theorem Zhy {i : Nat} {x : Str} (hN : X.N.Nodup) (hi : X.N[i]? = some x) (hx : Loc X.env.scope x) (hf : X.fn x = true \/ X.env.scope.names.lookup x = some .local := by first | exact .inl rfl | exact .inr rfl | assumption) : PG X (.Name x pos) (Zcu i) := by
 intro pins s σ H v u Q I r h
 exact wpAny_assign_Name (Zew I hN hi hx r (fun s' I' => ⟨_, H, I', h⟩) hf)
noncomputable def gNil : TGs := fun vs σ H Q => vs = [] /\ Q σ H
noncomputable def ZkS (t : TG) (u : TGs) : TGs := fun vs σ H Q => ∃ v r, vs = v :: r /\ t v σ H fun σ' H' => u r σ' H' Q
theorem Zlt : PGs X [] gNil := by
 intro pins s σ H vs us Q I r h
 obtain ⟨e, h⟩ := h
 subst e
 cases r
 exact assignInOrder_nil ⟨σ, H, I, h⟩
theorem ZjQ {e : Expr} {es : List Expr} {t : TG} {u : TGs} (h1 : PG X e t) (h2 : PGs X es u)
 (hs : (assignEach (e :: es) X.env).map (·.2) = assign e X.env :: (assignEach es X.env).map (·.2) := by rfl) : PGs X (e :: es) (ZkS t u) := by
 intro pins s σ H vs us Q I r h
 obtain ⟨v, vr, e1, h⟩ := h
 subst e1
 cases r with
 | cons r rr =>
  rw [hs]
  refine assignInOrder_cons (thn (h1 pins s σ H _ _ _ I r h) fun _ s1 z0 => ?_)
  obtain ⟨σ1, H1, I1, q1⟩ := z0
  exact h2 pins s1 σ1 H1 _ _ Q I1 rr q1
noncomputable def gTup (K : Fg) (n : Nat) (t : TGs) : TG := fun v σ H Q => ∃ a xs, v = .ref a /\ SqT K H a xs /\ xs.length = n /\ t xs σ H Q
theorem Zna {es : List Expr} {k : Nat} {t : TGs} {n : Nat} (hc : X.calm = true) (h : PGs X es t)
 (hn : (assignEach es X.env).length = n := by rfl) (hst : (assignEach es X.env).findIdx? (·.1) = none := by rfl) : PG X (.Tuple es k pos) (gTup X.K n t) := by
 intro pins s σ H v u Q I r hw
 obtain ⟨a, xs, e1, hq, hl, hw⟩ := hw
 subst e1
 cases r
 obtain ⟨its, rv, ht, hz⟩ := I.tuple hq
 refine assign_Tuple_tuple (I.ok.hd hc) ht (by simp [hn, <- hl, rv.length]) hst fun h' hx => ?_
 have I1 : Inv X pins σ H { s with heap := h' } := I.kept (t' := s.toks) fun b o e => hx b o (Nat.ne_of_lt (Heap.lt_size e)) e
 exact h pins _ σ H xs _ Q I1 (by simpa using rv) hw
noncomputable def gSub (to ti : TE) (t : TSet) : TG := fun v σ H Q => to σ H fun o H1 => ti σ H1 fun i H2 => t o i v H2 fun H3 => Q σ H3
theorem Znb {o i : Expr} {to ti : TE} {t : TSet} (ho : PE X o to) (hi : PE X i ti) (hs : PSet X t)
 (ha : ∀ v, assign (.Subscript o i pos) X.env v = (do
  let ov <- holding [v] (eval o X.env)
  let iv <- holding [v, ov] (eval i X.env)
  standAt pos
  holding [v, ov, iv] (setItem ov iv v)
  release [v, ov, iv] []) := by intro _; rfl) : PG X (.Subscript o i pos) (gSub to ti t) := by
 intro pins s σ H v u Q I r h
 rw [ha]
 refine wpAny_bind (wpAny_holding (thn (ho pins s σ H _ I h) fun ov s1 z0 => ?_))
 obtain ⟨x, H1, I1, r1, q1⟩ := z0
 refine wpAny_bind (wpAny_holding (thn (hi pins s1 σ H1 _ I1 q1) fun iv s2 z0 => ?_))
 obtain ⟨y, H2, I2, r2, q2⟩ := z0
 refine wpAny_bind (wpAny_standAt (wpAny_bind (wpAny_holding (thn (hs pins s2 σ H2 x y v ov iv u _ I2 r1 r2 r q2) fun _ s3 z0 => ?_))))
 obtain ⟨H3, I3, q3⟩ := z0
 exact wpAny_release ⟨σ, H3, I3, q3⟩
def tAsg (te : TE) (g : TG) : TS := fun D σ H => te σ H fun x H1 => g x σ H1 D.nx
theorem Zi9 {tg e : Expr} {te : TE} {g : TG} (he : PE X e te) (hg : PG X tg g) (hs : swapsWithSole [tg] e pos.line X.env = pure false := by rfl) (hw : swappedStores [tg] e X.env = pure none := by rfl)
 (h1 : (assignEach [tg] X.env).map (·.2) = [assign tg X.env] := by rfl) : PS X (.Assign [tg] e pos) (tAsg te g) := by
 intro pins s σ H D I h
 refine wpAny_Assign_stores (thn (he pins s σ H _ I h) fun v s1 z0 => ?_) hs hw
 obtain ⟨x, H1, I1, r1, q1⟩ := z0
 rw [h1]
 exact thn (hg pins s1 σ H1 x v _ I1 r1 q1) fun _ s2 q => q
theorem Znc {i : Nat} {x : Str} {e : Expr} {te : TE} {pos' : Pos} (hN : X.N.Nodup) (hi : X.N[i]? = some x) (hx : Loc X.env.scope x) (he : PE X e te) (hs : swapsWith e (some (.Name x pos')) pos.line X.env = pure false := by rfl) (hf : X.fn x = true \/ X.env.scope.names.lookup x = some .local := by first | exact .inl rfl | exact .inr rfl | assumption) :
 PS X (.Assign [.Name x pos'] e pos) (tAsg te (Zcu i)) := by
 intro pins s σ H D I h
 refine wpAny_Assign_Name (thn (he pins s σ H _ I h) fun v s1 z0 => ?_) hs
 obtain ⟨y, H1, I1, r1, q1⟩ := z0
 exact Zew I1 hN hi hx r1 (fun s2 I2 => ⟨_, H1, I2, q1⟩) hf
end
structure It where
 go : Nat -> Hp -> Prop
 yld : Nat -> Hp -> V -> Hp -> Prop
 stop : Nat -> Hp -> Prop
def FpOk (X : Cx) (pins : Pn) (H : Hp) (b : Addr) : Prop :=
 H b = none /\ b ≠ X.env.locals /\ b ∉ X.fs /\ (b ∈ X.ex \/ X.s₀.heap.objs.size <= b) /\ (∀ x c, X.env.cells.lookup x = some c -> c ≠ b) /\ ∀ p ∈ X.pn ++ pins, p.1 ≠ b
theorem Inv.fpOk {X : Cx} {pins : Pn} {σ : St} {H H' : Hp} {s : Shared} {b : Addr} (I : Inv X pins σ H s) (hb : s.heap.objs.size <= b) (hn : H' b = none) : FpOk X pins H' b := by
 refine ⟨hn, Nat.ne_of_gt (Nat.lt_of_lt_of_le I.lt hb), I.nofs hb, .inr (Nat.le_trans I.sz hb), fun x c e z => ?_, fun p hp z => ?_⟩
 . obtain ⟨v, q⟩ := I.cell x c e
   exact absurd (Nat.lt_of_lt_of_le q.lt (by rw [z]; exact hb)) (Nat.lt_irrefl _)
 . exact absurd (Nat.lt_of_lt_of_le (Heap.lt_size (I.pin p hp).1) (by rw [z]; exact hb)) (Nat.lt_irrefl _)
structure Turn (P : Program) (w : World) (K : Fg) (tg : Expr) (J : It) (fp : List Addr) (it : Addr) (tn : Nat -> Heap -> Prop) : Prop where
 mem : it ∈ fp
 obj : ∀ i h, tn i h -> ∀ b ∈ fp, ∃ o, h.get? b = some o /\ ∀ v, o.data ≠ .cell v
 keep : ∀ i h h', tn i h -> (∀ b ∈ fp, ∀ o, h.get? b = some o -> h'.get? b = some o) -> tn i h'
 item : ∀ (X : Cx), X.prog = P -> X.w = w -> X.K = K -> X.calm = true -> ∀ (i : Nat) (pins : Pn) (s : Shared) (σ : St) (H : Hp) (E : VS), Inv X pins σ H s -> (∀ b ∈ fp, FpOk X pins H b) -> tn i s.heap -> J.go i H ->
  wpAny (model P w) X.A (pyNext (.ref it)) (fun r s1 => ∃ u, r = some u /\
   wpAny (model P w) X.A (letOwnedTupleGo tg (.ref it) u) (fun _ s2 => ∃ x H', Inv X pins σ H' s2 /\ RelV x u /\ J.yld i H x H' /\ tn (i + 1) s2.heap /\ ∀ b ∈ fp, H' b = none) E s1) E s
 done : ∀ (X : Cx), X.prog = P -> X.w = w -> X.K = K -> X.calm = true -> ∀ (i : Nat) (pins : Pn) (s : Shared) (σ : St) (H : Hp) (E : VS), Inv X pins σ H s -> (∀ b ∈ fp, FpOk X pins H b) -> tn i s.heap -> J.stop i H ->
  wpAny (model P w) X.A (pyNext (.ref it)) (fun r s1 => r = none /\ Inv X pins σ H s1) E s
 self : ∀ (A : Around) (i : Nat) (s : Shared) (Q : VS) (E : VS), tn i s.heap -> Q (.ref it) s -> wpAny (model P w) A (pyIter (.ref it)) Q E s
abbrev TI := St -> Hp -> (It -> Hp -> Prop) -> Prop
def PIE (X : Cx) (pins : Pn) (σ : St) (tg : Expr) (R : It -> Hp -> Prop) (itv : Value) (s2 : Shared) : Prop :=
 ∃ (it : Addr) (fp : List Addr) (tn : Nat -> Heap -> Prop) (J : It) (H' : Hp), itv = .ref it /\ Inv X pins σ H' s2 /\ Turn X.prog X.w X.K tg J fp it tn /\ tn 0 s2.heap /\ (∀ b ∈ fp, FpOk X pins H' b) /\ R J H'
def PI (X : Cx) (tg iter : Expr) (wi : TI) : Prop :=
 ∀ (pins : Pn) (s : Shared) (σ : St) (H : Hp) (R : It -> Hp -> Prop), Inv X pins σ H s -> wi σ H R ->
  wpAny (model X.prog X.w) X.A (eval iter X.env) (fun v s1 => wpAny (model X.prog X.w) X.A (pyIter v) (PIE X pins σ tg R) X.xe s1) X.xe s
theorem ZeE {M : Model} {A : Around} {E : VS} {s : Shared} {tg : Expr} {it : Addr} {u : Value} {o : Obj} {n : String} {vs : Array Value} {Q : Unit -> Shared -> Prop} (ho : s.heap.get? it = some o) (hc : o.cls = .type n) (hd : o.data = .fields vs)
 (hn : ["enumerate", "zip", "dict_itemiterator", "dict_reverseitemiterator", "odict_iterator", "itertools.zip_longest", "itertools.pairwise"].contains n = false) (hQ : Q () s) : wpAny M A (letOwnedTupleGo tg (.ref it) u) Q E s := by
 unfold letOwnedTupleGo
 cases tg <;> first
  | exact wpAny_pure hQ
  | (cases u <;> first
   | exact wpAny_pure hQ
   | (refine wpAny_bind (wpAny_load ho ?_)
      rw [hc, hd]
      show wpAny M A (if (["enumerate", "zip", "dict_itemiterator", "dict_reverseitemiterator", "odict_iterator", "itertools.zip_longest", "itertools.pairwise"].contains n && vs[0]? == some (rawInt _)) = true then _ else _) Q E s
      rw [if_neg (by intro h; rw [hn, Bool.false_and] at h; cases h)]
      exact wpAny_pure hQ))
noncomputable def Itl (K : Fg) (a : Addr) : It :=
 ⟨fun i H => ∃ xs x, SqL K H a xs /\ xs[i]? = some x, fun i H x H' => H' = H /\ ∀ xs, SqL K H a xs -> xs[i]? = some x, fun i H => ∃ xs, SqL K H a xs /\ xs.length <= i⟩
noncomputable def Itt (K : Fg) (a : Addr) : It :=
 ⟨fun i H => ∃ xs x, SqT K H a xs /\ xs[i]? = some x, fun i H x H' => H' = H /\ ∀ xs, SqT K H a xs -> xs[i]? = some x, fun i H => ∃ xs, SqT K H a xs /\ xs.length <= i⟩
noncomputable def Itr (lo : Int) (n : Nat) : It := ⟨fun i _ => i < n, fun i H x H' => H' = H /\ x = .int (lo + i), fun i _ => n <= i⟩
theorem ZiA {P : Program} {w : World} {K : Fg} {tg : Expr} (a it : Addr) : Turn P w K tg (Itl K a) [it] it (fun i h => h.IsListIter it a i) where
 mem := by simp
 obj := fun i h st b hb => by
  have e : b = it := by simpa using hb
  subst e
  obtain ⟨o, e, c, d⟩ := st
  exact ⟨o, e, fun v z => by rw [d] at z; cases z⟩
 keep := fun i h h' st k => st.at fun o e => k it (by simp) o e
 item := by
  intro X hP hw hK hc i pins s σ H E I hf st hg
  subst hP hw hK
  obtain ⟨xs, x, hq, hx⟩ := hg
  obtain ⟨its, rv, p, hz⟩ := I.list hq
  obtain ⟨u, hu, ru⟩ := rv.get hx
  obtain ⟨f0, f1, f2, f3, f4, f5⟩ := hf it (by simp)
  refine wpAny_pyNext_list_item st p.isList (x := u) (by simpa using hu) fun h' st' sb => ?_
  have I1 : Inv X pins σ H { s with heap := h' } := I.turned (t' := s.toks) (fun b o hb e => (sb.2 b hb).trans e) f0 f1 f3 f4 f5
  obtain ⟨o, e, c, d⟩ := id st'
  exact ⟨u, rfl, ZeE (s := { s with heap := h' }) e c d (by decide) ⟨x, H, I1, ru, ⟨rfl, fun ys hy => by rw [I.list_inj hy hq]; exact hx⟩, st', fun b hb => (hf b hb).1⟩⟩
 done := by
  intro X hP hw hK hc i pins s σ H E I hf st hg
  subst hP hw hK
  obtain ⟨xs, hq, hx⟩ := hg
  obtain ⟨its, rv, p, hz⟩ := I.list hq
  obtain ⟨f0, f1, f2, f3, f4, f5⟩ := hf it (by simp)
  have hl := rv.length
  exact wpAny_pyNext_list_end (I.ok.hd hc) st p.isList (by simp; omega) fun h' eb => ⟨rfl, I.turned (t' := s.toks) (fun b o hb e => eb b o hb e) f0 f1 f3 f4 f5⟩
 self := fun _ _ _ _ _ st h => wpAny_pyIter_listiter st h
theorem ZhV {P : Program} {w : World} {K : Fg} {tg : Expr} (a it : Addr) : Turn P w K tg (Itt K a) [it] it (fun i h => h.IsTupleIter it a i) where
 mem := by simp
 obj := fun i h st b hb => by
  have e : b = it := by simpa using hb
  subst e
  obtain ⟨o, e, c, d⟩ := st
  exact ⟨o, e, fun v z => by rw [d] at z; cases z⟩
 keep := fun i h h' st k => st.at fun o e => k it (by simp) o e
 item := by
  intro X hP hw hK hc i pins s σ H E I hf st hg
  subst hP hw hK
  obtain ⟨xs, x, hq, hx⟩ := hg
  obtain ⟨its, rv, p, hz⟩ := I.tuple hq
  obtain ⟨u, hu, ru⟩ := rv.get hx
  obtain ⟨f0, f1, f2, f3, f4, f5⟩ := hf it (by simp)
  refine wpAny_pyNext_tuple_item st (show s.heap.IsTuple a its.toArray from p) (x := u) (by simpa using hu) fun h' st' sb => ?_
  have I1 : Inv X pins σ H { s with heap := h' } := I.turned (t' := s.toks) (fun b o hb e => (sb.2 b hb).trans e) f0 f1 f3 f4 f5
  obtain ⟨o, e, c, d⟩ := id st'
  exact ⟨u, rfl, ZeE (s := { s with heap := h' }) e c d (by decide) ⟨x, H, I1, ru, ⟨rfl, fun ys hy => by rw [I.tuple_inj hy hq]; exact hx⟩, st', fun b hb => (hf b hb).1⟩⟩
 done := by
  intro X hP hw hK hc i pins s σ H E I hf st hg
  subst hP hw hK
  obtain ⟨xs, hq, hx⟩ := hg
  obtain ⟨its, rv, p, hz⟩ := I.tuple hq
  obtain ⟨f0, f1, f2, f3, f4, f5⟩ := hf it (by simp)
  have hl := rv.length
  exact wpAny_pyNext_tuple_end (I.ok.hd hc) st (show s.heap.IsTuple a its.toArray from p) (by simp; omega) fun h' eb => ⟨rfl, I.turned (t' := s.toks) (fun b o hb e => eb b o hb e) f0 f1 f3 f4 f5⟩
 self := fun _ _ _ _ _ st h => wpAny_pyIter_tupleiter st h
theorem ZhW {P : Program} {w : World} {K : Fg} {tg : Expr} (it : Addr) (lo : Int) (n : Nat) : Turn P w K tg (Itr lo n) [it] it (fun i h => IsRangeIter h it (lo + (i : Nat) * 1) ((n : Int) - (i : Nat)) 1) where
 mem := by simp
 obj := fun i h st b hb => by
  have e : b = it := by simpa using hb
  subst e
  exact ⟨_, st, fun v z => by
   have z' : Data.fields _ = Data.cell v := z
   cases z'⟩
 keep := fun i h h' st k => k it (by simp) _ st
 item := by
  intro X hP hw hK hc i pins s σ H E I hf st hg
  subst hP hw hK
  obtain ⟨f0, f1, f2, f3, f4, f5⟩ := hf it (by simp)
  have W := Walks.range (prog := X.prog) (w := X.w) (I.ok.hd hc) it lo 1 n
  refine W.item i s _ _ hg st fun v h' tk hv st' kk => ?_
  obtain ⟨t, rfl⟩ := hv
  have I1 : Inv X pins σ H { s with heap := h', toks := tk } := I.turned (fun b o hb e => kk b o (by simpa using hb) e) f0 f1 f3 f4 f5
  refine ⟨_, rfl, ZeE (s := { s with heap := h', toks := tk }) (n := "range_iterator") st' rfl rfl (by decide) ⟨.int (lo + i), H, I1, ⟨t, ?_⟩, ⟨rfl, rfl⟩, st', fun b hb => (hf b hb).1⟩⟩
  rw [Int.mul_one]
 done := by
  intro X hP hw hK hc i pins s σ H E I hf st hg
  subst hP hw hK
  obtain ⟨f0, f1, f2, f3, f4, f5⟩ := hf it (by simp)
  exact wpAny_pyNext_range_end (I.ok.hd hc) st (by have : n <= i := hg; omega) fun h' eb => ⟨rfl, I.turned (t' := s.toks) (fun b o hb e => eb b o hb e) f0 f1 f3 f4 f5⟩
 self := fun _ _ _ _ _ st h => wpAny_pyIter_rangeiter st h
section
variable {X : Cx} {tg : Expr}
noncomputable def Zpj (K : Fg) (tl : TE) : TI := fun σ H R => tl σ H fun x H1 => ∃ a, x = .ref a /\ (∃ xs, SqL K H1 a xs) /\ R (Itl K a) H1
noncomputable def iTup (K : Fg) (tl : TE) : TI := fun σ H R => tl σ H fun x H1 => ∃ a, x = .ref a /\ (∃ xs, SqT K H1 a xs) /\ R (Itt K a) H1
theorem Zhz {l : Expr} {tl : TE} (hl : PE X l tl) : PI X tg l (Zpj X.K tl) := by
 intro pins s σ H R I h
 refine thn (hl pins s σ H _ I h) fun v s1 z0 => ?_
 obtain ⟨x, H1, I1, r1, q1⟩ := z0
 obtain ⟨a, e, ⟨xs, hq⟩, q⟩ := q1
 subst e
 cases r1
 obtain ⟨its, rv, p, hz⟩ := I1.list hq
 refine wpAny_pyIter_list p.isList ?_
 refine ⟨s1.heap.objs.size, [s1.heap.objs.size], _, _, H1, rfl, I1.kept (t' := s1.toks) fun b o e => Heap.get?_push_of_some _ e, ZiA a _, ⟨_, Heap.get?_push_size _ rfl, rfl, rfl⟩, fun b hb => ?_, q⟩
 have e : b = s1.heap.objs.size := by simpa using hb
 subst e
 exact I1.fpOk (Nat.le_refl _) (I1.hok.fresh (Nat.le_refl _))
theorem ZiB {l : Expr} {tl : TE} (hl : PE X l tl) : PI X tg l (iTup X.K tl) := by
 intro pins s σ H R I h
 refine thn (hl pins s σ H _ I h) fun v s1 z0 => ?_
 obtain ⟨x, H1, I1, r1, q1⟩ := z0
 obtain ⟨a, e, ⟨xs, hq⟩, q⟩ := q1
 subst e
 cases r1
 obtain ⟨its, rv, p, hz⟩ := I1.tuple hq
 refine wpAny_pyIter_tuple (show s1.heap.IsTuple a its.toArray from p) ?_
 refine ⟨s1.heap.objs.size, [s1.heap.objs.size], _, _, H1, rfl, I1.kept (t' := s1.toks) fun b o e => Heap.get?_push_of_some _ e, ZhV a _, ⟨_, Heap.get?_push_size _ rfl, rfl, rfl⟩, fun b hb => ?_, q⟩
 have e : b = s1.heap.objs.size := by simpa using hb
 subst e
 exact I1.fpOk (Nat.le_refl _) (I1.hok.fresh (Nat.le_refl _))
theorem Zgv {pins : Pn} {σ : St} {H : Hp} {s : Shared} {R : It -> Hp -> Prop} {E : VS} {lo hi : Int} {t u v : Tok} {tk : Nat} (I : Inv X pins σ H s) (h1 : -(2 ^ 62) <= lo) (h2 : lo < 2 ^ 62) (h3 : -(2 ^ 62) <= hi) (h4 : hi < 2 ^ 62)
 (q : R (Itr lo (hi - lo).toNat) H) : wpAny (model X.prog X.w) X.A (pyIter (.ref s.heap.objs.size)) (PIE X pins σ tg R) E { s with heap := s.heap.push { cls := .type "range", data := .fields #[.int lo t, .int hi u, .int 1 v] }, toks := tk } := by
 refine wpAny_pyIter_range (IsRange.new ..) (small_one h1 h2 h3 h4) ?_
 have I1 : Inv X pins σ H { s with heap := s.heap.push { cls := .type "range", data := .fields #[.int lo t, .int hi u, .int 1 v] }, toks := tk } := I.kept fun b o e => Heap.get?_push_of_some _ e
 refine ⟨(s.heap.push { cls := .type "range", data := .fields #[.int lo t, .int hi u, .int 1 v] }).objs.size, [(s.heap.push { cls := .type "range", data := .fields #[.int lo t, .int hi u, .int 1 v] }).objs.size], _, _, H, rfl,
  I1.kept (t' := tk) fun b o e => Heap.get?_push_of_some _ e, ZhW _ lo (hi - lo).toNat, ?_, fun b hb => ?_, q⟩
 . have e1 : lo + ((0 : Nat) : Int) * 1 = lo := by simp
   have e2 : (((hi - lo).toNat : Nat) : Int) - ((0 : Nat) : Int) = Builtin.Range.rangeSize lo hi 1 := by rw [rangeSize_one]; split <;> omega
   show IsRangeIter _ _ (lo + ((0 : Nat) : Int) * 1) ((((hi - lo).toNat : Nat) : Int) - ((0 : Nat) : Int)) 1
   rw [e1, e2]
   exact Heap.get?_push_size _ rfl
 . have e : b = (s.heap.push { cls := .type "range", data := .fields #[.int lo t, .int hi u, .int 1 v] }).objs.size := by simpa using hb
   subst e
   exact I1.fpOk (Nat.le_refl _) (I1.hok.fresh (Nat.le_refl _))
noncomputable def Zpk (ta : TA) : TI := fun σ H R => ta σ H fun vs H1 => ∃ j : Int, vs = [.int j] /\ -(2 ^ 62) <= j /\ j < 2 ^ 62 /\ R (Itr 0 j.toNat) H1
noncomputable def Zpl (ta : TA) : TI := fun σ H R => ta σ H fun vs H1 => ∃ i j : Int, vs = [.int i, .int j] /\ (-(2 ^ 62) <= i /\ i < 2 ^ 62 /\ -(2 ^ 62) <= j /\ j < 2 ^ 62) /\ R (Itr i (j - i).toNat) H1
theorem ZiC {a : Expr} {ta : TA} {p pos : Pos} (hg : Gl X "range") (hm : X.mg "range" = none) (ha : PA X [a] ta) (hs : starEach [a] X.env = [(false, eval a X.env)] := by rfl) : PI X tg (.Call (.Name "range" p) [a] [] pos) (Zpk ta) := by
 intro pins s σ H R I h
 refine Call_ (ZaF I hg hm boot_range (PyProof.Rows.callWith_type1 (thn (ha pos pins s σ H _ I h) fun us s1 z0 => ?_) hs rfl))
 obtain ⟨vs, H1, I1, r1, q1⟩ := z0
 obtain ⟨j, e, q1, q2, q⟩ := q1
 subst e
 cases r1 with
 | cons r rr =>
  cases rr
  obtain ⟨t, rfl⟩ := r
  exact call_range_1 (Zgv I1 (by omega) (by omega) q1 q2 (by simpa using q))
theorem ZiD {a b : Expr} {ta : TA} {p pos : Pos} (hg : Gl X "range") (hm : X.mg "range" = none) (ha : PA X [a, b] ta) (hs : starEach [a, b] X.env = [(false, eval a X.env), (false, eval b X.env)] := by rfl) (hs2 : starEach [b] X.env = [(false, eval b X.env)] := by rfl) :
 PI X tg (.Call (.Name "range" p) [a, b] [] pos) (Zpl ta) := by
 intro pins s σ H R I h
 refine Call_ (ZaF I hg hm boot_range (PyProof.Rows.callWith_type1 (thn (ha pos pins s σ H _ I h) fun us s1 z0 => ?_) (by show _ = _; rw [hs, hs2]) (by show _ = _; rw [hs2]; rfl)))
 obtain ⟨vs, H1, I1, r1, q1⟩ := z0
 obtain ⟨i, j, e, ⟨q1, q2, q3, q4⟩, q⟩ := q1
 subst e
 cases r1 with
 | cons r rr =>
  cases rr with
  | cons r' rr =>
   cases rr
   obtain ⟨t, rfl⟩ := r
   obtain ⟨t', rfl⟩ := r'
   exact call_range_2 (Zgv I1 q1 q2 q3 q4 q)
def tFor (wi : TI) (g : TG) (tb : TS) : TS := fun D σ H => wi σ H fun J H1 => ∃ W : Nat -> Nat -> St -> Hp -> Prop, (∃ m, W 0 m σ H1) /\ ∀ i m σ H, W i m σ H ->
 (J.stop i H /\ D.nx σ H) \/ (J.go i H /\ ∃ N : St -> Hp -> Prop, (∀ σ' H', N σ' H' -> ∃ m', m' < m /\ W (i + 1) m' σ' H') /\ ∀ x H', J.yld i H x H' -> g x σ H' fun σ2 H2 => tb { D with nx := N, ct := N, bk := D.nx } σ2 H2)
noncomputable def Zdo (fp : List Addr) (h : Heap) : List (Addr × Obj) := fp.filterMap fun b => (h.get? b).map fun o => (b, o)
theorem ZbR {fp : List Addr} {h : Heap} {b : Addr} {o : Obj} (hb : b ∈ fp) (e : h.get? b = some o) : (b, o) ∈ Zdo fp h := List.mem_filterMap.mpr ⟨b, hb, by rw [e]; rfl⟩
theorem ZiE {fp : List Addr} {h : Heap} {p : Addr × Obj} (hp : p ∈ Zdo fp h) : p.1 ∈ fp /\ h.get? p.1 = some p.2 := by
 obtain ⟨b, hb, e⟩ := List.mem_filterMap.mp hp
 cases q : h.get? b with
 | none => rw [q] at e; cases e
 | some o =>
  rw [q] at e
  have e' : (b, o) = p := Option.some.inj e
  subst e'
  exact ⟨hb, q⟩
theorem Inv.pinned {pins : Pn} {σ : St} {H : Hp} {s : Shared} {fp : List Addr} (I : Inv X pins σ H s) (hf : ∀ b ∈ fp, FpOk X pins H b) (ho : ∀ b ∈ fp, ∃ o, s.heap.get? b = some o /\ ∀ v, o.data ≠ .cell v) : Inv X (pins ++ Zdo fp s.heap) σ H s :=
 I.pins_of fun p hp => (List.mem_append.mp hp).elim (fun z => I.pin p (List.mem_append_right _ z)) fun z => by
  obtain ⟨hb, e⟩ := ZiE z
  obtain ⟨f0, f1, f2, _⟩ := hf p.1 hb
  obtain ⟨o, e', d⟩ := ho p.1 hb
  rw [e] at e'; cases e'
  exact ⟨e, f0, f1, f2, d⟩
theorem Inv.unpinned {pins pl : Pn} {σ : St} {H : Hp} {s : Shared} (I : Inv X (pins ++ pl) σ H s) : Inv X pins σ H s := I.pins_of fun p hp => I.pin p (List.mem_append_right _ (List.mem_append_left _ hp))
theorem Znd {iter : Expr} {body : List Stmt} {wi : TI} {g : TG} {tb : TS} {pos : Pos} (hp : PassesOwn (model X.prog X.w) X.A X.env X.xe) (hc : X.calm = true) (hi : PI X tg iter wi) (hg : PG X tg g) (hb : PSs X body tb)
 (hs : ∀ x, foldedSetIterable iter X.env x = pure x := by intro _; rfl) : PS X (.For tg iter body [] pos) (tFor wi g tb) := by
 intro pins s σ H D I h
 refine wpAny_For (thn (hi pins s σ H _ I h) fun v s1 h1 => thn h1 fun itv s2 h2 => ?_) hs
 obtain ⟨it, fp, tn, J, H2, e, I2, T, st2, f2, W, ⟨m0, w0⟩, turn⟩ := h2
 subst e
 have stat : ∀ {H' : Hp}, (∀ b ∈ fp, H' b = none) -> ∀ b ∈ fp, FpOk X pins H' b := fun hn b hb => ⟨hn b hb, (f2 b hb).2⟩
 refine codeAny_forLoop_any (fun n s' => ∃ i σ' H', Inv X pins σ' H' s' /\ tn i s'.heap /\ (∀ b ∈ fp, H' b = none) /\ W i n σ' H') ?_ m0 ⟨0, σ, H2, I2, st2, fun b hb => (f2 b hb).1, w0⟩
 rintro n s3 ⟨i, σ3, H3, I3, st3, fr3, w3⟩
 rcases turn i n σ3 H3 w3 with ⟨stop, qn⟩ | ⟨go, N, hN, step⟩
 . refine wpAny_passesOwn hp (thn (T.done X rfl rfl rfl hc i pins s3 σ3 H3 X.xe I3 (stat fr3) st3 stop) fun r s4 z0 => ?_)
   obtain ⟨hr, I4⟩ := z0
   subst hr
   exact wpAny_execs_nil ⟨σ3, H3, I4, qn⟩
 . refine wpAny_passesOwn hp (thn (T.item X rfl rfl rfl hc i pins s3 σ3 H3 X.xe I3 (stat fr3) st3 go) fun r s4 z0 => ?_)
   obtain ⟨u, hr, h4⟩ := z0
   subst hr
   refine wpAny_passesOwn hp (thn h4 fun _ s5 z0 => ?_)
   obtain ⟨x, H5, I5, r5, y5, st5, fr5⟩ := z0
   have I5' := I5.pinned (stat fr5) (T.obj _ _ st5)
   refine wpAny_passesOwn hp (thn (hg _ s5 σ3 H5 x u _ I5' r5 (step x H5 y5)) fun _ s6 z0 => ?_)
   obtain ⟨σ6, H6, I6, q6⟩ := z0
   refine wpAny_passesOwn hp (thn (hb _ s6 σ6 H6 _ I6 q6) fun f s7 q7 => ?_)
   have again : ∀ {σ7 : St} {H7 : Hp}, Inv X (pins ++ Zdo fp s5.heap) σ7 H7 s7 -> N σ7 H7 -> ∃ m, m < n /\ ∃ i σ' H', Inv X pins σ' H' s7 /\ tn i s7.heap /\ (∀ b ∈ fp, H' b = none) /\ W i m σ' H' := fun {σ7 H7} I7 n7 => by
    obtain ⟨m', hm, w7⟩ := hN σ7 H7 n7
    refine ⟨m', hm, i + 1, σ7, H7, I7.unpinned, T.keep _ _ _ st5 fun b hb o e => (I7.pin (b, o) (List.mem_append_right _ (List.mem_append_right _ (ZbR hb e)))).1, fun b hb => ?_, w7⟩
    obtain ⟨o, e, d⟩ := T.obj _ _ st5 b hb
    exact (I7.pin (b, o) (List.mem_append_right _ (List.mem_append_right _ (ZbR hb e)))).2.1
   cases f with
   | next => obtain ⟨σ7, H7, I7, n7⟩ := q7; exact again I7 n7
   | cont => obtain ⟨σ7, H7, I7, n7⟩ := q7; exact again I7 n7
   | brk => obtain ⟨σ7, H7, I7, q7⟩ := q7; exact ⟨σ7, H7, I7.unpinned, q7⟩
   | ret v => obtain ⟨x7, σ7, H7, I7, r7, q7⟩ := q7; exact ⟨x7, σ7, H7, I7.unpinned, r7, q7⟩
end
abbrev R2 := V -> V -> Hp -> VK -> Prop
def OpR (X : Cx) (f : Value -> Value -> Sem Value) (r : R2) : Prop :=
 ∀ (pins : Pn) (s : Shared) (σ : St) (H : Hp) (x y : V) (v u : Value) (Q : VK), Inv X pins σ H s -> RelV x v -> RelV y u -> r x y H Q ->
  wpAny (model X.prog X.w) X.A (f v u) (EP X pins σ Q) X.xe s
def UnR (X : Cx) (f : Value -> Sem Value) (r : V -> Hp -> VK -> Prop) : Prop :=
 ∀ (pins : Pn) (s : Shared) (σ : St) (H : Hp) (x : V) (v : Value) (Q : VK), Inv X pins σ H s -> RelV x v -> r x H Q ->
  wpAny (model X.prog X.w) X.A (f v) (EP X pins σ Q) X.xe s
def ZA (X : Cx) (f : Value) (r : List V -> Hp -> VK -> Prop) : Prop :=
 ∀ (pins : Pn) (s : Shared) (σ : St) (H : Hp) (xs : List V) (us : List Value) (Q : VK), Inv X pins σ H s -> Vals xs us -> r xs H Q ->
  wpAny (model X.prog X.w) X.A (call f us) (EP X pins σ Q) X.xe s
def TruR (X : Cx) (r : V -> Hp -> (Bool -> Hp -> Prop) -> Prop) : Prop :=
 ∀ (pins : Pn) (s : Shared) (σ : St) (H : Hp) (x : V) (v : Value) (Q : Bool -> Hp -> Prop), Inv X pins σ H s -> RelV x v -> r x H Q ->
  wpAny (model X.prog X.w) X.A (truthy v) (TP X pins σ Q) X.xe s
def tOp (r : R2) (ta tb : TE) : TE := fun σ H Q => ta σ H fun x H1 => tb σ H1 fun y H2 => r x y H2 Q
def tUn (r : V -> Hp -> VK -> Prop) (ta : TE) : TE := fun σ H Q => ta σ H fun x H1 => r x H1 Q
def rI (C : Int -> Int -> Prop) (g : Int -> Int -> V) : R2 := fun x y H Q => ∃ i j, x = .int i /\ y = .int j /\ C i j /\ Q (g i j) H
def rI0 (g : Int -> Int -> V) : R2 := fun x y H Q => ∃ i j, x = .int i /\ y = .int j /\ Q (g i j) H
def rU (g : Int -> V) : V -> Hp -> VK -> Prop := fun x H Q => ∃ i, x = .int i /\ Q (g i) H
section
variable {X : Cx} {a b c : Expr} {ta tb tc : TE} {pos : Pos}
theorem binT (ha : PE X a ta) (hb : PE X b tb) {pins : Pn} {s : Shared} {σ : St} {H : Hp} {R : V -> V -> Hp -> Prop} (I : Inv X pins σ H s)
 (h : ta σ H fun x H1 => tb σ H1 fun y H2 => R x y H2) {Q : VS} {f : Value -> Value -> Sem Value}
 (hf : ∀ v u s2 x y H2, Inv X pins σ H2 s2 -> RelV x v -> RelV y u -> R x y H2 -> wpAny (model X.prog X.w) X.A (f v u) Q X.xe s2) :
 wpAny (model X.prog X.w) X.A (eval a X.env) (fun v s₁ => wpAny (model X.prog X.w) X.A (eval b X.env) (fun u s₂ => wpAny (model X.prog X.w) X.A (f v u) Q X.xe s₂) X.xe s₁) X.xe s := by
 refine thn (ha pins s σ H _ I h) fun v s1 z0 => ?_
 obtain ⟨x, H1, I1, r1, q1⟩ := z0
 refine thn (hb pins s1 σ H1 _ I1 q1) fun u s2 z0 => ?_
 obtain ⟨y, H2, I2, r2, q2⟩ := z0
 exact hf v u s2 x y H2 I2 r1 r2 q2
theorem Zpm {op : Operator} {r : R2} (ho : OpR X (binaryOp op) r) (ha : PE X a ta) (hb : PE X b tb) : PE X (.BinOp a op b pos) (tOp r ta tb) := by
 intro pins s σ H Q I h
 exact wpAny_BinOp (binT ha hb I h fun v u s2 x y H2 I2 rx ry q => ho pins s2 σ H2 x y v u Q I2 rx ry q)
theorem ZkT {op : UnaryOp} {r : V -> Hp -> VK -> Prop} (ho : UnR X (unaryOp op) r) (ha : PE X a ta) : PE X (.UnaryOp op a pos) (tUn r ta) := by
 intro pins s σ H Q I h
 exact UnaryOp_ (thn (ha pins s σ H _ I h) fun v s1 ⟨x, H1, I1, r1, q1⟩ => ho pins s1 σ H1 x v Q I1 r1 q1)
theorem opI {f : Value -> Value -> Sem Value} {C : Int -> Int -> Prop} {g : Int -> Int -> Int}
 (rule : ∀ (i j : Int) (t u : Tok) (s : Shared) (Q : VS) (E : VS), C i j -> Q (.int (g i j) s.toks) { s with toks := s.toks + 1 } -> wpAny (model X.prog X.w) X.A (f (.int i t) (.int j u)) Q E s) :
 OpR X f (rI C fun i j => .int (g i j)) := by
 intro pins s σ H x y v u Q I rx ry h
 obtain ⟨i, j, rfl, rfl, hc, q⟩ := h
 obtain ⟨t, rfl⟩ := rx
 obtain ⟨t', rfl⟩ := ry
 exact rule i j t t' s _ _ hc ⟨.int (g i j), H, I.tok _, ⟨_, rfl⟩, q⟩
theorem opI0 {f : Value -> Value -> Sem Value} {g : Int -> Int -> Int}
 (rule : ∀ (i j : Int) (t u : Tok) (s : Shared) (Q : VS) (E : VS), Q (.int (g i j) s.toks) { s with toks := s.toks + 1 } -> wpAny (model X.prog X.w) X.A (f (.int i t) (.int j u)) Q E s) :
 OpR X f (rI0 fun i j => .int (g i j)) := by
 intro pins s σ H x y v u Q I rx ry h
 obtain ⟨i, j, rfl, rfl, q⟩ := h
 obtain ⟨t, rfl⟩ := rx
 obtain ⟨t', rfl⟩ := ry
 exact rule i j t t' s _ _ ⟨.int (g i j), H, I.tok _, ⟨_, rfl⟩, q⟩
theorem opB0 {f : Value -> Value -> Sem Value} {g : Int -> Int -> Bool}
 (rule : ∀ (i j : Int) (t u : Tok) (s : Shared) (Q : VS) (E : VS), Q (.bool (g i j)) s -> wpAny (model X.prog X.w) X.A (f (.int i t) (.int j u)) Q E s) :
 OpR X f (rI0 fun i j => .bl (g i j)) := by
 intro pins s σ H x y v u Q I rx ry h
 obtain ⟨i, j, rfl, rfl, q⟩ := h
 obtain ⟨t, rfl⟩ := rx
 obtain ⟨t', rfl⟩ := ry
 exact rule i j t t' s _ _ ⟨.bl (g i j), H, I, rfl, q⟩
def CPow (i j : Int) : Prop := 0 <= j /\ j <= 1000000 /\ i.natAbs < 2 ^ 64
def CMul (i j : Int) : Prop := (-(2 ^ 64) < i /\ i < 2 ^ 64) \/ (-(2 ^ 64) < j /\ j < 2 ^ 64)
theorem CMul.ok {i j : Int} (h : CMul i j) : IntMulOk i j := by
 rcases h with ⟨h1, h2⟩ | ⟨h1, h2⟩
 . exact .of_left (intBits_le_64 h1 h2)
 . exact .of_right (intBits_le_64 h1 h2)
theorem Zne : OpR X (binaryOp .Add) (rI0 fun i j => .int (i + j)) := opI0 fun _ _ _ _ _ _ _ q => add_int q
theorem Znf : OpR X (binaryOp .Sub) (rI0 fun i j => .int (i - j)) := opI0 fun _ _ _ _ _ _ _ q => sub_int q
theorem Zng : OpR X (binaryOp .Mult) (rI CMul fun i j => .int (i * j)) := opI fun _ _ _ _ _ _ _ hc q => mul_int q hc.ok
theorem Znh : OpR X (binaryOp .Mod) (rI (fun _ j => 0 < j) fun i j => .int (i % j)) := opI fun i j _ _ _ _ _ hc q => by
 have h1 : (0 : Int) < j := hc
 exact mod_int' (by omega) (by rw [Int.fmod_eq_emod_of_nonneg i (by omega)]; exact q)
theorem Zni : OpR X (binaryOp .Pow) (rI CPow fun i j => .int (i ^ j.toNat)) := opI fun _ _ _ _ _ _ _ hc q => pow_int_small hc.1 hc.2.1 hc.2.2 q
theorem unI {f : Value -> Sem Value} {g : Int -> Int}
 (rule : ∀ (i : Int) (t : Tok) (s : Shared) (Q : VS) (E : VS), Q (.int (g i) s.toks) { s with toks := s.toks + 1 } -> wpAny (model X.prog X.w) X.A (f (.int i t)) Q E s) :
 UnR X f (rU fun i => .int (g i)) := by
 intro pins s σ H x v Q I rx h
 obtain ⟨i, rfl, q⟩ := h
 obtain ⟨t, rfl⟩ := rx
 exact rule i t s _ _ ⟨.int (g i), H, I.tok _, ⟨_, rfl⟩, q⟩
theorem ZiF : UnR X (unaryOp .USub) (rU fun i => .int (-i)) := unI fun _ _ _ _ _ q => neg_int q
end
noncomputable def scal : V -> V -> Bool
 | .non, .non => true | .non, .int _ => true | .int _, .non => true | .non, .bl _ => true | .bl _, .non => true | .non, .str _ => true | .str _, .non => true
 | .int _, .int _ => true | .bl _, .bl _ => true | .str _, .str _ => true | .byt _, .byt _ => true
 | .int _, .str _ => true | .str _, .int _ => true | .bl _, .str _ => true | .str _, .bl _ => true
 | _, _ => false
def rEq : R2 := fun x y H Q => scal x y = true /\ Q (.bl (decide (x = y))) H
def rNe : R2 := fun x y H Q => scal x y = true /\ Q (.bl (!decide (x = y))) H
theorem Zh0 {i j : Int} : decide (V.int i = V.int j) = (i == j) := by
 rw [Bool.eq_iff_iff]
 simp
theorem ZiG {i j : Bool} : decide (V.bl i = V.bl j) = (i == j) := by
 rw [Bool.eq_iff_iff]
 simp
theorem Zh1 {i j : Str} : decide (V.str i = V.str j) = (i == j) := by
 rw [Bool.eq_iff_iff]
 simp
theorem Zh2 {i j : Array UInt8} : decide (V.byt i = V.byt j) = (i.toList == j.toList) := by
 rw [Bool.eq_iff_iff]
 cases i
 cases j
 simp
section
variable {X : Cx} {a b c : Expr} {ta tb tc : TE} {pos : Pos}
theorem Zv {pins : Pn} {σ : St} {H : Hp} {s : Shared} {Q : VK} {k k' : Bool} (I : Inv X pins σ H s) (q : Q (.bl k) H) (e : k = k') : EP X pins σ Q (.bool k') s := by
 subst e
 exact ⟨.bl k, H, I, rfl, q⟩
theorem ZkU : OpR X (compareOp .Eq) rEq := by
 intro pins s σ H x y v u Q I rx ry h
 obtain ⟨hs, q⟩ := h
 cases x with
 | non =>
  cases rx
  cases y with
  | non => cases ry; exact PySem.EqNone.eq_none_none (Zv I q (by simp))
  | bl j => cases ry; exact PySem.EqNone.eq_none_bool (Zv I q (by simp))
  | int j => obtain ⟨t', rfl⟩ := ry; exact PySem.EqNone.eq_none_int (Zv I q (by simp))
  | str j => obtain ⟨t', rfl⟩ := ry; exact PySem.EqNone.eq_none_str (Zv I q (by simp))
  | _ => exact absurd (show false = true from hs) Bool.false_ne_true
 | bl i =>
  cases rx
  cases y with
  | non => cases ry; exact PySem.EqNone.eq_bool_none (Zv I q (by simp))
  | bl j => cases ry; exact eq_bool (Zv I q ZiG)
  | str j => obtain ⟨t', rfl⟩ := ry; exact PySem.EqMixed.eq_bool_str (Zv I q (by simp))
  | _ => exact absurd (show false = true from hs) Bool.false_ne_true
 | int i =>
  obtain ⟨t, rfl⟩ := rx
  cases y with
  | non => cases ry; exact PySem.EqNone.eq_int_none (Zv I q (by simp))
  | int j => obtain ⟨t', rfl⟩ := ry; exact eq_int (Zv I q Zh0)
  | str j => obtain ⟨t', rfl⟩ := ry; exact PySem.EqMixed.eq_int_str (Zv I q (by simp))
  | _ => exact absurd (show false = true from hs) Bool.false_ne_true
 | str i =>
  obtain ⟨t, rfl⟩ := rx
  cases y with
  | non => cases ry; exact PySem.EqNone.eq_str_none (Zv I q (by simp))
  | bl j => cases ry; exact PySem.EqMixed.eq_str_bool (Zv I q (by simp))
  | int j => obtain ⟨t', rfl⟩ := ry; exact PySem.EqMixed.eq_str_int (Zv I q (by simp))
  | str j => obtain ⟨t', rfl⟩ := ry; exact eq_str (Zv I q Zh1)
  | _ => exact absurd (show false = true from hs) Bool.false_ne_true
 | byt i =>
  obtain ⟨t, rfl⟩ := rx
  cases y with
  | byt j => obtain ⟨t', rfl⟩ := ry; exact PySem.W.eq_bytes (Zv I q Zh2)
  | _ => exact absurd (show false = true from hs) Bool.false_ne_true
 | _ => cases y <;> exact absurd (show false = true from hs) Bool.false_ne_true
theorem ZkV : OpR X (compareOp .NotEq) rNe := by
 intro pins s σ H x y v u Q I rx ry h
 obtain ⟨hs, q⟩ := h
 cases x with
 | non =>
  cases rx
  cases y with
  | non => cases ry; exact PySem.EqNone.ne_none_none (Zv I q (by simp))
  | bl j => cases ry; exact PySem.EqNone.ne_none_bool (Zv I q (by simp))
  | int j => obtain ⟨t', rfl⟩ := ry; exact PySem.EqNone.ne_none_int (Zv I q (by simp))
  | str j => obtain ⟨t', rfl⟩ := ry; exact PySem.EqNone.ne_none_str (Zv I q (by simp))
  | _ => exact absurd (show false = true from hs) Bool.false_ne_true
 | bl i =>
  cases rx
  cases y with
  | non => cases ry; exact PySem.EqNone.ne_bool_none (Zv I q (by simp))
  | bl j => cases ry; exact ne_bool (Zv I q (congrArg not ZiG))
  | str j => obtain ⟨t', rfl⟩ := ry; exact PySem.EqMixed.ne_bool_str (Zv I q (by simp))
  | _ => exact absurd (show false = true from hs) Bool.false_ne_true
 | int i =>
  obtain ⟨t, rfl⟩ := rx
  cases y with
  | non => cases ry; exact PySem.EqNone.ne_int_none (Zv I q (by simp))
  | int j => obtain ⟨t', rfl⟩ := ry; exact ne_int (Zv I q (congrArg not Zh0))
  | str j => obtain ⟨t', rfl⟩ := ry; exact PySem.EqMixed.ne_int_str (Zv I q (by simp))
  | _ => exact absurd (show false = true from hs) Bool.false_ne_true
 | str i =>
  obtain ⟨t, rfl⟩ := rx
  cases y with
  | non => cases ry; exact PySem.EqNone.ne_str_none (Zv I q (by simp))
  | bl j => cases ry; exact PySem.EqMixed.ne_str_bool (Zv I q (by simp))
  | int j => obtain ⟨t', rfl⟩ := ry; exact PySem.EqMixed.ne_str_int (Zv I q (by simp))
  | str j => obtain ⟨t', rfl⟩ := ry; exact ne_str (Zv I q (congrArg not Zh1))
  | _ => exact absurd (show false = true from hs) Bool.false_ne_true
 | byt i =>
  obtain ⟨t, rfl⟩ := rx
  cases y with
  | byt j => obtain ⟨t', rfl⟩ := ry; exact PySem.W.ne_bytes (Zv I q (congrArg not Zh2))
  | _ => exact absurd (show false = true from hs) Bool.false_ne_true
 | _ => cases y <;> exact absurd (show false = true from hs) Bool.false_ne_true
theorem ZkW : OpR X (compareOp .Lt) (rI0 fun i j => .bl (decide (i < j))) := opB0 fun _ _ _ _ _ _ _ q => lt_int q
theorem ZkX : OpR X (compareOp .LtE) (rI0 fun i j => .bl (decide (i <= j))) := opB0 fun _ _ _ _ _ _ _ q => le_int q
theorem ZkY : OpR X (compareOp .Gt) (rI0 fun i j => .bl (decide (j < i))) := opB0 fun _ _ _ _ _ _ _ q => gt_int q
theorem ZkZ : OpR X (compareOp .GtE) (rI0 fun i j => .bl (decide (j <= i))) := opB0 fun _ _ _ _ _ _ _ q => ge_int q
theorem nomark (b : Expr) {op : CmpOp} (h : op ≠ .In := by decide) (h2 : op ≠ .NotIn := by decide) : behindInMarks op b = false := by
 have e1 : (op == CmpOp.In) = false := by cases op <;> first | rfl | exact absurd rfl h
 have e2 : (op == CmpOp.NotIn) = false := by cases op <;> first | rfl | exact absurd rfl h2
 cases b <;> simp [behindInMarks, e1, e2]
theorem Zlu {op : CmpOp} {r : R2} (ho : OpR X (compareOp op) r) (ha : PE X a ta) (hb : PE X b tb) (hm : behindInMarks op b = false) : PE X (.Compare a [op] [b] pos) (tOp r ta tb) := by
 intro pins s σ H Q I h
 exact wpAny_Compare1 (binT ha hb I h fun v u s2 x y H2 I2 rx ry q => ho pins s2 σ H2 x y v u Q I2 rx ry q) hm
def Zla (t : TE) : TT := fun σ H Q => t σ H fun x H' => ∃ k, x = .bl k /\ Q k H'
theorem Zlv {op : CmpOp} {r : R2} (ho : OpR X (compareOp op) r) (ha : PE X a ta) (hb : PE X b tb) (hm : behindInMarks op b = false) : PT X (.Compare a [op] [b] pos) (Zla (tOp r ta tb)) := by
 intro pins s σ H Q I h
 refine wpAny_isTrue_Compare1 (thn (ha pins s σ H _ I h) fun v s1 ⟨x, H1, I1, r1, q1⟩ => thn (hb pins s1 σ H1 _ I1 q1) fun u s2 ⟨y, H2, I2, r2, q2⟩ =>
  thn (ho pins s2 σ H2 x y v u _ I2 r1 r2 q2) fun c s3 ⟨z, H3, I3, r3, k, e, q3⟩ => ?_) hm
 subst e
 cases r3
 exact wpAny_truthy_bool ⟨H3, I3, q3⟩
def Zgw (r r' : R2) (ta tb tc : TE) : TE := fun σ H Q => ta σ H fun x H1 => tb σ H1 fun y H2 => r x y H2 fun z H3 => ∃ k, z = .bl k /\
 (if k = true then tc σ H3 fun w' H4 => r' y w' H4 Q else Q (.bl false) H3)
theorem ZjR {op op' : CmpOp} {r r' : R2} (ho : OpR X (compareOp op) r) (ho' : OpR X (compareOp op') r') (ha : PE X a ta) (hb : PE X b tb) (hc : PE X c tc)
 (hm : lastMarks [op, op'] [b, c] = false := by with_unfolding_all rfl) : PE X (.Compare a [op, op'] [b, c] pos) (Zgw r r' ta tb tc) := by
 intro pins s σ H Q I h
 refine Compare_chain (thn (ha pins s σ H _ I h) fun v s1 ⟨x, H1, I1, r1, q1⟩ => chain_link (thn (hb pins s1 σ H1 _ I1 q1) fun u s2 ⟨y, H2, I2, r2, q2⟩ =>
  thn (ho pins s2 σ H2 x y v u _ I2 r1 r2 q2) fun d s3 ⟨z, H3, I3, r3, k, e, q3⟩ => ?_)) hm
 subst e
 cases r3
 refine wpAny_truthy_bool ?_
 cases k with
 | false => exact ite_ff ⟨.bl false, H3, I3, rfl, q3⟩
 | true => exact ite_tt (chain_last (thn (hc pins s3 σ H3 _ I3 q3) fun w' s4 ⟨z', H4, I4, r4, q4⟩ => ho' pins s4 σ H4 y z' u w' Q I4 r2 r4 q4))
theorem ZjS {op op' : CmpOp} {r r' : R2} (ho : OpR X (compareOp op) r) (ho' : OpR X (compareOp op') r') (ha : PE X a ta) (hb : PE X b tb) (hc : PE X c tc)
 (hm : lastMarks [op, op'] [b, c] = false := by with_unfolding_all rfl) : PT X (.Compare a [op, op'] [b, c] pos) (Zla (Zgw r r' ta tb tc)) := by
 intro pins s σ H Q I h
 refine isTrue_chain (thn (ha pins s σ H _ I h) fun v s1 ⟨x, H1, I1, r1, q1⟩ => test_link (thn (hb pins s1 σ H1 _ I1 q1) fun u s2 ⟨y, H2, I2, r2, q2⟩ =>
  thn (ho pins s2 σ H2 x y v u _ I2 r1 r2 q2) fun d s3 ⟨z, H3, I3, r3, k, e, q3⟩ => ?_)) hm
 subst e
 cases r3
 refine wpAny_truthy_bool ?_
 cases k with
 | false =>
  obtain ⟨k', e', q'⟩ := q3
  cases e'
  exact ite_ff ⟨H3, I3, q'⟩
 | true =>
  refine ite_tt (test_last (thn (hc pins s3 σ H3 _ I3 q3) fun w' s4 ⟨z', H4, I4, r4, q4⟩ => thn (ho' pins s4 σ H4 y z' u w' _ I4 r2 r4 q4) fun d' s5 ⟨z2, H5, I5, r5, k2, e2, q5⟩ => ?_))
  subst e2
  cases r5
  exact wpAny_truthy_bool ⟨H5, I5, q5⟩
def TruV (K : Fg) (x : V) (H : Hp) (k : Bool) : Prop :=
 match x with
 | .non => k = false
 | .bl b => k = b
 | .int i => k = (i != 0)
 | .str y => y.length <= sizeLine /\ k = ((y.length : Int) != 0)
 | .byt y => y.size <= sizeLine /\ k = ((y.size : Int) != 0)
 | .ref p => (∃ xs, SqL K H p xs /\ k = !xs.isEmpty) \/ (∃ xs, SqT K H p xs /\ k = !xs.isEmpty) \/ ∃ kvs, H p = some (.dK kvs) /\ k = !kvs.isEmpty
 | _ => False
theorem ZhX {κ : Type} {kvs : List (κ × V)} {vs : List (κ × Value)} (r : KV kvs vs) : (!vs.isEmpty) = !kvs.isEmpty := by
 cases r <;> rfl
theorem ZeF {xs : List V} {its : List Value} (r : Vals xs its) : (!its.toArray.isEmpty) = !xs.isEmpty := by
 cases r <;> simp
theorem Zci : (sizeLine : Nat) < 2 ^ 63 := by rw [sizeLine_eq]; decide
theorem Znj : TruR X (fun x H Q => ∃ k, TruV X.K x H k /\ Q k H) := by
 intro pins s σ H x v Q I rx h
 obtain ⟨k, e, q⟩ := h
 have hl := Zci
 have hs : sizeLine = 16777216 := sizeLine_eq
 cases x with
 | non =>
  cases rx
  have e' : k = false := e
  subst e'
  exact truthy_none ⟨H, I, q⟩
 | bl b =>
  cases rx
  have e' : k = b := e
  subst e'
  exact wpAny_truthy_bool ⟨H, I, q⟩
 | int i =>
  obtain ⟨t, rfl⟩ := rx
  have e' : k = (i != 0) := e
  subst e'
  exact PySem.P.truthy_int ⟨H, I, q⟩
 | str y =>
  obtain ⟨t, rfl⟩ := rx
  obtain ⟨hy, e'⟩ : y.length <= sizeLine /\ k = ((y.length : Int) != 0) := e
  subst e'
  exact PySem.P.truthy_str (by omega) ⟨H, I.tok _, q⟩
 | byt y =>
  obtain ⟨t, rfl⟩ := rx
  obtain ⟨hy, e'⟩ : y.size <= sizeLine /\ k = ((y.size : Int) != 0) := e
  subst e'
  exact PySem.W.truthy_bytes (by omega) ⟨H, I.tok _, q⟩
 | ref p =>
  cases rx
  have e' : (∃ xs, SqL X.K H p xs /\ k = !xs.isEmpty) \/ (∃ xs, SqT X.K H p xs /\ k = !xs.isEmpty) \/ ∃ kvs, H p = some (.dK kvs) /\ k = !kvs.isEmpty := e
  rcases e' with ⟨xs, hx, e'⟩ | ⟨xs, hx, e'⟩ | ⟨kvs, hx, e'⟩
  . subst e'
    obtain ⟨its, r, pl, hz⟩ := I.list hx
    have hlen := r.length
    exact wpAny_truthy_list pl.isList (by simp only [List.size_toArray]; omega) ⟨H, I.tok _, by rw [ZeF r]; exact q⟩
  . subst e'
    obtain ⟨its, r, pl, hz⟩ := I.tuple hx
    have hlen := r.length
    exact truthy_tuple pl (by simp only [List.size_toArray]; omega) ⟨H, I.tok _, by rw [ZeF r]; exact q⟩
  . subst e'
    obtain ⟨hz, hS, vs, r, m⟩ : kvs.length <= sizeLine /\ (p == sysModules) = false /\ ∃ vs, KV kvs vs /\ s.heap.DictOf (ZM X.prog X.w) p vs := I.hok p _ hx
    have hlen : kvs.length = vs.length := Paired.length r
    exact wpAny_truthy_dict hS m (by omega) ⟨H, I.tok _, by rw [ZhX r]; exact q⟩
 | _ => exact (show False from e).elim
theorem ZjT (ha : PE X a ta) (he : ∀ whole, isTrue a X.env whole = (do let v <- whole; standAt a.pos; holding [v] (truthy v))) :
 PT X a (fun σ H Q => ta σ H fun x H' => ∃ k, TruV X.K x H' k /\ Q k H') := by
 intro pins s σ H Q I h
 exact isTrue_plain (thn (ha pins s σ H _ I h) fun v s1 ⟨x, H1, I1, r1, q1⟩ => Znj pins s1 σ H1 x v Q I1 r1 q1) (he _)
theorem ZhY : OpR X (binaryOp .Add) (fun x y H Q => ∃ i j, x = .str i /\ y = .str j /\ i.length + j.length <= sizeLine /\ Q (.str (i ++ j)) H) := by
 intro pins s σ H x y v u Q I rx ry h
 obtain ⟨i, j, rfl, rfl, hz, q⟩ := h
 obtain ⟨t, rfl⟩ := rx
 obtain ⟨t', rfl⟩ := ry
 exact add_str (fun t' tk => ⟨.str (i ++ j), H, I.tok _, ⟨_, rfl⟩, q⟩) hz
theorem ZdJ {x : V} {us : List Value} (r : Vals [x] us) : ∃ u, us = [u] /\ RelV x u := by
 cases r with
 | cons r1 r2 => cases r2; exact ⟨_, rfl, r1⟩
theorem Zlb {x y : V} {us : List Value} (r : Vals [x, y] us) : ∃ u w', us = [u, w'] /\ RelV x u /\ RelV y w' := by
 cases r with
 | cons r1 r2 =>
  cases r2 with
  | cons r3 r4 => cases r4; exact ⟨_, _, rfl, r1, r3⟩
theorem ZjU : ZA X (.builtin "abs") (fun xs H Q => ∃ i, xs = [.int i] /\ Q (.int (if i < 0 then -i else i)) H) := by
 intro pins s σ H xs us Q I r h
 obtain ⟨i, rfl, q⟩ := h
 obtain ⟨u, rfl, t, rfl⟩ := ZdJ r
 exact call_abs_int fun u tk => ⟨.int (if i < 0 then -i else i), H, I.tok _, ⟨_, rfl⟩, q⟩
theorem ZiH (hc : X.calm = true) : ZA X (.builtin "max") (fun xs H Q => ∃ i j, xs = [.int i, .int j] /\ Q (.int (if j > i then j else i)) H) := by
 intro pins s σ H xs us Q I r h
 obtain ⟨i, j, rfl, q⟩ := h
 obtain ⟨u, w', rfl, ⟨t, rfl⟩, ⟨t', rfl⟩⟩ := Zlb r
 refine max_two_ints (I.ok.hd hc) fun h' tk k => ⟨_, H, I.kept k, ?_, q⟩
 by_cases hj : j > i
 . rw [if_pos hj, if_pos hj]; exact ⟨_, rfl⟩
 . rw [if_neg hj, if_neg hj]; exact ⟨_, rfl⟩
theorem ZiI (hc : X.calm = true) : ZA X (.builtin "min") (fun xs H Q => ∃ i j, xs = [.int i, .int j] /\ Q (.int (if j < i then j else i)) H) := by
 intro pins s σ H xs us Q I r h
 obtain ⟨i, j, rfl, q⟩ := h
 obtain ⟨u, w', rfl, ⟨t, rfl⟩, ⟨t', rfl⟩⟩ := Zlb r
 refine min_two_ints (I.ok.hd hc) fun h' tk k => ⟨_, H, I.kept k, ?_, q⟩
 by_cases hj : j < i
 . rw [if_pos hj, if_pos hj]; exact ⟨_, rfl⟩
 . rw [if_neg hj, if_neg hj]; exact ⟨_, rfl⟩
end
structure ObjM (h : Heap) (x dx C : Addr) (mA : SO) : Prop where
 obj : h.get? x = some (PySem.W.instObj C dx)
 ns : h.Ns1 dx mA
 ne : dx ≠ x
theorem ZiJ {h : Heap} {dx : Addr} {mA : SO} (n : h.Ns1 dx mA) : ∃ od, h.get? dx = some od /\ ∀ name, PySem.W.lookIn name od = some (mA name) := by
 obtain ⟨o, es, ep, ho, hd, hk, _, hm⟩ := n
 refine ⟨o, ho, fun name => ?_⟩
 have e := hm name
 unfold nsFind findBy at e
 rw [<- Array.find?_toList] at e
 unfold PySem.W.lookIn
 rw [hd]
 dsimp only
 split
 . rename_i y q
   rw [q] at e
   exact congrArg some e
 . rename_i q
   rw [q] at e
   have a : es.toList.any (·.refKey) = false := by
    rw [List.any_eq_false]
    intro y hy
    obtain ⟨z, t, hkey⟩ := hk y (Array.mem_toList_iff.mp hy)
    simp [DictEntry.refKey, hkey]
   have a' : ¬ es.toList.any (·.refKey) = true := by rw [a]; exact Bool.false_ne_true
   rw [if_neg a']
   exact congrArg some e
theorem ObjM.look {h : Heap} {x dx C : Addr} {mA : SO} (I : ObjM h x dx C mA) : ∃ od, PySem.W.InstAt h x (PySem.W.instObj C dx) C (some od) /\ ∀ name, PySem.W.lookIn name od = some (mA name) :=
 let ⟨od, ho, hl⟩ := ZiJ I.ns
 ⟨od, ⟨I.obj, rfl, rfl, ho⟩, hl⟩
section
variable {prog : Program} {w : World} {A : Around} {E : VS} {s : Shared} {K : Fg} {x dx C f : Addr} {mA : SO} {name : Str} {v : Value}
theorem Zlw {expr : Bool} {Q : VS} (X : K.In s.heap) (I : ObjM s.heap x dx C mA) (hg : PySem.W.plainGet K C name = true) (hh : PySem.W.hasDictIn K C = true)
 (ha : PySem.W.findIn K (.ref C) name = some none) (hv : mA name = some v) (hv' : PySem.W.handedIn v = true) (h : Q v { s with toks := s.toks + 1 }) :
 wpAny (model prog w) A (getAttr (.ref x) name expr) Q E s := by
 obtain ⟨od, J, hl⟩ := I.look
 exact PySem.W.get_value X J (PySem.W.plainGet_of hg).1 (PySem.W.findObj_own hh ha rfl (by rw [hl, hv])) hv' h
theorem ZjV {pl : Sem Bool} {Q : Value × List Value -> Shared -> Prop} (X : K.In s.heap) (I : ObjM s.heap x dx C mA) (hg : PySem.W.plainGet K C name = true)
 (hf : PySem.W.findIn K (.ref C) name = some (some (.ref f))) (ht : PySem.W.isFn K (.ref f) = true) (hv : mA name = none) (h : Q (.ref f, [.ref x]) s) :
 wpAny (model prog w) A (getMethod (.ref x) name pl) Q E s := by
 obtain ⟨od, J, hl⟩ := I.look
 exact PySem.W.method_fn X J (PySem.W.plainGet_of hg).1 (PySem.W.plainGet_of hg).2 hf (beq_iff_eq.mp ht) (by show (PySem.W.lookIn name od).map (·.isSome) = some false; rw [hl, hv]; rfl) h
theorem Zlx {ns : List Str} {Q : Unit -> Shared -> Prop} (X : K.In s.heap) (I : ObjM s.heap x dx C mA)
 (hs : PySem.W.findIn K (.ref C) "__setattr__" = some (some (.builtin "object.__setattr__"))) (hp : PySem.W.plainOver K C = true) (ht : PySem.W.takerIn K C name = some none) (hh : PySem.W.hasDictIn K C = true)
 (hw : PySem.Within mA ns) (hsz : ns.length <= sizeLine)
 (h : ∀ h', ObjM h' x dx C (fun y => if y = name then some v else mA y) -> Heap.SameBut dx s.heap h' -> Q () { s with heap := h', toks := s.toks + 2 }) :
 wpAny (model prog w) A (setAttr (.ref x) name v) Q E s := by
 obtain ⟨od, J, hl⟩ := I.look
 refine PySem.W.set_plain X J hs (PySem.W.osa_open (s := { s with toks := s.toks + 1 }) (r := none) X J hp ht fun b => ?_)
 obtain ⟨cd, hc, hd'⟩ := PySem.W.any_some hh
 have hx : s.heap.get? x = some ⟨.ref C, some dx, .plain, #[]⟩ := I.obj
 refine wpAny_bind (wpAny_pure (wpAny_bind (wpAny_bind (wpAny_loadPart hx (wpAny_bind (PySem.W.Looks.here (s := { s with toks := s.toks + 1 }) (PySem.W.looks_clsIn X hc) ?_))))))
 rw [hd']
 refine wpAny_pure (a := some dx) (wpAny_bind (wpAny_pure (wpAny_bind ?_)))
 refine wpAny_nsSet1 (s := { s with toks := s.toks + 1 }) I.ns fun h' hn2 hs2 => ?_
 obtain ⟨oD, esD, epD, hoD, hdD, hcD⟩ := hn2.count (PySem.Within.cons name v hw)
 refine wpAny_bind (wpAny_lookBehind hoD (by rw [hdD]; exact pastItsLine_dict (Nat.le_trans hcD (by rw [List.length_cons]; omega))) ?_)
 exact wpAny_pure (h _ ⟨(hs2.2 _ (Ne.symm I.ne)).trans I.obj, hn2, I.ne⟩ hs2)
theorem ZjW {R : Result -> Shared -> Prop} {vs : List Value} {kw : List (Str × Value)} (X : K.In s.heap) (hm : PySem.W.makesIn K C = true)
 (hi : PySem.W.findIn K (.ref C) "__init__" = some (some (.ref f))) (hf : PySem.W.typeIn K (.ref f) = some (.type "function"))
 (h : codeAny (model prog w) (A.under (.builtin "type.__call__" ⟨.ref C :: vs, kw⟩)) (.call (.ref f) ⟨.ref (s.heap.objs.size + 1) :: vs, kw⟩) (PySem.W.InitBack (s.heap.objs.size + 1) R)
  { s with heap := (s.heap.push PySem.W.emptyDict).push (PySem.W.instObj C s.heap.objs.size) }) :
 codeAny (model prog w) A (.call (.ref C) ⟨vs, kw⟩) R s := by
 obtain ⟨hh, g, d, t, os⟩ := s
 exact PySem.W.make_core (PySem.W.makes_of X hm) (PySem.W.looks_findIn X hi) (fun self => PySem.W.bind_fn X self hf) (.inl rfl) h
end
noncomputable def putF (f : Str) (v : V) : List (Str × V) -> List (Str × V)
 | [] => [(f, v)]
 | (g, x) :: r => if g = f then (g, v) :: r else (g, x) :: putF f v r
theorem Zej (f g : Str) (v : V) : ∀ fs : List (Str × V), (putF f v fs).lookup g = if g = f then some v else fs.lookup g
 | [] => by
  show List.lookup g [(f, v)] = _
  by_cases h : g = f
  . have hb : (g == f) = true := beq_iff_eq.mpr h
    simp only [List.lookup, hb, if_pos h]
  . have hb : (g == f) = false := beq_eq_false_iff_ne.mpr h
    simp only [List.lookup, hb, if_neg h]
 | (k, x) :: r => by
  have ih := Zej f g v r
  rw [show putF f v ((k, x) :: r) = (if k = f then (k, v) :: r else (k, x) :: putF f v r) from rfl]
  by_cases hk : k = f
  . rw [if_pos hk]
    by_cases h : g = k
    . have hb : (g == k) = true := beq_iff_eq.mpr h
      simp only [List.lookup, hb, if_pos (h.trans hk)]
    . have hb : (g == k) = false := beq_eq_false_iff_ne.mpr h
      simp only [List.lookup, hb, if_neg (fun e : g = f => h (e.trans hk.symm))]
  . rw [if_neg hk]
    by_cases h : g = k
    . have hb : (g == k) = true := beq_iff_eq.mpr h
      simp only [List.lookup, hb, if_neg (fun e : g = f => hk (h.symm.trans e))]
    . have hb : (g == k) = false := beq_eq_false_iff_ne.mpr h
      simp only [List.lookup, hb]
      exact ih
theorem Zdp (f : Str) (v : V) : ∀ fs : List (Str × V), f ∈ (putF f v fs).map (·.1) /\ ∀ g, g ∈ fs.map (·.1) -> g ∈ (putF f v fs).map (·.1)
 | [] => ⟨by simp [putF], fun g h => by simp at h⟩
 | (k, x) :: r => by
  obtain ⟨i1, i2⟩ := Zdp f v r
  rw [show putF f v ((k, x) :: r) = (if k = f then (k, v) :: r else (k, x) :: putF f v r) from rfl]
  by_cases hk : k = f
  . rw [if_pos hk]
    subst hk
    exact ⟨by simp, fun g h => by simpa using h⟩
  . rw [if_neg hk]
    refine ⟨?_, fun g h => ?_⟩
    . rw [List.map_cons]
      exact List.mem_cons_of_mem _ i1
    . rw [List.map_cons] at h ⊢
      rcases List.mem_cons.mp h with e | e
      . exact List.mem_cons.mpr (.inl e)
      . exact List.mem_cons_of_mem _ (i2 g e)
theorem Zek (f : Str) (v : V) : ∀ fs : List (Str × V), (putF f v fs).length <= fs.length + 1
 | [] => by simp [putF]
 | (k, x) :: r => by
  have ih := Zek f v r
  rw [show putF f v ((k, x) :: r) = (if k = f then (k, v) :: r else (k, x) :: putF f v r) from rfl]
  by_cases hk : k = f
  . rw [if_pos hk, List.length_cons, List.length_cons]; omega
  . rw [if_neg hk, List.length_cons, List.length_cons]; omega
theorem RelO.some_of {v : V} {o : Option Value} (r : RelO (some v) o) : ∃ u, o = some u /\ RelV v u := by
 cases o with
 | none => exact (show False from r).elim
 | some u => exact ⟨u, rfl, r⟩
theorem RelO.none_of {o : Option Value} (r : RelO none o) : o = none := by
 cases o with
 | none => rfl
 | some u => exact (show False from r).elim
theorem ZiK {v : V} {u : Value} (r : RelV v u) : PySem.W.handedIn u = true := by
 cases v with
 | non => cases (show u = Value.none from r); rfl
 | bl b => cases (show u = Value.bool b from r); rfl
 | int i => obtain ⟨t, e⟩ := (show ∃ t, u = Value.int i t from r); cases e; rfl
 | str x => obtain ⟨t, e⟩ := (show ∃ t, u = Value.str x t from r); cases e; rfl
 | byt b => obtain ⟨t, e⟩ := (show ∃ t, u = Value.bytes b t from r); cases e; rfl
 | flt b => obtain ⟨t, e⟩ := (show ∃ t, u = Value.float b t from r); cases e; rfl
 | ref a => cases (show u = Value.ref a from r); rfl
 | ty n => cases (show u = Value.type n from r); rfl
section
variable {P : Program} {w : World} {H H' : Hp} {h h' : Heap} {a C dx : Addr} {fs fs' : List (Str × V)}
theorem ZdK (hok : HOk P w H h) (e : H a = some (.ins C dx fs)) : ∃ mA, ObjM h a dx C mA /\ (∀ f, RelO (fs.lookup f) (mA f)) /\ PySem.Within mA (fs.map (·.1)) /\ fs.length <= 1000 /\ H dx = some (.own a) := by
 obtain ⟨d, z, ne, ob, mA, n, r, q⟩ := (show Z5 P w H h a (.ins C dx fs) from hok a _ e)
 exact ⟨mA, ⟨ob, n, ne⟩, r, q, z, d⟩
end
structure Cls (K : Fg) (C : Addr) : Prop where
 pg : PySem.W.plainGet K C Str.empty = true
 hd : PySem.W.hasDictIn K C = true
 po : PySem.W.plainOver K C = true
 sa : PySem.W.findIn K (.ref C) "__setattr__" = some (some (.builtin "object.__setattr__"))
theorem Cls.get {K : Fg} {C : Addr} (c : Cls K C) (f : Str) : PySem.W.plainGet K C f = true := c.pg
def ZQ (K : Fg) (C : Addr) (f : Str) : Prop := PySem.W.findIn K (.ref C) f = some none
theorem ZQ.taker {K : Fg} {C : Addr} {f : Str} (n : ZQ K C f) : PySem.W.takerIn K C f = some none := by
 unfold PySem.W.takerIn
 rw [show PySem.W.findIn K (.ref C) f = some none from n]
 rfl
structure Meth (K : Fg) (C : Addr) (m : Str) (f : Addr) : Prop where
 at_ : PySem.W.findIn K (.ref C) m = some (some (.ref f))
 fn : PySem.W.isFn K (.ref f) = true
 kp : PySem.W.keepIn K (.ref f) = true
section
variable {X : Cx} {pins : Pn} {σ : St} {H : Hp} {s : Shared} {a C dx : Addr} {fs : List (Str × V)} {f : Str} {v : V} {A : Around} {E : VS}
theorem ZhZ {b : Bool} {Q : VS} (I : Inv X pins σ H s) (e : H a = some (.ins C dx fs)) (c : Cls X.K C) (n : ZQ X.K C f) (l : fs.lookup f = some v)
 (h : ∀ u s', Inv X pins σ H s' -> RelV v u -> Q u s') : wpAny (model X.prog X.w) A (getAttr (.ref a) f b) Q E s := by
 obtain ⟨mA, O, r, _, _, _⟩ := ZdK I.hok e
 obtain ⟨u, hu, ru⟩ := RelO.some_of (v := v) (o := mA f) (by rw [<- l]; exact r f)
 exact Zlw I.kIn O (c.get f) c.hd n hu (ZiK ru) (h u _ (I.tok _) ru)
theorem ZeG {m : Str} {g : Addr} {pl : Sem Bool} {Q : Value × List Value -> Shared -> Prop} (I : Inv X pins σ H s) (e : H a = some (.ins C dx fs)) (c : Cls X.K C) (k : Meth X.K C m g) (l : fs.lookup m = none)
 (h : Q (.ref g, [.ref a]) s) : wpAny (model X.prog X.w) A (getMethod (.ref a) m pl) Q E s := by
 obtain ⟨mA, O, r, _, _, _⟩ := ZdK I.hok e
 have hn : mA m = none := RelO.none_of (by rw [<- l]; exact r m)
 exact ZjV I.kIn O (c.get m) k.at_ k.fn hn h
theorem Zia {y : V} {u : Value} {Q : Unit -> Shared -> Prop} (I : Inv X pins σ H s) (e : H a = some (.ins C dx fs)) (c : Cls X.K C) (n : ZQ X.K C f) (hl : fs.length < 1000) (ry : RelV y u)
 (h : ∀ s', Inv X pins σ (upd H a (.ins C dx (putF f y fs))) s' -> Q () s') : wpAny (model X.prog X.w) A (setAttr (.ref a) f u) Q E s := by
 obtain ⟨mA, O, r, wi, _, ho⟩ := ZdK I.hok e
 have hz : (fs.map (·.1)).length <= sizeLine := by rw [List.length_map, sizeLine_eq]; omega
 refine Zlx I.kIn O c.sa c.po n.taker c.hd wi hz fun h' O' sb => h _ ?_
 have hd : ∃ o, h'.get? dx = some o := let ⟨o, _, _, e', _⟩ := O'.ns; ⟨o, e'⟩
 refine I.write (x := a) (e := dx) (by rw [e]; exact True.intro) (.inr ho) (fun b q hb z => (sb.2 b hb).trans z) hd ?_
 refine ⟨by rw [Zq O.ne]; exact ho, ?_, O.ne, O'.obj, _, O'.ns, fun g => ?_, fun g hg => ?_⟩
 . have := Zek f y fs; omega
 . show RelO ((putF f y fs).lookup g) (if g = f then some u else mA g)
   rw [Zej]
   by_cases q : g = f
   . rw [if_pos q, if_pos q]; exact ry
   . rw [if_neg q, if_neg q]; exact r g
 . by_cases q : g = f
   . rw [q]; exact (Zdp f y fs).1
   . refine (Zdp f y fs).2 g (wi g fun z => hg ?_)
     show (if g = f then some u else mA g) = none
     rw [if_neg q]; exact z
theorem Inv.made (I : Inv X pins σ H s) : Inv X pins σ (upd (upd H s.heap.objs.size (.own (s.heap.objs.size + 1))) (s.heap.objs.size + 1) (.ins C s.heap.objs.size []))
 { s with heap := (s.heap.push PySem.W.emptyDict).push (PySem.W.instObj C s.heap.objs.size) } := by
 have e1 : (s.heap.push PySem.W.emptyDict).get? s.heap.objs.size = some PySem.W.emptyDict := Heap.get?_push_size s.heap rfl
 have e2 : ((s.heap.push PySem.W.emptyDict).push (PySem.W.instObj C s.heap.objs.size)).get? (s.heap.objs.size + 1) = some (PySem.W.instObj C s.heap.objs.size) := by
  have := Heap.get?_push_size (s.heap.push PySem.W.emptyDict) (o := PySem.W.instObj C s.heap.objs.size) rfl
  rwa [Heap.size_push] at this
 have e3 : (s.heap.push PySem.W.emptyDict).Ns s.heap.objs.size (fun _ => none) := ⟨PySem.W.emptyDict, #[], _, e1, rfl, (fun e he => absurd he (by simp)), fun _ => rfl⟩
 have I1 := I.laid (a := s.heap.objs.size) (o := .own (s.heap.objs.size + 1)) (h' := s.heap.push PySem.W.emptyDict) (t' := s.toks) (fun b u q => Heap.get?_push_of_some _ q) (Nat.le_refl _) ⟨_, e1⟩
 refine I1.laid (a := s.heap.objs.size + 1) (o := .ins C s.heap.objs.size []) (t' := s.toks) (fun b u q => Heap.get?_push_of_some _ q) (Nat.le_of_eq (Heap.size_push _ _)) ?_
 have ne : s.heap.objs.size ≠ s.heap.objs.size + 1 := Nat.ne_of_lt (Nat.lt_succ_self _)
 refine ⟨by rw [Zq ne, Zm], Nat.zero_le _, ne, e2, fun _ => none, (Heap.Ns1.of_empty e3).at fun o q => Heap.get?_push_of_some _ q, fun _ => True.intro, fun y hy => absurd rfl hy⟩
theorem Zly {prog : Program} {w : World} {env : Env} {e : Expr} {f : Str} {pos : Pos} {s : Shared} {Q : VS} (hb : attributeBase e f env (eval e env) = eval e env)
 (h : wpAny (model prog w) A (eval e env) (fun o s₁ => wpAny (model prog w) A (getAttr o f true) Q E s₁) E s) : wpAny (model prog w) A (eval (.Attribute e f pos) env) Q E s :=
 Attribute_any_ h (by rw [arm_eval_Attribute, hb])
end
def tFld (K : Fg) (ta : TE) (f : Str) : TE := fun σ H Q => ta σ H fun x H1 => ∃ a C dx fs v, x = .ref a /\ H1 a = some (.ins C dx fs) /\ Cls K C /\ ZQ K C f /\ fs.lookup f = some v /\ Q v H1
def sFld (K : Fg) (ta tv : TE) (f : Str) : TS := fun D σ H => tv σ H fun y H1 => ta σ H1 fun x H2 => ∃ a C dx fs, x = .ref a /\ H2 a = some (.ins C dx fs) /\ Cls K C /\ ZQ K C f /\ fs.length < 1000 /\
 D.nx σ (upd H2 a (.ins C dx (putF f y fs)))
section
variable {X : Cx} {o e value : Expr} {f : Str} {pos pos' tpos : Pos} {ta tv : TE}
theorem Zgx (he : PE X e ta) (hb : attributeBase e f X.env (eval e X.env) = eval e X.env) : PE X (.Attribute e f pos) (tFld X.K ta f) := by
 intro pins s σ H Q I h
 refine Zly hb (thn (he pins s σ H _ I h) fun u s1 z0 => ?_)
 obtain ⟨x, H1, I1, rx, a, C, dx, fs, v, ex, ea, c, n, l, q⟩ := z0
 subst ex
 obtain rfl : u = Value.ref a := rx
 exact ZhZ I1 ea c n l fun u' s2 I2 ru => ⟨v, H1, I2, ru, q⟩
theorem Znk (ha : PE X o ta) (hv : PE X value tv) (hs : swapsWith value (some (.Attribute o f pos')) pos.line X.env = pure false) : PS X (.Assign [.Attribute o f pos'] value pos) (sFld X.K ta tv f) := by
 intro pins s σ H D I h
 refine plainObj_wpAny_Assign_Attribute (thn (hv pins s σ H _ I h) fun u s1 ⟨y, H1, I1, ry, q⟩ => thn (ha pins s1 σ H1 _ I1 q) fun ov s2 ⟨x, H2, I2, rx, a, C, dx, fs, ex, ea, c, n, l, q2⟩ => ?_) hs
 subst ex
 obtain rfl : ov = Value.ref a := rx
 exact Zia I2 ea c n l ry fun s3 I3 => ⟨σ, _, I3, q2⟩
end
section
variable {X : Cx} {pins : Pn} {σ : St} {H : Hp} {s : Shared} {A : Around} {E : VS} {Q : VS} {c : Value} {b : Bool}
inductive TyOf (K : Fg) (H : Hp) : V -> Value -> Prop where
 | non : TyOf K H .non (.type "NoneType")
 | bl (x : Bool) : TyOf K H (.bl x) (.type "bool")
 | int (i : Int) : TyOf K H (.int i) (.type "int")
 | str (x : Str) : TyOf K H (.str x) (.type "str")
 | flt (x : UInt64) : TyOf K H (.flt x) (.type "float")
 | lst {a : Addr} {xs : List V} (e : H a = some (.lst xs)) : TyOf K H (.ref a) (.type "list")
 | frz {a : Addr} {o : Obj} {xs : List V} (e : H a = some (.frz o (.lst xs))) : TyOf K H (.ref a) (.type "list")
 | tup {a : Addr} {xs : List V} (e : H a = some (.tup xs)) : TyOf K H (.ref a) (.type "tuple")
 | dK {a : Addr} {kvs : List (Key × V)} (e : H a = some (.dK kvs)) : TyOf K H (.ref a) (.type "dict")
 | dT {a : Addr} {kvs : List (List Key × V)} (e : H a = some (.dT kvs)) : TyOf K H (.ref a) (.type "dict")
 | ins {a C dx : Addr} {fs : List (Str × V)} (e : H a = some (.ins C dx fs)) (cl : Cls K C) (ha : PySem.W.findIn K (.ref C) "__class__" = some (some (.builtin "object.__class__")))
  (hn : PySem.W.specialIn K (.builtin "object.__class__") "__get__" = some (some (.builtin "getset_descriptor.__get__"))) (htk : PySem.W.takesIn K (.builtin "object.__class__") = some true)
  (hm : PySem.W.mroIn K C (.type "object") = some true) : TyOf K H (.ref a) (.ref C)
theorem ZiL {x : V} {u t : Value} (I : Inv X pins σ H s) (rx : RelV x u) (ty : TyOf X.K H x t) (e : PySem.W.kitOne X.K t c = some b) (h : ∀ tk, Q (.bool b) { s with toks := tk }) :
 wpAny (model X.prog X.w) A (call (.builtin "isinstance") [u, c]) Q E s := by
 cases ty with
 | non => cases (show u = Value.none from rx); exact PySem.W.kia_one PySem.W.kitx_none I.kIn True.intro e (fun z => nomatch z) h
 | bl y => cases (show u = Value.bool y from rx); exact PySem.W.kia_one PySem.W.kitx_bool I.kIn True.intro e (fun z => nomatch z) h
 | int i => obtain ⟨t, q⟩ := (show ∃ t, u = Value.int i t from rx); cases q; exact PySem.W.kia_one PySem.W.kitx_int I.kIn True.intro e (fun z => nomatch z) h
 | str y => obtain ⟨t, q⟩ := (show ∃ t, u = Value.str y t from rx); cases q; exact PySem.W.kia_one PySem.W.kitx_str I.kIn True.intro e (fun z => nomatch z) h
 | flt y => obtain ⟨t, q⟩ := (show ∃ t, u = Value.float y t from rx); cases q; exact PySem.W.kia_one PySem.W.kitx_float I.kIn True.intro e (fun z => nomatch z) h
 | @lst a xs ea =>
  cases (show u = Value.ref a from rx)
  obtain ⟨_, _, n, _, h1⟩ := (show Z5 X.prog X.w H s.heap a (.lst xs) from I.hok a _ ea)
  exact PySem.W.kia_one PySem.W.kitx_list I.kIn ⟨_, h1, rfl⟩ e (fun z => nomatch z) h
 | @frz a ob xs ea =>
  cases (show u = Value.ref a from rx)
  obtain ⟨_, _, _, n, _, h1⟩ := (show Z5 X.prog X.w H s.heap a (.frz ob (.lst xs)) from I.hok a _ ea)
  exact PySem.W.kia_one PySem.W.kitx_list I.kIn ⟨_, h1, rfl⟩ e (fun z => nomatch z) h
 | @tup a xs ea =>
  cases (show u = Value.ref a from rx)
  obtain ⟨_, _, _, p⟩ := (show Z5 X.prog X.w H s.heap a (.tup xs) from I.hok a _ ea)
  obtain ⟨o, h1, h2, _⟩ := p
  exact PySem.W.kia_one PySem.W.kitx_tuple I.kIn ⟨o, h1, h2⟩ e (fun z => nomatch z) h
 | @dK a kvs ea =>
  cases (show u = Value.ref a from rx)
  obtain ⟨_, _, vs, _, p⟩ := (show Z5 X.prog X.w H s.heap a (.dK kvs) from I.hok a _ ea)
  obtain ⟨o, es, ep, h1, h2, _⟩ := p
  exact PySem.W.kia_one PySem.W.kitx_dict I.kIn ⟨o, h1, h2.1⟩ e (fun z => nomatch z) h
 | @dT a kvs ea =>
  cases (show u = Value.ref a from rx)
  obtain ⟨_, _, xs, _, o, es, ep, h1, h2, _⟩ := (show Z5 X.prog X.w H s.heap a (.dT kvs) from I.hok a _ ea)
  exact PySem.W.kia_one PySem.W.kitx_dict I.kIn ⟨o, h1, h2.1⟩ e (fun z => nomatch z) h
 | @ins a C dx fs ea cl ha hn htk hm =>
  cases (show u = Value.ref a from rx)
  obtain ⟨mA, O, _⟩ := ZdK I.hok ea
  obtain ⟨od, J, _⟩ := O.look
  exact PySem.W.kia_one (PySem.W.kitx_own (cl.get _) cl.hd ha hn htk hm) I.kIn J e (fun z => nomatch z) h
end
structure Room (k : Nat) (A : Around) : Prop where
 hd : A.handled = none
 dp : A.depth + 3 * k + 5 < recursionLimit
 un : A.units + 16 * k + 200 < cLine
theorem Room.mono {j k : Nat} {A : Around} (r : Room k A) (h : j <= k) : Room j A := ⟨r.hd, by have := r.dp; omega, by have := r.un; omega⟩
theorem Room.deeper {k : Nat} {A : Around} (r : Room (k + 1) A) (env : Env) : Room k (A.deeper env) :=
 ⟨r.hd, by have := r.dp; show A.depth + 1 + 3 * k + 5 < _; omega, by have := r.un; show A.units + 3 + 16 * k + 200 < _; omega⟩
theorem Zib {A : Around} {C : Addr} {us : List Value} {kw : List (Str × Value)} : (A.under (.builtin "type.__call__" ⟨.ref C :: us, kw⟩)).depth = A.depth + 1 := by
 first | rfl | simp [Around.under, Code.weight, Code.isCreation, Code.isGuard, Code.isCaller, Code.frames, Code.isFrame, guardIds]
theorem Zic {A : Around} {C : Addr} {us : List Value} {kw : List (Str × Value)} : (A.under (.builtin "type.__call__" ⟨.ref C :: us, kw⟩)).units = A.units + 1 := by
 first | rfl | simp [Around.under, Code.cUnits, Code.frames, Code.isFrame]
theorem Room.make {k : Nat} {A : Around} (r : Room (k + 1) A) (C : Addr) (us : List Value) (kw : List (Str × Value)) : Room k (A.under (.builtin "type.__call__" ⟨.ref C :: us, kw⟩)) :=
 ⟨r.hd, by have := r.dp; rw [Zib]; omega, by have := r.un; rw [Zic]; omega⟩
theorem Room.depth {k : Nat} {A : Around} (r : Room k A) : A.depth < recursionLimit := by have := r.dp; omega
theorem Room.units {k : Nat} {A : Around} (r : Room k A) : A.units + 64 < cLine := by have := r.un; omega
def tNil : TA := fun _ H Q => Q [] H
def ZeH (ta : TE) (tr : TA) : TA := fun σ H Q => ta σ H fun x H1 => tr σ H1 fun xs H2 => Q (x :: xs) H2
section
variable {X : Cx} {e : Expr} {es : List Expr} {te : TE} {t : TA} {pos : Pos}
theorem ZaG : PA X [] tNil := fun _ _ _ _ H Q I h => Calls.spliced_nil ⟨[], H, I, .nil, h⟩
abbrev SE (X : Cx) (e : Expr) (es : List Expr) : Prop := starEach (e :: es) X.env = (false, eval e X.env) :: starEach es X.env
theorem ZY (ha : PE X e te) (hr : PA X es t) (hs : SE X e es := by rfl) : PA X (e :: es) (ZeH te t) := by
 intro pos pins s σ H Q I h
 rw [hs]
 show wpAny _ _ (spliced ((false, eval e X.env) :: backTo pos (starEach es X.env))) _ _ s
 refine Calls.spliced_cons (thn (ha pins s σ H _ I h) fun u s1 z0 => ?_)
 obtain ⟨x, H1, I1, r1, q1⟩ := z0
 exact thn (hr pos pins s1 σ H1 _ I1 q1) fun us s2 ⟨xs, H2, I2, r2, q2⟩ => ⟨x :: xs, H2, I2, .cons r1 r2, q2⟩
def tTup (t : TA) : TE := fun σ H Q => t σ H fun xs H1 => xs.length <= sizeLine /\ ∀ p, H1 p = none -> Q (.ref p) (upd H1 p (.tup xs))
def tLst (t : TA) : TE := fun σ H Q => t σ H fun xs H1 => xs.length <= sizeLine /\ ∀ p, H1 p = none -> Q (.ref p) (upd H1 p (.lst xs))
theorem Znl {x1} (h : PA X es t) : PE X (.Tuple es x1 pos) (tTup t) := by
 intro pins s σ H Q I hq
 refine wpAny_Tuple_spliced (thn (h pos pins s σ H _ I hq) fun us s1 ⟨xs, H1, I1, r, z, q⟩ => ⟨by rw [<- r.length]; exact z, ?_⟩)
 have hf : H1 s1.heap.objs.size = none := I1.hok.fresh (Nat.le_refl _)
 refine ⟨.ref s1.heap.objs.size, upd H1 s1.heap.objs.size (.tup xs), I1.laid (t' := s1.toks) (fun b u e => Heap.get?_push_of_some _ e) (Nat.le_refl _) ?_, rfl, q _ hf⟩
 exact ⟨z, us, r, ⟨_, Heap.get?_push_size _ rfl, rfl, _, rfl⟩⟩
theorem ZiM (h : PA X es t) : PE X (.List es pos) (tLst t) := by
 intro pins s σ H Q I hq
 refine wpAny_List_spliced (thn (h pos pins s σ H _ I hq) fun us s1 ⟨xs, H1, I1, r, z, q⟩ => ⟨by rw [<- r.length]; exact z, ?_⟩)
 have hf : H1 s1.heap.objs.size = none := I1.hok.fresh (Nat.le_refl _)
 refine ⟨.ref s1.heap.objs.size, upd H1 s1.heap.objs.size (.lst xs), I1.laid (t' := s1.toks) (fun b u e => Heap.get?_push_of_some _ e) (Nat.le_refl _) ?_, rfl, q _ hf⟩
 exact ⟨z, us, 0, r, Heap.get?_push_size _ rfl⟩
end
abbrev Sp := List V -> Hp -> VK -> XK -> Prop
abbrev CXT := List Env -> Hp -> Shared -> XK -> Value -> Shared -> Prop
structure Env0 (P : Program) (w : World) (K : Fg) (mg : SO) (base : Heap) (A : Around) (outer : List Env) (s : Shared) (H : Hp) : Prop where
 frames : A.frames = some outer
 mod : Mod K mg base
 bs : ∀ b o, base.get? b = some o -> s.heap.get? b = some o /\ H b = none
 bsz : base.objs.size <= s.heap.objs.size
 funs : s.heap.FunFrames base outer
 frf : ∀ b ∈ frs outer, H b = none
 hok : HOk P w H s.heap
 bare : AllBare s.gens
def CE (outer : List Env) (P : Program) (w : World) (H : Hp) (s : Shared) (Q : VK) (u : Value) (s' : Shared) : Prop :=
 ∃ v H', s'.os = s.os /\ AllBare s'.gens /\ Un (frs outer) [] H H' s.heap s'.heap /\ HOk P w H' s'.heap /\ RelV v u /\ Q v H'
def CR (CX : CXT) (outer : List Env) (P : Program) (w : World) (H : Hp) (s : Shared) (Q : VK) (E : XK) (r : Result) (s' : Shared) : Prop :=
 match r with
 | .ok (.ret u) => CE outer P w H s Q u s'
 | .ok _ => False
 | .error e => CX outer H s E e s'
structure FnOk (P : Program) (w : World) (K : Fg) (mg : SO) (base : Heap) (CX : CXT) (k : Nat) (f : Addr) (fd : FuncData) (ps : List Str) (sp : Sp) : Prop where
 len : ∀ vs H Q E, sp vs H Q E -> vs.length = ps.length
 run : ∀ (A : Around) (outer : List Env) (s : Shared) (H : Hp) (args : Args) (us : List Value) (vs : List V) (Q : VK) (E : XK), Room k A -> Env0 P w K mg base A outer s H -> BindsTo s fd args (ps.zip us) -> Vals vs us -> sp vs H Q E ->
  codeAny (model P w) A (.call (.ref f) args) (CR CX outer P w H s Q E) s
theorem Env0.make {P : Program} {w : World} {K : Fg} {mg : SO} {base : Heap} {A : Around} {outer : List Env} {s : Shared} {H : Hp} (e : Env0 P w K mg base A outer s H) (C : Addr) (us : List Value) (kw : List (Str × Value)) :
 Env0 P w K mg base (A.under (.builtin "type.__call__" ⟨.ref C :: us, kw⟩)) outer s H := ⟨by first | exact e.frames | (simpa [Around.under, Code.envs, Code.isFrame, pushEnvs] using e.frames), e.mod, e.bs, e.bsz, e.funs, e.frf, e.hok, e.bare⟩
section
variable {X : Cx} {pins : Pn} {σ : St} {H : Hp} {s s' : Shared}
theorem Inv.env0 (I : Inv X pins σ H s) : Env0 X.prog X.w X.K X.mg X.base X.A X.stack s H :=
 ⟨I.ok.frames, I.ok.mod, I.bs, Nat.le_trans I.ok.bsz I.sz, I.stack, I.stkFree, I.hok, I.bare⟩
theorem Inv.after {Q : VK} {u : Value} (I : Inv X pins σ H s) (h : CE X.stack X.prog X.w H s Q u s') : EP X pins σ Q u s' := by
 obtain ⟨v, H', os, bare, un, hok, r, q⟩ := h
 obtain ⟨hh, g, d, t, os'⟩ := s'
 obtain rfl : os' = s.os := os
 exact ⟨v, H', I.call (h' := hh) (g' := g) (d' := d) (t' := t) (ch := []) un hok bare (fun b z => absurd z (by simp)), r, q⟩
end
def Zlc (sp : Sp) (dvs : List V) (E : XK) (t : TA) : TE := fun σ H Q => t σ H fun vs H1 => sp (vs ++ dvs) H1 Q E
def Zgi (C : Addr) (m : Str) (sp : Sp) (dvs : List V) (E : XK) (ta : TE) (t : TA) : TE := fun σ H Q => ta σ H fun x H1 => ∃ a dx fs, x = .ref a /\ H1 a = some (.ins C dx fs) /\ fs.lookup m = none /\
 t σ H1 fun vs H2 => sp (x :: (vs ++ dvs)) H2 Q E
def Zld (C : Addr) (sp : Sp) (dvs : List V) (E : XK) (t : TA) : TE := fun σ H Q => t σ H fun vs H1 => ∀ x dx, H1 x = none -> H1 dx = none -> dx ≠ x ->
 sp (.ref x :: (vs ++ dvs)) (upd (upd H1 dx (.own x)) x (.ins C dx [])) (fun v H2 => v = .non /\ Q (.ref x) H2) E
def Binds (K : Fg) (fd : FuncData) (ps : List Str) (ds : List Value) : Prop :=
 ∀ (s : Shared) (us : List Value), K.In s.heap -> (us ++ ds).length = ps.length -> BindsTo s fd ⟨us, []⟩ (ps.zip (us ++ ds))
theorem Binds.all {K : Fg} {fd : FuncData} {ps : List Str} (h : ∀ us : List Value, us.length = ps.length -> bindArgs fd ⟨us, []⟩ = pure (ps.zip us)) : Binds K fd ps [] := fun s us _ hl => by
 rw [List.append_nil] at hl ⊢
 exact .of_eq (h us hl)
def Passes (CX : CXT) (X : Cx) (E : XK) : Prop := ∀ (pins : Pn) (σ : St) (H : Hp) (s : Shared) (e : Value) (s' : Shared), Inv X pins σ H s -> CX X.stack H s E e s' -> X.xe e s'
section
variable {X : Cx} {CX : CXT} {k : Nat} {f C : Addr} {fd : FuncData} {ps : List Str} {sp : Sp} {dvs : List V} {ds : List Value} {E : XK} {x m : Str} {p pos apos : Pos} {e o : Expr} {es : List Expr} {ta : TE} {t : TA}
theorem Zgy {pins : Pn} {σ : St} {H : Hp} {s : Shared} {Q : VK} {us : List Value} {vs : List V} (F : FnOk X.prog X.w X.K X.mg X.base CX k f fd ps sp) (hr : Room k X.A) (hb : Binds X.K fd ps ds) (hd : Vals dvs ds) (hx : Passes CX X E)
 (I : Inv X pins σ H s) (r : Vals vs us) (h : sp (vs ++ dvs) H Q E) : wpAny (model X.prog X.w) X.A (call (.ref f) us) (EP X pins σ Q) X.xe s := by
 have r2 : Vals (vs ++ dvs) (us ++ ds) := r.append hd
 have hl : (us ++ ds).length = ps.length := by rw [<- r2.length]; exact F.len _ _ _ _ h
 refine wpAny_call (codeAny_mono (F.run X.A X.stack s H ⟨us, []⟩ (us ++ ds) (vs ++ dvs) Q E hr I.env0 (hb s us I.kIn hl) r2 h) fun r s' hq => ?_)
 cases r with
 | error e => exact hx pins σ H s e s' I hq
 | ok fl =>
  cases fl with
  | ret u => exact I.after hq
  | next => exact False.elim hq
  | brk => exact False.elim hq
  | cont => exact False.elim hq
abbrev SF (X : Cx) (pos : Pos) (es : List Expr) : Prop := (backTo pos (starEach es X.env)).any (·.1) = false
theorem Zlz (F : FnOk X.prog X.w X.K X.mg X.base CX k f fd ps sp) (hr : Room k X.A) (hg : Gl X x) (hm : X.mg x = some (.ref f)) (hk : PySem.W.keepIn X.K (.ref f) = true) (hb : Binds X.K fd ps ds) (hd : Vals dvs ds) (hx : Passes CX X E)
 (ha : PA X (e :: es) t) (hdb : (x == ("__debug__" : Str)) = false := by decide) (he : SE X e es := by rfl) (hpl : SF X pos es := by rfl) :
 PE X (.Call (.Name x p) (e :: es) [] pos) (Zlc sp dvs E t) := by
 intro pins s σ H Q I h
 refine wpAny_Call_Name_kw (Zfk I hg hm ?_ hdb)
 refine PySem.W.callWith_K (h₀ := X.base) I.ok.mod.kin hk (thn (ha pos pins s σ H _ I h) fun us s1 ⟨vs, H1, I1, r, q⟩ => ⟨I1.kIn, ?_⟩) he hpl
 exact Zgy F hr hb hd hx I1 r q
theorem Zl0 {pl : Sem Bool} (he : PE X o ta) (c : Cls X.K C) (hm : Meth X.K C m f) (F : FnOk X.prog X.w X.K X.mg X.base CX k f fd ps sp) (hr : Room k X.A) (hb : Binds X.K fd ps ds) (hd : Vals dvs ds) (hx : Passes CX X E) (ha : PA X (e :: es) t)
 (hst : SE X e es := by rfl) (hpl : SF X pos es := by rfl)
 (ht : eval (.Call (.Attribute o m apos) (e :: es) [] pos) X.env = (do
  let ov <- eval o X.env
  standAt apos.atName
  let (f, first) <- holding [ov] (getMethod ov m pl)
  callWith pos f first (backTo pos (starEach (e :: es) X.env)) (backToKw pos (keywordEach [] X.env))) := by rfl) :
 PE X (.Call (.Attribute o m apos) (e :: es) [] pos) (Zgi C m sp dvs E ta t) := by
 intro pins s σ H Q I h
 refine PySem.W.methodCall_KW (pl := pl) (thn (he pins s σ H _ I h) fun u s1 z0 => ?_) ht
 obtain ⟨x, H1, I1, rx, a, dx, fs, ex, ea, l, q⟩ := z0
 subst ex
 obtain rfl : u = Value.ref a := rx
 refine ZeG I1 ea c hm l ?_
 refine PySem.W.callWith_K (first := [.ref a]) (h₀ := X.base) I.ok.mod.kin hm.kp (thn (ha pos pins s1 σ H1 _ I1 q) fun us s2 ⟨vs, H2, I2, r, q2⟩ => ⟨I2.kIn, ?_⟩) hst hpl
 exact Zgy (us := .ref a :: us) (vs := .ref a :: vs) F hr hb hd hx I2 (.cons rfl r) q2
theorem ZjX {pl : Sem Bool} (he : PE X o ta) (c : Cls X.K C) (hm : Meth X.K C m f) (F : FnOk X.prog X.w X.K X.mg X.base CX k f fd ps sp) (hr : Room k X.A) (hb : Binds X.K fd ps ds) (hd : Vals dvs ds) (hx : Passes CX X E)
 (ht : eval (.Call (.Attribute o m apos) [] [] pos) X.env = (do
  let ov <- eval o X.env
  standAt apos.atName
  let (f, first) <- holding [ov] (getMethod ov m pl)
  callWith pos f first (backTo pos (starEach [] X.env)) (backToKw pos (keywordEach [] X.env))) := by rfl) :
 PE X (.Call (.Attribute o m apos) [] [] pos) (Zgi C m sp dvs E ta tNil) := by
 intro pins s σ H Q I h
 refine PySem.W.methodCall_KW (pl := pl) (thn (he pins s σ H _ I h) fun u s1 z0 => ?_) ht
 obtain ⟨x, H1, I1, rx, a, dx, fs, ex, ea, l, q⟩ := z0
 subst ex
 obtain rfl : u = Value.ref a := rx
 refine ZeG I1 ea c hm l ?_
 exact PySem.W.callWith_K0 (first := [.ref a]) I1.kIn hm.kp (Zgy (us := [.ref a]) (vs := [.ref a]) F hr hb hd hx I1 (.cons rfl .nil) q)
structure Mk (K : Fg) (C f : Addr) : Prop where
 makes : PySem.W.makesIn K C = true
 init : PySem.W.findIn K (.ref C) "__init__" = some (some (.ref f))
 fn : PySem.W.isFn K (.ref f) = true
 kp : PySem.W.keepIn K (.ref C) = true
theorem ZjY {pins : Pn} {σ : St} {H : Hp} {s : Shared} {Q : VK} {us : List Value} {vs : List V} (M : Mk X.K C f) (F : FnOk X.prog X.w X.K X.mg X.base CX k f fd ps sp) (hr : Room (k + 1) X.A) (hb : Binds X.K fd ps ds) (hd : Vals dvs ds)
 (hx : Passes CX X E) (I : Inv X pins σ H s) (r : Vals vs us)
 (h : ∀ x dx, H x = none -> H dx = none -> dx ≠ x -> sp (.ref x :: (vs ++ dvs)) (upd (upd H dx (.own x)) x (.ins C dx [])) (fun v H2 => v = .non /\ Q (.ref x) H2) E) :
 wpAny (model X.prog X.w) X.A (call (.ref C) us) (EP X pins σ Q) X.xe s := by
 have hq := h (s.heap.objs.size + 1) s.heap.objs.size (I.hok.fresh (Nat.le_succ _)) (I.hok.fresh (Nat.le_refl _)) (Nat.ne_of_lt (Nat.lt_succ_self _))
 have I2 := Inv.made (C := C) I
 have r2 : Vals (V.ref (s.heap.objs.size + 1) :: (vs ++ dvs)) (Value.ref (s.heap.objs.size + 1) :: (us ++ ds)) := .cons rfl (r.append hd)
 have hl : (Value.ref (s.heap.objs.size + 1) :: us ++ ds).length = ps.length := by
  have e := r2.length
  rw [F.len _ _ _ _ hq] at e
  exact e.symm
 refine wpAny_call (ZjW (f := f) I.kIn M.makes M.init (beq_iff_eq.mp M.fn) (codeAny_mono (F.run _ X.stack _ _ ⟨Value.ref (s.heap.objs.size + 1) :: us, []⟩ (Value.ref (s.heap.objs.size + 1) :: (us ++ ds)) _ _ E (hr.make C us [])
  (I2.env0.make C us []) (hb _ (Value.ref (s.heap.objs.size + 1) :: us) I2.kIn hl) r2 hq) fun r s' hq' => ?_))
 cases r with
 | error e => exact hx pins σ _ _ e s' I2 hq'
 | ok fl =>
  cases fl with
  | ret u =>
   obtain ⟨v, H', I3, rv, ev, q3⟩ := I2.after hq'
   subst ev
   exact ⟨rv, ⟨V.ref (s.heap.objs.size + 1), H', I3, rfl, q3⟩⟩
  | next => exact False.elim hq'
  | brk => exact False.elim hq'
  | cont => exact False.elim hq'
theorem Zl1 (M : Mk X.K C f) (F : FnOk X.prog X.w X.K X.mg X.base CX k f fd ps sp) (hr : Room (k + 1) X.A) (hg : Gl X x) (hm : X.mg x = some (.ref C)) (hb : Binds X.K fd ps ds) (hd : Vals dvs ds) (hx : Passes CX X E)
 (ha : PA X (e :: es) t) (hdb : (x == ("__debug__" : Str)) = false := by decide) (he : SE X e es := by rfl) (hpl : SF X pos es := by rfl) :
 PE X (.Call (.Name x p) (e :: es) [] pos) (Zld C sp dvs E t) := by
 intro pins s σ H Q I h
 refine wpAny_Call_Name_kw (Zfk I hg hm ?_ hdb)
 refine PySem.W.callWith_K (h₀ := X.base) I.ok.mod.kin M.kp (thn (ha pos pins s σ H _ I h) fun us s1 ⟨vs, H1, I1, r, q⟩ => ⟨I1.kIn, ?_⟩) he hpl
 exact ZjY M F hr hb hd hx I1 r q
end
def PK (X : Cx) (kws : List Keyword) (t : TA) : Prop :=
 ∀ (pos : Pos) (pins : Pn) (s : Shared) (σ : St) (H : Hp) (Q : List V -> Hp -> Prop), Inv X pins σ H s -> t σ H Q -> wpAny (model X.prog X.w) X.A (evalAll ((backToKw pos (keywordEach kws X.env)).map (·.2))) (AP X pins σ Q) X.xe s
section
variable {X : Cx} {CX : CXT} {k : Nat} {f C : Addr} {fd : FuncData} {ps ks : List Str} {sp : Sp} {E : XK} {x m : Str} {p pos apos kpos : Pos} {e o : Expr} {es : List Expr} {kws : List Keyword} {te ta : TE} {t tk : TA} {nm : Option Str}
theorem Znm : PK X [] tNil := fun _ _ _ _ H Q I h => wpAny_evalAll_nil ⟨[], H, I, .nil, h⟩
theorem Zl2 (ha : PE X e te) (hr : PK X kws t) : PK X (⟨nm, e, kpos⟩ :: kws) (ZeH te t) := by
 intro pos pins s σ H Q I h
 show wpAny _ _ (evalAll ((do let v <- eval e X.env; standAt pos; pure v) :: (backToKw pos (keywordEach kws X.env)).map (·.2))) _ _ s
 refine wpAny_evalAll_cons (wpAny_bind (thn (ha pins s σ H _ I h) fun u s1 ⟨x, H1, I1, r1, q1⟩ => wpAny_bind (wpAny_standAt (wpAny_pure ?_))))
 exact thn (hr pos pins s1 σ H1 _ I1 q1) fun us s2 ⟨xs, H2, I2, r2, q2⟩ => ⟨x :: xs, H2, I2, .cons r1 r2, q2⟩
variable {g : List Value -> List Value -> List Value} {gV : List V -> List V -> List V}
end
structure FnScope (N P : List Str) (sc : Scope) : Prop where
 kind : sc.kind = .function
 co : sc.isCoroutine = false
 gen : sc.isGenerator = false
 nd : N.Nodup
 pre : N.take P.length = P
 par : ∀ x ∈ P, sc.names.lookup x = some .local \/ sc.names.lookup x = some .cell
 nofree : ∀ y ∈ sc.names, y.2 ≠ .free
theorem Zf7 {kindOf : Str -> Option NameKind} {x : Str} : ∀ {binds : List (Str × Value)} {m : SO}, (∀ v, (x, v) ∉ binds) -> bindL kindOf binds m x = m x
 | [], _, _ => rfl
 | (n, v) :: r, m, h => by
  unfold bindL
  rw [Zf7 fun w hw => h w (List.mem_cons_of_mem _ hw)]
  split
  . have : x ≠ n := by rintro rfl; exact h v List.mem_cons_self
    simp [this]
  . rfl
theorem Zf8 {kindOf : Str -> Option NameKind} {x : Str} : ∀ {binds : List (Str × Value)} {m : SO}, (∀ v, (x, v) ∉ binds) -> bindC kindOf binds m x = m x
 | [], _, _ => rfl
 | (n, v) :: r, m, h => by
  unfold bindC
  rw [Zf8 fun w hw => h w (List.mem_cons_of_mem _ hw)]
  split
  . rfl
  . have : x ≠ n := by rintro rfl; exact h v List.mem_cons_self
    simp [this]
theorem Zf9 {kindOf : Str -> Option NameKind} {x : Str} {v : Value} : ∀ {P : List Str} {vs : List Value} {i : Nat} {m : SO}, P.Nodup -> P[i]? = some x -> vs[i]? = some v -> kindOf x = some .local ->
 bindL kindOf (P.zip vs) m x = some v
 | [], _, _, _, _, h, _, _ => by simp at h
 | _ :: _, [], _, _, _, _, h, _ => by simp at h
 | p :: P, w :: vs, 0, m, nd, h1, h2, hk => by
  simp at h1 h2; subst h1; subst h2
  show bindL kindOf ((p, w) :: P.zip vs) m p = _
  unfold bindL
  rw [Zf7 fun v hv => (List.nodup_cons.mp nd).1 (List.of_mem_zip hv).1, if_pos hk]
  simp
 | p :: P, w :: vs, i + 1, m, nd, h1, h2, hk => by
  show bindL kindOf ((p, w) :: P.zip vs) m x = _
  unfold bindL
  exact Zf9 (i := i) (List.nodup_cons.mp nd).2 (by simpa using h1) (by simpa using h2) hk
theorem ZfA {kindOf : Str -> Option NameKind} {x : Str} {v : Value} : ∀ {P : List Str} {vs : List Value} {i : Nat} {m : SO}, P.Nodup -> P[i]? = some x -> vs[i]? = some v -> kindOf x ≠ some .local ->
 bindC kindOf (P.zip vs) m x = some v
 | [], _, _, _, _, h, _, _ => by simp at h
 | _ :: _, [], _, _, _, _, h, _ => by simp at h
 | p :: P, w :: vs, 0, m, nd, h1, h2, hk => by
  simp at h1 h2; subst h1; subst h2
  show bindC kindOf ((p, w) :: P.zip vs) m p = _
  unfold bindC
  rw [Zf8 fun v hv => (List.nodup_cons.mp nd).1 (List.of_mem_zip hv).1, if_neg hk]
  simp
 | p :: P, w :: vs, i + 1, m, nd, h1, h2, hk => by
  show bindC kindOf ((p, w) :: P.zip vs) m x = _
  unfold bindC
  exact ZfA (i := i) (List.nodup_cons.mp nd).2 (by simpa using h1) (by simpa using h2) hk
noncomputable def start (N : List Str) (vs : List V) : St := vs.map some ++ List.replicate (N.length - vs.length) none
noncomputable def cxOf (CX : CXT) (P : Program) (w : World) (K : Fg) (mg : SO) (base : Heap) (N : List Str) (qual : Str) (scope : Scope) (f : Addr) (cd : Value) (A : Around) (outer : List Env) (s : Shared) (H : Hp) (E : XK) : Cx where
 prog := P
 w := w
 K := K
 mg := mg
 base := base
 A := A.deeper (envOfC qual scope s.heap.objs.size f cd)
 N := N
 s₀ := s
 H₀ := H
 env := envOfC qual scope s.heap.objs.size f cd
 outer := outer
 stack := envOfC qual scope s.heap.objs.size f cd :: outer
 ex := []
 calm := true
 fn := fun _ => true
 pn := []
 xe := fun e s' => wpAny (model P w) (A.deeper (envOfC qual scope s.heap.objs.size f cd)) (leaving (envOfC qual scope s.heap.objs.size f cd) e) (fun _ s'' => CX outer H s E e s'') (fun e' s'' => CX outer H s E e' s'') s'
theorem ZcK {sc : Scope} {n : Nat} {x : Str} (h : sc.names.lookup x = some .cell) : ∃ c, (cellsFrom n sc.names []).lookup x = some c := by
 have q := PySem.W.cellsFrom_some sc.names n [] (.inl h)
 exact Option.isSome_iff_exists.mp q
theorem ZiN {CX : CXT} {P : Program} {w : World} {K : Fg} {mg : SO} {base : Heap} {N ps : List Str} {qual : Str} {scope : Scope} {f : Addr} {cd : Value} {A : Around} {outer : List Env} {s s1 : Shared} {H : Hp} {E : XK} {us : List Value} {vs : List V}
 (S : FnScope N ps scope) (hd : A.handled = none) (e0 : Env0 P w K mg base A outer s H) (hl : vs.length = ps.length) (r : Vals vs us)
 (x : InCallC s s.heap.objs.size (bindL (envOfC qual scope s.heap.objs.size f cd).kindOf (ps.zip us) fun _ => none) (cellsFrom (s.heap.objs.size + 1) scope.names []) (bindC (envOfC qual scope s.heap.objs.size f cd).kindOf (ps.zip us) fun _ => none) s1) :
 Inv (cxOf CX P w K mg base N qual scope f cd A outer s H E) [] (start N vs) H s1 := by
 have hpl : ps.length <= N.length := by have := congrArg List.length S.pre; rw [List.length_take] at this; omega
 obtain ⟨h1, tk, rfl, hk⟩ := x.done
 have noA : ∀ b : Addr, b ∉ (cxOf CX P w K mg base N qual scope f cd A outer s H E).ex := fun b z => absurd (show b ∈ ([] : List Addr) from z) (by simp)
 refine ⟨⟨e0.mod, S.kind, rfl, rfl, Nat.le_refl _, fun y z c h1 h2 => ?_, fun y hy => ?_, fun y c _ h => ?_, fun _ => hd, Around.frames_deeper e0.frames, .inr ⟨rfl, rfl⟩, fun b z => absurd z (noA b), e0.bs, e0.bsz, fun b _ _ => noA b, fun b z => absurd z (noA b), e0.funs, e0.frf⟩,
  rfl, e0.bare, Un.kept hk, ⟨_, x.toInCall.ns, fun i y v h1 h2 h3 => ?_⟩, fun y c h => ⟨_, x.cell y c h⟩, e0.hok.fresh (Nat.le_refl _), fun y c h => ?_, fun p hp => absurd (show p ∈ ([] : Pn) from hp) (by simp), e0.hok.kept hk, ?_⟩
 . exact name_of_addr x.apart (PySem.mem_of_lookup h1) (PySem.mem_of_lookup h2)
 . have hy : scope.names.lookup y = some .cell \/ scope.names.lookup y = some .free := hy
   rcases hy with hy | hy
   . exact ZcK hy
   . exact absurd rfl (S.nofree _ (PySem.mem_of_lookup hy))
 . exact Nat.le_of_lt (x.above y c (PySem.mem_of_lookup h))
 . have hi : i < vs.length := by
    unfold start at h2
    by_cases hi : i < vs.length
    . exact hi
    . rw [List.getElem?_append_right (by simpa using hi)] at h2
      rw [List.getElem?_replicate] at h2
      split at h2 <;> cases h2
   have ha : vs[i]? = some v := by
    unfold start at h2
    rw [List.getElem?_append_left (by simpa using hi), List.getElem?_map] at h2
    cases e : vs[i]? with
    | none => rw [e] at h2; cases h2
    | some a => rw [e] at h2; cases h2; rfl
   obtain ⟨u, hu, rv⟩ := r.get ha
   have hp : ps[i]? = some y := by
    rw [<- S.pre, List.getElem?_take_of_lt (by omega)]; exact h1
   have ndP : ps.Nodup := by rw [<- S.pre]; exact S.nd.sublist (List.take_sublist _ _)
   refine ⟨u, rv, ?_⟩
   rcases S.par y (List.mem_of_getElem? hp) with k | k
   . exact .inl ⟨k, Zf9 ndP hp hu k⟩
   . obtain ⟨c, e⟩ := ZcK (n := s.heap.objs.size + 1) k
     refine .inr ⟨.inl k, c, e, ?_⟩
     have q := x.cell y c e
     rw [ZfA ndP hp hu (by show scope.names.lookup y ≠ _; rw [k]; decide)] at q
     exact q
 . exact e0.hok.fresh (Nat.le_of_lt (x.above y c (PySem.mem_of_lookup h)))
 . unfold start
   show _ = N.length
   rw [List.length_append, List.length_map, List.length_replicate]
   omega
theorem Zpn {CX : CXT} {P : Program} {w : World} {K : Fg} {mg : SO} {base : Heap} {k : Nat} {f : Addr} {name qual : Str} {params : Arguments} {body : List Stmt} {scope : Scope} {dV kV doc pm cdv ct oc : Value} {an od : Option Addr}
 {osl : Array (Option Value)} {N ps : List Str} {sp : Sp} (lk : K.lookup f = some ⟨oc, od, .func (PySem.W.fnOf name qual params body scope dV kV doc pm an cdv ct), osl⟩) (hcd : PySem.W.codeIn K cdv qual = true) (S : FnScope N ps scope)
 (len : ∀ vs H Q E, sp vs H Q E -> vs.length = ps.length)
 (hbody : ∀ (A : Around) (outer : List Env) (s : Shared) (H : Hp) (vs : List V) (Q : VK) (E : XK), Room k (A.deeper (envOfC qual scope s.heap.objs.size f cdv)) -> sp vs H Q E ->
  ∃ t, PSs (cxOf CX P w K mg base N qual scope f cdv A outer s H E) body t /\ t { nx := fun _ H' => Q .non H', rt := Q } (start N vs) H) :
 FnOk P w K mg base CX (k + 1) f (PySem.W.fnOf name qual params body scope dV kV doc pm an cdv ct) ps sp := by
 refine ⟨len, fun A outer s H args us vs Q E hr e0 hb r hsp => ?_⟩
 have hl := len _ _ _ _ hsp
 have KX : K.In s.heap := e0.mod.kin.keeps fun b o e => (e0.bs b o e).1
 have lim : s.heap.NoLimit := e0.mod.nolimit.keeps fun b o e => (e0.bs b o e).1
 have hkind : ∀ y ∈ ps.zip us, scope.names.lookup y.1 = some .local \/ (scope.names.lookup y.1 = some .cell /\ ((cellsFrom (s.heap.objs.size + 1) scope.names []).lookup y.1).isSome = true) := fun ⟨n, v⟩ hy => by
  rcases S.par n (List.of_mem_zip hy).1 with q | q
  . exact .inl q
  . exact .inr ⟨q, PySem.W.cellsFrom_some _ _ _ (.inl q)⟩
 refine codeAny_call_function hr.depth (KX _ _ lk) rfl S.co S.gen rfl (PySem.W.codeRec_of KX hcd) (hb _ _ _ _ ?_)
 refine wpAny_newFunctionEnv_cells S.kind hkind fun env he s1 x => ?_
 subst he
 refine ⟨lim.keeps x.toInCall.keep, codeAny_func ?_⟩
 obtain ⟨t, ht, hq⟩ := hbody A outer s H vs Q E (hr.deeper _) hsp
 have I : Inv (cxOf CX P w K mg base N qual scope f cdv A outer s H E) [] (start N vs) H s1 := ZiN S hr.hd e0 hl r x
 refine wpAny_mono (ht [] s1 (start N vs) H _ I hq) (fun fl s' hs => ?_) fun e s' hs => hs
 have fin : ∀ {σ' : St} {H' : Hp} {v : V} {u : Value}, Inv (cxOf CX P w K mg base N qual scope f cdv A outer s H E) [] σ' H' s' -> RelV v u -> Q v H' -> CE outer P w H s Q u s' :=
  fun {σ' H' v u} J rv q => ⟨v, H', J.os, J.bare, J.base, J.hok, rv, q⟩
 cases fl with
 | ret u =>
  obtain ⟨v, σ', H', J, rv, q⟩ := hs
  exact fin J rv q
 | next =>
  obtain ⟨σ', H', J, q⟩ := hs
  exact fin (v := V.non) (u := Value.none) J rfl q
 | brk =>
  obtain ⟨_, _, _, q⟩ := hs
  exact False.elim q
 | cont =>
  obtain ⟨_, _, _, q⟩ := hs
  exact False.elim q
section
variable {X : Cx} {x : Str} {p pos : Pos} {e : Expr} {es : List Expr} {t : TA} {id T : String} {r : List V -> Hp -> VK -> Prop}
def tCB (r : List V -> Hp -> VK -> Prop) (t : TA) : TE := fun σ H Q => t σ H fun vs H1 => r vs H1 Q
theorem Zgz (hc : ZA X (.builtin id) r) (hg : Gl X x) (hm : X.mg x = none) (hv : bootBuiltins x = some (.builtin id)) (ha : PA X (e :: es) t) (hn : x ≠ "__name__" := by decide) (hdb : (x == ("__debug__" : Str)) = false := by decide)
 (he : SE X e es := by rfl) (hpl : SF X pos es := by rfl) : PE X (.Call (.Name x p) (e :: es) [] pos) (tCB r t) := by
 intro pins s σ H Q I h
 refine wpAny_Call_Name_kw (ZaF I hg hm hv ?_ hn hdb)
 exact PyProof.Rows.callWith_builtin1 (thn (ha pos pins s σ H _ I h) fun us s1 ⟨vs, H1, I1, r1, q1⟩ => hc pins s1 σ H1 vs us Q I1 r1 q1) he hpl
theorem Zdq (hc : ZA X (.type T) r) (hg : Gl X x) (hm : X.mg x = none) (hv : bootBuiltins x = some (.type T)) (ha : PA X (e :: es) t) (hn : x ≠ "__name__" := by decide) (hdb : (x == ("__debug__" : Str)) = false := by decide)
 (he : SE X e es := by rfl) (hpl : SF X pos es := by rfl) : PE X (.Call (.Name x p) (e :: es) [] pos) (tCB r t) := by
 intro pins s σ H Q I h
 refine wpAny_Call_Name_kw (ZaF I hg hm hv ?_ hn hdb)
 exact PyProof.Rows.callWith_type1 (thn (ha pos pins s σ H _ I h) fun us s1 ⟨vs, H1, I1, r1, q1⟩ => hc pins s1 σ H1 vs us Q I1 r1 q1) he hpl
end
end L2
namespace HT
open PySem PyProof.Rows
section
variable {prog : Program} {w : World} {A : Around} {E : VS} {s : Shared}
noncomputable def sIx (n d : Nat) : Option Int -> Nat
 | none => d
 | some v => if v < 0 then (v + (n : Int)).toNat else min v.toNat n
theorem Zcb (n d k : Nat) : sIx n d (some (k : Int)) = min k n := by
 show (if (k : Int) < 0 then ((k : Int) + (n : Int)).toNat else min (k : Int).toNat n) = min k n
 rw [if_neg (by omega), Int.toNat_natCast]
end
end HT
namespace L2
open PySem PySem.Spec PyProof.Rows
abbrev TO := St -> Hp -> (Option Int -> Hp -> Prop) -> Prop
def PO (X : Cx) (e : Option Expr) (t : TO) : Prop :=
 ∀ (pins : Pn) (s : Shared) (σ : St) (H : Hp) (Q : Option Int -> Hp -> Prop), Inv X pins σ H s -> t σ H Q ->
  wpAny (model X.prog X.w) X.A (evalPart e X.env) (fun u s' => ∃ o H', Inv X pins σ H' s' /\ IsPart u o /\ Q o H') X.xe s
noncomputable def Zl3 : TO := fun _ H Q => Q none H
noncomputable def Zpo (t : TE) : TO := fun σ H Q => t σ H fun x H1 => ∃ i, x = .int i /\ Q (some i) H1
section
variable {X : Cx} {e : Expr} {te : TE} {lo hi : Option Expr} {tl th : TO} {pos p2 : Pos}
theorem Zfl : PO X none Zl3 := by
 intro pins s σ H Q I h
 rw [evalPart_none]
 exact wpAny_pure ⟨none, H, I, .none, h⟩
theorem Zh3 (h : PE X e te) : PO X (some e) (Zpo te) := by
 intro pins s σ H Q I hw
 rw [evalPart_some]
 refine thn (h pins s σ H _ I hw) fun u s1 z0 => ?_
 obtain ⟨x, H1, I1, r1, q1⟩ := z0
 obtain ⟨i, rfl, q⟩ := q1
 obtain ⟨t, rfl⟩ := r1
 exact ⟨some i, H1, I1, .int i t, q⟩
def SlR (X : Cx) (r : V -> Option Int -> Option Int -> Hp -> VK -> Prop) : Prop :=
 ∀ (pins : Pn) (s : Shared) (σ : St) (H : Hp) (x : V) (v vl vu : Value) (lo hi : Option Int) (sl : Addr) (Q : VK), Inv X pins σ H s -> RelV x v -> s.heap.IsSliceOf sl vl vu .none -> IsPart vl lo -> IsPart vu hi -> r x lo hi H Q ->
  ∃ T id, typeLookup (.type T) "__getitem__" = pure (some (.builtin id)) /\ s.TypeIs v T /\ wpAny (model X.prog X.w) X.A (getItem v (.ref sl)) (EP X pins σ Q) X.xe s
def tSl (r : V -> Option Int -> Option Int -> Hp -> VK -> Prop) (te : TE) (tl th : TO) : TE := fun σ H Q => te σ H fun x H1 => tl σ H1 fun l H2 => th σ H2 fun u H3 => r x l u H3 Q
theorem ZjZ {r : V -> Option Int -> Option Int -> Hp -> VK -> Prop} (hr : SlR X r) (he : PE X e te) (hl : PO X lo tl) (hu : PO X hi th) : PE X (.Subscript e (.Slice lo hi none p2) pos) (tSl r te tl th) := by
 intro pins s σ H Q I h
 refine Subscript_ (thn (he pins s σ H _ I h) fun v s1 z0 => ?_)
 obtain ⟨x, H1, I1, r1, q1⟩ := z0
 refine wpAny_Slice (thn (hl pins s1 σ H1 _ I1 q1) fun vl s2 ⟨l, H2, I2, pl, q2⟩ => thn (hu pins s2 σ H2 _ I2 q2) fun vu s3 ⟨u, H3, I3, pu, q3⟩ => ?_)
 rw [evalPart_none]
 refine wpAny_pure ?_
 have I4 : Inv X pins σ H3 { s3 with heap := s3.heap.push { cls := .type "slice", data := .fields #[vl, vu, .none] } } := I3.kept (t' := s3.toks) fun b ob q => Heap.get?_push_of_some _ q
 obtain ⟨T, id, hT, ht, hg⟩ := hr pins { s3 with heap := s3.heap.push { cls := .type "slice", data := .fields #[vl, vu, .none] } } σ H3 x v vl vu l u s3.heap.objs.size Q I4 r1 (Heap.IsSliceOf.new ..) pl pu q3
 show wpAny (model X.prog X.w) X.A (subscriptTail e (.Slice lo hi none p2) v (.ref s3.heap.objs.size)) (EP X pins σ Q) X.xe { s3 with heap := s3.heap.push { cls := .type "slice", data := .fields #[vl, vu, .none] } }
 exact tail_any (ops := [.ref s3.heap.objs.size, v]) ht hT hg (by with_unfolding_all rfl)
noncomputable def cutV (xs : List V) (lo hi : Option Int) : List V := (xs.drop (HT.sIx xs.length 0 lo)).take (HT.sIx xs.length xs.length hi - HT.sIx xs.length 0 lo)
theorem Zhi (xs : List V) (lo hi : Option Int) : (cutV xs lo hi).length <= xs.length := by
 unfold cutV
 rw [List.length_take, List.length_drop]
 omega
end
noncomputable def ixN (n : Nat) (i : Int) : Option Nat := if 0 <= i then (if i < n then some i.toNat else none) else if -(n : Int) <= i then some (i + n).toNat else none
noncomputable def atI {α : Type} (xs : List α) (i : Int) : Option α := (ixN xs.length i).bind fun j => xs[j]?
theorem Zh4 {n : Nat} {i : Int} {j : Nat} (h : ixN n i = some j) : seqIndex? i n = some j /\ j < n /\ -(n : Int) <= i /\ i < n := by
 unfold ixN at h
 by_cases h0 : 0 <= i
 . rw [if_pos h0] at h
   by_cases h1 : i < n
   . rw [if_pos h1] at h
     have e : i.toNat = j := Option.some.inj h
     exact ⟨by rw [seqIndex_of h0 h1, e], by omega, by omega, h1⟩
   . rw [if_neg h1] at h; cases h
 . rw [if_neg h0] at h
   by_cases h1 : -(n : Int) <= i
   . rw [if_pos h1] at h
     have e : (i + n).toNat = j := Option.some.inj h
     exact ⟨by rw [seqIndex_neg (by omega) h1, e], by omega, h1, by omega⟩
   . rw [if_neg h1] at h; cases h
theorem Zfm {α : Type} {xs : List α} {i : Int} {v : α} (h : atI xs i = some v) : ∃ j, seqIndex? i xs.length = some j /\ xs[j]? = some v /\ j < xs.length /\ -(xs.length : Int) <= i /\ i < xs.length := by
 unfold atI at h
 cases e : ixN xs.length i with
 | none => rw [e] at h; cases h
 | some j =>
  rw [e] at h
  obtain ⟨h1, h2, h3, h4⟩ := Zh4 e
  exact ⟨j, h1, h, h2, h3, h4⟩
def Zfn (b : Expr) : Prop := ∀ o i, subscripted b false o i = operate [o, i] (getItem o i)
def IxR (X : Cx) (r : R2) : Prop :=
 ∀ (value slice : Expr) (pins : Pn) (s : Shared) (σ : St) (H : Hp) (x y : V) (v u : Value) (Q : VK), Inv X pins σ H s -> RelV x v -> RelV y u -> r x y H Q ->
  subscripted slice false v u = operate [v, u] (getItem v u) -> wpAny (model X.prog X.w) X.A (subscriptTail value slice v u) (EP X pins σ Q) X.xe s
def MtR (X : Cx) (id : String) (r : V -> List V -> Hp -> VK -> Prop) : Prop :=
 ∀ (pins : Pn) (s : Shared) (σ : St) (H : Hp) (x : V) (xs : List V) (v : Value) (us : List Value) (Q : VK), Inv X pins σ H s -> RelV x v -> Vals xs us -> r x xs H Q ->
  wpAny (model X.prog X.w) X.A (call (.builtin id) (v :: us)) (EP X pins σ Q) X.xe s
section
variable {X : Cx} {a b : Expr} {ta tb : TE} {pos : Pos}
theorem Zpp {r : R2} (hr : IxR X r) (ha : PE X a ta) (hb : PE X b tb) (hs : Zfn b) : PE X (.Subscript a b pos) (tOp r ta tb) := by
 intro pins s σ H Q I h
 exact Subscript_ (binT ha hb I h fun v u s2 x y H2 I2 rx ry q => hr a b pins s2 σ H2 x y v u Q I2 rx ry q (hs _ _))
def rIxL (K : Fg) : R2 := fun x y H Q => ∃ p xs i v, x = .ref p /\ y = .int i /\ SqL K H p xs /\ atI xs i = some v /\ Q v H
def rIxT (K : Fg) : R2 := fun x y H Q => ∃ p xs i v, x = .ref p /\ y = .int i /\ SqT K H p xs /\ atI xs i = some v /\ Q v H
def rIxS : R2 := fun x y H Q => ∃ z i c, x = .str z /\ y = .int i /\ z.length <= sizeLine /\ atI z.cps.toList i = some c /\ Q (.str ⟨#[c]⟩) H
theorem Zh5 : IxR X (rIxL X.K) := by
 intro value slice pins s σ H x y v u Q I rx ry h hs
 obtain ⟨p, xs, i, z, rfl, rfl, hq, he, q⟩ := h
 cases rx
 obtain ⟨t, rfl⟩ := ry
 obtain ⟨its, r, pl, hz⟩ := I.list hq
 obtain ⟨j, h1, h2, h3, h4, h5⟩ := Zfm he
 obtain ⟨w, ew, rw'⟩ := r.get h2
 have hl := r.length
 have hn := Zci
 have fin : EP X pins σ Q w s := ⟨z, H, I, rw', q⟩
 by_cases h0 : 0 <= i
 . have hj : i.toNat = j := by
    rw [seqIndex_of h0 h5] at h1
    exact Option.some.inj h1
   exact item_listR pl.isList h0 (by omega) (by rw [hj]; simpa using ew) fin hs
 . have hj : (i + (its.toArray.size : Int)).toNat = j := by
    rw [seqIndex_neg (by omega) h4] at h1
    rw [List.size_toArray, <- hl]
    exact Option.some.inj h1
   exact subscriptTail_builtinR (x := w) pl.isList.typeIs slot_list_getitem.lookup
    (wpAny_getItem_list_neg (Q := fun r s' => r = w /\ EP X pins σ Q r s') pl.isList (by omega) (by rw [List.size_toArray] <;> omega) (by omega) (by rw [hj]; simpa using ew) ⟨rfl, fin⟩) hs
theorem ZiO : IxR X (rIxT X.K) := by
 intro value slice pins s σ H x y v u Q I rx ry h hs
 obtain ⟨p, xs, i, z, rfl, rfl, hq, he, q⟩ := h
 cases rx
 obtain ⟨t, rfl⟩ := ry
 obtain ⟨its, r, pl, hz⟩ := I.tuple hq
 obtain ⟨j, h1, h2, h3, h4, h5⟩ := Zfm he
 obtain ⟨w, ew, rw'⟩ := r.get h2
 have hl := r.length
 have hn := Zci
 have fin : EP X pins σ Q w s := ⟨z, H, I, rw', q⟩
 exact subscriptTail_builtinR (x := w) pl.typeIs slot_tuple_getitem.lookup
  (getItem_tuple (j := j) (Q := fun r s' => r = w /\ EP X pins σ Q r s') pl (by omega) (by omega) (by rw [List.size_toArray, <- hl]; exact h1) (by simpa using ew) ⟨rfl, fin⟩) hs
theorem Znn : IxR X rIxS := by
 intro value slice pins s σ H x y v u Q I rx ry h hs
 obtain ⟨z, i, c, rfl, rfl, hz, he, q⟩ := h
 obtain ⟨t, rfl⟩ := rx
 obtain ⟨t', rfl⟩ := ry
 obtain ⟨j, h1, h2, h3, h4, h5⟩ := Zfm he
 have hl : z.cps.toList.length = z.length := by simp [Str.length]
 rw [hl] at h1 h4 h5
 have hn := Zci
 exact tail_any (typeIs_str s z t) slot_str_getitem.lookup (getItem_str (c := c) (by
  have e1 : decide (i < -(2 ^ 63 : Int)) = false := decide_eq_false (by omega)
  have e2 : decide (i ≥ 2 ^ 63) = false := decide_eq_false (by omega)
  rw [e1, e2, Bool.or_false]) (by rw [h1]; simpa using h2) ⟨.str ⟨#[c]⟩, H, I.tok _, ⟨_, rfl⟩, q⟩) hs
theorem Zid (its : List Value) (n j : Nat) (u : Value) : Obj.mapSeq (·.setIfInBounds j u) { cls := .type "list", data := .seq its.toArray n } = { cls := .type "list", data := .seq (its.set j u).toArray n } := by
 simp [Obj.mapSeq]
theorem Inv.lst {pins : Pn} {σ : St} {H : Hp} {s : Shared} {p : Addr} {xs : List V} (I : Inv X pins σ H s) (h : H p = some (.lst xs)) :
 ∃ (its : List Value) (n : Nat), Vals xs its /\ s.heap.get? p = some { cls := .type "list", data := .seq its.toArray n } /\ xs.length <= sizeLine := by
 obtain ⟨z, its, n, r, e⟩ := I.hok p _ h
 exact ⟨its, n, r, e, z⟩
theorem Inv.lstUpd {pins : Pn} {σ : St} {H : Hp} {s : Shared} {p : Addr} {xs ys : List V} {its its' : List Value} {n n' : Nat} {f : Obj -> Obj} (I : Inv X pins σ H s) (h : H p = some (.lst xs))
 (ho : s.heap.get? p = some { cls := .type "list", data := .seq its.toArray n }) (hf : f { cls := .type "list", data := .seq its.toArray n } = { cls := .type "list", data := .seq its'.toArray n' }) (r : Vals ys its') (hz : ys.length <= sizeLine) (t : Nat) :
 Inv X pins σ (upd H p (.lst ys)) { s with heap := s.heap.update p f, toks := t } := by
 have e : (s.heap.update p f).get? p = some { cls := .type "list", data := .seq its'.toArray n' } := by
  rw [Heap.get?_update_self f ho (by rw [hf] <;> rfl), hf]
 refine I.write (x := p) (e := p) (by rw [h]; trivial) (.inl rfl) (fun b u hb q => (Heap.get?_update_other _ _ (Ne.symm hb)).trans q) ⟨_, e⟩ ?_
 exact ⟨hz, its', n', r, e⟩
def Zpq : V -> V -> V -> Hp -> (Hp -> Prop) -> Prop := fun o i v H Q => ∃ p xs k j, o = .ref p /\ i = .int k /\ H p = some (.lst xs) /\ ixN xs.length k = some j /\ Q (upd H p (.lst (xs.set j v)))
theorem Zka : PSet X Zpq := by
 intro pins s σ H o i v ov iv u Q I ro ri rv h
 obtain ⟨p, xs, k, j, rfl, rfl, hp, hj, q⟩ := h
 cases ro
 obtain ⟨t, rfl⟩ := ri
 obtain ⟨its, n, r, ho, hz⟩ := I.lst hp
 obtain ⟨h1, h2, h3, h4⟩ := Zh4 hj
 have hl := r.length
 have hn := Zci
 have I' : Inv X pins σ (upd H p (.lst (xs.set j v))) { s with heap := s.heap.update p (Obj.mapSeq (·.setIfInBounds j u)) } :=
  I.lstUpd hp ho (Zid its n j u) (r.set rv j) (by rw [List.length_set]; exact hz) s.toks
 by_cases h0 : 0 <= k
 . have hk : k.toNat = j := by
    rw [seqIndex_of h0 h4] at h1
    exact Option.some.inj h1
   exact PySem.W.ki_setAt ho h0 (by omega) (by rw [List.size_toArray, <- hl]; exact h4) (by rw [hk]; exact ⟨_, I', q⟩)
 . have hk : (k + (its.toArray.size : Int)).toNat = j := by
    rw [seqIndex_neg (by omega) h3] at h1
    rw [List.size_toArray, <- hl]
    exact Option.some.inj h1
   exact PySem.W.ki_setBack ho (by omega) (by rw [List.size_toArray, <- hl]; exact h3) (by omega) (by rw [hk]; exact ⟨_, I', q⟩)
theorem Zg0 (lo hi : Option Int) (n : Nat) : (sliceBounds lo hi none n).1 = ((HT.sIx n 0 lo : Nat) : Int) /\ (sliceBounds lo hi none n).2.1 = ((HT.sIx n n hi : Nat) : Int) /\ (sliceBounds lo hi none n).2.2 = 1 := by
 refine ⟨?_, ?_, rfl⟩
 . cases lo with
   | none => simp [sliceBounds, HT.sIx]
   | some i =>
    simp only [sliceBounds, HT.sIx, Option.getD_none, show (1 : Int) > 0 by decide, if_true]
    by_cases h : i < 0
    . simp only [h, if_true] <;> omega
    . simp only [h, if_false] <;> omega
 . cases hi with
   | none => simp [sliceBounds, HT.sIx]
   | some i =>
    simp only [sliceBounds, HT.sIx, Option.getD_none, show (1 : Int) > 0 by decide, if_true]
    by_cases h : i < 0
    . simp only [h, if_true] <;> omega
    . simp only [h, if_false] <;> omega
theorem ZfX (its : List Value) (lo hi : Option Int) : slicePick its.toArray lo hi none = ((its.drop (HT.sIx its.length 0 lo)).take (HT.sIx its.length its.length hi - HT.sIx its.length 0 lo)).toArray := by
 obtain ⟨h1, h2, h3⟩ := Zg0 lo hi its.toArray.size
 unfold slicePick
 rw [h1, h2, h3]
 simp only [sliceRange_one, pick_run, List.size_toArray] <;> rfl
def rSlL (K : Fg) : V -> Option Int -> Option Int -> Hp -> VK -> Prop := fun x lo hi H Q => ∃ a xs, x = .ref a /\ SqL K H a xs /\ ∀ p, H p = none -> Q (.ref p) (upd H p (.lst (cutV xs lo hi)))
theorem Zh6 : SlR X (rSlL X.K) := by
 intro pins s σ H x v vl vu lo hi sl Q I rx hs pl pu h
 obtain ⟨a, xs, rfl, hx, q⟩ := h
 cases rx
 obtain ⟨its, r, ht, hz⟩ := I.list hx
 have hlen := r.length
 refine ⟨"list", _, slot_list_getitem.lookup, ht.isList.typeIs, ?_⟩
 refine wpAny_getItem_list_slice ht.isList hs pl pu .none (by simp) ?_ (by rw [List.size_toArray] <;> omega)
 rw [ZfX, <- hlen]
 refine ⟨.ref s.heap.objs.size, _, I.laid (t' := s.toks) (o := .lst (cutV xs lo hi)) (fun b ob q => Heap.get?_push_of_some _ q) (Nat.le_refl _) ?_, rfl, q _ (I.hok.fresh (Nat.le_refl _))⟩
 exact ⟨Nat.le_trans (Zhi xs lo hi) hz, _, 0, (r.drop (HT.sIx xs.length 0 lo)).take (HT.sIx xs.length xs.length hi - HT.sIx xs.length 0 lo), Heap.get?_push_size _ rfl⟩
noncomputable def ZbS : V -> Bool
 | .non => true
 | .bl _ => true
 | .int _ => true
 | .str _ => true
 | _ => false
noncomputable def eqV : V -> V -> Bool
 | .non, .non => true
 | .bl a, .bl b => a == b
 | .bl a, .int b => (if a then 1 else 0) == b
 | .int a, .bl b => a == (if b then 1 else 0)
 | .int a, .int b => a == b
 | .str a, .str b => a == b
 | _, _ => false
theorem Zno {A : Around} {s : Shared} {y x : V} {u v : Value} (ry : RelV y u) (rx : RelV x v) (fy : ZbS y = true) (fx : ZbS x = true) : SeqAt.EqAt A s u v (eqV y x) := by
 cases y with
 | non =>
  cases ry
  cases x with
  | non => cases rx; exact SeqAt.EqAt.same _
  | bl b => cases rx; exact SeqAt.EqAt.none_bool b
  | int b => obtain ⟨t, rfl⟩ := rx; exact SeqAt.EqAt.none_int b t
  | str b => obtain ⟨t, rfl⟩ := rx; exact SeqAt.EqAt.none_str b t
  | _ => exact absurd (show false = true from fx) Bool.false_ne_true
 | bl a =>
  cases ry
  cases x with
  | non => cases rx; exact SeqAt.EqAt.bool_none a
  | bl b => cases rx; exact SeqAt.EqAt.bool_bool a b
  | int b => obtain ⟨t, rfl⟩ := rx; exact SeqAt.EqAt.bool_int a b t
  | str b => obtain ⟨t, rfl⟩ := rx; exact SeqAt.EqAt.bool_str a b t
  | _ => exact absurd (show false = true from fx) Bool.false_ne_true
 | int a =>
  obtain ⟨t', rfl⟩ := ry
  cases x with
  | non => cases rx; exact SeqAt.EqAt.int_none a t'
  | bl b => cases rx; exact SeqAt.EqAt.int_bool a t' b
  | int b => obtain ⟨t, rfl⟩ := rx; exact SeqAt.EqAt.int_int a t' b t
  | str b => obtain ⟨t, rfl⟩ := rx; exact SeqAt.EqAt.int_str a t' b t
  | _ => exact absurd (show false = true from fx) Bool.false_ne_true
 | str a =>
  obtain ⟨t', rfl⟩ := ry
  cases x with
  | non => cases rx; exact SeqAt.EqAt.str_none a t'
  | bl b => cases rx; exact SeqAt.EqAt.str_bool a t' b
  | int b => obtain ⟨t, rfl⟩ := rx; exact SeqAt.EqAt.str_int a t' b t
  | str b => obtain ⟨t, rfl⟩ := rx; exact SeqAt.EqAt.str_str a t' b t
  | _ => exact absurd (show false = true from fx) Bool.false_ne_true
 | _ => exact absurd (show false = true from fy) Bool.false_ne_true
noncomputable def eqU (x : V) (u : Value) : Bool := match u with
 | .none => eqV .non x
 | .bool b => eqV (.bl b) x
 | .int i _ => eqV (.int i) x
 | .str z _ => eqV (.str z) x
 | _ => false
theorem ZiP {x y : V} {u : Value} (r : RelV y u) (f : ZbS y = true) : eqU x u = eqV y x := by
 cases y with
 | non => cases r; rfl
 | bl b => cases r; rfl
 | int i => obtain ⟨t, rfl⟩ := r; rfl
 | str z => obtain ⟨t, rfl⟩ := r; rfl
 | _ => exact absurd (show false = true from f) Bool.false_ne_true
theorem Zfo {x : V} : ∀ {xs : List V} {us : List Value}, Vals xs us -> xs.all ZbS = true -> us.any (eqU x) = xs.any fun y => eqV y x
 | _, _, .nil, _ => rfl
 | y :: xs, u :: us, .cons r t, f => by
  rw [List.all_cons, Bool.and_eq_true] at f
  rw [List.any_cons, List.any_cons, ZiP r f.1, Zfo t f.2]
theorem Zex {A : Around} {s : Shared} {x : V} {v : Value} (rx : RelV x v) (fx : ZbS x = true) : ∀ {xs : List V} {us : List Value}, Vals xs us -> xs.all ZbS = true -> ∀ u ∈ us, SeqAt.EqAt A s u v (eqU x u)
 | _, _, .nil, _ => fun u hu => by cases hu
 | y :: xs, u :: us, .cons r t, f => fun u' hu => by
  rw [List.all_cons, Bool.and_eq_true] at f
  rcases List.mem_cons.mp hu with rfl | hu
  . rw [ZiP r f.1]; exact Zno r rx f.1 fx
  . exact Zex rx fx t f.2 u' hu
noncomputable def inV (x : V) (xs : List V) : Bool := xs.any fun y => eqV y x
def rIn (K : Fg) (neg : Bool) : R2 := fun x y H Q => ∃ p xs, y = .ref p /\ (SqL K H p xs \/ SqT K H p xs) /\ ZbS x = true /\ xs.all ZbS = true /\ Q (.bl (if neg then !inV x xs else inV x xs)) H
theorem Zdr : OpR X (compareOp .NotIn) (rIn X.K true) := by
 intro pins s σ H x y v u Q I rx ry h
 obtain ⟨p, xs, rfl, hq, fx, fs, q⟩ := h
 cases ry
 rcases hq with hq | hq
 . obtain ⟨its, r, pl, hz⟩ := I.list hq
   refine SeqAt.notIn_listAt (eqU x) pl.isList (fun w hw => Zex rx fx r fs w (by simpa using hw)) ⟨.bl _, H, I, rfl, ?_⟩
   rw [show its.toArray.any (eqU x) = its.any (eqU x) by simp, Zfo r fs]
   exact q
 . obtain ⟨its, r, pl, hz⟩ := I.tuple hq
   refine SeqAt.notIn_tupleAt (eqU x) pl (fun w hw => Zex rx fx r fs w (by simpa using hw)) ⟨.bl _, H, I, rfl, ?_⟩
   rw [show its.toArray.any (eqU x) = its.any (eqU x) by simp, Zfo r fs]
   exact q
theorem Zbm : ZA X (.builtin "len") (fun xs H Q => ∃ p ys, xs = [.ref p] /\ (SqL X.K H p ys \/ SqT X.K H p ys) /\ Q (.int ys.length) H) := by
 intro pins s σ H xs us Q I r h
 obtain ⟨p, ys, rfl, hq, q⟩ := h
 obtain ⟨u, rfl, rx⟩ := ZdJ r
 cases rx
 have hn := Zci
 rcases hq with hq | hq
 . obtain ⟨its, r', pl, hz⟩ := I.list hq
   have hlen := r'.length
   exact Calls.call_len_list pl.isList (by simp only [List.size_toArray] <;> omega) ⟨.int ys.length, H, I.tok _, ⟨s.toks + 1, by rw [List.size_toArray, hlen]⟩, q⟩
 . obtain ⟨its, r', pl, hz⟩ := I.tuple hq
   have hlen := r'.length
   exact len_tuple pl (by simp only [List.size_toArray] <;> omega) ⟨.int ys.length, H, I.tok _, ⟨s.toks + 1, by rw [List.size_toArray, hlen]⟩, q⟩
theorem Zg1 : ZA X (.builtin "len") (fun xs H Q => ∃ z, xs = [.str z] /\ z.length <= sizeLine /\ Q (.int z.length) H) := by
 intro pins s σ H xs us Q I r h
 obtain ⟨z, rfl, hz, q⟩ := h
 obtain ⟨u, rfl, t, rfl⟩ := ZdJ r
 have hn := Zci
 exact len_str (by omega) ⟨.int z.length, H, I.tok _, ⟨_, rfl⟩, q⟩
theorem Zbn : ZA X (.type "list") (fun xs H Q => ∃ p ys, xs = [.ref p] /\ (SqL X.K H p ys \/ SqT X.K H p ys) /\ ∀ l, H l = none -> Q (.ref l) (upd H l (.lst ys))) := by
 intro pins s σ H xs us Q I r h
 obtain ⟨p, ys, rfl, hq, q⟩ := h
 obtain ⟨u, rfl, rx⟩ := ZdJ r
 cases rx
 have fin : ∀ (its : List Value), Vals ys its -> ys.length <= sizeLine -> ∀ (h' : Heap) (c' : Nat), (∀ b o', s.heap.get? b = some o' -> h'.get? b = some o') ->
  h'.get? s.heap.objs.size = some { cls := .type "list", dict := none, data := .seq its.toArray c', slots := #[] } -> EP X pins σ Q (.ref s.heap.objs.size) { s with heap := h' } := fun its r' hz h' c' kp e =>
  ⟨.ref s.heap.objs.size, _, I.laid (t' := s.toks) kp (Nat.le_refl _) (show Z5 X.prog X.w _ h' _ (.lst ys) from ⟨hz, its, c', r', e⟩), rfl, q _ (I.hok.fresh (Nat.le_refl _))⟩
 rcases hq with hq | hq
 . obtain ⟨its, r', pl, hz⟩ := I.list hq
   have hlen := r'.length
   obtain ⟨o, ho, hc, n, hd⟩ := pl.isList
   exact call_list_seq p (.inl rfl) ho hc hd (fun h' c' kp e => fin its r' hz h' c' kp e) (by simp only [List.size_toArray] <;> omega)
 . obtain ⟨its, r', pl, hz⟩ := I.tuple hq
   have hlen := r'.length
   obtain ⟨o, ho, hc, n, hd⟩ := pl
   exact call_list_seq p (.inr rfl) ho hc hd (fun h' c' kp e => fin its r' hz h' c' kp e) (by simp only [List.size_toArray] <;> omega)
theorem Zdb : ZA X (.type "tuple") (fun xs H Q => ∃ p ys, xs = [.ref p] /\ ((SqL X.K H p ys /\ ∀ l, H l = none -> Q (.ref l) (upd H l (.tup ys))) \/ (SqT X.K H p ys /\ Q (.ref p) H))) := by
 intro pins s σ H xs us Q I r h
 obtain ⟨p, ys, rfl, h⟩ := h
 obtain ⟨u, rfl, rx⟩ := ZdJ r
 cases rx
 rcases h with ⟨hq, q⟩ | ⟨hq, q⟩
 . obtain ⟨its, r', pl, hz⟩ := I.list hq
   have hlen := r'.length
   refine call_tuple_list pl.isList (fun h' kp => ?_) (by simp only [List.size_toArray] <;> omega)
   have I1 : Inv X pins σ H { s with heap := h' } := I.kept (t' := s.toks) kp
   have I2 : Inv X pins σ (upd H h'.objs.size (.tup ys)) { s with heap := h'.push { cls := .type "tuple", data := .seq its.toArray } } :=
    I1.laid (t' := s.toks) (fun b o e => Heap.get?_push_of_some _ e) (Nat.le_refl _) (show Z5 X.prog X.w _ _ _ (.tup ys) from ⟨hz, its, r', IsTup.new _ _⟩)
   exact ⟨.ref h'.objs.size, _, I2, rfl, q _ (I1.hok.fresh (Nat.le_refl _))⟩
 . obtain ⟨its, r', pl, hz⟩ := I.tuple hq
   exact call_tuple_same pl ⟨.ref p, H, I, rfl, q⟩
def tyV (K : Fg) (T : String) (x : V) (H : Hp) : Prop := match x with
 | .str _ => T = "str"
 | .int _ => T = "int"
 | .ref p => (T = "list" /\ ∃ xs, SqL K H p xs) \/ (T = "tuple" /\ ∃ o, K.lookup p = some o /\ o.cls = .type "tuple" /\ o.dict = none) \/
  (T = "dict" /\ ((∃ kvs, H p = some (.dK kvs)) \/ ∃ kvs, H p = some (.dT kvs))) \/ (T = "set" /\ ∃ S n, H p = some (.set S n))
 | _ => False
theorem Znp {pins : Pn} {σ : St} {H : Hp} {s : Shared} {T : String} {x : V} {v : Value} (I : Inv X pins σ H s) (r : RelV x v) (ty : tyV X.K T x H) :
 s.TypeIs v T /\ ∀ a, v = .ref a -> ∃ ob, s.heap.get? a = some ob /\ ob.dict = none := by
 cases x with
 | str z =>
  obtain ⟨t, rfl⟩ := r
  cases (show T = "str" from ty)
  exact ⟨typeIs_str s z t, fun _ e => nomatch e⟩
 | int i =>
  obtain ⟨t, rfl⟩ := r
  cases (show T = "int" from ty)
  exact ⟨typeIs_int s i t, fun _ e => nomatch e⟩
 | ref p =>
  cases r
  rcases ty with ⟨rfl, xs, hq⟩ | ⟨rfl, o, hk, hc, hd⟩ | ⟨rfl, hk⟩ | ⟨rfl, S, n, hk⟩
  . obtain ⟨its, _, pl, _⟩ := I.list hq
    refine ⟨pl.isList.typeIs, fun a e => ?_⟩
    cases e
    obtain ⟨o, n, e, c, hd, _⟩ := pl
    exact ⟨o, e, hd⟩
  . refine ⟨⟨o, I.kIn p o hk, hc⟩, fun a e => ?_⟩
    cases e
    exact ⟨o, I.kIn _ o hk, hd⟩
  . have z : ∃ o, s.heap.get? p = some o /\ o.ExactDict := by
     rcases hk with ⟨kvs, hk⟩ | ⟨kvs, hk⟩
     . obtain ⟨_, _, _, _, o, _, _, e, ex, _⟩ := I.hok p _ hk
       exact ⟨o, e, ex⟩
     . obtain ⟨_, _, _, _, o, _, _, e, ex, _⟩ := I.hok p _ hk
       exact ⟨o, e, ex⟩
    obtain ⟨o, e, ex⟩ := z
    refine ⟨⟨o, e, ex.1⟩, fun a e2 => ?_⟩
    cases e2
    exact ⟨o, e, ex.2.1⟩
  . obtain ⟨o, _, _, _, e, ex, _⟩ := I.hok p _ hk
    refine ⟨⟨o, e, ex.1⟩, fun a e2 => ?_⟩
    cases e2
    exact ⟨o, e, ex.2.1⟩
 | _ => exact False.elim ty
def tBM (K : Fg) (T : String) (r : V -> List V -> Hp -> VK -> Prop) (to : TE) (t : TA) : TE := fun σ H Q => to σ H fun x H1 => tyV K T x H1 /\ t σ H1 fun xs H2 => r x xs H2 Q
variable {o e : Expr} {es : List Expr} {to : TE} {t : TA} {name : Str} {apos cpos : Pos} {T id : String} {r : V -> List V -> Hp -> VK -> Prop}
theorem Zle (pa : PlainAttrs T) (slot : Slot T name id) (hty : typeOf (.builtin id) = pure (.type "method_descriptor")) (hm : MtR X id r) (ho : PE X o to) (ha : PA X (e :: es) t)
 (hbase : attributeBase o name X.env (eval o X.env) = eval o X.env := by rfl)
 (hfew : ((backTo cpos (starEach (e :: es) X.env)).all (fun x => !x.1) && (backToKw cpos (keywordEach [] X.env)).all (fun x => x.1.isSome)
  && decide ((e :: es).length + ([] : List Keyword).length + (if ([] : List Keyword).isEmpty then 0 else 1) < 30)) = true := by rfl)
 (hline : (apos.endLine == cpos.line) = true := by rfl) (hs : SE X e es := by rfl) (hplain : (backTo cpos (starEach es X.env)).any (·.1) = false := by rfl) :
 PE X (.Call (.Attribute o name apos) (e :: es) [] cpos) (tBM X.K T r to t) := by
 intro pins s σ H Q I h
 refine wpAny_Call_method_late hbase hfew hline rfl (thn (ho pins s σ H _ I h) fun v s1 z0 => ?_)
 obtain ⟨x, H1, I1, r1, ty, q1⟩ := z0
 obtain ⟨h1, h2⟩ := Znp I1 r1 ty
 refine ⟨T, id, pa, slot, hty, h1, h2, ?_⟩
 have hA := ha cpos pins s1 σ H1 _ I1 q1
 rw [hs] at hA ⊢
 refine Calls.callWith_builtin (by show (false || (backTo cpos (starEach es X.env)).any (·.1)) = false; rw [hplain] <;> rfl) (Calls.evalArgs_plain ?_)
 exact thn hA fun us s2 ⟨vs, H2, I2, r2, q2⟩ => hm pins s2 σ H2 x vs v us Q I2 r1 r2 q2
end
def MtM (X : Cx) (id : String) (r : V -> List V -> Hp -> VK -> Prop) : Prop :=
 ∀ (pins : Pn) (s : Shared) (σ : St) (H : Hp) (x : V) (xs : List V) (v : Value) (us : List Value) (Q : VK), Inv X pins σ H s -> RelV x v -> Vals xs us -> r x xs H Q ->
  wpAny (model X.prog X.w) X.A (call (.builtin id) (v :: us)) (EP X pins σ Q) X.xe s
theorem Vals.one : ∀ {x : V} {us : List Value}, Vals [x] us -> ∃ u, us = [u] /\ RelV x u
 | _, _, .cons r .nil => ⟨_, rfl, r⟩
theorem Vals.two : ∀ {x y : V} {us : List Value}, Vals [x, y] us -> ∃ u v, us = [u, v] /\ RelV x u /\ RelV y v
 | _, _, _, .cons r (.cons q .nil) => ⟨_, _, rfl, r, q⟩
theorem Vals.reverse {xs : List V} {us : List Value} (h : Vals xs us) : Vals xs.reverse us.reverse := by
 induction h with
 | nil => exact .nil
 | cons r t ih => rw [List.reverse_cons, List.reverse_cons]; exact Vals.append ih (.cons r .nil)
theorem Vals.rep {xs : List V} {us : List Value} (h : Vals xs us) : ∀ k : Nat, Vals (List.replicate k xs).flatten (List.replicate k us).flatten
 | 0 => .nil
 | k + 1 => by
  rw [List.replicate_succ, List.replicate_succ, List.flatten_cons, List.flatten_cons]
  exact Vals.append h (Vals.rep h k)
theorem ZfB (its : List Value) : ∀ (k : Nat) (acc : List Value),
 List.foldl (fun x1 x2 => x1 ++ x2) acc.toArray (List.replicate k its.toArray) = (acc ++ (List.replicate k its).flatten).toArray
 | 0, acc => by simp
 | k + 1, acc => by
  have e : acc.toArray ++ its.toArray = (acc ++ its).toArray := by simp
  have e2 : (acc ++ its) ++ (List.replicate k its).flatten = acc ++ (List.replicate (k + 1) its).flatten := by
   rw [List.replicate_succ, List.flatten_cons, List.append_assoc]
  rw [<- e2, <- ZfB its k (acc ++ its), <- e, List.replicate_succ, List.foldl_cons]
section
variable {X : Cx} {pins : Pn} {σ : St} {H : Hp} {s : Shared} {l b : Addr} {xs ys zs : List V}
theorem Inv.lset {its its' : List Value} {n : Nat} {f : Array Value -> Array Value} {t' : Nat} (I : Inv X pins σ H s) (hH : H l = some (.lst xs))
 (e : s.heap.get? l = some { cls := .type "list", data := .seq its.toArray n }) (hf : f its.toArray = its'.toArray) (hv : Vals ys its') (hz : ys.length <= sizeLine) :
 Inv X pins σ (upd H l (.lst ys)) { s with heap := s.heap.update l (Obj.mapSeq f), toks := t' } := by
 have q := PySem.IsL.update e f
 rw [hf] at q
 refine I.write (x := l) (e := l) (by rw [hH]; exact trivial) (.inl rfl) (fun b' u hb hu => (Heap.get?_update_other s.heap (Obj.mapSeq f) (Ne.symm hb)).trans hu) ⟨_, q⟩ ?_
 exact ⟨hz, its', _, hv, q⟩
theorem Inv.lnew {its : List Value} {t' : Nat} (I : Inv X pins σ H s) (hv : Vals ys its) (hz : ys.length <= sizeLine) :
 Inv X pins σ (upd H s.heap.objs.size (.lst ys)) { s with heap := s.heap.push { cls := .type "list", data := .seq its.toArray }, toks := t' } :=
 I.laid (fun _ _ q => Heap.get?_push_of_some _ q) (Nat.le_refl _) ⟨hz, its, 0, hv, Heap.get?_push_size _ rfl⟩
theorem Inv.fresh (I : Inv X pins σ H s) : H s.heap.objs.size = none := I.hok.fresh (Nat.le_refl _)
theorem Inv.lstM (I : Inv X pins σ H s) (hH : H l = some (.lst xs)) : xs.length <= sizeLine /\ ∃ (its : List Value) (n : Nat), Vals xs its /\ xs.length = its.length /\ s.heap.get? l = some { cls := .type "list", data := .seq its.toArray n } := by
 obtain ⟨z, its, n, r, e⟩ := I.hok l _ hH
 exact ⟨z, its, n, r, r.length, e⟩
theorem Zg2 {n : Nat} (h : n <= sizeLine) : Builtin.List.listTooLong n = false := by
 unfold Builtin.List.listTooLong
 exact decide_eq_false (by omega)
end
section
variable {X : Cx}
def Zl4 : V -> List V -> Hp -> VK -> Prop := fun x vs H Q => ∃ l xs y, x = .ref l /\ vs = [y] /\ H l = some (.lst xs) /\ xs.length < sizeLine /\ Q .non (upd H l (.lst (xs ++ [y])))
theorem ZfC : MtM X "list.append" Zl4 := by
 intro pins s σ H x vs v us Q I rx rv h
 obtain ⟨l, xs, y, rfl, rfl, hH, hz, q⟩ := h
 cases rx
 obtain ⟨u, rfl, ru⟩ := rv.one
 obtain ⟨z, its, n, r, hl, e⟩ := I.lstM hH
 refine call_meets F.slot_list_append ⟨_, e, rfl⟩ F.entry_list_append (F.args_list_append_2 _ _) (PySem.list_append l its.toArray n u (by rw [List.size_toArray]; omega)) ⟨e, ?_⟩
 refine ⟨.non, _, I.lset (its' := its ++ [u]) hH e (by simp) (r.append (.cons ru .nil)) ?_, rfl, q⟩
 rw [List.length_append, List.length_singleton]
 omega
def Zl5 : V -> List V -> Hp -> VK -> Prop := fun x vs H Q => ∃ l b xs zs, x = .ref l /\ vs = [.ref b] /\ H l = some (.lst xs) /\ H b = some (.lst zs) /\ xs.length + zs.length <= sizeLine /\ Q .non (upd H l (.lst (xs ++ zs)))
theorem ZiQ : MtM X "list.extend" Zl5 := by
 intro pins s σ H x vs v us Q I rx rv h
 obtain ⟨l, b, xs, zs, rfl, rfl, hH, hB, hz, q⟩ := h
 cases rx
 obtain ⟨u, rfl, ru⟩ := rv.one
 cases ru
 obtain ⟨z, its, n, r, hl, e⟩ := I.lstM hH
 obtain ⟨z2, its2, n2, r2, hl2, e2⟩ := I.lstM hB
 have hsz : its.toArray.size + its2.toArray.size <= sizeLine := by rw [List.size_toArray, List.size_toArray]; omega
 have hlong : ¬ (!its.toArray.isEmpty && Builtin.List.listTooLong (its.toArray.size + its2.toArray.size)) = true := by
  rw [Zg2 hsz, Bool.and_false]
  exact Bool.false_ne_true
 refine call_meets F.slot_list_extend ⟨_, e, rfl⟩ F.entry_list_extend (F.args_list_extend_2 _ _)
  (AutoSeq1.list_extend_list_list_0 l its.toArray n b its2.toArray n2 hlong (by rw [List.size_toArray]; omega) (by omega)) ⟨e, e2, ?_⟩
 refine ⟨.non, _, I.lset (its' := its ++ its2) hH e (by simp) (r.append r2) ?_, rfl, q⟩
 rw [List.length_append]
 omega
def rCat : R2 := fun x y H Q => ∃ l b xs zs, x = .ref l /\ y = .ref b /\ H l = some (.lst xs) /\ H b = some (.lst zs) /\ xs.length + zs.length <= sizeLine /\ ∀ p, H p = none -> Q (.ref p) (upd H p (.lst (xs ++ zs)))
theorem Znq : OpR X (binaryOp .Add) rCat := by
 intro pins s σ H x y v u Q I rx ry h
 obtain ⟨l, b, xs, zs, rfl, rfl, hH, hB, hz, q⟩ := h
 cases rx
 cases ry
 obtain ⟨z, its, n, r, hl, e⟩ := I.lstM hH
 obtain ⟨z2, its2, n2, r2, hl2, e2⟩ := I.lstM hB
 refine PySem.P.add_list e e2 ?_ (by rw [List.size_toArray, List.size_toArray]; omega)
 have ea : its.toArray ++ its2.toArray = (its ++ its2).toArray := by simp
 rw [ea]
 exact ⟨.ref _, _, I.lnew (t' := s.toks) (r.append r2) (by rw [List.length_append]; omega), rfl, q _ I.fresh⟩
def rRep : R2 := fun x y H Q => ∃ l k xs, x = .ref l /\ y = .int k /\ H l = some (.lst xs) /\ -(2 ^ 63) <= k /\ k < 2 ^ 63 /\ xs.length * k.toNat <= sizeLine /\
 ∀ p, H p = none -> Q (.ref p) (upd H p (.lst (List.replicate k.toNat xs).flatten))
theorem Zl6 {α : Type} (xs : List α) (k : Nat) : (List.replicate k xs).flatten.length = k * xs.length := by
 induction k with
 | zero => simp
 | succ k ih => rw [List.replicate_succ, List.flatten_cons, List.length_append, ih, Nat.succ_mul, Nat.add_comm]
theorem Znr : OpR X (binaryOp .Mult) rRep := by
 intro pins s σ H x y v u Q I rx ry h
 obtain ⟨l, k, xs, rfl, rfl, hH, h1, h2, hz, q⟩ := h
 cases rx
 obtain ⟨t, rfl⟩ := ry
 obtain ⟨z, its, n, r, hl, e⟩ := I.lstM hH
 have hlen : its.toArray.size * k.toNat <= sizeLine := by rw [List.size_toArray, <- hl]; exact hz
 have hcap : ¬ its.toArray.size * k.toNat > (2 ^ 63 - 1) / 8 := by
  have : (sizeLine : Nat) <= (2 ^ 63 - 1) / 8 := by decide
  omega
 have hfit : ¬ (!Builtin.List.listFitsIndex k) = true := by
  rw [fitsIndex_both h1 h2]
  exact Bool.false_ne_true
 have hlong : ¬ Builtin.List.listTooLong (its.toArray.size * k.toNat) = true := by
  rw [Zg2 hlen]
  exact Bool.false_ne_true
 have hnew : List.foldl (fun x1 x2 => x1 ++ x2) #[] (List.replicate (if its.toArray.isEmpty = true then 0 else k.toNat) its.toArray) = (List.replicate k.toNat its).flatten.toArray := by
  have f0 : ∀ m : Nat, List.foldl (fun x1 x2 => x1 ++ x2) #[] (List.replicate m its.toArray) = (List.replicate m its).flatten.toArray := fun m => by
   have := ZfB its m []
   rw [List.nil_append] at this
   exact this
  rw [f0]
  cases its with
  | nil => simp
  | cons a r' => rw [if_neg (by simp)]
 refine wpAny_binaryOp_repeat_ref (T := "list") (U := "int") (by decide) ⟨_, e, rfl⟩ (fun s' => typeIs_int s' k t) noFill_list_mul F.fills_int_mul F.slot_int_rmul repeat_list F.slot_int_index.lookup
  (call_meets F.slot_int_rmul (typeIs_int s k t) F.entry_int_rmul (F.args_int_rmul_2 _ _) (int___rmul___int_list k t l its.toArray n)
   ⟨e, rfl, ⟨_, e, rfl⟩, call_meets F.slot_list_mul ⟨_, e, rfl⟩ F.entry_list_mul (F.args_list_mul_2 _ _) (AutoListH.list___mul___list_int_3 l its.toArray n k t hfit hcap hlong) ⟨e, ?_⟩⟩)
 rw [hnew]
 exact ⟨.ref _, _, I.lnew (t' := s.toks) (r.rep k.toNat) (by rw [Zl6, Nat.mul_comm]; exact hz), rfl, q _ I.fresh⟩
end
section
variable {κ : Type} [DecidableEq κ]
noncomputable def valV (kvs : List (κ × V)) (k : κ) : Option V := (kvs.find? fun kv => decide (kv.1 = k)).map (·.2)
noncomputable def putK (kvs : List (κ × V)) (k : κ) (v : V) : List (κ × V) :=
 if (kvs.any fun kv => decide (kv.1 = k)) = true then kvs.map (fun kv => if kv.1 = k then (kv.1, v) else kv) else kvs ++ [(k, v)]
theorem Zg3 {k : κ} : valV ([] : List (κ × V)) k = none := rfl
theorem ZcL {p : κ × V} {r : List (κ × V)} {k : κ} (e : p.1 = k) : valV (p :: r) k = some p.2 := by simp [valV, List.find?_cons, e]
theorem ZcM {p : κ × V} {r : List (κ × V)} {k : κ} (e : ¬ p.1 = k) : valV (p :: r) k = valV r k := by simp [valV, List.find?_cons, e]
theorem Zg4 (k : κ) : ∀ kvs : List (κ × V), (kvs.any fun kv => decide (kv.1 = k)) = (valV kvs k).isSome
 | [] => rfl
 | p :: r => by
  rw [List.any_cons]
  by_cases e : p.1 = k
  . simp only [ZcL e, decide_eq_true e, Bool.true_or, Option.isSome_some]
  . rw [ZcM e, decide_eq_false e, Bool.false_or]; exact Zg4 k r
theorem Zel (kvs : List (κ × V)) (k : κ) (v : V) : (putK kvs k v).length <= kvs.length + 1 := by
 unfold putK
 split
 . rw [List.length_map]; omega
 . rw [List.length_append, List.length_cons, List.length_nil]; omega
theorem RelO.isSome_eq {o : Option V} {u : Option Value} (r : RelO o u) : o.isSome = u.isSome := by
 cases o with
 | none => cases u with
  | none => rfl
  | some _ => exact (show False from r).elim
 | some _ => cases u with
  | none => exact (show False from r).elim
  | some _ => rfl
theorem RelO.getD {o : Option V} {u : Option Value} {d : V} {d' : Value} (r : RelO o u) (rd : RelV d d') : RelV (o.getD d) (u.getD d') := by
 cases o with
 | none => cases u with
  | none => exact rd
  | some _ => exact (show False from r).elim
 | some _ => cases u with
  | none => exact (show False from r).elim
  | some _ => exact r
theorem KV.val {kvs : List (κ × V)} {vs : List (κ × Value)} (r : KV kvs vs) (k : κ) : RelO (valV kvs k) (valueAt vs k) := by
 unfold KV at r
 induction r with
 | nil => exact True.intro
 | @cons p q ps qs h t ih =>
  obtain ⟨h1, h2⟩ := h
  by_cases e : p.1 = k
  . have e' : q.1 = k := h1.symm.trans e
    have b : valueAt (q :: qs) k = some q.2 := by simp [valueAt, List.find?_cons, e']
    rw [ZcL e, b]; exact h2
  . have e' : ¬ q.1 = k := fun z => e (h1.trans z)
    have b : valueAt (q :: qs) k = valueAt qs k := by simp [valueAt, List.find?_cons, e']
    rw [ZcM e, b]; exact ih
theorem KV.any {kvs : List (κ × V)} {vs : List (κ × Value)} (r : KV kvs vs) (k : κ) : (kvs.any fun kv => decide (kv.1 = k)) = vs.any fun kv => decide (kv.1 = k) := by
 unfold KV at r
 induction r with
 | nil => rfl
 | cons h t ih => rw [List.any_cons, List.any_cons, ih, h.1]
theorem KV.repl {kvs : List (κ × V)} {vs : List (κ × Value)} (r : KV kvs vs) (k : κ) {y : V} {u : Value} (ry : RelV y u) :
 KV (kvs.map fun kv => if kv.1 = k then (kv.1, y) else kv) (vs.map fun kv => if kv.1 = k then (kv.1, u) else kv) := by
 unfold KV at r ⊢
 induction r with
 | nil => exact .nil
 | @cons p q ps qs h t ih =>
  rw [List.map_cons, List.map_cons]
  refine .cons ?_ ih
  obtain ⟨h1, h2⟩ := h
  by_cases e : p.1 = k
  . rw [if_pos e, if_pos (h1.symm.trans e)]; exact ⟨h1, ry⟩
  . rw [if_neg e, if_neg (fun z => e (h1.trans z))]; exact ⟨h1, h2⟩
theorem KV.put {kvs : List (κ × V)} {vs : List (κ × Value)} (r : KV kvs vs) (k : κ) {y : V} {u : Value} (ry : RelV y u) : KV (putK kvs k y) (stored vs k u) := by
 unfold putK stored
 rw [r.any k]
 by_cases e : (vs.any fun kv => decide (kv.1 = k)) = true
 . rw [if_pos e, if_pos e]; exact r.repl k ry
 . rw [if_neg e, if_neg e]; exact Paired.snoc r ⟨rfl, ry⟩
theorem KV.length {kvs : List (κ × V)} {vs : List (κ × Value)} (r : KV kvs vs) : kvs.length = vs.length := Paired.length r
end
theorem Zie {P : Program} {w : World} {k : Key} {u : Value} (r : RelV (kV k) u) : (ZM P w).is k u = true := by
 cases k with
 | inl i => obtain ⟨t, e⟩ := (show ∃ t, u = Value.int i t from r); subst e; exact Zhg P w i t
 | inr x => obtain ⟨t, e⟩ := (show ∃ t, u = Value.str x t from r); subst e; exact Zhh P w x t
theorem ZfD {P : Program} {w : World} : ∀ {ks : List Key} {us : List Value}, Vals (ks.map kV) us -> ItemsAre (ZM P w) ks us
 | [], _, r => by rw [List.map_nil] at r; cases r; exact .nil
 | k :: ks, _, r => by
  rw [List.map_cons] at r
  cases r with
  | cons h t => exact .cons (Zie h) (ZfD t)
abbrev KT (H : Hp) : List (List Key × V) -> List (List Key × Addr × Value) -> Prop := Paired fun p q => p.1 = q.1 /\ H q.2.1 = some (.tup (p.1.map kV)) /\ RelV p.2 q.2.2
theorem KT.val {H : Hp} {kvs : List (List Key × V)} {xs : List (List Key × Addr × Value)} (r : KT H kvs xs) (k : List Key) : RelO (valV kvs k) ((atKey xs k).map (·.2)) := by
 induction r with
 | nil => exact True.intro
 | @cons p q ps qs h t ih =>
  obtain ⟨h1, _, h2⟩ := h
  by_cases e : p.1 = k
  . have e' : q.1 = k := h1.symm.trans e
    have b : atKey (q :: qs) k = some q.2 := by simp [atKey, List.find?_cons, e']
    rw [ZcL e, b]; exact h2
  . have e' : ¬ q.1 = k := fun z => e (h1.trans z)
    have b : atKey (q :: qs) k = atKey qs k := by simp [atKey, List.find?_cons, e']
    rw [ZcM e, b]; exact ih
theorem KT.repl {H : Hp} {kvs : List (List Key × V)} {xs : List (List Key × Addr × Value)} (r : KT H kvs xs) (k : List Key) {y : V} {u : Value} (ry : RelV y u) :
 KT H (kvs.map fun kv => if kv.1 = k then (kv.1, y) else kv) (xs.map (putAt k u)) := by
 induction r with
 | nil => exact .nil
 | @cons p q ps qs h t ih =>
  rw [List.map_cons, List.map_cons]
  refine .cons ?_ ih
  obtain ⟨h1, h2, h3⟩ := h
  unfold putAt
  by_cases e : p.1 = k
  . rw [if_pos e, if_pos (h1.symm.trans e)]; exact ⟨h1, h2, ry⟩
  . rw [if_neg e, if_neg (fun z => e (h1.trans z))]; exact ⟨h1, h2, h3⟩
theorem KT.put {H : Hp} {kvs : List (List Key × V)} {xs : List (List Key × Addr × Value)} (r : KT H kvs xs) (k : List Key) {b : Addr} {y : V} {u : Value} (hb : H b = some (.tup (k.map kV))) (ry : RelV y u) :
 KT H (putK kvs k y) (storedH xs k b u) := by
 have e : (kvs.any fun kv => decide (kv.1 = k)) = (atKey xs k).isSome := by
  rw [Zg4, (r.val k).isSome_eq, Option.isSome_map]
 unfold putK storedH
 rw [e]
 by_cases q : (atKey xs k).isSome = true
 . rw [if_pos q, if_pos q]; exact r.repl k ry
 . rw [if_neg q, if_neg q]; exact Paired.snoc r ⟨rfl, hb, ry⟩
theorem KT.keeps {H H' : Hp} {kvs : List (List Key × V)} {xs : List (List Key × Addr × Value)} (r : KT H kvs xs) (ht : ∀ b ys, H b = some (.tup ys) -> H' b = some (.tup ys)) : KT H' kvs xs :=
 Paired.mapP r fun _ _ z => ⟨z.1, ht _ _ z.2.1, z.2.2⟩
section
variable {P : Program} {w : World} {H : Hp} {h : Heap} {a : Addr}
theorem Zlf {u : HO} (ok : HOk P w H h) (e : Rd H a u) : Z5 P w H h a u := e.ok ok
theorem Zgj {kvs : List (Key × V)} (ok : HOk P w H h) (e : Rd H a (.dK kvs)) : kvs.length <= sizeLine /\ (a == sysModules) = false /\ ∃ vs, KV kvs vs /\ h.DictOf (ZM P w) a vs :=
 show Z5 P w H h a (.dK kvs) from Zlf ok e
theorem Zpr {kvs : List (Key × V)} (ok : HOk P w H h) (e : H a = some (.dK kvs)) : kvs.length <= sizeLine /\ (a == sysModules) = false /\ ∃ vs, KV kvs vs /\ h.DictOf (ZM P w) a vs := Zgj ok (.inl e)
theorem Zg5 {ks : List Key} (ok : HOk P w H h) (e : H a = some (.tup (ks.map kV))) : (tupleKind (ZM P w)).is h ks a := by
 obtain ⟨_, its, r, o, h1, h2, n, h3⟩ := (show Z5 P w H h a (.tup (ks.map kV)) from ok a _ e)
 exact ⟨o, its.toArray, n, h1, h2, h3, by simpa using ZfD r⟩
theorem Zif {kvs : List (List Key × V)} (ok : HOk P w H h) (e : Rd H a (.dT kvs)) : kvs.length <= sizeLine /\ (a == sysModules) = false /\
 ∃ xs, KT H kvs xs /\ h.DictOfH (tupleKind (ZM P w)) a xs := by
 obtain ⟨z, y, xs, r, o, es, ep, h1, h2, h3, h4, h5⟩ := (show Z5 P w H h a (.dT kvs) from Zlf ok e)
 refine ⟨z, y, xs, r, o, es, ep, h1, h2, h3, h4, fun x hx => ?_, h5⟩
 have all : ∀ {l : List (List Key × V)} {m : List (List Key × Addr × Value)}, KT H l m -> ∀ x ∈ m, (tupleKind (ZM P w)).is h x.1 x.2.1 := by
  intro l m q
  induction q with
  | nil => intro x hx; exact nomatch hx
  | @cons p q ps qs hq t ih =>
   intro x hx
   rcases List.mem_cons.mp hx with e | hx
   . subst e
     exact Zg5 ok (by rw [<- hq.1]; exact hq.2.1)
   . exact ih x hx
 exact all r x hx
theorem Zps {kvs : List (List Key × V)} (ok : HOk P w H h) (e : H a = some (.dT kvs)) : kvs.length <= sizeLine /\ (a == sysModules) = false /\
 ∃ xs, KT H kvs xs /\ h.DictOfH (tupleKind (ZM P w)) a xs := Zif ok (.inl e)
end
def DGet (H : Hp) (a : Addr) (y : V) (r : Option V) : Prop :=
 (∃ kvs k, Rd H a (.dK kvs) /\ y = kV k /\ r = valV kvs k) \/ ∃ kvs k b, Rd H a (.dT kvs) /\ y = .ref b /\ H b = some (.tup (k.map kV)) /\ r = valV kvs k
def DPut (H : Hp) (a : Addr) (y v : V) (H' : Hp) : Prop :=
 (∃ kvs k, H a = some (.dK kvs) /\ y = kV k /\ kvs.length < sizeLine /\ H' = upd H a (.dK (putK kvs k v))) \/
 ∃ kvs k b, H a = some (.dT kvs) /\ y = .ref b /\ H b = some (.tup (k.map kV)) /\ kvs.length < sizeLine /\ H' = upd H a (.dT (putK kvs k v))
theorem DGet.t {H : Hp} {a b : Addr} {kvs : List (List Key × V)} {k : List Key} (e : H a = some (.dT kvs)) (eb : H b = some (.tup (k.map kV))) : DGet H a (.ref b) (valV kvs k) := .inr ⟨kvs, k, b, .inl e, rfl, eb, rfl⟩
theorem DPut.t {H : Hp} {a b : Addr} {kvs : List (List Key × V)} {k : List Key} {v : V} (e : H a = some (.dT kvs)) (eb : H b = some (.tup (k.map kV))) (hl : kvs.length < sizeLine) :
 DPut H a (.ref b) v (upd H a (.dT (putK kvs k v))) := .inr ⟨kvs, k, b, e, rfl, eb, hl, rfl⟩
section
variable {X : Cx} {pins : Pn} {σ : St} {H : Hp} {s : Shared} {a : Addr} {y v : V} {u r : Value} {o : Option V} {A : Around} {E : VS}
theorem Inv.big (I : Inv X pins σ H s) : sysModules < s.heap.objs.size := by
 have h : mainGlobals < s.heap.objs.size := (I.mod.glob.keeps I.bk).lt
 exact Nat.lt_trans (by decide) h
theorem Zh7 {h' : Heap} {t' : Nat} {ob : HO} (I : Inv X pins σ H s) (mu : Mut (H a)) (hs : Heap.SameBut a s.heap h') (he : ∃ q, h'.get? a = some q) (new : Z5 X.prog X.w (upd H a ob) h' a ob) :
 Inv X pins σ (upd H a ob) { s with heap := h', toks := t' } :=
 I.write (x := a) (e := a) mu (.inl rfl) (fun b q hb z => (hs.2 b hb).trans z) he new
theorem Zns {P : Program} {w : World} {H' : Hp} {h' : Heap} {kvs : List (Key × V)} {vs : List (Key × Value)} (z : kvs.length <= sizeLine) (hd : (a == sysModules) = false) (rel : KV kvs vs) (dd : h'.DictOf (ZM P w) a vs) :
 Z5 P w H' h' a (.dK kvs) := ⟨z, hd, vs, rel, dd⟩
theorem ZiR {H' : Hp} {Q : Unit -> Shared -> Prop} (hu : A.units + 1 < cLine) (I : Inv X pins σ H s) (g : DPut H a y v H') (ry : RelV y u) (rv : RelV v r) (h : ∀ s', Inv X pins σ H' s' -> Q () s') :
 wpAny (model X.prog X.w) A (setItem (.ref a) u r) Q E s := by
 rcases g with ⟨kvs, k, e, ey, l, eH⟩ | ⟨kvs, k, b, e, ey, eb, l, eH⟩
 . subst ey eH
   obtain ⟨z, hd, vs, rel, dd⟩ := Zpr I.hok e
   have hz : vs.length <= sizeLine := by rw [<- rel.length]; exact z
   have hl : (putK kvs k v).length <= sizeLine := by have := Zel kvs k v; omega
   refine wpAny_setItem_pairs (hsz := hz) (Zie ry) dd fun h' dd' hs => h _ ?_
   have he : ∃ q, h'.get? a = some q := let ⟨q, _, _, hq, _⟩ := dd'; ⟨q, hq⟩
   exact Zh7 I (by rw [e]; exact True.intro) hs he (Zns hl hd (rel.put k rv) dd')
 . subst ey eH
   cases (show u = Value.ref b from ry)
   obtain ⟨z, hd, xs, rel, dd⟩ := Zps I.hok e
   have hz : xs.length <= sizeLine := by rw [<- Paired.length rel]; exact z
   have hl : (putK kvs k v).length <= sizeLine := by have := Zel kvs k v; omega
   refine wpAny_setItem_heap (hsz := hz) (tupleKind_room_in1 hu) (Zg5 I.hok eb) dd fun h' dd' hs => h _ ?_
   obtain ⟨q, es, ep, hq, h2, h3, h4, _, h5⟩ := dd'
   refine Zh7 I (by rw [e]; exact True.intro) hs ⟨q, hq⟩ ⟨hl, hd, _, (rel.put k eb rv).keeps fun c ys ec => ?_, q, es, ep, hq, h2, h3, h4, h5⟩
   rw [Zq (Zpc ec e (fun z => nomatch z))]
   exact ec
end
section
variable {X : Cx} {pins : Pn} {σ : St} {H : Hp} {s : Shared} {a : Addr} {kvs : List (Key × V)} {k : Key} {u : Value} {A : Around} {E : VS}
theorem Zpt {Q : VS} (I : Inv X pins σ H s) (e : Rd H a (.dK kvs)) (h : ∀ t s', Inv X pins σ H s' -> Q (.int kvs.length t) s') : wpAny (model X.prog X.w) A (call (.builtin "len") [.ref a]) Q E s := by
 obtain ⟨z, hd, vs, rel, dd⟩ := Zgj I.hok e
 refine call_len_dict hd dd (by rw [<- rel.length]; rw [sizeLine_eq] at z; omega) ?_
 rw [<- rel.length]
 exact h _ _ (I.tok _)
end
def Zpu (td ty tv : TE) : TS := fun D σ H => tv σ H fun v H1 => td σ H1 fun x H2 => ty σ H2 fun y H3 => ∃ a H4, x = .ref a /\ DPut H3 a y v H4 /\ D.nx σ H4
section
variable {X : Cx} {o i e value : Expr} {pos pos' tpos : Pos} {td ty tv : TE}
theorem Zl7 (hu : X.A.units + 1 < cLine) (ho : PE X o td) (hi : PE X i ty) (hv : PE X value tv) (hs : swapsWith value (some (.Subscript o i pos')) pos.line X.env = pure false) :
 PS X (.Assign [.Subscript o i pos'] value pos) (Zpu td ty tv) := by
 intro pins s σ H D I h
 refine wpAny_Assign_Subscript (thn (hv pins s σ H _ I h) fun r s1 ⟨v, H1, I1, rv, q1⟩ => thn (ho pins s1 σ H1 _ I1 q1) fun u s2 ⟨x, H2, I2, rx, q2⟩ => thn (hi pins s2 σ H2 _ I2 q2) fun iv s3 ⟨y, H3, I3, ry, a, H4, ex, g, q3⟩ => ?_) hs
 subst ex
 obtain rfl : u = Value.ref a := rx
 exact ZiR hu I3 g ry rv fun s4 I4 => ⟨σ, H4, I4, q3⟩
end
theorem Zkb {P : Program} {w : World} {H : Hp} (h : Heap) (hb : sysModules < h.objs.size) : Z5 P w H (h.push { cls := .type "dict", data := .dict #[] }) h.objs.size (.dT []) :=
 ⟨Nat.zero_le _, beq_eq_false_iff_ne.mpr (Ne.symm (Nat.ne_of_lt hb)), [], .nil, _, #[], 0, Heap.get?_push_size _ rfl, ⟨rfl, rfl, rfl⟩, rfl, rfl, List.nodup_nil⟩
def Znt : TE := fun _ H Q => ∀ p, H p = none -> Q (.ref p) (upd H p (.dT []))
section
variable {X : Cx} {pos : Pos}
theorem Zkc : PE X (.Dict [] [] pos) Znt := fun pins s σ H Q I h =>
 wpAny_Dict_empty ⟨.ref s.heap.objs.size, _, I.laid (a := s.heap.objs.size) (o := .dT []) (t' := s.toks) (fun _ _ q => Heap.get?_push_of_some _ q) (Nat.le_refl _) (Zkb s.heap I.big), rfl, h _ (I.hok.fresh (Nat.le_refl _))⟩
end
structure M1 (X : Cx) (o : Expr) (m : Str) (apos : Pos) (e : Expr) (cpos : Pos) : Prop where
 base : attributeBase o m X.env (eval o X.env) = eval o X.env
 few : ((backTo cpos (starEach [e] X.env)).all (fun x => !x.1) && (backToKw cpos (keywordEach [] X.env)).all (fun x => x.1.isSome)
  && decide (([e] : List Expr).length + ([] : List Keyword).length + (if ([] : List Keyword).isEmpty then 0 else 1) < 30)) = true
 line : (apos.endLine == cpos.line) = true
 trees : backTo cpos (starEach [e] X.env) = [(false, eval e X.env)]
structure M2 (X : Cx) (o : Expr) (m : Str) (apos : Pos) (e f : Expr) (cpos : Pos) : Prop where
 base : attributeBase o m X.env (eval o X.env) = eval o X.env
 few : ((backTo cpos (starEach [e, f] X.env)).all (fun x => !x.1) && (backToKw cpos (keywordEach [] X.env)).all (fun x => x.1.isSome)
  && decide (([e, f] : List Expr).length + ([] : List Keyword).length + (if ([] : List Keyword).isEmpty then 0 else 1) < 30)) = true
 line : (apos.endLine == cpos.line) = true
 trees : backTo cpos (starEach [e, f] X.env) = [(false, eval e X.env), (false, eval f X.env)]
def IsD (H : Hp) (a : Addr) : Prop := (∃ kvs, Rd H a (.dK kvs)) \/ ∃ kvs, Rd H a (.dT kvs)
theorem Znu {X : Cx} {pins : Pn} {σ : St} {H : Hp} {s : Shared} {a : Addr} (I : Inv X pins σ H s) (d : IsD H a) :
 s.TypeIs (.ref a) "dict" /\ (∀ b, Value.ref a = .ref b -> ∃ ob, s.heap.get? b = some ob /\ ob.dict = none) /\ (a == sysModules) = false := by
 rcases d with ⟨kvs, e⟩ | ⟨kvs, e⟩
 . obtain ⟨_, hd, vs, _, dd⟩ := Zgj I.hok e
   refine ⟨dd.typeIs, fun b q => ?_, hd⟩
   cases q
   obtain ⟨ob, _, _, h1, h2, _⟩ := dd
   exact ⟨ob, h1, h2.2.1⟩
 . obtain ⟨_, hd, xs, _, dd⟩ := Zif I.hok e
   refine ⟨dd.typeIs, fun b q => ?_, hd⟩
   cases q
   obtain ⟨ob, _, _, h1, h2, _⟩ := dd
   exact ⟨ob, h1, h2.2.1⟩
section
variable {X : Cx} {pins : Pn} {σ : St} {H : Hp} {s : Shared} {a : Addr} {y d : V} {u r : Value} {o : Option V} {A : Around} {E : VS}
theorem Znv {Q : VS} (hu : A.units + 1 < cLine) (I : Inv X pins σ H s) (g : DGet H a y o) (ry : RelV y u) (h : ∀ w' s', Inv X pins σ H s' -> RelV (o.getD .non) w' -> Q w' s') :
 wpAny (model X.prog X.w) A (call (.builtin "dict.get") [.ref a, u]) Q E s := by
 rcases g with ⟨kvs, k, e, ey, l⟩ | ⟨kvs, k, b, e, ey, eb, l⟩
 . subst ey
   obtain ⟨z, hd, vs, rel, dd⟩ := Zgj I.hok e
   refine call_meetsIn PySem.F.slot_dict_get dd.typeIs PySem.F.entry_dict_get (PySem.F.args_dict_get_2 _ _) (meets_dict_get (ZM X.prog X.w) a (Zie ry) hd) ⟨_, dd.mapOf, h _ _ (I.tok _) ?_⟩
   rw [l]
   exact (rel.val k).getD rfl
 . subst ey
   cases (show u = Value.ref b from ry)
   obtain ⟨z, hd, xs, rel, dd⟩ := Zif I.hok e
   refine call_meetsIn PySem.F.slot_dict_get dd.typeIs PySem.F.entry_dict_get (PySem.F.args_dict_get_2 _ _) (meetsH_dict_get (tupleKind (ZM X.prog X.w)) a b hd) ⟨tupleKind_room_in1 hu, k, xs, Zg5 I.hok eb, dd, h _ _ (I.tok _) ?_⟩
   rw [l]
   exact (rel.val k).getD rfl
end
def Znw (td ty : TE) : TE := fun σ H Q => td σ H fun x H1 => ∃ a, x = .ref a /\ IsD H1 a /\ ty σ H1 fun y H2 => ∃ o, DGet H2 a y o /\ Q (o.getD .non) H2
section
variable {X : Cx} {o e f : Expr} {apos cpos : Pos} {td ty tx : TE}
theorem Zkd (hu : X.A.units + 1 < cLine) (ho : PE X o td) (he : PE X e ty) (m : M1 X o "get" apos e cpos) : PE X (.Call (.Attribute o "get" apos) [e] [] cpos) (Znw td ty) := by
 intro pins s σ H Q I h
 refine wpAny_Call_method m.base m.few m.line PySem.F.plainAttrs_dict PySem.F.slot_dict_get PySem.F.type_dict_get (thn (ho pins s σ H _ I h) fun u s1 z0 => ?_)
 obtain ⟨x, H1, I1, rx, a, ex, d, q1⟩ := z0
 subst ex
 obtain rfl : u = Value.ref a := rx
 obtain ⟨t1, t2, _⟩ := Znu I1 d
 refine ⟨t1, t2, ?_⟩
 rw [m.trees]
 refine Calls.callWith_builtin rfl (Calls.evalArgs_plain (Calls.spliced_cons (thn (he pins s1 σ H1 _ I1 q1) fun iv s2 ⟨y, H2, I2, ry, ov, g, q2⟩ => Calls.spliced_nil ?_)))
 exact Znv hu I2 g ry fun w' s3 I3 rw' => ⟨_, H2, I3, rw', q2⟩
end
end L2
namespace Att
open PySem PySem.W PySem.Calls PyProof.Rows
theorem ZeI {P : Params} {h : Heap} : ∀ (ns : List Int) (vs : List Value), WellAll P h vs (ns.map WData.int) -> IntsAre vs ns := by
 intro ns
 induction ns with
 | nil =>
  intro vs w
  rw [List.map_nil] at w
  cases w
  exact .nil
 | cons n ns ih =>
  intro vs w
  rw [List.map_cons] at w
  cases w with
  | cons a b =>
   cases a
   exact .cons _ _ (ih _ b)
theorem ZiS {l : OpenLaw} {n : Nat} (hn : l.most = some n) {P : Params} {h : Heap} {args : List WData} {vals : List Value}
 (hpre : l.row.toRowW.claim.pre args = true) (hwl : WellAll P h vals args) :
 ∃ a vs ns, vals = [Value.ref a] /\ args = [WData.list (ns.map WData.int)] /\ h.get? a = some { cls := .type "list", data := .seq vs.toArray } /\ IntsAre vs ns /\ ns.length <= n := by
 have hsh : WShape.hasAll [] args [.list .int] = true := (pre_splitW hpre).1
 have hc : l.pre.holds [] { args := args } = true := (pre_splitW hpre).2
 obtain ⟨d, r, rfl, h1, h2⟩ := hasAllW_cons hsh
 obtain rfl := hasAllW_nil h2
 obtain ⟨xs, rfl, h3⟩ := hasW_list h1
 obtain ⟨ns, rfl⟩ := items_int h3
 have hlen : ns.length <= n := by
  unfold OpenLaw.pre at hc
  have h4 : (WTm.not (.lt (.lit (.int (n : Int))) (.len (.arg 0)))).holds [] { args := [.list (ns.map .int)] } = true := by
   have h4 := (holds_andW hc).1
   rw [hn] at h4
   exact h4
  have h5 := condW_of h4 (w_not (w_lt w_lit (w_len_list (w_arg rfl))))
  rw [List.length_map] at h5
  refine Nat.le_of_not_lt fun q => ?_
  have q' : (n : Int) < ((ns.length : Nat) : Int) := by omega
  first
   | (rw [decide_eq_true q'] at h5; exact absurd h5 (by decide))
   | (simp at h5; omega)
 cases hwl with
 | cons w1 w2 =>
  cases w2
  cases w1 with
  | list ho hall => exact ⟨_, _, ns, rfl, rfl, ho, ZeI ns _ hall, hlen⟩
theorem ZiT (l : OpenLaw) (args : List WData) : l.row.toRowW.claim.post args (.bool true) args = true :=
 postW_of (r := l.row.toRowW) (X := (true == true))
  (show WShape.has [] (.bool true) .bool = true by first | rfl | decide | simp [WShape.has, WShape.arms, WShape.armsAll])
  (show (WTm.eq .res (.lit (.bool true))).value [] { args := args, res := some (.bool true), after := args } = some (.bool (true == true)) from w_eq_bool (w_res rfl) w_lit) rfl
theorem Zhj {l : OpenLaw} {n : Nat} {q : Program} {loose : List Str} {XP : (Str -> Option Value) -> Heap -> Prop} {YP : World -> Heap -> Prop} {d : DefRec}
 (hn : l.most = some n) (hdf : d.params.defaults = [])
 (call : ∀ (w : World) (s₀ s₁ : Shared) (mg mb : SO) (fa : Addr) (o : Obj) (pm cd doc : Value) (a : Addr) (vs : List Value) (ns : List Int),
  Ground q loose [] XP w s₀ mg mb s₁.heap -> YP w s₁.heap ->
  s₁.heap.get? fa = some o -> o.data = .func (docDef d.name d.params d.body d.scope pm cd doc) -> s₁.heap.CodeRec cd d.name -> mg d.name = some (.ref fa) ->
  s₁.heap.get? a = some { cls := .type "list", data := .seq vs.toArray } -> IntsAre vs ns -> ns.length <= n -> s₁.gens = #[] ->
  codeAny (model l.prog w) callerA (.call (.ref fa) ⟨[.ref a], []⟩) (fun r s' => r = .ok (.ret (.bool true)) /\ OldK s₁.heap s'.heap /\ s'.os = s₁.os /\ AllBare s'.gens) s₁) :
 WalkO q loose XP YP l.row.toRowW d [] (fun f vs => PySem.call f vs) := by
 intro w s₀ s₁ mg mb G Y fa o pm cd doc dV kV ho hd hcd hD hmg hg args vals as hpre hlay hrd hwl hlo
 obtain rfl : dV = .none := Dflts.none hD hdf
 obtain rfl : kV = .none := Dflts.noKw hD
 obtain ⟨a, vs, ns, rfl, rfl, hobj, hints, hlen⟩ := ZiS hn hpre hwl
 refine enter_call (codeAny_mono (call w s₀ s₁ mg mb fa o pm cd doc a vs ns G Y ho (fd_plain hd) hcd hmg hobj hints hlen hg) fun r s' hq => ?_)
 obtain ⟨rfl, h2, h3, h4⟩ := hq
 exact ⟨.inl ⟨.bool true, .bool true, [], rfl, fun _ => rfl, .bool true, ZiT l _, fun _ => ⟨List.Pairwise.nil, fun _ hm => (nomatch hm)⟩⟩, h2, h3, h4⟩
end Att
namespace L2
open PySem PySem.Spec PyProof.Rows
theorem ZbC : ∀ {vs : List Value} {ns : List Int}, IntsAre vs ns -> Vals (ns.map V.int) vs
 | _, _, .nil => .nil
 | _, _, .cons n t h => .cons ⟨t, rfl⟩ (ZbC h)
def Only (H : Hp) : Prop := ∀ b, H b = none \/ ∃ o xs, H b = some (.frz o (.lst xs))
theorem Zke {P : Program} {w : World} {K : Fg} {mg mb : SO} {CX : CXT} {k : Nat} {fa a : Addr} {fd : FuncData} {x : Str} {sp : Sp} {s₁ : Shared} {vs : List Value} {ns : List Int}
 (KX : K.In s₁.heap) (hns : s₁.heap.Ns mainGlobals mg) (hb : s₁.heap.Ns builtinsNs mb) (hbb : ∀ x : Str, x ≠ "__name__" -> mb x = bootBuiltins x) (hlim : s₁.heap.NoLimit) (hg : s₁.gens = #[])
 (ha : s₁.heap.get? a = some { cls := .type "list", data := .seq vs.toArray }) (hi : IntsAre vs ns) (hl : ns.length <= sizeLine) (hr : Room k callerA)
 (F : ∀ base : Heap, K.In base -> base.Ns mainGlobals mg -> FnOk P w K mg base CX k fa fd [x] sp) (hbind : ∀ (s : Shared) (u : Value), BindsTo s fd ⟨[u], []⟩ [(x, u)])
 (hsp : ∀ H : Hp, Only H -> SqL K H a (ns.map V.int) -> sp [.ref a] H (fun v _ => v = .bl true) fun _ _ _ => False)
 (hCX : ∀ H e s', CX [] H s₁ (fun _ _ _ => False) e s' -> False) :
 codeAny (model P w) callerA (.call (.ref fa) ⟨[.ref a], []⟩) (fun r s' => r = .ok (.ret (.bool true)) /\ OldK s₁.heap s'.heap /\ s'.os = s₁.os /\ AllBare s'.gens) s₁ := by
 have rv := ZbC hi
 have lenV := hi.length
 have core : ∀ H : Hp, Only H -> SqL K H a (ns.map V.int) -> HOk P w H s₁.heap -> (∀ b, H b ≠ none -> b = a) -> (H a ≠ none -> K.lookup a = none) ->
  codeAny (model P w) callerA (.call (.ref fa) ⟨[.ref a], []⟩) (fun r s' => r = .ok (.ret (.bool true)) /\ OldK s₁.heap s'.heap /\ s'.os = s₁.os /\ AllBare s'.gens) s₁ := by
  intro H hO hS hok hA hK
  have base_of : ∀ {b : Addr} {o : Obj}, s₁.heap.get? b = some o -> H b = none -> (hidT s₁.heap H).get? b = some o := fun e n => ZjM e n
  have noA : ∀ {b : Addr} {o : Obj} {es : Array DictEntry} {ep : Nat}, s₁.heap.get? b = some o -> o.data = .dict es ep -> H b = none := fun {b o es ep} e d => by
   cases q : H b with
   | none => rfl
   | some u =>
    have e' : b = a := hA b (by rw [q]; simp)
    subst e'
    rw [ha] at e; cases e
    have d' : Data.seq vs.toArray _ = Data.dict es ep := d
    cases d'
  have nsK : ∀ {b : Addr} {m : SO}, s₁.heap.Ns b m -> (hidT s₁.heap H).Ns b m := fun {b m} ⟨o, es, ep, e, d, r⟩ => ⟨o, es, ep, base_of e (noA e d), d, r⟩
  have hKb : K.In (hidT s₁.heap H) := fun b o e => base_of (KX b o e) (by
   cases q : H b with
   | none => rfl
   | some u =>
    have e' : b = a := hA b (by rw [q]; simp)
    subst e'
    rw [hK (by rw [q]; simp)] at e; cases e)
  have hM : Mod K mg (hidT s₁.heap H) := ⟨hKb, nsK hns, ⟨mb, nsK hb, hbb⟩, let ⟨mc, h1, h2⟩ := hlim; ⟨mc, nsK h1, h2⟩⟩
  have e0 : Env0 P w K mg (hidT s₁.heap H) callerA [] s₁ H := ⟨rfl, hM, fun b o e => Zln e, Nat.le_of_eq (Zi6 _ _), trivial, fun b hb => absurd (show b ∈ ([] : List Addr) from hb) (by simp), hok, .of_eq hg⟩
  refine codeAny_mono ((F _ hKb (nsK hns)).run callerA [] s₁ H ⟨[.ref a], []⟩ [.ref a] [.ref a] _ _ hr e0 (hbind s₁ (.ref a)) (.cons rfl .nil) (hsp H hO hS)) fun r s' h => ?_
  cases r with
  | error e => exact (hCX H e s' h).elim
  | ok fl =>
   cases fl with
   | next => exact False.elim h
   | brk => exact False.elim h
   | cont => exact False.elim h
   | ret u =>
    obtain ⟨v, H', os, bare, un, hok', r', q⟩ := h
    have q' : v = .bl true := q
    subst q'
    obtain rfl : u = Value.bool true := r'
    refine ⟨rfl, OldK.of_keep fun b o e => ?_, os, bare⟩
    cases q : H b with
    | none => exact un.keep b o e q (by intro z; exact absurd (show b ∈ ([] : List Addr) from z) (by simp)) (by simp)
    | some u =>
     rcases hO b with z | ⟨ob, xs, z⟩
     . rw [q] at z; cases z
     . have z2 := un.frzs b ob _ z
       obtain ⟨e1, _⟩ := hok b _ z
       obtain ⟨e2, _⟩ := hok' b _ z2
       rw [e] at e1; cases e1
       exact e2
 cases hk : K.lookup a with
 | some o =>
  have e := KX a o hk
  rw [ha] at e
  cases e
  refine core (fun _ => none) (fun _ => .inl rfl) (.inr ⟨_, vs.toArray, _, hk, rfl, rfl, rfl, by rw [List.size_toArray, lenV]; exact hl, by simpa using rv⟩) (fun b u z => by have z' : (none : Option HO) = some u := z; cases z') (fun b z => absurd rfl z) fun z => absurd rfl z
 | none =>
  refine core (fun b => if b = a then some (.frz { cls := .type "list", data := .seq vs.toArray } (.lst (ns.map V.int))) else none) (fun b => ?_) (.inl (.inr ⟨{ cls := .type "list", data := .seq vs.toArray }, if_pos rfl⟩)) (fun b u z => ?_) (fun b z => ?_) fun _ => hk
  . by_cases hb : b = a
    . exact .inr ⟨_, _, if_pos hb⟩
    . exact .inl (if_neg hb)
  . by_cases hb : b = a
    . have z' := (if_pos hb).symm.trans z
      cases z'
      subst hb
      exact ⟨ha, by rw [List.length_map]; exact hl, vs, _, rv, ha⟩
    . have z' := (if_neg hb).symm.trans z
      cases z'
  . by_cases hb : b = a
    . exact hb
    . exact absurd (if_neg hb) z
theorem Zl8 {l : PySem.W.OpenLaw} {n k : Nat} {q : Program} {loose : List Str} {XP : (Str -> Option Value) -> Heap -> Prop} {YP : World -> Heap -> Prop} {d : DefRec} {K : Params -> Fg} {CX : World -> CXT} {sp : World -> Sp} {x : Str}
 (hn : l.most = some n) (hn2 : n <= sizeLine) (hdf : d.params.defaults = []) (hr : Room k callerA)
 (hY : ∀ (w : World) (h : Heap), YP w h -> (K w.params).In h)
 (F : ∀ (w : World) (mg : SO) (fa : Addr) (h : Heap), (K w.params).In h -> h.Ns mainGlobals mg -> mg d.name = some (.ref fa) ->
  ∃ fd : FuncData, (∀ (s : Shared) (u : Value), BindsTo s fd ⟨[u], []⟩ [(x, u)]) /\
   ∀ base : Heap, (K w.params).In base -> base.Ns mainGlobals mg -> FnOk l.prog w (K w.params) mg base (CX w) k fa fd [x] (sp w))
 (hsp : ∀ (w : World) (H : Hp) (a : Addr) (ns : List Int), ns.length <= n -> Only H -> SqL (K w.params) H a (ns.map V.int) -> sp w [.ref a] H (fun v _ => v = .bl true) fun _ _ _ => False)
 (hCX : ∀ (w : World) (H : Hp) (s : Shared) (e : Value) (s' : Shared), CX w [] H s (fun _ _ _ => False) e s' -> False) :
 PySem.W.WalkO q loose XP YP l.row.toRowW d [] (fun f vs => PySem.call f vs) := by
 refine Att.Zhj hn hdf fun w s₀ s₁ mg mb fa o pm cd doc a vs ns G Y ho hd hcd hmg hobj hints hlen hg => ?_
 have KX := hY w _ Y
 obtain ⟨fd, hb, hF⟩ := F w mg fa _ KX G.T.g hmg
 exact Zke KX G.T.g G.T.b G.T.builtins G.T.nolimit hg hobj hints (Nat.le_trans hlen hn2) hr hF hb (fun H hO hS => hsp w H a ns hlen hO hS) fun H e s' => hCX w H s₁ e s'
theorem Zkf {l : PySem.W.OpenLaw} {n k : Nat} {q : Program} {loose : List Str} {XP : (Str -> Option Value) -> Heap -> Prop} {YP : World -> Heap -> Prop} {d : DefRec} {K : Params -> Fg} {CX : CXT} {sp : Fg -> Sp} {x : Str}
 (hn : l.most = some n) (hn2 : n <= sizeLine) (hdf : d.params.defaults = []) (hr : Room k callerA)
 (hY : ∀ (w : World) (h : Heap), YP w h -> (K w.params).In h)
 (F : ∀ (w : World) (mg : SO) (fa : Addr) (h : Heap), (K w.params).In h -> h.Ns mainGlobals mg -> mg d.name = some (.ref fa) ->
  ∃ fd : FuncData, (∀ (s : Shared) (u : Value), BindsTo s fd ⟨[u], []⟩ [(x, u)]) /\
   ∀ base : Heap, (K w.params).In base -> base.Ns mainGlobals mg -> FnOk l.prog w (K w.params) mg base CX k fa fd [x] (sp (K w.params)))
 (hsp : ∀ (K : Fg) (H : Hp) (a : Addr) (ns : List Int), ns.length <= n -> Only H -> SqL K H a (ns.map V.int) -> sp K [.ref a] H (fun v _ => v = .bl true) fun _ _ _ => False)
 (hCX : ∀ (H : Hp) (s : Shared) (e : Value) (s' : Shared), CX [] H s (fun _ _ _ => False) e s' -> False) :
 PySem.W.WalkO q loose XP YP l.row.toRowW d [] (fun f vs => PySem.call f vs) :=
 Zl8 (K := K) (CX := fun _ => CX) (sp := fun w => sp (K w.params)) hn hn2 hdf hr hY F (fun w H a ns h1 h2 h3 => hsp (K w.params) H a ns h1 h2 h3) fun _ H s e s' => hCX H s e s'
noncomputable def Z6 (s : Stmt) (j : Nat) : Stmt := match s with
 | .ClassDef _ _ _ body _ _ _ _ _ _ _ => body.getD j (.Pass ⟨0, 0, 0, 0⟩)
 | _ => .Pass ⟨0, 0, 0, 0⟩
noncomputable def Zb2 (s : Stmt) : Arguments := match s with
 | .FunctionDef _ a _ _ _ _ _ _ _ _ => a
 | _ => { posonlyargs := [], args := [], vararg := none, kwonlyargs := [], kw_defaults := [], kwarg := none, defaults := [] }
noncomputable def Zax (s : Stmt) : List Stmt := match s with
 | .FunctionDef _ _ b _ _ _ _ _ _ _ => b
 | _ => []
noncomputable def Zx (s : Stmt) : Scope := match s with
 | .FunctionDef _ _ _ _ _ _ sc _ _ _ => sc
 | _ => { kind := .function, names := [], isGenerator := false, isCoroutine := false }
noncomputable abbrev CX0 : CXT := fun _ _ _ _ _ _ => False
noncomputable abbrev E0 : XK := fun _ _ _ => False
theorem Zgk {X : Cx} : Passes CX0 X E0 := fun _ _ _ _ _ _ _ h => h.elim
structure Fun (K : Fg) (x qual : Str) (st : Stmt) (f : Addr) (fd : FuncData) : Prop where
 ex : ∃ (oc : Value) (od : Option Addr) (kV doc pm : Value) (an : Option Addr) (cdv ct : Value) (osl : Array (Option Value)),
  fd = PySem.W.fnOf x qual (Zb2 st) (Zax st) (Zx st) .none kV doc pm an cdv ct /\ K.lookup f = some ⟨oc, od, .func fd, osl⟩ /\ PySem.W.codeIn K cdv qual = true
 kp : PySem.W.keepIn K (.ref f) = true
section
variable {P : Program} {w : World} {K : Fg} {mg : SO} {base : Heap}
theorem Fun.ok {x qual : Str} {st : Stmt} {f : Addr} {fd : FuncData} {N ps : List Str} {k : Nat} {sp : Sp} (F : Fun K x qual st f fd) (S : FnScope N ps (Zx st)) (len : ∀ vs H Q E, sp vs H Q E -> vs.length = ps.length)
 (hbody : ∀ (cdv : Value) (A : Around) (outer : List Env) (s : Shared) (H : Hp) (vs : List V) (Q : VK) (E : XK), Room k (A.deeper (envOfC qual (Zx st) s.heap.objs.size f cdv)) -> sp vs H Q E ->
  ∃ t, PSs (cxOf CX0 P w K mg base N qual (Zx st) f cdv A outer s H E).nox (Zax st) t /\ t { nx := fun _ H' => Q .non H', rt := Q } (start N vs) H) : FnOk P w K mg base CX0 (k + 1) f fd ps sp := by
 obtain ⟨oc, od, kV, doc, pm, an, cdv, ct, osl, rfl, lk, hcd⟩ := F.ex
 refine Zpn lk hcd S len fun A outer s H vs Q E hr hsp => ?_
 obtain ⟨t, h, q⟩ := hbody cdv A outer s H vs Q E hr hsp
 exact ⟨t, h.nox, q⟩
theorem Fun.binds {x qual : Str} {st : Stmt} {f : Addr} {fd : FuncData} {ps : List Str} (F : Fun K x qual st f fd)
 (h : ∀ (kV doc pm : Value) (an : Option Addr) (cdv ct : Value) (us : List Value), us.length = ps.length -> bindArgs (PySem.W.fnOf x qual (Zb2 st) (Zax st) (Zx st) .none kV doc pm an cdv ct) ⟨us, []⟩ = pure (ps.zip us)) : Binds K fd ps [] := by
 obtain ⟨oc, od, kV, doc, pm, an, cdv, ct, osl, rfl, lk, hcd⟩ := F.ex
 exact .all (h kV doc pm an cdv ct)
theorem ZiU {x qual : Str} {st : Stmt} {f : Addr} {oc : Value} {od an : Option Addr} {osl : Array (Option Value)} {kV doc pm cdv ct : Value} (l : K.lookup f = some ⟨oc, od, .func (PySem.W.fnOf x qual (Zb2 st) (Zax st) (Zx st) .none kV doc pm an cdv ct), osl⟩)
 (c : PySem.W.codeIn K cdv qual = true) (k : PySem.W.keepIn K (.ref f) = true) : Fun K x qual st f (PySem.W.fnOf x qual (Zb2 st) (Zax st) (Zx st) .none kV doc pm an cdv ct) := ⟨⟨oc, od, kV, doc, pm, an, cdv, ct, osl, rfl, l, c⟩, k⟩
end
def Same (H H' : Hp) : Prop := ∀ b o, H b = some o -> H' b = some o
theorem Same.refl (H : Hp) : Same H H := fun _ _ h => h
theorem Same.trans {H H1 H2 : Hp} (a : Same H H1) (b : Same H1 H2) : Same H H2 := fun c o h => b c o (a c o h)
theorem Same.seq {K : Fg} {H H' : Hp} {a : Addr} {xs : List V} (e : Same H H') (h : SqL K H a xs) : SqL K H' a xs := by
 rcases h with (h | ⟨o, h⟩) | h
 . exact .inl (.inl (e _ _ h))
 . exact .inl (.inr ⟨o, e _ _ h⟩)
 . exact .inr h
section
variable {X : Cx}
theorem ZiV : ZA X (.builtin "len") (fun xs H Q => ∃ a kvs, xs = [V.ref a] /\ H a = some (.dK kvs) /\ Q (.int kvs.length) H) := by
 intro pins s σ H xs us Q I r h
 obtain ⟨a, kvs, rfl, ha, q⟩ := h
 obtain ⟨u, rfl, ru⟩ := ZdJ r
 cases ru
 exact Zpt I (.inl ha) fun t s' I' => ⟨.int kvs.length, H, I', ⟨t, rfl⟩, q⟩
end
noncomputable def Znx (sc : Scope) (x : Str) : Bool := sc.names.lookup x == some .cell
theorem ZbD : ∀ (names : List (Str × NameKind)) (n : Nat) (acc : List (Str × Addr)), cellsFrom n names acc = cellsFrom n names [] ++ acc
 | [], _, _ => rfl
 | (x, k) :: r, n, acc => by
  unfold cellsFrom
  split
  . rw [ZbD r (n + 1) ((x, n) :: acc), ZbD r (n + 1) [(x, n)], List.append_assoc]; rfl
  . exact ZbD r n acc
theorem Zds : ∀ (names : List (Str × NameKind)) (n : Nat) (x : Str) (c : Addr), (x, c) ∈ cellsFrom n names [] -> (x, .cell) ∈ names
 | [], _, _, _, h => by simp [cellsFrom] at h
 | (y, k) :: r, n, x, c, h => by
  unfold cellsFrom at h
  split at h
  . rename_i hk
    rw [ZbD] at h
    (rcases List.mem_append.mp h with h | h)
    . exact List.mem_cons_of_mem _ (Zds r _ x c h)
    . have e := List.mem_singleton.mp h
      cases e
      rw [eq_of_beq hk]
      exact List.mem_cons_self
  . exact List.mem_cons_of_mem _ (Zds r _ x c h)
theorem ZeJ : ∀ {names : List (Str × NameKind)} {x : Str} {k k' : NameKind}, (names.map (·.1)).Nodup -> names.lookup x = some k -> (x, k') ∈ names -> k = k'
 | [], _, _, _, _, hn, _ => by simp at hn
 | (y, kd) :: r, x, k, k', nd, h, hm => by
  (obtain ⟨n1, n2⟩ := List.nodup_cons.mp nd)
  rw [List.lookup_cons] at h
  cases hb : x == y with
  | true =>
   rw [hb] at h
   have e : kd = k := Option.some.inj h
   have hx := eq_of_beq hb
   subst hx
   rcases List.mem_cons.mp hm with q | q
   . cases q; exact e.symm
   . exact absurd (List.mem_map.mpr ⟨_, q, rfl⟩) n1
  | false =>
   rw [hb] at h
   rcases List.mem_cons.mp hm with q | q
   . cases q; simp at hb
   . exact ZeJ n2 h q
theorem Zbo {α : Type} (x : Str) : ∀ (l r : List (Str × α)), (l ++ r).lookup x = match l.lookup x with | some c => some c | none => r.lookup x
 | [], r => rfl
 | (y, c) :: l, r => by
  rw [List.cons_append, List.lookup_cons, List.lookup_cons]
  cases x == y with
  | true => rfl
  | false => exact Zbo x l r
noncomputable def cxC (X : Cx) (N' : List Str) (scope : Scope) (cl : List (Str × Addr)) (C : Addr) (s₀ : Shared) (H₀ : Hp) (ex : List Addr) : Cx where
 prog := X.prog
 w := X.w
 K := X.K
 mg := X.mg
 base := X.base
 A := X.A
 N := N'
 s₀ := s₀
 H₀ := H₀
 env := compEnvC scope cl C X.env
 outer := X.stack
 stack := X.stack
 ex := ex
 fn := fun x => Znx scope x
 calm := X.calm
 pn := []
 xe := fun _ _ => False
theorem ZeK {scope : Scope} {env : Env} (h : ∀ y ∈ scope.names, y.2 = .free -> ∃ c, env.cells.lookup y.1 = some c) :
 ∃ cl, closureFor scope env = pure cl /\ (∀ y c, cl.lookup y = some c -> env.cells.lookup y = some c) /\ ∀ y ∈ scope.names, y.2 = .free -> ∃ c, cl.lookup y.1 = some c := by
 have go : ∀ (names : List (Str × NameKind)) (acc : List (Str × Addr)), (∀ y ∈ names, y.2 = .free -> ∃ c, env.cells.lookup y.1 = some c) -> (∀ y c, acc.lookup y = some c -> env.cells.lookup y = some c) ->
  ∃ cl, (forIn names acc fun x r => if (x.2 == NameKind.free) = true then do let c <- cellOf env x.1; pure (ForInStep.yield ((x.1, c) :: r)) else pure (ForInStep.yield r) : Sem _) = pure cl /\
   (∀ y c, cl.lookup y = some c -> env.cells.lookup y = some c) /\ (∀ y c, acc.lookup y = some c -> ∃ c, cl.lookup y = some c) /\ ∀ y ∈ names, y.2 = .free -> ∃ c, cl.lookup y.1 = some c := by
  intro names
  induction names with
  | nil => intro acc _ h2; exact ⟨acc, rfl, h2, fun y c e => ⟨c, e⟩, fun y hy => nomatch hy⟩
  | cons z r ih =>
   intro acc h1 h2
   obtain ⟨n, k⟩ := z
   rw [List.forIn_cons]
   by_cases hk : k = .free
   . subst hk
     obtain ⟨c, hc⟩ := h1 (n, .free) List.mem_cons_self rfl
     obtain ⟨cl, e, a1, a2, a3⟩ := ih ((n, c) :: acc) (fun y hy => h1 y (List.mem_cons_of_mem _ hy)) (fun y d hd => by
      rw [List.lookup_cons] at hd
      cases hb : y == n with
      | true => rw [hb] at hd; simp only at hd; cases hd; rw [eq_of_beq hb]; exact hc
      | false => rw [hb] at hd; exact h2 y d hd)
     refine ⟨cl, ?_, a1, fun y d hd => ?_, fun y hy hf => ?_⟩
     . rw [<- e]
       have e1 : cellOf env n = pure c := by
        unfold cellOf
        rw [hc]
       simp only [beq_self_eq_true, if_true, e1, pure_bind]
     . by_cases hyn : y = n
       . exact a2 y c (by rw [hyn, List.lookup_cons, beq_self_eq_true])
       . exact a2 y d (by rw [List.lookup_cons, show (y == n) = false by simpa using hyn]; exact hd)
     . (rcases List.mem_cons.mp hy with rfl | hy)
       . exact a2 n c (by rw [List.lookup_cons, beq_self_eq_true])
       . exact a3 y hy hf
   . have hb : (k == NameKind.free) = false := by simpa using hk
     obtain ⟨cl, e, a1, a2, a3⟩ := ih acc (fun y hy => h1 y (List.mem_cons_of_mem _ hy)) h2
     refine ⟨cl, ?_, a1, a2, fun y hy hf => ?_⟩
     . rw [<- e]
       simp only [hb, Bool.false_eq_true, if_false, pure_bind]
     . (rcases List.mem_cons.mp hy with rfl | hy)
       . exact absurd hf hk
       . exact a3 y hy hf
 obtain ⟨cl, e, a1, _, a3⟩ := go scope.names [] h (fun y c e => nomatch e)
 refine ⟨cl, ?_, a1, a3⟩
 unfold closureFor
 simp only [] at e ⊢
 rw [e]
 rfl
theorem Zdt {env : Env} : ∀ {names : List (Str × NameKind)} {x : Str}, names.lookup x = some .free ->
 (names.map fun (n, k) => if (k == NameKind.free && env.scope.kind == .function && env.kindOf n == some .cell) then (n, NameKind.cell) else (n, k)).lookup x = some .cell \/
 (names.map fun (n, k) => if (k == NameKind.free && env.scope.kind == .function && env.kindOf n == some .cell) then (n, NameKind.cell) else (n, k)).lookup x = some .free
 | [], _, h => by simp at h
 | (n, k) :: r, x, h => by
  have ih := @Zdt env r x
  show List.lookup x ((if (k == NameKind.free && env.scope.kind == .function && env.kindOf n == some .cell) = true then (n, NameKind.cell) else (n, k)) :: _) = _ \/ List.lookup x ((if (k == NameKind.free && env.scope.kind == .function && env.kindOf n == some .cell) = true then (n, NameKind.cell) else (n, k)) :: _) = _
  cases hx : x == n with
  | true =>
   (simp only [List.lookup_cons, hx] at h)
   cases h
   by_cases hc : (NameKind.free == NameKind.free && env.scope.kind == .function && env.kindOf n == some .cell) = true
   . rw [if_pos hc]; left; simp only [List.lookup_cons, hx]
   . rw [if_neg hc]; right; simp only [List.lookup_cons, hx]
  | false =>
   (simp only [List.lookup_cons, hx] at h)
   (by_cases hc : (k == NameKind.free && env.scope.kind == .function && env.kindOf n == some .cell) = true)
   . (rw [if_pos hc]; simp only [List.lookup_cons, hx]; exact ih h)
   . (rw [if_neg hc]; simp only [List.lookup_cons, hx]; exact ih h)
noncomputable def Zg6 (osc : Scope) (oN : List Str) (k : Nat) (js : List Nat) (N' : List Str) (scope : Scope) : Bool :=
 scope.kind == .function && decide (scope.names.map (·.1)).Nodup && scope.names.all (fun y => y.2 != .local || scope.names.lookup y.1 == some .local) &&
 scope.names.all (fun y => y.2 != .free || osc.names.lookup y.1 == some .cell || osc.names.lookup y.1 == some .free) &&
 N'.length == k + js.length && decide N'.Nodup &&
 (List.range js.length).all fun i => match js[i]? with
  | none => false
  | some j => match oN[j]? with
   | none => false
   | some y => N'[k + i]? == some y && scope.names.lookup y == some .free
structure CompScope (X : Cx) (k : Nat) (js : List Nat) (N' : List Str) (scope : Scope) : Prop where
 kind : scope.kind = .function
 ndn : (scope.names.map (·.1)).Nodup
 names : ∀ y ∈ scope.names, y.2 = .local -> scope.names.lookup y.1 = some .local
 free : ∀ y ∈ scope.names, y.2 = .free -> X.env.kindOf y.1 = some .cell \/ X.env.kindOf y.1 = some .free
 len : N'.length = k + js.length
 nd : N'.Nodup
 idx : ∀ i j : Nat, js[i]? = some j -> ∃ y, X.N[j]? = some y /\ N'[k + i]? = some y /\ scope.names.lookup y = some .free
theorem CompScope.of {X : Cx} {osc : Scope} {oN : List Str} {k : Nat} {js : List Nat} {N' : List Str} {scope : Scope} (h : Zg6 osc oN k js N' scope = true) (e : X.env.scope = osc) (eN : X.N = oN) : CompScope X k js N' scope := by
 subst e eN
 unfold Zg6 at h
 (simp only [Bool.and_eq_true] at h)
 obtain ⟨⟨⟨⟨⟨⟨h1, h2⟩, h3⟩, h4⟩, h5⟩, h6⟩, h7⟩ := h
 refine ⟨eq_of_beq h1, of_decide_eq_true h2, fun y hy hl => ?_, fun y hy hf => ?_, eq_of_beq h5, of_decide_eq_true h6, fun i j hj => ?_⟩
 . have q := List.all_eq_true.mp h3 y hy
   rw [hl] at q
   simpa using q
 . have q := List.all_eq_true.mp h4 y hy
   rw [hf] at q
   simp at q
   exact q
 . have hi : i < js.length := (List.getElem?_eq_some_iff.mp hj).1
   have q := List.all_eq_true.mp h7 i (List.mem_range.mpr hi)
   rw [hj] at q
   simp only at q
   cases hN : X.N[j]? with
   | none => rw [hN] at q; cases q
   | some y =>
    rw [hN] at q
    simp only [Bool.and_eq_true] at q
    exact ⟨y, rfl, eq_of_beq q.1, eq_of_beq q.2⟩
noncomputable def Zbp (js : List Nat) (σ : St) : St := js.map fun j => (σ[j]?).join
noncomputable def ZaQ (k : Nat) (js : List Nat) (σ : St) : St := List.replicate k none ++ Zbp js σ
section
variable {X : Cx}
theorem Zkg {pins : Pn} {σ : St} {H : Hp} {s : Shared} {k : Nat} {js : List Nat} {N' : List Str} {scope : Scope} {cl : List (Str × Addr)} {fp : List Addr} {h1 : Heap} {tk : Nat}
 (I : Inv X pins σ H s) (S : CompScope X k js N' scope) (hf : ∀ b ∈ fp, FpOk X pins H b) (hfo : ∀ b ∈ fp, b < s.heap.objs.size)
 (c1 : ∀ y c, cl.lookup y = some c -> X.env.cells.lookup y = some c) (c2 : ∀ y ∈ scope.names, y.2 = .free -> ∃ c, cl.lookup y.1 = some c)
 (ns : ∃ m, h1.Ns (s.heap.objs.size + 1) m) (kp : ∀ b o, s.heap.get? b = some o -> h1.get? b = some o) (hD : h1.get? s.heap.objs.size = some { cls := .type "list", data := .seq #[] }) (ck : CellsOk h1 (s.heap.objs.size + 2) (cellsFrom (s.heap.objs.size + 2) scope.names [])) :
 Inv (cxC X N' scope (cellsFrom (s.heap.objs.size + 2) scope.names cl) (s.heap.objs.size + 1) s H fp) [] (ZaQ k js σ) (upd H s.heap.objs.size (.lst [])) { s with heap := h1, toks := tk } := by
 have hfr : H s.heap.objs.size = none := I.hok.fresh (Nat.le_refl _)
 have hfr1 : H (s.heap.objs.size + 1) = none := I.hok.fresh (Nat.le_succ _)
 have cells : ∀ y c, cl.lookup y = some c -> c < s.heap.objs.size := fun y c e => by
  obtain ⟨v, q⟩ := I.cell y c (c1 y c e)
  exact q.lt
 have exb : ∀ b ∈ fp, ∀ o, X.base.get? b = some o -> False := fun b hb o e => by
  rcases (hf b hb).2.2.2.1 with z | z
  . exact I.ok.noex b o e z
  . exact absurd (Nat.lt_of_lt_of_le (Heap.lt_size (I.ok.bs b o e).1) z) (Nat.lt_irrefl _)
 have exs : ∀ b ∈ fp, b ∉ frs X.stack := fun b hb z => by
  rcases List.mem_cons.mp (I.stkSub b z) with q | q
  . exact (hf b hb).2.1 q
  . exact (hf b hb).2.2.1 q
 obtain ⟨m1, hn1⟩ := ns
 rw [ZbD]
 generalize hL : cellsFrom (s.heap.objs.size + 2) scope.names [] = L at ck
 have memL : ∀ x c, (x, c) ∈ L -> scope.names.lookup x ≠ some .free := fun x c h q => by
  have := ZeJ S.ndn q (Zds _ _ _ _ (by rw [hL]; exact h))
  cases this
 have cel : ∀ x c, (L ++ cl).lookup x = some c -> ((x, c) ∈ L /\ s.heap.objs.size + 2 <= c /\ h1.IsCell c none) \/ (cl.lookup x = some c /\ L.lookup x = none) := fun x c e => by
  rw [Zbo] at e
  cases q : L.lookup x with
  | some c' =>
   rw [q] at e
   have e' : c' = c := Option.some.inj e
   subst e'
   have hm := PySem.mem_of_lookup q
   exact .inl ⟨hm, (ck.empty _ _ hm).2, (ck.empty _ _ hm).1⟩
  | none => rw [q] at e; exact .inr ⟨e, rfl⟩
 have freeL : ∀ x, scope.names.lookup x = some .free -> (L ++ cl).lookup x = cl.lookup x := fun x hx => by
  rw [Zbo]
  cases q : L.lookup x with
  | some c => exact absurd hx (memL x c (PySem.mem_of_lookup q))
  | none => rfl
 have upk : ∀ y, scope.names.lookup y = some .free -> ((cxC X N' scope (L ++ cl) (s.heap.objs.size + 1) s H fp).env.kindOf y = some .cell \/ (cxC X N' scope (L ++ cl) (s.heap.objs.size + 1) s H fp).env.kindOf y = some .free) := fun y hy => Zdt hy
 have memf : ∀ y, scope.names.lookup y = some .free -> ∃ c, cl.lookup y = some c := fun y hy => c2 (y, .free) (PySem.mem_of_lookup hy) rfl
 have back : ∀ y, ((cxC X N' scope (L ++ cl) (s.heap.objs.size + 1) s H fp).env.kindOf y = some .cell \/ (cxC X N' scope (L ++ cl) (s.heap.objs.size + 1) s H fp).env.kindOf y = some .free) -> scope.names.lookup y = some .free \/ scope.names.lookup y = some .cell := by
  intro y hy
  have key : ∀ names : List (Str × NameKind),
   ((names.map fun (n, k) => if (k == NameKind.free && X.env.scope.kind == .function && X.env.kindOf n == some .cell) then (n, NameKind.cell) else (n, k)).lookup y = some .cell \/
   (names.map fun (n, k) => if (k == NameKind.free && X.env.scope.kind == .function && X.env.kindOf n == some .cell) then (n, NameKind.cell) else (n, k)).lookup y = some .free) -> names.lookup y = some .free \/ names.lookup y = some .cell := by
   intro names
   induction names with
   | nil => intro h; simp at h
   | cons z r ih =>
    intro h
    obtain ⟨n, kd⟩ := z
    have h' : List.lookup y ((if (kd == NameKind.free && X.env.scope.kind == .function && X.env.kindOf n == some .cell) = true then (n, NameKind.cell) else (n, kd)) :: r.map _) = _ \/
     List.lookup y ((if (kd == NameKind.free && X.env.scope.kind == .function && X.env.kindOf n == some .cell) = true then (n, NameKind.cell) else (n, kd)) :: r.map _) = _ := h
    rw [List.lookup_cons]
    cases hx : y == n with
    | true =>
     by_cases hc : (kd == NameKind.free && X.env.scope.kind == .function && X.env.kindOf n == some .cell) = true
     . have : (kd == NameKind.free) = true := by
        (simp only [Bool.and_eq_true] at hc)
        exact hc.1.1
       rw [eq_of_beq this]
       exact .inl rfl
     . rw [if_neg hc] at h'
       simp only [List.lookup_cons, hx] at h'
       rcases h' with q | q
       . exact .inr q
       . exact .inl q
    | false =>
     simp only
     by_cases hc : (kd == NameKind.free && X.env.scope.kind == .function && X.env.kindOf n == some .cell) = true
     . rw [if_pos hc] at h'
       simp only [List.lookup_cons, hx] at h'
       exact ih h'
     . rw [if_neg hc] at h'
       simp only [List.lookup_cons, hx] at h'
       exact ih h'
  exact key scope.names hy
 have hasL : ∀ y, ∀ c, cl.lookup y = some c -> ∃ c, (L ++ cl).lookup y = some c := fun y c e => by
  rw [Zbo]
  cases q : L.lookup y with
  | some c' => exact ⟨c', rfl⟩
  | none => exact ⟨c, e⟩
 refine ⟨⟨I.mod, S.kind, I.ok.glob, I.ok.blt, Nat.le_succ _, fun x y c e1 e2 => ?_, fun y hy => ?_, fun x c hx e => ?_, I.ok.hd, I.ok.frames, .inl rfl,
  fun b hb => ⟨Nat.ne_of_lt (Nat.lt_succ_of_lt (hfo b hb)), fun x c e => ?_⟩, I.bs, Nat.le_trans I.ok.bsz I.sz, fun b o e hb => exb b hb o e, exs, I.stack, I.stkFree⟩,
  rfl, I.bare, Un.laid kp (Nat.le_refl _) hfr, ⟨m1, hn1, fun i x v e1 e2 e3 => ?_⟩, fun x c e => ?_, ?_, fun x c e => ?_, fun p hp => (nomatch hp), I.hok.laid kp (Nat.le_refl _) ⟨by simp, [], 0, .nil, hD⟩, ?_⟩
 . rcases cel x c e1 with ⟨h1', h2', _⟩ | ⟨h1', _⟩ <;> rcases cel y c e2 with ⟨g1', g2', _⟩ | ⟨g1', _⟩
   . exact name_of_addr ck.apart h1' g1'
   . exact absurd (Nat.lt_of_lt_of_le (cells y c g1') (Nat.le_trans (Nat.le_add_right _ _) h2')) (Nat.lt_irrefl _)
   . exact absurd (Nat.lt_of_lt_of_le (cells x c h1') (Nat.le_trans (Nat.le_add_right _ _) g2')) (Nat.lt_irrefl _)
   . exact I.ok.inj x y c (c1 x c h1') (c1 y c g1')
 . rcases back y hy with q | q
   . obtain ⟨c, hc⟩ := memf y q
     exact hasL y c hc
   . obtain ⟨c, hc⟩ := ZcK (sc := scope) (n := s.heap.objs.size + 2) q
     rw [hL] at hc
     refine ⟨c, ?_⟩
     show (L ++ cl).lookup y = some c
     rw [Zbo, hc]
 . have q : scope.names.lookup x = some .cell := eq_of_beq hx
   obtain ⟨c', hc⟩ := ZcK (sc := scope) (n := s.heap.objs.size + 2) q
   rw [hL] at hc
   rcases cel x c e with ⟨_, h2, _⟩ | ⟨_, h2⟩
   . exact Nat.le_trans (Nat.le_add_right _ _) h2
   . rw [hc] at h2; cases h2
 . rcases cel x c e with ⟨_, h2, _⟩ | ⟨h2, _⟩
   . exact fun z => absurd (Nat.lt_of_lt_of_le (hfo b hb) (Nat.le_trans (Nat.le_add_right _ _) h2)) (by rw [z]; exact Nat.lt_irrefl _)
   . exact (hf b hb).2.2.2.2.1 x c (c1 x c h2)
 . -- a name's value within the block
   have hi : ¬ i < k := fun hi => by
    unfold ZaQ at e2
    rw [List.getElem?_append_left (by simpa using hi), List.getElem?_replicate, if_pos hi] at e2
    cases e2
   have hik : k <= i := Nat.le_of_not_lt hi
   have e2' : (Zbp js σ)[i - k]? = some (some v) := by
    unfold ZaQ at e2
    rw [List.getElem?_append_right (by simpa using hik), List.length_replicate] at e2
    exact e2
   unfold Zbp at e2'
   rw [List.getElem?_map] at e2'
   cases hj : js[i - k]? with
   | none => rw [hj] at e2'; cases e2'
   | some j =>
    rw [hj] at e2'
    have e4 : (σ[j]?).join = some v := Option.some.inj e2'
    obtain ⟨y, n1, n2, n3⟩ := S.idx (i - k) j hj
    rw [Nat.add_sub_cancel' hik] at n2
    have e1' : N'[i]? = some x := e1
    rw [e1'] at n2
    obtain rfl : x = y := Option.some.inj n2
    have e5 : σ[j]? = some (some v) := by
     cases q : σ[j]? with
     | none => rw [q] at e4; cases e4
     | some o => rw [q] at e4; exact congrArg some e4
    obtain ⟨m, hn, hl⟩ := I.loc
    have hk := S.free (x, .free) (PySem.mem_of_lookup n3) rfl
    have hv : Vis X.env.scope x := .inr hk
    obtain ⟨u, r, l⟩ := hl j x v n1 e5 hv
    refine ⟨u, r, .inr ⟨upk x n3, ?_⟩⟩
    rcases l with ⟨q, _⟩ | ⟨_, c, hc, hcell⟩
    . rcases hk with z | z <;> (rw [show X.env.kindOf x = some NameKind.local from q] at z; cases z)
    . obtain ⟨c', hc'⟩ := memf x n3
      have : c' = c := Option.some.inj ((c1 x c' hc').symm.trans hc)
      subst this
      obtain ⟨o, ho, hd⟩ := hcell
      exact ⟨c', (freeL x n3).trans hc', o, kp _ _ ho, hd⟩
 . rcases cel x c e with ⟨_, _, h3⟩ | ⟨h2, _⟩
   . exact ⟨_, h3⟩
   . obtain ⟨v, o, ho, hd⟩ := I.cell x c (c1 x c h2)
     exact ⟨v, o, kp _ _ ho, hd⟩
 . show upd H s.heap.objs.size (.lst []) (s.heap.objs.size + 1) = none
   rw [Zq (Nat.succ_ne_self _)]
   exact hfr1
 . show upd H s.heap.objs.size (.lst []) c = none
   rcases cel x c e with ⟨_, h2, _⟩ | ⟨h2, _⟩
   . rw [Zq (fun z : c = s.heap.objs.size => Nat.not_succ_le_self s.heap.objs.size (Nat.le_trans (Nat.le_succ _) (by rw [z] at h2; exact h2)))]
     exact I.hok.fresh (Nat.le_trans (Nat.le_add_right _ _) h2)
   . rw [Zq (Nat.ne_of_lt (cells x c h2))]
     exact I.freeC x c (c1 x c h2)
 . show (ZaQ k js σ).length = N'.length
   unfold ZaQ Zbp
   rw [List.length_append, List.length_replicate, List.length_map, S.len]
def PIf (X : Cx) (ifs : List Expr) (t : TT) : Prop :=
 ∀ (pins : Pn) (s : Shared) (σ : St) (H : Hp) (Q : Bool -> Hp -> Prop), Inv X pins σ H s -> t σ H Q ->
  wpAny (model X.prog X.w) X.A (forIn ifs true fun c r => if r = true then do let ok <- isTrue c X.env (eval c X.env); pure (ForInStep.yield ok) else pure (ForInStep.yield r)) (TP X pins σ Q) X.xe s
def tIf0 : TT := fun _ H Q => Q true H
theorem Zl9 : PIf X [] tIf0 := fun _ _ _ H _ I h => wpAny_tests_nil ⟨H, I, h⟩
theorem ZlA {c : Expr} {t : TT} (h : PT X c t) : PIf X [c] t := fun pins s σ H Q I q => wpAny_tests_one (h pins s σ H Q I q)
def Zig (J : It) (g : TG) (tif : TT) (te : TE) (D : Addr) (Q : VK) (W : Nat -> Nat -> St -> List V -> Hp -> Prop) : Prop :=
 ∀ i m σ ys H, W i m σ ys H -> H D = some (.lst ys) -> (J.stop i H /\ Q (.ref D) H) \/ (J.go i H /\ ∀ x H', J.yld i H x H' -> g x σ H' fun σ2 H2 => tif σ2 H2 fun b H3 =>
  if b = true then te σ2 H3 fun y H4 => H4 D = some (.lst ys) /\ ys.length < sizeLine /\ ∃ m', m' < m /\ W (i + 1) m' σ2 (ys ++ [y]) (upd H4 D (.lst (ys ++ [y])))
  else H3 D = some (.lst ys) /\ ∃ m', m' < m /\ W (i + 1) m' σ2 ys H3)
theorem ZiW {elt tg iter : Expr} {ifs : List Expr} {scope : Scope} {pos : Pos} {it D : Addr} {J : It} {fp : List Addr} {tn : Nat -> Heap -> Prop} {g : TG} {tif : TT} {te : TE} {Q : VK} {R : Result -> Shared -> Prop}
 (hx : ∀ e s', X.xe e s' -> False) (hc : X.calm = true) (T : Turn X.prog X.w X.K tg J fp it tn) (hg : PG X tg g) (hif : PIf X ifs tif) (he : PE X elt te)
 (stat : ∀ {H' : Hp}, (∀ b ∈ fp, H' b = none) -> ∀ b ∈ fp, FpOk X [] H' b)
 {W : Nat -> Nat -> St -> List V -> Hp -> Prop} (turn : Zig J g tif te D Q W)
 (hR : ∀ σ' H' s', Inv X [] σ' H' s' -> Q (.ref D) H' -> R (.ok .next) s')
 {σ : St} {H : Hp} {s : Shared} {m : Nat} (I : Inv X [] σ H s) (st : tn 0 s.heap) (fr : ∀ b ∈ fp, H b = none) (hD : H D = some (.lst [])) (w0 : W 0 m σ [] H) :
 codeAny (model X.prog X.w) X.A (.compLoop (.ListComp elt [⟨tg, iter, ifs, 0⟩] scope pos) 0 (.ref it) (.ref D) X.env) R s := by
 refine codeAny_loop rfl (fun n s' => ∃ i ys σ' H', Inv X [] σ' H' s' /\ tn i s'.heap /\ (∀ b ∈ fp, H' b = none) /\ H' D = some (.lst ys) /\ W i n σ' ys H') (fun n s3 hI => ?_) m ⟨0, [], σ, H, I, st, fr, hD, w0⟩
 obtain ⟨i, ys, σ3, H3, I3, st3, fr3, d3, w3⟩ := hI
 show wpAny _ X.A ((compTurn (.ListComp elt [⟨tg, iter, ifs, 0⟩] scope pos) 0 (.ref it) (.ref D) X.env).onRaise (fun x => do noteFrame x X.env; theTreesLotGoes x)) _ _ s3
 refine wpAny_noted ?_
 rw [compTurn_list]
 (refine wpAny_bind (wpAny_standAt (wpAny_bind ?_)))
 have sub : ∀ {α : Type} {t : Sem α} {P : α -> Shared -> Prop} {E' : VS} {s : Shared}, wpAny (model X.prog X.w) X.A t P X.xe s -> wpAny (model X.prog X.w) X.A t P E' s := fun h => wpAny_mono h (fun _ _ q => q) fun e s' q => (hx e s' q).elim
 rcases turn i n σ3 ys H3 w3 d3 with ⟨stop, q⟩ | ⟨go, step⟩
 . refine sub (thn (T.done X rfl rfl rfl hc i [] s3 σ3 H3 X.xe I3 (stat fr3) st3 stop) fun r s4 z0 => ?_)
   obtain ⟨hr, I4⟩ := z0
   subst hr
   exact wpAny_pure (hR σ3 H3 s4 I4 q)
 . refine sub (thn (T.item X rfl rfl rfl hc i [] s3 σ3 H3 X.xe I3 (stat fr3) st3 go) fun r s4 z0 => ?_)
   obtain ⟨u, hr, h4⟩ := z0
   subst hr
   refine wpAny_bind (sub (thn h4 fun _ s5 z0 => ?_))
   obtain ⟨x, H5, I5, r5, y5, st5, fr5⟩ := z0
   have I5' := I5.pinned (stat fr5) (T.obj _ _ st5)
   refine wpAny_bind (sub (thn (hg _ s5 σ3 H5 x u _ I5' r5 (step x H5 y5)) fun _ s6 z0 => ?_))
   obtain ⟨σ6, H6, I6, q6⟩ := z0
   have again : ∀ {s7 : Shared} {H7 : Hp} {ys7 : List V}, Inv X ([] ++ Zdo fp s5.heap) σ6 H7 s7 -> H7 D = some (.lst ys7) -> (∃ m', m' < n /\ W (i + 1) m' σ6 ys7 H7) ->
    ∃ m, m < n /\ ∃ i ys σ' H', Inv X [] σ' H' s7 /\ tn i s7.heap /\ (∀ b ∈ fp, H' b = none) /\ H' D = some (.lst ys) /\ W i m σ' ys H' := fun {s7 H7 ys7} I7 d7 w7 => by
    obtain ⟨m', hm, w7⟩ := w7
    refine ⟨m', hm, i + 1, ys7, σ6, H7, I7.unpinned, T.keep _ _ _ st5 fun b hb o e => (I7.pin (b, o) (List.mem_append_right _ (List.mem_append_right _ (ZbR hb e)))).1, fun b hb => ?_, d7, w7⟩
    obtain ⟨o, e, d⟩ := T.obj _ _ st5 b hb
    exact (I7.pin (b, o) (List.mem_append_right _ (List.mem_append_right _ (ZbR hb e)))).2.1
   refine wpAny_bind (sub (thn (hif _ s6 σ6 H6 _ I6 q6) fun ok s7 z0 => ?_))
   obtain ⟨H7, I7, q7⟩ := z0
   cases ok with
   | false =>
    rw [if_neg Bool.false_ne_true] at q7
    exact wpAny_pure ⟨rfl, again I7 q7.1 q7.2⟩
   | true =>
    rw [if_pos rfl] at q7
    refine wpAny_bind (wpAny_bind (sub (thn (he _ s7 σ6 H7 _ I7 q7) fun y s8 z0 => ?_)))
    obtain ⟨v, H8, I8, r8, d8, z8, w8⟩ := z0
    have ap := ZfC (X := X) _ s8 σ6 H8 (.ref D) [v] (.ref D) [y] (fun _ H9 => H9 = upd H8 D (.lst (ys ++ [v]))) I8 rfl (.cons r8 .nil) ⟨D, ys, v, rfl, rfl, d8, z8, rfl⟩
    refine wpAny_bind (sub (thn ap fun _ s9 z0 => ?_))
    obtain ⟨_, H9, I9, _, e9⟩ := z0
    subst e9
    exact wpAny_pure (wpAny_pure ⟨rfl, again I9 Zm w8⟩)
def Zgl (k : Nat) (js : List Nat) (wi : TI) (g : TG) (tif : TT) (te : TE) : TE := fun σ H Q => wi σ H fun J H1 => ∀ D, H1 D = none -> ∃ W : Nat -> Nat -> St -> List V -> Hp -> Prop,
 (∃ m, W 0 m (ZaQ k js σ) [] (upd H1 D (.lst []))) /\ Zig J g tif te D Q W
theorem Zhk {M : Model} {A : Around} {E : VS} {s : Shared} {scope : Scope} {globals : Addr} {cl : List (Str × Addr)} {qual : Str} {outer : Env} {Q : Env -> Shared -> Prop}
 (h : ∀ h', (∃ m, h'.Ns s.heap.objs.size m) -> (∀ b o, s.heap.get? b = some o -> h'.get? b = some o) -> CellsOk h' (s.heap.objs.size + 1) (cellsFrom (s.heap.objs.size + 1) scope.names []) ->
  Q (newEnv scope s.heap.objs.size globals (cellsFrom (s.heap.objs.size + 1) scope.names cl) qual none .none (some outer) builtinsNs) { s with heap := h' }) :
 wpAny M A (newFunctionEnv scope globals cl [] qual none .none (some outer)) Q E s := by
 (simp only [newFunctionEnv, Option.isSome_some, if_true])
 (refine wpAny_bind (wpAny_alloc ?_))
 (refine wpAny_bind (wpAny_layCells _ (fun name kind cells => by cases hkc : kind == NameKind.cell <;> simp [hkc]) _ _ _ _ ?_))
 have ok := cellsFrom_ok scope.names (s.heap.push { cls := .type "dict", data := .dict #[] }) (s.heap.objs.size + 1) [] ⟨fun _ _ hm => (nomatch hm), List.Pairwise.nil⟩ (by rw [Heap.size_push]; exact Nat.le_refl _)
 rw [Heap.size_push] at ok
 rw [show ({ s with heap := s.heap.push { cls := .type "dict", data := .dict #[] } } : Shared).heap.objs.size = s.heap.objs.size + 1 from Heap.size_push ..]
 refine wpAny_bind ?_
 rw [List.forIn_nil]
 exact wpAny_pure (wpAny_pure (h _ ⟨_, (Heap.Ns.new s.heap (.type "dict")).keeps (pushCells_keeps _ _)⟩ (fun b o e => pushCells_keeps _ _ b o (Heap.get?_push_of_some _ e)) ok))
theorem ZeL {elt tg iter : Expr} {ifs : List Expr} {scope : Scope} {pos : Pos} {k : Nat} {js : List Nat} {N' : List Str} {J : It} {fp : List Addr} {tn : Nat -> Heap -> Prop} {it : Addr} {g : TG} {tif : TT} {te : TE} {Q : VK} {E : VS}
 {pins : Pn} {s : Shared} {σ : St} {H : Hp} {cl : List (Str × Addr)} {RR : Value -> Addr -> Result -> Shared -> Prop}
 (hc : X.calm = true) (S : CompScope X k js N' scope) (T : Turn X.prog X.w X.K tg J fp it tn) (st : tn 0 s.heap) (hf : ∀ b ∈ fp, FpOk X pins H b)
 (c1 : ∀ y c, cl.lookup y = some c -> X.env.cells.lookup y = some c) (c2 : ∀ y ∈ scope.names, y.2 = .free -> ∃ c, cl.lookup y.1 = some c)
 (hin : ∀ (cl : List (Str × Addr)) (C : Addr) (s₀ : Shared) (H₀ : Hp) (ex : List Addr), PG (cxC X N' scope cl C s₀ H₀ ex) tg g /\ PIf (cxC X N' scope cl C s₀ H₀ ex) ifs tif /\ PE (cxC X N' scope cl C s₀ H₀ ex) elt te)
 (I : Inv X pins σ H s) (q : ∀ D, H D = none -> ∃ W : Nat -> Nat -> St -> List V -> Hp -> Prop, (∃ m, W 0 m (ZaQ k js σ) [] (upd H D (.lst []))) /\ Zig J g tif te D Q W)
 (hRR : ∀ (D C : Addr) (s' : Shared) (H' : Hp), s.heap.get? C = none -> (∃ m, s'.heap.Ns C m) -> Inv X pins σ H' s' -> FpOk X pins H' C -> Q (.ref D) H' -> RR (.ref D) C (.ok .next) s') :
 wpAny (model X.prog X.w) X.A (newList []) (fun acc s₃ => wpAny (model X.prog X.w) X.A (newFunctionEnv scope X.env.globals cl [] X.env.qual none .none (some X.env)) (fun cenv s₄ =>
  codeAny (model X.prog X.w) X.A (.compStart (.ListComp elt [⟨tg, iter, ifs, 0⟩] scope pos) 0 (.ref it) acc { cenv with scope := relabel scope X.env }) (RR acc cenv.locals) s₄) E s₃) E s := by
 refine wpAny_newObj_type (Zhk fun h₁ hns₁ hkp₁ hck₁ => ?_)
 dsimp only at hns₁ hkp₁ hck₁ ⊢
 generalize hH2 : s.heap.push { cls := .type "list", dict := none, data := .seq ([] : List Value).toArray } = H2 at hns₁ hkp₁ hck₁ ⊢
 have hC : H2.objs.size = s.heap.objs.size + 1 := by rw [<- hH2, Heap.size_push]
 rw [hC] at hns₁ hck₁ ⊢
 have kp : ∀ b o, s.heap.get? b = some o -> h₁.get? b = some o := fun b o e => hkp₁ b o (hH2 ▸ Heap.get?_push_of_some _ e)
 have hD : h₁.get? s.heap.objs.size = some { cls := .type "list", data := .seq #[] } := hkp₁ _ _ (hH2 ▸ Heap.get?_push_size _ rfl)
 have hfo : ∀ b ∈ fp, b < s.heap.objs.size := fun b hb => by obtain ⟨o, e, _⟩ := T.obj _ _ st b hb; exact Heap.lt_size e
 obtain ⟨W, ⟨m0, w0⟩, turn⟩ := q s.heap.objs.size (I.hok.fresh (Nat.le_refl _))
 obtain ⟨gG, gI, gE⟩ := hin (cellsFrom (s.heap.objs.size + 2) scope.names cl) (s.heap.objs.size + 1) s H fp
 have fresh1 : s.heap.get? (s.heap.objs.size + 1) = none := by
  cases e : s.heap.get? (s.heap.objs.size + 1) with
  | none => rfl
  | some o => exact absurd (Heap.lt_size e) (Nat.not_lt.mpr (Nat.le_succ _))
 have I1 : ∀ tk, Inv (cxC X N' scope (cellsFrom (s.heap.objs.size + 2) scope.names cl) (s.heap.objs.size + 1) s H fp) [] (ZaQ k js σ) (upd H s.heap.objs.size (.lst [])) { s with heap := h₁, toks := tk } := fun tk => Zkg I S hf hfo c1 c2 hns₁ kp hD hck₁
 have ffr : ∀ b ∈ fp, upd H s.heap.objs.size (.lst []) b = none := fun b hb => by
  rw [Zq (Nat.ne_of_lt (hfo b hb))]
  exact (hf b hb).1
 have exs : ∀ b ∈ fp, b ∉ frs X.stack := (I1 0).ok.exfs
 have stat : ∀ {H' : Hp}, (∀ b ∈ fp, H' b = none) -> ∀ b ∈ fp, FpOk (cxC X N' scope (cellsFrom (s.heap.objs.size + 2) scope.names cl) (s.heap.objs.size + 1) s H fp) [] H' b := fun hn b hb =>
  ⟨hn b hb, ((I1 0).ok.exf b hb).1, exs b hb, .inl hb, ((I1 0).ok.exf b hb).2, fun p hp => (nomatch hp)⟩
 have st1 : tn 0 h₁ := T.keep _ _ _ st fun b _ o e => kp b o e
 have loop : ∀ tk, codeAny (model X.prog X.w) X.A (.compLoop (.ListComp elt [⟨tg, iter, ifs, 0⟩] scope pos) 0 (.ref it) (.ref s.heap.objs.size) (compEnvC scope (cellsFrom (s.heap.objs.size + 2) scope.names cl) (s.heap.objs.size + 1) X.env))
  (RR (.ref s.heap.objs.size) (s.heap.objs.size + 1)) { s with heap := h₁, toks := tk } := fun tk => by
  refine ZiW (X := cxC X N' scope (cellsFrom (s.heap.objs.size + 2) scope.names cl) (s.heap.objs.size + 1) s H fp) (fun _ _ z => z) hc T gG gI gE stat turn (fun σ' H' s' J q' => ?_) (I1 tk) st1 ffr Zm w0
  have u : Un (frs X.stack) fp H H' s.heap s'.heap := J.base
  have J1 : Inv X pins σ H' s' := I.call' J.os u J.hok J.bare fun b hb => ⟨(hf b hb).2.2.2.1, (hf b hb).2.1, (hf b hb).2.2.2.2.1, (hf b hb).2.2.2.2.2⟩
  obtain ⟨m', hn', _⟩ := J.loc
  refine hRR _ _ s' H' fresh1 ⟨m', hn'⟩ J1 ⟨J.free, Nat.ne_of_gt (Nat.lt_succ_of_lt I.lt), I.nofs (Nat.le_succ _), .inr (Nat.le_trans I.sz (Nat.le_succ _)), fun x c e z => ?_, fun p hp z => ?_⟩ q'
  . obtain ⟨v, qc⟩ := I.cell x c e
    have h1 := qc.lt
    rw [z] at h1
    exact absurd h1 (Nat.not_lt.mpr (Nat.le_succ _))
  . have h1 := Heap.lt_size (I.pin p hp).1
    rw [z] at h1
    exact absurd h1 (Nat.not_lt.mpr (Nat.le_succ _))
 exact codeAny_compStart_list (loop _) (T.self X.A 0 _ _ _ st1 (loop _))
theorem ZlB {elt tg iter : Expr} {ifs : List Expr} {scope : Scope} {pos : Pos} {k : Nat} {js : List Nat} {N' : List Str} {wi : TI} {g : TG} {tif : TT} {te : TE}
 (hc : X.calm = true) (S : CompScope X k js N' scope) (hi : PI X tg iter wi)
 (hin : ∀ (cl : List (Str × Addr)) (C : Addr) (s₀ : Shared) (H₀ : Hp) (ex : List Addr), PG (cxC X N' scope cl C s₀ H₀ ex) tg g /\ PIf (cxC X N' scope cl C s₀ H₀ ex) ifs tif /\ PE (cxC X N' scope cl C s₀ H₀ ex) elt te)
 (hs : ∀ x, foldedSetIterable iter X.env x = pure x := by intro _; rfl) : PE X (.ListComp elt [⟨tg, iter, ifs, 0⟩] scope pos) (Zgl k js wi g tif te) := by
 intro pins s σ H Q I h
 obtain ⟨cl, ec, c1, c2⟩ := ZeK (scope := scope) (env := X.env) fun y hy hf => I.ok.has y.1 (S.free y hy hf)
 rw [eval_ListComp]
 refine wpAny_comprehension_free (use := none) rfl hs ec S.kind S.names (thn (hi pins s σ H _ I h) fun xv s1 h1 => thn h1 fun itv s2 h2 => ?_)
 obtain ⟨it, fp, tn, J, H2, e, I2, T, st2, f2, q⟩ := h2
 subst e
 refine ZeL (RR := fun acc C => compPost (model X.prog X.w) X.A X.xe none (EP X pins σ Q) acc C) hc S T st2 f2 c1 c2 hin I2 q ?_
 intro D C s' H' _ hn J1 fC q'
 obtain ⟨m', hn⟩ := hn
 obtain ⟨f0, f1, f2, f3, f4, f5⟩ := fC
 exact ⟨m', hn, fun h' hs' => ⟨.ref D, H', J1.turned (t' := s'.toks) (fun b o hb e => hs'.extBut b o hb e) f0 f1 f3 f4 f5, rfl, q'⟩⟩
theorem ZlC {i : Nat} {x : Str} {elt tg iter : Expr} {ifs : List Expr} {scope : Scope} {pos spos pos' : Pos} {k : Nat} {js : List Nat} {N' : List Str} {wi : TI} {g : TG} {tif : TT} {te : TE}
 (hN : X.N.Nodup) (hi : X.N[i]? = some x) (hx : Loc X.env.scope x)
 (hc : X.calm = true) (S : CompScope X k js N' scope) (hit : PI X tg iter wi)
 (hin : ∀ (cl : List (Str × Addr)) (C : Addr) (s₀ : Shared) (H₀ : Hp) (ex : List Addr), PG (cxC X N' scope cl C s₀ H₀ ex) tg g /\ PIf (cxC X N' scope cl C s₀ H₀ ex) ifs tif /\ PE (cxC X N' scope cl C s₀ H₀ ex) elt te)
 (hsw : swapsWith (.ListComp elt [⟨tg, iter, ifs, 0⟩] scope pos) (some (.Name x pos')) spos.line X.env = pure true := by rfl)
 (hf : X.fn x = true \/ X.env.scope.names.lookup x = some .local := by first | exact .inl rfl | exact .inr rfl | assumption)
 (hs : ∀ x, foldedSetIterable iter X.env x = pure x := by intro _; rfl) : PS X (.Assign [.Name x pos'] (.ListComp elt [⟨tg, iter, ifs, 0⟩] scope pos) spos) (tAsg (Zgl k js wi g tif te) (Zcu i)) := by
 intro pins s σ H D I h
 obtain ⟨cl, ec, c1, c2⟩ := ZeK (scope := scope) (env := X.env) fun y hy hf => I.ok.has y.1 (S.free y hy hf)
 (rw [exec_Assign_Name_used _ _ _ _ hsw])
 (refine wpAny_bind (wpAny_standAt (wpAny_bind ?_)))
 show wpAny _ X.A (do let _ <- comprehension (.ListComp elt [⟨tg, iter, ifs, 0⟩] scope pos) scope X.env _ (newList []) false (eval iter X.env) (some (assign (.Name x pos') X.env))) _ _ s
 refine wpAny_bind (wpAny_mono (wpAny_comprehension_free (use := some (assign (.Name x pos') X.env)) (Q := fun _ s' => SP X pins D .next s') rfl hs ec S.kind S.names
  (thn (hit pins s σ H _ I h) fun xv s1 h1 => thn h1 fun itv s2 h2 => ?_)) (fun _ s' hq => wpAny_pure (wpAny_pure hq)) fun _ _ e => e)
 obtain ⟨it, fp, tn, J, H2, e, I2, T, st2, f2, q⟩ := h2
 subst e
 refine ZeL (Q := fun v H' => Zcu i v σ H' D.nx) (RR := fun acc C => compPost (model X.prog X.w) X.A X.xe (some (assign (.Name x pos') X.env)) (fun _ s' => SP X pins D .next s') acc C) hc S T st2 f2 c1 c2 hin I2 q ?_
 intro Da C s' H' fr hn J1 fC q'
 obtain ⟨m', hn⟩ := hn
 obtain ⟨f0, f1, f2, f3, f4, f5⟩ := fC
 obtain ⟨oC, es, ep, hoC, hdC, hkC, hmC⟩ := id hn
 show wpAny _ X.A (assign (.Name x pos') X.env (.ref Da)) _ _ _
 have J2 : Inv X (pins ++ [(C, oC)]) σ H' s' := J1.pins_of fun p hp => by
  (rcases List.mem_append.mp hp with z | z)
  . exact J1.pin p (List.mem_append_right _ z)
  . have z' : p = (C, oC) := by simpa using z
    subst z'
    exact ⟨hoC, f0, f1, f2, fun v e => by rw [hdC] at e; cases e⟩
 refine wpAny_assign_Name (Zew J2 hN hi hx (v := .ref Da) rfl (fun s'' I'' => ?_) hf)
 have hC'' := (I''.pin (C, oC) (List.mem_append_right _ (List.mem_append_right _ (by simp)))).1
 refine ⟨m', ⟨oC, es, ep, hC'', hdC, hkC, hmC⟩, fun h' hs' => ?_⟩
 have I3 : Inv X pins (σ.set i (some (.ref Da))) H' s'' := I''.unpinned
 exact ⟨_, H', I3.turned (t' := s''.toks) (fun b o hb e => hs'.extBut b o hb e) f0 f1 f3 f4 f5, q'⟩
end
mutual
inductive Den (K : Fg) (H : Hp) : V -> PyData -> Prop
 | non : Den K H .non .none
 | bl (b : Bool) : Den K H (.bl b) (.bool b)
 | int (i : Int) : Den K H (.int i) (.int i)
 | str (x : Str) : Den K H (.str x) (.str x)
 | lst {a : Addr} {vs : List V} {ds : List PyData} : SqL K H a vs -> DenL K H vs ds -> Den K H (.ref a) (.list ds)
 | tup {a : Addr} {vs : List V} {ds : List PyData} : SqT K H a vs -> DenL K H vs ds -> Den K H (.ref a) (.tuple ds)
inductive DenL (K : Fg) (H : Hp) : List V -> List PyData -> Prop
 | nil : DenL K H [] []
 | cons {v : V} {d : PyData} {vs : List V} {ds : List PyData} : Den K H v d -> DenL K H vs ds -> DenL K H (v :: vs) (d :: ds)
end
theorem Same.tupq {K : Fg} {H H' : Hp} {a : Addr} {xs : List V} (e : Same H H') (h : SqT K H a xs) : SqT K H' a xs := by
 rcases h with (h | ⟨o, h⟩) | h
 . exact .inl (.inl (e _ _ h))
 . exact .inl (.inr ⟨o, e _ _ h⟩)
 . exact .inr h
mutual
theorem Den.same {K : Fg} {H H' : Hp} (e : Same H H') : ∀ {v : V} {d : PyData}, Den K H v d -> Den K H' v d
 | _, _, .non => .non
 | _, _, .bl b => .bl b
 | _, _, .int i => .int i
 | _, _, .str x => .str x
 | _, _, .lst h r => .lst (e.seq h) (DenL.same e r)
 | _, _, .tup h r => .tup (e.tupq h) (DenL.same e r)
theorem DenL.same {K : Fg} {H H' : Hp} (e : Same H H') : ∀ {vs : List V} {ds : List PyData}, DenL K H vs ds -> DenL K H' vs ds
 | _, _, .nil => .nil
 | _, _, .cons h r => .cons (Den.same e h) (DenL.same e r)
end
section
variable {X : Cx} {pins : Pn} {σ : St} {H : Hp} {s : Shared}
mutual
theorem Den.reads (I : Inv X pins σ H s) : ∀ {v : V} {d : PyData} {u : Value}, Den X.K H v d -> RelV v u -> ∃ as, Reads s.heap u d as
 | _, _, _, .non, r => by cases (show _ = Value.none from r); exact ⟨_, .none⟩
 | _, _, _, .bl b, r => by cases (show _ = Value.bool b from r); exact ⟨_, .bool b⟩
 | _, _, _, .int i, r => by obtain ⟨t, q⟩ := (show ∃ t, _ = Value.int i t from r); cases q; exact ⟨_, .int i t⟩
 | _, _, _, .str x, r => by obtain ⟨t, q⟩ := (show ∃ t, _ = Value.str x t from r); cases q; exact ⟨_, .str x t⟩
 | _, _, _, .lst (a := a) h q, r => by
  cases (show _ = Value.ref a from r)
  obtain ⟨its, rv, p, hz⟩ := I.list h
  obtain ⟨as, ra⟩ := DenL.reads I q rv
  obtain ⟨o, ho, hc, n, hd⟩ := p.isList
  exact ⟨_, .list ho hc hd (by simpa using ra)⟩
 | _, _, _, .tup (a := a) h q, r => by
  cases (show _ = Value.ref a from r)
  obtain ⟨its, rv, p, hz⟩ := I.tuple h
  obtain ⟨as, ra⟩ := DenL.reads I q rv
  obtain ⟨o, ho, hc, n, hd⟩ := (show s.heap.IsTuple a its.toArray from p)
  exact ⟨_, .tuple ho hc hd (by simpa using ra)⟩
theorem DenL.reads (I : Inv X pins σ H s) : ∀ {vs : List V} {ds : List PyData} {us : List Value}, DenL X.K H vs ds -> Vals vs us -> ∃ as, ReadsAll s.heap us ds as
 | _, _, _, .nil, r => by cases r; exact ⟨_, .nil⟩
 | _, _, _, .cons h q, r => by
  cases r with
  | cons r1 r2 =>
   obtain ⟨as, ra⟩ := Den.reads I h r1
   obtain ⟨bs, rb⟩ := DenL.reads I q r2
   exact ⟨_, .cons ra rb⟩
end
end
section
variable {X : Cx}
def rEqD (K : Fg) : R2 := fun x y H Q => ∃ d e, Den K H x d /\ Den K H y e /\ SeqAt.shaped d = true /\ SeqAt.shaped e = true /\ Q (.bl (PyData.eqv d e)) H
def rNeD (K : Fg) : R2 := fun x y H Q => ∃ d e, Den K H x d /\ Den K H y e /\ SeqAt.shaped d = true /\ SeqAt.shaped e = true /\ Q (.bl (!PyData.eqv d e)) H
theorem ZiX (hu : X.A.units + 64 < cLine) : OpR X (compareOp .Eq) (rEqD X.K) := by
 intro pins s σ H x y v u Q I rx ry h
 obtain ⟨d, e, hd, he, s1, s2, q⟩ := h
 obtain ⟨as, ra⟩ := hd.reads I rx
 obtain ⟨bs, rb⟩ := he.reads I ry
 exact eq_dataH ra rb s1 s2 hu ⟨.bl _, H, I, rfl, q⟩
theorem ZiY (hu : X.A.units + 64 < cLine) : OpR X (compareOp .NotEq) (rNeD X.K) := by
 intro pins s σ H x y v u Q I rx ry h
 obtain ⟨d, e, hd, he, s1, s2, q⟩ := h
 obtain ⟨as, ra⟩ := hd.reads I rx
 obtain ⟨bs, rb⟩ := he.reads I ry
 exact ne_dataH ra rb s1 s2 hu ⟨.bl _, H, I, rfl, q⟩
def rSlS : V -> Option Int -> Option Int -> Hp -> VK -> Prop := fun x lo hi H Q => ∃ z, x = .str z /\ z.length <= sizeLine /\ Q (.str (Txt.slice z lo hi)) H
theorem Zny : SlR X rSlS := by
 intro pins s σ H x v vl vu lo hi sl Q I rx hs pl pu h
 obtain ⟨z, rfl, hz, q⟩ := h
 obtain ⟨t, rfl⟩ := rx
 refine ⟨"str", _, F.slot_str_getitem.lookup, typeIs_str _ _ _, ?_⟩
 have fin : ∀ t' k, EP X pins σ Q (.str (Txt.slice z lo hi) t') { s with toks := k } := fun t' k => ⟨.str _, H, I.tok k, ⟨t', rfl⟩, q⟩
 have hle := Nat.le_trans (Txt.slice_le z lo hi) hz
 cases pl with
 | none =>
  cases pu with
  | none => exact wpAny_getItem_str_slice (l := none) (u := none) (st := none) hs rfl (post_val_or_str ⟨hle, fin⟩)
  | int j tj => exact wpAny_getItem_str_slice (l := none) (u := some (j, tj)) (st := none) hs rfl (post_val_or_str ⟨hle, fin⟩)
 | int i ti =>
  cases pu with
  | none => exact wpAny_getItem_str_slice (l := some (i, ti)) (u := none) (st := none) hs rfl (post_val_or_str ⟨hle, fin⟩)
  | int j tj => exact wpAny_getItem_str_slice (l := some (i, ti)) (u := some (j, tj)) (st := none) hs rfl (post_val_or_str ⟨hle, fin⟩)
theorem Zkh (c : V) (cu : Value) (rc : RelV c cu) (huniq : ∀ u, RelV c u -> u = cu) : ZA X (.builtin "isinstance") (fun xs H Q => ∃ x t b, xs = [x, c] /\ TyOf X.K H x t /\ PySem.W.kitOne X.K t cu = some b /\ Q (.bl b) H) := by
 intro pins s σ H xs us Q I r h
 obtain ⟨x, t, b, rfl, ty, e, q⟩ := h
 obtain ⟨u, w', rfl, ru, rw'⟩ := r.two
 obtain rfl := huniq w' rw'
 exact ZiL I ru ty e fun tk => ⟨.bl b, H, I.tok tk, rfl, q⟩
theorem ZeM : ∀ (bs : List Bool) (us : List Value), Vals (bs.map V.bl) us -> us = bs.map Value.bool
 | [], us, r => by cases r; rfl
 | b :: bs, us, r => by
  cases r with
  | cons r1 r2 => rw [ZeM bs _ r2, show _ = Value.bool b from r1]; rfl
theorem Zih (bs : List Bool) : ((List.range bs.length).all fun i => (bs[i]?).getD true) = bs.all id := by
 (rw [Bool.eq_iff_iff, List.all_eq_true, List.all_eq_true])
 constructor
 . intro h b hb
   obtain ⟨i, hi, e⟩ := List.mem_iff_getElem.mp hb
   have q := h i (List.mem_range.mpr hi)
   rw [List.getElem?_eq_getElem hi, Option.getD_some, e] at q
   exact q
 . intro h i hi
   (have hi' := List.mem_range.mp hi)
   rw [List.getElem?_eq_getElem hi', Option.getD_some]
   (exact h _ (List.getElem_mem hi'))
theorem Zh8 {h h' : Heap} {o : Obj} (hk : ∀ b x, b ∉ [h.objs.size] -> (h.push o).get? b = some x -> h'.get? b = some x) : ∀ b x, h.get? b = some x -> h'.get? b = some x :=
 fun c o e => hk c o (fun hm => by rw [List.mem_singleton.mp hm] at e; exact Nat.lt_irrefl _ (Heap.lt_size e)) (Heap.get?_push_of_some _ e)
theorem Zki (hc : X.calm = true) : ZA X (.builtin "all") (fun xs H Q => ∃ (l : Addr) (bs : List Bool), xs = [.ref l] /\ SqL X.K H l (bs.map V.bl) /\ Q (.bl (bs.all id)) H) := by
 intro pins s σ H xs us Q I r h
 obtain ⟨l, bs, rfl, hl, q⟩ := h
 obtain ⟨u, rfl, ru⟩ := r.one
 cases (show u = Value.ref l from ru)
 obtain ⟨its, rv, p, hz⟩ := I.list hl
 have ei := ZeM bs its rv
 have hlt : l < s.heap.objs.size := by obtain ⟨_, e, _⟩ := p.isList; exact Heap.lt_size e
 refine call_all_walk (wpAny_pyIter_list p.isList ?_)
 refine ⟨s.heap.objs.size, [s.heap.objs.size, l], [s.heap.objs.size], its.toArray.size, _, _, fun i => (bs[i]?).getD true, rfl, Walks.list (A := X.A.in1) (I.ok.hd hc) _ l (Nat.ne_of_lt hlt) its.toArray,
  ⟨⟨_, Heap.get?_push_size _ rfl, rfl, rfl⟩, p.isList.push _⟩, fun i v s' Q' E' hP hQ => ?_, fun h' tk hk => ?_⟩
 . have hP' : its[i]? = some v := by simpa using hP
   rw [ei, List.getElem?_map] at hP'
   cases e : bs[i]? with
   | none => rw [e] at hP'; cases hP'
   | some b =>
    rw [e] at hP'
    cases hP'
    (simp only [e, Option.getD_some] at hQ)
    exact wpAny_truthy_bool hQ
 . have e : ((List.range its.toArray.size).all fun i => (bs[i]?).getD true) = bs.all id := by
    rw [List.size_toArray, <- rv.length, List.length_map]
    exact Zih bs
   rw [e]
   exact ⟨.bl _, H, I.kept (t' := tk) (Zh8 hk), rfl, q⟩
end
noncomputable def Its (x : Str) : It := ⟨fun i _ => i < x.cps.size, fun i H v H' => H' = H /\ ∃ c, x.cps[i]? = some c /\ v = .str ⟨#[c]⟩, fun i _ => x.cps.size <= i⟩
theorem Zkj {P : Program} {w : World} {K : Fg} {tg : Expr} (it : Addr) (x : Str) (t : Tok) {ty : String} (hty : ty = "str_ascii_iterator" \/ ty = "str_iterator") : Turn P w K tg (Its x) [it] it (fun i h => i <= x.cps.size /\ h.IsStrIter it ty x t i) where
 mem := by simp
 obj := fun i h st b hb => by
  have e : b = it := by simpa using hb
  subst e
  obtain ⟨_, o, e, c, d⟩ := st
  exact ⟨o, e, fun v z => by rw [d] at z; cases z⟩
 keep := fun i h h' st k => ⟨st.1, let ⟨o, ho, r⟩ := st.2; ⟨o, k it (by simp) o ho, r⟩⟩
 item := by
  intro X hP hw hK hc i pins s σ H E I hf st hg
  subst hP hw hK
  obtain ⟨f0, f1, f2, f3, f4, f5⟩ := hf it (by simp)
  have go : ∀ {W : Walks X.prog X.w X.A it [it] [it] x.cps.size (SignAt x) (fun i h => h.IsStrIter it ty x t i)}, wpAny (model X.prog X.w) X.A (pyNext (.ref it)) (fun r s1 => ∃ u, r = some u /\
   wpAny (model X.prog X.w) X.A (letOwnedTupleGo tg (.ref it) u) (fun _ s2 => ∃ v H', Inv X pins σ H' s2 /\ RelV v u /\ (Its x).yld i H v H' /\ (i + 1 <= x.cps.size /\ s2.heap.IsStrIter it ty x t (i + 1)) /\ ∀ b ∈ [it], H' b = none) E s1) E s := fun {W} => by
   refine W.item i s _ _ hg st.2 fun v h' tk hv st' kk => ?_
   obtain ⟨c, u, ec, rfl⟩ := hv
   have I1 : Inv X pins σ H { s with heap := h', toks := tk } := I.turned (fun b o hb e => kk b o (by simpa using hb) e) f0 f1 f3 f4 f5
   obtain ⟨o, e, cc, d⟩ := id st'
   refine ⟨_, rfl, ZeE (s := { s with heap := h', toks := tk }) e cc d ?_ ⟨.str ⟨#[c]⟩, H, I1, ⟨u, rfl⟩, ⟨rfl, c, ec, rfl⟩, ⟨hg, st'⟩, fun b hb => (hf b hb).1⟩⟩
   rcases hty with rfl | rfl <;> decide
  rcases hty with rfl | rfl
  . exact go (W := Walks.strAscii (I.ok.hd hc) it x t)
  . exact go (W := Walks.strWide (I.ok.hd hc) it x t)
 done := by
  intro X hP hw hK hc i pins s σ H E I hf st hg
  subst hP hw hK
  obtain ⟨f0, f1, f2, f3, f4, f5⟩ := hf it (by simp)
  obtain rfl : i = x.cps.size := Nat.le_antisymm st.1 hg
  rcases hty with rfl | rfl
  . exact (Walks.strAscii (prog := X.prog) (w := X.w) (I.ok.hd hc) it x t).done s _ _ st.2 fun h' tk kk => ⟨rfl, I.turned (fun b o hb e => kk b o (by simpa using hb) e) f0 f1 f3 f4 f5⟩
  . exact (Walks.strWide (prog := X.prog) (w := X.w) (I.ok.hd hc) it x t).done s _ _ st.2 fun h' tk kk => ⟨rfl, I.turned (fun b o hb e => kk b o (by simpa using hb) e) f0 f1 f3 f4 f5⟩
 self := fun A i s Q E st h => by
  rcases hty with rfl | rfl
  . exact wpAny_pyIter_striter_ascii st.2 h
  . exact wpAny_pyIter_striter_wide st.2 h
section
variable {X : Cx} {tg : Expr}
noncomputable def iStr (tl : TE) : TI := fun σ H R => tl σ H fun v H1 => ∃ x, v = .str x /\ R (Its x) H1
theorem Znz {l : Expr} {tl : TE} (hl : PE X l tl) : PI X tg l (iStr tl) := by
 intro pins s σ H R I h
 refine thn (hl pins s σ H _ I h) fun v s1 z0 => ?_
 obtain ⟨y, H1, I1, r1, q1⟩ := z0
 obtain ⟨x, e, q⟩ := q1
 subst e
 obtain ⟨t, rfl⟩ := r1
 have fin : ∀ (o : Obj) (ty : String), (ty = "str_ascii_iterator" \/ ty = "str_iterator") -> (s1.heap.push o).IsStrIter s1.heap.objs.size ty x t 0 -> PIE X pins σ tg R (.ref s1.heap.objs.size) { s1 with heap := s1.heap.push o } := fun o ty hty hit => by
  refine ⟨s1.heap.objs.size, [s1.heap.objs.size], _, _, H1, rfl, I1.kept (t' := s1.toks) fun b o e => Heap.get?_push_of_some _ e, Zkj _ x t hty, ⟨Nat.zero_le _, hit⟩, fun b hb => ?_, q⟩
  have e : b = s1.heap.objs.size := by simpa using hb
  subst e
  exact I1.fpOk (Nat.le_refl _) (I1.hok.fresh (Nat.le_refl _))
 (cases ha : x.cps.all (· < 128))
 . exact wpAny_pyIter_wide ha (fin _ _ (.inr rfl) ⟨_, Heap.get?_push_size _ rfl, rfl, rfl⟩)
 . exact wpAny_pyIter_ascii ha (fin _ _ (.inl rfl) ⟨_, Heap.get?_push_size _ rfl, rfl, rfl⟩)
end
structure FnAt (P : Program) (w : World) (K : Fg) (mg : SO) (base : Heap) (x : Str) (k : Nat) (ps : List Str) (sp : Sp) : Prop where
 ex : ∃ (f : Addr) (fd : FuncData), FnOk P w K mg base CX0 k f fd ps sp /\ mg x = some (.ref f) /\ PySem.W.keepIn K (.ref f) = true /\ Binds K fd ps []
structure MeAt (P : Program) (w : World) (K : Fg) (mg : SO) (base : Heap) (C : Addr) (m : Str) (k : Nat) (ps : List Str) (sp : Sp) : Prop where
 ex : ∃ (f : Addr) (fd : FuncData), FnOk P w K mg base CX0 k f fd ps sp /\ Meth K C m f /\ Binds K fd ps []
 cl : Cls K C
structure MkAt (P : Program) (w : World) (K : Fg) (mg : SO) (base : Heap) (x : Str) (C : Addr) (k : Nat) (ps : List Str) (sp : Sp) : Prop where
 ex : ∃ (f : Addr) (fd : FuncData), FnOk P w K mg base CX0 k f fd ps sp /\ Mk K C f /\ mg x = some (.ref C) /\ Binds K fd ps []
section
variable {X : Cx} {x m : Str} {j n : Nat} {ps : List Str} {sp : Sp} {C : Addr} {e o : Expr} {es : List Expr} {ta : TE} {t : TA} {p pos apos : Pos}
theorem Zpv (G : FnAt X.prog X.w X.K X.mg X.base x j ps sp) (hr : Room n X.A) (ha : PA X (e :: es) t) (hj : j <= n := by decide) (hg : Gl X x := by rfl) (hdb : (x == ("__debug__" : Str)) = false := by decide)
 (he : SE X e es := by rfl) (hpl : SF X pos es := by rfl) : PE X (.Call (.Name x p) (e :: es) [] pos) (Zlc sp [] E0 t) := by
 obtain ⟨f, fd, F, hm, hk, hb⟩ := G.ex
 exact Zlz F (hr.mono hj) hg hm hk hb .nil Zgk ha hdb he hpl
theorem Zpw {pl : Sem Bool} (G : MeAt X.prog X.w X.K X.mg X.base C m j ps sp) (hr : Room n X.A) (ho : PE X o ta) (ha : PA X (e :: es) t) (hj : j <= n := by decide)
 (hst : SE X e es := by rfl) (hpl : SF X pos es := by rfl)
 (ht : eval (.Call (.Attribute o m apos) (e :: es) [] pos) X.env = (do
  let ov <- eval o X.env
  standAt apos.atName
  let (f, first) <- holding [ov] (getMethod ov m pl)
  callWith pos f first (backTo pos (starEach (e :: es) X.env)) (backToKw pos (keywordEach [] X.env))) := by rfl) : PE X (.Call (.Attribute o m apos) (e :: es) [] pos) (Zgi C m sp [] E0 ta t) := by
 obtain ⟨f, fd, F, hm, hb⟩ := G.ex
 exact Zl0 ho G.cl hm F (hr.mono hj) hb .nil Zgk ha hst hpl ht
theorem Zn0 {pl : Sem Bool} (G : MeAt X.prog X.w X.K X.mg X.base C m j ps sp) (hr : Room n X.A) (ho : PE X o ta) (hj : j <= n := by decide)
 (ht : eval (.Call (.Attribute o m apos) [] [] pos) X.env = (do
  let ov <- eval o X.env
  standAt apos.atName
  let (f, first) <- holding [ov] (getMethod ov m pl)
  callWith pos f first (backTo pos (starEach [] X.env)) (backToKw pos (keywordEach [] X.env))) := by rfl) : PE X (.Call (.Attribute o m apos) [] [] pos) (Zgi C m sp [] E0 ta tNil) := by
 obtain ⟨f, fd, F, hm, hb⟩ := G.ex
 exact ZjX ho G.cl hm F (hr.mono hj) hb .nil Zgk ht
theorem Zpx (G : MkAt X.prog X.w X.K X.mg X.base x C j ps sp) (hr : Room n X.A) (ha : PA X (e :: es) t) (hj : j + 1 <= n := by decide) (hg : Gl X x := by rfl) (hdb : (x == ("__debug__" : Str)) = false := by decide)
 (he : SE X e es := by rfl) (hpl : SF X pos es := by rfl) : PE X (.Call (.Name x p) (e :: es) [] pos) (Zld C sp [] E0 t) := by
 obtain ⟨f, fd, F, M, hm, hb⟩ := G.ex
 exact Zl1 M F (hr.mono hj) hg hm hb .nil Zgk ha hdb he hpl
end
theorem Zem (j : Nat) (js : List Nat) (σ : St) : Zbp (j :: js) σ = (σ[j]?).join :: Zbp js σ := rfl
theorem Zg7 : bootBuiltins "isinstance" = some (.builtin "isinstance") := by decide +kernel
theorem Zpy : bootBuiltins "int" = some (.type "int") := by decide +kernel
theorem Zn1 : bootBuiltins "bool" = some (.type "bool") := by decide +kernel
theorem Zn2 : bootBuiltins "list" = some (.type "list") := by decide +kernel
noncomputable def Zw (sc : Scope) (N : List Str) (i : Nat) (x : Str) (b : Bool) : Bool := N[i]? == some x && sc.names.lookup x == some (if b then .cell else .local) && !(x == ("__debug__" : Str)) && !(x == ("__classdict__" : Str))
noncomputable def Zg8 (sc : Scope) (N : List Str) (i : Nat) (x : Str) : Bool := N[i]? == some x && (sc.names.lookup x == some .cell || sc.names.lookup x == some .free) && !(x == ("__debug__" : Str)) && !(x == ("__classdict__" : Str))
noncomputable def glOk (sc : Scope) (x : Str) : Bool := sc.names.lookup x == some .globalImplicit && !(x == ("__debug__" : Str)) && !(x == ("__name__" : Str))
section
variable {X : Cx} {sc : Scope} {N : List Str} {i : Nat} {x : Str} {b : Bool} {pos : Pos}
theorem Zw.at (h : Zw sc N i x b = true) : N[i]? = some x /\ sc.names.lookup x = some (if b then .cell else .local) /\ (x == ("__debug__" : Str)) = false /\ (x == ("__classdict__" : Str)) = false := by
 unfold Zw at h
 (simp only [Bool.and_eq_true, Bool.not_eq_true'] at h)
 exact ⟨eq_of_beq h.1.1.1, eq_of_beq h.1.1.2, h.1.2, h.2⟩
theorem Zw.loc (h : Zw sc N i x b = true) : Loc sc x := by
 have q := (Zw.at h).2.1
 cases b
 . exact .inl q
 . exact .inr q
theorem pvs (h : Zw sc N i x b = true) (e1 : X.env.scope = sc := by rfl) (e2 : X.N = N := by rfl) : PE X (.Name x pos) (tVar i) := by
 obtain ⟨h1, h2, h3, h4⟩ := Zw.at h
 have l := Zw.loc h
 subst e1 e2
 refine Zi8 h1 ?_ h3 h4
 rcases l with l | l
 . exact .inl l
 . exact .inr (.inl l)
theorem pvf (h : Zg8 sc N i x = true) (e1 : X.env.scope = sc := by rfl) (e2 : X.N = N := by rfl) : PE X (.Name x pos) (tVar i) := by
 unfold Zg8 at h
 simp only [Bool.and_eq_true, Bool.not_eq_true', Bool.or_eq_true] at h
 subst e1 e2
 refine Zi8 (eq_of_beq h.1.1.1) ?_ h.1.2 h.2
 rcases h.1.1.2 with l | l
 . exact .inr (.inl (eq_of_beq l))
 . exact .inr (.inr (eq_of_beq l))
theorem glk (h : glOk sc x = true) (e1 : X.env.scope = sc := by rfl) : Gl X x := by
 unfold glOk at h
 (simp only [Bool.and_eq_true] at h)
 subst e1
 exact eq_of_beq h.1.1
theorem dbk (h : glOk sc x = true) : (x == ("__debug__" : Str)) = false := by
 unfold glOk at h
 (simp only [Bool.and_eq_true, Bool.not_eq_true'] at h)
 exact h.1.2
theorem nmk (h : glOk sc x = true) : x ≠ "__name__" := by
 unfold glOk at h
 (simp only [Bool.and_eq_true, Bool.not_eq_true'] at h)
 intro e
 have := h.2
 rw [e, beq_self_eq_true] at this
 cases this
theorem Zkk (h : Zw sc N i x b = true) (nd : N.Nodup) (e1 : X.env.scope = sc := by rfl) (e2 : X.N = N := by rfl) (hf : X.fn x = true \/ b = false := by first | exact .inl rfl | exact .inr rfl) : PG X (.Name x pos) (Zcu i) := by
 obtain ⟨h1, h2, h3, h4⟩ := Zw.at h
 have l := Zw.loc h
 subst e1 e2
 refine Zhy nd h1 l ?_
 rcases hf with q | q
 . exact .inl q
 . subst q
   exact .inr h2
noncomputable def Zdu (osc scope : Scope) (x : Str) : Bool := osc.kind == .function && osc.names.lookup x == some .local && !(scope.names.any fun (n, k) => n == x && (k == .local || k == .cell))
theorem Zii {elt : Expr} {gens : List Comprehension} {scope osc : Scope} {pos' : Pos} {line : Nat} {env : Env} (h : Zdu osc scope x = true) (hl : (pos'.line == pos.line) = true) (e : env.scope = osc) :
 swapsWith (.ListComp elt gens scope pos) (some (.Name x pos')) line env = pure true := by
 subst e
 unfold Zdu at h
 (simp only [Bool.and_eq_true, Bool.not_eq_true'] at h)
 obtain ⟨⟨h1, h2⟩, h3⟩ := h
 show (pure (env.blockKind == .function && env.kindOf x == some .local && pos'.line == pos.line && !(scope.names.any fun (n, k) => n == x && (k == .local || k == .cell))) : Sem Bool) = pure true
 have hb : (env.blockKind == ScopeKind.function) = true := by
  unfold Env.blockKind
  rw [eq_of_beq h1]
  rfl
 have hk : (env.kindOf x == some NameKind.local) = true := h2
 rw [hb, hk, hl, h3]
 rfl
theorem Zkl {elt tg iter : Expr} {ifs : List Expr} {scope : Scope} {spos pos' : Pos} {k : Nat} {js : List Nat} {N' : List Str} {wi : TI} {g : TG} {tif : TT} {te : TE}
 (h : Zw sc N i x false = true) (nd : N.Nodup) (hw : Zdu sc scope x = true)
 (hc : X.calm = true) (S : CompScope X k js N' scope) (hit : PI X tg iter wi)
 (hin : ∀ (cl : List (Str × Addr)) (C : Addr) (s₀ : Shared) (H₀ : Hp) (ex : List Addr), PG (cxC X N' scope cl C s₀ H₀ ex) tg g /\ PIf (cxC X N' scope cl C s₀ H₀ ex) ifs tif /\ PE (cxC X N' scope cl C s₀ H₀ ex) elt te)
 (hl : (pos'.line == pos.line) = true := by rfl) (e1 : X.env.scope = sc := by rfl) (e2 : X.N = N := by rfl)
 (hs : ∀ x, foldedSetIterable iter X.env x = pure x := by intro _; rfl) : PS X (.Assign [.Name x pos'] (.ListComp elt [⟨tg, iter, ifs, 0⟩] scope pos) spos) (tAsg (Zgl k js wi g tif te) (Zcu i)) := by
 obtain ⟨h1, h2, h3, h4⟩ := Zw.at h
 have l := Zw.loc h
 have w := fun (e : X.env.scope = sc) => Zii (elt := elt) (gens := [⟨tg, iter, ifs, 0⟩]) (pos := pos) (line := spos.line) hw hl e
 have w1 := w e1
 subst e1 e2
 exact ZlC nd h1 l hc S hit hin w1 (.inr h2) hs
end
end L2
namespace L2
open PySem
section
variable {A : Around} {M : Model} {s : Shared} {E : VS}
theorem Zij {q : Pos} {T : String} {xs : List (Bool × Sem Value)} {ks : List (Option Str × Sem Value)} {Q : VS} (h1 : xs.any (·.1) = false) (h2 : ks.any (·.1.isNone) = false)
 (h : wpAny M A (evalArgs (.type T) true xs ks) (fun a s1 => wpAny M A (call (.type T) a.pos a.kw) Q E s1) E s) : wpAny M A (callWith q (.type T) [] xs ks) Q E s := by
 unfold callWith
 refine wpAny_bind (wpAny_holding (wpAny_mono h (fun a s1 z => wpAny_bind (wpAny_standAt ?_)) fun _ _ y => y))
 simp only [h1, h2, Bool.or_false]
 exact wpAny_bind (wpAny_pure (wpAny_bind (wpAny_mono z (fun r s2 y => wpAny_bind (wpAny_holding (wpAny_point (wpAny_pure y)))) fun _ _ y => y)))
end
section
variable {prog : Program} {w : World} {A : Around} {E : VS} {s : Shared}
theorem ZlD {T newId : String} {o : Value} {xs : List Value} {kw : List (Str × Value)} (hl : typeLookup (.type T) "__init__" = pure (some (.builtin "object.__init__"))) (hm : Bind.madeBy (.type T) = pure (some newId)) (hne : (some newId != some "object.__new__") = true) (hx : xs ≠ []) :
 Meets (Builtin.«object.__init__» ⟨o :: xs, kw⟩) (fun _ R s => s.TypeIs o T /\ R (.ok (.ret .none)) s) := by
 refine Meets.of_wp fun prog w A R s ⟨hT, hq⟩ => ?_
 cases xs with
 | nil => exact absurd rfl hx
 | cons a xs =>
  (repeat (any_goals (first | assumption | wp_step)))
  exact ⟨.none, rfl, hq⟩
theorem ZlE {T newId : String} {Bn : Builtin} {xs : List Value} {kw : List (Str × Value)} {S : Spec} {Q : VS} (ft : TypeCalled T newId "object.__init__") (hne : (some newId != some "object.__new__") = true)
 (c1 : checkTypeCall T ⟨xs, kw⟩ = pure ()) (c2 : checkBuiltinCall newId ⟨.type T :: xs, kw⟩ = pure ()) (c3 : ∀ o, argsOk "object.__init__" ⟨o :: xs, kw⟩) (hx : xs ≠ []) (en : entryFor table newId = some Bn) (g : Meets (Bn ⟨.type T :: xs, kw⟩) S)
 (h : S A.in1 (wants (fun o s1 => s1.TypeIs o T /\ Q o s1) E) s) : wpAny (model prog w) A (call (.type T) xs kw) Q E s := by
 obtain ⟨c, tl, hm⟩ := ft.mro
 have hmd := ft.made
 have hsb := ft.sub
 refine wpAny_call (codeAny_of_tree (show wpAny _ _ (callAny (.type T) _) _ _ _ from ?_))
 refine wpAny_pure (And.intro (Code.quiet_builtin _ (by decide +kernel)) (codeAny_builtin F.entry_type_call ?_))
 rw [Around.under_plain (weight_type_call_type T xs kw) (units_type_call_type T xs kw)]
 have n1 := ft.notType
 have n2 := ft.canCreate
 (repeat (any_goals (first | assumption | wp_step)))
 refine codeAny_mono (codeAny_call_builtin ft.plain en (wpAny_of_eq c2 (g prog w A.in1 _ s h))) fun r s1 hr => ?_
 cases r with
 | error e => exact hr
 | ok fl =>
  cases fl with
  | ret o =>
   obtain ⟨hT, hQ⟩ := hr
   have b1 := ft.init.lookup
   have b2 := ft.init.bind o
   (repeat (any_goals (first | assumption | wp_step)))
   refine codeAny_mono (codeAny_call_builtin ft.init.plain F.entry_object_init (ft.init.check _ _ _ _ _ _ _ _ hT (c3 o) (ZlD b1 hmd hne hx prog w A.in1 (wants (fun r s2 => r = .none /\ Q o s2) E) s1 ⟨hT, rfl, hQ⟩))) fun r2 s2 hr2 => ?_
   cases r2 with
   | error e => exact hr2
   | ok fl2 =>
    cases fl2 with
    | ret r =>
     obtain ⟨rfl, hq⟩ := hr2
     (repeat (any_goals (first | assumption | wp_step)))
    | _ => exact hr2.elim
  | _ => exact hr.elim
theorem Zn3 {α β : Type} {M : Model} {A : Around} {E : VS} {s : Shared} {Q : β -> Shared -> Prop} {f : α -> Sem β} {x : α} (h : ∀ a, wpAny M A (f a) Q E s) : wpAny M A (f x) Q E s := h x
theorem ZiZ (a : Value) (c : Int) (t : Tok) : checkTypeCall "enumerate" ⟨[a], [("start", .int c t)]⟩ = pure () := by kernel_rfl
theorem Zja (a : Value) (c : Int) (t : Tok) : checkBuiltinCall "enumerate.__new__" ⟨[.type "enumerate", a], [("start", .int c t)]⟩ = pure () := by kernel_rfl
theorem Zjb (o a : Value) (c : Int) (t : Tok) : argsOk "object.__init__" ⟨[o, a], [("start", .int c t)]⟩ := by
 unfold argsOk; rw [signature?_of (id := "object.__init__") (n := ['_', '_', 't', 'i', 'n', 'i', '_', '_']) (o := ['t', 'c', 'e', 'j', 'b', 'o']) (by kernel_rfl) F.owner_object]; kernel_rfl
theorem Zn4 (l : Addr) (its : Array Value) (c : Int) (t : Tok) (hc : Builtin.SmallTypes.fitsIndex c = true) :
 Meets (Builtin.«enumerate.__new__» ⟨[.type "enumerate", .ref l], [("start", .int c t)]⟩) (fun _ R s => s.heap.IsList l its /\ R (.ok (.ret (.ref (s.heap.push { cls := .type "list_iterator", data := .fields #[.ref l, .int 0 0] }).objs.size)))
  { s with heap := (s.heap.push { cls := .type "list_iterator", data := .fields #[.ref l, .int 0 0] }).push { cls := .type "enumerate", data := .fields #[.none, .bool false, .ref s.heap.objs.size, rawInt c, .none, .none] } }) :=
 .of_wp fun prog w A R s h => by
  obtain ⟨hp, gs, dr, tk, os⟩ := s
  obtain ⟨hL, h⟩ := h
  obtain ⟨⟨cl, dct, dt, sl⟩, hl, e1, n, e2⟩ := id hL
  replace e1 : cl = .type "list" := e1
  replace e2 : dt = .seq its n := e2
  subst e1 e2
  have hsub := sub_enumerate
  wp_walk using AutoSeq1.wpAny_loadPart' hl
  (refine wpAny_stack_any fun st => wpAny_pure ?_)
  refine Zn3 fun short => ?_
  have hf : (!Builtin.SmallTypes.fitsIndex c) = false := by rw [hc]; rfl
  cases short
  . refine wpAny_bind (wpAny_of_eq (a := (Value.ref l, some (Value.int c t))) (by kernel_rfl) ?_)
    wp_walk using wpAny_pyIter_list hL
    exact ⟨_, rfl, h⟩
  . refine wpAny_bind (wpAny_of_eq (a := (Value.ref l, some (Value.int c t))) (by kernel_rfl) ?_)
    wp_walk using wpAny_pyIter_list hL
    exact ⟨_, rfl, h⟩
theorem ZlF {e it l : Addr} {i : Nat} {c : Int} {its : Array Value} {x old : Value} {Q : Option Value -> Shared -> Prop} (he : IsEnum s.heap e it c old) (hi : s.heap.IsListIter it l i) (hl : s.heap.IsList l its) (hx : its[i]? = some x) (ne : e ≠ it)
 (hQ : ∀ h', IsEnumOut h' e it (c + 1) x s.heap.objs.size -> h'.IsListIter it l (i + 1) -> h'.get? s.heap.objs.size = some { cls := .type "tuple", data := .seq #[.int c s.toks, x] } ->
  (∀ b o, b ≠ e -> b ≠ it -> s.heap.get? b = some o -> h'.get? b = some o) -> Q (some (.ref s.heap.objs.size)) { s with heap := h', toks := s.toks + 1 }) : wpAny (model prog w) A (pyNext (.ref e)) Q E s := by
 (have hT : s.TypeIs (.ref e) "enumerate" := ⟨_, he, rfl⟩)
 unfold pyNext
 refine wpAny_bind (wpAny_attempt (wpAny_callSpecial?_slot (name := Str.ofString "__next__") hT F.slot_enumerate_next (wpAny_call_entry F.slot_enumerate_next hT F.entry_enumerate_next ?_ (F.args_enumerate_next_1 _))))
 obtain ⟨hp, gs, dr, tk, os⟩ := s
 (have hel : e < hp.objs.size := Heap.lt_size he)
 show wpAny (model prog w) A.in1 (field (.ref e) 2 >>= _) _ _ _
 refine wpAny_bind (wpAny_field he rfl (x := .ref it) rfl (wpAny_bind (wpAny_nextOf_list_item hi hl hx fun g1 i1 k1 => ?_)))
 replace k1 : Heap.SameBut it hp g1 := k1
 have e1 : IsEnum g1 e it c old := (k1.2 e ne).trans he
 show wpAny (model prog w) A.in1 (field (.ref e) 3 >>= _) _ _ ⟨g1, gs, dr, tk, os⟩
 refine wpAny_bind (wpAny_field e1 rfl (x := rawInt c) rfl ?_)
 show wpAny (model prog w) A.in1 (field (.ref e) 4 >>= _) _ _ ⟨g1, gs, dr, tk, os⟩
 refine wpAny_bind (wpAny_field e1 rfl (x := .none) rfl ?_)
 show wpAny (model prog w) A.in1 (mkInt c >>= _) _ _ ⟨g1, gs, dr, tk, os⟩
 (refine wpAny_bind (wpAny_mkInt ?_))
 show wpAny (model prog w) A.in1 (setField (.ref e) 3 (rawInt (c + 1)) >>= _) _ _ ⟨g1, gs, dr, tk + 1, os⟩
 refine wpAny_bind (wpAny_setField_rec e1 (by simp) fun g2 e2 k2 => ?_)
 replace k2 : Heap.SameBut e g1 g2 := k2
 replace e2 : IsEnum g2 e it (c + 1) old := e2
 show wpAny (model prog w) A.in1 (setField (.ref e) 4 .none >>= _) _ _ ⟨g2, gs, dr, tk + 1, os⟩
 refine wpAny_bind (wpAny_setField_rec e2 (by simp) fun g3 e3 k3 => ?_)
 replace k3 : Heap.SameBut e g2 g3 := k3
 replace e3 : IsEnum g3 e it (c + 1) old := e3
 have z3 : g3.objs.size = hp.objs.size := by rw [k3.1, k2.1, k1.1]
 show wpAny (model prog w) A.in1 (newTuple [.int c tk, x] >>= _) _ _ ⟨g3, gs, dr, tk + 1, os⟩
 (refine wpAny_bind (wpAny_newTuple ?_))
 have e4 : IsEnum (g3.push { cls := .type "tuple", data := .seq #[.int c tk, x] }) e it (c + 1) old := Heap.get?_push_of_some _ e3
 have t4 : (g3.push { cls := .type "tuple", data := .seq #[.int c tk, x] }).get? hp.objs.size = some { cls := .type "tuple", data := .seq #[.int c tk, x] } := by rw [<- z3]; exact Heap.get?_push_size _ rfl
 have i4 : (g3.push { cls := .type "tuple", data := .seq #[.int c tk, x] }).IsListIter it l (i + 1) := by
  obtain ⟨o, ho, r⟩ := (i1.extBut k2.extBut (Ne.symm ne)).extBut k3.extBut (Ne.symm ne)
  exact ⟨o, Heap.get?_push_of_some _ ho, r⟩
 have b4 : ∀ b o, b ≠ e -> b ≠ it -> hp.get? b = some o -> (g3.push { cls := .type "tuple", data := .seq #[.int c tk, x] }).get? b = some o := fun b o n1 n2 y => Heap.get?_push_of_some _ (k3.extBut b o n1 (k2.extBut b o n1 (k1.extBut b o n2 y)))
 generalize g3.push { cls := .type "tuple", data := .seq #[.int c tk, x] } = g4 at e4 t4 i4 b4 ⊢
 rw [z3]
 show wpAny (model prog w) A.in1 (Builtin.SmallTypes.ownedTupleIsFree (.ref e) >>= _) _ _ ⟨g4, gs, dr, tk + 1, os⟩
 clear e3 k3 e2 k2 e1 k1 i1 z3 g3 g2 g1
 refine wpAny_bind ?_
 (unfold Builtin.SmallTypes.ownedTupleIsFree)
 refine wpAny_bind (wpAny_field e4 rfl (x := .none) rfl (wpAny_pure ?_))
 simp only [if_true]
 refine wpAny_bind (wpAny_rule (wpAny_bind (wpAny_field e4 rfl (x := old) rfl (wpAny_bind (wpAny_setField_rec e4 (by simp) fun g5 e5 k5 => ?_)))))
 replace k5 : Heap.SameBut e g4 g5 := k5
 replace e5 : IsEnum g5 e it (c + 1) x := e5
 show wpAny (model prog w) A.in1 (Builtin.SmallTypes.ownedTupleHandOut (.ref e) (.ref hp.objs.size) >>= _) _ _ ⟨g5, gs, dr, tk + 1, os⟩
 refine wpAny_bind ?_
 (unfold Builtin.SmallTypes.ownedTupleHandOut)
 refine wpAny_bind (wpAny_setField_rec e5 (by simp) fun g6 e6 k6 => ?_)
 replace k6 : Heap.SameBut e g5 g6 := k6
 replace e6 : IsEnumOut g6 e it (c + 1) x hp.objs.size := e6
 refine wpAny_setField_rec e6 (by simp) fun g7 e7 k7 => ?_
 replace k7 : Heap.SameBut e g6 g7 := k7
 replace e7 : IsEnumOut g7 e it (c + 1) x hp.objs.size := e7
 have up : ∀ b o, b ≠ e -> g4.get? b = some o -> g7.get? b = some o := fun b o n y => k7.extBut b o n (k6.extBut b o n (k5.extBut b o n y))
 refine wpAny_bind (wpAny_letGo (wpAny_pure ⟨_, rfl, wpAny_pure (hQ g7 e7 ?_ (up _ _ (Nat.ne_of_gt hel) t4) fun b o n1 n2 y => up b o n1 (b4 b o n1 n2 y))⟩))
 exact ((i4.extBut k5.extBut (Ne.symm ne)).extBut k6.extBut (Ne.symm ne)).extBut k7.extBut (Ne.symm ne)
theorem Zn5 {e it l : Addr} {i : Nat} {c : Int} {its : Array Value} {old : Value} {Q : Option Value -> Shared -> Prop} (hh : A.handled = none) (he : IsEnum s.heap e it c old) (hi : s.heap.IsListIter it l i) (hl : s.heap.IsList l its) (hx : its[i]? = none)
 (hQ : ∀ g, Heap.ExtBut it s.heap g -> Q none { s with heap := g }) : wpAny (model prog w) A (pyNext (.ref e)) Q E s := by
 (have hT : s.TypeIs (.ref e) "enumerate" := ⟨_, he, rfl⟩)
 unfold pyNext
 refine wpAny_bind (wpAny_attempt (wpAny_callSpecial?_slot (name := Str.ofString "__next__") hT F.slot_enumerate_next (wpAny_call_entry F.slot_enumerate_next hT F.entry_enumerate_next ?_ (F.args_enumerate_next_1 _))))
 show wpAny (model prog w) A.in1 (field (.ref e) 2 >>= _) _ _ _
 refine wpAny_bind (wpAny_field he rfl (x := .ref it) rfl (wpAny_bind (wpAny_nextOf_list_end hh hi hl hx fun h' y b1 z0 => ?_)))
 obtain ⟨o, b2, b3⟩ := z0
 exact wpAny_bind (wpAny_isInstance (T := "StopIteration") (b := true) ⟨o, b2, b3⟩ isSubtype_stop (wpAny_pure (hQ _ b1)))
theorem ZlG {l : Addr} {its : Array Value} {c : Int} {t : Tok} {Q : VS} (hL : s.heap.IsList l its) (hc : Builtin.SmallTypes.fitsIndex c = true)
 (h : ∀ h', IsEnum h' (s.heap.objs.size + 1) s.heap.objs.size c .none -> h'.IsListIter s.heap.objs.size l 0 -> (∀ b o, s.heap.get? b = some o -> h'.get? b = some o) -> Q (.ref (s.heap.objs.size + 1)) { s with heap := h' }) :
 wpAny (model prog w) A (call (.type "enumerate") [.ref l] [("start", .int c t)]) Q E s := by
 refine ZlE F.called_enumerate (by decide) (ZiZ _ _ _) (Zja _ _ _) (fun o => Zjb o _ _ _) (by simp) F.entry_enumerate_new (Zn4 l its c t hc) ⟨hL, ?_⟩
 have hz := Heap.size_push s.heap { cls := .type "list_iterator", data := .fields #[.ref l, .int 0 0] }
 show _ /\ Q (.ref _) _
 rw [hz]
 have y := Heap.get?_push_size (s.heap.push { cls := .type "list_iterator", data := .fields #[.ref l, .int 0 0] }) (o := { cls := .type "enumerate", data := .fields #[.none, .bool false, .ref s.heap.objs.size, rawInt c, .none, .none] }) rfl
 rw [hz] at y
 exact ⟨⟨_, y, rfl⟩, h _ y ⟨_, Heap.get?_push_of_some _ (Heap.get?_push_size _ rfl), rfl, rfl⟩ fun b o x => Heap.get?_push_of_some _ (Heap.get?_push_of_some _ x)⟩
end
open PySem.Spec
section
variable {X : Cx} {pins : Pn} {σ : St} {H : Hp} {s : Shared} {h' : Heap}
theorem Inv.turnedL {t' : Nat} {fp : List Addr} (I : Inv X pins σ H s) (k : ∀ b o, b ∉ fp -> s.heap.get? b = some o -> h'.get? b = some o) (hf : ∀ b ∈ fp, FpOk X pins H b) : Inv X pins σ H { s with heap := h', toks := t' } := by
 have nf : ∀ b u, H b = some u -> b ∉ fp := fun b u e z => by rw [(hf b z).1] at e; cases e
 have hL : X.env.locals ∉ fp := fun z => (hf _ z).2.1 rfl
 refine I.step (g' := s.gens) (d' := s.drawn) (ch := fp) (fun b hb => ?_) (fun b o _ _ hc e _ => k b o hc e) (fun b o _ _ hc e _ => ⟨o.slots, k b o hc e⟩) (fun _ _ _ _ n => n) (fun b o hc e => ⟨o, k b o hc e⟩)
  (fun _ _ e => e) (fun _ _ _ e => e) (fun b ps e => ⟨#[], by rw [e]; simp⟩) (fun m hm => ?_) (fun b u e => ?_) I.bare
 . obtain ⟨f0, f1, f2, f3, f4, f5⟩ := hf b hb
   exact ⟨f3, f1, f4, f5⟩
 . obtain ⟨o, es, ep, ho, r⟩ := hm
   exact ⟨o, es, ep, k _ o hL ho, r⟩
 . refine (I.hok b u e).stay (fun c v hc q => k c v ?_ q) (fun _ q => q) fun _ _ q => q
   exact hc.elim (fun z => by rw [z]; exact nf b u e) fun z => nf c _ z
theorem Zhl {h : Heap} {o o' : Obj} {b : Addr} (hb : b < h.objs.size) (e : (h.push o).get? b = some o') : h.get? b = some o' := by
 (obtain ⟨e1, e2⟩ := Heap.get?_some_iff.mp e)
 refine Heap.get?_some_iff.mpr ⟨?_, e2⟩
 cases h
 simpa [Heap.push, Array.getElem?_push, Nat.ne_of_lt hb] using e1
theorem Inv.laidT {t' : Nat} {fp : List Addr} {xs : List V} {us : List Value} (I : Inv X pins σ H s) (r : Vals xs us) (hz : xs.length <= sizeLine) (ht : h'.get? s.heap.objs.size = some { cls := .type "tuple", data := .seq us.toArray })
 (k : ∀ b o, b ∉ fp -> s.heap.get? b = some o -> h'.get? b = some o) (hf : ∀ b ∈ fp, FpOk X pins H b) (hlt : ∀ b ∈ fp, b < s.heap.objs.size) : Inv X pins σ (upd H s.heap.objs.size (.tup xs)) { s with heap := h', toks := t' } := by
 have I1 : Inv X pins σ (upd H s.heap.objs.size (.tup xs)) { s with heap := s.heap.push { cls := .type "tuple", data := .seq us.toArray }, toks := t' } :=
  I.laid (fun b u e => Heap.get?_push_of_some _ e) (Nat.le_refl _) ⟨hz, us, r, ⟨_, Heap.get?_push_size _ rfl, rfl, _, rfl⟩⟩
 refine (fun (go : ∀ b o, b ∉ fp -> (s.heap.push { cls := .type "tuple", data := .seq us.toArray }).get? b = some o -> h'.get? b = some o) => ?_) fun b o hb e => ?_
 . exact Inv.turnedL (s := { s with heap := s.heap.push { cls := .type "tuple", data := .seq us.toArray }, toks := t' }) (fp := fp) (t' := t') (h' := h') I1 go fun b hb => ⟨by rw [Zq (Nat.ne_of_lt (hlt b hb))]; exact (hf b hb).1, (hf b hb).2⟩
 . by_cases hq : b = s.heap.objs.size
   . subst hq
     rw [Heap.get?_push_size _ rfl] at e
     rw [<- e]
     exact ht
   . have : b < s.heap.objs.size := by
      have := Heap.lt_size e
      rw [Heap.size_push] at this
      exact Nat.lt_of_le_of_ne (Nat.le_of_lt_succ this) hq
     exact k b o hb (Zhl this e)
end
noncomputable def Ite (K : Fg) (a : Addr) (c : Int) : It where
 go i H := ∃ xs x, SqL K H a xs /\ xs[i]? = some x
 yld i H x H' := ∃ A y, x = .ref A /\ H A = none /\ H' = upd H A (.tup [.int (c + i), y]) /\ ∀ xs, SqL K H a xs -> xs[i]? = some y
 stop i H := ∃ xs, SqL K H a xs /\ xs.length <= i
theorem Zjc {P : Program} {w : World} {K : Fg} {es : List Expr} {k1 : Nat} {pos : Pos} (a e it : Addr) (c : Int) (ne : e ≠ it) : Turn P w K (.Tuple es k1 pos) (Ite K a c) [e, it] e (fun i h => (∃ old, IsEnum h e it (c + (i : Nat)) old) /\ h.IsListIter it a i) where
 mem := by simp
 obj := fun i h st b hb => by
  obtain ⟨⟨old, he⟩, o, e1, e2, e3⟩ := st
  (rcases List.mem_cons.mp hb with rfl | hb)
  . exact ⟨_, he, fun v z => by
     have z' : Data.fields _ = Data.cell v := z
     cases z'⟩
  . have : b = it := by simpa using hb
    subst this
    exact ⟨o, e1, fun v z => by rw [e3] at z; cases z⟩
 keep := fun i h h' st k => ⟨st.1.imp fun old he => k e (by simp) _ he, st.2.at fun o y => k it (by simp) o y⟩
 item := by
  intro X hP hw hK hc i pins s σ H E I hf st hg
  subst hP hw hK
  obtain ⟨xs, x, hq, hx⟩ := hg
  obtain ⟨its, rv, p, hz⟩ := I.list hq
  obtain ⟨u, hu, ru⟩ := rv.get hx
  obtain ⟨⟨old, he⟩, hi⟩ := st
  have le : e < s.heap.objs.size := Heap.lt_size he
  have li : it < s.heap.objs.size := by obtain ⟨_, y, _⟩ := hi; exact Heap.lt_size y
  have lt : ∀ b ∈ [e, it], b < s.heap.objs.size := fun b hb => by
   (rcases List.mem_cons.mp hb with rfl | hb)
   . exact le
   . rw [List.mem_singleton.mp hb]; exact li
  refine ZlF he hi p.isList (x := u) (by simpa using hu) ne fun h' ho hi' ht hk => ⟨_, rfl, ?_⟩
  refine wpAny_letOwnedTupleGo_enum ho fun h2 he2 hs2 => ?_
  have up : ∀ b o, b ≠ e -> h'.get? b = some o -> h2.get? b = some o := fun b o n y => hs2.extBut b o n y
  have I2 := I.laidT (fp := [e, it]) (h' := h2) (t' := s.toks + 1) (xs := [.int (c + i), x]) (us := [.int (c + i) s.toks, u]) (.cons ⟨_, rfl⟩ (.cons ru .nil)) (by simp [sizeLine])
   (up _ _ (Nat.ne_of_gt le) ht) (fun b o hb y => up b o (fun z => hb (by simp [z])) (hk b o (fun z => hb (by simp [z])) (fun z => hb (by simp [z])) y)) hf lt
  refine ⟨.ref s.heap.objs.size, _, I2, rfl, ⟨_, x, rfl, I.hok.fresh (Nat.le_refl _), rfl, fun ys hy => by rw [I.list_inj hy hq]; exact hx⟩, ⟨⟨u, ?_⟩, hi'.at fun o y => up it o (Ne.symm ne) y⟩, fun b hb => ?_⟩
  . have z : c + ((i + 1 : Nat) : Int) = c + i + 1 := by omega
    rw [z]
    exact he2
  . rw [Zq (Nat.ne_of_lt (lt b hb))]
    exact (hf b hb).1
 done := by
  intro X hP hw hK hc i pins s σ H E I hf st hg
  subst hP hw hK
  obtain ⟨xs, hq, hx⟩ := hg
  obtain ⟨its, rv, p, hz⟩ := I.list hq
  obtain ⟨⟨old, he⟩, hi⟩ := st
  have hl := rv.length
  exact Zn5 (I.ok.hd hc) he hi p.isList (by simp; omega) fun h' eb => ⟨rfl, I.turnedL (t' := s.toks) (fun b o hb y => eb b o (fun z => hb (by simp [z])) y) hf⟩
 self := fun _ _ _ _ _ st h => by
  obtain ⟨⟨old, he⟩, _⟩ := st
  exact wpAny_pyIter_enum he h
section
variable {X : Cx} {es : List Expr} {k1 : Nat} {l ke : Expr} {t : TA} {p pos q kp : Pos} {c : Int}
noncomputable def Zik (K : Fg) (c : Int) (t : TA) : TI := fun σ H R => t σ H fun vs H1 => ∃ a, vs = [.ref a] /\ (∃ xs, SqL K H1 a xs) /\ R (Ite K a c) H1
theorem Zlg {pins : Pn} {σ : St} {H : Hp} {s : Shared} {h' : Heap} {R : It -> Hp -> Prop} {E : VS} {a : Addr} (I : Inv X pins σ H s) (he : IsEnum h' (s.heap.objs.size + 1) s.heap.objs.size c .none) (hi : h'.IsListIter s.heap.objs.size a 0)
 (hk : ∀ b o, s.heap.get? b = some o -> h'.get? b = some o) (z : R (Ite X.K a c) H) : wpAny (model X.prog X.w) X.A (pyIter (.ref (s.heap.objs.size + 1))) (PIE X pins σ (.Tuple es k1 q) R) E { s with heap := h' } := by
 refine wpAny_pyIter_enum he ⟨_, [s.heap.objs.size + 1, s.heap.objs.size], _, _, H, rfl, I.kept (t' := s.toks) hk, Zjc a _ _ c (Nat.succ_ne_self _), ⟨⟨_, by simpa using he⟩, hi⟩, fun b hb => ?_, z⟩
 have : s.heap.objs.size <= b := by
  (rcases List.mem_cons.mp hb with rfl | hb)
  . omega
  . rw [List.mem_singleton.mp hb]; exact Nat.le_refl _
 exact I.fpOk this (I.hok.fresh this)
theorem ZlH (hg : Gl X "enumerate") (hm : X.mg "enumerate" = none) (ha : PA X [l] t) (hs : starEach [l] X.env = [(false, eval l X.env)] := by rfl) : PI X (.Tuple es k1 q) (.Call (.Name "enumerate" p) [l] [] pos) (Zik X.K 0 t) := by
 intro pins s σ H R I h
 refine PyProof.Rows.Call_ (ZaF I hg hm PyProof.Rows.boot_enumerate (PyProof.Rows.callWith_type1 (thn (ha pos pins s σ H _ I h) fun us s1 z0 => ?_) hs rfl))
 obtain ⟨vs, H1, I1, r1, q1⟩ := z0
 obtain ⟨a, e, ⟨xs, hq⟩, z⟩ := q1
 subst e
 cases r1 with
 | cons r rr =>
  cases rr
  cases r
  obtain ⟨its, rv, pl, hz⟩ := I1.list hq
  exact call_enumerate_list pl.isList fun h' he hi _ hk => Zlg I1 he hi hk z
theorem Zkm (hg : Gl X "enumerate") (hm : X.mg "enumerate" = none) (ha : PA X [l] t) (hke : PE X ke (tC (.int c))) (hc : Builtin.SmallTypes.fitsIndex c = true) (hs : starEach [l] X.env = [(false, eval l X.env)] := by rfl) : PI X (.Tuple es k1 q) (.Call (.Name "enumerate" p) [l] [⟨some "start", ke, kp⟩] pos) (Zik X.K c t) := by
 intro pins s σ H R I h
 refine wpAny_Call_Name_kw (ZaF I hg hm PyProof.Rows.boot_enumerate (Zij (by show _ = _; rw [hs]; rfl) rfl ?_))
 rw [hs]
 refine PyProof.Rows.evalArgs_kwB rfl ?_
 have ha' := ha pos pins s σ H _ I h
 rw [hs] at ha'
 refine thn ha' fun us s1 z0 => ?_
 obtain ⟨vs, H1, I1, r1, q1⟩ := z0
 obtain ⟨a, e, ⟨xs, hq⟩, z⟩ := q1
 subst e
 cases r1 with
 | cons r rr =>
  cases rr
  cases r
  refine thn (Zl2 (nm := some "start") (kpos := kp) hke Znm pos pins s1 σ H1 (fun vs H2 => vs = [.int c] /\ H2 = H1) I1 ⟨rfl, rfl⟩) fun ws s2 z0 => ?_
  obtain ⟨zs, H2, I2, r2, e1, e2⟩ := z0
  subst e1 e2
  cases r2 with
  | cons r rr =>
   cases rr
   obtain ⟨tt, rfl⟩ := r
   obtain ⟨its, rv, pl, hz⟩ := I2.list hq
   exact ZlG pl.isList hc fun h' he hi hk => Zlg I2 he hi hk z
end
noncomputable def Itz (K : Fg) (a b : Addr) : It where
 go i H := ∃ xs ys x y, SqL K H a xs /\ SqL K H b ys /\ xs[i]? = some x /\ ys[i]? = some y
 yld i H x H' := ∃ A u v, x = .ref A /\ H A = none /\ H' = upd H A (.tup [u, v]) /\ (∀ xs, SqL K H a xs -> xs[i]? = some u) /\ ∀ ys, SqL K H b ys -> ys[i]? = some v
 stop i H := ∃ xs ys, SqL K H a xs /\ SqL K H b ys /\ (xs.length <= i \/ ys.length <= i)
theorem mem5 {P : Addr -> Prop} {z t u v w : Addr} (h1 : P z) (h2 : P t) (h3 : P u) (h4 : P v) (h5 : P w) : ∀ b ∈ [z, t, u, v, w], P b := fun b hb => by
 (simp only [List.mem_cons, List.not_mem_nil, or_false] at hb)
 rcases hb with rfl | rfl | rfl | rfl | rfl <;> assumption
theorem Zkn {P : Program} {w : World} {K : Fg} {es : List Expr} {k1 : Nat} {pos : Pos} (a b z TI TO i1 i2 : Addr) (ap : ZipApart z TI TO i1 i2 a b) : Turn P w K (.Tuple es k1 pos) (Itz K a b) [z, TI, TO, i1, i2] z
 (fun i h => IsZip h z TI TO .none /\ IsPair h TI (.ref i1) (.ref i2) /\ (∃ u v, IsPair h TO u v) /\ h.IsListIter i1 a i /\ h.IsListIter i2 b i) where
 mem := by simp
 obj := fun i h st => by
  obtain ⟨hz, hI, ⟨u, v, hO⟩, ⟨o1, e1, c1, d1⟩, ⟨o2, e2, c2, d2⟩⟩ := st
  refine mem5 (P := fun b => ∃ o, h.get? b = some o /\ ∀ v, o.data ≠ .cell v) ⟨_, hz, fun v q => ?_⟩ ⟨_, hI, fun v q => ?_⟩ ⟨_, hO, fun v q => ?_⟩ ⟨o1, e1, fun v q => by rw [d1] at q; cases q⟩ ⟨o2, e2, fun v q => by rw [d2] at q; cases q⟩
  . have q' : Data.fields _ = Data.cell v := q
    cases q'
  . have q' : Data.seq _ _ = Data.cell v := q
    cases q'
  . have q' : Data.seq _ _ = Data.cell _ := q
    cases q'
 keep := fun i h h' st k => ⟨k z (by simp) _ st.1, k TI (by simp) _ st.2.1, st.2.2.1.imp fun u hu => hu.imp fun v hv => k TO (by simp) _ hv, st.2.2.2.1.at fun o y => k i1 (by simp) o y, st.2.2.2.2.at fun o y => k i2 (by simp) o y⟩
 item := by
  intro X hP hw hK hc i pins s σ H E I hf st hg
  subst hP hw hK
  obtain ⟨xs, ys, x, y, hqx, hqy, hx, hy⟩ := hg
  obtain ⟨its, rv, p, _⟩ := I.list hqx
  obtain ⟨jts, rw', p', _⟩ := I.list hqy
  obtain ⟨u, hu, ru⟩ := rv.get hx
  obtain ⟨v, hv, rv'⟩ := rw'.get hy
  obtain ⟨hz, hI, ⟨u0, v0, hO⟩, hi1, hi2⟩ := st
  have lt : ∀ b ∈ [z, TI, TO, i1, i2], b < s.heap.objs.size := mem5 (P := fun b => b < s.heap.objs.size) (Heap.lt_size hz) (Heap.lt_size hI) (Heap.lt_size hO) (by obtain ⟨_, q, _⟩ := hi1; exact Heap.lt_size q) (by obtain ⟨_, q, _⟩ := hi2; exact Heap.lt_size q)
  refine wpAny_pyNext_zip_item ap hz hI hO hi1 hi2 p.isList p'.isList (x := u) (y := v) (by simpa using hu) (by simpa using hv) fun h' ho hO' hi1' hi2' hT _ hk => ⟨_, rfl, ?_⟩
  refine wpAny_letOwnedTupleGo_zip ho fun h2 hz2 hs2 => ?_
  have up : ∀ b o, b ≠ z -> h'.get? b = some o -> h2.get? b = some o := fun b o n q => hs2.extBut b o n q
  have zlt := lt z (by simp)
  have I2 := I.laidT (fp := [z, TI, TO, i1, i2]) (h' := h2) (t' := s.toks) (xs := [x, y]) (us := [u, v]) (.cons ru (.cons rv' .nil)) (by simp [sizeLine])
   (up _ _ (Nat.ne_of_gt zlt) hT) (fun b o hb q => up b o (fun e => hb (by simp [e])) (hk b o (fun e => hb (by simp [e])) (fun e => hb (by simp [e])) (fun e => hb (by simp [e])) (fun e => hb (by simp [e])) q)) hf lt
  have hI' : IsPair h' TI (.ref i1) (.ref i2) := hk TI _ ap.TIz ap.TITO ap.TIi1 ap.TIi2 hI
  refine ⟨.ref s.heap.objs.size, _, I2, rfl, ⟨_, x, y, rfl, I.hok.fresh (Nat.le_refl _), rfl, fun zs q => by rw [I.list_inj q hqx]; exact hx, fun zs q => by rw [I.list_inj q hqy]; exact hy⟩,
   ⟨hz2, up _ _ ap.TIz hI', ⟨u, v, up _ _ ap.TOz hO'⟩, hi1'.at fun o q => up i1 o ap.i1z q, hi2'.at fun o q => up i2 o ap.i2z q⟩, fun b hb => ?_⟩
  rw [Zq (Nat.ne_of_lt (lt b hb))]
  exact (hf b hb).1
 done := by
  intro X hP hw hK hc i pins s σ H E I hf st hg
  subst hP hw hK
  obtain ⟨xs, ys, hqx, hqy, hend⟩ := hg
  obtain ⟨its, rv, p, _⟩ := I.list hqx
  obtain ⟨jts, rw', p', _⟩ := I.list hqy
  obtain ⟨hz, hI, ⟨u0, v0, hO⟩, hi1, hi2⟩ := st
  have l1 := rv.length
  have l2 := rw'.length
  refine wpAny_pyNext_zip_end (I.ok.hd hc) ap hz hI hO hi1 hi2 p.isList p'.isList ?_ fun h' hk => ⟨rfl, I.turnedL (t' := s.toks) (fun b o hb q => hk b o (fun e => hb (by simp [e])) (fun e => hb (by simp [e])) (fun e => hb (by simp [e])) (fun e => hb (by simp [e])) q) hf⟩
  rcases hend with h | h
  . exact .inl (by simp; omega)
  . exact .inr (by simp; omega)
 self := fun _ _ _ _ _ st h => wpAny_pyIter_zip st.1 h
section
variable {X : Cx} {es : List Expr} {k1 : Nat} {l r : Expr} {t : TA} {p pos q : Pos}
noncomputable def iZip (K : Fg) (t : TA) : TI := fun σ H R => t σ H fun vs H1 => ∃ a b, vs = [.ref a, .ref b] /\ (∃ xs, SqL K H1 a xs) /\ (∃ ys, SqL K H1 b ys) /\ R (Itz K a b) H1
theorem Zn6 (hg : Gl X "zip") (hm : X.mg "zip" = none) (ha : PA X [l, r] t) (hs : starEach [l, r] X.env = [(false, eval l X.env), (false, eval r X.env)] := by rfl) (hs2 : starEach [r] X.env = [(false, eval r X.env)] := by rfl) : PI X (.Tuple es k1 q) (.Call (.Name "zip" p) [l, r] [] pos) (iZip X.K t) := by
 intro pins s σ H R I h
 refine PyProof.Rows.Call_ (ZaF I hg hm PyProof.Rows.boot_zip (PyProof.Rows.callWith_type1 (thn (ha pos pins s σ H _ I h) fun us s1 z0 => ?_) (by show _ = _; rw [hs, hs2]) (by show _ = _; rw [hs2]; rfl)))
 obtain ⟨vs, H1, I1, r1, q1⟩ := z0
 obtain ⟨a, b, e, ⟨xs, hq⟩, ⟨ys, hq'⟩, y⟩ := q1
 subst e
 cases r1 with
 | cons u uu =>
  cases uu with
  | cons u' uu =>
   cases uu
   cases u
   cases u'
   obtain ⟨its, rv, pl, _⟩ := I1.list hq
   obtain ⟨jts, rw', pl', _⟩ := I1.list hq'
   have la : @LT.lt Nat _ a s1.heap.objs.size := by obtain ⟨o, n, e, _⟩ := pl; exact Heap.lt_size e
   have lb : @LT.lt Nat _ b s1.heap.objs.size := by obtain ⟨o, n, e, _⟩ := pl'; exact Heap.lt_size e
   refine call_zip_2 pl.isList pl'.isList fun h' hz hI hO hi1 hi2 _ hk => wpAny_pyIter_zip hz ?_
   generalize hn : s1.heap.objs.size = n at *
   have ap : ZipApart (n + 4) (n + 2) (n + 3) n (n + 1) a b := by
    have c1 : @LT.lt Nat _ a n := la
    have c2 : @LT.lt Nat _ b n := lb
    constructor <;> (first | exact Nat.ne_of_lt (by omega) | exact Nat.ne_of_gt (by omega))
   refine ⟨_, [n + 4, n + 2, n + 3, n, n + 1], _, _, H1, rfl, I1.kept (t' := s1.toks) hk, Zkn a b _ _ _ _ _ ap, ⟨hz, hI, ⟨_, _, hO⟩, hi1, hi2⟩, ?_, y⟩
   refine mem5 (P := fun b => FpOk X pins H1 b) ?_ ?_ ?_ ?_ ?_ <;> exact I1.fpOk (by rw [hn]; omega) (I1.hok.fresh (by rw [hn]; omega))
end
open PyProof.Rows
theorem Zil : typeLookup (.type "list_reverseiterator") "__len__" = pure none := by rw [typeLookup_type, builtinLookup_eq_fast]; kernel_rfl
theorem Zko : typeLookup (.type "list_reverseiterator") "__length_hint__" = pure (some (.builtin "list_reverseiterator.__length_hint__")) := by rw [typeLookup_type, builtinLookup_eq_fast]; kernel_rfl
section
variable {prog : Program} {w : World} {A : Around} {E : VS} {s : Shared}
theorem Zkp {it l : Addr} {i : Int} {Q : Bool -> Shared -> Prop} (hit : s.heap.IsRevIter it l i) (h : Q false s) : wpAny (model prog w) A (Builtin.List.listLengthHint (.ref it)) Q E s := by
 (unfold Builtin.List.listLengthHint)
 refine wpAny_bind (wpAny_specialOf hit.typeIs Zil ?_)
 dsimp only
 (refine wpAny_ite_split (fun hab => absurd hab (by decide +kernel)) (fun _ => ?_))
 (refine wpAny_ite_split (fun hab => absurd hab (by decide +kernel)) (fun _ => ?_))
 refine wpAny_bind (wpAny_specialOf hit.typeIs Zko ?_)
 dsimp only
 generalize hid : ("list_reverseiterator.__length_hint__" : String) = id0
 rw [show splitId id0 = some ("list_reverseiterator", "__length_hint__") from by subst hid; decide +kernel]
 subst hid
 dsimp only
 refine wpAny_bind (wpAny_isInstance (T := "list_reverseiterator") (b := true) hit.typeIs (by rw [isSubtype_type]; kernel_rfl) ?_)
 (refine wpAny_ite_split (fun hab => absurd hab (by decide)) (fun _ => ?_))
 (refine wpAny_ite_split (fun _ => ?_) (fun hab => absurd (by decide +kernel) hab))
 (refine wpAny_ite_split (fun hab => absurd hab (by decide +kernel)) (fun _ => ?_))
 exact wpAny_pure h
theorem Zim {R : Result -> Shared -> Prop} {r l : Addr} {items : Array Value} (hh : A.handled = none) (hit : s.heap.IsRevIter r l ((items.size : Int) - 1)) (hl : s.heap.IsList l items) (hne : l ≠ r) (hlen : items.size <= sizeLine)
 (S : Addr) (res : Value) (c₀ : Nat) (hS : s.heap.get? S = some { cls := .type "list", data := .seq #[] c₀ }) (hSr : S ≠ r) (hSl : S ≠ l)
 (hR : ∀ h' tk acc' c', (∀ b o, b ≠ S -> b ≠ r -> s.heap.get? b = some o -> h'.get? b = some o) -> h'.get? S = some { cls := .type "list", dict := none, data := .seq acc' c', slots := #[] } ->
  ItemsOf (fun i v => items[items.size - 1 - i]? = some v) acc' items.size -> R (.ok (.ret res)) { s with heap := h', toks := tk }) : wpAny (model prog w) A.in1 (Builtin.List.listExtendWith (.ref S) (.ref r) res)
  (fun fin s' => match fin with | .done f => R (.ok f) s' | .again c' => c'.quiet = true /\ codeAny (model prog w) A c' R s') (fun e s' => R (.error e) s') s := by
 have W := (Walks.listRev (prog := prog) (w := w) (A := A.in1) hh r l hne items).toS
 have hSf : S ∉ [r, l] := fun hm => by
  (rcases List.mem_cons.mp hm with e | hm)
  . exact hSr e
  . exact hSl (List.mem_singleton.mp hm)
 have e0 : (items.size : Int) - 1 - ((0 : Nat) : Int) = (items.size : Int) - 1 := by omega
 have st0 : (0 <= items.size /\ s.heap.IsRevIter r l ((items.size : Int) - 1 - ((0 : Nat) : Int)) /\ s.heap.IsList l items) := ⟨Nat.zero_le _, by rw [e0]; exact hit, hl⟩
 (unfold Builtin.List.listExtendWith)
 refine wpAny_bind (wpAny_typeOf hit.typeIs ?_)
 (have h1 : Builtin.List.listSameRef (.ref S) (.ref r) = false := by simp [Builtin.List.listSameRef, hSr])
 have h2 : (Value.type "list_reverseiterator" == Value.type "list") = false := by decide
 have h3 : (Value.type "list_reverseiterator" == Value.type "tuple") = false := by decide
 (simp only [h1, h2, h3, Bool.or_false, Bool.false_eq_true, if_false])
 refine wpAny_bind (wpAny_pyIter_revIter hit ?_)
 refine wpAny_bind (wpAny_holding (Zkp hit ?_))
 refine wpAny_ite_split (fun hab => absurd hab (by decide)) (fun _ => wpAny_pure ⟨plainId_quiet PySem.F.plain_extend_loop _, ?_⟩)
 refine codeAny_extend_loopS W hlen S hSf res items.size 0 _ #[] c₀ rfl (Nat.zero_le _) st0 hS (ItemsOf.nil _) fun s' acc' c' hm hS' hacc => ?_
 rw [Moved.eq_with hm]
 refine hR s'.heap s'.toks acc' c' (fun b o hb hb2 e => hm.heap b o (fun hmem => ?_) e) hS' hacc
 (rcases List.mem_cons.mp hmem with e' | hmem)
 . exact hb e'
 . exact hb2 (List.mem_singleton.mp hmem)
theorem Zkq {R : Result -> Shared -> Prop} {r l : Addr} {items : Array Value} (hh : A.handled = none) (hit : s.heap.IsRevIter r l ((items.size : Int) - 1)) (hl : s.heap.IsList l items) (hne : l ≠ r) (hlen : items.size <= sizeLine)
 (S : Addr) (hS : s.heap.get? S = some { cls := .type "list", data := .seq #[] }) (hSr : S ≠ r) (hSl : S ≠ l)
 (hR : ∀ h' tk acc' c', (∀ b o, b ≠ S -> b ≠ r -> s.heap.get? b = some o -> h'.get? b = some o) -> h'.get? S = some { cls := .type "list", dict := none, data := .seq acc' c', slots := #[] } ->
  ItemsOf (fun i v => items[items.size - 1 - i]? = some v) acc' items.size -> R (.ok (.ret .none)) { s with heap := h', toks := tk }) : wpAny (model prog w) A.in1 (Builtin.«list.__init__» ⟨[.ref S, .ref r], []⟩)
  (fun fin s' => match fin with | .done f => R (.ok f) s' | .again c' => c'.quiet = true /\ codeAny (model prog w) A c' R s') (fun e s' => R (.error e) s') s := by
 (show wpAny _ _ (do let old <- Builtin.List.listItems (.ref S); Builtin.List.listUpdate (.ref S) (fun _ => #[]); letGo old.toList.reverse; Builtin.List.listExtendWith (.ref S) (.ref r) .none) _ _ s)
 refine wpAny_bind ?_
 unfold Builtin.List.listItems
 (refine wpAny_bind (wpAny_seqItems hS rfl (wpAny_pure ?_)))
 (show wpAny _ _ (updateSeq S (fun _ => #[]) >>= fun _ => letGo (#[] : Array Value).toList.reverse >>= fun _ => Builtin.List.listExtendWith (.ref S) (.ref r) .none) _ _ s)
 (refine wpAny_bind (wpAny_updateSeq hS rfl ?_))
 (have hS₂ := Heap.get?_update_self (Obj.mapSeq (fun _ => (#[] : Array Value))) hS rfl)
 have oth : ∀ b o, b ≠ S -> s.heap.get? b = some o -> (s.heap.update S (Obj.mapSeq (fun _ => (#[] : Array Value)))).get? b = some o := fun b o hb e => (Heap.get?_update_other _ _ (Ne.symm hb)).trans e
 refine wpAny_bind (wpAny_letGo ?_)
 refine Zim hh (hit.at fun o e => oth r o (Ne.symm hSr) e) (hl.at fun o e => oth l o (Ne.symm hSl) e) hne hlen S .none _ hS₂ hSr hSl fun h' tk acc' c' hk hS' hacc => ?_
 exact hR h' tk acc' c' (fun b o hb hb2 e => hk b o hb hb2 (oth b o hb e)) hS' hacc
theorem ZfY {Q : VS} {r l : Addr} {items : Array Value} (hh : A.handled = none) (hit : s.heap.IsRevIter r l ((items.size : Int) - 1)) (hl : s.heap.IsList l items) (hne : l ≠ r) (hlen : items.size <= sizeLine)
 (hQ : ∀ h' tk acc' c', (∀ b o, b ≠ r -> s.heap.get? b = some o -> h'.get? b = some o) -> h'.get? s.heap.objs.size = some { cls := .type "list", dict := none, data := .seq acc' c', slots := #[] } ->
  ItemsOf (fun i v => items[items.size - 1 - i]? = some v) acc' items.size -> Q (.ref s.heap.objs.size) { s with heap := h', toks := tk }) : wpAny (model prog w) A (call (.type "list") [.ref r]) Q E s := by
 refine callType_codes (Q₁ := fun obj s₁ => obj = .ref s.heap.objs.size /\ s₁ = { s with heap := s.heap.push { cls := .type "list", data := .seq #[] } }) PySem.F.called_list (PySem.F.typeCall_list_1 _) PySem.F.entry_list_init (code_list_new _ ⟨rfl, rfl⟩) fun obj s₁ h₁ => ?_
 obtain ⟨rfl, rfl⟩ := h₁
 (have hS : (s.heap.push { cls := .type "list", data := .seq #[] }).get? s.heap.objs.size = some { cls := .type "list", data := .seq #[] } := Heap.get?_push_size _ rfl)
 have hrlt : r < s.heap.objs.size := by obtain ⟨o, ho, _⟩ := hit; exact Heap.lt_size ho
 have hllt : l < s.heap.objs.size := by obtain ⟨o, ho, _⟩ := hl; exact Heap.lt_size ho
 refine ⟨⟨_, hS, rfl⟩, PySem.F.args_list_init_2 _ _, Zkq (A := A.in1) hh (hit.at fun o e => Heap.get?_push_of_some _ e) (hl.at fun o e => Heap.get?_push_of_some _ e) hne hlen _ hS (Nat.ne_of_gt hrlt) (Nat.ne_of_gt hllt) fun h' tk acc' c' hk hS' hacc => ?_⟩
 exact ⟨rfl, hQ h' tk acc' c' (fun b o hb e => hk b o (Nat.ne_of_lt (Heap.lt_size e)) hb (Heap.get?_push_of_some _ e)) hS' hacc⟩
end
theorem Zjd {its : List Value} {acc : Array Value} (h : ItemsOf (fun i v => its.toArray[its.toArray.size - 1 - i]? = some v) acc its.toArray.size) : acc = its.reverse.toArray := by
 obtain ⟨h1, h2⟩ := h
 apply Array.ext'
 apply List.ext_getElem?
 intro i
 have e1 : its.toArray.size = its.length := by simp
 rw [e1] at h1 h2
 by_cases hi : i < its.length
 . have hi' : i < acc.size := by rw [h1]; exact hi
   have q := h2 i acc[i] (Array.getElem?_eq_getElem hi')
   rw [Array.getElem?_toList, Array.getElem?_eq_getElem hi', List.getElem?_reverse hi]
   rw [<- q]
   simp
 . rw [Array.getElem?_toList, Array.getElem?_eq_none (by omega), List.getElem?_eq_none (by simp; omega)]
theorem Vals.reverse' {xs : List V} {its : List Value} (r : Vals xs its) : Vals xs.reverse its.reverse := by
 induction r with
 | nil => exact .nil
 | cons a b ih => rw [List.reverse_cons, List.reverse_cons]; exact ih.append (.cons a .nil)
def tRev (K : Fg) (ta : TE) : TE := fun σ H Q => ta σ H fun x H1 => ∃ l xs, x = .ref l /\ SqL K H1 l xs /\ ∀ p, H1 p = none -> Q (.ref p) (upd H1 p (.lst xs.reverse))
section
variable {X : Cx}
theorem Zn7 {a : Expr} {ta : TE} {p p2 pos pos2 : Pos} (hc : X.calm = true) (hg : Gl X "list") (hm : X.mg "list" = none) (hg2 : Gl X "reversed") (hm2 : X.mg "reversed" = none) (ha : PE X a ta)
 (hs : starEach [.Call (.Name "reversed" p2) [a] [] pos2] X.env = [(false, eval (.Call (.Name "reversed" p2) [a] [] pos2) X.env)] := by rfl) (hs2 : starEach [a] X.env = [(false, eval a X.env)] := by rfl) :
 PE X (.Call (.Name "list" p) [.Call (.Name "reversed" p2) [a] [] pos2] [] pos) (tRev X.K ta) := by
 intro pins s σ H Q I h
 refine Call_ (ZaF I hg hm (by decide +kernel) (PyProof.Rows.callWith_type1 (T := "list") ?_ hs rfl))
 rw [hs]
 show wpAny _ _ (spliced [(false, eval (.Call (.Name "reversed" p2) [a] [] pos2) X.env)]) _ _ s
 refine Calls.spliced_cons ?_
 refine Call_ (ZaF I hg2 hm2 boot_reversed (PyProof.Rows.callWith_type1 (T := "reversed") ?_ hs2 rfl))
 rw [hs2]
 show wpAny _ _ (spliced [(false, eval a X.env)]) _ _ s
 refine Calls.spliced_cons (thn (ha pins s σ H _ I h) fun u s1 ⟨x, H1, I1, r1, q1⟩ => Calls.spliced_nil ?_)
 obtain ⟨l, xs, rfl, hq, q⟩ := q1
 cases r1
 obtain ⟨its, rv, pl, hz⟩ := I1.list hq
 have hlen := rv.length
 have hll : l < s1.heap.objs.size := by obtain ⟨o, ho, _⟩ := pl.isList; exact Heap.lt_size ho
 refine call_reversed_list pl.isList (Calls.spliced_nil ?_)
 refine ZfY (I1.ok.hd hc) ⟨_, Heap.get?_push_size _ rfl, rfl, rfl⟩ (pl.isList.at fun o e => Heap.get?_push_of_some _ e) (Nat.ne_of_lt hll) (by simp; omega) fun h' tk acc' c' hk hS hacc => ?_
 have ea := Zjd hacc
 subst ea
 have hsz : (s1.heap.push (revObj l ((its.toArray.size : Int) - 1))).objs.size = s1.heap.objs.size + 1 := Heap.size_push ..
 have hfr : H1 (s1.heap.objs.size + 1) = none := I1.hok.fresh (Nat.le_succ _)
 refine ⟨.ref (s1.heap.objs.size + 1), upd H1 (s1.heap.objs.size + 1) (.lst xs.reverse), I1.laid (t' := tk) (fun b u e => hk b u (Nat.ne_of_lt (Heap.lt_size e)) (Heap.get?_push_of_some _ e)) (Nat.le_succ _) ⟨by rw [List.length_reverse]; exact hz, its.reverse, c', rv.reverse', ?_⟩, ?_, q _ hfr⟩
 . rw [<- hsz]; exact hS
 . rw [hsz]; rfl
end
theorem Zh9 {α β : Type} (f : α -> Option β) (g : α -> β) : ∀ l : List α, (∀ a ∈ l, f a = some (g a)) -> l.filterMap f = l.map g
 | [], _ => rfl
 | a :: l, h => by rw [List.filterMap_cons, h a List.mem_cons_self, List.map_cons, Zh9 f g l fun x hx => h x (List.mem_cons_of_mem _ hx)]
theorem Zje (its : List Value) : slicePick its.toArray none none (some (-1)) = its.reverse.toArray := by
 unfold slicePick
 have e : sliceRange (sliceBounds none none (some (-1)) its.toArray.size).1 (sliceBounds none none (some (-1)) its.toArray.size).2.1 (sliceBounds none none (some (-1)) its.toArray.size).2.2 = (List.range its.length).map fun k => its.length - 1 - k := by
  have hs : its.toArray.size = its.length := by simp
  rw [hs]
  show sliceRange ((its.length : Int) - 1) (-1) (-1) = _
  unfold sliceRange
  have hc : (if (-1 : Int) > 0 then (if (its.length : Int) - 1 < -1 then ((-1 : Int) - ((its.length : Int) - 1) + -1 - 1) / -1 else 0) else (if (its.length : Int) - 1 > -1 then ((its.length : Int) - 1 - -1 - -1 - 1) / (- -1) else 0)).toNat = its.length := by
   rw [if_neg (by decide)]
   by_cases hn : (its.length : Int) - 1 > -1
   . rw [if_pos hn, show (- -1 : Int) = 1 by decide, Int.ediv_one]; omega
   . rw [if_neg hn]; omega
  dsimp only
  rw [hc]
  refine List.map_congr_left fun k hk => ?_
  have := List.mem_range.mp hk
  omega
 rw [e, List.filterMap_map]
 congr 1
 rw [Zh9 _ (fun k => its.getD (its.length - 1 - k) .none)]
 . apply List.ext_getElem?
   intro i
   rw [List.getElem?_map]
   by_cases hi : i < its.length
   . rw [List.getElem?_range hi, List.getElem?_reverse hi, Option.map_some, List.getD_eq_getElem?_getD, List.getElem?_eq_getElem (by omega)]
     rfl
   . rw [List.getElem?_eq_none (by simp; omega), List.getElem?_eq_none (by simp; omega)]
     rfl
 . intro k hk
   have := List.mem_range.mp hk
   show its.toArray[its.length - 1 - k]? = _
   rw [List.getElem?_toArray, List.getD_eq_getElem?_getD, List.getElem?_eq_getElem (by omega)]
   rfl
section
variable {X : Cx} {e st : Expr} {te : TE} {pos p2 : Pos}
theorem ZlI (he : PE X e te) (hst : PE X st (tC (.int (-1)))) : PE X (.Subscript e (.Slice none none (some st) p2) pos) (tRev X.K te) := by
 intro pins s σ H Q I h
 refine Subscript_ (thn (he pins s σ H _ I h) fun v s1 z0 => ?_)
 obtain ⟨x, H1, I1, r1, q1⟩ := z0
 obtain ⟨l, xs, rfl, hq, q⟩ := q1
 refine wpAny_Slice (thn (Zfl pins s1 σ H1 (fun o H2 => o = none /\ H2 = H1) I1 ⟨rfl, rfl⟩) fun vl s2 ⟨o1, H2, I2, pl, e1, e2⟩ => thn (Zfl pins s2 σ H2 (fun o H3 => o = none /\ H3 = H2) I2 ⟨rfl, rfl⟩) fun vu s3 ⟨o2, H3, I3, pu, e3, e4⟩ => ?_)
 subst e1 e2 e3 e4
 refine thn (Zh3 hst pins s3 σ _ (fun o H4 => o = some (-1) /\ H4 = _) I3 ⟨-1, rfl, rfl, rfl⟩) fun vs s4 z0 => ?_
 obtain ⟨o3, H4, I4, ps, e5, e6⟩ := z0
 subst e5 e6
 have I5 : Inv X pins σ _ { s4 with heap := s4.heap.push { cls := .type "slice", data := .fields #[vl, vu, vs] } } := I4.kept (t' := s4.toks) fun b ob q => Heap.get?_push_of_some _ q
 show wpAny (model X.prog X.w) X.A (subscriptTail e (.Slice none none (some st) p2) v (.ref s4.heap.objs.size)) (EP X pins σ Q) X.xe { s4 with heap := s4.heap.push { cls := .type "slice", data := .fields #[vl, vu, vs] } }
 cases r1
 obtain ⟨its, rv, pL, hz⟩ := I5.list hq
 have hlen := rv.length
 refine tail_any (ops := [.ref l, .ref s4.heap.objs.size]) pL.isList.typeIs slot_list_getitem.lookup ?_ (by with_unfolding_all rfl)
 refine wpAny_getItem_list_slice pL.isList (Heap.IsSliceOf.new ..) pl pu ps (by decide) ?_ (by rw [List.size_toArray] <;> omega)
 rw [Zje]
 exact ⟨.ref _, _, I5.lnew (t' := s4.toks) rv.reverse (by rw [List.length_reverse]; exact hz), rfl, q _ I5.fresh⟩
end
end L2
namespace T
open PySem L2
inductive Kd where
 | lst | frl | tup | ftp | dic (ks : List (List Key)) | ins (C : Addr) (fs : List Str)
 deriving DecidableEq
inductive D where
 | sc (v : V) | hole | node (k : Kd) (o : Bool) (ds : List D)
mutual
noncomputable def shr : D -> D
 | .sc v => .sc v
 | .hole => .hole
 | .node k _ ds => .node k false (shrL ds)
noncomputable def shrL : List D -> List D
 | [] => []
 | d :: ds => shr d :: shrL ds
end
def ZcN (K : Fg) (H : Hp) (a : Addr) (vs : List V) : Kd -> Prop
 | .lst => H a = some (.lst vs)
 | .frl => SqL K H a vs
 | .tup => H a = some (.tup vs)
 | .ftp => SqT K H a vs
 | .dic ks => ks.length = vs.length /\ H a = some (.dT (ks.zip vs))
 | .ins C fs => fs.length = vs.length /\ ∃ dx, H a = some (.ins C dx (fs.zip vs))
def Zas (H : Hp) (a : Addr) (vs : List V) : Kd -> Prop
 | .lst => H a = some (.lst vs)
 | .frl => False
 | .tup => H a = some (.tup vs)
 | .ftp => False
 | .dic ks => ks.length = vs.length /\ H a = some (.dT (ks.zip vs))
 | .ins C fs => fs.length = vs.length /\ ∃ dx, H a = some (.ins C dx (fs.zip vs))
theorem Zas.r {K : Fg} {H : Hp} {a : Addr} {vs : List V} {k : Kd} (h : Zas H a vs k) : ZcN K H a vs k := by
 cases k with
 | lst => exact h
 | frl => exact h.elim
 | tup => exact h
 | ftp => exact h.elim
 | dic ks => exact h
 | ins C fs => exact h
theorem Zas.at {H : Hp} {a : Addr} {vs : List V} {k : Kd} (h : Zas H a vs k) : H a ≠ none := by
 cases k with
 | lst => rw [show H a = _ from h]; simp
 | frl => exact h.elim
 | tup => rw [show H a = _ from h]; simp
 | ftp => exact h.elim
 | dic ks => rw [h.2]; simp
 | ins C fs => obtain ⟨_, dx, e⟩ := h; rw [e]; simp
theorem Zas.eq {H H' : Hp} {a : Addr} {vs : List V} {k : Kd} (h : Zas H a vs k) (e : H' a = H a) : Zas H' a vs k := by
 cases k with
 | lst => exact e.trans h
 | frl => exact h.elim
 | tup => exact e.trans h
 | ftp => exact h.elim
 | dic ks => exact ⟨h.1, e.trans h.2⟩
 | ins C fs => obtain ⟨l, dx, q⟩ := h; exact ⟨l, dx, e.trans q⟩
theorem Same.tupq' {K : Fg} {H H' : Hp} {a : Addr} {xs : List V} (e : Same H H') (h : SqT K H a xs) : SqT K H' a xs := by
 rcases h with (h | ⟨o, h⟩) | h
 . exact .inl (.inl (e _ _ h))
 . exact .inl (.inr ⟨o, e _ _ h⟩)
 . exact .inr h
theorem ZcN.same {K : Fg} {H H' : Hp} {a : Addr} {vs : List V} {k : Kd} (e : Same H H') (h : ZcN K H a vs k) : ZcN K H' a vs k := by
 cases k with
 | lst => exact e _ _ h
 | frl => exact e.seq h
 | tup => exact e _ _ h
 | ftp => exact Same.tupq' e h
 | dic ks => exact ⟨h.1, e _ _ h.2⟩
 | ins C fs => obtain ⟨l, dx, q⟩ := h; exact ⟨l, dx, e _ _ q⟩
noncomputable abbrev Bud := Addr -> Nat
noncomputable def one (a : Addr) : Bud := fun b => if b = a then 1 else 0
mutual
inductive Rep (K : Fg) (H Hs : Hp) : V -> D -> Bud -> Prop
 | sc (v : V) (m : Bud) : Rep K H Hs v (.sc v) m
 | hole (v : V) (m : Bud) : Rep K H Hs v .hole m
 | own {a : Addr} {k : Kd} {vs : List V} {ds : List D} {m m' : Bud} : Zas H a vs k -> RepL K H Hs vs ds m' -> (∀ b, one a b + m' b <= m b) -> Rep K H Hs (.ref a) (.node k true ds) m
 | shd {a : Addr} {k : Kd} {vs : List V} {ds : List D} {m : Bud} : ZcN K Hs a vs k -> RepL K H Hs vs ds (fun _ => 0) -> Rep K H Hs (.ref a) (.node k false ds) m
inductive RepL (K : Fg) (H Hs : Hp) : List V -> List D -> Bud -> Prop
 | nil (m : Bud) : RepL K H Hs [] [] m
 | cons {v : V} {d : D} {vs : List V} {ds : List D} {m1 m2 m : Bud} : Rep K H Hs v d m1 -> RepL K H Hs vs ds m2 -> (∀ b, m1 b + m2 b <= m b) -> RepL K H Hs (v :: vs) (d :: ds) m
end
structure Good (H Hs : Hp) (M : Bud) : Prop where
 sub : Same Hs H
 le : ∀ b, M b <= 1
 ne : ∀ b, M b = 1 -> Hs b = none
 has : ∀ b, M b = 1 -> H b ≠ none
structure Stp (H Hs : Hp) (M : Bud) (H' Hs' : Hp) (M' : Bud) : Prop where
 keep : ∀ b o, H b = some o -> M b = 0 -> H' b = some o
 own : ∀ b, M' b = 1 -> M b = 1 \/ H b = none
 grow : Same Hs Hs'
 shr : ∀ b, Hs b = none -> Hs' b ≠ none -> M b = 1 \/ H b = none
 stay : ∀ b, H b ≠ none -> H' b ≠ none
section
variable {K : Fg} {H Hs H' Hs' H1 Hs1 H2 Hs2 : Hp} {M M' M1 M2 m m1 m2 m' : Bud}
mutual
theorem Rep.mono : ∀ {v : V} {d : D} {m m' : Bud}, Rep K H Hs v d m -> (∀ b, m b <= m' b) -> Rep K H Hs v d m'
 | _, _, _, _, .sc v _, _ => .sc v _
 | _, _, _, _, .hole v _, _ => .hole v _
 | _, _, _, _, .own n r h, l => .own n r fun b => Nat.le_trans (h b) (l b)
 | _, _, _, _, .shd n r, _ => .shd n r
end
theorem RepL.mono {vs : List V} {ds : List D} {m m' : Bud} (h : RepL K H Hs vs ds m) (l : ∀ b, m b <= m' b) : RepL K H Hs vs ds m' := by
 cases h with
 | nil => exact .nil _
 | cons a b c => exact .cons a b fun x => Nat.le_trans (c x) (l x)
mutual
theorem Rep.frame (g : Same Hs Hs') : ∀ {v : V} {d : D} {m : Bud}, (∀ b, m b ≥ 1 -> H b ≠ none -> H' b = H b) -> Rep K H Hs v d m -> Rep K H' Hs' v d m
 | _, _, _, _, .sc v _ => .sc v _
 | _, _, _, _, .hole v _ => .hole v _
 | _, _, m, k, .own (a := a) (m' := m') n r h => by
  have h1 : m a ≥ 1 := by have := h a; simp only [one, if_pos] at this; omega
  refine .own (n.eq (k a h1 n.at)) (RepL.frame g (fun b hb hn => k b ?_ hn) r) h
  have := h b
  omega
 | _, _, _, k, .shd n r => .shd (n.same g) (RepL.frame g (fun b hb => absurd hb (by simp)) r)
theorem RepL.frame (g : Same Hs Hs') : ∀ {vs : List V} {ds : List D} {m : Bud}, (∀ b, m b ≥ 1 -> H b ≠ none -> H' b = H b) -> RepL K H Hs vs ds m -> RepL K H' Hs' vs ds m
 | _, _, _, _, .nil _ => .nil _
 | _, _, m, k, .cons (m1 := m1) (m2 := m2) x y h => by
  refine .cons (Rep.frame g (fun b hb => k b ?_) x) (RepL.frame g (fun b hb => k b ?_) y) h
  . have := h b; omega
  . have := h b; omega
end
theorem Good.drop (g : Good H Hs M) (l : ∀ b, M' b <= M b) : Good H Hs M' :=
 ⟨g.sub, fun b => Nat.le_trans (l b) (g.le b), fun b h => g.ne b (by have := l b; have := g.le b; omega), fun b h => g.has b (by have := l b; have := g.le b; omega)⟩
theorem Stp.drop (s : Stp H Hs M H' Hs' M1) (l : ∀ b, M2 b <= M1 b) (le : ∀ b, M1 b <= 1) : Stp H Hs M H' Hs' M2 :=
 ⟨s.keep, fun b h => s.own b (by have := l b; have := le b; omega), s.grow, s.shr, s.stay⟩
theorem Stp.refl (H Hs : Hp) (M : Bud) : Stp H Hs M H Hs M := ⟨fun _ _ h _ => h, fun _ h => .inl h, Same.refl _, fun _ h h' => absurd h h', fun _ h => h⟩
theorem Zr (g : Good H Hs M) (g1 : Good H1 Hs1 (fun b => m1 b + M1 b)) (s1 : Stp H Hs M H1 Hs1 (fun b => m1 b + M1 b)) (g2 : Good H2 Hs2 M2) (s2 : Stp H1 Hs1 M1 H2 Hs2 M2) :
 Good H2 Hs2 (fun b => m1 b + M2 b) /\ Stp H Hs M H2 Hs2 (fun b => m1 b + M2 b) /\ (∀ b, m1 b ≥ 1 -> H1 b ≠ none -> H2 b = H1 b) := by
 have d : ∀ b, m1 b = 1 -> M2 b = 0 := fun b h => by
  have l1 : m1 b + M1 b <= 1 := g1.le b
  have l2 := g2.le b
  have : M2 b ≠ 1 := fun e => by
   rcases s2.own b e with q | q
   . omega
   . exact g1.has b (by show m1 b + M1 b = 1; omega) q
  omega
 have k1 : ∀ b, m1 b ≥ 1 -> H1 b ≠ none -> H2 b = H1 b := fun b h n => by
  have l1 : m1 b + M1 b <= 1 := g1.le b
  cases q : H1 b with
  | none => exact absurd q n
  | some o => exact s2.keep b o q (by omega)
 refine ⟨⟨g2.sub, fun b => ?_, fun b h => ?_, fun b h => ?_⟩, ⟨fun b o e z => ?_, fun b h => ?_, s1.grow.trans s2.grow, fun b n n' => ?_, fun b n => s2.stay b (s1.stay b n)⟩, k1⟩
 . have l1 : m1 b + M1 b <= 1 := g1.le b
   have l2 := g2.le b
   show m1 b + M2 b <= 1
   by_cases h : m1 b = 1
   . have := d b h; omega
   . omega
 . have h : m1 b + M2 b = 1 := h
   have l1 : m1 b + M1 b <= 1 := g1.le b
   by_cases h1 : m1 b = 1
   . cases q : Hs2 b with
     | none => rfl
     | some o =>
      have n1 : Hs1 b = none := g1.ne b (by show m1 b + M1 b = 1; omega)
      rcases s2.shr b n1 (by rw [q]; simp) with z | z
      . omega
      . exact absurd z (g1.has b (by show m1 b + M1 b = 1; omega))
   . exact g2.ne b (by omega)
 . have h : m1 b + M2 b = 1 := h
   have l1 : m1 b + M1 b <= 1 := g1.le b
   by_cases h1 : m1 b = 1
   . have n := g1.has b (by show m1 b + M1 b = 1; omega)
     rw [k1 b (by omega) n]; exact n
   . exact g2.has b (by omega)
 . have e1 := s1.keep b o e z
   have : ¬ (m1 b + M1 b = 1) := fun q => by
    rcases s1.own b q with w | w
    . omega
    . rw [e] at w; cases w
   have l1 : m1 b + M1 b <= 1 := g1.le b
   exact s2.keep b o e1 (by omega)
 . have h : m1 b + M2 b = 1 := h
   have l1 : m1 b + M1 b <= 1 := g1.le b
   by_cases h1 : m1 b = 1
   . exact s1.own b (by show m1 b + M1 b = 1; omega)
   . rcases s2.own b (by omega) with q | q
     . exact s1.own b (by show m1 b + M1 b = 1; omega)
     . cases w : H b with
       | none => exact .inr rfl
       | some o => exact absurd q (s1.stay b (by rw [w]; simp))
 . cases q : Hs1 b with
   | some o => exact s1.shr b n (by rw [q]; simp)
   | none =>
    rcases s2.shr b q n' with z | z
    . have l1 : m1 b + M1 b <= 1 := g1.le b
      exact s1.own b (by show m1 b + M1 b = 1; omega)
    . cases w : H b with
      | none => exact .inr rfl
      | some o => exact absurd z (s1.stay b (by rw [w]; simp))
end
inductive Rs (α : Type) where
 | ok (a : α) | exc (x : D) (δ : List D) | stuck
noncomputable abbrev M (α : Type) := List D -> Rs (α × List D)
noncomputable def M.ret {α : Type} (a : α) : M α := fun δ => .ok (a, δ)
noncomputable def M.bnd {α β : Type} (c : M α) (f : α -> M β) : M β := fun δ => match c δ with
 | .ok (a, δ') => f a δ'
 | .exc x δ' => .exc x δ'
 | .stuck => .stuck
noncomputable def lift {α : Type} : Option α -> M α
 | some a => M.ret a
 | none => fun _ => .stuck
noncomputable def stk {α : Type} : M α := fun _ => .stuck
inductive Ty where
 | int | bool | str | list | tuple | dict | own (C : Addr)
 deriving DecidableEq
inductive BF where
 | len | abs | str | int | bool | sum | min | max | list | tuple | all | any | sorted | isi (t : Ty) | dict | ord | minL
 deriving DecidableEq
inductive BM where
 | split | join | get | index | count | find | replace | strip | startswith | endswith | isdigit | copy | lower | upper
 deriving DecidableEq
inductive MM where
 | append | extend | pop | popAt | reverse | clear | insert | update | popKey | remove
 deriving DecidableEq
inductive IK where
 | rng1 | rng2 | rng3 | val | valS | enum | zip | rev | items | values
 deriving DecidableEq
inductive Tg where
 | name (i : Nat) | tup (is : List Nat)
structure FI where
 lend : Bool
 run : List D -> Rs (D × List D)
inductive E where
 | k (v : V)
 | g (d : D)
 | v (i : Nat)
 | bin (op : Operator) (a b : E)
 | neg (a : E)
 | cmp (op : CmpOp) (a b : E)
 | chain (op op' : CmpOp) (a b c : E)
 | isN (p : Bool) (a : E)
 | isB (c p : Bool) (a : E)
 | nt (a : E)
 | and (a b : E)
 | or (a b : E)
 | ife (c a b : E)
 | ix (a i : E)
 | sl (a lo hi : E)
 | fld (a : E) (f : Str)
 | lst (es : List E)
 | tup (es : List E)
 | kl (vs : List V)
 | kt (vs : List V)
 | dct0
 | call (f : FI) (es : List E)
 | bf (f : BF) (es : List E)
 | bm (m : BM) (o : E) (es : List E)
 | mut (m : MM) (i : Nat) (ps : List E) (es : List E)
 | meth (A : Addr) (m : Str) (f : FI) (o : E) (es : List E)
 | new (A : Addr) (f : FI) (es : List E)
 | comp (k : Nat) (js : List Nat) (tg : Tg) (ik : IK) (ies : List E) (cond : List E) (elt : E)
 | fs (es : List E)
 | bor (e : E)
 | rev (a : E)
 | dget (o k : E)
 | fldV (i : Nat) (f : Str)
 | tclr (o : E)
 | tapp (o : E) (v : V)
 | newC (A : Addr) (f : FI) (i a b : Nat)
inductive S where
 | asg (i : Nat) (e : E)
 | unp (is : List Nat) (e : E)
 | sub (i : Nat) (ps : List E) (ix : E) (e : E)
 | attr (i : Nat) (f : Str) (e : E)
 | dput (i : Nat) (f : Str) (jx jy : Nat)
 | ex (e : E)
 | ret (e : E)
 | retN
 | iff (c : E) (a b : List S)
 | for_ (tg : Tg) (ik : IK) (ies : List E) (body : List S)
 | while_ (c : E) (body : List S)
 | pass | brk | cnt
 | raise (e : E)
inductive Op where
 | late (i : Nat) | tmp (d : D)
inductive W where
 | sc (v : V) | nd (k : Kd) (ds : List D)
noncomputable def Zag (i : Nat) : M Op := fun δ => match δ[i]? with
 | some (.sc _) => .ok (.late i, δ)
 | some (.node _ _ _) => .ok (.late i, δ)
 | _ => .stuck
noncomputable def Zk (e : E) (c : M D) : M Op := match e with
 | .v i => Zag i
 | _ => c.bnd fun d => M.ret (.tmp d)
noncomputable def view : Op -> M W
 | .tmp (.sc v) => M.ret (.sc v)
 | .tmp (.node k _ ds) => M.ret (.nd k ds)
 | .tmp .hole => stk
 | .late i => fun δ => match δ[i]? with
  | some (.sc v) => .ok (.sc v, δ)
  | some (.node k false ds) => .ok (.nd k ds, δ)
  | some (.node k true ds) => .ok (.nd k (shrL ds), δ.set i (.node k true (shrL ds)))
  | _ => .stuck
noncomputable def views : List Op -> M (List W)
 | [] => M.ret []
 | p :: ps => (view p).bnd fun w => (views ps).bnd fun ws => M.ret (w :: ws)
noncomputable def valV (i : Nat) : M D := fun δ => match δ[i]? with
 | some (.sc v) => .ok (.sc v, δ)
 | some (.node k false ds) => .ok (.node k false ds, δ)
 | some (.node k true ds) => .ok (.node k false (shrL ds), δ.set i (.node k false (shrL ds)))
 | _ => .stuck
noncomputable def newL (ds : List D) : Option D := if ds.length <= sizeLine then some (.node .lst true ds) else none
noncomputable def newT (ds : List D) : Option D := if ds.length <= sizeLine then some (.node .tup true ds) else none
noncomputable def Zan : List D -> Option (List Int)
 | [] => some []
 | .sc (.int i) :: r => (Zan r).map (i :: ·)
 | _ => none
noncomputable def binW : Operator -> W -> W -> Option D
 | .Add, .sc (.int i), .sc (.int j) => some (.sc (.int (i + j)))
 | .Sub, .sc (.int i), .sc (.int j) => some (.sc (.int (i - j)))
 | .Mult, .sc (.int i), .sc (.int j) => if (-(2 ^ 64) < i /\ i < 2 ^ 64) \/ (-(2 ^ 64) < j /\ j < 2 ^ 64) then some (.sc (.int (i * j))) else none
 | .FloorDiv, .sc (.int i), .sc (.int j) => if 0 < j /\ j < 18446744073709551616 then some (.sc (.int (i / j))) else none
 | .Mod, .sc (.int i), .sc (.int j) => if 0 < j then some (.sc (.int (i % j))) else none
 | .Pow, .sc (.int i), .sc (.int j) => if 0 <= j /\ j <= 1000000 /\ i.natAbs < 2 ^ 64 then some (.sc (.int (i ^ j.toNat))) else none
 | .Add, .sc (.str x), .sc (.str y) => if x.length + y.length <= sizeLine then some (.sc (.str (x ++ y))) else none
 | .Add, .nd .lst xs, .nd .lst ys => newL (xs ++ ys)
 | .Mult, .nd .lst xs, .sc (.int n) => if -(2 ^ 63) <= n /\ n < 2 ^ 63 /\ xs.length * n.toNat <= sizeLine then (Zan xs).map fun is => .node .lst true ((List.replicate n.toNat is).flatten.map fun i => .sc (.int i)) else none
 | _, _, _ => none
noncomputable def cmpI (op : CmpOp) (i j : Int) : Option Bool := match op with
 | .Lt => some (decide (i < j)) | .LtE => some (decide (i <= j)) | .Gt => some (decide (j < i)) | .GtE => some (decide (j <= i))
 | _ => none
mutual
noncomputable def py : D -> Option PyData
 | .sc .non => some .none
 | .sc (.bl b) => some (.bool b)
 | .sc (.int i) => some (.int i)
 | .sc (.str x) => some (.str x)
 | .node .lst _ ds => (pyL ds).map .list
 | .node .frl _ ds => (pyL ds).map .list
 | .node .tup _ ds => (pyL ds).map .tuple
 | .node .ftp _ ds => (pyL ds).map .tuple
 | _ => none
noncomputable def pyL : List D -> Option (List PyData)
 | [] => some []
 | d :: ds => (py d).bind fun a => (pyL ds).map (a :: ·)
end
noncomputable def toD : W -> D
 | .sc v => .sc v
 | .nd k ds => .node k false ds
noncomputable def eqPy (a b : PyData) : Option Bool := if SeqAt.shaped a = true /\ SeqAt.shaped b = true then some (PyData.eqv a b) else none
noncomputable def eqW : W -> W -> Option Bool
 | .sc u, .sc v => if scal u v = true then some (decide (u = v)) else (py (.sc u)).bind fun a => (py (.sc v)).bind fun b => eqPy a b
 | x, y => (py (toD x)).bind fun a => (py (toD y)).bind fun b => eqPy a b
noncomputable def cmpW : CmpOp -> W -> W -> Option Bool
 | .Eq, x, y => eqW x y
 | .NotEq, x, y => (eqW x y).map (!·)
 | .NotIn, .sc (.int i), .nd .ftp ds => (Zan ds).map fun is => !decide (i ∈ is)
 | op, .sc (.int i), .sc (.int j) => cmpI op i j
 | _, _, _ => none
noncomputable def ixN' (n : Nat) (i : Int) : Option Nat := if 0 <= i then (if i < n then some i.toNat else none) else if -(n : Int) <= i then some (i + n).toNat else none
noncomputable def ixW : W -> W -> Option D
 | .nd .lst ds, .sc (.int i) => (ixN' ds.length i).bind fun j => ds[j]?
 | .nd .frl ds, .sc (.int i) => (ixN' ds.length i).bind fun j => ds[j]?
 | .nd .tup ds, .sc (.int i) => (ixN' ds.length i).bind fun j => ds[j]?
 | .nd .ftp ds, .sc (.int i) => (ixN' ds.length i).bind fun j => ds[j]?
 | .sc (.str z), .sc (.int i) => if z.length <= sizeLine then ((ixN' z.cps.toList.length i).bind fun j => z.cps.toList[j]?).map fun c => .sc (.str ⟨#[c]⟩) else none
 | _, _ => none
noncomputable def ixW2 (x y : W) : Option D := ixW x y
noncomputable def Zat (op : CmpOp) (x y : W) : Option Bool := cmpW op x y
noncomputable def ZcO (f : Str) : List Str -> List D -> Option D
 | g :: fs, d :: ds => if g = f then some d else ZcO f fs ds
 | _, _ => none
noncomputable def fldW (ok : Addr -> Str -> Bool) (f : Str) : W -> Option D
 | .nd (.ins C fs) ds => if ok C f then ZcO f fs ds else none
 | _ => none
noncomputable def truW : W -> Option Bool
 | .sc (.bl b) => some b
 | .sc (.int i) => some (decide (i ≠ 0))
 | .sc (.str x) => if x.length <= sizeLine then some (decide (x.length ≠ 0)) else none
 | .sc .non => some false
 | .nd .lst ds => some (!ds.isEmpty)
 | .nd .frl ds => some (!ds.isEmpty)
 | .nd .tup ds => some (!ds.isEmpty)
 | .nd .ftp ds => some (!ds.isEmpty)
 | _ => none
noncomputable def tyW : Ty -> W -> Option Bool
 | .int, .sc (.int _) => some true | .int, .sc (.bl _) => some true | .int, .sc (.str _) => some false | .int, .sc .non => some false
 | .int, .nd .lst _ => some false | .int, .nd .tup _ => some false
 | .bool, .sc (.bl _) => some true | .bool, .sc (.int _) => some false | .bool, .sc (.str _) => some false | .bool, .sc .non => some false
 | .bool, .nd .lst _ => some false | .bool, .nd .tup _ => some false
 | .str, .sc (.str _) => some true | .str, .sc (.int _) => some false | .str, .sc (.bl _) => some false | .str, .sc .non => some false
 | .str, .nd .lst _ => some false | .str, .nd .tup _ => some false
 | .list, .nd .lst _ => some true | .list, .nd .tup _ => some false | .list, .sc (.int _) => some false | .list, .sc (.bl _) => some false | .list, .sc (.str _) => some false | .list, .sc .non => some false
 | .tuple, .nd .tup _ => some true | .tuple, .nd .lst _ => some false | .tuple, .sc (.int _) => some false | .tuple, .sc (.bl _) => some false | .tuple, .sc (.str _) => some false | .tuple, .sc .non => some false
 | _, _ => none
noncomputable def Zbi : List D -> Option (List Bool)
 | [] => some []
 | .sc (.bl b) :: r => (Zbi r).map (b :: ·)
 | _ => none
noncomputable def cutD (xs : List D) (lo hi : Option Int) : List D := (xs.drop (HT.sIx xs.length 0 lo)).take (HT.sIx xs.length xs.length hi - HT.sIx xs.length 0 lo)
noncomputable def slD : W -> Option Int -> Option Int -> Option D
 | .nd .lst ds, lo, hi => some (.node .lst true (cutD ds lo hi))
 | .nd .frl ds, lo, hi => some (.node .lst true (cutD ds lo hi))
 | .sc (.str z), lo, hi => if z.length <= sizeLine then some (.sc (.str (Txt.slice z lo hi))) else none
 | _, _, _ => none
noncomputable def intP : W -> Option (Option Int)
 | .sc (.int i) => some (some i)
 | _ => none
noncomputable def Zb9 (e : E) (c : M Op) : M (Option Int) := match e with
 | .k .non => M.ret none
 | _ => (c.bnd view).bnd fun w => lift (intP w)
noncomputable def Zjf : List D -> Option (List Str)
 | [] => some []
 | .sc (.str x) :: r => (Zjf r).map (x :: ·)
 | _ => none
noncomputable def lenB : List W -> Option D
 | [.nd .lst ds] => some (.sc (.int ds.length))
 | [.nd .frl ds] => some (.sc (.int ds.length))
 | [.nd .tup ds] => some (.sc (.int ds.length))
 | [.nd .ftp ds] => some (.sc (.int ds.length))
 | [.sc (.str x)] => if x.length <= sizeLine then some (.sc (.int x.length)) else none
 | _ => none
noncomputable def absB : List W -> Option D
 | [.sc (.int i)] => some (.sc (.int (if i < 0 then -i else i)))
 | _ => none
noncomputable def strB : List W -> Option D
 | [.sc (.int i)] => if i.natAbs.log2 < 1920 then some (.sc (.str (Str.ofString (toString i)))) else none
 | _ => none
noncomputable def intB : List W -> Option D
 | [.sc (.int i)] => some (.sc (.int i))
 | [.sc (.bl b)] => some (.sc (.int (if b then 1 else 0)))
 | [.sc (.str z)] => match intText? z with
  | some n => if z.length <= 640 then some (.sc (.int n)) else none
  | none => none
 | _ => none
noncomputable def Zin : List W -> Option D
 | [.nd .lst ds] => some (.node .lst true ds)
 | [.nd .frl ds] => some (.node .lst true ds)
 | [.nd .tup ds] => some (.node .lst true ds)
 | [.nd .ftp ds] => some (.node .lst true ds)
 | _ => none
noncomputable def Zn8 : List W -> Option D
 | [.nd .lst ds] => some (.node .tup true ds)
 | _ => none
noncomputable def isiB (t : Ty) : List W -> Option D
 | [w] => (tyW t w).map fun b => .sc (.bl b)
 | _ => none
noncomputable def allB : List W -> Option D
 | [.nd .lst ds] => (Zbi ds).map fun bs => .sc (.bl (bs.all id))
 | _ => none
noncomputable def sumB : List W -> Option D
 | [.nd .lst ds] => (Zan ds).map fun is => .sc (.int is.sum)
 | _ => none
noncomputable def minB : List W -> Option D
 | [.sc (.int i), .sc (.int j)] => some (.sc (.int (if j < i then j else i)))
 | _ => none
noncomputable def maxB : List W -> Option D
 | [.sc (.int i), .sc (.int j)] => some (.sc (.int (if j > i then j else i)))
 | _ => none
noncomputable def Zio : List W -> Option D
 | [.nd .lst ds] => (Zan ds).bind fun is => match is with
  | [] => none
  | i :: is => some (.sc (.int (is.foldl (fun a b => if b < a then b else a) i)))
 | _ => none
noncomputable def bfW : BF -> List W -> Option D
 | .len, ws => lenB ws
 | .abs, ws => absB ws
 | .str, ws => strB ws
 | .int, ws => intB ws
 | .list, ws => Zin ws
 | .tuple, ws => Zn8 ws
 | .isi t, ws => isiB t ws
 | .all, ws => allB ws
 | .sum, ws => sumB ws
 | .min, ws => minB ws
 | .max, ws => maxB ws
 | .minL, ws => Zio ws
 | _, _ => none
noncomputable def strW : W -> Option Str
 | .sc (.str z) => some z
 | _ => none
noncomputable def bmW : BM -> Str -> List W -> Option D
 | .split, z, [.sc (.str s)] => if s.cps.size = 1 /\ z.length + 2 <= sizeLine then some (.node .lst true ((Txt.split z s).map fun x => .sc (.str x))) else none
 | .join, z, [.nd .lst ds] => (Zjf ds).bind fun ts => if JoinOk z ts = true then some (.sc (.str (Txt.join z ts))) else none
 | _, _, _ => none
noncomputable def rng (a b : Int) : List D := (List.range (b - a).toNat).map fun (k : Nat) => .sc (.int (a + k))
noncomputable def okR (i : Int) : Bool := decide (-(2 ^ 62) <= i) && decide (i < 2 ^ 62)
noncomputable def ZG : Int -> List D -> List D
 | _, [] => []
 | c, d :: ds => .node .tup false [.sc (.int c), d] :: ZG (c + 1) ds
noncomputable def zipD : List D -> List D -> List D
 | d :: ds, e :: es => .node .tup false [d, e] :: zipD ds es
 | _, _ => []
noncomputable def zipI : List W -> Option (List D)
 | [.nd k ds, .nd k' es] => if (k = .lst \/ k = .frl) /\ (k' = .lst \/ k' = .frl) then some (zipD ds es) else none
 | _ => none
noncomputable def Zlh : List W -> Option (List D)
 | [.nd k ds, .sc (.int c)] => if (k = .lst \/ k = .frl) /\ okR c = true then some (ZG c ds) else none
 | _ => none
noncomputable def Zip : List W -> Option (List D)
 | [.sc (.int n)] => if okR n then some (rng 0 n) else none
 | _ => none
noncomputable def Ziq : List W -> Option (List D)
 | [.sc (.int a), .sc (.int b)] => if okR a && okR b then some (rng a b) else none
 | _ => none
noncomputable def rngS (a b c : Int) : List Int := (List.range (Builtin.Range.rangeSize a b c).toNat).map fun (k : Nat) => a + k * c
noncomputable def Zir : List W -> Option (List D)
 | [.sc (.int a), .sc (.int b), .sc (.int c)] => if okR a && okR b && (decide (c ≠ 0) && decide (-1000000 <= c) && decide (c <= 1000000)) then some ((rngS a b c).map fun i => .sc (.int i)) else none
 | _ => none
noncomputable def valI : List W -> Option (List D)
 | [.nd .lst ds] => some ds
 | [.nd .frl ds] => some ds
 | [.nd .tup ds] => some ds
 | [.nd .ftp ds] => some ds
 | [.sc (.str x)] => some (x.cps.toList.map fun c => .sc (.str ⟨#[c]⟩))
 | _ => none
noncomputable def itW : IK -> List W -> Option (List D)
 | .zip, ws => zipI ws
 | .enum, ws => Zlh ws
 | .rng1, ws => Zip ws
 | .rng2, ws => Ziq ws
 | .rng3, ws => Zir ws
 | .val, ws => valI ws
 | _, _ => none
noncomputable def Zao : Op -> M (W × Option (Nat × D))
 | .tmp (.sc v) => M.ret (.sc v, none)
 | .tmp (.node k _ ds) => M.ret (.nd k (shrL ds), none)
 | .tmp .hole => stk
 | .late i => fun δ => match δ[i]? with
  | some (.sc v) => .ok ((.sc v, none), δ)
  | some (.node k false ds) => .ok ((.nd k ds, none), δ)
  | some (.node k true ds) => .ok ((.nd k (shrL ds), some (i, .node k true (shrL ds))), δ.set i .hole)
  | _ => .stuck
noncomputable def Z1 : List Op -> M (List W × List (Nat × D))
 | [] => M.ret ([], [])
 | p :: ps => (Zao p).bnd fun w => (Z1 ps).bnd fun ws => M.ret (w.1 :: ws.1, w.2.toList ++ ws.2)
noncomputable def Zau : List (Nat × D) -> M Unit
 | [] => M.ret ()
 | (i, d) :: r => fun δ => Zau r (δ.set i d)
noncomputable def walked : List E -> Nat -> Bool
 | [], _ => false
 | .v i :: r, j => i == j || walked r j
 | _ :: r, j => walked r j
noncomputable def ZcP (lend : Bool) : Op -> M D
 | .tmp d => M.ret d
 | .late i => fun δ => match δ[i]? with
  | some (.sc v) => .ok (.sc v, δ)
  | some (.node k false ds) => .ok (.node k false ds, δ)
  | some (.node k true ds) => if lend then .ok (.node k true ds, δ.set i .hole) else .ok (.node k false (shrL ds), δ.set i (.node k false (shrL ds)))
  | _ => .stuck
noncomputable def Zbq (lend : Bool) : List Op -> M (List D)
 | [] => M.ret []
 | p :: ps => (ZcP lend p).bnd fun d => (Zbq lend ps).bnd fun ds => M.ret (d :: ds)
noncomputable def ZdL : Op -> D -> M Unit
 | .tmp _, _ => M.ret ()
 | .late i, d => fun δ => match δ[i]? with
  | some .hole => .ok ((), δ.set i d)
  | _ => .ok ((), δ)
noncomputable def Za5 : List Op -> List D -> M Unit
 | p :: ps, d :: ds => (ZdL p d).bnd fun _ => Za5 ps ds
 | _, _ => M.ret ()
noncomputable def ZaB (fi : FI) (ps : List Op) : M D := (Zbq fi.lend ps).bnd fun ds => match fi.run ds with
 | .ok (d, ds') => (Za5 ps ds').bnd fun _ => M.ret d
 | .exc x _ => fun δ => .exc x δ
 | .stuck => stk
noncomputable def chkI (A : Addr) (m : Str) : Op -> M Unit
 | .late i => fun δ => match δ[i]? with
  | some (.node (.ins B fs) _ _) => if B = A /\ m ∉ fs then .ok ((), δ) else .stuck
  | _ => .stuck
 | .tmp (.node (.ins B fs) _ _) => fun δ => if B = A /\ m ∉ fs then .ok ((), δ) else .stuck
 | _ => stk
noncomputable def newF (C : Addr) (fi : FI) (ps : List Op) : M D := (Zbq fi.lend ps).bnd fun ds => match fi.run (.node (.ins C []) true [] :: ds) with
 | .ok (.sc .non, d :: ds') => (Za5 ps ds').bnd fun _ => M.ret d
 | .ok _ => stk
 | .exc x _ => fun δ => .exc x δ
 | .stuck => stk
noncomputable def asgN (lock : Nat -> Bool) (i : Nat) (d : D) : M Unit := fun δ => if i < δ.length && !lock i then .ok ((), δ.set i d) else .stuck
noncomputable def ZaX (lock : Nat -> Bool) : List Nat -> List D -> M Unit
 | [], [] => M.ret ()
 | i :: is, d :: ds => (asgN lock i d).bnd fun _ => ZaX lock is ds
 | _, _ => stk
noncomputable def asgT (lock : Nat -> Bool) : Tg -> D -> M Unit
 | .name i, d => asgN lock i d
 | .tup is, .node .tup _ ds => ZaX lock is ds
 | .tup _, _ => stk
noncomputable def modS (i : Nat) (f : Kd -> List D -> Option (D × Kd × List D)) : M D := fun δ => match δ[i]? with
 | some (.node k true ds) => match f k ds with
  | some (r, k', ds') => .ok (r, δ.set i (.node k' true ds'))
  | none => .stuck
 | _ => .stuck
noncomputable def mutD : MM -> List W -> Kd -> List D -> Option (D × Kd × List D)
 | .extend, [.nd .lst es], .lst, ds => if ds.length + es.length <= sizeLine then some (.sc .non, .lst, ds ++ es) else none
 | .pop, [], .lst, ds => ds.getLast?.map fun d => (d, .lst, ds.dropLast)
 | .popAt, [.sc (.int i)], .lst, ds => if -(2 ^ 63) <= i /\ i < 2 ^ 63 then (ixN' ds.length i).bind fun j => ds[j]?.map fun d => (d, .lst, ds.eraseIdx j) else none
 | .reverse, [], .lst, ds => some (.sc .non, .lst, ds.reverse)
 | .clear, [], .lst, _ => some (.sc .non, .lst, [])
 | _, _, _, _ => none
noncomputable def appD (d : D) : Kd -> List D -> Option (D × Kd × List D)
 | .lst, ds => if ds.length < sizeLine then some (.sc .non, .lst, ds ++ [d]) else none
 | _, _ => none
noncomputable def appM (i : Nat) : List D -> M D
 | [d] => modS i (appD d)
 | _ => stk
noncomputable def chkL (i : Nat) : M Unit := fun δ => match δ[i]? with
 | some (.node .lst _ _) => .ok ((), δ)
 | _ => .stuck
noncomputable def setD (w : W) (d : D) : Kd -> List D -> Option (D × Kd × List D)
 | .lst, ds => match w with
  | .sc (.int i) => (ixN' ds.length i).map fun j => (.sc .non, .lst, ds.set j d)
  | _ => none
 | _, _ => none
noncomputable def Zap (w : W) (d : D) (k : Kd) (ds : List D) : Option (D × Kd × List D) := setD w d k ds
noncomputable def putN (f : Str) : List Str -> List Str
 | [] => [f]
 | g :: r => if g = f then g :: r else g :: putN f r
noncomputable def putV {α : Type} (f : Str) (d : α) : List Str -> List α -> List α
 | g :: r, x :: ds => if g = f then d :: ds else x :: putV f d r ds
 | _, _ => [d]
noncomputable def putD (ok : Addr -> Str -> Bool) (f : Str) (d : D) : Kd -> List D -> Option (D × Kd × List D)
 | .ins C fs, ds => if fs.length < 1000 /\ ok C f = true then some (.sc .non, .ins C (putN f fs), putV f d fs ds) else none
 | _, _ => none
structure Ctx where
 lock : Nat -> Bool
 fok : Addr -> Str -> Bool
 fuel : Nat
noncomputable def Zc6 : List Nat -> M (List D)
 | [] => M.ret []
 | j :: js => fun δ => match δ[j]? with
  | some d => ((Zc6 js).bnd fun ds => M.ret (d :: ds)) (δ.set j .hole)
  | none => .stuck
noncomputable def Zbj : List Nat -> List D -> M Unit
 | j :: js, d :: ds => fun δ => Zbj js ds (δ.set j d)
 | _, _ => M.ret ()
noncomputable def Z7 (asg : D -> M Unit) (cond : M Bool) (elt : M D) : List D -> List D -> M (List D)
 | [], acc => M.ret acc
 | d :: ds, acc => (asg d).bnd fun _ => cond.bnd fun b => if b then elt.bnd fun x => Z7 asg cond elt ds (acc ++ [x]) else Z7 asg cond elt ds acc
noncomputable def ZV (k : Nat) (js : List Nat) (loop : M (List D)) : M D := (Zc6 js).bnd fun caps δ => match loop (List.replicate k .hole ++ caps) with
 | .ok (acc, δ') => ((Zbj js (δ'.drop k)).bnd fun _ => lift (newL acc)) δ
 | .exc _ _ => .stuck
 | .stuck => .stuck
noncomputable def fmtD : V -> Option Str
 | .int i => if i.natAbs.log2 < 1920 then some (Str.ofString (toString i)) else none
 | .str x => some x
 | .non => some (Str.ofString "None")
 | _ => none
noncomputable def fmtW (acc : Str) : W -> Option Str
 | .sc v => (fmtD v).bind fun z => if z.length <= sizeLine /\ (acc ++ z).length <= sizeLine then some (acc ++ z) else none
 | _ => none
noncomputable def isNW (p : Bool) : W -> D
 | .sc v => .sc (.bl (decide (v = .non) == p))
 | .nd _ _ => .sc (.bl (!p))
noncomputable def isBW (c p : Bool) : W -> Option D
 | .sc (.bl b) => some (.sc (.bl ((b == c) == p)))
 | _ => none
noncomputable def negW : W -> Option D
 | .sc (.int i) => some (.sc (.int (-i)))
 | _ => none
noncomputable def notW : W -> Option D
 | .sc (.bl t) => some (.sc (.bl (!t)))
 | _ => none
noncomputable def andM (b : M D) : W -> M D
 | .sc (.bl true) => b
 | .sc (.bl false) => M.ret (.sc (.bl false))
 | _ => stk
noncomputable def orM (b : M D) : W -> M D
 | .sc (.bl false) => b
 | .sc (.bl true) => M.ret (.sc (.bl true))
 | _ => stk
noncomputable def Zbr (c : M D) : M Bool := c.bnd fun d => lift (match d with | .sc (.bl b) => some b | _ => none)
noncomputable def tdef (e : E) (c : M D) : M Bool := (Zk e c).bnd fun p => (view p).bnd fun w => lift (truW w)
noncomputable def vdef (e : E) (c : M D) : M W := (Zk e c).bnd view
noncomputable def borV (c : M D) : M D := fun δ => match c (shrL δ) with
 | .ok (.sc v, _) => .ok (.sc v, δ)
 | _ => .stuck
noncomputable def Zis (i : Nat) (n : Int) (f : Kd -> List D -> Option (D × Kd × List D)) : M D := fun δ => match δ[i]? with
 | some (.node .lst true ds) => match ixN' ds.length n with
  | some j => match ds[j]? with
   | some (.node .lst true es) => match f .lst es with
    | some (r, k', es') => .ok (r, δ.set i (.node .lst true (ds.set j (.node k' true es'))))
    | none => .stuck
   | _ => .stuck
  | none => .stuck
 | _ => .stuck
noncomputable def mutK : MM -> Int -> Nat -> List E -> M D
 | .append, n, i, [.k v] => Zis i n (appD (.sc v))
 | .clear, n, i, [] => Zis i n (mutD .clear [])
 | _, _, _, _ => stk
noncomputable def Za3 {α : Type} (k : List Key) : List (List Key) -> List α -> Option α
 | j :: ks, d :: ds => if j = k then some d else Za3 k ks ds
 | _, _ => none
noncomputable def dicS : D -> M Unit
 | .node (.dic _) false _ => M.ret ()
 | _ => stk
noncomputable def ZdM : D -> D -> Option D
 | .node (.dic ks) _ vs, .node .lst _ es => (Zan es).bind fun is => match Za3 (is.map Sum.inl) ks vs with
  | none => some (.sc .non)
  | some (.sc v) => some (.sc v)
  | some _ => none
 | _, _ => none
noncomputable def revW : W -> Option D
 | .nd .lst ds => some (.node .lst true ds.reverse)
 | .nd .frl ds => some (.node .lst true ds.reverse)
 | _ => none
noncomputable def idxF (f : Str) : List Str -> Option Nat
 | [] => none
 | g :: fs => if g = f then some 0 else (idxF f fs).map (· + 1)
noncomputable def fldS (ok : Addr -> Str -> Bool) (i : Nat) (f : Str) : M D := fun δ => match δ[i]? with
 | some (.node (.ins C fs) true ds) => if ok C f = true then match idxF f fs with
  | some j => match ds[j]? with
   | some d => .ok (shr d, δ.set i (.node (.ins C fs) true (ds.set j (shr d))))
   | none => .stuck
  | none => .stuck
  else .stuck
 | _ => .stuck
noncomputable def ownL : D -> M D
 | .node .lst true _ => M.ret (.sc .non)
 | _ => stk
noncomputable def Zn9 : D -> M D
 | .node .lst true ds => if ds.length < sizeLine then M.ret (.sc .non) else stk
 | _ => stk
noncomputable def Zpz (A : Addr) (fi : FI) (i a b : Nat) : M D := fun δ => match δ[i]?, δ[a]?, δ[b]? with
 | some (.node .lst true [c1, c2]), some (.sc _), some (.sc _) => match newF A fi [.late a, .late b, .late δ.length, .late (δ.length + 1)] (δ.set i .hole ++ [c1, c2]) with
  | .ok (d, δ') => match δ'.drop δ.length with
   | [c1', c2'] => .ok (d, (δ'.take δ.length).set i (.node .lst true [c1', c2']))
   | _ => .stuck
  | _ => .stuck
 | _, _, _ => .stuck
noncomputable def kPut (k : List Key) (ks : List (List Key)) : List (List Key) := if (ks.any fun j => decide (j = k)) = true then ks else ks ++ [k]
noncomputable def vPut {α : Type} (k : List Key) (d : α) (ks : List (List Key)) (ds : List α) : List α := if (ks.any fun j => decide (j = k)) = true then List.zipWith (fun j x => if j = k then d else x) ks ds else ds ++ [d]
mutual
noncomputable def evb (C : Ctx) : E -> M D × M Bool
 | .k v => let c : M D := M.ret (.sc v); (c, tdef (.k v) c)
 | .g d => let c : M D := M.ret d; (c, tdef (.g d) c)
 | .v i => (valV i, tdef (.v i) (valV i))
 | .bin op a b =>
  let c : M D := (Zk a (evb C a).1).bnd fun p => (Zk b (evb C b).1).bnd fun q => (view p).bnd fun x => (view q).bnd fun y => lift (binW op x y)
  (c, tdef (.bin op a b) c)
 | .neg a =>
  let c : M D := (vdef a (evb C a).1).bnd fun x => lift (negW x)
  (c, tdef (.neg a) c)
 | .cmp op a b =>
  let c : M D := (Zk a (evb C a).1).bnd fun p => (Zk b (evb C b).1).bnd fun q => (view p).bnd fun x => (view q).bnd fun y => lift ((Zat op x y).map fun t => .sc (.bl t))
  (c, Zbr c)
 | .chain op op' a b e =>
  let c : M D := (Zk a (evb C a).1).bnd fun p => (Zk b (evb C b).1).bnd fun q => (view p).bnd fun x => (view q).bnd fun y => (lift (cmpW op x y)).bnd fun t => if t then (Zk e (evb C e).1).bnd fun r => (view q).bnd fun y => (view r).bnd fun z => lift ((cmpW op' y z).map fun t => .sc (.bl t)) else M.ret (.sc (.bl false))
  (c, Zbr c)
 | .isN p a =>
  let c : M D := (vdef a (evb C a).1).bnd fun x => M.ret (isNW p x)
  (c, tdef (.isN p a) c)
 | .isB c p a =>
  let r : M D := (vdef a (evb C a).1).bnd fun x => lift (isBW c p x)
  (r, tdef (.isB c p a) r)
 | .nt a => ((vdef a (evb C a).1).bnd fun w => lift (notW w), (evb C a).2.bnd fun b => M.ret (!b))
 | .and a b => ((vdef a (evb C a).1).bnd (andM (evb C b).1), (evb C a).2.bnd fun t => if t then (evb C b).2 else M.ret false)
 | .or a b => ((vdef a (evb C a).1).bnd (orM (evb C b).1), (evb C a).2.bnd fun t => if t then M.ret true else (evb C b).2)
 | .ife c a b =>
  let r : M D := (evb C c).2.bnd fun t => if t then (evb C a).1 else (evb C b).1
  (r, tdef (.ife c a b) r)
 | .ix a i =>
  let c : M D := (Zk a (evb C a).1).bnd fun p => (Zk i (evb C i).1).bnd fun q => (view p).bnd fun x => (view q).bnd fun y => lift (ixW2 x y)
  (c, tdef (.ix a i) c)
 | .sl a lo hi =>
  let c : M D := (Zk a (evb C a).1).bnd fun p => (Zb9 lo (Zk lo (evb C lo).1)).bnd fun l => (Zb9 hi (Zk hi (evb C hi).1)).bnd fun h => (view p).bnd fun x => lift (slD x l h)
  (c, tdef (.sl a lo hi) c)
 | .fld a f =>
  let c : M D := (vdef a (evb C a).1).bnd fun x => lift (fldW C.fok f x)
  (c, tdef (.fld a f) c)
 | .lst es =>
  let c : M D := (evs C es).bnd fun ds => lift (newL ds)
  (c, tdef (.lst es) c)
 | .tup es =>
  let c : M D := (evs C es).bnd fun ds => lift (newT ds)
  (c, tdef (.tup es) c)
 | .kl vs =>
  let c : M D := lift (newL (vs.map D.sc))
  (c, tdef (.kl vs) c)
 | .kt vs =>
  let c : M D := lift (newT (vs.map D.sc))
  (c, tdef (.kt vs) c)
 | .dct0 =>
  let c : M D := M.ret (.node (.dic []) true [])
  (c, tdef .dct0 c)
 | .call f es =>
  let c : M D := (opds C es).bnd fun ps => ZaB f ps
  (c, tdef (.call f es) c)
 | .bf f es =>
  let c : M D := (opds C es).bnd fun ps => (views ps).bnd fun ws => lift (bfW f ws)
  (c, tdef (.bf f es) c)
 | .bm m o es =>
  let c : M D := (vdef o (evb C o).1).bnd fun w => (lift (strW w)).bnd fun z => (opds C es).bnd fun ps => (views ps).bnd fun ws => lift (bmW m z ws)
  (c, tdef (.bm m o es) c)
 | .mut m i ps es =>
  let c : M D := match m, ps with
   | .append, [] => (chkL i).bnd fun _ => (evs C es).bnd fun ds => appM i ds
   | m, [] => (chkL i).bnd fun _ => (opds C es).bnd fun ps => (views ps).bnd fun ws => modS i (mutD m ws)
   | m, [.k (.int n)] => mutK m n i es
   | _, _ => stk
  (c, tdef (.mut m i ps es) c)
 | .meth A m f o es =>
  let c : M D := (Zk o (evb C o).1).bnd fun p => (chkI A m p).bnd fun _ => (opds C es).bnd fun ps => ZaB f (p :: ps)
  (c, tdef (.meth A m f o es) c)
 | .new A f es =>
  let c : M D := (opds C es).bnd fun ps => newF A f ps
  (c, tdef (.new A f es) c)
 | .comp k js tg ik ies cond elt =>
  let C' : Ctx := { C with lock := fun i => decide (k <= i) }
  let loop (items : List D) : M (List D) := Z7 (asgT C'.lock tg) (tsts C' cond) (evb C' elt).1 items []
  let c : M D := (opds C ies).bnd fun ps => (Z1 ps).bnd fun h => (lift (itW ik h.1)).bnd fun items => (ZV k js (loop items)).bnd fun d => (Zau h.2).bnd fun _ => M.ret d
  (c, tdef (.comp k js tg ik ies cond elt) c)
 | .fs es =>
  let c : M D := fss C es Str.empty
  (c, tdef (.fs es) c)
 | .bor e =>
  let c : M D := borV (evb C e).1
  (c, tdef (.bor e) c)
 | .dget o k =>
  let c : M D := (evb C o).1.bnd fun d => (dicS d).bnd fun _ => (evb C k).1.bnd fun kd => lift (ZdM d kd)
  (c, tdef (.dget o k) c)
 | .rev a =>
  let c : M D := (vdef a (evb C a).1).bnd fun x => lift (revW x)
  (c, tdef (.rev a) c)
 | .fldV i f =>
  let c : M D := fldS C.fok i f
  (c, tdef (.fldV i f) c)
 | .tclr o =>
  let c : M D := (evb C o).1.bnd ownL
  (c, tdef (.tclr o) c)
 | .tapp o v =>
  let c : M D := (evb C o).1.bnd Zn9
  (c, tdef (.tapp o v) c)
 | .newC A f i a b =>
  let c : M D := Zpz A f i a b
  (c, tdef (.newC A f i a b) c)
noncomputable def fss (C : Ctx) : List E -> Str -> M D
 | [], acc => M.ret (.sc (.str acc))
 | e :: es, acc => (vdef e (evb C e).1).bnd fun w => (lift (fmtW acc w)).bnd fun acc' => fss C es acc'
noncomputable def opds (C : Ctx) : List E -> M (List Op)
 | [] => M.ret []
 | e :: es => (Zk e (evb C e).1).bnd fun p => (opds C es).bnd fun ps => M.ret (p :: ps)
noncomputable def evs (C : Ctx) : List E -> M (List D)
 | [] => M.ret []
 | e :: es => (evb C e).1.bnd fun p => (evs C es).bnd fun ps => M.ret (p :: ps)
noncomputable def tsts (C : Ctx) : List E -> M Bool
 | [] => M.ret true
 | e :: es => (evb C e).2.bnd fun b => if b then tsts C es else M.ret false
end
noncomputable abbrev ev (C : Ctx) (e : E) : M D := (evb C e).1
noncomputable abbrev tst (C : Ctx) (e : E) : M Bool := (evb C e).2
inductive Fl where
 | nx | rt (d : D) | bk | ct
noncomputable def forL (asg : D -> M Unit) (body : M Fl) : List D -> M Fl
 | [] => M.ret .nx
 | d :: ds => (asg d).bnd fun _ => body.bnd fun f => match f with
  | .nx => forL asg body ds
  | .ct => forL asg body ds
  | .bk => M.ret .nx
  | .rt x => M.ret (.rt x)
noncomputable def Zg9 (c : M Bool) (body : M Fl) : Nat -> M Fl
 | 0 => stk
 | n + 1 => c.bnd fun b => if b then body.bnd fun f => match f with
  | .nx => Zg9 c body n
  | .ct => Zg9 c body n
  | .bk => M.ret .nx
  | .rt x => M.ret (.rt x)
  else M.ret .nx
noncomputable def movV (i : Nat) : M D := fun δ => match δ[i]? with
 | some (.sc v) => .ok (.sc v, δ)
 | some (.node k o ds) => .ok (.node k o ds, δ.set i .hole)
 | _ => .stuck
noncomputable def retV (C : Ctx) (e : E) : M D := match e with
 | .v i => if C.lock i then valV i else movV i
 | e => ev C e
noncomputable def seqL (c : M Fl) (r : M Fl) : M Fl := c.bnd fun f => match f with
 | .nx => r
 | f => M.ret f
noncomputable def unpM (lock : Nat -> Bool) (is : List Nat) : W -> M Unit
 | .nd .tup ds => ZaX lock is ds
 | .nd .lst ds => ZaX lock is ds
 | _ => stk
noncomputable def subK (i : Nat) (n : Int) (c : M D) : E -> M Fl
 | .k (.int m) => c.bnd fun d => (Zis i n (setD (.sc (.int m)) d)).bnd fun _ => M.ret .nx
 | _ => stk
noncomputable def ZdN (ok : Addr -> Str -> Bool) (i : Nat) (f : Str) (jx jy : Nat) : M Fl := fun δ => match δ[i]?, δ[jx]?, δ[jy]? with
 | some (.node (.ins C fs) true ds), some (.node .lst _ es), some (.sc v) => if ok C f = true then match idxF f fs, Zan es with
  | some j, some is => match ds[j]? with
   | some (.node (.dic ks) true vs) => if vs.length < sizeLine then .ok (.nx, δ.set i (.node (.ins C fs) true (ds.set j (.node (.dic (kPut (is.map Sum.inl) ks)) true (vPut (is.map Sum.inl) (.sc v) ks vs))))) else .stuck
   | _ => .stuck
  | _, _ => .stuck
  else .stuck
 | _, _, _ => .stuck
mutual
noncomputable def ex (C : Ctx) : S -> M Fl
 | .asg i e => (ev C e).bnd fun d => (asgN C.lock i d).bnd fun _ => M.ret .nx
 | .unp is e => (vdef e (ev C e)).bnd fun w => (unpM C.lock is w).bnd fun _ => M.ret .nx
 | .sub i ps ix e => match ps with
  | [] => (ev C e).bnd fun d => (Zag i).bnd fun _ => (vdef ix (ev C ix)).bnd fun w => (modS i (Zap w d)).bnd fun _ => M.ret .nx
  | [.k (.int n)] => subK i n (ev C e) ix
  | _ => stk
 | .attr i f e => (ev C e).bnd fun d => (Zag i).bnd fun _ => (modS i (putD C.fok f d)).bnd fun _ => M.ret .nx
 | .dput i f jx jy => ZdN C.fok i f jx jy
 | .ex e => (ev C e).bnd fun _ => M.ret .nx
 | .ret e => (retV C e).bnd fun d => M.ret (.rt d)
 | .retN => M.ret (.rt (.sc .non))
 | .iff c a b => (tst C c).bnd fun t => if t then exs C a else exs C b
 | .for_ tg ik ies body =>
  let lk : Nat -> Bool := fun j => C.lock j || walked ies j
  (opds C ies).bnd fun ps => (Z1 ps).bnd fun h => (lift (itW ik h.1)).bnd fun items => (forL (asgT lk tg) (exs { C with lock := lk } body) items).bnd fun f => (Zau h.2).bnd fun _ => M.ret f
 | .while_ c body => Zg9 (tst C c) (exs C body) C.fuel
 | .pass => M.ret .nx
 | .brk => M.ret .bk
 | .cnt => M.ret .ct
 | .raise _ => stk
noncomputable def exs (C : Ctx) : List S -> M Fl
 | [] => M.ret .nx
 | s :: r => seqL (ex C s) (exs C r)
end
noncomputable def ZeN (n : Nat) : Rs (Fl × List D) -> Rs (D × List D)
 | .ok (.rt d, δ) => .ok (d, δ.take n)
 | .ok (.nx, δ) => .ok (.sc .non, δ.take n)
 | .ok _ => .stuck
 | .exc x _ => .exc x []
 | .stuck => .stuck
noncomputable def Zj (C : Ctx) (n N : Nat) (body : List S) (ds : List D) : Rs (D × List D) :=
 if ds.length = n then ZeN n (exs { C with lock := fun i => decide (i < n) } body (ds ++ List.replicate (N - n) .hole)) else .stuck
inductive Sep {α : Type} (R : α -> D -> Bud -> Prop) : List α -> List D -> Bud -> Prop
 | nil (m : Bud) : Sep R [] [] m
 | cons {a : α} {d : D} {as : List α} {ds : List D} {m1 m2 m : Bud} : R a d m1 -> Sep R as ds m2 -> (∀ b, m1 b + m2 b <= m b) -> Sep R (a :: as) (d :: ds) m
theorem RepL.sep {K : Fg} {H Hs : Hp} : ∀ {vs : List V} {ds : List D} {m : Bud}, RepL K H Hs vs ds m -> Sep (Rep K H Hs) vs ds m
 | _, _, _, .nil _ => .nil _
 | _, _, _, .cons a b c => .cons a b.sep c
theorem Sep.repL {K : Fg} {H Hs : Hp} : ∀ {vs : List V} {ds : List D} {m : Bud}, Sep (Rep K H Hs) vs ds m -> RepL K H Hs vs ds m
 | _, _, _, .nil _ => .nil _
 | _, _, _, .cons a b c => .cons a b.repL c
section
variable {α β : Type} {R R' : α -> D -> Bud -> Prop}
theorem Sep.length : ∀ {as : List α} {ds : List D} {m : Bud}, Sep R as ds m -> as.length = ds.length
 | _, _, _, .nil _ => rfl
 | _, _, _, .cons _ b _ => by rw [List.length_cons, List.length_cons, b.length]
theorem Sep.mono {as : List α} {ds : List D} {m m' : Bud} (h : Sep R as ds m) (l : ∀ b, m b <= m' b) : Sep R as ds m' := by
 cases h with
 | nil => exact .nil _
 | cons a b c => exact .cons a b fun x => Nat.le_trans (c x) (l x)
theorem Sep.imp : ∀ {as : List α} {ds : List D} {m : Bud}, (∀ a d m', (∀ b, m' b <= m b) -> R a d m' -> R' a d m') -> Sep R as ds m -> Sep R' as ds m
 | _, _, _, _, .nil _ => .nil _
 | _, _, m, f, .cons (m1 := m1) (m2 := m2) x y c => .cons (f _ _ _ (fun b => by have := c b; omega) x) (y.imp fun a d m' l => f a d m' fun b => by have := c b; have := l b; (try dsimp only at *); omega) c
theorem Sep.focus : ∀ {as : List α} {ds : List D} {m : Bud} {i : Nat} {d : D}, Sep R as ds m -> ds[i]? = some d -> ∃ (a : α) (m1 m2 : Bud), as[i]? = some a /\ R a d m1 /\ (∀ b, m1 b + m2 b <= m b) /\
 ∀ (R' : α -> D -> Bud -> Prop) (a' : α) (d' : D) (m' : Bud), (∀ a d m', (∀ b, m' b <= m2 b) -> R a d m' -> R' a d m') -> R' a' d' m' -> Sep R' (as.set i a') (ds.set i d') (fun b => m' b + m2 b)
 | _, _, _, _, _, .nil _, h => by simp at h
 | _, _, m, 0, _, .cons (a := a) (m1 := m1) (m2 := m2) x y c, h => by
  (simp only [List.getElem?_cons_zero, Option.some.injEq] at h)
  subst h
  exact ⟨a, m1, m2, rfl, x, c, fun R' a' d' m' f x' => .cons x' (y.imp f) fun b => Nat.le_refl _⟩
 | _, _, m, i + 1, d, .cons (a := a) (m1 := m1) (m2 := m2) x y c, h => by
  obtain ⟨a', n1, n2, e, r, l, f⟩ := Sep.focus (i := i) y (by simpa using h)
  refine ⟨a', n1, fun b => m1 b + n2 b, by simpa using e, r, fun b => by have := c b; have := l b; (try dsimp only at *); omega, fun R' a'' d'' m' g x' => ?_⟩
  have q := f R' a'' d'' m' (fun a d m' l' => g a d m' fun b => by have := l' b; (try dsimp only at *); omega) x'
  exact .cons (m2 := fun b => m' b + n2 b) (g _ _ _ (fun b => by (try dsimp only at *); omega) x) q fun b => by (try dsimp only at *); omega
theorem Sep.append : ∀ {as bs : List α} {ds es : List D} {m1 m2 : Bud}, Sep R as ds m1 -> Sep R bs es m2 -> Sep R (as ++ bs) (ds ++ es) (fun b => m1 b + m2 b)
 | _, _, _, _, _, _, .nil _, y => y.mono fun b => by (try dsimp only at *); omega
 | _, _, _, _, _, m2, .cons (m2 := n2) x y c, z => .cons (m2 := fun b => n2 b + m2 b) x (y.append z) fun b => by have := c b; omega
theorem Sep.get {as : List α} {ds : List D} {m : Bud} {i : Nat} {d : D} (h : Sep R as ds m) (e : ds[i]? = some d) : ∃ (a : α) (m1 : Bud), as[i]? = some a /\ R a d m1 /\ ∀ b, m1 b <= m b := by
 obtain ⟨a, m1, m2, e, r, l, _⟩ := h.focus e
 exact ⟨a, m1, e, r, fun b => by have := l b; omega⟩
theorem Sep.split : ∀ {as : List α} {ds es : List D} {m : Bud}, Sep R as (ds ++ es) m -> ∃ (a1 a2 : List α) (m1 m2 : Bud), as = a1 ++ a2 /\ Sep R a1 ds m1 /\ Sep R a2 es m2 /\ ∀ b, m1 b + m2 b <= m b
 | as, [], es, m, h => ⟨[], as, fun _ => 0, m, rfl, .nil _, h, fun b => by (try dsimp only at *); omega⟩
 | _, d :: ds, es, m, .cons (a := a) (m1 := m1) x y c => by
  obtain ⟨a1, a2, n1, n2, e, p, q, l⟩ := Sep.split (ds := ds) (es := es) y
  subst e
  exact ⟨a :: a1, a2, fun b => m1 b + n1 b, n2, rfl, .cons x p fun b => Nat.le_refl _, q, fun b => by have := c b; have := l b; (try dsimp only at *); omega⟩
theorem Sep.take {as : List α} {ds : List D} {m : Bud} (h : Sep R as ds m) (n : Nat) : Sep R (as.take n) (ds.take n) m := by
 have e : ds.take n ++ ds.drop n = ds := List.take_append_drop n ds
 rw [<- e] at h
 obtain ⟨a1, a2, m1, m2, q, p, p', l⟩ := h.split
 have hl := p.length
 have hd := h.length
 subst q
 have : (a1 ++ a2).take n = a1 := by
  by_cases hn : n <= ds.length
  . rw [List.take_left' (by rw [hl, List.length_take]; omega)]
  . have e2 : a2 = [] := by
     have := p'.length
     rw [List.length_drop] at this
     exact List.length_eq_zero_iff.mp (by (try dsimp only at *); omega)
    rw [e2, List.append_nil]
    exact List.take_of_length_le (by rw [hl, List.length_take]; omega)
 rw [this]
 exact p.mono fun b => by have := l b; omega
theorem Sep.drop {as : List α} {ds : List D} {m : Bud} (h : Sep R as ds m) (n : Nat) : Sep R (as.drop n) (ds.drop n) m := by
 have e : ds.take n ++ ds.drop n = ds := List.take_append_drop n ds
 rw [<- e] at h
 obtain ⟨a1, a2, m1, m2, q, p, p', l⟩ := h.split
 have hl := p.length
 subst q
 have : (a1 ++ a2).drop n = a2 := by
  by_cases hn : n <= ds.length
  . rw [List.drop_left' (by rw [hl, List.length_take]; omega)]
  . have e2 : a2 = [] := by
     have := p'.length
     rw [List.length_drop] at this
     exact List.length_eq_zero_iff.mp (by (try dsimp only at *); omega)
    rw [e2, List.append_nil]
    exact List.drop_of_length_le (by rw [hl, List.length_take]; omega)
 rw [this]
 exact p'.mono fun b => by have := l b; omega
end
section
variable {K : Fg} {H Hs Hs' : Hp}
mutual
theorem Rep.share (g : Same Hs Hs') : ∀ {v : V} {d : D} {m : Bud}, (∀ b, m b ≥ 1 -> H b ≠ none -> Hs' b = H b) -> Rep K H Hs v d m -> Rep K H Hs' v (shr d) (fun _ => 0)
 | _, _, _, _, .sc v _ => .sc v _
 | _, _, _, _, .hole v _ => .hole v _
 | _, _, m, k, .own (a := a) (m' := m') n r h => by
  have h1 : m a ≥ 1 := by have := h a; simp only [one, if_pos] at this; omega
  refine .shd (Zas.r (n.eq (k a h1 n.at))) (RepL.share g (fun b hb => k b ?_) r)
  have := h b
  omega
 | _, _, _, _, .shd n r => .shd (n.same g) (RepL.share g (fun b hb => absurd hb (by simp)) r)
theorem RepL.share (g : Same Hs Hs') : ∀ {vs : List V} {ds : List D} {m : Bud}, (∀ b, m b ≥ 1 -> H b ≠ none -> Hs' b = H b) -> RepL K H Hs vs ds m -> RepL K H Hs' vs (shrL ds) (fun _ => 0)
 | _, _, _, _, .nil _ => .nil _
 | _, _, m, k, .cons x y h => by
  refine .cons (Rep.share g (fun b hb => k b ?_) x) (RepL.share g (fun b hb => k b ?_) y) fun b => Nat.le_refl _
  . have := h b; omega
  . have := h b; omega
end
noncomputable def shH (H Hs : Hp) (m : Bud) : Hp := fun b => if m b ≥ 1 then H b else Hs b
theorem Zbd {M : Bud} {m : Bud} (g : Good H Hs M) (l : ∀ b, m b <= M b) : Same Hs (shH H Hs m) := fun b o e => by
 unfold shH
 split
 . exact g.sub b o e
 . exact e
theorem Zc7 {m : Bud} : ∀ b, m b ≥ 1 -> H b ≠ none -> shH H Hs m b = H b := fun b h _ => if_pos h
theorem Good.share {m M : Bud} (g : Good H Hs (fun b => m b + M b)) : Good H (shH H Hs m) M where
 sub := fun b o e => by
  unfold shH at e
  split at e
  . exact e
  . exact g.sub b o e
 le := fun b => by have : m b + M b <= 1 := g.le b; omega
 ne := fun b h => by
  have : m b + M b <= 1 := g.le b
  unfold shH
  rw [if_neg (by (try dsimp only at *); omega)]
  exact g.ne b (by show m b + M b = 1; omega)
 has := fun b h => by
  have : m b + M b <= 1 := g.le b
  exact g.has b (by show m b + M b = 1; omega)
theorem Stp.share {m M : Bud} (g : Good H Hs (fun b => m b + M b)) : Stp H Hs (fun b => m b + M b) H (shH H Hs m) M where
 keep := fun _ _ h _ => h
 own := fun b h => .inl (by have : m b + M b <= 1 := g.le b; show m b + M b = 1; omega)
 grow := Zbd g fun b => by (try dsimp only at *); omega
 shr := fun b h h' => by
  unfold shH at h'
  split at h'
  . have : m b + M b <= 1 := g.le b
    exact .inl (by show m b + M b = 1; omega)
  . exact absurd h h'
 stay := fun _ h => h
end
def RepO (K : Fg) (H Hs : Hp) (o : Option V) (d : D) (m : Bud) : Prop := d = .hole \/ ∃ v, o = some v /\ Rep K H Hs v d m
abbrev RepS (K : Fg) (H Hs : Hp) (σ : St) (δ : List D) (m : Bud) : Prop := Sep (RepO K H Hs) σ δ m
section
variable {K : Fg} {H Hs H' Hs' : Hp}
theorem RepO.frame {o : Option V} {d : D} {m : Bud} (g : Same Hs Hs') (k : ∀ b, m b ≥ 1 -> H b ≠ none -> H' b = H b) (h : RepO K H Hs o d m) : RepO K H' Hs' o d m := by
 rcases h with h | ⟨v, e, r⟩
 . exact .inl h
 . exact .inr ⟨v, e, r.frame g k⟩
theorem RepS.frame {σ : St} {δ : List D} {m : Bud} (g : Same Hs Hs') (k : ∀ b, m b ≥ 1 -> H b ≠ none -> H' b = H b) (h : RepS K H Hs σ δ m) : RepS K H' Hs' σ δ m :=
 h.imp fun a d m' l r => RepO.frame g (fun b hb => k b (Nat.le_trans hb (l b))) r
theorem RepL.slots : ∀ {vs : List V} {ds : List D} {m : Bud}, RepL K H Hs vs ds m -> RepS K H Hs (vs.map some) ds m
 | _, _, _, .nil _ => .nil _
 | _, _, _, .cons x y c => .cons (.inr ⟨_, rfl, x⟩) (RepL.slots y) c
theorem holes (o : Nat -> Option V) : ∀ (n : Nat) (m : Bud) (σ : St), σ.length = n -> RepS K H Hs σ (List.replicate n .hole) m
 | 0, m, [], _ => .nil _
 | n + 1, m, o :: σ, h => .cons (m1 := fun _ => 0) (.inl rfl) (holes (fun _ => none) n m σ (by simpa using h)) fun b => by (try dsimp only at *); omega
inductive SlotI (K : Fg) (H Hs : Hp) (σ : St) (δ : List D) (m : Bud) (i : Nat) (d : D) : Prop
 | mk (v : V) (m1 m2 : Bud) (h0 : σ[i]? = some (some v)) (h1 : Rep K H Hs v d m1) (h2 : ∀ b, m1 b + m2 b <= m b) (h3 : ∀ (H' Hs' : Hp) (o : Option V) (d' : D) (m' : Bud), Same Hs Hs' -> (∀ b, m2 b ≥ 1 -> H b ≠ none -> H' b = H b) -> RepO K H' Hs' o d' m' -> RepS K H' Hs' (σ.set i o) (δ.set i d') (fun b => m' b + m2 b)) : SlotI K H Hs σ δ m i d
theorem RepS.slot {σ : St} {δ : List D} {m : Bud} {i : Nat} {d : D} (h : RepS K H Hs σ δ m) (e : δ[i]? = some d) (hd : d ≠ .hole) : SlotI K H Hs σ δ m i d := by
 obtain ⟨o, m1, m2, e1, r, l, f⟩ := h.focus e
 rcases r with r | ⟨v, rfl, r⟩
 . exact absurd r hd
 . exact ⟨v, m1, m2, e1, r, l, fun H' Hs' o d' m' g k x => f _ o d' m' (fun a d m'' l' q => RepO.frame g (fun b hb => k b (Nat.le_trans hb (l' b))) q) x⟩
theorem Z9 {α : Type} : ∀ {l : List α} {i : Nat} {a : α}, l[i]? = some a -> l.set i a = l
 | [], _, _, h => by simp at h
 | b :: l, 0, a, h => by simp at h; subst h; rfl
 | b :: l, i + 1, a, h => by rw [List.set_cons_succ, Z9 (by simpa using h)]
end
open PySem.Spec
inductive BO {α β : Type} (c : M α) (f : α -> M β) (δ : List D) (r : β × List D) : Prop
 | mk (a : α) (δ' : List D) (h : c δ = .ok (a, δ')) (k : f a δ' = .ok r) : BO c f δ r
theorem Zc {α β : Type} {c : M α} {f : α -> M β} {δ : List D} {r : β × List D} (h : c.bnd f δ = .ok r) : BO c f δ r := by
 unfold M.bnd at h
 split at h
 . rename_i a δ' e
   exact ⟨a, δ', e, h⟩
 . cases h
 . cases h
theorem Zg {α : Type} {a : α} {δ : List D} {r : α × List D} (h : M.ret a δ = .ok r) : r = (a, δ) := by
 unfold M.ret at h
 injection h with h
 exact h.symm
theorem ZN {α : Type} {o : Option α} {δ : List D} {a : α} {δ' : List D} (h : lift o δ = .ok (a, δ')) : o = some a /\ δ' = δ := by
 cases o with
 | none => cases h
 | some x =>
  have := Zg h
  cases this
  exact ⟨rfl, rfl⟩
def RepP (K : Fg) (H Hs : Hp) (σ : St) (v : V) : Op -> Bud -> Prop
 | .late i, _ => σ[i]? = some (some v)
 | .tmp d, m => Rep K H Hs v d m
theorem RepP.frame {K : Fg} {H Hs H' Hs' : Hp} {σ : St} {v : V} {p : Op} {m : Bud} (g : Same Hs Hs') (k : ∀ b, m b ≥ 1 -> H b ≠ none -> H' b = H b) (h : RepP K H Hs σ v p m) : RepP K H' Hs' σ v p m := by
 cases p with
 | late i => exact h
 | tmp d => exact Rep.frame g k h
inductive View (K : Fg) (H Hs : Hp) : V -> W -> Bud -> Prop
 | sc (v : V) (m : Bud) : View K H Hs v (.sc v) m
 | nd {a : Addr} {k : Kd} {vs : List V} {ds : List D} {m : Bud} : ZcN K H a vs k -> RepL K H Hs vs ds m -> View K H Hs (.ref a) (.nd k ds) m
theorem View.frame {K : Fg} {H Hs Hs' : Hp} {v : V} {w : W} {m : Bud} (g : Same Hs Hs') (h : View K H Hs v w m) : View K H Hs' v w m := by
 cases h with
 | sc v m => exact .sc v m
 | nd n r => exact .nd n (r.frame g fun _ _ _ => rfl)
section
variable {K : Fg} {H Hs H' Hs' H1 Hs1 H2 Hs2 : Hp} {σ : St} {δ δ' : List D} {M M' B m : Bud}
theorem Good.re (g : Good H Hs M) (l : ∀ b, M' b <= M b := by intro b; (try dsimp only); omega) : Good H Hs M' := g.drop l
theorem Za8 {p : Op} {v : V} {w : W} (g : Good H Hs (fun b => B b + M b)) (s : RepS K H Hs σ δ M) (r : RepP K H Hs σ v p m) (e : view p δ = .ok (w, δ')) :
 ∃ Hs' M', Good H Hs' (fun b => B b + M' b) /\ Stp H Hs (fun b => B b + M b) H Hs' (fun b => B b + M' b) /\ View K H Hs' v w m /\ RepS K H Hs' σ δ' M' := by
 cases p with
 | tmp d =>
  cases d with
  | sc u =>
   have := Zg e
   cases this
   cases r
   exact ⟨Hs, M, g, Stp.refl _ _ _, .sc _ _, s⟩
  | hole => cases e
  | node k o ds =>
   have := Zg e
   cases this
   refine ⟨Hs, M, g, Stp.refl _ _ _, ?_, s⟩
   cases r with
   | own n q l => exact .nd n.r (q.mono fun b => by have := l b; omega)
   | shd n q => exact .nd (n.same g.sub) (q.mono fun b => Nat.zero_le _)
 | late i =>
  have r : σ[i]? = some (some v) := r
  unfold view at e
  dsimp only at e
  split at e
  . rename_i u hi
    cases e
    obtain ⟨v', m1, m2, e1, q, l, f⟩ := s.slot hi (by simp)
    rw [r] at e1
    cases e1
    cases q
    exact ⟨Hs, M, g, Stp.refl _ _ _, .sc _ _, s⟩
  . rename_i k ds hi
    cases e
    obtain ⟨v', m1, m2, e1, q, l, f⟩ := s.slot hi (by simp)
    rw [r] at e1
    cases e1
    cases q with
    | shd n q => exact ⟨Hs, M, g, Stp.refl _ _ _, .nd (n.same g.sub) (q.mono fun b => Nat.zero_le _), s⟩
  . rename_i k ds hi
    cases e
    obtain ⟨v', m1, m2, e1, q, l, f⟩ := s.slot hi (by simp)
    rw [r] at e1
    cases e1
    cases q with
    | @own a _ vs _ _ m' n q l' =>
     have g2 : Good H Hs (fun b => m' b + (B b + (one a b + m2 b))) := g.re fun b => by have := l b; have := l' b; omega
     have hsame := Zbd g2 (m := m') fun b => by omega
     have q2 := RepL.share hsame (Zc7 (H := H) (Hs := Hs) (m := m')) q
     refine ⟨shH H Hs m', fun b => one a b + m2 b, g2.share, ?_, .nd n.r (q2.mono fun b => Nat.zero_le _), ?_⟩
     . have s1 := Stp.share g2
       exact ⟨fun b o h z => h, fun b h => by
        rcases s1.own b h with q | q
        . left
          have : B b + M b <= 1 := g.le b
          have h1 := l b
          have h2 := l' b
          have h3 : m' b + (B b + (one a b + m2 b)) = 1 := q
          show B b + M b = 1
          omega
        . exact .inr q, s1.grow, fun b h h' => by
        rcases s1.shr b h h' with q | q
        . left
          have : B b + M b <= 1 := g.le b
          have h1 := l b
          have h2 := l' b
          have h3 : m' b + (B b + (one a b + m2 b)) = 1 := q
          show B b + M b = 1
          omega
        . exact .inr q, fun b h => h⟩
     . have z := f H (shH H Hs m') (some (.ref a)) (.node k true (shrL ds)) (one a) hsame (fun _ _ _ => rfl) (.inr ⟨_, rfl, .own n q2 fun b => by simp⟩)
       rw [Z9 r] at z
       exact z
  . cases e
def Outs (K : Fg) (H Hs : Hp) (m : Bud) (d : D) (Q : VK) : Prop := ∀ (v : V) (H' : Hp) (m' : Bud), Same H H' -> (∀ b, m' b <= 1) -> (∀ b, m' b = 1 -> H' b ≠ none) -> (∀ b, H b ≠ none -> m' b <= m b) -> Rep K H' Hs v d m' -> Q v H'
theorem Outs.sc {u : V} {Q : VK} (h : Outs K H Hs m (.sc u) Q) : Q u H := h u H (fun _ => 0) (Same.refl _) (fun _ => Nat.zero_le _) (fun _ h => by simp at h) (fun _ _ => Nat.zero_le _) (.sc u _)
theorem Zdv {H : Hp} {p : Addr} {o : HO} (h : H p = none) : Same H (upd H p o) := fun b u e => by
 rw [Zq (ZaM e h)]
 exact e
theorem Outs.new {k : Kd} {ds : List D} {vs : List V} {o : HO} {p : Addr} {Q : VK} (h : Outs K H Hs m (.node k true ds) Q) (hm : ∀ b, m b <= 1) (hh : ∀ b, m b = 1 -> H b ≠ none) (hp : H p = none) (n : Zas (upd H p o) p vs k) (r : RepL K H Hs vs ds m) : Q (.ref p) (upd H p o) := by
 have hs := Zdv (o := o) hp
 have mp : m p = 0 := by
  have := hm p
  by_cases q : m p = 1
  . exact absurd hp (hh p q)
  . omega
 refine h (.ref p) (upd H p o) (fun b => one p b + m b) hs (fun b => ?_) (fun b q => ?_) (fun b q => ?_) (.own n (r.frame (Same.refl _) fun b hb hn => ?_) fun b => Nat.le_refl _)
 . unfold one
   have := hm b
   split
   . rename_i e; subst e; omega
   . omega
 . by_cases e : b = p
   . subst e; rw [Zm]; simp
   . rw [Zq e]
     exact hh b (by simp only [one, if_neg e] at q; omega)
 . have e : b ≠ p := fun e => by subst e; exact q hp
   simp only [one, if_neg e]
   omega
 . have e : b ≠ p := fun e => by subst e; exact hn hp
   rw [Zq e]
theorem Zb3 {H0 Hs0 : Hp} {M0 : Bud} {d : D} {Q : VK} (st : Stp H0 Hs0 M0 H Hs (fun b => B b + M b)) (g : Good H Hs (fun b => B b + M b)) (s : RepS K H Hs σ δ M)
 (q : ∀ (v : V) (H' Hs' : Hp) (m M' : Bud), Good H' Hs' (fun b => m b + M' b) -> Stp H0 Hs0 M0 H' Hs' (fun b => m b + M' b) -> Rep K H' Hs' v d m -> RepS K H' Hs' σ δ M' -> Q v H') : Outs K H Hs B d Q := by
 intro v H' m' hs h1 h2 h3 r
 have hz : ∀ b, H b = none -> M b = 0 /\ B b = 0 := fun b hb => by
  have := g.has b
  have l : B b + M b <= 1 := g.le b
  by_cases e : B b + M b = 1
  . exact absurd hb (this e)
  . omega
 have hst : ∀ b, H b ≠ none -> H' b ≠ none := fun b hb => by
  cases e : H b with
  | none => exact absurd e hb
  | some o => rw [hs b o e]; simp
 refine q v H' Hs m' M ⟨fun b o e => hs b o (g.sub b o e), fun b => ?_, fun b h => ?_, fun b h => ?_⟩ ⟨fun b o e z => hs b o (st.keep b o e z), fun b h => ?_, st.grow, st.shr, fun b h => hst b (st.stay b h)⟩ r (s.frame (Same.refl _) fun b hb hn => ?_)
 . have l : B b + M b <= 1 := g.le b
   have := h1 b
   by_cases e : H b = none
   . have := hz b e; show m' b + M b <= 1; omega
   . have := h3 b e; show m' b + M b <= 1; omega
 . have h : m' b + M b = 1 := h
   have l : B b + M b <= 1 := g.le b
   by_cases e : H b = none
   . cases q : Hs b with
     | none => rfl
     | some o => rw [g.sub b o q] at e; cases e
   . have := h3 b e
     exact g.ne b (by show B b + M b = 1; omega)
 . have h : m' b + M b = 1 := h
   have l : B b + M b <= 1 := g.le b
   by_cases e : m' b = 1
   . exact h2 b e
   . exact hst b (g.has b (by show B b + M b = 1; omega))
 . have h : m' b + M b = 1 := h
   have l : B b + M b <= 1 := g.le b
   by_cases e : H b = none
   . right
     cases w : H0 b with
     | none => rfl
     | some o => exact absurd e (st.stay b (by rw [w]; simp))
   . have := h3 b e
     exact st.own b (by show B b + M b = 1; omega)
 . cases e : H b with
   | none => exact absurd e hn
   | some o => exact hs b o e
theorem RepL.app {vs ws : List V} {ds es : List D} {m1 m2 : Bud} (a : RepL K H Hs vs ds m1) (b : RepL K H Hs ws es m2) : RepL K H Hs (vs ++ ws) (ds ++ es) (fun b => m1 b + m2 b) := (a.sep.append b.sep).repL
theorem RepL.len {vs : List V} {ds : List D} {m : Bud} (a : RepL K H Hs vs ds m) : vs.length = ds.length := a.sep.length
end
inductive tG {α : Type} (K : Fg) (c : M α) (R : Hp -> Hp -> St -> α -> V -> Bud -> Prop) (σ : St) (H : Hp) (Q : VK) : Prop
 | mk (δ : List D) (Hs : Hp) (M : Bud) (a : α) (δ' : List D) (h0 : Good H Hs M) (h1 : RepS K H Hs σ δ M) (h2 : c δ = .ok (a, δ')) (h3 : ∀ (v : V) (H' Hs' : Hp) (m M' : Bud), Good H' Hs' (fun b => m b + M' b) -> Stp H Hs M H' Hs' (fun b => m b + M' b) -> R H' Hs' σ a v m -> RepS K H' Hs' σ δ' M' -> Q v H') : tG K c R σ H Q
def tM (K : Fg) (c : M D) : TE := tG K c fun H Hs _ d v m => Rep K H Hs v d m
def tP (K : Fg) (c : M Op) : TE := tG K c fun H Hs σ p v m => RepP K H Hs σ v p m
inductive tT (K : Fg) (c : M Bool) (σ : St) (H : Hp) (Q : Bool -> Hp -> Prop) : Prop
 | mk (δ : List D) (Hs : Hp) (M : Bud) (b : Bool) (δ' : List D) (h0 : Good H Hs M) (h1 : RepS K H Hs σ δ M) (h2 : c δ = .ok (b, δ')) (h3 : ∀ (H' Hs' : Hp) (M' : Bud), Good H' Hs' M' -> Stp H Hs M H' Hs' M' -> RepS K H' Hs' σ δ' M' -> Q b H') : tT K c σ H Q
def ZaY (K : Fg) (H Hs : Hp) (σ : St) : List V -> List Op -> Bud -> Prop
 | [], [], _ => True
 | v :: vs, p :: ps, m => ∃ m1 m2 : Bud, RepP K H Hs σ v p m1 /\ ZaY K H Hs σ vs ps m2 /\ ∀ b, m1 b + m2 b <= m b
 | _, _, _ => False
theorem ZaY.frame {K : Fg} {H Hs H' Hs' : Hp} {σ : St} (g : Same Hs Hs') : ∀ {vs : List V} {ps : List Op} {m : Bud}, (∀ b, m b ≥ 1 -> H b ≠ none -> H' b = H b) -> ZaY K H Hs σ vs ps m -> ZaY K H' Hs' σ vs ps m
 | [], [], _, _, h => h
 | v :: vs, p :: ps, m, k, ⟨m1, m2, a, b, l⟩ => ⟨m1, m2, a.frame g fun c hc => k c (by have := l c; omega), b.frame g fun c hc => k c (by have := l c; omega), l⟩
 | [], _ :: _, _, _, h => h.elim
 | _ :: _, [], _, _, h => h.elim
inductive tPs (K : Fg) (c : M (List Op)) (σ : St) (H : Hp) (Q : List V -> Hp -> Prop) : Prop
 | mk (δ : List D) (Hs : Hp) (M : Bud) (a : List Op) (δ' : List D) (h0 : Good H Hs M) (h1 : RepS K H Hs σ δ M) (h2 : c δ = .ok (a, δ')) (h3 : ∀ (vs : List V) (H' Hs' : Hp) (m M' : Bud), Good H' Hs' (fun b => m b + M' b) -> Stp H Hs M H' Hs' (fun b => m b + M' b) -> ZaY K H' Hs' σ vs a m -> RepS K H' Hs' σ δ' M' -> Q vs H') : tPs K c σ H Q
inductive tDs (K : Fg) (c : M (List D)) (σ : St) (H : Hp) (Q : List V -> Hp -> Prop) : Prop
 | mk (δ : List D) (Hs : Hp) (M : Bud) (a : List D) (δ' : List D) (h0 : Good H Hs M) (h1 : RepS K H Hs σ δ M) (h2 : c δ = .ok (a, δ')) (h3 : ∀ (vs : List V) (H' Hs' : Hp) (m M' : Bud), Good H' Hs' (fun b => m b + M' b) -> Stp H Hs M H' Hs' (fun b => m b + M' b) -> RepL K H' Hs' vs a m -> RepS K H' Hs' σ δ' M' -> Q vs H') : tDs K c σ H Q
section
variable {X : Cx} {e a b : Expr} {es : List Expr} {pos : Pos}
theorem PE.imp {t t' : TE} (h : PE X e t) (w : ∀ σ H Q, t' σ H Q -> t σ H Q) : PE X e t' := fun pins s σ H Q I q => h pins s σ H Q I (w σ H Q q)
theorem PT.imp {t t' : TT} (h : PT X e t) (w : ∀ σ H Q, t' σ H Q -> t σ H Q) : PT X e t' := fun pins s σ H Q I q => h pins s σ H Q I (w σ H Q q)
theorem PA.imp {t t' : TA} (h : PA X es t) (w : ∀ σ H Q, t' σ H Q -> t σ H Q) : PA X es t' := fun pos pins s σ H Q I q => h pos pins s σ H Q I (w σ H Q q)
theorem Zav {H Hs : Hp} {M : Bud} (g : Good H Hs M) : Good H Hs (fun b => (fun _ => 0) b + M b) := g.drop fun b => by simp
theorem stp0 (H Hs : Hp) (M : Bud) : Stp H Hs M H Hs (fun b => (fun _ => 0) b + M b) := by
 have e : (fun b => (fun _ => 0) b + M b) = M := by funext b; simp
 rw [e]
 exact Stp.refl H Hs M
theorem ok_k {v : V} (h : PE X e (tC v)) : PE X e (tM X.K (M.ret (.sc v))) := PE.imp h fun σ H Q z0 => by
 obtain ⟨δ, Hs, M, d, δ', g, r, e, q⟩ := z0
 have := Zg e
 cases this
 exact q v H Hs (fun _ => 0) M (Zav g) (stp0 H Hs M) (.sc v _) r
theorem ZhA {i : Nat} (h : PE X e (tVar i)) : PE X e (tP X.K (Zag i)) := PE.imp h fun σ H Q z0 => by
 obtain ⟨δ, Hs, M, p, δ', g, r, e, q⟩ := z0
 have fin : ∀ {d : D}, δ[i]? = some d -> d ≠ .hole -> p = .late i -> δ' = δ -> tVar i σ H Q := fun hd hn e1 e2 => by
  subst e1 e2
  obtain ⟨v, m1, m2, e3, _⟩ := r.slot hd hn
  exact ⟨v, e3, q v H Hs (fun _ => 0) M (Zav g) (stp0 H Hs M) e3 r⟩
 unfold Zag at e
 split at e
 . rename_i hd
   injection e with e
   cases e
   exact fin hd (by simp) rfl rfl
 . rename_i hd
   injection e with e
   cases e
   exact fin hd (by simp) rfl rfl
 . cases e
theorem ok_v {i : Nat} (h : PE X e (tVar i)) : PE X e (tM X.K (valV i)) := PE.imp h fun σ H Q z0 => by
 obtain ⟨δ, Hs, M, d, δ', g, s, e, q⟩ := z0
 unfold valV at e
 split at e
 . rename_i u hd
   injection e with e
   cases e
   obtain ⟨v, m1, m2, e3, r, _⟩ := s.slot hd (by simp)
   cases r
   exact ⟨u, e3, q u H Hs (fun _ => 0) M (Zav g) (stp0 H Hs M) (.sc _ _) s⟩
 . rename_i k ds hd
   injection e with e
   cases e
   obtain ⟨v, m1, m2, e3, r, _⟩ := s.slot hd (by simp)
   cases r with
   | shd n r => exact ⟨_, e3, q _ H Hs (fun _ => 0) M (Zav g) (stp0 H Hs M) (.shd n r) s⟩
 . rename_i k ds hd
   injection e with e
   cases e
   obtain ⟨v, m1, m2, e3, r, l, f⟩ := s.slot hd (by simp)
   refine ⟨v, e3, ?_⟩
   have g2 : Good H Hs (fun b => m1 b + m2 b) := g.re fun b => by have := l b; omega
   have hsame := Zbd g2 (m := m1) fun b => by omega
   have r2 := Rep.share hsame (Zc7 (H := H) (Hs := Hs) (m := m1)) r
   have st := Stp.share g2
   refine q v H (shH H Hs m1) (fun _ => 0) m2 (Zav g2.share) ⟨fun b o h _ => h, fun b h => ?_, st.grow, fun b h h' => ?_, fun b h => h⟩ r2 ?_
   . have h : (fun _ => 0) b + m2 b = 1 := h
     have := l b
     have := g.le b
     left; simp at h; omega
   . rcases st.shr b h h' with z | z
     . have z : m1 b + m2 b = 1 := z
       have := l b
       have := g.le b
       left; omega
     . exact .inr z
   . have z := f H (shH H Hs m1) (some v) (.node k false (shrL ds)) (fun _ => 0) hsame (fun _ _ _ => rfl) (.inr ⟨v, rfl, r2⟩)
     rw [Z9 e3] at z
     exact z.mono fun b => by simp
 . cases e
theorem Za {c : M D} (h : PE X e (tM X.K c)) : PE X e (tP X.K (c.bnd fun d => M.ret (.tmp d))) := PE.imp h fun σ H Q z0 => by
 obtain ⟨δ, Hs, M, p, δ', g, s, e, q⟩ := z0
 obtain ⟨d, δ1, e1, e2⟩ := Zc e
 have := Zg e2
 cases this
 exact ⟨δ, Hs, M, d, _, g, s, e1, fun v H' Hs' m M' g' st r s' => q v H' Hs' m M' g' st r s'⟩
theorem seq2 {K : Fg} {ca cb : M Op} {σ : St} {H Hs : Hp} {M : Bud} {δ δ1 δ2 : List D} {p q : Op} {R : V -> V -> Hp -> Prop} (g : Good H Hs M) (s : RepS K H Hs σ δ M) (e1 : ca δ = .ok (p, δ1)) (e2 : cb δ1 = .ok (q, δ2))
 (h : ∀ (x y : V) (H2 Hs2 : Hp) (m1 m2 M2 : Bud), Good H2 Hs2 (fun b => (m1 b + m2 b) + M2 b) -> Stp H Hs M H2 Hs2 (fun b => (m1 b + m2 b) + M2 b) -> RepP K H2 Hs2 σ x p m1 -> RepP K H2 Hs2 σ y q m2 -> RepS K H2 Hs2 σ δ2 M2 -> R x y H2) :
 tP K ca σ H fun x H1 => tP K cb σ H1 fun y H2 => R x y H2 := by
 refine ⟨δ, Hs, M, p, δ1, g, s, e1, fun x H1 Hs1 m1 M1 g1 st1 r1 s1 => ⟨δ1, Hs1, M1, q, δ2, g1.re, s1, e2, fun y H2 Hs2 m2 M2 g2 st2 r2 s2 => ?_⟩⟩
 obtain ⟨G, S, k⟩ := Zr g g1 st1 g2 st2
 have le : ∀ b, m1 b + (m2 b + M2 b) <= 1 := G.le
 exact h x y H2 Hs2 m1 m2 M2 G.re (S.drop (fun b => by omega) le) (r1.frame st2.grow k) r2 s2
theorem Zit {K : Fg} {σ : St} {H Hs : Hp} {m1 m2 M : Bud} {δ δ1 δ2 : List D} {p q : Op} {x y : V} {w1 w2 : W} (g : Good H Hs (fun b => (m1 b + m2 b) + M b)) (s : RepS K H Hs σ δ M) (r1 : RepP K H Hs σ x p m1) (r2 : RepP K H Hs σ y q m2)
 (e1 : view p δ = .ok (w1, δ1)) (e2 : view q δ1 = .ok (w2, δ2)) : ∃ Hs' M', Good H Hs' (fun b => (m1 b + m2 b) + M' b) /\ Stp H Hs (fun b => (m1 b + m2 b) + M b) H Hs' (fun b => (m1 b + m2 b) + M' b) /\ View K H Hs' x w1 m1 /\ View K H Hs' y w2 m2 /\ RepS K H Hs' σ δ2 M' := by
 obtain ⟨Hs1, M1, g1, st1, v1, s1⟩ := Za8 (B := fun b => m1 b + m2 b) g s r1 e1
 obtain ⟨Hs2, M2, g2, st2, v2, s2⟩ := Za8 (B := fun b => m1 b + m2 b) g1 s1 (r2.frame st1.grow fun _ _ _ => rfl) e2
 refine ⟨Hs2, M2, g2, ?_, v1.frame st2.grow, v2, s2⟩
 have z := Zr (m1 := fun _ => 0) g (g1.re fun b => by simp) (st1.drop (fun b => by simp) g1.le) g2 st2
 exact z.2.1.drop (fun b => by simp) z.1.le
inductive r2W (K : Fg) (f : W -> W -> Option D) (x y : V) (H : Hp) (Q : VK) : Prop
 | mk (Hs : Hp) (w1 w2 : W) (m1 m2 : Bud) (d : D) (h0 : Same Hs H) (h1 : (∀ b, m1 b + m2 b <= 1)) (h2 : (∀ b, m1 b + m2 b = 1 -> H b ≠ none)) (h3 : View K H Hs x w1 m1) (h4 : View K H Hs y w2 m2) (h5 : f w1 w2 = some d) (h6 : Outs K H Hs (fun b => m1 b + m2 b) d Q) : r2W K f x y H Q
theorem op2 {K : Fg} {ca cb : M Op} {f : W -> W -> Option D} {σ : St} {H : Hp} {Q : VK} (h : tM K (ca.bnd fun p => cb.bnd fun q => (view p).bnd fun x => (view q).bnd fun y => lift (f x y)) σ H Q) : tOp (r2W K f) (tP K ca) (tP K cb) σ H Q := by
 obtain ⟨δ, Hs, M, d, δ', g, s, e, q⟩ := h
 obtain ⟨p, δ1, e1, e⟩ := Zc e
 obtain ⟨p2, δ2, e2, e⟩ := Zc e
 obtain ⟨w1, δ3, e3, e⟩ := Zc e
 obtain ⟨w2, δ4, e4, e⟩ := Zc e
 obtain ⟨e5, rfl⟩ := ZN e
 refine seq2 g s e1 e2 fun x y H2 Hs2 m1 m2 M2 g2 st2 r1 r2 s2 => ?_
 obtain ⟨Hs3, M3, g3, st3, v1, v2, s3⟩ := Zit g2 s2 r1 r2 e3 e4
 have z := Zr (m1 := fun _ => 0) g (g2.re fun b => by simp) (st2.drop (fun b => by simp) g2.le) g3 st3
 have st : Stp H Hs M H2 Hs3 (fun b => (m1 b + m2 b) + M3 b) := z.2.1.drop (fun b => by simp) z.1.le
 exact ⟨Hs3, w1, w2, m1, m2, d, g3.sub, fun b => by have : (m1 b + m2 b) + M3 b <= 1 := g3.le b; omega, fun b hb => g3.has b (by have : (m1 b + m2 b) + M3 b <= 1 := g3.le b; show (m1 b + m2 b) + M3 b = 1; omega), v1, v2, e5, Zb3 st g3 s3 q⟩
theorem ZnA {op : Operator} {ca cb : M Op} (ho : OpR X (binaryOp op) (r2W X.K (binW op))) (ha : PE X a (tP X.K ca)) (hb : PE X b (tP X.K cb)) :
 PE X (.BinOp a op b pos) (tM X.K (ca.bnd fun p => cb.bnd fun q => (view p).bnd fun x => (view q).bnd fun y => lift (binW op x y))) := PE.imp (Zpm ho ha hb) fun σ H Q h => op2 h
theorem Zkr : OpR X (binaryOp .FloorDiv) (rI (fun _ j => 0 < j /\ j < 18446744073709551616) fun i j => .int (i / j)) := opI fun i j _ _ _ _ _ hc q => by
 have h1 : (0 : Int) < j := hc.1
 have h2 : j < 18446744073709551616 := hc.2
 refine PyProof.Rows.floordiv_int (by omega) (by rw [Int.fdiv_eq_ediv_of_nonneg i (by omega)]; exact q) (.inl (PyProof.noPylong_of_log2 ?_))
 by_cases h0 : j.natAbs = 0
 . rw [h0]; decide +kernel
 . have : j.natAbs.log2 < 64 := (Nat.log2_lt h0).mpr (by omega)
   omega
theorem Zar {K : Fg} {H Hs : Hp} : ∀ {ds : List D} {vs : List V} {m : Bud} {is : List Int}, RepL K H Hs vs ds m -> Zan ds = some is -> vs = is.map V.int
 | [], _, _, is, .nil _, h => by simp only [Zan, Option.some.injEq] at h; subst h; rfl
 | d :: ds, _, _, is, .cons x y _, h => by
  unfold Zan at h
  split at h
  . rename_i hh; cases hh
  . rename_i i r hh
    injection hh with h1 h2
    subst h1 h2
    (simp only [Option.map_eq_some_iff] at h)
    obtain ⟨js, h, rfl⟩ := h
    cases x
    rw [Zar y h]
    rfl
  . cases h
theorem ZcQ {K : Fg} {H Hs : Hp} : ∀ (l : List Int), RepL K H Hs (l.map V.int) (l.map fun i => D.sc (.int i)) (fun _ => 0)
 | [] => .nil _
 | i :: l => .cons (m1 := fun _ => 0) (m2 := fun _ => 0) (.sc _ _) (ZcQ l) fun b => by simp
theorem Zks {K : Fg} {H Hs : Hp} (k : Nat) (is : List Int) : RepL K H Hs (List.replicate k (is.map V.int)).flatten ((List.replicate k is).flatten.map fun i => D.sc (.int i)) (fun _ => 0) := by
 have z := ZcQ (K := K) (H := H) (Hs := Hs) (List.replicate k is).flatten
 rw [List.map_flatten, List.map_replicate] at z
 exact z
theorem ZnB (op : Operator) : OpR X (binaryOp op) (r2W X.K (binW op)) := by
 intro pins s σ H x y v u Q I rx ry h
 obtain ⟨Hs, w1, w2, m1, m2, d, hs, h1, h2, v1, v2, e, o⟩ := h
 unfold binW at e
 split at e
 . cases e; cases v1; cases v2; exact Zne pins s σ H _ _ v u Q I rx ry ⟨_, _, rfl, rfl, o.sc⟩
 . cases e; cases v1; cases v2; exact Znf pins s σ H _ _ v u Q I rx ry ⟨_, _, rfl, rfl, o.sc⟩
 . split at e
   . rename_i hc; cases e; cases v1; cases v2; exact Zng pins s σ H _ _ v u Q I rx ry ⟨_, _, rfl, rfl, hc, o.sc⟩
   . cases e
 . split at e
   . rename_i hc; cases e; cases v1; cases v2; exact Zkr pins s σ H _ _ v u Q I rx ry ⟨_, _, rfl, rfl, hc, o.sc⟩
   . cases e
 . split at e
   . rename_i hc; cases e; cases v1; cases v2; exact Znh pins s σ H _ _ v u Q I rx ry ⟨_, _, rfl, rfl, hc, o.sc⟩
   . cases e
 . split at e
   . rename_i hc; cases e; cases v1; cases v2; exact Zni pins s σ H _ _ v u Q I rx ry ⟨_, _, rfl, rfl, hc, o.sc⟩
   . cases e
 . split at e
   . rename_i hc; cases e; cases v1; cases v2; exact ZhY pins s σ H _ _ v u Q I rx ry ⟨_, _, rfl, rfl, hc, o.sc⟩
   . cases e
 . unfold newL at e
   split at e
   . rename_i hc
     cases e
     cases v1 with
     | nd n1 r1 => cases v2 with
      | nd n2 r2 =>
       have l1 := r1.len
       have l2 := r2.len
       rw [List.length_append] at hc
       exact Znq pins s σ H _ _ v u Q I rx ry ⟨_, _, _, _, rfl, rfl, n1, n2, by omega, fun p hp => o.new h1 h2 hp (show upd H p _ p = _ from Zm) (r1.app r2)⟩
   . cases e
 . split at e
   . rename_i hc
     simp only [Option.map_eq_some_iff] at e
     obtain ⟨is, ei, rfl⟩ := e
     cases v1 with
     | nd n1 r1 =>
      cases v2
      have hl := r1.len
      have ex := Zar r1 ei
      subst ex
      refine Znr pins s σ H _ _ v u Q I rx ry ⟨_, _, _, rfl, rfl, n1, hc.1, hc.2.1, by rw [hl]; exact hc.2.2, fun p hp => o.new h1 h2 hp (show upd H p _ p = _ from Zm) ?_⟩
      exact (Zks _ is).mono fun b => Nat.zero_le _
   . cases e
 . cases e
end
mutual
theorem Rep.den {K : Fg} {H Hs : Hp} (g : Same Hs H) : ∀ {v : V} {d : D} {m : Bud} {a : PyData}, Rep K H Hs v d m -> py d = some a -> Den K H v a
 | _, _, _, _, .sc .non _, h => by simp only [py, Option.some.injEq] at h; subst h; exact .non
 | _, _, _, _, .sc (.bl b) _, h => by simp only [py, Option.some.injEq] at h; subst h; exact .bl b
 | _, _, _, _, .sc (.int b) _, h => by simp only [py, Option.some.injEq] at h; subst h; exact .int b
 | _, _, _, _, .sc (.str b) _, h => by simp only [py, Option.some.injEq] at h; subst h; exact .str b
 | _, _, _, _, .sc (.byt b) _, h => by simp [py] at h
 | _, _, _, _, .sc (.flt b) _, h => by simp [py] at h
 | _, _, _, _, .sc (.ref b) _, h => by simp [py] at h
 | _, _, _, _, .sc (.ty b) _, h => by simp [py] at h
 | _, _, _, _, .hole v _, h => by simp [py] at h
 | _, _, _, _, .own (k := .lst) n r _, h => by
  simp only [py, Option.map_eq_some_iff] at h
  obtain ⟨x, h, rfl⟩ := h
  exact .lst (.inl (.inl n)) (RepL.den g r h)
 | _, _, _, _, .own (k := .frl) n r _, h => n.elim
 | _, _, _, _, .own (k := .tup) n r _, h => by
  simp only [py, Option.map_eq_some_iff] at h
  obtain ⟨x, h, rfl⟩ := h
  exact .tup (.inl (.inl n)) (RepL.den g r h)
 | _, _, _, _, .own (k := .ftp) n r _, h => n.elim
 | _, _, _, _, .own (k := .dic _) n r _, h => by simp [py] at h
 | _, _, _, _, .own (k := .ins _ _) n r _, h => by simp [py] at h
 | _, _, _, _, .shd (k := .lst) n r, h => by
  simp only [py, Option.map_eq_some_iff] at h
  obtain ⟨x, h, rfl⟩ := h
  exact .lst (.inl (.inl (g _ _ n))) (RepL.den g r h)
 | _, _, _, _, .shd (k := .frl) n r, h => by
  simp only [py, Option.map_eq_some_iff] at h
  obtain ⟨x, h, rfl⟩ := h
  exact .lst (g.seq n) (RepL.den g r h)
 | _, _, _, _, .shd (k := .tup) n r, h => by
  simp only [py, Option.map_eq_some_iff] at h
  obtain ⟨x, h, rfl⟩ := h
  exact .tup (.inl (.inl (g _ _ n))) (RepL.den g r h)
 | _, _, _, _, .shd (k := .ftp) n r, h => by
  simp only [py, Option.map_eq_some_iff] at h
  obtain ⟨x, h, rfl⟩ := h
  exact .tup (Same.tupq' g n) (RepL.den g r h)
 | _, _, _, _, .shd (k := .dic _) n r, h => by simp [py] at h
 | _, _, _, _, .shd (k := .ins _ _) n r, h => by simp [py] at h
theorem RepL.den {K : Fg} {H Hs : Hp} (g : Same Hs H) : ∀ {vs : List V} {ds : List D} {m : Bud} {as : List PyData}, RepL K H Hs vs ds m -> pyL ds = some as -> DenL K H vs as
 | _, _, _, _, .nil _, h => by simp only [pyL, Option.some.injEq] at h; subst h; exact .nil
 | _, _, _, _, .cons x y _, h => by
  simp only [pyL, Option.bind_eq_some_iff, Option.map_eq_some_iff] at h
  obtain ⟨a, h1, as, h2, rfl⟩ := h
  exact .cons (Rep.den g x h1) (RepL.den g y h2)
end
theorem View.den {K : Fg} {H Hs : Hp} (g : Same Hs H) {v : V} {w : W} {m : Bud} {a : PyData} (h : View K H Hs v w m) (e : py (toD w) = some a) : Den K H v a := by
 cases h with
 | sc v m => exact Rep.den g (.sc v m) e
 | @nd ad k vs ds m n r =>
  cases k with
  | lst =>
   simp only [toD, py, Option.map_eq_some_iff] at e
   obtain ⟨x, e, rfl⟩ := e
   exact .lst (.inl (.inl n)) (r.den g e)
  | frl =>
   simp only [toD, py, Option.map_eq_some_iff] at e
   obtain ⟨x, e, rfl⟩ := e
   exact .lst n (r.den g e)
  | tup =>
   simp only [toD, py, Option.map_eq_some_iff] at e
   obtain ⟨x, e, rfl⟩ := e
   exact .tup (.inl (.inl n)) (r.den g e)
  | ftp =>
   simp only [toD, py, Option.map_eq_some_iff] at e
   obtain ⟨x, e, rfl⟩ := e
   exact .tup n (r.den g e)
  | dic ks => simp [toD, py] at e
  | ins C fs => simp [toD, py] at e
section
variable {X : Cx} {e a b c : Expr} {es rest : List Expr} {pos : Pos}
theorem ZlJ {a b : PyData} {t : Bool} (h : eqPy a b = some t) : SeqAt.shaped a = true /\ SeqAt.shaped b = true /\ PyData.eqv a b = t := by
 unfold eqPy at h
 split at h
 . rename_i q
   exact ⟨q.1, q.2, Option.some.inj h⟩
 . cases h
theorem ZeO {K : Fg} {H Hs : Hp} (g : Same Hs H) {x y : V} {w1 w2 : W} {m1 m2 : Bud} {t : Bool} (v1 : View K H Hs x w1 m1) (v2 : View K H Hs y w2 m2) (h : eqW w1 w2 = some t) :
 (scal x y = true /\ decide (x = y) = t) \/ ∃ d e, Den K H x d /\ Den K H y e /\ SeqAt.shaped d = true /\ SeqAt.shaped e = true /\ PyData.eqv d e = t := by
 have go : ((py (toD w1)).bind fun a => (py (toD w2)).bind fun b => eqPy a b) = some t -> ∃ d e, Den K H x d /\ Den K H y e /\ SeqAt.shaped d = true /\ SeqAt.shaped e = true /\ PyData.eqv d e = t := fun q => by
  simp only [Option.bind_eq_some_iff] at q
  obtain ⟨d, q1, e, q2, q3⟩ := q
  obtain ⟨s1, s2, s3⟩ := ZlJ q3
  exact ⟨d, e, v1.den g q1, v2.den g q2, s1, s2, s3⟩
 cases v1 with
 | sc u _ => cases v2 with
  | sc v _ =>
   have h : (if scal x y = true then some (decide (x = y)) else (py (.sc x)).bind fun a => (py (.sc y)).bind fun b => eqPy a b) = some t := h
   by_cases q : scal x y = true
   . rw [if_pos q] at h
     exact .inl ⟨q, Option.some.inj h⟩
   . rw [if_neg q] at h
     exact .inr (go h)
  | nd n r => exact .inr (go h)
 | nd n r => exact .inr (go h)
theorem Zey (i : Int) : ∀ is : List Int, inV (.int i) (is.map V.int) = decide (i ∈ is)
 | [] => rfl
 | j :: is => by
  have h := Zey i is
  unfold inV at h ⊢
  rw [List.map_cons, List.any_cons, h]
  by_cases e : j = i
  . subst e; simp [eqV]
  . have e' : ¬ i = j := fun q => e q.symm
    simp [eqV, e, e']
theorem Zdw : ∀ is : List Int, (is.map V.int).all ZbS = true
 | [] => rfl
 | j :: is => by rw [List.map_cons, List.all_cons, Zdw is]; rfl
theorem Zjg (op : CmpOp) (hu : X.A.units + 64 < cLine) : OpR X (compareOp op) (r2W X.K fun x y => (cmpW op x y).map fun t => .sc (.bl t)) := by
 intro pins s σ H x y v u Q I rx ry h
 obtain ⟨Hs, w1, w2, m1, m2, d, hs, h1, h2, v1, v2, e, o⟩ := h
 simp only [Option.map_eq_some_iff] at e
 obtain ⟨t, e, rfl⟩ := e
 have q := o.sc
 unfold cmpW at e
 split at e
 . rcases ZeO hs v1 v2 e with ⟨h3, rfl⟩ | ⟨d, f, h3, h4, h5, h6, rfl⟩
   . exact ZkU pins s σ H _ _ v u Q I rx ry ⟨h3, q⟩
   . exact ZiX hu pins s σ H _ _ v u Q I rx ry ⟨d, f, h3, h4, h5, h6, q⟩
 . simp only [Option.map_eq_some_iff] at e
   obtain ⟨t, e, rfl⟩ := e
   rcases ZeO hs v1 v2 e with ⟨h3, rfl⟩ | ⟨d, f, h3, h4, h5, h6, rfl⟩
   . exact ZkV pins s σ H _ _ v u Q I rx ry ⟨h3, q⟩
   . exact ZiY hu pins s σ H _ _ v u Q I rx ry ⟨d, f, h3, h4, h5, h6, q⟩
 . simp only [Option.map_eq_some_iff] at e
   obtain ⟨is, e, rfl⟩ := e
   cases v1
   cases v2 with
   | nd n r =>
    have ei := Zar r e
    subst ei
    exact Zdr pins s σ H _ _ v u Q I rx ry ⟨_, _, rfl, .inr n, rfl, Zdw _, by rw [if_pos rfl, Zey]; exact q⟩
 . rename_i i j _ _
   cases v1; cases v2
   cases op with
   | Lt => cases e; exact ZkW pins s σ H _ _ v u Q I rx ry ⟨_, _, rfl, rfl, q⟩
   | LtE => cases e; exact ZkX pins s σ H _ _ v u Q I rx ry ⟨_, _, rfl, rfl, q⟩
   | Gt => cases e; exact ZkY pins s σ H _ _ v u Q I rx ry ⟨_, _, rfl, rfl, q⟩
   | GtE => cases e; exact ZkZ pins s σ H _ _ v u Q I rx ry ⟨_, _, rfl, rfl, q⟩
   | _ => cases e
 . cases e
theorem ZnC {op : CmpOp} {ca cb : M Op} (hu : X.A.units + 64 < cLine) (ha : PE X a (tP X.K ca)) (hb : PE X b (tP X.K cb)) (hm : behindInMarks op b = false := by first | exact nomark _ | with_unfolding_all rfl) :
 PE X (.Compare a [op] [b] pos) (tM X.K (ca.bnd fun p => cb.bnd fun q => (view p).bnd fun x => (view q).bnd fun y => lift ((cmpW op x y).map fun t => .sc (.bl t)))) := PE.imp (Zlu (Zjg op hu) ha hb hm) fun σ H Q h => op2 h
theorem Zkt {c : M D} {δ : List D} {r : Bool × List D} (h : Zbr c δ = .ok r) : c δ = .ok (.sc (.bl r.1), r.2) := by
 obtain ⟨d, δ1, e1, e2⟩ := Zc h
 obtain ⟨b, δ2⟩ := r
 obtain ⟨e3, rfl⟩ := ZN e2
 cases d with
 | sc v => cases v with
  | bl t => cases e3; exact e1
  | _ => cases e3
 | _ => cases e3
theorem Zfp {c : M D} {σ : St} {H : Hp} {Q : Bool -> Hp -> Prop} {K : Fg} (h : tT K (Zbr c) σ H Q) : tM K c σ H fun x H' => ∃ k, x = .bl k /\ Q k H' := by
 obtain ⟨δ, Hs, M, b, δ', g, s, e, q⟩ := h
 refine ⟨δ, Hs, M, .sc (.bl b), δ', g, s, Zkt e, fun v H' Hs' m M' g' st r s' => ?_⟩
 cases r
 exact ⟨b, rfl, q H' Hs' M' g'.re (st.drop (fun b => by omega) g'.le) s'⟩
theorem ZlK {op : CmpOp} {ca cb : M Op} (hu : X.A.units + 64 < cLine) (ha : PE X a (tP X.K ca)) (hb : PE X b (tP X.K cb)) (hm : behindInMarks op b = false := by first | exact nomark _ | with_unfolding_all rfl) :
 PT X (.Compare a [op] [b] pos) (tT X.K (Zbr (ca.bnd fun p => cb.bnd fun q => (view p).bnd fun x => (view q).bnd fun y => lift ((cmpW op x y).map fun t => .sc (.bl t))))) := PT.imp (Zlv (Zjg op hu) ha hb hm) fun σ H Q h => op2 (Zfp h)
theorem op1 {K : Fg} {ca : M Op} {f : W -> Option D} {σ : St} {H : Hp} {Q : VK} {r : V -> Hp -> VK -> Prop} (h : tM K ((ca.bnd view).bnd fun x => lift (f x)) σ H Q)
 (hr : ∀ (x : V) (H Hs : Hp) (w : W) (m : Bud) (d : D), Same Hs H -> (∀ b, m b <= 1) -> (∀ b, m b = 1 -> H b ≠ none) -> View K H Hs x w m -> f w = some d -> Outs K H Hs m d Q -> r x H Q) : tUn r (tP K ca) σ H Q := by
 obtain ⟨δ, Hs, M, d, δ', g, s, e, q⟩ := h
 obtain ⟨w, δ2, e, e5⟩ := Zc e
 obtain ⟨p, δ1, e1, e3⟩ := Zc e
 obtain ⟨e6, rfl⟩ := ZN e5
 refine ⟨δ, Hs, M, p, δ1, g, s, e1, fun x H2 Hs2 m1 M2 g2 st2 r1 s2 => ?_⟩
 obtain ⟨Hs3, M3, g3, st3, v1, s3⟩ := Za8 (B := m1) g2 s2 r1 e3
 have z := Zr (m1 := fun _ => 0) g (g2.re fun b => by simp) (st2.drop (fun b => by simp) g2.le) g3 st3
 have st : Stp H Hs M H2 Hs3 (fun b => m1 b + M3 b) := z.2.1.drop (fun b => by simp) z.1.le
 exact hr x H2 Hs3 w m1 d g3.sub (fun b => by have : m1 b + M3 b <= 1 := g3.le b; omega) (fun b hb => g3.has b (by have : m1 b + M3 b <= 1 := g3.le b; show m1 b + M3 b = 1; omega)) v1 e6 (Zb3 st g3 s3 q)
theorem ZaR {ca : M Op} (ha : PE X a (tP X.K ca)) : PE X (.UnaryOp .USub a pos) (tM X.K ((ca.bnd view).bnd fun x => lift (negW x))) :=
 PE.imp (ZkT ZiF ha) fun σ H Q h => op1 h fun x H Hs w m d g h1 h2 v e o => by
  unfold negW at e
  split at e
  . cases e; cases v; exact ⟨_, rfl, o.sc⟩
  . cases e
theorem ZnD {K : Fg} {H Hs : Hp} {v : V} {w : W} {m : Bud} {t : Bool} (h : View K H Hs v w m) (e : truW w = some t) : TruV K v H t := by
 cases h with
 | sc v m =>
  cases v with
  | bl b => cases e; rfl
  | int i => cases e; show decide (i ≠ 0) = (i != 0); rw [Bool.eq_iff_iff]; simp
  | str x =>
   have e : (if x.length <= sizeLine then some (decide (x.length ≠ 0)) else none) = some t := e
   split at e
   . rename_i q
     cases e
     exact ⟨q, by rw [Bool.eq_iff_iff]; simp⟩
   . cases e
  | non => cases e; rfl
  | _ => cases e
 | @nd a k vs ds m n r =>
  have l : (!vs.isEmpty) = !ds.isEmpty := by
   have := r.len
   cases vs <;> cases ds <;> simp at this ⊢
  cases k with
  | lst => cases e; exact .inl ⟨vs, .inl (.inl n), by rw [l]⟩
  | frl => cases e; exact .inl ⟨vs, n, by rw [l]⟩
  | tup => cases e; exact .inr (.inl ⟨vs, .inl (.inl n), by rw [l]⟩)
  | ftp => cases e; exact .inr (.inl ⟨vs, n, by rw [l]⟩)
  | dic ks => cases e
  | ins C fs => cases e
theorem ZaS {ca : M Op} (ha : PE X e (tP X.K ca)) (he : ∀ whole, isTrue e X.env whole = (do let v <- whole; standAt e.pos; holding [v] (truthy v)) := by intro _; rfl) :
 PT X e (tT X.K (ca.bnd fun p => (view p).bnd fun w => lift (truW w))) := PT.imp (ZjT ha he) fun σ H Q h => by
 obtain ⟨δ, Hs, M, t, δ', g, s, e, q⟩ := h
 obtain ⟨p, δ1, e1, e⟩ := Zc e
 obtain ⟨w, δ2, e3, e5⟩ := Zc e
 obtain ⟨e6, rfl⟩ := ZN e5
 refine ⟨δ, Hs, M, p, δ1, g, s, e1, fun x H2 Hs2 m1 M2 g2 st2 r1 s2 => ?_⟩
 obtain ⟨Hs3, M3, g3, st3, v1, s3⟩ := Za8 (B := m1) g2 s2 r1 e3
 have z := Zr (m1 := fun _ => 0) g (g2.re fun b => by simp) (st2.drop (fun b => by simp) g2.le) g3 st3
 exact ⟨t, ZnD v1 e6, q H2 Hs3 M3 g3.re (z.2.1.drop (fun b => by simp) z.1.le) s3⟩
end
section
variable {X : Cx} {e a b c : Expr} {es rest : List Expr} {pos : Pos}
theorem PW.imp {t t' : TT} (h : PW X e t) (w : ∀ σ H Q, t' σ H Q -> t σ H Q) : PW X e t' := fun wh pins s σ H Q I q => h wh pins s σ H Q I (w σ H Q q)
theorem ZgA {K : Fg} {ca : M Bool} {f : Bool -> M Bool} {σ : St} {H : Hp} {Q : Bool -> Hp -> Prop} (h : tT K (ca.bnd f) σ H Q) : tT K ca σ H fun t H1 => tT K (f t) σ H1 Q := by
 obtain ⟨δ, Hs, M, b, δ', g, s, e, q⟩ := h
 obtain ⟨t, δ1, e1, e2⟩ := Zc e
 refine ⟨δ, Hs, M, t, δ1, g, s, e1, fun H1 Hs1 M1 g1 st1 s1 => ⟨δ1, Hs1, M1, b, δ', g1, s1, e2, fun H2 Hs2 M2 g2 st2 s2 => ?_⟩⟩
 have z := Zr (m1 := fun _ => 0) g (g1.re fun b => by simp) (st1.drop (fun b => by simp) g1.le) g2 st2
 exact q H2 Hs2 M2 g2 (z.2.1.drop (fun b => by simp) z.1.le) s2
theorem ZeP {K : Fg} {t : Bool} {σ : St} {H : Hp} {Q : Bool -> Hp -> Prop} (h : tT K (M.ret t) σ H Q) : Q t H := by
 obtain ⟨δ, Hs, M, b, δ', g, s, e, q⟩ := h
 have := Zg e
 cases this
 exact q H Hs M g (Stp.refl _ _ _) s
theorem ZnE {K : Fg} {ca : M Bool} {f : Bool -> M D} {σ : St} {H : Hp} {Q : VK} (h : tM K (ca.bnd f) σ H Q) : tT K ca σ H fun t H1 => tM K (f t) σ H1 Q := by
 obtain ⟨δ, Hs, M, b, δ', g, s, e, q⟩ := h
 obtain ⟨t, δ1, e1, e2⟩ := Zc e
 refine ⟨δ, Hs, M, t, δ1, g, s, e1, fun H1 Hs1 M1 g1 st1 s1 => ⟨δ1, Hs1, M1, b, δ', g1, s1, e2, fun v H2 Hs2 m2 M2 g2 st2 r2 s2 => ?_⟩⟩
 have z := Zr (m1 := fun _ => 0) g (g1.re fun b => by simp) (st1.drop (fun b => by simp) g1.le) g2 st2
 exact q v H2 Hs2 m2 M2 g2 (z.2.1.drop (fun b => by simp) z.1.le) r2 s2
theorem ZlL {ca : M Bool} (ha : PT X a (tT X.K ca)) : PW X (.BoolOp .And [a] pos) (tT X.K ca) := Zlq ha
theorem Zcj {ca : M Bool} (ha : PT X a (tT X.K ca)) : PW X (.BoolOp .Or [a] pos) (tT X.K ca) := ZmT ha
theorem ZlM {ca cb : M Bool} (ha : PT X a (tT X.K ca)) (hb : PW X (.BoolOp .And (b :: rest) pos) (tT X.K cb)) : PW X (.BoolOp .And (a :: b :: rest) pos) (tT X.K (ca.bnd fun t => if t then cb else M.ret false)) :=
 PW.imp (ZmU ha hb) fun σ H Q h => by
  obtain ⟨δ, Hs, M, t, δ', g, s, e, q⟩ := ZgA h
  refine ⟨δ, Hs, M, t, δ', g, s, e, fun H' Hs' M' g' st s' => ?_⟩
  have z := q H' Hs' M' g' st s'
  cases t with
  | true => exact z
  | false => exact ZeP z
theorem ZbE {ca cb : M Bool} (ha : PT X a (tT X.K ca)) (hb : PW X (.BoolOp .Or (b :: rest) pos) (tT X.K cb)) : PW X (.BoolOp .Or (a :: b :: rest) pos) (tT X.K (ca.bnd fun t => if t then M.ret true else cb)) :=
 PW.imp (Zpd ha hb) fun σ H Q h => by
  obtain ⟨δ, Hs, M, t, δ', g, s, e, q⟩ := ZgA h
  refine ⟨δ, Hs, M, t, δ', g, s, e, fun H' Hs' M' g' st s' => ?_⟩
  have z := q H' Hs' M' g' st s'
  cases t with
  | false => exact z
  | true => exact ZeP z
theorem Za9 {ca : M Bool} (ha : PT X a (tT X.K ca)) : PT X (.UnaryOp .Not a pos) (tT X.K (ca.bnd fun t => M.ret (!t))) :=
 PT.imp (ZmV ha) fun σ H Q h => by
  obtain ⟨δ, Hs, M, t, δ', g, s, e, q⟩ := ZgA h
  exact ⟨δ, Hs, M, t, δ', g, s, e, fun H' Hs' M' g' st s' => ZeP (q H' Hs' M' g' st s')⟩
theorem Zjh {ct : M Bool} {ca cb : M D} (hc : PT X c (tT X.K ct)) (ha : PE X a (tM X.K ca)) (hb : PE X b (tM X.K cb)) : PE X (.IfExp c a b pos) (tM X.K (ct.bnd fun t => if t then ca else cb)) :=
 PE.imp (ZjO hc ha hb) fun σ H Q h => by
  obtain ⟨δ, Hs, M, t, δ', g, s, e, q⟩ := ZnE h
  refine ⟨δ, Hs, M, t, δ', g, s, e, fun H' Hs' M' g' st s' => ?_⟩
  have z := q H' Hs' M' g' st s'
  cases t with
  | true => exact z
  | false => exact z
theorem Zji {K : Fg} {ca : M Op} {f : W -> M D} {σ : St} {H : Hp} {Q : VK} (h : tM K ((ca.bnd view).bnd f) σ H Q) : tP K ca σ H fun x H1 => ∃ (Hs : Hp) (w : W) (m : Bud), View K H1 Hs x w m /\ tM K (f w) σ H1 Q := by
 obtain ⟨δ, Hs, M, d, δ', g, s, e, q⟩ := h
 obtain ⟨w, δ2, e, e5⟩ := Zc e
 obtain ⟨p, δ1, e1, e3⟩ := Zc e
 refine ⟨δ, Hs, M, p, δ1, g, s, e1, fun x H2 Hs2 m1 M2 g2 st2 r1 s2 => ?_⟩
 obtain ⟨Hs3, M3, g3, st3, v1, s3⟩ := Za8 (B := m1) g2 s2 r1 e3
 refine ⟨Hs3, w, m1, v1, δ2, Hs3, M3, d, δ', g3.re, s3, e5, fun v H4 Hs4 m4 M4 g4 st4 r4 s4 => ?_⟩
 have z := Zr (m1 := fun _ => 0) g (g2.re fun b => by simp) (st2.drop (fun b => by simp) g2.le) g3 st3
 have st : Stp H Hs M H2 Hs3 (fun b => m1 b + M3 b) := z.2.1.drop (fun b => by simp) z.1.le
 have z := Zr (m1 := m1) (M1 := M3) g g3 st g4 st4
 exact q v H4 Hs4 m4 M4 g4 (z.2.1.drop (fun b => by omega) z.1.le) r4 s4
theorem Zjj {K : Fg} {v : V} {σ : St} {H : Hp} {Q : VK} (h : tM K (M.ret (.sc v)) σ H Q) : Q v H := by
 obtain ⟨δ, Hs, M, b, δ', g, s, e, q⟩ := h
 have := Zg e
 cases this
 exact q v H Hs (fun _ => 0) M (Zav g) (stp0 _ _ _) (.sc v _) s
theorem ZeQ {K : Fg} {σ : St} {H : Hp} {Q : VK} (h : tM K stk σ H Q) : False := by
 obtain ⟨δ, Hs, M, b, δ', g, s, e, q⟩ := h
 cases e
theorem Zc8 {op} {ca : M D} (ha : PE X a (tM X.K ca)) : PE X (.BoolOp op [a] pos) (tM X.K ca) := ZmW ha
theorem Zcc {ca : M Op} {cb : M D} (ha : PE X a (tP X.K ca)) (hb : PE X (.BoolOp .And (b :: rest) pos) (tM X.K cb)) : PE X (.BoolOp .And (a :: b :: rest) pos) (tM X.K ((ca.bnd view).bnd (andM cb))) :=
 PE.imp (ZmX ha hb) fun σ H Q h => by
  obtain ⟨δ, Hs, M, t, δ', g, s, e, q⟩ := Zji h
  refine ⟨δ, Hs, M, t, δ', g, s, e, fun v H' Hs' m M' g' st r s' => ?_⟩
  obtain ⟨Hs2, w, m2, v2, z⟩ := q v H' Hs' m M' g' st r s'
  cases v2 with
  | sc u _ => cases v with
   | bl t => cases t with
    | true => exact ⟨true, rfl, z⟩
    | false => exact ⟨false, rfl, Zjj z⟩
   | _ => exact (ZeQ z).elim
  | nd n r => exact (ZeQ z).elim
theorem ZlN {ca : M Op} (ha : PE X a (tP X.K ca)) : PE X (.UnaryOp .Not a pos) (tM X.K ((ca.bnd view).bnd fun w => lift (notW w))) :=
 PE.imp (ZmY ha) fun σ H Q h => by
  obtain ⟨δ, Hs, M, t, δ', g, s, e, q⟩ := Zji h
  refine ⟨δ, Hs, M, t, δ', g, s, e, fun v H' Hs' m M' g' st r s' => ?_⟩
  obtain ⟨Hs2, w, m2, v2, z⟩ := q v H' Hs' m M' g' st r s'
  cases v2 with
  | sc u _ => cases v with
   | bl t => exact ⟨t, rfl, Zjj z⟩
   | _ => exact (ZeQ z).elim
  | nd n r => exact (ZeQ z).elim
theorem RepL.at {K : Fg} {H Hs : Hp} {vs : List V} {ds : List D} {m : Bud} {j : Nat} {d : D} (r : RepL K H Hs vs ds m) (e : ds[j]? = some d) : ∃ (v : V) (m1 : Bud), vs[j]? = some v /\ Rep K H Hs v d m1 /\ ∀ b, m1 b <= m b := r.sep.get e
theorem Outs.part {K : Fg} {H Hs : Hp} {m m1 : Bud} {v : V} {d : D} {Q : VK} (h : Outs K H Hs m d Q) (hm : ∀ b, m b <= 1) (hh : ∀ b, m b = 1 -> H b ≠ none) (l : ∀ b, m1 b <= m b) (r : Rep K H Hs v d m1) : Q v H :=
 h v H m1 (Same.refl _) (fun b => Nat.le_trans (l b) (hm b)) (fun b e => hh b (by have := l b; have := hm b; omega)) (fun b _ => l b) r
theorem ZnF (n : Nat) (i : Int) : ixN' n i = ixN n i := rfl
theorem Zp0 : IxR X (r2W X.K ixW) := by
 intro value slice pins s σ H x y v u Q I rx ry h hsl
 obtain ⟨Hs, w1, w2, m1, m2, d, hs, h1, h2, v1, v2, e, o⟩ := h
 have fin : ∀ {ds : List D} {vs : List V} {i : Int}, RepL X.K H Hs vs ds m1 -> ((ixN' ds.length i).bind fun j => ds[j]?) = some d -> ∃ z, atI vs i = some z /\ Q z H := fun {ds vs i} r e => by
  simp only [Option.bind_eq_some_iff] at e
  obtain ⟨j, e1, e2⟩ := e
  obtain ⟨z, m3, e3, rz, l⟩ := r.at e2
  refine ⟨z, ?_, o.part h1 h2 (fun b => by have := l b; omega) rz⟩
  unfold atI
  rw [r.len, <- ZnF, e1]
  exact e3
 unfold ixW at e
 split at e
 . cases v1 with
   | nd n r => cases v2; obtain ⟨z, e1, q⟩ := fin r e; exact Zh5 value slice pins s σ H _ _ v u Q I rx ry ⟨_, _, _, z, rfl, rfl, .inl (.inl n), e1, q⟩ hsl
 . cases v1 with
   | nd n r => cases v2; obtain ⟨z, e1, q⟩ := fin r e; exact Zh5 value slice pins s σ H _ _ v u Q I rx ry ⟨_, _, _, z, rfl, rfl, n, e1, q⟩ hsl
 . cases v1 with
   | nd n r => cases v2; obtain ⟨z, e1, q⟩ := fin r e; exact ZiO value slice pins s σ H _ _ v u Q I rx ry ⟨_, _, _, z, rfl, rfl, .inl (.inl n), e1, q⟩ hsl
 . cases v1 with
   | nd n r => cases v2; obtain ⟨z, e1, q⟩ := fin r e; exact ZiO value slice pins s σ H _ _ v u Q I rx ry ⟨_, _, _, z, rfl, rfl, n, e1, q⟩ hsl
 . split at e
   . rename_i z i hz
     cases v1; cases v2
     simp only [Option.map_eq_some_iff] at e
     obtain ⟨c, e, rfl⟩ := e
     exact Znn value slice pins s σ H _ _ v u Q I rx ry ⟨_, _, c, rfl, rfl, hz, e, o.sc⟩ hsl
   . cases e
 . cases e
theorem Zp1 {ca cb : M Op} (ha : PE X a (tP X.K ca)) (hb : PE X b (tP X.K cb)) (hs : Zfn b := by intro _ _; rfl) :
 PE X (.Subscript a b pos) (tM X.K (ca.bnd fun p => cb.bnd fun q => (view p).bnd fun x => (view q).bnd fun y => lift (ixW x y))) := PE.imp (Zpp Zp0 ha hb hs) fun σ H Q h => op2 h
end
section
variable {X : Cx} {e a b c : Expr} {es rest : List Expr} {pos : Pos}
theorem tG.mono {α : Type} {K : Fg} {c : M α} {R : Hp -> Hp -> St -> α -> V -> Bud -> Prop} {σ : St} {H : Hp} {Q Q' : VK} (h : tG K c R σ H Q) (w : ∀ v H', Q v H' -> Q' v H') : tG K c R σ H Q' := by
 obtain ⟨δ, Hs, M, a, δ', g, s, e, q⟩ := h
 exact ⟨δ, Hs, M, a, δ', g, s, e, fun v H' Hs' m M' g' st r s' => w v H' (q v H' Hs' m M' g' st r s')⟩
theorem RepL.take {K : Fg} {H Hs : Hp} {vs : List V} {ds : List D} {m : Bud} (r : RepL K H Hs vs ds m) (n : Nat) : RepL K H Hs (vs.take n) (ds.take n) m := (r.sep.take n).repL
theorem RepL.drop {K : Fg} {H Hs : Hp} {vs : List V} {ds : List D} {m : Bud} (r : RepL K H Hs vs ds m) (n : Nat) : RepL K H Hs (vs.drop n) (ds.drop n) m := (r.sep.drop n).repL
def rSlW (K : Fg) : V -> Option Int -> Option Int -> Hp -> VK -> Prop := fun x lo hi H Q => ∃ (Hs : Hp) (w : W) (m : Bud) (d : D), Same Hs H /\ (∀ b, m b <= 1) /\ (∀ b, m b = 1 -> H b ≠ none) /\ View K H Hs x w m /\ slD w lo hi = some d /\ Outs K H Hs m d Q
theorem Zp2 : SlR X (rSlW X.K) := by
 intro pins s σ H x v vl vu lo hi sl Q I rx hsl pl pu h
 obtain ⟨Hs, w, m, d, hs, h1, h2, v1, e, o⟩ := h
 have go : ∀ {a : Addr} {vs : List V} {ds : List D}, RepL X.K H Hs vs ds m -> d = .node .lst true (cutD ds lo hi) -> ∀ p, H p = none -> Q (.ref p) (upd H p (.lst (cutV vs lo hi))) := fun {a vs ds} r e p hp => by
  subst e
  refine o.new h1 h2 hp (vs := cutV vs lo hi) Zm ?_
  unfold cutV cutD
  rw [r.len]
  exact (r.drop _).take _
 unfold slD at e
 split at e
 . cases v1 with
   | nd n r => exact Zh6 pins s σ H _ v vl vu lo hi sl Q I rx hsl pl pu ⟨_, _, rfl, .inl (.inl n), go (a := 0) r (Option.some.inj e).symm⟩
 . cases v1 with
   | nd n r => exact Zh6 pins s σ H _ v vl vu lo hi sl Q I rx hsl pl pu ⟨_, _, rfl, n, go (a := 0) r (Option.some.inj e).symm⟩
 . split at e
   . rename_i hz
     cases e
     cases v1
     exact Zny pins s σ H _ v vl vu lo hi sl Q I rx hsl pl pu ⟨_, rfl, hz, o.sc⟩
   . cases e
 . cases e
inductive tW (K : Fg) (c : M (Option Int)) (σ : St) (H : Hp) (Q : Option Int -> Hp -> Prop) : Prop
 | mk (δ : List D) (Hs : Hp) (M : Bud) (l : Option Int) (δ' : List D) (h0 : Good H Hs M) (h1 : RepS K H Hs σ δ M) (h2 : c δ = .ok (l, δ')) (h3 : ∀ (H' Hs' : Hp) (M' : Bud), Good H' Hs' M' -> Stp H Hs M H' Hs' M' -> RepS K H' Hs' σ δ' M' -> Q l H') : tW K c σ H Q
theorem PO.imp {o : Option Expr} {t t' : TO} (h : PO X o t) (w : ∀ σ H Q, t' σ H Q -> t σ H Q) : PO X o t' := fun pins s σ H Q I q => h pins s σ H Q I (w σ H Q q)
theorem ZdO : PO X none (tW X.K (M.ret none)) := PO.imp Zfl fun σ H Q h => by
 obtain ⟨δ, Hs, M, b, δ', g, s, e, q⟩ := h
 have := Zg e
 cases this
 exact q H Hs M g (Stp.refl _ _ _) s
theorem Zam {ca : M Op} (ha : PE X a (tP X.K ca)) : PO X (some a) (tW X.K ((ca.bnd view).bnd fun w => lift (intP w))) := PO.imp (Zh3 ha) fun σ H Q h => by
 obtain ⟨δ, Hs, M, l, δ', g, s, e, q⟩ := h
 obtain ⟨w, δ2, e, e5⟩ := Zc e
 obtain ⟨p, δ1, e1, e3⟩ := Zc e
 obtain ⟨e6, rfl⟩ := ZN e5
 refine ⟨δ, Hs, M, p, δ1, g, s, e1, fun x H2 Hs2 m1 M2 g2 st2 r1 s2 => ?_⟩
 obtain ⟨Hs3, M3, g3, st3, v1, s3⟩ := Za8 (B := m1) g2 s2 r1 e3
 have z := Zr (m1 := fun _ => 0) g (g2.re fun b => by simp) (st2.drop (fun b => by simp) g2.le) g3 st3
 have fin := q H2 Hs3 M3 g3.re (z.2.1.drop (fun b => by simp) z.1.le) s3
 cases v1 with
 | sc u _ => cases x with
  | int i => cases e6; exact ⟨i, rfl, fin⟩
  | _ => cases e6
 | nd n r => cases e6
variable {lo hi : Option Expr} {ca : M Op} {cl ch : M (Option Int)} {p2 : Pos}
theorem ZbT (ha : PE X a (tP X.K ca)) (hl : PO X lo (tW X.K cl)) (hh : PO X hi (tW X.K ch)) :
 PE X (.Subscript a (.Slice lo hi none p2) pos) (tM X.K (ca.bnd fun p => cl.bnd fun l => ch.bnd fun h => (view p).bnd fun x => lift (slD x l h))) :=
 PE.imp (ZjZ Zp2 ha hl hh) fun σ H Q h => by
  obtain ⟨δ, Hs, M, d, δ', g, s, e, q⟩ := h
  obtain ⟨p, δ1, e1, e⟩ := Zc e
  obtain ⟨l, δ2, e2, e⟩ := Zc e
  obtain ⟨u, δ3, e3, e⟩ := Zc e
  obtain ⟨w, δ4, e4, e⟩ := Zc e
  obtain ⟨e7, rfl⟩ := ZN e
  refine ⟨δ, Hs, M, p, δ1, g, s, e1, fun x H1 Hs1 m1 M1 g1 st1 r1 s1 => ⟨δ1, Hs1, M1, l, δ2, g1.re, s1, e2, fun H2 Hs2 M2 g2 st2 s2 => ⟨δ2, Hs2, M2, u, δ3, g2, s2, e3, fun H3 Hs3 M3 g3 st3 s3 => ?_⟩⟩⟩
  obtain ⟨G2, S2, k2⟩ := Zr g g1 st1 g2 st2
  obtain ⟨G3, S3, k3⟩ := Zr g G2 S2 g3 st3
  have r2 := RepP.frame st2.grow k2 r1
  have r3 := RepP.frame st3.grow (fun b hb hn => k3 b hb hn) r2
  obtain ⟨Hs4, M4, g4, st4, v4, s4⟩ := Za8 (B := m1) G3 s3 r3 e4
  have z := Zr (m1 := fun _ => 0) g (G3.re fun b => by simp) (S3.drop (fun b => by simp) G3.le) g4 st4
  have S4 : Stp H Hs M H3 Hs4 (fun b => m1 b + M4 b) := z.2.1.drop (fun b => by simp) z.1.le
  have le : ∀ b, m1 b + M4 b <= 1 := g4.le
  exact ⟨Hs4, w, m1, d, g4.sub, fun b => by have := le b; omega, fun b hb => g4.has b (by have := le b; show m1 b + M4 b = 1; omega), v4, e7, Zb3 S4 g4 s4 q⟩
theorem ZdP {K : Fg} {H Hs : Hp} {f : Str} : ∀ {fs : List Str} {vs : List V} {ds : List D} {m : Bud} {d : D}, RepL K H Hs vs ds m -> fs.length = vs.length -> ZcO f fs ds = some d -> ∃ (v : V) (m1 : Bud), (fs.zip vs).lookup f = some v /\ Rep K H Hs v d m1 /\ ∀ b, m1 b <= m b
 | [], _, _, _, _, _, _, h => by simp [ZcO] at h
 | _ :: _, _, _, _, _, .nil _, hl, h => by simp at hl
 | g :: fs, v :: vs, d' :: ds, m, d, .cons (m1 := m1) (m2 := m2) x y c, hl, h => by
  simp only [ZcO] at h
  by_cases e : g = f
  . rw [if_pos e] at h
    cases h
    refine ⟨v, m1, ?_, x, fun b => by have := c b; omega⟩
    subst e
    simp [List.lookup]
  . rw [if_neg e] at h
    obtain ⟨v', m', h1, h2, h3⟩ := ZdP y (by simpa using hl) h
    refine ⟨v', m', ?_, h2, fun b => by have := c b; have := h3 b; omega⟩
    rw [List.zip_cons_cons]
    have hb : (f == g) = false := beq_eq_false_iff_ne.mpr (fun q => e q.symm)
    simp only [List.lookup, hb]
    exact h1
theorem Zab {f : Str} {ok : Addr -> Str -> Bool} (hf : ∀ C f, ok C f = true -> Cls X.K C /\ ZQ X.K C f) (ha : PE X a (tP X.K ca)) (hb : attributeBase a f X.env (eval a X.env) = eval a X.env := by rfl) :
 PE X (.Attribute a f pos) (tM X.K ((ca.bnd view).bnd fun x => lift (fldW ok f x))) :=
 PE.imp (Zgx ha hb) fun σ H Q h => op1 (r := fun x H1 Q => ∃ a C dx fs v, x = .ref a /\ H1 a = some (.ins C dx fs) /\ Cls X.K C /\ ZQ X.K C f /\ fs.lookup f = some v /\ Q v H1) h fun x H Hs w m d g h1 h2 v e o => by
  unfold fldW at e
  split at e
  . split at e
    . rename_i C fs ds hok
      cases v with
      | nd n r =>
       obtain ⟨hl, dx, n⟩ := n
       obtain ⟨z, m1, e1, rz, l⟩ := ZdP r hl e
       exact ⟨_, C, dx, _, z, rfl, n, (hf C f hok).1, (hf C f hok).2, e1, o.part h1 h2 l rz⟩
    . cases e
  . cases e
theorem Ze : PA X [] (tPs X.K (M.ret [])) := PA.imp ZaG fun σ H Q h => by
 obtain ⟨δ, Hs, M, b, δ', g, s, e, q⟩ := h
 have := Zg e
 cases this
 exact q [] H Hs (fun _ => 0) M (Zav g) (stp0 _ _ _) trivial s
theorem Zd {cs : M (List Op)} (ha : PE X e (tP X.K ca)) (hr : PA X es (tPs X.K cs)) (hs : SE X e es := by rfl) :
 PA X (e :: es) (tPs X.K (ca.bnd fun p => cs.bnd fun ps => M.ret (p :: ps))) := PA.imp (ZY ha hr hs) fun σ H Q h => by
 obtain ⟨δ, Hs, M, b, δ', g, s, e, q⟩ := h
 obtain ⟨p, δ1, e1, e⟩ := Zc e
 obtain ⟨ps, δ2, e2, e⟩ := Zc e
 have := Zg e
 cases this
 refine ⟨δ, Hs, M, p, δ1, g, s, e1, fun x H1 Hs1 m1 M1 g1 st1 r1 s1 => ⟨δ1, Hs1, M1, ps, _, g1.re, s1, e2, fun xs H2 Hs2 m2 M2 g2 st2 r2 s2 => ?_⟩⟩
 obtain ⟨G2, S2, k2⟩ := Zr g g1 st1 g2 st2
 exact q (x :: xs) H2 Hs2 (fun b => m1 b + m2 b) M2 (G2.re fun b => by omega) (S2.drop (fun b => by omega) G2.le) ⟨m1, m2, r1.frame st2.grow k2, r2, fun b => Nat.le_refl _⟩ s2
theorem Zy : PA X [] (tDs X.K (M.ret [])) := PA.imp ZaG fun σ H Q h => by
 obtain ⟨δ, Hs, M, b, δ', g, s, e, q⟩ := h
 have := Zg e
 cases this
 exact q [] H Hs (fun _ => 0) M (Zav g) (stp0 _ _ _) (.nil _) s
theorem Zs {c : M D} {cs : M (List D)} (ha : PE X e (tM X.K c)) (hr : PA X es (tDs X.K cs)) (hs : SE X e es := by rfl) :
 PA X (e :: es) (tDs X.K (c.bnd fun p => cs.bnd fun ps => M.ret (p :: ps))) := PA.imp (ZY ha hr hs) fun σ H Q h => by
 obtain ⟨δ, Hs, M, b, δ', g, s, e, q⟩ := h
 obtain ⟨p, δ1, e1, e⟩ := Zc e
 obtain ⟨ps, δ2, e2, e⟩ := Zc e
 have := Zg e
 cases this
 refine ⟨δ, Hs, M, p, δ1, g, s, e1, fun x H1 Hs1 m1 M1 g1 st1 r1 s1 => ⟨δ1, Hs1, M1, ps, _, g1.re, s1, e2, fun xs H2 Hs2 m2 M2 g2 st2 r2 s2 => ?_⟩⟩
 obtain ⟨G2, S2, k2⟩ := Zr g g1 st1 g2 st2
 exact q (x :: xs) H2 Hs2 (fun b => m1 b + m2 b) M2 (G2.re fun b => by omega) (S2.drop (fun b => by omega) G2.le) (.cons (r1.frame st2.grow k2) r2 fun b => Nat.le_refl _) s2
theorem ZhB {K : Fg} {cs : M (List D)} {f : List D -> Option D} {σ : St} {H : Hp} {Q : VK} (h : tM K (cs.bnd fun ds => lift (f ds)) σ H Q) : tDs K cs σ H fun vs H1 => ∃ (Hs : Hp) (m : Bud) (ds : List D) (d : D), (∀ b, m b <= 1) /\ (∀ b, m b = 1 -> H1 b ≠ none) /\ RepL K H1 Hs vs ds m /\ f ds = some d /\ Outs K H1 Hs m d Q := by
 obtain ⟨δ, Hs, M, b, δ', g, s, e, q⟩ := h
 obtain ⟨ds, δ1, e1, e⟩ := Zc e
 obtain ⟨e2, rfl⟩ := ZN e
 refine ⟨δ, Hs, M, ds, _, g, s, e1, fun vs H1 Hs1 m1 M1 g1 st1 r1 s1 => ⟨Hs1, m1, ds, b, fun b => by have : m1 b + M1 b <= 1 := g1.le b; omega, fun b hb => g1.has b (by have : m1 b + M1 b <= 1 := g1.le b; show m1 b + M1 b = 1; omega), r1, e2, Zb3 st1 g1 s1 q⟩⟩
theorem ZJ {cs : M (List D)} (h : PA X es (tDs X.K cs)) : PE X (.List es pos) (tM X.K (cs.bnd fun ds => lift (newL ds))) := PE.imp (ZiM h) fun σ H Q hq => by
 obtain ⟨δ, Hs, M, ds, δ', g, s, e, q⟩ := ZhB hq
 refine ⟨δ, Hs, M, ds, δ', g, s, e, fun vs H1 Hs1 m1 M1 g1 st1 r1 s1 => ?_⟩
 obtain ⟨Hs2, m, ds, d, h1, h2, r, e, o⟩ := q vs H1 Hs1 m1 M1 g1 st1 r1 s1
 unfold newL at e
 split at e
 . rename_i hl
   cases e
   exact ⟨by rw [r.len]; exact hl, fun p hp => o.new h1 h2 hp (vs := vs) Zm r⟩
 . cases e
theorem Zdx {cs : M (List D)} {k : Nat} (h : PA X es (tDs X.K cs)) : PE X (.Tuple es k pos) (tM X.K (cs.bnd fun ds => lift (newT ds))) := PE.imp (Znl h) fun σ H Q hq => by
 obtain ⟨δ, Hs, M, ds, δ', g, s, e, q⟩ := ZhB hq
 refine ⟨δ, Hs, M, ds, δ', g, s, e, fun vs H1 Hs1 m1 M1 g1 st1 r1 s1 => ?_⟩
 obtain ⟨Hs2, m, ds, d, h1, h2, r, e, o⟩ := q vs H1 Hs1 m1 M1 g1 st1 r1 s1
 unfold newT at e
 split at e
 . rename_i hl
   cases e
   exact ⟨by rw [r.len]; exact hl, fun p hp => o.new h1 h2 hp (vs := vs) Zm r⟩
 . cases e
end
def Views (K : Fg) (H Hs : Hp) : List V -> List W -> Bud -> Prop
 | [], [], _ => True
 | v :: vs, w :: ws, m => ∃ m1 m2 : Bud, View K H Hs v w m1 /\ Views K H Hs vs ws m2 /\ ∀ b, m1 b + m2 b <= m b
 | _, _, _ => False
theorem Zez {K : Fg} {H : Hp} {σ : St} {B : Bud} : ∀ {ps : List Op} {vs : List V} {Hs : Hp} {δ δ' : List D} {M m : Bud} {ws : List W}, Good H Hs (fun b => B b + M b) -> RepS K H Hs σ δ M -> ZaY K H Hs σ vs ps m -> views ps δ = .ok (ws, δ') ->
 ∃ Hs' M', Good H Hs' (fun b => B b + M' b) /\ Stp H Hs (fun b => B b + M b) H Hs' (fun b => B b + M' b) /\ Views K H Hs' vs ws m /\ RepS K H Hs' σ δ' M'
 | [], [], Hs, δ, δ', M, m, ws, g, s, r, e => by
  have := Zg e
  cases this
  exact ⟨Hs, M, g, Stp.refl _ _ _, trivial, s⟩
 | [], _ :: _, _, _, _, _, _, _, _, _, r, _ => r.elim
 | _ :: _, [], _, _, _, _, _, _, _, _, r, _ => r.elim
 | p :: ps, v :: vs, Hs, δ, δ', M, m, ws, g, s, ⟨m1, m2, r1, r2, l⟩, e => by
  obtain ⟨w, δ1, e1, e⟩ := Zc e
  obtain ⟨ws', δ2, e2, e⟩ := Zc e
  have := Zg e
  cases this
  obtain ⟨Hs1, M1, g1, st1, v1, s1⟩ := Za8 g s r1 e1
  obtain ⟨Hs2, M2, g2, st2, v2, s2⟩ := Zez g1 s1 (r2.frame st1.grow fun _ _ _ => rfl) e2
  have z := Zr (m1 := fun _ => 0) g (g1.re fun b => by simp) (st1.drop (fun b => by simp) g1.le) g2 st2
  exact ⟨Hs2, M2, g2, z.2.1.drop (fun b => by simp) z.1.le, ⟨m1, m2, v1.frame st2.grow, v2, l⟩, s2⟩
inductive rNW (K : Fg) (f : List W -> Option D) (vs : List V) (H : Hp) (Q : VK) : Prop
 | mk (Hs : Hp) (ws : List W) (m : Bud) (d : D) (h0 : Same Hs H) (h1 : (∀ b, m b <= 1)) (h2 : (∀ b, m b = 1 -> H b ≠ none)) (h3 : Views K H Hs vs ws m) (h4 : f ws = some d) (h5 : Outs K H Hs m d Q) : rNW K f vs H Q
theorem opN {K : Fg} {cs : M (List Op)} {f : List W -> Option D} {σ : St} {H : Hp} {Q : VK} (h : tM K (cs.bnd fun ps => (views ps).bnd fun ws => lift (f ws)) σ H Q) : tPs K cs σ H fun vs H1 => rNW K f vs H1 Q := by
 obtain ⟨δ, Hs, M, d, δ', g, s, e, q⟩ := h
 obtain ⟨ps, δ1, e1, e⟩ := Zc e
 obtain ⟨ws, δ2, e2, e⟩ := Zc e
 obtain ⟨e3, rfl⟩ := ZN e
 refine ⟨δ, Hs, M, ps, δ1, g, s, e1, fun vs H1 Hs1 m1 M1 g1 st1 r1 s1 => ?_⟩
 obtain ⟨Hs2, M2, g2, st2, v2, s2⟩ := Zez (B := m1) g1 s1 r1 e2
 have z := Zr (m1 := fun _ => 0) g (g1.re fun b => by simp) (st1.drop (fun b => by simp) g1.le) g2 st2
 have S : Stp H Hs M H1 Hs2 (fun b => m1 b + M2 b) := z.2.1.drop (fun b => by simp) z.1.le
 have le : ∀ b, m1 b + M2 b <= 1 := g2.le
 exact ⟨Hs2, ws, m1, d, g2.sub, fun b => by have := le b; omega, fun b hb => g2.has b (by have := le b; show m1 b + M2 b = 1; omega), v2, e3, Zb3 S g2 s2 q⟩
theorem Views.one {K : Fg} {H Hs : Hp} {vs : List V} {w : W} {m : Bud} (h : Views K H Hs vs [w] m) : ∃ (v : V) (m1 : Bud), vs = [v] /\ View K H Hs v w m1 /\ ∀ b, m1 b <= m b := by
 cases vs with
 | nil => exact h.elim
 | cons v vs =>
  obtain ⟨m1, m2, h1, h2, l⟩ := h
  cases vs with
  | nil => exact ⟨v, m1, rfl, h1, fun b => by have := l b; omega⟩
  | cons _ _ => exact h2.elim
theorem Views.two {K : Fg} {H Hs : Hp} {vs : List V} {w w' : W} {m : Bud} (h : Views K H Hs vs [w, w'] m) : ∃ (v v' : V) (m1 m2 : Bud), vs = [v, v'] /\ View K H Hs v w m1 /\ View K H Hs v' w' m2 /\ ∀ b, m1 b + m2 b <= m b := by
 cases vs with
 | nil => exact h.elim
 | cons v vs =>
  obtain ⟨m1, m2, h1, h2, l⟩ := h
  obtain ⟨v', m3, rfl, h3, l'⟩ := Views.one h2
  exact ⟨v, v', m1, m3, rfl, h1, h3, fun b => by have := l b; have := l' b; omega⟩
section
variable {X : Cx} {e : Expr} {es : List Expr} {pos p : Pos} {x : Str} {id ty : String} {f : BF} {cs : M (List Op)}
theorem ZnG (hc : ZA X (.builtin id) (rNW X.K (bfW f))) (hg : Gl X x) (hm : X.mg x = none) (hv : bootBuiltins x = some (.builtin id)) (ha : PA X (e :: es) (tPs X.K cs)) (hn : x ≠ "__name__" := by decide) (hdb : (x == ("__debug__" : Str)) = false := by decide)
 (he : SE X e es := by rfl) (hpl : SF X pos es := by rfl) :
 PE X (.Call (.Name x p) (e :: es) [] pos) (tM X.K (cs.bnd fun ps => (views ps).bnd fun ws => lift (bfW f ws))) := PE.imp (Zgz hc hg hm hv ha hn hdb he hpl) fun σ H Q h => opN h
theorem ZnH (hc : ZA X (.type ty) (rNW X.K (bfW f))) (hg : Gl X x) (hm : X.mg x = none) (hv : bootBuiltins x = some (.type ty)) (ha : PA X (e :: es) (tPs X.K cs)) (hn : x ≠ "__name__" := by decide) (hdb : (x == ("__debug__" : Str)) = false := by decide)
 (he : SE X e es := by rfl) (hpl : SF X pos es := by rfl) :
 PE X (.Call (.Name x p) (e :: es) [] pos) (tM X.K (cs.bnd fun ps => (views ps).bnd fun ws => lift (bfW f ws))) := PE.imp (Zdq hc hg hm hv ha hn hdb he hpl) fun σ H Q h => opN h
theorem Zac : ZA X (.builtin "len") (rNW X.K (bfW .len)) := by
 intro pins s σ H xs us Q I r h
 obtain ⟨Hs, ws, m, d, hs, h1, h2, v, e, o⟩ := h
 replace e : lenB _ = _ := e
 unfold lenB at e
 split at e <;> first | (rename_i z; cases z; done) | skip
 all_goals first
  | (obtain ⟨y, m1, rfl, v, l⟩ := v.one
     cases v with
     | nd n r' =>
      have hl := r'.len
      cases e
      first
      | exact Zbm pins s σ H _ us Q I r ⟨_, _, rfl, .inl (.inl (.inl n)), by rw [hl]; exact o.sc⟩
      | exact Zbm pins s σ H _ us Q I r ⟨_, _, rfl, .inl n, by rw [hl]; exact o.sc⟩
      | exact Zbm pins s σ H _ us Q I r ⟨_, _, rfl, .inr n, by rw [hl]; exact o.sc⟩
      | exact Zbm pins s σ H _ us Q I r ⟨_, _, rfl, .inr (.inl (.inl n)), by rw [hl]; exact o.sc⟩
      | (obtain ⟨n1, n2⟩ := n
         exact ZiV pins s σ H _ us Q I r ⟨_, _, rfl, n2, by rw [List.length_zip, n1, Nat.min_self, hl]; exact o.sc⟩))
  | (obtain ⟨y, m1, rfl, v, l⟩ := v.one
     split at e
     . rename_i hz
       cases e
       cases v
       exact Zg1 pins s σ H _ us Q I r ⟨_, rfl, hz, o.sc⟩
     . cases e)
  | cases e
theorem ZnI : ZA X (.builtin "abs") (rNW X.K (bfW .abs)) := by
 intro pins s σ H xs us Q I r h
 obtain ⟨Hs, ws, m, d, hs, h1, h2, v, e, o⟩ := h
 replace e : absB _ = _ := e
 unfold absB at e
 split at e <;> first | (rename_i z; cases z; done) | skip
 all_goals first
  | (obtain ⟨y, m1, rfl, v, l⟩ := v.one
     cases v
     cases e
     exact ZjU pins s σ H _ us Q I r ⟨_, rfl, o.sc⟩)
  | cases e
theorem Zay : ZA X (.type "list") (rNW X.K (bfW .list)) := by
 intro pins s σ H xs us Q I r h
 obtain ⟨Hs, ws, m, d, hs, h1, h2, v, e, o⟩ := h
 replace e : Zin _ = _ := e
 unfold Zin at e
 split at e <;> first | (rename_i z; cases z; done) | skip
 all_goals first
  | (obtain ⟨y, m1, rfl, v, l⟩ := v.one
     cases v with
     | nd n r' =>
      cases e
      have go : ∀ p, H p = none -> Q (.ref p) (upd H p (.lst _)) := fun p hp => o.new h1 h2 hp Zm (r'.mono l)
      first
      | exact Zbn pins s σ H _ us Q I r ⟨_, _, rfl, .inl (.inl (.inl n)), go⟩
      | exact Zbn pins s σ H _ us Q I r ⟨_, _, rfl, .inl n, go⟩
      | exact Zbn pins s σ H _ us Q I r ⟨_, _, rfl, .inr n, go⟩
      | exact Zbn pins s σ H _ us Q I r ⟨_, _, rfl, .inr (.inl (.inl n)), go⟩)
  | cases e
theorem ZfE {K : Fg} {H Hs : Hp} : ∀ {ds : List D} {vs : List V} {m : Bud} {is : List Bool}, RepL K H Hs vs ds m -> Zbi ds = some is -> vs = is.map V.bl
 | [], _, _, is, .nil _, h => by simp only [Zbi, Option.some.injEq] at h; subst h; rfl
 | d :: ds, _, _, is, .cons x y _, h => by
  unfold Zbi at h
  split at h
  . rename_i hh; cases hh
  . rename_i i r hh
    injection hh with h1 h2
    subst h1 h2
    (simp only [Option.map_eq_some_iff] at h)
    obtain ⟨js, h, rfl⟩ := h
    cases x
    rw [ZfE y h]
    rfl
  . cases h
theorem ZfF : ∀ (is : List Int) (us : List Value), Vals (is.map V.int) us -> ∀ (i : Nat) (v : Value), us[i]? = some v -> ∃ t, v = .int (is.getD i 0) t
 | [], us, r, i, v, h => by cases r; simp at h
 | n :: is, us, r, i, v, h => by
  cases r with
  | cons r rr =>
   cases i with
   | zero =>
    simp at h
    subst h
    obtain ⟨t, rfl⟩ := r
    exact ⟨t, rfl⟩
   | succ i => exact ZfF is _ rr i v (by simpa using h)
theorem Zhm : ∀ (is : List Int), preSum (fun i => is.getD i 0) is.length = is.sum := by
 intro is
 have h : ∀ n, n <= is.length -> preSum (fun i => is.getD i 0) n = (is.take n).sum := by
  intro n
  induction n with
  | zero => intro _; simp [preSum]
  | succ n ih =>
   intro hn
   have := ih (by omega)
   show preSum (fun i => is.getD i 0) n + is.getD n 0 = _
   rw [this, PyProof.Rows.take_sum_succ is n (by omega)]
 have := h is.length (Nat.le_refl _)
 rw [List.take_length] at this
 exact this
theorem ZfZ (hc : X.calm = true) : ZA X (.builtin "sum") (fun xs H Q => ∃ (l : Addr) (is : List Int), xs = [.ref l] /\ SqL X.K H l (is.map V.int) /\ Q (.int is.sum) H) := by
 intro pins s σ H xs us Q I r h
 obtain ⟨l, is, rfl, hl, q⟩ := h
 obtain ⟨u, rfl, ru⟩ := r.one
 cases (show u = Value.ref l from ru)
 obtain ⟨its, rv, p, hz⟩ := I.list hl
 have hlt : l < s.heap.objs.size := by obtain ⟨_, e, _⟩ := p.isList; exact Heap.lt_size e
 refine call_sum_walkG (wpAny_pyIter_list p.isList ?_)
 refine ⟨s.heap.objs.size, [s.heap.objs.size, l], [s.heap.objs.size], its.toArray.size, _, _, fun i => is.getD i 0, rfl, Walks.list (A := X.A.in1) (I.ok.hd hc) _ l (Nat.ne_of_lt hlt) its.toArray,
  ⟨⟨_, Heap.get?_push_size _ rfl, rfl, rfl⟩, p.isList.push _⟩, fun b hb => ?_, fun i v hP => ?_, fun h' tk t' hk => ?_⟩
 . have e : ∀ o, (s.heap.push o).objs.size = s.heap.objs.size + 1 := fun o => by simp [Heap.push]
   rw [e]
   rcases List.mem_cons.mp hb with q | q
   . rw [q]
     exact Nat.lt_succ_self _
   . rw [List.mem_singleton.mp q]
     exact Nat.lt_succ_of_lt hlt
 . exact ZfF is its rv i v (by simpa using hP)
 . have e : preSum (fun i => is.getD i 0) its.toArray.size = is.sum := by
    rw [List.size_toArray, <- rv.length, List.length_map]
    exact Zhm is
   rw [e]
   exact ⟨.int _, H, I.kept (t' := tk) (Zh8 hk), ⟨_, rfl⟩, q⟩
theorem Zdy (hc : X.calm = true) : ZA X (.builtin "sum") (rNW X.K (bfW .sum)) := by
 intro pins s σ H xs us Q I r h
 obtain ⟨Hs, ws, m, d, hs, h1, h2, v, e, o⟩ := h
 replace e : sumB _ = _ := e
 unfold sumB at e
 split at e <;> first | (rename_i z; cases z; done) | skip
 all_goals first
  | (obtain ⟨y, m1, rfl, v, l⟩ := v.one
     cases v with
     | nd n r' =>
      simp only [Option.map_eq_some_iff] at e
      obtain ⟨is, e, rfl⟩ := e
      have ei := Zar r' e
      subst ei
      exact ZfZ hc pins s σ H _ us Q I r ⟨_, _, rfl, .inl (.inl n), o.sc⟩)
  | cases e
theorem ZnJ (hc : X.calm = true) : ZA X (.builtin "all") (rNW X.K (bfW .all)) := by
 intro pins s σ H xs us Q I r h
 obtain ⟨Hs, ws, m, d, hs, h1, h2, v, e, o⟩ := h
 replace e : allB _ = _ := e
 unfold allB at e
 split at e <;> first | (rename_i z; cases z; done) | skip
 all_goals first
  | (obtain ⟨y, m1, rfl, v, l⟩ := v.one
     cases v with
     | nd n r' =>
      simp only [Option.map_eq_some_iff] at e
      obtain ⟨is, e, rfl⟩ := e
      have ei := ZfE r' e
      subst ei
      exact Zki hc pins s σ H _ us Q I r ⟨_, _, rfl, .inl (.inl n), o.sc⟩)
  | cases e
theorem ZnK (hc : X.calm = true) : ZA X (.builtin "min") (rNW X.K (bfW .min)) := by
 intro pins s σ H xs us Q I r h
 obtain ⟨Hs, ws, m, d, hs, h1, h2, v, e, o⟩ := h
 replace e : minB _ = _ := e
 unfold minB at e
 split at e <;> first | (rename_i z; cases z; done) | skip
 all_goals first
  | (obtain ⟨y, y', m1, m2, rfl, v, v', l⟩ := v.two
     cases v
     cases v'
     cases e
     exact ZiI hc pins s σ H _ us Q I r ⟨_, _, rfl, o.sc⟩)
  | cases e
theorem ZnL (hc : X.calm = true) : ZA X (.builtin "max") (rNW X.K (bfW .max)) := by
 intro pins s σ H xs us Q I r h
 obtain ⟨Hs, ws, m, d, hs, h1, h2, v, e, o⟩ := h
 replace e : maxB _ = _ := e
 unfold maxB at e
 split at e <;> first | (rename_i z; cases z; done) | skip
 all_goals first
  | (obtain ⟨y, y', m1, m2, rfl, v, v', l⟩ := v.two
     cases v
     cases v'
     cases e
     exact ZiH hc pins s σ H _ us Q I r ⟨_, _, rfl, o.sc⟩)
  | cases e
end
noncomputable def kitB (a b : String) : Option Bool := if (Value.type a == Value.type b) = true then some true else if PySem.W.kitMeta b = true then (PySem.fastBuiltinMro a).map (·.contains (.type b)) else none
theorem Zcd (K : Fg) (a b : String) : PySem.W.kitOne K (.type a) (.type b) = kitB a b := rfl
noncomputable def tyS : Ty -> Option String
 | .int => some "int" | .bool => some "bool" | .str => some "str" | .list => some "list" | .tuple => some "tuple" | .dict => some "dict" | .own _ => none
theorem Zp3 : kitB "int" "int" = some true := by decide +kernel
theorem Zp4 : kitB "bool" "int" = some true := by decide +kernel
theorem Zp5 : kitB "str" "int" = some false := by decide +kernel
theorem Zp6 : kitB "NoneType" "int" = some false := by decide +kernel
theorem Zp7 : kitB "list" "int" = some false := by decide +kernel
theorem Zp8 : kitB "tuple" "int" = some false := by decide +kernel
theorem Zp9 : kitB "bool" "bool" = some true := by decide +kernel
theorem ZpA : kitB "int" "bool" = some false := by decide +kernel
theorem ZpB : kitB "str" "bool" = some false := by decide +kernel
theorem ZpC : kitB "NoneType" "bool" = some false := by decide +kernel
theorem ZpD : kitB "list" "bool" = some false := by decide +kernel
theorem ZpE : kitB "tuple" "bool" = some false := by decide +kernel
theorem ZpF : kitB "str" "str" = some true := by decide +kernel
theorem ZpG : kitB "int" "str" = some false := by decide +kernel
theorem ZpH : kitB "bool" "str" = some false := by decide +kernel
theorem ZpI : kitB "NoneType" "str" = some false := by decide +kernel
theorem ZpJ : kitB "list" "str" = some false := by decide +kernel
theorem ZpK : kitB "tuple" "str" = some false := by decide +kernel
theorem ZpL : kitB "list" "list" = some true := by decide +kernel
theorem ZpM : kitB "tuple" "list" = some false := by decide +kernel
theorem ZpN : kitB "int" "list" = some false := by decide +kernel
theorem ZpO : kitB "bool" "list" = some false := by decide +kernel
theorem ZpP : kitB "str" "list" = some false := by decide +kernel
theorem ZpQ : kitB "NoneType" "list" = some false := by decide +kernel
theorem ZpR : kitB "tuple" "tuple" = some true := by decide +kernel
theorem ZpS : kitB "list" "tuple" = some false := by decide +kernel
theorem ZpT : kitB "int" "tuple" = some false := by decide +kernel
theorem ZpU : kitB "bool" "tuple" = some false := by decide +kernel
theorem ZpV : kitB "str" "tuple" = some false := by decide +kernel
theorem ZpW : kitB "NoneType" "tuple" = some false := by decide +kernel
theorem ZpX {K : Fg} {H Hs : Hp} {t : Ty} {n : String} {v : V} {w : W} {m : Bud} {b : Bool} (hn : tyS t = some n) (hv : View K H Hs v w m) (h : tyW t w = some b) : ∃ tv, TyOf K H v tv /\ PySem.W.kitOne K tv (.type n) = some b := by
 cases hv with
 | sc v _ =>
  cases t <;> cases hn <;> cases v <;> cases h <;> first
   | exact ⟨_, .int _, by rw [Zcd]; first | exact Zp3 | exact ZpA | exact ZpG | exact ZpN | exact ZpT⟩
   | exact ⟨_, .bl _, by rw [Zcd]; first | exact Zp4 | exact Zp9 | exact ZpH | exact ZpO | exact ZpU⟩
   | exact ⟨_, .str _, by rw [Zcd]; first | exact Zp5 | exact ZpB | exact ZpF | exact ZpP | exact ZpV⟩
   | exact ⟨_, .non, by rw [Zcd]; first | exact Zp6 | exact ZpC | exact ZpI | exact ZpQ | exact ZpW⟩
 | @nd a k vs ds m n r =>
  cases t <;> cases hn <;> cases k <;> cases h <;> first
   | exact ⟨_, .lst n, by rw [Zcd]; first | exact Zp7 | exact ZpD | exact ZpJ | exact ZpL | exact ZpS⟩
   | exact ⟨_, .tup n, by rw [Zcd]; first | exact Zp8 | exact ZpE | exact ZpK | exact ZpM | exact ZpR⟩
section
variable {X : Cx} {a e c : Expr} {es : List Expr} {pos p : Pos} {x : Str} {n : String} {ca : M Op}
theorem ZnM {t : Ty} (hn : tyS t = some n) (hg : Gl X "isinstance") (hm : X.mg "isinstance" = none) (ha : PE X a (tP X.K ca)) (hc : PE X c (tC (.ty n))) (hs : starEach [a, c] X.env = [(false, eval a X.env), (false, eval c X.env)] := by rfl)
 (hs1 : starEach [c] X.env = [(false, eval c X.env)] := by rfl) :
 PE X (.Call (.Name "isinstance" p) [a, c] [] pos) (tM X.K ((ca.bnd fun p => (M.ret ([] : List Op)).bnd fun ps => M.ret (p :: ps)).bnd fun ps => (views ps).bnd fun ws => lift (bfW (.isi t) ws))) :=
 PE.imp (Zgz (Zkh (.ty n) (.type n) rfl fun u h => h) hg hm Zg7 (ZY ha (ZY hc ZaG (by show _ = _; rw [hs1]; rfl)) (by show _ = _; rw [hs, hs1])) (by decide) (by decide) (by show _ = _; rw [hs, hs1]) (by show _ = _; rw [hs1]; rfl)) fun σ H Q h => by
  have h2 : tM X.K ((ca.bnd view).bnd fun w => lift (bfW (.isi t) [w])) σ H Q := by
   obtain ⟨δ, Hs, M, d, δ', g, s, e, q⟩ := h
   refine ⟨δ, Hs, M, d, δ', g, s, ?_, q⟩
   obtain ⟨ps, δ1, e1, e⟩ := Zc e
   obtain ⟨pp, δ2, e2, e3⟩ := Zc e1
   obtain ⟨z, δ3, e4, e5⟩ := Zc e3
   have := Zg e4
   cases this
   have := Zg e5
   cases this
   obtain ⟨ws, δ4, e6, e⟩ := Zc e
   obtain ⟨w, δ5, e7, e8⟩ := Zc e6
   obtain ⟨z, δ6, e9, e10⟩ := Zc e8
   have := Zg e9
   cases this
   have := Zg e10
   cases this
   show T.M.bnd (ca.bnd view) _ δ = _
   unfold T.M.bnd
   rw [e2]
   dsimp only
   rw [e7]
   exact e
  refine op1 (r := fun x H1 Q => ∃ x' t' b, [x, V.ty n] = [x', V.ty n] /\ TyOf X.K H1 x' t' /\ PySem.W.kitOne X.K t' (.type n) = some b /\ Q (.bl b) H1) h2 fun x H Hs w m d g h1 h2 v e o => ?_
  simp only [bfW, isiB, Option.map_eq_some_iff] at e
  obtain ⟨b, e, rfl⟩ := e
  obtain ⟨tv, h3, h4⟩ := ZpX hn v e
  exact ⟨x, tv, b, rfl, h3, h4, o.sc⟩
end
inductive spF (K : Fg) (F : List D -> Rs (D × List D)) (vs : List V) (H : Hp) (Q : VK) (E : XK) : Prop
 | mk (ds : List D) (Hs : Hp) (m : Bud) (d : D) (ds' : List D) (h0 : Good H Hs m) (h1 : RepL K H Hs vs ds m) (h2 : F ds = .ok (d, ds')) (h3 : ∀ (v : V) (H' Hs' : Hp) (m1 m' : Bud), Good H' Hs' (fun b => m1 b + m' b) -> Stp H Hs m H' Hs' (fun b => m1 b + m' b) -> Rep K H' Hs' v d m1 -> RepL K H' Hs' vs ds' m' -> Q v H') : spF K F vs H Q E
theorem ZlO {K : Fg} {H Hs : Hp} {σ : St} {B m M : Bud} {δ δ' : List D} {lend : Bool} {p : Op} {v : V} {d : D} (g : Good H Hs (fun b => B b + (m b + M b))) (s : RepS K H Hs σ δ M) (r : RepP K H Hs σ v p m) (e : ZcP lend p δ = .ok (d, δ')) :
 ∃ Hs' m' M', Good H Hs' (fun b => B b + (m' b + M' b)) /\ Stp H Hs (fun b => B b + (m b + M b)) H Hs' (fun b => B b + (m' b + M' b)) /\ Rep K H Hs' v d m' /\ RepS K H Hs' σ δ' M' /\ ∀ b, m' b + M' b <= m b + M b := by
 cases p with
 | tmp d' =>
  have := Zg e
  cases this
  exact ⟨Hs, m, M, g, Stp.refl _ _ _, r, s, fun b => Nat.le_refl _⟩
 | late i =>
  have r : σ[i]? = some (some v) := r
  have same : ∀ {d : D}, δ[i]? = some d -> d ≠ .hole -> (∀ m1, Rep K H Hs v d m1 -> Rep K H Hs v d (fun _ => 0)) -> ∃ Hs' m' M', Good H Hs' (fun b => B b + (m' b + M' b)) /\ Stp H Hs (fun b => B b + (m b + M b)) H Hs' (fun b => B b + (m' b + M' b)) /\ Rep K H Hs' v d m' /\ RepS K H Hs' σ δ M' /\ ∀ b, m' b + M' b <= m b + M b := fun {d} hi hn hz => by
   obtain ⟨v', m1, m2, e1, q, l, f⟩ := s.slot hi hn
   rw [r] at e1
   cases e1
   exact ⟨Hs, fun _ => 0, M, g.re fun b => by (try simp); (try omega), (Stp.refl H Hs _).drop (fun b => by (try simp); (try omega)) g.le, hz _ q, s, fun b => by (try simp); (try omega)⟩
  unfold ZcP at e
  dsimp only at e
  split at e
  . rename_i u hi
    cases e
    exact same hi (by simp) fun m1 q => by cases q; exact .sc _ _
  . rename_i k ds hi
    cases e
    exact same hi (by simp) fun m1 q => by cases q with | shd n q => exact .shd n q
  . rename_i k ds hi
    obtain ⟨v', m1, m2, e1, q, l, f⟩ := s.slot hi (by simp)
    rw [r] at e1
    cases e1
    split at e
    . cases e
      refine ⟨Hs, m1, m2, g.re fun b => by have := l b; omega, (Stp.refl H Hs _).drop (fun b => by have := l b; omega) g.le, q, ?_, fun b => by have := l b; omega⟩
      have z := f H Hs (some v) .hole (fun _ => 0) (Same.refl _) (fun _ _ _ => rfl) (.inl rfl)
      rw [Z9 r] at z
      exact z.mono fun b => by simp
    . cases e
      have g2 : Good H Hs (fun b => m1 b + (B b + m2 b)) := g.re fun b => by have := l b; omega
      have hsame := Zbd g2 (m := m1) fun b => by omega
      have r2 := Rep.share hsame (Zc7 (H := H) (Hs := Hs) (m := m1)) q
      have st := Stp.share g2
      refine ⟨shH H Hs m1, fun _ => 0, m2, g2.share.re fun b => by simp, ⟨fun b o h _ => h, fun b h => ?_, st.grow, fun b h h' => ?_, fun b h => h⟩, r2, ?_, fun b => by have := l b; simp; omega⟩
      . have h : B b + (0 + m2 b) = 1 := h
        have l0 : B b + (m b + M b) <= 1 := g.le b
        have := l b
        left
        show B b + (m b + M b) = 1
        omega
      . rcases st.shr b h h' with z | z
        . have z : m1 b + (B b + m2 b) = 1 := z
          have l0 : B b + (m b + M b) <= 1 := g.le b
          have := l b
          left
          show B b + (m b + M b) = 1
          omega
        . exact .inr z
      . have z := f H (shH H Hs m1) (some v) (.node k false (shrL ds)) (fun _ => 0) hsame (fun _ _ _ => rfl) (.inr ⟨v, rfl, r2⟩)
        rw [Z9 r] at z
        exact z.mono fun b => by simp
  . cases e
theorem Ze0 {K : Fg} {H : Hp} {σ : St} {lend : Bool} : ∀ {ps : List Op} {vs : List V} {Hs : Hp} {δ δ' : List D} {B M m : Bud} {ds : List D}, Good H Hs (fun b => B b + (m b + M b)) -> RepS K H Hs σ δ M -> ZaY K H Hs σ vs ps m -> Zbq lend ps δ = .ok (ds, δ') ->
 ∃ Hs' m' M', Good H Hs' (fun b => B b + (m' b + M' b)) /\ Stp H Hs (fun b => B b + (m b + M b)) H Hs' (fun b => B b + (m' b + M' b)) /\ RepL K H Hs' vs ds m' /\ RepS K H Hs' σ δ' M'
 | [], [], Hs, δ, δ', B, M, m, ds, g, s, r, e => by
  have := Zg e
  cases this
  exact ⟨Hs, m, M, g, Stp.refl _ _ _, .nil _, s⟩
 | [], _ :: _, _, _, _, _, _, _, _, _, _, r, _ => r.elim
 | _ :: _, [], _, _, _, _, _, _, _, _, _, r, _ => r.elim
 | p :: ps, v :: vs, Hs, δ, δ', B, M, m, ds, g, s, ⟨n1, n2, r1, r2, l⟩, e => by
  obtain ⟨d, δ1, e1, e⟩ := Zc e
  obtain ⟨ds', δ2, e2, e⟩ := Zc e
  have := Zg e
  cases this
  have g0 : Good H Hs (fun b => (B b + n2 b) + (n1 b + M b)) := g.re fun b => by have := l b; omega
  obtain ⟨Hs1, m1, M1, g1, st1, q1, s1, l1⟩ := ZlO g0 s r1 e1
  have g1' : Good H Hs1 (fun b => (B b + m1 b) + (n2 b + M1 b)) := g1.re fun b => by omega
  obtain ⟨Hs2, m2, M2, g2, st2, q2, s2⟩ := Ze0 g1' s1 (r2.frame st1.grow fun _ _ _ => rfl) e2
  have S0 : Stp H Hs (fun b => B b + (m b + M b)) H Hs1 (fun b => (B b + m1 b) + (n2 b + M1 b)) := by
   refine ⟨fun b o h _ => h, fun b h => ?_, st1.grow, fun b h h' => ?_, fun b h => h⟩
   . have h : (B b + m1 b) + (n2 b + M1 b) = 1 := h
     rcases st1.own b (show (B b + n2 b) + (m1 b + M1 b) = 1 by omega) with z | z
     . have z : (B b + n2 b) + (n1 b + M b) = 1 := z
       have l0 : B b + (m b + M b) <= 1 := g.le b
       have := l b
       left
       show B b + (m b + M b) = 1
       omega
     . exact .inr z
   . rcases st1.shr b h h' with z | z
     . have z : (B b + n2 b) + (n1 b + M b) = 1 := z
       have l0 : B b + (m b + M b) <= 1 := g.le b
       have := l b
       left
       show B b + (m b + M b) = 1
       omega
     . exact .inr z
  have z := Zr (m1 := fun _ => 0) g (g1'.re fun b => by simp) (S0.drop (fun b => by simp) g1'.le) g2 st2
  have S : Stp H Hs (fun b => B b + (m b + M b)) H Hs2 (fun b => (B b + m1 b) + (m2 b + M2 b)) := z.2.1.drop (fun b => by simp) z.1.le
  exact ⟨Hs2, fun b => m1 b + m2 b, M2, g2.re fun b => by dsimp only; omega, S.drop (fun b => by dsimp only; omega) g2.le, .cons (q1.frame st2.grow fun _ _ _ => rfl) q2 fun b => Nat.le_refl _, s2⟩
theorem Ze1 {K : Fg} {H Hs : Hp} {σ : St} : ∀ {ps : List Op} {vs : List V} {δ δ' : List D} {M m : Bud} {ds : List D} {u : Unit}, RepS K H Hs σ δ M -> RepL K H Hs vs ds m -> (∀ i v, (.late i, v) ∈ ps.zip vs -> σ[i]? = some (some v)) -> Za5 ps ds δ = .ok (u, δ') -> RepS K H Hs σ δ' (fun b => m b + M b)
 | [], vs, δ, δ', M, m, ds, u, s, r, hl, e => by
  have := Zg (show T.M.ret () δ = Rs.ok (u, δ') by unfold Za5 at e; exact e)
  cases this
  exact s.mono fun b => by omega
 | p :: ps, [], δ, δ', M, m, ds, u, s, r, hl, e => by
  cases r
  have := Zg (show T.M.ret () δ = Rs.ok (u, δ') by unfold Za5 at e; exact e)
  cases this
  exact s.mono fun b => by omega
 | p :: ps, v :: vs, δ, δ', M, m, ds, u, s, r, hl, e => by
  cases r with
  | @cons _ d _ ds' m1 m2 _ x y l =>
   unfold Za5 at e
   obtain ⟨_, δ1, e1, e2⟩ := Zc e
   have hl' : ∀ i v, (.late i, v) ∈ ps.zip vs -> σ[i]? = some (some v) := fun i v h => hl i v (by rw [List.zip_cons_cons]; exact List.mem_cons_of_mem _ h)
   have go : ∀ {M1 : Bud}, RepS K H Hs σ δ1 M1 -> (∀ b, M1 b <= m1 b + M b) -> RepS K H Hs σ δ' (fun b => m b + M b) := fun {M1} s1 l1 =>
    (Ze1 s1 y hl' e2).mono fun b => by have := l b; have := l1 b; omega
   cases p with
   | tmp d' =>
    have := Zg e1
    cases this
    exact go s fun b => by omega
   | late i =>
    have hi := hl i v (by rw [List.zip_cons_cons]; exact List.mem_cons_self)
    unfold ZdL at e1
    dsimp only at e1
    split at e1
    . rename_i hh
      cases e1
      obtain ⟨o, n1, n2, q1, q2, q3, f⟩ := s.focus hh
      have z := f (RepO K H Hs) (some v) d m1 (fun a d m' _ q => q) (.inr ⟨v, rfl, x⟩)
      rw [Z9 hi] at z
      exact go z fun b => by have := q3 b; omega
    . cases e1
      exact go s fun b => by omega
theorem lates {K : Fg} {H Hs : Hp} {σ : St} : ∀ {ps : List Op} {vs : List V} {m : Bud}, ZaY K H Hs σ vs ps m -> ∀ i v, (.late i, v) ∈ ps.zip vs -> σ[i]? = some (some v)
 | [], [], _, _, i, v, h => by simp at h
 | [], _ :: _, _, r, _, _, _ => r.elim
 | _ :: _, [], _, r, _, _, _ => r.elim
 | p :: ps, w :: vs, _, ⟨m1, m2, r1, r2, _⟩, i, v, h => by
  rw [List.zip_cons_cons] at h
  rcases List.mem_cons.mp h with e | e
  . injection e with e1 e2
    subst e1 e2
    exact r1
  . exact lates r2 i v e
theorem ZgB {K : Fg} {fi : FI} {σ : St} {H H1 Hs Hs1 : Hp} {M m1 M1 : Bud} {δ1 δ' : List D} {d : D} {ps : List Op} {vs : List V} {Q : VK} {E : XK} (g : Good H Hs M) (g1 : Good H1 Hs1 (fun b => m1 b + M1 b)) (st1 : Stp H Hs M H1 Hs1 (fun b => m1 b + M1 b))
 (r1 : ZaY K H1 Hs1 σ vs ps m1) (s1 : RepS K H1 Hs1 σ δ1 M1) (e : ZaB fi ps δ1 = .ok (d, δ'))
 (q : ∀ (v : V) (H' Hs' : Hp) (m M' : Bud), Good H' Hs' (fun b => m b + M' b) -> Stp H Hs M H' Hs' (fun b => m b + M' b) -> Rep K H' Hs' v d m -> RepS K H' Hs' σ δ' M' -> Q v H') : spF K fi.run vs H1 Q E := by
 unfold ZaB at e
 obtain ⟨ds, δ2, e2, e⟩ := Zc e
 cases hF : fi.run ds with
 | ok r =>
  obtain ⟨d', ds'⟩ := r
  rw [hF] at e
  dsimp only at e
  obtain ⟨u, δ3, e3, e⟩ := Zc e
  have := Zg e
  cases this
  obtain ⟨Hs2, m2, M2, g2, st2, q2, s2⟩ := Ze0 (B := fun _ => 0) (g1.re fun b => by simp) s1 r1 e2
  have z0 := Zr (m1 := fun _ => 0) g (g1.re fun b => by simp) (st1.drop (fun b => by simp) g1.le) (g2.re fun b => by simp) (M1 := fun b => m1 b + M1 b) (M2 := fun b => m2 b + M2 b) (by
   have := st2
   exact ⟨fun b o h z => this.keep b o h (by simpa using z), fun b h => by have := this.own b (by simpa using h); simpa using this, this.grow, fun b h h' => by have := this.shr b h h'; simpa using this, this.stay⟩)
  have G2 : Good H1 Hs2 (fun b => M2 b + m2 b) := g2.re fun b => by simp; omega
  have S2 : Stp H Hs M H1 Hs2 (fun b => M2 b + m2 b) := z0.2.1.drop (fun b => by simp; omega) z0.1.le
  refine ⟨ds, Hs2, m2, _, ds', G2.re fun b => by omega, q2, hF, fun v H3 Hs3 n1 n2 g3 st3 r3 r4 => ?_⟩
  obtain ⟨G, S, k⟩ := Zr g G2 S2 g3 st3
  have s3 := RepS.frame st3.grow k s2
  have fin := Ze1 s3 r4 (lates r1) e3
  exact q v H3 Hs3 n1 (fun b => n2 b + M2 b) (G.re fun b => by (try dsimp only); omega) (S.drop (fun b => by (try dsimp only); omega) G.le) r3 fin
 | exc x y => rw [hF] at e; cases e
 | stuck => rw [hF] at e; cases e
theorem ZlP {K : Fg} {fi : FI} {cs : M (List Op)} {σ : St} {H : Hp} {Q : VK} {E : XK} (h : tM K (cs.bnd fun ps => ZaB fi ps) σ H Q) : tPs K cs σ H fun vs H1 => spF K fi.run vs H1 Q E := by
 obtain ⟨δ, Hs, M, d, δ', g, s, e, q⟩ := h
 obtain ⟨ps, δ1, e1, e⟩ := Zc e
 exact ⟨δ, Hs, M, ps, δ1, g, s, e1, fun vs H1 Hs1 m1 M1 g1 st1 r1 s1 => ZgB g g1 st1 r1 s1 e q⟩
section
variable {X : Cx} {a e c : Expr} {es : List Expr} {pos p : Pos} {x : Str} {j n : Nat} {fi : FI} {ps : List Str} {cs : M (List Op)}
theorem ZpY (G : FnAt X.prog X.w X.K X.mg X.base x j ps (spF X.K fi.run)) (hr : Room n X.A) (ha : PA X (e :: es) (tPs X.K cs)) (hj : j <= n := by decide) (hg : Gl X x := by rfl) (hdb : (x == ("__debug__" : Str)) = false := by decide)
 (he : SE X e es := by rfl) (hpl : SF X pos es := by rfl) :
 PE X (.Call (.Name x p) (e :: es) [] pos) (tM X.K (cs.bnd fun ps => ZaB fi ps)) := PE.imp (Zpv G hr ha hj hg hdb he hpl) fun σ H Q h => by
 obtain ⟨δ, Hs, M, a, δ', g, s, e, q⟩ := ZlP (E := E0) h
 refine ⟨δ, Hs, M, a, δ', g, s, e, fun vs H' Hs' m M' g' st r s' => ?_⟩
 show spF X.K fi.run (vs ++ []) H' Q E0
 rw [List.append_nil]
 exact q vs H' Hs' m M' g' st r s'
end
theorem modL {K : Fg} {H Hs : Hp} {σ : St} {B M : Bud} {δ : List D} {i : Nat} {k : Kd} {ds : List D} (g : Good H Hs (fun b => B b + M b)) (s : RepS K H Hs σ δ M) (hi : δ[i]? = some (.node k true ds)) :
 ∃ (p : Addr) (vs : List V) (m' m2 : Bud), σ[i]? = some (some (.ref p)) /\ Zas H p vs k /\ RepL K H Hs vs ds m' /\ (∀ b, one p b + m' b + m2 b <= M b) /\
  ∀ (o' : HO) (k' : Kd) (vs' : List V) (ds' : List D) (n' nr : Bud) (rv : V) (r : D), (∀ b, n' b + nr b <= m' b + B b) -> Zas (upd H p o') p vs' k' -> RepL K H Hs vs' ds' n' -> Rep K H Hs rv r nr ->
   Good (upd H p o') Hs (fun b => nr b + (one p b + n' b + m2 b)) /\ Stp H Hs (fun b => B b + M b) (upd H p o') Hs (fun b => nr b + (one p b + n' b + m2 b)) /\ Rep K (upd H p o') Hs rv r nr /\
   RepS K (upd H p o') Hs σ (δ.set i (.node k' true ds')) (fun b => one p b + n' b + m2 b) := by
 obtain ⟨v, m1, m2, e1, q, l, f⟩ := s.slot hi (by simp)
 cases q with
 | @own p _ vs _ _ m' n r l' =>
  have le : ∀ b, one p b + m' b + m2 b <= M b := fun b => by have := l b; have := l' b; omega
  refine ⟨p, vs, m', m2, e1, n, r, le, fun o' k' vs' ds' n' nr rv rd h1 hn hr hq => ?_⟩
  have one_p : one p p = 1 := by simp [one]
  have tot : ∀ b, nr b + (one p b + n' b + m2 b) <= B b + M b := fun b => by have := le b; have := h1 b; omega
  have zp : m' p = 0 /\ B p = 0 /\ m2 p = 0 := by
   have := le p
   have := g.le p
   try dsimp only at this
   omega
  have zp2 : n' p = 0 /\ nr p = 0 := by have := h1 p; omega
  have Hp : H p ≠ none := n.at
  have eqH : ∀ b, b ≠ p -> upd H p o' b = H b := fun b hb => Zq hb
  have hs2 : Hs p = none := g.ne p (by have := le p; have := g.le p; (try dsimp only at this ⊢); omega)
  refine ⟨⟨fun b o e => ?_, fun b => ?_, fun b h => ?_, fun b h => ?_⟩, ⟨fun b o e z => ?_, fun b h => ?_, Same.refl _, fun b h h' => absurd h h', fun b h => ?_⟩, ?_, ?_⟩
  . have hb : b ≠ p := fun q => by subst q; rw [hs2] at e; cases e
    rw [eqH b hb]
    exact g.sub b o e
  . have := g.le b
    have := tot b
    (try dsimp only at *)
    omega
  . have := g.le b
    have := tot b
    exact g.ne b (by (try dsimp only at *); omega)
  . by_cases hb : b = p
    . subst hb; rw [Zm]; simp
    . rw [eqH b hb]
      have := g.le b
      have := tot b
      exact g.has b (by (try dsimp only at *); omega)
  . have hb : b ≠ p := fun q => by
     subst q
     have := le b
     have := g.le b
     (try dsimp only at *)
     omega
    rw [eqH b hb]
    exact e
  . have := g.le b
    have := tot b
    left
    (try dsimp only at *)
    omega
  . by_cases hb : b = p
    . subst hb; rw [Zm]; simp
    . rw [eqH b hb]; exact h
  . exact hq.frame (Same.refl _) fun b hb hn' => eqH b fun q => by subst q; omega
  . have r' : RepL K (upd H p o') Hs vs' ds' n' := hr.frame (Same.refl _) fun b hb hn' => eqH b fun q => by subst q; omega
    have z := f (upd H p o') Hs (some (.ref p)) (.node k' true ds') (fun b => one p b + n' b) (Same.refl _) (fun b hb hn' => eqH b fun q => by subst q; omega) (.inr ⟨_, rfl, .own hn r' fun b => Nat.le_refl _⟩)
    rw [Z9 e1] at z
    exact z.mono fun b => by (try dsimp only); omega
theorem ZdQ {i : Nat} {f : Kd -> List D -> Option (D × Kd × List D)} {δ δ' : List D} {d : D} (h : modS i f δ = .ok (d, δ')) : ∃ k ds k' ds', δ[i]? = some (.node k true ds) /\ f k ds = some (d, k', ds') /\ δ' = δ.set i (.node k' true ds') := by
 unfold modS at h
 split at h
 . rename_i k ds hi
   split at h
   . rename_i r k' ds' hf
     cases h
     exact ⟨k, ds, k', ds', hi, hf, rfl⟩
   . cases h
 . cases h
section
variable {X : Cx} {o e : Expr} {es : List Expr} {cpos apos : Pos} {i : Nat} {name : Str} {id : String}
theorem Zjk {K : Fg} {H Hs : Hp} {σ : St} {M : Bud} {δ δ' : List D} {u : Unit} (g : Good H Hs M) (s : RepS K H Hs σ δ M) (h : chkL i δ = .ok (u, δ')) : δ' = δ /\ ∃ p, σ[i]? = some (some (.ref p)) /\ tyV K "list" (.ref p) H := by
 unfold chkL at h
 split at h
 . rename_i oo ds hi
   cases h
   obtain ⟨v, m1, m2, e1, q, l, f⟩ := s.slot hi (by simp)
   refine ⟨rfl, ?_⟩
   cases q with
   | own n r _ => exact ⟨_, e1, .inl ⟨rfl, _, .inl (.inl n)⟩⟩
   | shd n r => exact ⟨_, e1, .inl ⟨rfl, _, .inl (.inl (g.sub _ _ n))⟩⟩
 . cases h
theorem Zdz {cs : M (List D)} (ho : PE X o (tVar i)) (ha : PA X [e] (tDs X.K cs))
 (hbase : attributeBase o "append" X.env (eval o X.env) = eval o X.env := by rfl)
 (hfew : ((backTo cpos (starEach [e] X.env)).all (fun x => !x.1) && (backToKw cpos (keywordEach [] X.env)).all (fun x => x.1.isSome)
  && decide ([e].length + ([] : List Keyword).length + (if ([] : List Keyword).isEmpty then 0 else 1) < 30)) = true := by rfl)
 (hline : (apos.endLine == cpos.line) = true := by rfl) (hs : starEach [e] X.env = (false, eval e X.env) :: starEach [] X.env := by rfl) (hplain : (backTo cpos (starEach [] X.env)).any (·.1) = false := by rfl) :
 PE X (.Call (.Attribute o "append" apos) [e] [] cpos) (tM X.K ((chkL i).bnd fun _ => cs.bnd fun ds => appM i ds)) :=
 PE.imp (Zle PySem.F.plainAttrs_list PySem.F.slot_list_append PySem.F.type_list_append ZfC ho ha hbase hfew hline hs hplain) fun σ H Q h => by
  obtain ⟨δ, Hs, M, d, δ', g, s, ea, q⟩ := h
  obtain ⟨u, δ0, e0, eb⟩ := Zc ea
  obtain ⟨ds, δ1, e1, ec⟩ := Zc eb
  obtain ⟨rfl, p0, h1, h2⟩ := Zjk g s e0
  refine ⟨_, h1, h2, δ0, Hs, M, ds, δ1, g, s, e1, fun vs H1 Hs1 m1 M1 g1 st1 r1 s1 => ?_⟩
  unfold appM at ec
  split at ec
  . rename_i x
    obtain ⟨k, ds0, k', ds', hi, hf, rfl⟩ := ZdQ ec
    unfold appD at hf
    split at hf
    . split at hf
      . rename_i hl
        cases hf
        cases r1 with
        | @cons y _ _ _ a1 a2 _ rx r2 la =>
         cases r2
         obtain ⟨p, ws, m', m2, e2, n, rl, le, fin⟩ := modL g1 s1 hi
         have e3 : some (some (V.ref p)) = some (some (V.ref p0)) := by rw [<- e2, h1]
         cases e3
         obtain ⟨G, S, R, SS⟩ := fin (.lst (ws ++ [y])) .lst (ws ++ [y]) (ds0 ++ [x]) (fun b => m' b + a1 b) (fun _ => 0) .non (.sc .non) (fun b => by have := la b; (try dsimp only); omega) Zm (rl.app (.cons rx (.nil (fun _ => 0)) fun b => by simp)) (.sc _ _)
         have z := Zr (m1 := fun _ => 0) g (g1.re fun b => by simp) (st1.drop (fun b => by simp) g1.le) G S
         exact ⟨_, ws, y, rfl, rfl, n, by rw [rl.len]; exact hl, q _ _ Hs1 _ _ G (z.2.1.drop (fun b => by simp) z.1.le) R SS⟩
      . cases hf
    . cases hf
  . cases ec
theorem ZlQ {K : Fg} {m : MM} {σ : St} {H H1 Hs1 Hs : Hp} {M m1 M1 : Bud} {δ1 δ' : List D} {d : D} {ps : List Op} {vs : List V} {p0 : Addr} {Q : VK} {rr : V -> List V -> Hp -> VK -> Prop}
 (g : Good H Hs M) (g1 : Good H1 Hs1 (fun b => m1 b + M1 b)) (st1 : Stp H Hs M H1 Hs1 (fun b => m1 b + M1 b)) (r1 : ZaY K H1 Hs1 σ vs ps m1) (s1 : RepS K H1 Hs1 σ δ1 M1) (h1 : σ[i]? = some (some (.ref p0)))
 (e : ((views ps).bnd fun ws => modS i (mutD m ws)) δ1 = .ok (d, δ'))
 (q : ∀ (v : V) (H' Hs' : Hp) (m M' : Bud), Good H' Hs' (fun b => m b + M' b) -> Stp H Hs M H' Hs' (fun b => m b + M' b) -> Rep K H' Hs' v d m -> RepS K H' Hs' σ δ' M' -> Q v H')
 (hr : ∀ (ws : List W) (Hs2 : Hp) (ds ds' : List D) (us : List V) (m2 m' : Bud), mutD m ws .lst ds = some (d, .lst, ds') -> Views K H1 Hs2 vs ws m2 -> H1 p0 = some (.lst us) -> RepL K H1 Hs2 us ds m' ->
  (∀ (us' : List V) (n' nr : Bud) (rv : V), (∀ b, n' b + nr b <= m' b + m2 b) -> RepL K H1 Hs2 us' ds' n' -> Rep K H1 Hs2 rv d nr -> Q rv (upd H1 p0 (.lst us'))) -> rr (.ref p0) vs H1 Q) : rr (.ref p0) vs H1 Q := by
 obtain ⟨ws, δ2, e2, e⟩ := Zc e
 obtain ⟨k, ds0, k', ds', hi, hf, rfl⟩ := ZdQ e
 obtain ⟨Hs2, M2, g2, st2, v2, s2⟩ := Zez (B := m1) g1 s1 r1 e2
 obtain ⟨p, us, m', m2, e3, n, rl, le, fin⟩ := modL g2 s2 hi
 have e4 : some (some (V.ref p)) = some (some (V.ref p0)) := by rw [<- e3, h1]
 cases e4
 have hk : k = .lst /\ k' = .lst := by
  unfold mutD at hf
  split at hf
  . split at hf
    . cases hf; exact ⟨rfl, rfl⟩
    . cases hf
  . simp only [Option.map_eq_some_iff] at hf
    obtain ⟨_, _, hf⟩ := hf
    cases hf
    exact ⟨rfl, rfl⟩
  . split at hf
    . simp only [Option.bind_eq_some_iff, Option.map_eq_some_iff] at hf
      obtain ⟨_, _, _, _, hf⟩ := hf
      cases hf
      exact ⟨rfl, rfl⟩
    . cases hf
  . cases hf; exact ⟨rfl, rfl⟩
  . cases hf; exact ⟨rfl, rfl⟩
  . cases hf
 obtain ⟨rfl, rfl⟩ := hk
 refine hr ws Hs2 ds0 ds' us m1 m' hf v2 n rl fun us' n' nr rv hle rn rd => ?_
 obtain ⟨G, S, R, SS⟩ := fin (.lst us') .lst us' ds' n' nr rv d hle Zm rn rd
 have z1 := Zr (m1 := fun _ => 0) g (g1.re fun b => by simp) (st1.drop (fun b => by simp) g1.le) g2 st2
 have S2 : Stp H Hs M H1 Hs2 (fun b => m1 b + M2 b) := z1.2.1.drop (fun b => by simp) z1.1.le
 have z := Zr (m1 := fun _ => 0) g (g2.re fun b => by simp) (S2.drop (fun b => by simp) g2.le) G S
 exact q _ _ Hs2 _ _ G (z.2.1.drop (fun b => by simp) z.1.le) R SS
end
end T
namespace L2
open PySem PySem.Spec PyProof.Rows
section
variable {prog : Program} {w : World} {A : Around} {E : VS} {s : Shared}
theorem Zli {it a : Addr} {us : Array Value} (ne : a ≠ it) : ∀ (m j : Nat) (s : Shared) (Q : List Value -> Shared -> Prop), s.heap.IsListIter it a j -> s.heap.IsList a us -> j + m <= us.size ->
 (∀ g, Heap.IsListIter g it a (j + m) -> Heap.SameBut it s.heap g -> Q ((us.toList.drop j).take m) { s with heap := g }) -> wpAny (model prog w) A (draw (.ref it) m) Q E s
 | 0, j, s, Q, st, _, _, q => wpAny_pure (by simpa using q s.heap st (Heap.SameBut.refl ..))
 | m + 1, j, s, Q, st, hl, le, q => by
  have lt : j < us.size := by omega
  refine wpAny_bind (wpAny_pyNext_list_item st hl (x := us[j]) (by simp [lt]) fun g1 st1 k1 => ?_)
  refine wpAny_bind (wpAny_holding (Zli ne m (j + 1) _ _ st1 (hl.extBut k1.extBut ne) (by omega) fun g2 st2 k2 => wpAny_pure ?_))
  have z := q g2 (by rw [show j + (m + 1) = j + 1 + m by omega]; exact st2) (k1.trans k2)
  rw [show us.toList.drop j = us[j] :: us.toList.drop (j + 1) by simp [List.drop_eq_getElem_cons, lt], List.take_succ_cons] at z
  exact z
theorem ZlR {a : Addr} {us : Array Value} {Q : List Value -> Shared -> Prop} (hh : A.handled = none) (hl : s.heap.IsList a us)
 (q : ∀ g, Heap.ExtBut s.heap.objs.size s.heap g -> Q us.toList { s with heap := g }) : wpAny (model prog w) A (unpackItems (.ref a) us.size none) Q E s := by
 have ne : a ≠ s.heap.objs.size := Nat.ne_of_lt (by obtain ⟨o, e, _⟩ := hl; exact Heap.lt_size e)
 unfold unpackItems
 refine wpAny_bind (?_ : wpAny _ _ _ _ _ _)
 unfold notIterableAtAll
 refine wpAny_bind (wpAny_specialOf hl.typeIs slot_list_iter.lookup (wpAny_pure ?_))
 simp only [if_false, Bool.false_eq_true]
 refine wpAny_bind (wpAny_holding (wpAny_pyIter_list hl (wpAny_bind (wpAny_holding (Zli ne us.size 0 _ _ ⟨_, Heap.get?_push_size _ rfl, rfl, rfl⟩ (hl.push _) (by omega) fun g1 st1 k1 => ?_)))))
 rw [show List.take us.size (List.drop 0 us.toList) = us.toList from by rw [List.drop_zero, List.take_of_length_le (by simp)], if_neg (by simp)]
 refine wpAny_bind (wpAny_holding (wpAny_pyNext_list_end hh st1 ((hl.push _).extBut k1.extBut ne) (by simp) fun g2 k2 => ?_))
 simp only [if_false, Bool.false_eq_true, Option.isSome_none]
 exact wpAny_pure (q g2 fun b o hb e => k2 b o hb (k1.extBut b o hb (Heap.get?_push_of_some _ e)))
theorem ZlS {env : Env} {es : List Expr} {k : Nat} {p : Pos} {a : Addr} {us : Array Value} {Q : Unit -> Shared -> Prop} (hh : A.handled = none) (hl : s.heap.IsList a us) (hn : (assignEach es env).length = us.size) (hst : (assignEach es env).findIdx? (·.1) = none)
 (q : ∀ g, Heap.ExtBut s.heap.objs.size s.heap g -> wpAny (model prog w) A (assignInOrder ((assignEach es env).map (·.2)) us.toList) Q E { s with heap := g }) : wpAny (model prog w) A (assign (.Tuple es k p) env (.ref a)) Q E s := by
 rw [assign_Tuple]
 refine wpAny_bind (wpAny_standAt ?_)
 unfold unpack
 rw [hn, hst]
 exact wpAny_bind (wpAny_holding (ZlR hh hl q))
end
noncomputable def gSeq (K : Fg) (n : Nat) (t : TGs) : TG := fun v σ H Q => ∃ a xs, v = .ref a /\ (SqT K H a xs \/ SqL K H a xs) /\ xs.length = n /\ t xs σ H Q
theorem Zjl {X : Cx} {pos : Pos} {es : List Expr} {k : Nat} {t : TGs} {n : Nat} (hc : X.calm = true) (h : PGs X es t)
 (hn : (assignEach es X.env).length = n := by rfl) (hst : (assignEach es X.env).findIdx? (·.1) = none := by rfl) : PG X (.Tuple es k pos) (gSeq X.K n t) := by
 intro pins s σ H v u Q I r hw
 obtain ⟨a, xs, e1, hq, hl, hw⟩ := hw
 rcases hq with hq | hq
 . exact Zna hc h hn hst pins s σ H v u Q I r ⟨a, xs, e1, hq, hl, hw⟩
 . subst e1
   cases r
   obtain ⟨its, rv, ht, hz⟩ := I.list hq
   refine ZlS (I.ok.hd hc) ht.isList (by simp [hn, <- hl, rv.length]) hst fun h' hx => ?_
   have I1 : Inv X pins σ H { s with heap := h' } := I.kept (t' := s.toks) fun b o e => hx b o (Nat.ne_of_lt (Heap.lt_size e)) e
   exact h pins _ σ H xs _ Q I1 (by simpa using rv) hw
end L2
namespace T
open PySem PySem.Spec L2
def Keeps (lk : Nat -> Bool) (σ σ' : St) : Prop := ∀ i, lk i = true -> σ'[i]? = σ[i]?
theorem Keeps.refl (lk : Nat -> Bool) (σ : St) : Keeps lk σ σ := fun _ _ => rfl
theorem Keeps.trans {lk : Nat -> Bool} {σ σ1 σ2 : St} (a : Keeps lk σ σ1) (b : Keeps lk σ1 σ2) : Keeps lk σ σ2 := fun i h => (b i h).trans (a i h)
def Post (K : Fg) (lk : Nat -> Bool) (E : Ends) (σ : St) (H Hs : Hp) (M : Bud) (f : Fl) (δ' : List D) : Prop := match f with
 | .nx => ∀ (σ' : St) (H' Hs' : Hp) (M' : Bud), Keeps lk σ σ' -> Good H' Hs' M' -> Stp H Hs M H' Hs' M' -> RepS K H' Hs' σ' δ' M' -> E.nx σ' H'
 | .bk => ∀ (σ' : St) (H' Hs' : Hp) (M' : Bud), Keeps lk σ σ' -> Good H' Hs' M' -> Stp H Hs M H' Hs' M' -> RepS K H' Hs' σ' δ' M' -> E.bk σ' H'
 | .ct => ∀ (σ' : St) (H' Hs' : Hp) (M' : Bud), Keeps lk σ σ' -> Good H' Hs' M' -> Stp H Hs M H' Hs' M' -> RepS K H' Hs' σ' δ' M' -> E.ct σ' H'
 | .rt d => ∀ (v : V) (σ' : St) (H' Hs' : Hp) (m M' : Bud), Keeps lk σ σ' -> Good H' Hs' (fun b => m b + M' b) -> Stp H Hs M H' Hs' (fun b => m b + M' b) -> Rep K H' Hs' v d m -> RepS K H' Hs' σ' δ' M' -> E.rt v H'
inductive tS (K : Fg) (lk : Nat -> Bool) (c : M Fl) (E : Ends) (σ : St) (H : Hp) : Prop
 | mk (δ : List D) (Hs : Hp) (M : Bud) (f : Fl) (δ' : List D) (h0 : Good H Hs M) (h1 : RepS K H Hs σ δ M) (h2 : c δ = .ok (f, δ')) (h3 : Post K lk E σ H Hs M f δ') : tS K lk c E σ H
theorem Post.ahead {K : Fg} {lk : Nat -> Bool} {E : Ends} {σ σ1 : St} {H Hs H1 Hs1 : Hp} {M M1 : Bud} {f : Fl} {δ' : List D} (k : Keeps lk σ σ1) (g : Good H Hs M) (g1 : Good H1 Hs1 M1) (st : Stp H Hs M H1 Hs1 M1) (h : Post K lk E σ H Hs M f δ') : Post K lk E σ1 H1 Hs1 M1 f δ' := by
 have tr : ∀ {H' Hs' : Hp} {M' : Bud}, Good H' Hs' M' -> Stp H1 Hs1 M1 H' Hs' M' -> Stp H Hs M H' Hs' M' := fun {H' Hs' M'} g' st' => by
  have z := Zr (m1 := fun _ => 0) g (g1.re fun b => by simp) (st.drop (fun b => by simp) g1.le) g' st'
  exact z.2.1.drop (fun b => by simp) z.1.le
 cases f with
 | nx => exact fun σ' H' Hs' M' k' g' st' r => h σ' H' Hs' M' (k.trans k') g' (tr g' st') r
 | bk => exact fun σ' H' Hs' M' k' g' st' r => h σ' H' Hs' M' (k.trans k') g' (tr g' st') r
 | ct => exact fun σ' H' Hs' M' k' g' st' r => h σ' H' Hs' M' (k.trans k') g' (tr g' st') r
 | rt d => exact fun v σ' H' Hs' m M' k' g' st' rv r => h v σ' H' Hs' m M' (k.trans k') g' (tr g' st') rv r
section
variable {X : Cx} {e a b c o : Expr} {st : Stmt} {rest : List Stmt} {pos pos' : Pos} {lk : Nat -> Bool} {i : Nat} {x : Str}
theorem PS.imp {t t' : TS} (h : PS X st t) (w : ∀ E σ H, t' E σ H -> t E σ H) : PS X st t' := fun pins s σ H E I q => h pins s σ H E I (w E σ H q)
theorem PSs.imp {t t' : TS} (h : PSs X rest t) (w : ∀ E σ H, t' E σ H -> t E σ H) : PSs X rest t' := fun pins s σ H E I q => h pins s σ H E I (w E σ H q)
theorem Zf : PSs X [] (tS X.K lk (M.ret .nx)) := PSs.imp Zlr fun E σ H h => by
 obtain ⟨δ, Hs, M, f, δ', g, s, e, q⟩ := h
 have := Zg e
 cases this
 exact q σ H Hs M (Keeps.refl _ _) g (Stp.refl _ _ _) s
theorem Zb {c r : M Fl} (h1 : PS X st (tS X.K lk c)) (h2 : PSs X rest (tS X.K lk r)) : PSs X (st :: rest) (tS X.K lk (seqL c r)) := PSs.imp (ZjP h1 h2) fun E σ H h => by
 obtain ⟨δ, Hs, M, f, δ', g, s, e, q⟩ := h
 obtain ⟨f1, δ1, e1, e2⟩ := Zc e
 refine ⟨δ, Hs, M, f1, δ1, g, s, e1, ?_⟩
 cases f1 with
 | nx => exact fun σ' H' Hs' M' k g' st' r => ⟨δ1, Hs', M', f, δ', g', r, e2, q.ahead k g g' st'⟩
 | bk => have := Zg e2; cases this; exact q
 | ct => have := Zg e2; cases this; exact q
 | rt d => have := Zg e2; cases this; exact q
theorem ZaH : PS X st (tS X.K lk stk) := fun pins s σ H E I z0 => by obtain ⟨δ, Hs, M, f, δ', g, _, e, q⟩ := z0; cases e
theorem Zce {c : M D} (he : PE X e (tM X.K c)) (hs : swapsWith e none pos.line X.env = pure false := by rfl) : PS X (.Expr e pos) (tS X.K lk (c.bnd fun _ => M.ret .nx)) := PS.imp (Zls he hs) fun E σ H h => by
 obtain ⟨δ, Hs, M, f, δ', g, s, e, q⟩ := h
 obtain ⟨d, δ1, e1, e2⟩ := Zc e
 have := Zg e2
 cases this
 exact ⟨δ, Hs, M, d, _, g, s, e1, fun v H' Hs' m M' g' st' r s' => q σ H' Hs' M' (Keeps.refl _ _) g'.re (st'.drop (fun b => by omega) g'.le) s'⟩
theorem Zl {c : M D} (he : PE X e (tM X.K c)) : PS X (.Return (some e) pos) (tS X.K lk (c.bnd fun d => M.ret (.rt d))) := PS.imp (ZmZ he) fun E σ H h => by
 obtain ⟨δ, Hs, M, f, δ', g, s, e, q⟩ := h
 obtain ⟨d, δ1, e1, e2⟩ := Zc e
 have := Zg e2
 cases this
 exact ⟨δ, Hs, M, d, _, g, s, e1, fun v H' Hs' m M' g' st' r s' => q v σ H' Hs' m M' (Keeps.refl _ _) g' st' r s'⟩
theorem Zbs (h : PE X e (tVar i)) : PE X e (tM X.K (movV i)) := PE.imp h fun σ H Q z0 => by
 obtain ⟨δ, Hs, M, d, δ', g, s, e, q⟩ := z0
 unfold movV at e
 split at e
 . rename_i u hd
   cases e
   obtain ⟨v, m1, m2, e3, r, _⟩ := s.slot hd (by simp)
   cases r
   exact ⟨u, e3, q u H Hs (fun _ => 0) M (Zav g) (stp0 H Hs M) (.sc _ _) s⟩
 . rename_i k oo ds hd
   cases e
   obtain ⟨v, m1, m2, e3, r, l, f⟩ := s.slot hd (by simp)
   have z := f H Hs (some v) .hole (fun _ => 0) (Same.refl _) (fun _ _ _ => rfl) (.inl rfl)
   rw [Z9 e3] at z
   exact ⟨v, e3, q v H Hs m1 m2 (g.re fun b => by have := l b; omega) ((Stp.refl H Hs M).drop (fun b => by have := l b; omega) g.le) r (z.mono fun b => by simp)⟩
 . cases e
theorem ZK {cc : M Bool} {ca cb : M Fl} {A B : List Stmt} (hc : PT X c (tT X.K cc)) (ha : PSs X A (tS X.K lk ca)) (hb : PSs X B (tS X.K lk cb)) : PS X (.If c A B pos) (tS X.K lk (cc.bnd fun t => if t then ca else cb)) := PS.imp (Zpi hc ha hb) fun E σ H h => by
 obtain ⟨δ, Hs, M, f, δ', g, s, e, q⟩ := h
 obtain ⟨t, δ1, e1, e2⟩ := Zc e
 refine ⟨δ, Hs, M, t, δ1, g, s, e1, fun H' Hs' M' g' st' s' => ?_⟩
 cases t with
 | true => exact ⟨δ1, Hs', M', f, δ', g', s', e2, q.ahead (Keeps.refl _ _) g g' st'⟩
 | false => exact ⟨δ1, Hs', M', f, δ', g', s', e2, q.ahead (Keeps.refl _ _) g g' st'⟩
theorem Zck {K : Fg} {H Hs : Hp} {σ : St} {δ : List D} {m M : Bud} {v : V} {d : D} (s : RepS K H Hs σ δ M) (hi : i < δ.length) (r : Rep K H Hs v d m) : RepS K H Hs (σ.set i (some v)) (δ.set i d) (fun b => m b + M b) := by
 obtain ⟨o, m1, m2, e1, q, l, f⟩ := s.focus (List.getElem?_eq_getElem hi)
 exact (f (RepO K H Hs) (some v) d m (fun a d m' _ q => q) (.inr ⟨v, rfl, r⟩)).mono fun b => by have := l b; (try dsimp only); omega
theorem ZdR {δ δ' : List D} {d : D} {u : Unit} (h : asgN lk i d δ = .ok (u, δ')) : i < δ.length /\ lk i = false /\ δ' = δ.set i d := by
 unfold asgN at h
 split at h
 . rename_i hc
   simp only [Bool.and_eq_true, decide_eq_true_eq, Bool.not_eq_true'] at hc
   cases h
   exact ⟨hc.1, hc.2, rfl⟩
 . cases h
theorem Zcv {σ : St} {v : Option V} (h : lk i = false) : Keeps lk σ (σ.set i v) := fun j hj => by
 have : i ≠ j := fun q => by subst q; rw [h] at hj; cases hj
 rw [List.getElem?_set_ne this]
theorem ZnN {c : M D} (hN : X.N.Nodup) (hi : X.N[i]? = some x) (hx : Loc X.env.scope x) (he : PE X e (tM X.K c)) (hs : swapsWith e (some (.Name x pos')) pos.line X.env = pure false := by rfl)
 (hf : X.fn x = true \/ X.env.scope.names.lookup x = some .local := by first | exact .inl rfl | exact .inr rfl | assumption) :
 PS X (.Assign [.Name x pos'] e pos) (tS X.K lk (c.bnd fun d => (asgN lk i d).bnd fun _ => M.ret .nx)) := PS.imp (Znc hN hi hx he hs hf) fun E σ H h => by
 obtain ⟨δ, Hs, M, f, δ', g, s, e, q⟩ := h
 obtain ⟨d, δ1, e1, e2⟩ := Zc e
 obtain ⟨u, δ2, e3, e4⟩ := Zc e2
 have := Zg e4
 cases this
 obtain ⟨h1, h2, rfl⟩ := ZdR e3
 exact ⟨δ, Hs, M, d, δ1, g, s, e1, fun v H' Hs' m M' g' st' r s' => q _ H' Hs' _ (Zcv h2) g' st' (Zck s' h1 r)⟩
end
noncomputable def gNs : List Nat -> TGs
 | [] => gNil
 | i :: is => ZkS (Zcu i) (gNs is)
theorem ZdS {K : Fg} {H Hs : Hp} {lk : Nat -> Bool} : ∀ {is : List Nat} {ds : List D} {vs : List V} {σ : St} {δ δ' : List D} {m M : Bud} {u : Unit} {Q : St -> Hp -> Prop}, ZaX lk is ds δ = .ok (u, δ') -> RepL K H Hs vs ds m -> RepS K H Hs σ δ M ->
 (∀ σ', Keeps lk σ σ' -> RepS K H Hs σ' δ' (fun b => m b + M b) -> Q σ' H) -> vs.length = is.length /\ gNs is vs σ H Q
 | [], [], _, σ, δ, δ', m, M, u, Q, e, .nil _, s, q => by
  have := Zg e
  cases this
  exact ⟨rfl, rfl, q σ (Keeps.refl _ _) (s.mono fun b => by omega)⟩
 | [], _ :: _, _, _, _, _, _, _, _, _, e, _, _, _ => by cases e
 | _ :: _, [], _, _, _, _, _, _, _, _, e, _, _, _ => by cases e
 | i :: is, d :: ds, _, σ, δ, δ', m, M, u, Q, e, .cons (v := v) (vs := vs) (m1 := m1) (m2 := m2) x y l, s, q => by
  obtain ⟨u1, δ1, e1, e2⟩ := Zc e
  obtain ⟨h1, h2, rfl⟩ := ZdR e1
  obtain ⟨hl, hq⟩ := ZdS (Q := Q) e2 y (Zck s h1 x) fun σ' k r => q σ' ((Zcv h2).trans k) (r.mono fun b => by have := l b; (try dsimp only); omega)
  exact ⟨by rw [List.length_cons, List.length_cons, hl], v, vs, rfl, hq⟩
section
variable {X : Cx} {e o k : Expr} {es : List Expr} {pos pos' : Pos} {lk : Nat -> Bool} {i j : Nat} {is : List Nat} {x : Str}
theorem ZbU : PGs X [] (gNs []) := Zlt
theorem ok_g (hN : X.N.Nodup) (hi : X.N[i]? = some x) (hx : Loc X.env.scope x) (hr : PGs X es (gNs is)) (hf : X.fn x = true \/ X.env.scope.names.lookup x = some .local := by first | exact .inl rfl | exact .inr rfl | assumption)
 (hs : (assignEach (.Name x pos :: es) X.env).map (·.2) = assign (.Name x pos) X.env :: (assignEach es X.env).map (·.2) := by rfl) : PGs X (.Name x pos :: es) (gNs (i :: is)) := ZjQ (Zhy hN hi hx hf) hr hs
theorem ZlT {K : Fg} {H Hs : Hp} {σ : St} {δ δ' : List D} {m M : Bud} {x : V} {w : W} {u : Unit} {Q : St -> Hp -> Prop} (v : View K H Hs x w m) (s : RepS K H Hs σ δ M) (e : unpM lk is w δ = .ok (u, δ'))
 (q : ∀ σ', Keeps lk σ σ' -> RepS K H Hs σ' δ' (fun b => m b + M b) -> Q σ' H) : gSeq K is.length (gNs is) x σ H Q := by
 unfold unpM at e
 split at e
 . cases v with
   | nd n r =>
    obtain ⟨hl, hq⟩ := ZdS e r s q
    exact ⟨_, _, rfl, .inl (.inl (.inl n)), hl, hq⟩
 . cases v with
   | nd n r =>
    obtain ⟨hl, hq⟩ := ZdS e r s q
    exact ⟨_, _, rfl, .inr (.inl (.inl n)), hl, hq⟩
 . cases e
theorem ZgC {ca : M Op} (hc : X.calm = true) (he : PE X e (tP X.K ca)) (hg : PGs X es (gNs is)) (hn : (assignEach es X.env).length = is.length := by rfl) (hst : (assignEach es X.env).findIdx? (·.1) = none := by rfl)
 (hs : swapsWithSole [.Tuple es j pos'] e pos.line X.env = pure false := by rfl) (hw : swappedStores [.Tuple es j pos'] e X.env = pure none := by rfl)
 (h1 : (assignEach [.Tuple es j pos'] X.env).map (·.2) = [assign (.Tuple es j pos') X.env] := by rfl) :
 PS X (.Assign [.Tuple es j pos'] e pos) (tS X.K lk ((ca.bnd view).bnd fun w => (unpM lk is w).bnd fun _ => M.ret .nx)) := PS.imp (Zi9 he (Zjl hc hg hn hst) hs hw h1) fun E σ H h => by
 obtain ⟨δ, Hs, M, f, δ', g, s, ea, q⟩ := h
 obtain ⟨w, δ2, eb, ec⟩ := Zc ea
 obtain ⟨p, δ1, e1, e2⟩ := Zc eb
 obtain ⟨u, δ3, e3, e4⟩ := Zc ec
 have := Zg e4
 cases this
 refine ⟨δ, Hs, M, p, δ1, g, s, e1, fun x H2 Hs2 m1 M2 g2 st2 r1 s2 => ?_⟩
 obtain ⟨Hs3, M3, g3, st3, v1, s3⟩ := Za8 (B := m1) g2 s2 r1 e2
 have z := Zr (m1 := fun _ => 0) g (g2.re fun b => by simp) (st2.drop (fun b => by simp) g2.le) g3 st3
 exact ZlT v1 s3 e3 fun σ' kk r => q σ' H2 Hs3 _ kk g3 (z.2.1.drop (fun b => by simp) z.1.le) r
theorem RepL.set {K : Fg} {H Hs : Hp} {vs : List V} {ds : List D} {m m1 : Bud} {n : Nat} {v : V} {d d0 : D} (r : RepL K H Hs vs ds m) (hn : ds[n]? = some d0) (x : Rep K H Hs v d m1) : RepL K H Hs (vs.set n v) (ds.set n d) (fun b => m b + m1 b) := by
 obtain ⟨a, n1, n2, e1, q, l, f⟩ := r.sep.focus hn
 exact ((f (Rep K H Hs) v d m1 (fun a d m' _ q => q) x).mono fun b => by have := l b; (try dsimp only); omega).repL
theorem ZhC {K : Fg} {H Hs : Hp} {σ : St} {δ δ' : List D} {M : Bud} {p : Op} (s : RepS K H Hs σ δ M) (h : Zag i δ = .ok (p, δ')) : δ' = δ /\ ∃ v, σ[i]? = some (some v) := by
 unfold Zag at h
 split at h
 . rename_i hd
   cases h
   obtain ⟨v, _, _, e, _⟩ := s.slot hd (by simp)
   exact ⟨rfl, v, e⟩
 . rename_i hd
   cases h
   obtain ⟨v, _, _, e, _⟩ := s.slot hd (by simp)
   exact ⟨rfl, v, e⟩
 . cases h
theorem ZnO {c : M D} {ck : M Op} (ho : PE X o (tVar i)) (hk : PE X k (tP X.K ck)) (he : PE X e (tM X.K c))
 (ha : ∀ v, assign (.Subscript o k pos') X.env v = (do
  let ov <- holding [v] (eval o X.env)
  let iv <- holding [v, ov] (eval k X.env)
  standAt pos'
  holding [v, ov, iv] (setItem ov iv v)
  release [v, ov, iv] []) := by intro _; rfl)
 (hs : swapsWithSole [.Subscript o k pos'] e pos.line X.env = pure false := by rfl) (hw : swappedStores [.Subscript o k pos'] e X.env = pure none := by rfl)
 (h1 : (assignEach [.Subscript o k pos'] X.env).map (·.2) = [assign (.Subscript o k pos') X.env] := by rfl) :
 PS X (.Assign [.Subscript o k pos'] e pos) (tS X.K lk (c.bnd fun d => (Zag i).bnd fun _ => (ck.bnd view).bnd fun w => (modS i (setD w d)).bnd fun _ => M.ret .nx)) :=
 PS.imp (Zi9 he (Znb ho hk Zka ha) hs hw h1) fun E σ H h => by
 obtain ⟨δ, Hs, M, f, δ', g, s, ea, q⟩ := h
 obtain ⟨d, δ1, e1, eb⟩ := Zc ea
 obtain ⟨p0, δ2, e2, ec⟩ := Zc eb
 obtain ⟨w, δ3, e3, ed⟩ := Zc ec
 obtain ⟨p, δ4, e4, e5⟩ := Zc e3
 obtain ⟨r0, δ5, e6, e7⟩ := Zc ed
 have := Zg e7
 cases this
 obtain ⟨kk, ds0, k', ds', hi, hf, rfl⟩ := ZdQ e6
 refine ⟨δ, Hs, M, d, δ1, g, s, e1, fun v H1 Hs1 m1 M1 g1 st1 r1 s1 => ?_⟩
 obtain ⟨rfl, vo, ho⟩ := ZhC s1 e2
 refine ⟨vo, ho, δ2, Hs1, M1, p, δ4, g1.re, s1, e4, fun y H2 Hs2 m2 M2 g2 st2 r2 s2 => ?_⟩
 obtain ⟨G2, S2, k2⟩ := Zr g g1 st1 g2 st2
 have r1' := r1.frame st2.grow k2
 obtain ⟨Hs3, M3, g3, st3, v3, s3⟩ := Za8 (B := fun b => m1 b + m2 b) (G2.re fun b => by (try dsimp only); omega) s2 r2 e5
 have r1'' := r1'.frame (H' := H2) st3.grow fun _ _ _ => rfl
 obtain ⟨p1, us, m', n2, e8, n, rl, le, fin⟩ := modL g3 s3 hi
 rw [ho] at e8
 cases e8
 unfold setD at hf
 split at hf
 . split at hf
   . rename_i nn
     simp only [Option.map_eq_some_iff] at hf
     obtain ⟨jj, hj, hf⟩ := hf
     cases hf
     cases v3
     have hl := rl.len
     have hjj : ixN us.length nn = some jj := by rw [hl]; exact hj
     have hlt : jj < ds0.length := by
      unfold ixN' at hj
      split at hj
      . split at hj
        . cases hj; omega
        . cases hj
      . split at hj
        . cases hj; omega
        . cases hj
     obtain ⟨G, S, R, SS⟩ := fin (.lst (us.set jj v)) .lst (us.set jj v) (ds0.set jj d) (fun b => m' b + m1 b) (fun _ => 0) .non (.sc .non) (fun b => by (try dsimp only); omega) Zm (rl.set (List.getElem?_eq_getElem hlt) r1'') (.sc _ _)
     have S2' : Stp H Hs M H2 Hs2 (fun b => m1 b + m2 b + M2 b) := S2.drop (fun b => by omega) G2.le
     have G2' : Good H2 Hs2 (fun b => m1 b + m2 b + M2 b) := G2.re fun b => by omega
     have z3 := Zr (m1 := fun _ => 0) g (G2'.re fun b => by simp) (S2'.drop (fun b => by simp) G2'.le) g3 st3
     have S3 : Stp H Hs M H2 Hs3 (fun b => m1 b + m2 b + M3 b) := z3.2.1.drop (fun b => by simp) z3.1.le
     have z := Zr (m1 := fun _ => 0) g (g3.re fun b => by simp) (S3.drop (fun b => by simp) g3.le) G S
     exact ⟨_, us, nn, jj, rfl, rfl, n, hjj, q σ _ Hs3 _ (Keeps.refl _ _) (G.re fun b => by (try dsimp only); omega) ((z.2.1.drop (fun b => by simp) z.1.le).drop (fun b => by (try dsimp only); omega) G.le) SS⟩
   . cases hf
 . cases hf
end
structure WalkV (J : It) (vs : List V) (B : Bud) (Pp : Hp -> Hp -> Prop) : Prop where
 stay : ∀ {H Hs H' Hs' : Hp}, Pp H Hs -> Same Hs Hs' -> (∀ b, B b ≥ 1 -> H b ≠ none -> H' b = H b) -> Pp H' Hs'
 go : ∀ {H Hs : Hp} {i : Nat} {v : V}, Same Hs H -> Pp H Hs -> vs[i]? = some v -> J.go i H
 yld : ∀ {H Hs H' : Hp} {i : Nat} {x v : V}, Same Hs H -> Pp H Hs -> vs[i]? = some v -> J.yld i H x H' -> H' = H /\ x = v
 stop : ∀ {H Hs : Hp} {i : Nat}, Same Hs H -> Pp H Hs -> vs.length <= i -> J.stop i H
def Grow (H Hs H' Hs' : Hp) : Prop := (H' = H /\ Hs' = Hs) \/ ∃ A o, H A = none /\ H' = upd H A o /\ Hs' = upd Hs A o
theorem Grow.same {H Hs H' Hs' : Hp} (w : Grow H Hs H' Hs') (g : Same Hs H) : Same Hs Hs' /\ (∀ b, H b ≠ none -> H' b = H b) /\ Same Hs' H' := by
 rcases w with ⟨rfl, rfl⟩ | ⟨A, o, h, rfl, rfl⟩
 . exact ⟨Same.refl _, fun _ _ => rfl, g⟩
 . have hs : Hs A = none := by
    cases q : Hs A with
    | none => rfl
    | some u => rw [g A u q] at h; cases h
   have ne : ∀ b u, Hs b = some u -> b ≠ A := fun b u e z => by subst z; rw [hs] at e; cases e
   refine ⟨fun b u e => ?_, fun b n => Zq fun z => n (by rw [z]; exact h), fun b u e => ?_⟩
   . rw [Zq (ne b u e)]; exact e
   . by_cases z : b = A
     . subst z; rw [Zm] at e ⊢; exact e
     . rw [Zq z] at e ⊢; exact g b u e
theorem Grow.good {H Hs H' Hs' : Hp} {M : Bud} (w : Grow H Hs H' Hs') (g : Good H Hs M) : Good H' Hs' M := by
 obtain ⟨s1, s2, s3⟩ := w.same g.sub
 refine ⟨s3, g.le, fun b h => ?_, fun b h => ?_⟩
 . rcases w with ⟨rfl, rfl⟩ | ⟨A, o, n, rfl, rfl⟩
   . exact g.ne b h
   . rw [Zq fun z => g.has b h (by rw [z]; exact n)]; exact g.ne b h
 . rw [s2 b (g.has b h)]; exact g.has b h
theorem Grow.stp {H Hs H' Hs' H0 Hs0 : Hp} {M M0 : Bud} (w : Grow H Hs H' Hs') (g : Good H Hs M) (t : Stp H0 Hs0 M0 H Hs M) : Stp H0 Hs0 M0 H' Hs' M := by
 obtain ⟨s1, s2, s3⟩ := w.same g.sub
 refine ⟨fun b o e z => ?_, t.own, t.grow.trans s1, fun b n n' => ?_, fun b n => ?_⟩
 . have e1 := t.keep b o e z
   rw [s2 b (by rw [e1]; simp)]; exact e1
 . by_cases q : Hs b = none
   . rcases w with ⟨rfl, rfl⟩ | ⟨A, o, h, rfl, rfl⟩
     . exact absurd q n'
     . by_cases z : b = A
       . subst z
         cases y : H0 b with
         | none => exact .inr rfl
         | some u => exact absurd h (t.stay b (by rw [y]; simp))
       . rw [Zq z] at n'; exact absurd q n'
   . exact t.shr b n q
 . have := t.stay b n
   rw [s2 b this]; exact this
structure Walk (K : Fg) (J : It) (items : List D) (B : Bud) (Pp : Hp -> Hp -> Prop) : Prop where
 stay : ∀ {H Hs H' Hs' : Hp}, Pp H Hs -> Same Hs Hs' -> (∀ b, B b ≥ 1 -> H b ≠ none -> H' b = H b) -> Pp H' Hs'
 go : ∀ {H Hs : Hp} {i : Nat}, Same Hs H -> Pp H Hs -> i < items.length -> J.go i H
 yld : ∀ {H Hs H' : Hp} {i : Nat} {x : V} {d : D}, Same Hs H -> Pp H Hs -> items[i]? = some d -> J.yld i H x H' -> ∃ Hs', Grow H Hs H' Hs' /\ Rep K H' Hs' x d (fun _ => 0)
 stop : ∀ {H Hs : Hp} {i : Nat}, Same Hs H -> Pp H Hs -> items.length <= i -> J.stop i H
theorem WalkV.w {K : Fg} {J : It} {vs : List V} {items : List D} {B : Bud} {Pp : Hp -> Hp -> Prop} (w : WalkV J vs B Pp) : Walk K J items B (fun H Hs => Pp H Hs /\ RepL K H Hs vs items (fun _ => 0)) where
 stay := fun h g k => ⟨w.stay h.1 g k, h.2.frame g fun b hb => absurd hb (by simp)⟩
 go := fun {H Hs i} g h l => by
  have e := h.2.len
  exact w.go g h.1 (List.getElem?_eq_getElem (show i < vs.length by omega))
 yld := fun {H Hs H' i x d} g h e y => by
  obtain ⟨v, m1, ev, rv, lv⟩ := h.2.at e
  obtain ⟨rfl, rfl⟩ := w.yld g h.1 ev y
  exact ⟨Hs, .inl ⟨rfl, rfl⟩, rv.mono lv⟩
 stop := fun {H Hs i} g h l => w.stop g h.1 (by have := h.2.len; omega)
def Held (K : Fg) (H Hs : Hp) (σ : St) : List (Nat × D) -> Bud -> Prop
 | [], _ => True
 | (i, d) :: r, m => ∃ (v : V) (m1 m2 : Bud), σ[i]? = some (some v) /\ Rep K H Hs v d m1 /\ Held K H Hs σ r m2 /\ ∀ b, m1 b + m2 b <= m b
theorem Held.frame {K : Fg} {H Hs H' Hs' : Hp} {σ : St} (g : Same Hs Hs') : ∀ {hs : List (Nat × D)} {m : Bud}, (∀ b, m b ≥ 1 -> H b ≠ none -> H' b = H b) -> Held K H Hs σ hs m -> Held K H' Hs' σ hs m
 | [], _, _, h => h
 | (i, d) :: r, m, k, ⟨v, m1, m2, e, x, y, l⟩ => ⟨v, m1, m2, e, x.frame g fun b hb => k b (by have := l b; omega), y.frame g fun b hb => k b (by have := l b; omega), l⟩
theorem Held.keeps {K : Fg} {H Hs : Hp} {σ σ' : St} {lk : Nat -> Bool} (k : Keeps lk σ σ') : ∀ {hs : List (Nat × D)} {m : Bud}, (∀ p ∈ hs, lk p.1 = true) -> Held K H Hs σ hs m -> Held K H Hs σ' hs m
 | [], _, _, h => h
 | (i, d) :: r, m, hl, ⟨v, m1, m2, e, x, y, l⟩ => ⟨v, m1, m2, (k i (hl (i, d) List.mem_cons_self)).trans e, x, y.keeps k fun p hp => hl p (List.mem_cons_of_mem _ hp), l⟩
theorem ZcR {K : Fg} {H Hs : Hp} {σ : St} : ∀ {hs : List (Nat × D)} {m M : Bud} {δ δ' : List D} {u : Unit}, Zau hs δ = .ok (u, δ') -> Held K H Hs σ hs m -> RepS K H Hs σ δ M -> RepS K H Hs σ δ' (fun b => m b + M b)
 | [], m, M, δ, δ', u, e, h, s => by
  have := Zg e
  cases this
  exact s.mono fun b => by omega
 | (i, d) :: r, m, M, δ, δ', u, e, ⟨v, m1, m2, e1, x, y, l⟩, s => by
  have hi : i < δ.length := by
   have := s.length
   have := (List.getElem?_eq_some_iff.mp e1).1
   omega
  have z := Zck s hi x
  rw [Z9 e1] at z
  exact (ZcR (show Zau r (δ.set i d) = _ from e) y z).mono fun b => by have := l b; (try dsimp only); omega
inductive tI (K : Fg) (ik : IK) (cs : M (List Op)) (σ : St) (H : Hp) (R : It -> Hp -> Prop) : Prop
 | mk (δ : List D) (Hs : Hp) (M : Bud) (h : List W × List (Nat × D)) (items : List D) (δ' : List D) (h0 : Good H Hs M) (h1 : RepS K H Hs σ δ M) (h2 : (cs.bnd Z1) δ = .ok (h, δ')) (h3 : itW ik h.1 = some items) (h4 : ∀ (J : It) (Pp : Hp -> Hp -> Prop) (H' Hs' : Hp) (B M' : Bud), Good H' Hs' (fun b => B b + M' b) -> Stp H Hs M H' Hs' (fun b => B b + M' b) -> RepS K H' Hs' σ δ' M' -> Held K H' Hs' σ h.2 B -> Walk K J items B Pp -> Pp H' Hs' -> R J H') : tI K ik cs σ H R
theorem PI.imp {X : Cx} {tg it : Expr} {w w' : TI} (h : PI X tg it w) (q : ∀ σ H R, w' σ H R -> w σ H R) : PI X tg it w' := fun pins s σ H R I z => h pins s σ H R I (q σ H R z)
def HW (K : Fg) (H Hs : Hp) (B : Bud) (v : V) : W -> Prop
 | .sc u => v = u
 | .nd k ds => ∃ a vs, v = .ref a /\ RepL K H Hs vs ds (fun _ => 0) /\ (ZcN K Hs a vs k \/ (Zas H a vs k /\ B a ≥ 1))
theorem Zb4 {K : Fg} {H Hs : Hp} {σ : St} {δ δ' : List D} {m M : Bud} {p : Op} {v : V} {w : W × Option (Nat × D)} (g : Good H Hs (fun b => m b + M b)) (s : RepS K H Hs σ δ M) (r : RepP K H Hs σ v p m) (e : Zao p δ = .ok (w, δ')) :
 ∃ Hs' B M', Good H Hs' (fun b => B b + M' b) /\ Stp H Hs (fun b => m b + M b) H Hs' (fun b => B b + M' b) /\ RepS K H Hs' σ δ' M' /\ Held K H Hs' σ w.2.toList B /\ HW K H Hs' B v w.1 := by
 have dropM : ∀ {Hs' : Hp} {M' : Bud}, Good H Hs' M' -> Good H Hs' (fun b => (fun _ => 0) b + M' b) := fun g => g.re fun b => by simp
 cases p with
 | tmp d =>
  cases d with
  | hole => cases e
  | sc u =>
   have := Zg e
   cases this
   cases r
   exact ⟨Hs, fun _ => 0, M, g.re fun b => by simp, (Stp.refl H Hs _).drop (fun b => by simp) g.le, s, trivial, rfl⟩
  | node k o ds =>
   have := Zg e
   cases this
   have hsame := Zbd g (m := m) fun b => by omega
   have r2 := Rep.share hsame (Zc7 (H := H) (Hs := Hs) (m := m)) r
   refine ⟨shH H Hs m, fun _ => 0, M, dropM g.share, (Stp.share g).drop (fun b => by simp) g.share.le, s.frame hsame fun _ _ _ => rfl, trivial, ?_⟩
   simp only [shr] at r2
   cases r2 with
   | shd n r3 => exact ⟨_, _, rfl, r3, .inl n⟩
 | late i =>
  have r : σ[i]? = some (some v) := r
  unfold Zao at e
  dsimp only at e
  split at e
  . rename_i u hi
    cases e
    obtain ⟨v', m1, m2, e1, q, l, f⟩ := s.slot hi (by simp)
    rw [r] at e1
    cases e1
    cases q
    exact ⟨Hs, fun _ => 0, M, g.re fun b => by simp, (Stp.refl H Hs _).drop (fun b => by simp) g.le, s, trivial, rfl⟩
  . rename_i k ds hi
    cases e
    obtain ⟨v', m1, m2, e1, q, l, f⟩ := s.slot hi (by simp)
    rw [r] at e1
    cases e1
    cases q with
    | shd n q => exact ⟨Hs, fun _ => 0, M, g.re fun b => by simp, (Stp.refl H Hs _).drop (fun b => by simp) g.le, s, trivial, _, _, rfl, q, .inl n⟩
  . rename_i k ds hi
    cases e
    obtain ⟨v', m1, m2, e1, q, l, f⟩ := s.slot hi (by simp)
    rw [r] at e1
    cases e1
    cases q with
    | @own a _ vs _ _ m' n q l' =>
     have g2 : Good H Hs (fun b => m' b + (one a b + m2 b)) := g.re fun b => by have := l b; have := l' b; omega
     have hsame := Zbd g2 (m := m') fun b => by omega
     have q2 := RepL.share hsame (Zc7 (H := H) (Hs := Hs) (m := m')) q
     have st := Stp.share g2
     have z := f H (shH H Hs m') (some (.ref a)) .hole (fun _ => 0) hsame (fun _ _ _ => rfl) (.inl rfl)
     rw [Z9 r] at z
     refine ⟨shH H Hs m', one a, m2, g2.share, ⟨fun b o h _ => h, fun b h => ?_, st.grow, fun b h h' => ?_, fun b h => h⟩, z.mono fun b => by simp, ⟨_, one a, fun _ => 0, r, .own n q2 fun b => by simp, trivial, fun b => by simp⟩, _, _, rfl, q2, .inr ⟨n, by simp [one]⟩⟩
     . have h : one a b + m2 b = 1 := h
       have l0 : m b + M b <= 1 := g.le b
       have := l b
       have := l' b
       left
       show m b + M b = 1
       omega
     . rcases st.shr b h h' with z | z
       . have z : m' b + (one a b + m2 b) = 1 := z
         have l0 : m b + M b <= 1 := g.le b
         have := l b
         have := l' b
         left
         show m b + M b = 1
         omega
       . exact .inr z
  . cases e
theorem ZeR (lo : Int) (n : Nat) (B : Bud) : WalkV (Itr lo n) ((List.range n).map fun (k : Nat) => V.int (lo + k)) B (fun _ _ => True) where
 stay := fun _ _ _ => trivial
 go := fun {H Hs i v} _ _ h => by
  have := (List.getElem?_eq_some_iff.mp h).1
  simp only [List.length_map, List.length_range] at this
  exact this
 yld := fun {H Hs H' i x v} _ _ h y => by
  obtain ⟨e, y⟩ := y
  have := (List.getElem?_eq_some_iff.mp h).1
  simp only [List.length_map, List.length_range] at this
  rw [List.getElem?_map, List.getElem?_range this] at h
  simp only [Option.map_some, Option.some.injEq] at h
  exact ⟨e, y.trans h⟩
 stop := fun {H Hs i} _ _ h => by
  simp only [List.length_map, List.length_range] at h
  exact h
theorem ZfG {K : Fg} {a : Addr} {vs : List V} {B : Bud} : WalkV (Itl K a) vs B (fun H Hs => SqL K Hs a vs \/ (H a = some (.lst vs) /\ B a ≥ 1)) := by
 have sq : ∀ {H Hs : Hp}, Same Hs H -> (SqL K Hs a vs \/ (H a = some (.lst vs) /\ B a ≥ 1)) -> SqL K H a vs := fun g h => by
  rcases h with h | h
  . exact g.seq h
  . exact .inl (.inl h.1)
 refine ⟨fun h g k => ?_, fun g h e => ⟨vs, _, sq g h, e⟩, fun g h e y => ?_, fun g h e => ⟨vs, sq g h, e⟩⟩
 . rcases h with h | ⟨h, hb⟩
   . exact .inl (g.seq h)
   . exact .inr ⟨(k a hb (by rw [h]; simp)).trans h, hb⟩
 . obtain ⟨e1, y⟩ := y
   have := y vs (sq g h)
   rw [e] at this
   exact ⟨e1, (Option.some.inj this).symm⟩
theorem ZgD {K : Fg} {a : Addr} {vs : List V} {B : Bud} : WalkV (Itt K a) vs B (fun H Hs => SqT K Hs a vs \/ (H a = some (.tup vs) /\ B a ≥ 1)) := by
 have sq : ∀ {H Hs : Hp}, Same Hs H -> (SqT K Hs a vs \/ (H a = some (.tup vs) /\ B a ≥ 1)) -> SqT K H a vs := fun g h => by
  rcases h with h | h
  . exact Same.tupq' g h
  . exact .inl (.inl h.1)
 refine ⟨fun h g k => ?_, fun g h e => ⟨vs, _, sq g h, e⟩, fun g h e y => ?_, fun g h e => ⟨vs, sq g h, e⟩⟩
 . rcases h with h | ⟨h, hb⟩
   . exact .inl (Same.tupq' g h)
   . exact .inr ⟨(k a hb (by rw [h]; simp)).trans h, hb⟩
 . obtain ⟨e1, y⟩ := y
   have := y vs (sq g h)
   rw [e] at this
   exact ⟨e1, (Option.some.inj this).symm⟩
section
variable {X : Cx} {tg a b l : Expr} {ca cb : M Op} {pos p : Pos}
theorem Ziu {c : M Op} {δ δ' : List D} {h : List W × List (Nat × D)} (e : ((c.bnd fun p => (M.ret ([] : List Op)).bnd fun ps => M.ret (p :: ps)).bnd Z1) δ = .ok (h, δ')) : ∃ p δ1 w, c δ = .ok (p, δ1) /\ Zao p δ1 = .ok (w, δ') /\ h = ([w.1], w.2.toList) := by
 obtain ⟨ps, δ1, e1, e2⟩ := Zc e
 obtain ⟨p, δ2, e3, e4⟩ := Zc e1
 obtain ⟨z, δ3, e5, e6⟩ := Zc e4
 have := Zg e5
 cases this
 have := Zg e6
 cases this
 obtain ⟨w, δ4, e7, e8⟩ := Zc e2
 obtain ⟨z, δ5, e9, e10⟩ := Zc e8
 have := Zg e9
 cases this
 have := Zg e10
 cases this
 exact ⟨p, δ1, w, e3, e7, by simp⟩
theorem Zd0 {K : Fg} {H Hs : Hp} : ∀ (l : List Int), RepL K H Hs (l.map V.int) (l.map fun i => D.sc (.int i)) (fun _ => 0)
 | [] => .nil _
 | i :: l => .cons (m1 := fun _ => 0) (m2 := fun _ => 0) (.sc _ _) (Zd0 l) fun b => by simp
theorem ZhD {K : Fg} {H Hs : Hp} (lo hi : Int) : RepL K H Hs ((List.range (hi - lo).toNat).map fun (k : Nat) => V.int (lo + k)) (rng lo hi) (fun _ => 0) := by
 have z := Zd0 (K := K) (H := H) (Hs := Hs) ((List.range (hi - lo).toNat).map fun (k : Nat) => lo + k)
 rw [List.map_map, List.map_map] at z
 exact z
theorem ZlU (hg : Gl X "range") (hm : X.mg "range" = none) (ha : PE X a (tP X.K ca)) (hs : starEach [a] X.env = [(false, eval a X.env)] := by rfl) :
 PI X tg (.Call (.Name "range" p) [a] [] pos) (tI X.K .rng1 (ca.bnd fun p => (M.ret ([] : List Op)).bnd fun ps => M.ret (p :: ps))) := PI.imp (ZiC hg hm (ZY ha ZaG (by show _ = _; rw [hs]; rfl)) hs) fun σ H R h => by
 obtain ⟨δ, Hs, M, h, items, δ', g, s, e, ei, q⟩ := h
 obtain ⟨p, δ1, w, e1, e2, rfl⟩ := Ziu e
 refine ⟨δ, Hs, M, p, δ1, g, s, e1, fun x H2 Hs2 m1 M2 g2 st2 r1 s2 => ?_⟩
 obtain ⟨Hs3, B, M3, g3, st3, s3, hh, hw⟩ := Zb4 g2 s2 r1 e2
 have z := Zr (m1 := fun _ => 0) g (g2.re fun b => by simp) (st2.drop (fun b => by simp) g2.le) g3 st3
 obtain ⟨w1, w2⟩ := w
 replace ei : Zip _ = _ := ei
 unfold Zip at ei
 split at ei
 rotate_left
 . cases ei
 rename_i n hx
 cases hx
 split at ei
 . rename_i hok
   cases ei
   obtain rfl := hw
   simp only [okR, Bool.and_eq_true, decide_eq_true_eq] at hok
   have hz : (n - 0).toNat = n.toNat := by omega
   refine ⟨n, rfl, hok.1, hok.2, ?_⟩
   have := ZhD (K := X.K) (H := H2) (Hs := Hs3) 0 n
   rw [hz] at this
   exact q _ _ H2 Hs3 B M3 g3 (z.2.1.drop (fun b => by simp) z.1.le) s3 hh (ZeR 0 n.toNat B).w ⟨trivial, this⟩
 . cases ei
theorem ZlV (hg : Gl X "range") (hm : X.mg "range" = none) (ha : PE X a (tP X.K ca)) (hb : PE X b (tP X.K cb)) (hs : starEach [a, b] X.env = [(false, eval a X.env), (false, eval b X.env)] := by rfl) (hs2 : starEach [b] X.env = [(false, eval b X.env)] := by rfl) :
 PI X tg (.Call (.Name "range" p) [a, b] [] pos) (tI X.K .rng2 (ca.bnd fun p => (cb.bnd fun p => (M.ret ([] : List Op)).bnd fun ps => M.ret (p :: ps)).bnd fun ps => M.ret (p :: ps))) := PI.imp (ZiD hg hm (ZY ha (ZY hb ZaG (by show _ = _; rw [hs2]; rfl)) (by show _ = _; rw [hs, hs2])) hs hs2) fun σ H R h => by
 obtain ⟨δ, Hs, M, h, items, δ', g, s, e, ei, q⟩ := h
 obtain ⟨ps, δ1, e1, e2⟩ := Zc e
 obtain ⟨p1, δ2, e3, e4⟩ := Zc e1
 obtain ⟨qs, δ3, e5, e6⟩ := Zc e4
 obtain ⟨p2, δ4, e7, e8⟩ := Zc e5
 obtain ⟨z, δ5, e9, e10⟩ := Zc e8
 have := Zg e9
 cases this
 have := Zg e10
 cases this
 have := Zg e6
 cases this
 obtain ⟨w1, δ6, e11, e12⟩ := Zc e2
 obtain ⟨ws, δ7, e13, e14⟩ := Zc e12
 obtain ⟨w2, δ8, e15, e16⟩ := Zc e13
 obtain ⟨z, δ9, e17, e18⟩ := Zc e16
 have := Zg e17
 cases this
 have := Zg e18
 cases this
 have := Zg e14
 cases this
 obtain ⟨w1, h1⟩ := w1
 obtain ⟨w2, h2⟩ := w2
 replace ei : Ziq _ = _ := ei
 unfold Ziq at ei
 split at ei
 rotate_left
 . cases ei
 rename_i lo hi hx
 cases hx
 split at ei
 . rename_i hok
   cases ei
   simp only [okR, Bool.and_eq_true, decide_eq_true_eq] at hok
   refine ⟨δ, Hs, M, p1, δ2, g, s, e3, fun x H1 Hs1 m1 M1 g1 st1 r1 s1 => ⟨δ2, Hs1, M1, p2, _, g1.re, s1, e7, fun y H2 Hs2 m2 M2 g2 st2 r2 s2 => ?_⟩⟩
   obtain ⟨G2, S2, k2⟩ := Zr g g1 st1 g2 st2
   have r1' := RepP.frame st2.grow k2 r1
   have r2b : RepP X.K H2 Hs2 σ x p1 (fun b => m1 b + m2 b) := by
    cases p1 with
    | late i => exact r1'
    | tmp d => exact Rep.mono r1' fun b => by omega
   obtain ⟨Hs3, B3, M3, g3, st3, s3, hh3, hw3⟩ := Zb4 (m := fun b => m1 b + m2 b) (G2.re fun b => by (try dsimp only); omega) s2 r2b e11
   obtain rfl := hw3
   have r2' : RepP X.K H2 Hs3 σ y p2 (fun _ => 0) := by
    cases p2 with
    | late i => exact r2
    | tmp d =>
     cases d with
     | sc u => cases r2; exact .sc _ _
     | hole => cases e15
     | node k o ds => cases e15
   have nh1 : h1 = none := by
    cases p1 with
    | tmp d => cases d with
     | sc u => cases e11; rfl
     | hole => cases e11
     | node k o ds => cases e11
    | late i =>
     unfold Zao at e11
     dsimp only at e11
     split at e11 <;> cases e11
     rfl
   have nh2 : h2 = none := by
    cases p2 with
    | tmp d => cases d with
     | sc u => cases e15; rfl
     | hole => cases e15
     | node k o ds => cases e15
    | late i =>
     unfold Zao at e15
     dsimp only at e15
     split at e15 <;> cases e15
     rfl
   subst nh1 nh2
   obtain ⟨Hs4, B4, M4, g4, st4, s4, hh4, hw4⟩ := Zb4 (m := fun _ => 0) (g3.re fun b => by simp) s3 r2' e15
   obtain rfl := hw4
   have S2' : Stp H Hs M H2 Hs2 (fun b => m1 b + m2 b + M2 b) := S2.drop (fun b => by omega) G2.le
   have G2' : Good H2 Hs2 (fun b => m1 b + m2 b + M2 b) := G2.re fun b => by omega
   have z3 := Zr (m1 := fun _ => 0) g (G2'.re fun b => by simp) (S2'.drop (fun b => by simp) G2'.le) g3 st3
   have S3 : Stp H Hs M H2 Hs3 (fun b => B3 b + M3 b) := z3.2.1.drop (fun b => by simp) z3.1.le
   have st4' : Stp H2 Hs3 (fun b => B3 b + M3 b) H2 Hs4 (fun b => B4 b + M4 b) := ⟨fun b o h _ => h, fun b h => by
    rcases st4.own b h with z | z
    . have z : 0 + M3 b = 1 := z
      have : B3 b + M3 b <= 1 := g3.le b
      left; show B3 b + M3 b = 1; omega
    . exact .inr z, st4.grow, fun b h h' => by
    rcases st4.shr b h h' with z | z
    . have z : 0 + M3 b = 1 := z
      have : B3 b + M3 b <= 1 := g3.le b
      left; show B3 b + M3 b = 1; omega
    . exact .inr z, fun b h => h⟩
   have z4 := Zr (m1 := fun _ => 0) g (g3.re fun b => by simp) (S3.drop (fun b => by simp) g3.le) g4 st4'
   exact ⟨lo, hi, rfl, ⟨hok.1.1, hok.1.2, hok.2.1, hok.2.2⟩, q _ _ H2 Hs4 B4 M4 g4 (z4.2.1.drop (fun b => by simp) z4.1.le) s4 trivial (ZeR lo _ B4).w ⟨trivial, ZhD lo hi⟩⟩
 . cases ei
theorem ZeS {K : Fg} {H Hs : Hp} : ∀ (l : List Nat), RepL K H Hs (l.map fun c => V.str ⟨#[c]⟩) (l.map fun c => D.sc (.str ⟨#[c]⟩)) (fun _ => 0)
 | [] => .nil _
 | i :: l => .cons (m1 := fun _ => 0) (m2 := fun _ => 0) (.sc _ _) (ZeS l) fun b => by simp
theorem Zku (x : Str) (B : Bud) : WalkV (Its x) (x.cps.toList.map fun c => V.str ⟨#[c]⟩) B (fun _ _ => True) where
 stay := fun _ _ _ => trivial
 go := fun {H Hs i v} _ _ h => by
  have := (List.getElem?_eq_some_iff.mp h).1
  have : i < x.cps.size := by simpa using this
  exact this
 yld := fun {H Hs H' i y v} _ _ h z => by
  obtain ⟨e, c, h1, h2⟩ := z
  refine ⟨e, ?_⟩
  rw [List.getElem?_map, Array.getElem?_toList, h1] at h
  simp only [Option.map_some, Option.some.injEq] at h
  exact h2.trans h
 stop := fun {H Hs i} _ _ h => by
  have h : x.cps.size <= i := by simpa using h
  exact h
theorem Zaz (hl : PE X l (tP X.K ca)) : PI X tg l (tI X.K .val (ca.bnd fun p => (M.ret ([] : List Op)).bnd fun ps => M.ret (p :: ps))) := by
 intro pins st0 σ H R I hh0
 obtain ⟨δ, Hs, M, h, items, δ', g, s, e, ei, q⟩ := hh0
 obtain ⟨p, δ1, w, e1, e2, rfl⟩ := Ziu e
 obtain ⟨w1, w2⟩ := w
 have core : ∀ (x : V) (H2 Hs2 : Hp) (m1 M2 : Bud), Good H2 Hs2 (fun b => m1 b + M2 b) -> Stp H Hs M H2 Hs2 (fun b => m1 b + M2 b) -> RepP X.K H2 Hs2 σ x p m1 -> RepS X.K H2 Hs2 σ δ1 M2 ->
  ∃ Hs3 B M3, Good H2 Hs3 (fun b => B b + M3 b) /\ Stp H Hs M H2 Hs3 (fun b => B b + M3 b) /\ RepS X.K H2 Hs3 σ δ' M3 /\ Held X.K H2 Hs3 σ w2.toList B /\ HW X.K H2 Hs3 B x w1 := fun x H2 Hs2 m1 M2 g2 st2 r1 s2 => by
  obtain ⟨Hs3, B, M3, g3, st3, s3, hh, hw⟩ := Zb4 g2 s2 r1 e2
  have z := Zr (m1 := fun _ => 0) g (g2.re fun b => by simp) (st2.drop (fun b => by simp) g2.le) g3 st3
  exact ⟨Hs3, B, M3, g3, z.2.1.drop (fun b => by simp) z.1.le, s3, hh, hw⟩
 cases w1 with
 | sc u =>
  cases u with
  | str z =>
   cases ei
   refine Znz hl pins st0 σ H R I ⟨δ, Hs, M, p, δ1, g, s, e1, fun x H2 Hs2 m1 M2 g2 st2 r1 s2 => ?_⟩
   obtain ⟨Hs3, B, M3, g3, st3, s3, hh, hw⟩ := core x H2 Hs2 m1 M2 g2 st2 r1 s2
   exact ⟨z, hw, q _ _ H2 Hs3 B M3 g3 st3 s3 hh (Zku z B).w ⟨trivial, ZeS _⟩⟩
  | _ => cases ei
 | nd k ds =>
  cases k with
  | lst =>
   cases ei
   refine Zhz hl pins st0 σ H R I ⟨δ, Hs, M, p, δ1, g, s, e1, fun x H2 Hs2 m1 M2 g2 st2 r1 s2 => ?_⟩
   obtain ⟨Hs3, B, M3, g3, st3, s3, hh, a, vs, hx, hr, hn⟩ := core x H2 Hs2 m1 M2 g2 st2 r1 s2
   have hp : SqL X.K Hs3 a vs \/ (H2 a = some (.lst vs) /\ B a ≥ 1) := hn.elim (fun n => .inl (.inl (.inl n))) fun n => .inr n
   refine ⟨a, hx, ⟨vs, ?_⟩, q _ _ H2 Hs3 B M3 g3 st3 s3 hh ZfG.w ⟨hp, hr⟩⟩
   rcases hp with hp | hp
   . exact g3.sub.seq hp
   . exact .inl (.inl hp.1)
  | frl =>
   cases ei
   refine Zhz hl pins st0 σ H R I ⟨δ, Hs, M, p, δ1, g, s, e1, fun x H2 Hs2 m1 M2 g2 st2 r1 s2 => ?_⟩
   obtain ⟨Hs3, B, M3, g3, st3, s3, hh, a, vs, hx, hr, hn⟩ := core x H2 Hs2 m1 M2 g2 st2 r1 s2
   have hp : SqL X.K Hs3 a vs \/ (H2 a = some (.lst vs) /\ B a ≥ 1) := hn.elim (fun n => .inl n) fun n => n.1.elim
   refine ⟨a, hx, ⟨vs, ?_⟩, q _ _ H2 Hs3 B M3 g3 st3 s3 hh ZfG.w ⟨hp, hr⟩⟩
   rcases hp with hp | hp
   . exact g3.sub.seq hp
   . exact .inl (.inl hp.1)
  | tup =>
   cases ei
   refine ZiB hl pins st0 σ H R I ⟨δ, Hs, M, p, δ1, g, s, e1, fun x H2 Hs2 m1 M2 g2 st2 r1 s2 => ?_⟩
   obtain ⟨Hs3, B, M3, g3, st3, s3, hh, a, vs, hx, hr, hn⟩ := core x H2 Hs2 m1 M2 g2 st2 r1 s2
   have hp : SqT X.K Hs3 a vs \/ (H2 a = some (.tup vs) /\ B a ≥ 1) := hn.elim (fun n => .inl (.inl (.inl n))) fun n => .inr n
   refine ⟨a, hx, ⟨vs, ?_⟩, q _ _ H2 Hs3 B M3 g3 st3 s3 hh ZgD.w ⟨hp, hr⟩⟩
   rcases hp with hp | hp
   . exact Same.tupq' g3.sub hp
   . exact .inl (.inl hp.1)
  | ftp =>
   cases ei
   refine ZiB hl pins st0 σ H R I ⟨δ, Hs, M, p, δ1, g, s, e1, fun x H2 Hs2 m1 M2 g2 st2 r1 s2 => ?_⟩
   obtain ⟨Hs3, B, M3, g3, st3, s3, hh, a, vs, hx, hr, hn⟩ := core x H2 Hs2 m1 M2 g2 st2 r1 s2
   have hp : SqT X.K Hs3 a vs \/ (H2 a = some (.tup vs) /\ B a ≥ 1) := hn.elim (fun n => .inl n) fun n => n.1.elim
   refine ⟨a, hx, ⟨vs, ?_⟩, q _ _ H2 Hs3 B M3 g3 st3 s3 hh ZgD.w ⟨hp, hr⟩⟩
   rcases hp with hp | hp
   . exact Same.tupq' g3.sub hp
   . exact .inl (.inl hp.1)
  | dic ks => cases ei
  | ins C fs => cases ei
end
noncomputable def gT (K : Fg) : Tg -> TG
 | .name i => Zcu i
 | .tup is => gSeq K is.length (gNs is)
theorem ZhE {K : Fg} {H Hs : Hp} {lk : Nat -> Bool} {tg : Tg} {d : D} {v : V} {σ : St} {δ δ' : List D} {M : Bud} {u : Unit} {Q : St -> Hp -> Prop} (hs : Same Hs H) (e : asgT lk tg d δ = .ok (u, δ')) (r : Rep K H Hs v d (fun _ => 0)) (s : RepS K H Hs σ δ M)
 (q : ∀ σ', Keeps lk σ σ' -> RepS K H Hs σ' δ' M -> Q σ' H) : gT K tg v σ H Q := by
 cases tg with
 | name i =>
  obtain ⟨h1, h2, rfl⟩ := ZdR e
  exact q _ (Zcv h2) ((Zck s h1 r).mono fun b => by simp)
 | tup is =>
  cases d with
  | sc v => cases e
  | hole => cases e
  | node k o ds =>
   cases k with
   | tup =>
    have e : ZaX lk is ds δ = .ok (u, δ') := e
    cases r with
    | own n r l =>
     rename_i a _ _
     have := l a
     simp [one] at this
    | shd n r =>
     obtain ⟨hl, hq⟩ := ZdS (Q := Q) e r s fun σ' k z => q σ' k (z.mono fun b => by simp)
     exact ⟨_, _, rfl, .inl (.inl (.inl (hs _ _ n))), hl, hq⟩
   | _ => cases e
theorem ZlW {a : E} {c : M D} (h : ∀ j, a ≠ .v j) : Zk a c = c.bnd fun d => M.ret (.tmp d) := by
 cases a <;> first | rfl | exact absurd rfl (h _)
theorem Zc3 : ∀ {ps : List Op} {δ δ' : List D} {h : List W × List (Nat × D)}, Z1 ps δ = .ok (h, δ') -> ∀ q ∈ h.2, .late q.1 ∈ ps
 | [], δ, δ', h, e, q, hq => by
  have := Zg (show T.M.ret (([] : List W), ([] : List (Nat × D))) δ = .ok (h, δ') from e)
  cases this
  simp at hq
 | p :: ps, δ, δ', h, e, q, hq => by
  obtain ⟨w, δ1, e1, e2⟩ := Zc e
  obtain ⟨ws, δ2, e3, e4⟩ := Zc e2
  have := Zg e4
  cases this
  rcases List.mem_append.mp hq with h | h
  . have : p = .late q.1 := by
     cases p with
     | tmp d => cases d <;> cases e1 <;> simp at h
     | late i =>
      unfold Zao at e1
      dsimp only at e1
      split at e1 <;> cases e1 <;> simp at h
      subst h
      rfl
    rw [this]
    exact List.mem_cons_self
  . exact List.mem_cons_of_mem _ (Zc3 e3 q h)
def HWs (cs : M (List Op)) (lk : Nat -> Bool) : Prop := ∀ δ h δ', (cs.bnd Z1) δ = .ok (h, δ') -> ∀ q ∈ h.2, lk q.1 = true
def LkLe (lk lk' : Nat -> Bool) : Prop := ∀ i, lk i = true -> lk' i = true
theorem ZaC (lk f : Nat -> Bool) : LkLe lk (fun j => lk j || f j) := fun i h => by
 show (lk i || f i) = true
 rw [h]
 rfl
section
variable {X : Cx} {tg iter : Expr} {body : List Stmt} {pos : Pos} {lk lk' : Nat -> Bool} {ik : IK} {cs : M (List Op)} {tgt : Tg} {cb : M Fl}
theorem Zaq (hp : PassesOwn (model X.prog X.w) X.A X.env X.xe) (hc : X.calm = true) (hl : LkLe lk lk') (hw : HWs cs lk')
 (hi : PI X tg iter (tI X.K ik cs)) (hg : PG X tg (gT X.K tgt)) (hb : PSs X body (tS X.K lk' cb)) (hs : ∀ x, foldedSetIterable iter X.env x = pure x := by intro _; rfl) :
 PS X (.For tg iter body [] pos) (tS X.K lk (cs.bnd fun ps => (Z1 ps).bnd fun h => (lift (itW ik h.1)).bnd fun items => (forL (asgT lk' tgt) cb items).bnd fun f => (Zau h.2).bnd fun _ => M.ret f)) :=
 PS.imp (Znd hp hc hi hg hb hs) fun E σ H h => by
 obtain ⟨δ, Hs, M, f, δ', g, s, ea, q⟩ := h
 obtain ⟨ps, δ1, e1, eb⟩ := Zc ea
 obtain ⟨hh, δ2, e2, ec⟩ := Zc eb
 obtain ⟨items, δ3, e3, ed⟩ := Zc ec
 obtain ⟨e3', rfl⟩ := ZN e3
 obtain ⟨f1, δ4, e4, ee⟩ := Zc ed
 obtain ⟨u, δ5, e5, e6⟩ := Zc ee
 have := Zg e6
 cases this
 have e12 : (cs.bnd Z1) δ = .ok (hh, δ3) := by
  show T.M.bnd cs Z1 δ = _
  unfold T.M.bnd
  rw [e1]
  exact e2
 have locked := hw _ _ _ e12
 refine ⟨δ, Hs, M, hh, items, δ3, g, s, e12, e3', fun J Pp H1 Hs1 B M1 g1 st1 s1 held wk pp => ?_⟩
 have kl : ∀ {σ1 σ2 : St}, Keeps lk' σ1 σ2 -> Keeps lk σ1 σ2 := fun k i h => k i (hl i h)
 refine ⟨fun i m σ2 H2 => m = items.length - i /\ i <= items.length /\ Keeps lk' σ σ2 /\ ∃ (δ2 : List D) (Hs2 : Hp) (M2 : Bud), Good H2 Hs2 (fun b => B b + M2 b) /\ Stp H Hs M H2 Hs2 (fun b => B b + M2 b) /\ RepS X.K H2 Hs2 σ2 δ2 M2 /\ Held X.K H2 Hs2 σ2 hh.2 B /\ Pp H2 Hs2 /\ forL (asgT lk' tgt) cb (items.drop i) δ2 = .ok (f, δ4),
  ⟨items.length, by simp, Nat.zero_le _, Keeps.refl _ _, δ3, Hs1, M1, g1, st1, s1, held, pp, by rw [List.drop_zero]; exact e4⟩, ?_⟩
 rintro i m σ2 H2 ⟨rfl, hle, k2, δ2, Hs2, M2, g2, st2, s2, held2, pp2, e7⟩
 have fin_nx : ∀ {σ3 : St} {H3 Hs3 : Hp} {M3 : Bud}, f = .nx -> Keeps lk' σ σ3 -> Good H3 Hs3 (fun b => B b + M3 b) -> Stp H Hs M H3 Hs3 (fun b => B b + M3 b) -> RepS X.K H3 Hs3 σ3 δ4 M3 -> Held X.K H3 Hs3 σ3 hh.2 B -> E.nx σ3 H3 := fun {σ3 H3 Hs3 M3} ef k3 g3 st3 s3 held3 => by
  subst ef
  exact q σ3 H3 Hs3 _ (kl k3) g3 st3 (ZcR e5 held3 s3)
 by_cases hlt : i < items.length
 . right
   have hd : items[i]? = some (items[i]'(by omega)) := List.getElem?_eq_getElem (by omega)
   have hdrop : items.drop i = items[i]'(by omega) :: items.drop (i + 1) := List.drop_eq_getElem_cons (by omega)
   rw [hdrop] at e7
   obtain ⟨u1, δ5', e8, e9⟩ := Zc e7
   obtain ⟨fl, δ6, e10, e11⟩ := Zc e9
   refine ⟨wk.go g2.sub pp2 hlt, fun σ3 H3 => Keeps lk' σ σ3 /\ ∃ (δ2 : List D) (Hs2 : Hp) (M2 : Bud), Good H3 Hs2 (fun b => B b + M2 b) /\ Stp H Hs M H3 Hs2 (fun b => B b + M2 b) /\ RepS X.K H3 Hs2 σ3 δ2 M2 /\ Held X.K H3 Hs2 σ3 hh.2 B /\ Pp H3 Hs2 /\ forL (asgT lk' tgt) cb (items.drop (i + 1)) δ2 = .ok (f, δ4),
    fun σ3 H3 ⟨k3, z⟩ => ⟨items.length - (i + 1), by omega, rfl, hlt, k3, z⟩, fun x H' y => ?_⟩
   obtain ⟨Hs3, gr, rv⟩ := wk.yld g2.sub pp2 hd y
   obtain ⟨sm, fr, _⟩ := gr.same g2.sub
   have pp2 := wk.stay pp2 sm fun b _ n => fr b n
   have s2 := RepS.frame sm (fun b _ n => fr b n) s2
   have held2 := held2.frame sm fun b _ n => fr b n
   have st2 := gr.stp g2 st2
   have g2 := gr.good g2
   clear gr sm fr y
   generalize Hs3 = Hs2 at *
   refine ZhE (Hs := Hs2) g2.sub e8 rv s2 fun σ3 k3 s3 => ?_
   refine ⟨δ5', Hs2, M2, fl, δ6, g2.re, s3, e10, ?_⟩
   have held3 : Held X.K H' Hs2 σ3 hh.2 B := held2.keeps k3 locked
   have nxt : ∀ {σ4 : St} {H4 Hs4 : Hp} {M4 : Bud}, Keeps lk' σ3 σ4 -> Good H4 Hs4 M4 -> Stp H' Hs2 M2 H4 Hs4 M4 ->
    Keeps lk' σ σ4 /\ Good H4 Hs4 (fun b => B b + M4 b) /\ Stp H Hs M H4 Hs4 (fun b => B b + M4 b) /\ Held X.K H4 Hs4 σ4 hh.2 B /\ Pp H4 Hs4 := fun {σ4 H4 Hs4 M4} k4 g4 st4 => by
    obtain ⟨G, S, kk⟩ := Zr g g2 st2 g4 st4
    exact ⟨k2.trans (k3.trans k4), G, S, (held3.keeps k4 locked).frame st4.grow kk, wk.stay pp2 st4.grow kk⟩
   cases fl with
   | nx =>
    refine fun σ4 H4 Hs4 M4 k4 g4 st4 s4 => ?_
    obtain ⟨a1, a2, a3, a4, a6⟩ := nxt k4 g4 st4
    exact ⟨a1, δ6, Hs4, M4, a2, a3, s4, a4, a6, e11⟩
   | ct =>
    refine fun σ4 H4 Hs4 M4 k4 g4 st4 s4 => ?_
    obtain ⟨a1, a2, a3, a4, a6⟩ := nxt k4 g4 st4
    exact ⟨a1, δ6, Hs4, M4, a2, a3, s4, a4, a6, e11⟩
   | bk =>
    refine fun σ4 H4 Hs4 M4 k4 g4 st4 s4 => ?_
    obtain ⟨a1, a2, a3, a4, a6⟩ := nxt k4 g4 st4
    have := Zg e11
    cases this
    exact fin_nx rfl a1 a2 a3 s4 a4
   | rt d =>
    refine fun v σ4 H4 Hs4 m4 M4 k4 g4 st4 rd s4 => ?_
    obtain ⟨a1, a2, a3, a4, a6⟩ := nxt k4 g4 st4
    have := Zg e11
    cases this
    exact q v σ4 H4 Hs4 m4 (fun b => B b + M4 b) (kl a1) (a2.re fun b => by (try dsimp only); omega) (a3.drop (fun b => by (try dsimp only); omega) a2.le) rd (ZcR e5 a4 s4)
 . left
   have e0 : items.drop i = [] := List.drop_of_length_le (by omega)
   rw [e0] at e7
   have := Zg e7
   cases this
   exact ⟨wk.stop g2.sub pp2 (by omega), fin_nx rfl k2 g2 st2 s2 held2⟩
end
theorem RepS.toL {K : Fg} {H Hs : Hp} : ∀ {vs : List V} {ds : List D} {m : Bud}, RepS K H Hs (vs.map some) ds m -> RepL K H Hs vs ds m
 | [], _, _, h => by cases h; exact .nil _
 | v :: vs, _, _, h => by
  cases h with
  | cons x y l =>
   refine .cons ?_ (RepS.toL y) l
   rcases x with rfl | ⟨w, e, r⟩
   . exact .hole _ _
   . cases e
     exact r
section
variable {P : Program} {w : World} {K : Fg} {mg : SO} {base : Heap}
theorem Ziv {N : List Str} {vs : List V} {σ' : St} {n : Nat} (hn : vs.length = n) (k : Keeps (fun i => decide (i < n)) (L2.start N vs) σ') : σ'.take n = vs.map some := by
 apply List.ext_getElem?
 intro i
 by_cases hi : i < n
 . rw [List.getElem?_take_of_lt hi, k i (by simpa using hi)]
   unfold L2.start
   rw [List.getElem?_append_left (by rw [List.length_map]; omega)]
 . rw [List.getElem?_eq_none (by rw [List.length_take]; omega), List.getElem?_eq_none (by rw [List.length_map]; omega)]
theorem Zjm {N : List Str} {vs : List V} {ds : List D} {H Hs : Hp} {m : Bud} (r : RepL K H Hs vs ds m) : RepS K H Hs (L2.start N vs) (ds ++ List.replicate (N.length - ds.length) .hole) m := by
 unfold L2.start
 rw [r.len]
 have z := Sep.append (RepL.slots r) (holes (K := K) (H := H) (Hs := Hs) (fun _ => none) (N.length - ds.length) (fun _ => 0) (List.replicate (N.length - ds.length) none) (by simp))
 exact z.mono fun b => by simp
theorem ZnP {x qual : Str} {st : Stmt} {f : Addr} {fd : FuncData} {N ps : List Str} {k : Nat} {C : Ctx} {body : List S} (F : Fun K x qual st f fd) (Sc : FnScope N ps (Zx st))
 (hb : ∀ (cdv : Value) (A : Around) (outer : List Env) (s : Shared) (H : Hp) (E : XK), Room k (A.deeper (PyProof.Rows.envOfC qual (Zx st) s.heap.objs.size f cdv)) ->
  PSs (cxOf CX0 P w K mg base N qual (Zx st) f cdv A outer s H E).nox (Zax st) (tS K (fun i => decide (i < ps.length)) (exs { C with lock := fun i => decide (i < ps.length) } body))) :
 FnOk P w K mg base CX0 (k + 1) f fd ps (spF K (Zj C ps.length N.length body)) := by
 refine F.ok Sc (fun vs H Q E h => ?_) (fun cdv A outer s H vs Q E hr h => ⟨_, hb cdv A outer s H E hr, ?_⟩)
 . obtain ⟨ds, Hs, m, d, ds', g, r, e, q⟩ := h
   unfold Zj at e
   split at e
   . rename_i hl
     rw [r.len]
     exact hl
   . cases e
 . obtain ⟨ds, Hs, m, d, ds', g, r, e, q⟩ := h
   unfold Zj at e
   split at e
   . rename_i hl
     have hv : vs.length = ps.length := by rw [r.len]; exact hl
     have hr0 := Zjm (N := N) r
     rw [hl] at hr0
     cases he : exs { C with lock := fun i => decide (i < ps.length) } body (ds ++ List.replicate (N.length - ps.length) .hole) with
     | ok z =>
      obtain ⟨fl, δ'⟩ := z
      rw [he] at e
      refine ⟨_, Hs, m, fl, δ', g, hr0, he, ?_⟩
      have back : ∀ {σ' : St} {H' Hs' : Hp} {M' : Bud}, Keeps (fun i => decide (i < ps.length)) (L2.start N vs) σ' -> RepS K H' Hs' σ' δ' M' -> RepL K H' Hs' vs (δ'.take ps.length) M' := fun k' s' => by
       have z := s'.take ps.length
       rw [Ziv hv k'] at z
       exact RepS.toL z
      cases fl with
      | nx =>
       cases e
       exact fun σ' H' Hs' M' k' g' st' s' => q .non H' Hs' (fun _ => 0) M' (Zav g') (st'.drop (fun b => by simp) g'.le) (.sc _ _) (back k' s')
      | rt dd =>
       cases e
       exact fun v σ' H' Hs' m1 M' k' g' st' rv s' => q v H' Hs' m1 M' g' st' rv (back k' s')
      | bk => cases e
      | ct => cases e
     | exc x y => rw [he] at e; cases e
     | stuck => rw [he] at e; cases e
   . cases e
theorem ZdT {x qual : Str} {st : Stmt} {f : Addr} {fd : FuncData} {N ps : List Str} {k n nN : Nat} {C : Ctx} {body : List S} (F : Fun K x qual st f fd) (Sc : FnScope N ps (Zx st)) (hn : ps.length = n) (hN : N.length = nN)
 (hb : ∀ (cdv : Value) (A : Around) (outer : List Env) (s : Shared) (H : Hp) (E : XK), Room k (A.deeper (PyProof.Rows.envOfC qual (Zx st) s.heap.objs.size f cdv)) ->
  PSs (cxOf CX0 P w K mg base N qual (Zx st) f cdv A outer s H E).nox (Zax st) (tS K (fun i => decide (i < n)) (exs { C with lock := fun i => decide (i < n) } body))) :
 FnOk P w K mg base CX0 (k + 1) f fd ps (spF K (Zj C n nN body)) := by
 subst hn hN
 exact ZnP F Sc hb
end
theorem ZeT {K : Fg} {H Hs : Hp} {σ : St} : ∀ {js : List Nat} {δ δ' : List D} {caps : List D} {M : Bud}, Zc6 js δ = .ok (caps, δ') -> RepS K H Hs σ δ M -> ∃ mc M', RepS K H Hs (Zbp js σ) caps mc /\ RepS K H Hs σ δ' M' /\ (∀ b, mc b + M' b <= M b) /\ ∀ j ∈ js, j < σ.length
 | [], δ, δ', caps, M, e, s => by
  have := Zg e
  cases this
  exact ⟨fun _ => 0, M, .nil _, s, fun b => by simp, fun j hj => by simp at hj⟩
 | j :: js, δ, δ', caps, M, e, s => by
  unfold Zc6 at e
  split at e
  . rename_i d hd
    obtain ⟨ds, δ1, e1, e2⟩ := Zc e
    have := Zg e2
    cases this
    obtain ⟨o, m1, m2, q1, q2, l, f⟩ := s.focus hd
    have z := f (RepO K H Hs) o .hole (fun _ => 0) (fun a d m' _ q => q) (.inl rfl)
    rw [Z9 q1] at z
    obtain ⟨mc, M', h1, h2, h3, h4⟩ := ZeT e1 z
    refine ⟨fun b => m1 b + mc b, M', ?_, h2, fun b => by have := l b; have := h3 b; dsimp only at *; omega, fun i hi => ?_⟩
    . rw [Zem]
      have ho : (σ[j]?).join = o := by rw [q1]; rfl
      rw [ho]
      exact .cons q2 h1 fun b => Nat.le_refl _
    . rcases List.mem_cons.mp hi with rfl | hi
      . exact (List.getElem?_eq_some_iff.mp q1).1
      . exact h4 i hi
  . cases e
theorem ZW (caps : List D) : Zbj [] caps = M.ret () := by cases caps <;> rfl
theorem ZgE (j : Nat) (js : List Nat) (d : D) (ds δ : List D) : Zbj (j :: js) (d :: ds) δ = Zbj js ds (δ.set j d) := rfl
theorem Ziw {K : Fg} {H Hs : Hp} {σ : St} (js : List Nat) : ∀ (caps δ δ' : List D) (mc M : Bud) (u : Unit), (∀ j ∈ js, j < σ.length) -> Zbj js caps δ = .ok (u, δ') -> RepS K H Hs (Zbp js σ) caps mc -> RepS K H Hs σ δ M -> RepS K H Hs σ δ' (fun b => mc b + M b) := by
 induction js with
 | nil =>
  intro caps δ δ' mc M u hj e c s
  rw [ZW] at e
  have := Zg e
  cases this
  exact s.mono fun b => by omega
 | cons j js ih =>
  intro caps δ δ' mc M u hj e c s
  rw [Zem] at c
  cases c with
  | @cons _ d _ ds m1 m2 _ x y l =>
   rw [ZgE] at e
   have hlt := hj j List.mem_cons_self
   have hlt2 : j < δ.length := by rw [<- s.length]; exact hlt
   obtain ⟨o, n1, n2, q1, q2, l2, f⟩ := s.focus (List.getElem?_eq_getElem hlt2)
   have ho : (σ[j]?).join = o := by rw [q1]; rfl
   rw [ho] at x
   have z := f (RepO K H Hs) o d m1 (fun a d m' _ q => q) x
   rw [Z9 q1] at z
   have fin := ih ds (δ.set j d) δ' m2 _ u (fun i hi => hj i (List.mem_cons_of_mem _ hi)) e y z
   exact fin.mono fun b => by have := l b; have := l2 b; (try dsimp only); omega
theorem Zkv {H Hs H0 Hs0 : Hp} {M0 N : Bud} {A : Addr} {o : HO} (hA0 : H0 A = none) (hA : Hs A = none) (g : Good H Hs (fun b => one A b + N b)) (st : Stp H0 Hs0 M0 H Hs (fun b => one A b + N b)) : Good (upd H A o) Hs (fun b => one A b + N b) /\ Stp H0 Hs0 M0 (upd H A o) Hs (fun b => one A b + N b) /\ ∀ b, N b ≥ 1 -> upd H A o b = H b := by
 have hn : N A = 0 := by have : one A A + N A <= 1 := g.le A; simp [one] at this; omega
 have ne : ∀ b, b ≠ A -> upd H A o b = H b := fun b hb => Zq hb
 refine ⟨⟨fun b u e => ?_, g.le, g.ne, fun b h => ?_⟩, ⟨fun b u e z => ?_, st.own, st.grow, st.shr, fun b h => ?_⟩, fun b hb => ne b fun q => by subst q; omega⟩
 . have hb : b ≠ A := fun q => by subst q; rw [hA] at e; cases e
   rw [ne b hb]
   exact g.sub b u e
 . by_cases hb : b = A
   . subst hb; rw [Zm]; simp
   . rw [ne b hb]; exact g.has b h
 . have hb : b ≠ A := fun q => by subst q; rw [hA0] at e; cases e
   rw [ne b hb]
   exact st.keep b u e z
 . by_cases hb : b = A
   . subst hb; rw [Zm]; simp
   . rw [ne b hb]; exact st.stay b h
theorem ZhF {K : Fg} {k : Nat} {js : List Nat} {ik : IK} {cs : M (List Op)} {tgt : Tg} {cc : M Bool} {celt : M D} {σ : St} {H : Hp} {Q : VK}
 (h : tM K (cs.bnd fun ps => (Z1 ps).bnd fun h => (lift (itW ik h.1)).bnd fun items => (ZV k js (Z7 (asgT (fun i => decide (k <= i)) tgt) cc celt items [])).bnd fun d => (Zau h.2).bnd fun _ => M.ret d) σ H Q) :
 Zgl k js (tI K ik cs) (gT K tgt) (tT K cc) (tM K celt) σ H Q := by
 obtain ⟨δ, Hs, M, d, δ', g, s, ea, q⟩ := h
 obtain ⟨ps, δ1, e1, eb⟩ := Zc ea
 obtain ⟨hh, δ2, e2, ec⟩ := Zc eb
 obtain ⟨items, δ3, e3, ed⟩ := Zc ec
 obtain ⟨e3', rfl⟩ := ZN e3
 obtain ⟨dd, δ4, e4, ee⟩ := Zc ed
 obtain ⟨u, δ5, e5, e6⟩ := Zc ee
 have := Zg e6
 cases this
 have e12 : (cs.bnd Z1) δ = .ok (hh, δ3) := by
  show T.M.bnd cs Z1 δ = _
  unfold T.M.bnd
  rw [e1]
  exact e2
 refine ⟨δ, Hs, M, hh, items, δ3, g, s, e12, e3', fun J Pp H1 Hs1 B M1 g1 st1 s1 held wk pp A hA => ?_⟩
 unfold ZV at e4
 obtain ⟨caps, δ6, e7, e8⟩ := Zc e4
 obtain ⟨mc, M2, c1, c2, c3, c4⟩ := ZeT e7 s1
 have hA0 : H A = none := by
  cases q : H A with
  | none => rfl
  | some o => exact absurd hA (st1.stay A (by rw [q]; simp))
 cases hL : Z7 (asgT (fun i => decide (k <= i)) tgt) cc celt items [] (List.replicate k .hole ++ caps) with
 | exc x y => rw [hL] at e8; cases e8
 | stuck => rw [hL] at e8; cases e8
 | ok r =>
 obtain ⟨accF, δF⟩ := r
 rw [hL] at e8
 obtain ⟨u2, δ7, e9, e10⟩ := Zc e8
 obtain ⟨e11, rfl⟩ := ZN e10
 have hs1A : Hs1 A = none := by
  cases q : Hs1 A with
  | none => rfl
  | some o => rw [g1.sub A o q] at hA; cases hA
 have zA : B A = 0 /\ M1 A = 0 := by
  have l : B A + M1 A <= 1 := g1.le A
  have : B A + M1 A ≠ 1 := fun e => g1.has A e hA
  omega
 have z2 : mc A = 0 /\ M2 A = 0 := by have := c3 A; omega
 have fr : ∀ b, b ≠ A -> upd H1 A (.lst []) b = H1 b := fun b hb => Zq hb
 have g2 : Good (upd H1 A (.lst [])) Hs1 (fun b => (one A b + (B b + M2 b)) + mc b) := by
  refine ⟨fun b o e => ?_, fun b => ?_, fun b hb => ?_, fun b hb => ?_⟩
  . have hb : b ≠ A := fun q => by subst q; rw [hs1A] at e; cases e
    rw [fr b hb]; exact g1.sub b o e
  . have l : B b + M1 b <= 1 := g1.le b
    have := c3 b
    unfold one
    (try dsimp only)
    split
    . rename_i e; subst e; omega
    . omega
  . by_cases e : b = A
    . subst e; exact hs1A
    . have hb : (one A b + (B b + M2 b)) + mc b = 1 := hb
      simp only [one, if_neg e] at hb
      have l : B b + M1 b <= 1 := g1.le b
      have := c3 b
      exact g1.ne b (by show B b + M1 b = 1; omega)
  . by_cases e : b = A
    . subst e; rw [Zm]; simp
    . rw [fr b e]
      have hb : (one A b + (B b + M2 b)) + mc b = 1 := hb
      simp only [one, if_neg e] at hb
      have l : B b + M1 b <= 1 := g1.le b
      have := c3 b
      exact g1.has b (by show B b + M1 b = 1; omega)
 have st2 : Stp H Hs M (upd H1 A (.lst [])) Hs1 (fun b => (one A b + (B b + M2 b)) + mc b) := by
  refine ⟨fun b o e z => ?_, fun b hb => ?_, st1.grow, st1.shr, fun b hb => ?_⟩
  . have hb : b ≠ A := fun q => by subst q; rw [hA0] at e; cases e
    rw [fr b hb]; exact st1.keep b o e z
  . by_cases e : b = A
    . subst e; exact .inr hA0
    . have hb : (one A b + (B b + M2 b)) + mc b = 1 := hb
      simp only [one, if_neg e] at hb
      have l : B b + M1 b <= 1 := g1.le b
      have := c3 b
      exact st1.own b (by show B b + M1 b = 1; omega)
  . by_cases e : b = A
    . subst e; rw [Zm]; simp
    . rw [fr b e]; exact st1.stay b hb
 have keepA : ∀ (N : Bud), N A = 0 -> ∀ b, N b ≥ 1 -> H1 b ≠ none -> upd H1 A (.lst []) b = H1 b := fun N hN b hb _ => fr b fun q => by subst q; omega
 refine ⟨fun i m σ2 ys H2 => m = items.length - i /\ i <= items.length /\ Keeps (fun i => decide (k <= i)) (ZaQ k js σ) σ2 /\ ∃ (δ2 : List D) (Hs2 : Hp) (N ma : Bud) (acc : List D), Good H2 Hs2 (fun b => (one A b + (B b + M2 b + ma b)) + N b) /\ Stp H Hs M H2 Hs2 (fun b => (one A b + (B b + M2 b + ma b)) + N b) /\ RepS K H2 Hs2 σ2 δ2 N /\
  RepL K H2 Hs2 ys acc ma /\ RepS K H2 Hs2 σ δ6 M2 /\ Held K H2 Hs2 σ hh.2 B /\ Pp H2 Hs2 /\ Z7 (asgT (fun i => decide (k <= i)) tgt) cc celt (items.drop i) acc δ2 = .ok (accF, δF),
  ⟨items.length, by simp, Nat.zero_le _, Keeps.refl _ _, List.replicate k .hole ++ caps, Hs1, mc, fun _ => 0, [], g2.re fun b => by (try dsimp only); omega, st2.drop (fun b => by (try dsimp only); omega) g2.le, ?_, .nil _, c2.frame (Same.refl _) (keepA M2 z2.2), held.frame (Same.refl _) (keepA B zA.1), wk.stay pp (Same.refl _) (keepA B zA.1), by rw [List.drop_zero]; exact hL⟩, ?_⟩
 . have z := Sep.append (holes (K := K) (H := H1) (Hs := Hs1) (fun _ => none) k (fun _ => 0) (List.replicate k none) (by simp)) c1
   exact RepS.frame (Same.refl _) (keepA mc z2.1) (z.mono fun b => by simp)
 rintro i m σ2 ys H2 ⟨rfl, hle, k2, δ2, Hs2, N, ma, acc, g3, st3, s3, ra, so, held2, pp2, e13⟩ hD
 have hsA : Hs2 A = none := g3.ne A (by have := g3.le A; (try dsimp only at this ⊢); simp only [one, if_pos] at this ⊢; omega)
 by_cases hlt : i < items.length
 . right
   have hd : items[i]? = some (items[i]'(by omega)) := List.getElem?_eq_getElem (by omega)
   have hdrop : items.drop i = items[i]'(by omega) :: items.drop (i + 1) := List.drop_eq_getElem_cons (by omega)
   rw [hdrop] at e13
   obtain ⟨u3, δ8, e14, e15⟩ := Zc e13
   obtain ⟨t, δ9, e16, e17⟩ := Zc e15
   refine ⟨wk.go g3.sub pp2 hlt, fun x H' y => ?_⟩
   obtain ⟨Hs3, gr, rv⟩ := wk.yld g3.sub pp2 hd y
   obtain ⟨sm, fr, _⟩ := gr.same g3.sub
   have pp2 := wk.stay pp2 sm fun b _ n => fr b n
   have s3 := RepS.frame sm (fun b _ n => fr b n) s3
   have so := RepS.frame sm (fun b _ n => fr b n) so
   have ra := ra.frame sm fun b _ n => fr b n
   have held2 := held2.frame sm fun b _ n => fr b n
   have hD : H' A = some (.lst ys) := (fr A (by rw [hD]; simp)).trans hD
   have st3 := gr.stp g3 st3
   have g3 := gr.good g3
   clear gr sm fr y hsA
   generalize Hs3 = Hs2 at *
   generalize H' = H2 at *
   refine ZhE (Hs := Hs2) g3.sub e14 rv s3 fun σ3 k3 s4 => ?_
   refine ⟨δ8, Hs2, N, t, δ9, g3.re fun b => by (try dsimp only); omega, s4, e16, fun H4 Hs4 M4 g4 st4 s5 => ?_⟩
   obtain ⟨G, S, kk⟩ := Zr (m1 := fun b => one A b + (B b + M2 b + ma b)) g g3 st3 g4 st4
   have kA : H4 A = some (.lst ys) := by rw [<- hD]; exact kk A (by simp [one]) (by rw [hD]; simp)
   have ra4 := ra.frame st4.grow fun b hb => kk b (by (try dsimp only); omega)
   have so4 := RepS.frame st4.grow (fun b hb => kk b (by (try dsimp only); omega)) so
   have held4 := held2.frame st4.grow fun b hb => kk b (by (try dsimp only); omega)
   have pp4 := wk.stay pp2 st4.grow fun b hb => kk b (by (try dsimp only); omega)
   have lmeas : items.length - (i + 1) < items.length - i := by omega
   cases t with
   | false =>
    dsimp only
    rw [if_neg Bool.false_ne_true]
    exact ⟨kA, _, lmeas, rfl, hlt, k2.trans k3, δ9, Hs4, M4, ma, acc, G, S, s5, ra4, so4, held4, pp4, e17⟩
   | true =>
    dsimp only
    rw [if_pos rfl]
    rw [if_pos rfl] at e17
    obtain ⟨xd, δ10, e18, e19⟩ := Zc e17
    refine ⟨δ9, Hs4, M4, xd, δ10, g4, s5, e18, fun yv H5 Hs5 m5 M5 g5 st5 r5 s6 => ?_⟩
    obtain ⟨G5, S5, kk5⟩ := Zr (m1 := fun b => one A b + (B b + M2 b + ma b)) g G S g5 st5
    have kA5 : H5 A = some (.lst ys) := by rw [<- kA]; exact kk5 A (by simp [one]) (by rw [kA]; simp)
    have hsz : ys.length < sizeLine := by
     have e20 : accF.length <= sizeLine := by
      unfold newL at e11
      split at e11
      . rename_i hz; exact hz
      . cases e11
     have grow : ∀ (its acc : List D) (δ : List D) (r : List D × List D), Z7 (asgT (fun i => decide (k <= i)) tgt) cc celt its acc δ = .ok r -> acc.length <= r.1.length := by
      intro its
      induction its with
      | nil => intro acc δ r e; have := Zg e; subst this; exact Nat.le_refl _
      | cons a its ih =>
       intro acc δ r e
       obtain ⟨_, _, _, f1⟩ := Zc e
       obtain ⟨tt, _, _, f2⟩ := Zc f1
       cases tt with
       | false => exact ih _ _ _ f2
       | true =>
        rw [if_pos rfl] at f2
        obtain ⟨_, _, _, f3⟩ := Zc f2
        have := ih _ _ _ f3
        rw [List.length_append, List.length_singleton] at this
        omega
     have := grow _ _ _ _ e19
     dsimp only at this
     rw [List.length_append, List.length_singleton] at this
     have := ra.len
     omega
    have hsA5 : Hs5 A = none := G5.ne A (by have := G5.le A; (try dsimp only at this ⊢); simp only [one, if_pos] at this ⊢; omega)
    have G5' : Good H5 Hs5 (fun b => one A b + (B b + M2 b + ma b + (m5 b + M5 b))) := G5.re fun b => by (try dsimp only); omega
    obtain ⟨G6, S6, k6⟩ := Zkv (o := .lst (ys ++ [yv])) hA0 hsA5 G5' (S5.drop (fun b => by (try dsimp only); omega) G5.le)
    have fr6 : ∀ (R : Bud), (∀ b, R b <= B b + M2 b + ma b + (m5 b + M5 b)) -> ∀ b, R b ≥ 1 -> H5 b ≠ none -> upd H5 A (.lst (ys ++ [yv])) b = H5 b := fun R hR b hb _ => k6 b (by have := hR b; omega)
    refine ⟨kA5, hsz, _, lmeas, rfl, hlt, k2.trans k3, δ10, Hs5, M5, fun b => ma b + m5 b, acc ++ [xd], G6.re fun b => by (try dsimp only); omega, S6.drop (fun b => by (try dsimp only); omega) G6.le, RepS.frame (Same.refl _) (fr6 M5 fun b => by omega) s6, ?_, ?_, ?_, ?_, e19⟩
    . exact RepL.frame (Same.refl _) (fr6 _ fun b => by (try dsimp only); omega) ((ra4.frame st5.grow fun b hb => kk5 b (by (try dsimp only); omega)).app (.cons r5 (.nil (fun _ => 0)) fun b => by simp))
    . exact RepS.frame (Same.refl _) (fr6 M2 fun b => by omega) (RepS.frame st5.grow (fun b hb => kk5 b (by (try dsimp only); omega)) so4)
    . exact (held4.frame st5.grow fun b hb => kk5 b (by (try dsimp only); omega)).frame (Same.refl _) (fr6 B fun b => by omega)
    . exact wk.stay (wk.stay pp4 st5.grow fun b hb => kk5 b (by (try dsimp only); omega)) (Same.refl _) (fr6 B fun b => by omega)
 . left
   have e0 : items.drop i = [] := List.drop_of_length_le (by omega)
   rw [e0] at e13
   have := Zg e13
   cases this
   refine ⟨wk.stop g3.sub pp2 (by omega), ?_⟩
   have hdrop : σ2.drop k = Zbp js σ := by
    have hl2 : σ2.length = δF.length := s3.length
    apply List.ext_getElem?
    intro j
    rw [List.getElem?_drop, k2 (k + j) (by simp)]
    unfold ZaQ
    rw [List.getElem?_append_right (by simp)]
    simp
   have sd := s3.drop k
   rw [hdrop] at sd
   have so' := Ziw js _ _ _ _ _ _ c4 e9 sd so
   unfold newL at e11
   split at e11
   . cases e11
     have rD : Rep K H2 Hs2 (.ref A) (.node .lst true accF) (fun b => one A b + ma b) := .own hD ra fun b => Nat.le_refl _
     exact q _ H2 Hs2 (fun b => one A b + ma b) (fun b => B b + (N b + M2 b)) (g3.re fun b => by (try dsimp only); omega) (st3.drop (fun b => by (try dsimp only); omega) g3.le) rD (ZcR e5 held2 so')
   . cases e11
section
variable {X : Cx} {elt tg iter : Expr} {ifs : List Expr} {scope : Scope} {pos spos pos' : Pos} {k : Nat} {js : List Nat} {N' : List Str} {ik : IK} {cs : M (List Op)} {tgt : Tg} {cc : M Bool} {celt : M D} {lk : Nat -> Bool} {i : Nat} {x : Str} {sc : Scope} {N : List Str}
theorem PIf.imp {t t' : TT} (h : PIf X ifs t) (w : ∀ σ H Q, t' σ H Q -> t σ H Q) : PIf X ifs t' := fun pins s σ H Q I q => h pins s σ H Q I (w σ H Q q)
theorem ZaT : PIf X [] (tT X.K (M.ret true)) := PIf.imp Zl9 fun σ H Q h => ZeP h
theorem ZgF {c : Expr} {ct : M Bool} (h : PT X c (tT X.K ct)) : PIf X [c] (tT X.K (ct.bnd fun b => if b then M.ret true else M.ret false)) := PIf.imp (ZlA h) fun σ H Q h => by
 obtain ⟨δ, Hs, M, b, δ', g, s, e, q⟩ := h
 obtain ⟨t, δ1, e1, e2⟩ := Zc e
 refine ⟨δ, Hs, M, t, δ1, g, s, e1, fun H' Hs' M' g' st s' => ?_⟩
 cases t with
 | true => have := Zg e2; cases this; exact q H' Hs' M' g' st s'
 | false => have := Zg e2; cases this; exact q H' Hs' M' g' st s'
theorem Zbk (hc : X.calm = true) (S : CompScope X k js N' scope) (hi : PI X tg iter (tI X.K ik cs))
 (hin : ∀ (cl : List (Str × Addr)) (C : Addr) (s₀ : Shared) (H₀ : Hp) (ex : List Addr), PG (cxC X N' scope cl C s₀ H₀ ex) tg (gT X.K tgt) /\ PIf (cxC X N' scope cl C s₀ H₀ ex) ifs (tT X.K cc) /\ PE (cxC X N' scope cl C s₀ H₀ ex) elt (tM X.K celt))
 (hs : ∀ x, foldedSetIterable iter X.env x = pure x := by intro _; rfl) :
 PE X (.ListComp elt [⟨tg, iter, ifs, 0⟩] scope pos) (tM X.K (cs.bnd fun ps => (Z1 ps).bnd fun h => (lift (itW ik h.1)).bnd fun items => (ZV k js (Z7 (asgT (fun i => decide (k <= i)) tgt) cc celt items [])).bnd fun d => (Zau h.2).bnd fun _ => M.ret d)) :=
 PE.imp (ZlB hc S hi hin hs) fun σ H Q h => ZhF h
theorem ZlX (h : Zw sc N i x false = true) (nd : N.Nodup) (hw : Zdu sc scope x = true) (hc : X.calm = true) (S : CompScope X k js N' scope) (hi : PI X tg iter (tI X.K ik cs))
 (hin : ∀ (cl : List (Str × Addr)) (C : Addr) (s₀ : Shared) (H₀ : Hp) (ex : List Addr), PG (cxC X N' scope cl C s₀ H₀ ex) tg (gT X.K tgt) /\ PIf (cxC X N' scope cl C s₀ H₀ ex) ifs (tT X.K cc) /\ PE (cxC X N' scope cl C s₀ H₀ ex) elt (tM X.K celt))
 (hl : (pos'.line == pos.line) = true := by rfl) (e1 : X.env.scope = sc := by rfl) (e2 : X.N = N := by rfl) (hs : ∀ x, foldedSetIterable iter X.env x = pure x := by intro _; rfl) :
 PS X (.Assign [.Name x pos'] (.ListComp elt [⟨tg, iter, ifs, 0⟩] scope pos) spos) (tS X.K lk ((cs.bnd fun ps => (Z1 ps).bnd fun h => (lift (itW ik h.1)).bnd fun items => (ZV k js (Z7 (asgT (fun i => decide (k <= i)) tgt) cc celt items [])).bnd fun d => (Zau h.2).bnd fun _ => M.ret d).bnd fun d => (asgN lk i d).bnd fun _ => M.ret .nx)) :=
 PS.imp (Zkl h nd hw hc S hi hin hl e1 e2 hs) fun E σ H hh => by
 obtain ⟨δ, Hs, M, f, δ', g, s, e, q⟩ := hh
 obtain ⟨d, δ1, e1, e2⟩ := Zc e
 obtain ⟨u, δ2, e3, e4⟩ := Zc e2
 have := Zg e4
 cases this
 obtain ⟨h1, h2, rfl⟩ := ZdR e3
 exact ZhF ⟨δ, Hs, M, d, δ1, g, s, e1, fun v H' Hs' m M' g' st' r s' => q _ H' Hs' _ (Zcv h2) g' st' (Zck s' h1 r)⟩
theorem ZlY {e : Expr} {c : M D} {b : Bool} (h : Zw sc N i x b = true) (nd : N.Nodup) (he : PE X e (tM X.K c)) (hs : swapsWith e (some (.Name x pos')) pos.line X.env = pure false := by rfl) (e1 : X.env.scope = sc := by rfl) (e2 : X.N = N := by rfl)
 (hf : X.fn x = true \/ b = false := by first | exact .inl rfl | exact .inr rfl) : PS X (.Assign [.Name x pos'] e pos) (tS X.K lk (c.bnd fun d => (asgN lk i d).bnd fun _ => M.ret .nx)) := by
 obtain ⟨h1, h2, h3, h4⟩ := Zw.at h
 have l := Zw.loc h
 subst e1 e2
 refine ZnN nd h1 l he hs ?_
 rcases hf with q | q
 . exact .inl q
 . subst q
   exact .inr h2
theorem ZpZ {es : List Expr} {is : List Nat} {b : Bool} (h : Zw sc N i x b = true) (nd : N.Nodup) (hr : PGs X es (gNs is)) (e1 : X.env.scope = sc := by rfl) (e2 : X.N = N := by rfl) (hf : X.fn x = true \/ b = false := by first | exact .inl rfl | exact .inr rfl)
 (hs : (assignEach (.Name x pos :: es) X.env).map (·.2) = assign (.Name x pos) X.env :: (assignEach es X.env).map (·.2) := by rfl) : PGs X (.Name x pos :: es) (gNs (i :: is)) := by
 obtain ⟨h1, h2, h3, h4⟩ := Zw.at h
 have l := Zw.loc h
 subst e1 e2
 refine ok_g nd h1 l hr ?_ hs
 rcases hf with q | q
 . exact .inl q
 . subst q
   exact .inr h2
theorem Zqa {b : Bool} (h : Zw sc N i x b = true) (nd : N.Nodup) (e1 : X.env.scope = sc := by rfl) (e2 : X.N = N := by rfl) (hf : X.fn x = true \/ b = false := by first | exact .inl rfl | exact .inr rfl) : PG X (.Name x pos) (gT X.K (.name i)) := Zkk h nd e1 e2 hf
end
def ZaN (ca : M Op) (lk : Nat -> Bool) : Prop := ∀ δ p δ', ca δ = .ok (p, δ') -> ∀ i, p = .late i -> lk i = true
theorem Zc9 {i : Nat} {lk : Nat -> Bool} (h : lk i = true) : ZaN (Zag i) lk := fun δ p δ' e j hj => by
 unfold Zag at e
 split at e <;> cases e <;> cases hj <;> exact h
theorem ZnQ {c : M D} {lk : Nat -> Bool} : ZaN (c.bnd fun d => M.ret (.tmp d)) lk := fun δ p δ' e j hj => by
 obtain ⟨d, δ1, e1, e2⟩ := Zc e
 have := Zg e2
 cases this
 cases hj
theorem Zjn {p : Op} {δ δ' : List D} {w : W × Option (Nat × D)} (e : Zao p δ = .ok (w, δ')) : ∀ q ∈ w.2.toList, p = .late q.1 := fun q hq => by
 cases p with
 | tmp d => cases d <;> cases e <;> simp at hq
 | late i =>
  unfold Zao at e
  dsimp only at e
  split at e <;> cases e <;> simp at hq
  subst hq
  rfl
theorem hw_1 {ca : M Op} {lk : Nat -> Bool} (h : ZaN ca lk) : HWs (ca.bnd fun p => (M.ret ([] : List Op)).bnd fun ps => M.ret (p :: ps)) lk := fun δ w δ' e q hq => by
 obtain ⟨p, δ1, w1, e1, e2, rfl⟩ := Ziu e
 exact h _ _ _ e1 _ (Zjn e2 q hq)
theorem hw_2 {ca cb : M Op} {lk : Nat -> Bool} (h1 : ZaN ca lk) (h2 : ZaN cb lk) : HWs (ca.bnd fun p => (cb.bnd fun p => (M.ret ([] : List Op)).bnd fun ps => M.ret (p :: ps)).bnd fun ps => M.ret (p :: ps)) lk := fun δ w δ' e q hq => by
 obtain ⟨ps, δ1, e1, e2⟩ := Zc e
 obtain ⟨p1, δ2, e3, e4⟩ := Zc e1
 obtain ⟨qs, δ3, e5, e6⟩ := Zc e4
 obtain ⟨p2, δ4, e7, e8⟩ := Zc e5
 obtain ⟨z, δ5, e9, e10⟩ := Zc e8
 have := Zg e9
 cases this
 have := Zg e10
 cases this
 have := Zg e6
 cases this
 have := Zc3 e2 q hq
 rcases List.mem_cons.mp this with z | z
 . exact h1 _ _ _ e3 _ z.symm
 . exact h2 _ _ _ e7 _ (List.mem_singleton.mp z).symm
section
variable {X : Cx} {e a b c : Expr} {pos p : Pos} {ca cb cc : M Op} {x : Str} {j n : Nat} {fi : FI} {ps : List Str}
theorem Zqb {v : V} {d : D} (h : PE X e (tC v)) (hr : ∀ H Hs m, Rep X.K H Hs v d m) : PE X e (tM X.K (M.ret d)) := PE.imp h fun σ H Q z0 => by
 obtain ⟨δ, Hs, M, d', δ', g, r, e, q⟩ := z0
 have := Zg e
 cases this
 exact q v H Hs (fun _ => 0) M (Zav g) (stp0 H Hs M) (hr H Hs _) r
theorem ZlZ {K : Fg} {H Hs : Hp} {x : V} {w : W} {m : Bud} (h : View K H Hs x w m) : isNW true w = .sc (.bl (decide (x = .non))) /\ isNW false w = .sc (.bl (!decide (x = .non))) := by
 cases h with
 | sc v m => constructor <;> simp only [isNW] <;> cases decide (x = V.non) <;> rfl
 | nd n r => constructor <;> simp [isNW]
end
noncomputable def Zfq : Expr -> Option V
 | .Constant (.int n) _ _ => some (.int n)
 | .Constant (.str z) _ _ => some (.str z)
 | .Constant (.bool b) _ _ => some (.bl b)
 | .Constant .none _ _ => some .non
 | _ => none
noncomputable def Zcl : List Expr -> Option (List V)
 | [] => some []
 | e :: es => (Zfq e).bind fun v => (Zcl es).map (v :: ·)
theorem Zkw {X : Cx} {e : Expr} {v : V} (h : Zfq e = some v) : PE X e (tC v) /\ ∀ es : List Expr, starEach (e :: es) X.env = (false, eval e X.env) :: starEach es X.env := by
 unfold Zfq at h
 split at h
 . cases h; exact ⟨ZI, fun es => rfl⟩
 . cases h; exact ⟨ZmQ, fun es => rfl⟩
 . cases h; exact ⟨ZcJ, fun es => rfl⟩
 . cases h; exact ⟨Zgu, fun es => rfl⟩
 . cases h
theorem ZfH {X : Cx} : ∀ {es : List Expr} {vs : List V}, Zcl es = some vs -> PA X es (fun _ H Q => Q vs H)
 | [], vs, h => by
  simp only [Zcl, Option.some.injEq] at h
  subst h
  exact ZaG
 | e :: es, vs, h => by
  simp only [Zcl, Option.bind_eq_some_iff, Option.map_eq_some_iff] at h
  obtain ⟨v, h1, ws, h2, rfl⟩ := h
  obtain ⟨c1, c2⟩ := Zkw (X := X) h1
  exact ZY c1 (ZfH h2) (c2 es)
theorem Zfr {K : Fg} {H Hs : Hp} : ∀ (vs : List V), RepL K H Hs vs (vs.map D.sc) (fun _ => 0)
 | [] => .nil _
 | v :: vs => .cons (m1 := fun _ => 0) (m2 := fun _ => 0) (.sc v _) (Zfr vs) fun b => by simp
theorem Zqc {X : Cx} {es : List Expr} {vs : List V} {pos : Pos} (h : Zcl es = some vs) : PE X (.List es pos) (tM X.K (lift (newL (vs.map D.sc)))) := PE.imp (ZiM (ZfH h)) fun σ H Q hq => by
 obtain ⟨δ, Hs, M, d, δ', g, s, e, q⟩ := hq
 obtain ⟨e1, rfl⟩ := ZN e
 unfold newL at e1
 split at e1
 . rename_i hl
   cases e1
   have o : Outs X.K H Hs (fun _ => 0) _ Q := Zb3 (B := fun _ => 0) (M := M) (stp0 H Hs M) (Zav g) s q
   exact ⟨by simpa using hl, fun p hp => o.new (fun b => by simp) (fun b hb => by simp at hb) hp (vs := vs) Zm (Zfr vs)⟩
 . cases e1
theorem Zad : bootBuiltins "len" = some (.builtin "len") := by decide +kernel
theorem ZnR : bootBuiltins "abs" = some (.builtin "abs") := by decide +kernel
theorem Zd1 : bootBuiltins "sum" = some (.builtin "sum") := by decide +kernel
theorem ZnS : bootBuiltins "all" = some (.builtin "all") := by decide +kernel
theorem Zjo : bootBuiltins "min" = some (.builtin "min") := by decide +kernel
theorem ZnT : bootBuiltins "max" = some (.builtin "max") := by decide +kernel
theorem Za0 : bootBuiltins "list" = some (.type "list") := by decide +kernel
noncomputable def C0 : Ctx := { lock := fun _ => false, fok := fun _ _ => false, fuel := 0 }
section
variable {X : Cx} {o e a : Expr} {es : List Expr} {cpos apos pos p : Pos} {ca : M Op} {cs : M (List Op)} {i : Nat} {name m x f : Str} {A : Addr} {fi : FI} {j n : Nat} {ps : List Str}
theorem Zma {K : Fg} {H Hs : Hp} {σ : St} {δ δ' : List D} {m0 M : Bud} {p : Op} {v : V} {u : Unit} (g : Good H Hs (fun b => m0 b + M b)) (s : RepS K H Hs σ δ M) (r : RepP K H Hs σ v p m0) (h : chkI A m p δ = .ok (u, δ')) :
 δ' = δ /\ ∃ a dx fs, v = .ref a /\ H a = some (.ins A dx fs) /\ fs.lookup m = none := by
 have fin : ∀ {B : Addr} {fs : List Str} {o : Bool} {ds : List D} {m1 : Bud}, Rep K H Hs v (.node (.ins B fs) o ds) m1 -> B = A -> m ∉ fs -> ∃ a dx fs, v = .ref a /\ H a = some (.ins A dx fs) /\ fs.lookup m = none := fun {B fs o ds m1} q hB hm => by
  subst hB
  have nl : ∀ {vs : List V}, fs.length = vs.length -> (fs.zip vs).lookup m = none := fun {vs} hl => by
   rw [List.lookup_eq_none_iff]
   intro p hp
   have := (List.of_mem_zip (a := p.1) (b := p.2) hp).1
   have hne : m ≠ p.1 := fun q => hm (by rw [q]; exact this)
   simpa using hne
  cases q with
  | own n q _ => obtain ⟨hl, dx, e⟩ := n; exact ⟨_, dx, _, rfl, e, nl hl⟩
  | shd n q => obtain ⟨hl, dx, e⟩ := n; exact ⟨_, dx, _, rfl, g.sub _ _ e, nl hl⟩
 cases p with
 | late i =>
  unfold chkI at h
  dsimp only at h
  split at h
  . rename_i B fs oo ds hi
    split at h
    . rename_i hc
      cases h
      obtain ⟨v', m1, m2, e1, q, l, f⟩ := s.slot hi (by simp)
      rw [show σ[i]? = some (some v) from r] at e1
      cases e1
      exact ⟨rfl, fin q hc.1 hc.2⟩
    . cases h
  . cases h
 | tmp d =>
  cases d with
  | sc u => cases h
  | hole => cases h
  | node k oo ds =>
   cases k with
   | ins B fs =>
    unfold chkI at h
    dsimp only at h
    split at h
    . rename_i hc
      cases h
      exact ⟨rfl, fin r hc.1 hc.2⟩
    . cases h
   | _ => cases h
theorem ZhG {K : Fg} {σ : St} {H : Hp} {Q : VK} {E : XK} (h : tM K (ca.bnd fun p => (chkI A m p).bnd fun _ => cs.bnd fun ps => ZaB fi (p :: ps)) σ H Q) :
 tP K ca σ H fun x H1 => ∃ a dx fs, x = .ref a /\ H1 a = some (.ins A dx fs) /\ fs.lookup m = none /\ tPs K cs σ H1 fun vs H2 => spF K fi.run (x :: vs) H2 Q E := by
 obtain ⟨δ, Hs, M, d, δ', g, s, ea, q⟩ := h
 obtain ⟨p, δ1, e1, eb⟩ := Zc ea
 obtain ⟨u, δ2, e2, ec⟩ := Zc eb
 obtain ⟨ps, δ3, e3, ed⟩ := Zc ec
 refine ⟨δ, Hs, M, p, δ1, g, s, e1, fun x H1 Hs1 m1 M1 g1 st1 r1 s1 => ?_⟩
 obtain ⟨rfl, a, dx, fs, hx, ha, hl⟩ := Zma g1 s1 r1 e2
 refine ⟨a, dx, fs, hx, ha, hl, δ2, Hs1, M1, ps, δ3, g1.re, s1, e3, fun vs H2 Hs2 m2 M2 g2 st2 r2 s2 => ?_⟩
 obtain ⟨G2, S2, k2⟩ := Zr g g1 st1 g2 st2
 have r1' := RepP.frame st2.grow k2 r1
 exact ZgB (m1 := fun b => m1 b + m2 b) g (G2.re fun b => by (try dsimp only); omega) (S2.drop (fun b => by (try dsimp only); omega) G2.le) (show ZaY K H2 Hs2 σ (x :: vs) (p :: ps) (fun b => m1 b + m2 b) from ⟨m1, m2, r1', r2, fun b => Nat.le_refl _⟩) s2 ed q
theorem ZdU {pl : Sem Bool} (G : MeAt X.prog X.w X.K X.mg X.base A m j ps (spF X.K fi.run)) (hr : Room n X.A) (ho : PE X o (tP X.K ca)) (ha : PA X (e :: es) (tPs X.K cs)) (hj : j <= n := by decide)
 (hst : SE X e es := by rfl) (hpl : SF X pos es := by rfl)
 (ht : eval (.Call (.Attribute o m apos) (e :: es) [] pos) X.env = (do
  let ov <- eval o X.env
  standAt apos.atName
  let (f, first) <- holding [ov] (getMethod ov m pl)
  callWith pos f first (backTo pos (starEach (e :: es) X.env)) (backToKw pos (keywordEach [] X.env))) := by rfl) :
 PE X (.Call (.Attribute o m apos) (e :: es) [] pos) (tM X.K (ca.bnd fun p => (chkI A m p).bnd fun _ => cs.bnd fun ps => ZaB fi (p :: ps))) := PE.imp (Zpw G hr ho ha hj hst hpl ht) fun σ H Q h => by
 refine tG.mono (ZhG (E := E0) h) fun x H1 ⟨a, dx, fs, hx, hh, hl, z⟩ => ⟨a, dx, fs, hx, hh, hl, ?_⟩
 obtain ⟨δ, Hs, M, aa, δ', g, s, e, q⟩ := z
 refine ⟨δ, Hs, M, aa, δ', g, s, e, fun vs H' Hs' m M' g' st r s' => ?_⟩
 show spF X.K fi.run (x :: (vs ++ [])) H' Q E0
 rw [List.append_nil]
 exact q vs H' Hs' m M' g' st r s'
theorem Zcm {pl : Sem Bool} (G : MeAt X.prog X.w X.K X.mg X.base A m j ps (spF X.K fi.run)) (hr : Room n X.A) (ho : PE X o (tP X.K ca)) (hj : j <= n := by decide)
 (ht : eval (.Call (.Attribute o m apos) [] [] pos) X.env = (do
  let ov <- eval o X.env
  standAt apos.atName
  let (f, first) <- holding [ov] (getMethod ov m pl)
  callWith pos f first (backTo pos (starEach [] X.env)) (backToKw pos (keywordEach [] X.env))) := by rfl) :
 PE X (.Call (.Attribute o m apos) [] [] pos) (tM X.K (ca.bnd fun p => (chkI A m p).bnd fun _ => (M.ret ([] : List Op)).bnd fun ps => ZaB fi (p :: ps))) := PE.imp (Zn0 G hr ho hj ht) fun σ H Q h => by
 refine tG.mono (ZhG (E := E0) h) fun x H1 ⟨a, dx, fs, hx, hh, hl, z⟩ => ⟨a, dx, fs, hx, hh, hl, ?_⟩
 obtain ⟨δ, Hs, M, aa, δ', g, s, e, q⟩ := z
 have := Zg e
 cases this
 exact q [] H1 Hs (fun _ => 0) M (Zav g) (stp0 _ _ _) trivial s
theorem ZnU {K : Fg} {σ : St} {H : Hp} {Q : VK} {E : XK} (h : tM K (cs.bnd fun ps => newF A fi ps) σ H Q) :
 tPs K cs σ H fun vs H1 => ∀ x dx, H1 x = none -> H1 dx = none -> dx ≠ x -> spF K fi.run (.ref x :: vs) (upd (upd H1 dx (.own x)) x (.ins A dx [])) (fun v H2 => v = .non /\ Q (.ref x) H2) E := by
 obtain ⟨δ, Hs, M, d, δ', g, s, e, q⟩ := h
 obtain ⟨ps, δ1, e1, e⟩ := Zc e
 refine ⟨δ, Hs, M, ps, δ1, g, s, e1, fun vs H1 Hs1 m1 M1 g1 st1 r1 s1 x dx hx hdx hne => ?_⟩
 unfold newF at e
 obtain ⟨ds, δ2, e2, e⟩ := Zc e
 cases hF : fi.run (.node (.ins A []) true [] :: ds) with
 | exc x y => rw [hF] at e; cases e
 | stuck => rw [hF] at e; cases e
 | ok r =>
  obtain ⟨d', ds'⟩ := r
  rw [hF] at e
  match d', ds', e, hF with
  | .sc .non, dI :: ds', e, hF =>
   dsimp only at e
   obtain ⟨u, δ3, e3, e⟩ := Zc e
   have := Zg e
   cases this
   obtain ⟨Hs2, m2, M2, g2, st2, q2, s2⟩ := Ze0 (B := fun _ => 0) (g1.re fun b => by simp) s1 r1 e2
   have z0 := Zr (m1 := fun _ => 0) g (g1.re fun b => by simp) (st1.drop (fun b => by simp) g1.le) (g2.re fun b => by simp) (M1 := fun b => m1 b + M1 b) (M2 := fun b => m2 b + M2 b) (by
    have := st2
    exact ⟨fun b o h z => this.keep b o h (by simpa using z), fun b h => by have := this.own b (by simpa using h); simpa using this, this.grow, fun b h h' => by have := this.shr b h h'; simpa using this, this.stay⟩)
   have G2 : Good H1 Hs2 (fun b => M2 b + m2 b) := g2.re fun b => by simp; omega
   have S2 : Stp H Hs M H1 Hs2 (fun b => M2 b + m2 b) := z0.2.1.drop (fun b => by simp; omega) z0.1.le
   have hsx : Hs2 x = none := by
    cases w : Hs2 x with
    | none => rfl
    | some o => rw [G2.sub x o w] at hx; cases hx
   have hsd : Hs2 dx = none := by
    cases w : Hs2 dx with
    | none => rfl
    | some o => rw [G2.sub dx o w] at hdx; cases hdx
   have zz : ∀ b, H1 b = none -> M2 b = 0 /\ m2 b = 0 := fun b hb => by
    have l : M2 b + m2 b <= 1 := G2.le b
    have : M2 b + m2 b ≠ 1 := fun e => G2.has b e hb
    omega
   have nw : ∀ b, b ≠ x -> b ≠ dx -> upd (upd H1 dx (.own x)) x (.ins A dx []) b = H1 b := fun b h1 h2 => by rw [Zq h1, Zq h2]
   have atx : upd (upd H1 dx (.own x)) x (.ins A dx []) x = some (.ins A dx []) := Zm
   have atd : upd (upd H1 dx (.own x)) x (.ins A dx []) dx = some (.own x) := by rw [Zq hne]; exact Zm
   have old : ∀ b, H1 b ≠ none -> b ≠ x /\ b ≠ dx := fun b hb => ⟨fun e => hb (by rw [e]; exact hx), fun e => hb (by rw [e]; exact hdx)⟩
   have same : Same H1 (upd (upd H1 dx (.own x)) x (.ins A dx [])) := fun b o e => by
    obtain ⟨h1, h2⟩ := old b (by rw [e]; simp)
    rw [nw b h1 h2]; exact e
   have G3 : Good (upd (upd H1 dx (.own x)) x (.ins A dx [])) Hs2 (fun b => M2 b + (one x b + m2 b)) := by
    refine ⟨fun b o e => same b o (G2.sub b o e), fun b => ?_, fun b hb => ?_, fun b hb => ?_⟩
    . have l : M2 b + m2 b <= 1 := G2.le b
      unfold one
      (try dsimp only)
      split
      . rename_i e; subst e; have := zz b hx; omega
      . omega
    . by_cases e : b = x
      . subst e; exact hsx
      . have hb : M2 b + (one x b + m2 b) = 1 := hb
        simp only [one, if_neg e] at hb
        exact G2.ne b (by show M2 b + m2 b = 1; omega)
    . by_cases e : b = x
      . subst e; rw [atx]; simp
      . have hb : M2 b + (one x b + m2 b) = 1 := hb
        simp only [one, if_neg e] at hb
        have := G2.has b (by show M2 b + m2 b = 1; omega)
        obtain ⟨h1, h2⟩ := old b this
        rw [nw b h1 h2]; exact this
   have S3 : Stp H Hs M (upd (upd H1 dx (.own x)) x (.ins A dx [])) Hs2 (fun b => M2 b + (one x b + m2 b)) := by
    refine ⟨fun b o e z => same b o (S2.keep b o e z), fun b hb => ?_, S2.grow, S2.shr, fun b hb => ?_⟩
    . by_cases e : b = x
      . subst e
        right
        cases w : H b with
        | none => rfl
        | some o => exact absurd hx (S2.stay b (by rw [w]; simp))
      . have hb : M2 b + (one x b + m2 b) = 1 := hb
        simp only [one, if_neg e] at hb
        exact S2.own b (by show M2 b + m2 b = 1; omega)
    . have := S2.stay b hb
      obtain ⟨h1, h2⟩ := old b this
      rw [nw b h1 h2]; exact this
   have fr : ∀ b, H1 b ≠ none -> upd (upd H1 dx (.own x)) x (.ins A dx []) b = H1 b := fun b hb => nw b (old b hb).1 (old b hb).2
   have q3 : RepL K (upd (upd H1 dx (.own x)) x (.ins A dx [])) Hs2 vs ds m2 := q2.frame (Same.refl _) fun b _ hb => fr b hb
   have s3 : RepS K (upd (upd H1 dx (.own x)) x (.ins A dx [])) Hs2 σ δ2 M2 := RepS.frame (Same.refl _) (fun b _ hb => fr b hb) s2
   have rx : Rep K (upd (upd H1 dx (.own x)) x (.ins A dx [])) Hs2 (.ref x) (.node (.ins A []) true []) (one x) := .own (vs := []) (m' := fun _ => 0) ⟨rfl, dx, atx⟩ (.nil _) fun b => by simp
   refine ⟨_, Hs2, fun b => one x b + m2 b, _, _, G3.re fun b => by (try dsimp only); omega, .cons rx q3 fun b => Nat.le_refl _, hF, fun v H4 Hs4 n1 n2 g4 st4 r4 rl4 => ?_⟩
   cases r4
   refine ⟨rfl, ?_⟩
   cases rl4 with
   | @cons _ _ _ _ k1 k2 _ ra rb lk =>
    obtain ⟨G, S, k⟩ := Zr g G3 S3 g4 st4
    have s4 := RepS.frame st4.grow k s3
    have fin := Ze1 s4 rb (lates r1) e3
    exact q _ H4 Hs4 k1 (fun b => k2 b + M2 b) (G.re fun b => by have := lk b; (try dsimp only); omega) (S.drop (fun b => by have := lk b; (try dsimp only); omega) G.le) ra fin
theorem ZnV (G : MkAt X.prog X.w X.K X.mg X.base x A j ps (spF X.K fi.run)) (hr : Room n X.A) (ha : PA X (e :: es) (tPs X.K cs)) (hj : j + 1 <= n := by decide) (hg : Gl X x := by rfl) (hdb : (x == ("__debug__" : Str)) = false := by decide)
 (he : SE X e es := by rfl) (hpl : SF X pos es := by rfl) :
 PE X (.Call (.Name x p) (e :: es) [] pos) (tM X.K (cs.bnd fun ps => newF A fi ps)) := PE.imp (Zpx G hr ha hj hg hdb he hpl) fun σ H Q h => by
 obtain ⟨δ, Hs, M, aa, δ', g, s, e, q⟩ := ZnU (E := E0) h
 refine ⟨δ, Hs, M, aa, δ', g, s, e, fun vs H' Hs' m M' g' st r s' x dx h1 h2 h3 => ?_⟩
 show spF X.K fi.run (.ref x :: (vs ++ [])) _ _ E0
 rw [List.append_nil]
 exact q vs H' Hs' m M' g' st r s' x dx h1 h2 h3
theorem ZgG (f : Str) (v : V) : ∀ (fs : List Str) (vs : List V), fs.length = vs.length -> putF f v (fs.zip vs) = (putN f fs).zip (putV f v fs vs) /\ (putN f fs).length = (putV f v fs vs).length
 | [], [], _ => ⟨rfl, rfl⟩
 | g :: fs, x :: vs, h => by
  obtain ⟨i1, i2⟩ := ZgG f v fs vs (by simpa using h)
  rw [List.zip_cons_cons]
  show (if g = f then (g, v) :: fs.zip vs else (g, x) :: putF f v (fs.zip vs)) = _ /\ _
  simp only [putN, putV]
  split
  . exact ⟨rfl, by simpa using h⟩
  . rw [i1]
    exact ⟨rfl, by rw [List.length_cons, List.length_cons, i2]⟩
 | [], _ :: _, h => by simp at h
 | _ :: _, [], h => by simp at h
theorem RepL.putV {K : Fg} {H Hs : Hp} {v : V} {d : D} {m1 : Bud} (f : Str) (x : Rep K H Hs v d m1) : ∀ {fs : List Str} {vs : List V} {ds : List D} {m : Bud}, fs.length = vs.length -> RepL K H Hs vs ds m -> RepL K H Hs (T.putV f v fs vs) (T.putV f d fs ds) (fun b => m b + m1 b)
 | [], _, _, m, h, .nil _ => .cons x (.nil (fun _ => 0)) fun b => by (try dsimp only); omega
 | [], _, _, m, h, .cons _ _ _ => by simp at h
 | _ :: _, _, _, m, h, .nil _ => by simp at h
 | g :: fs, _, _, m, h, .cons (m1 := a1) (m2 := a2) y z l => by
  simp only [T.putV]
  split
  . exact .cons x z fun b => by have := l b; (try dsimp only); omega
  . exact .cons y (RepL.putV f x (by simpa using h) z) fun b => by have := l b; (try dsimp only); omega
theorem Zcf {c : M D} {lk : Nat -> Bool} {value : Expr} {ok : Addr -> Str -> Bool} {pos' : Pos} (hf : ∀ C f, ok C f = true -> Cls X.K C /\ ZQ X.K C f) (ho : PE X o (tVar i)) (hv : PE X value (tM X.K c)) (hs : swapsWith value (some (.Attribute o f pos')) pos.line X.env = pure false := by rfl) :
 PS X (.Assign [.Attribute o f pos'] value pos) (tS X.K lk (c.bnd fun d => (Zag i).bnd fun _ => (modS i (putD ok f d)).bnd fun _ => M.ret .nx)) := PS.imp (Znk ho hv hs) fun E σ H h => by
 obtain ⟨δ, Hs, M, fl, δ', g, s, ea, q⟩ := h
 obtain ⟨d, δ1, e1, eb⟩ := Zc ea
 obtain ⟨p0, δ2, e2, ec⟩ := Zc eb
 obtain ⟨r0, δ3, e3, ed⟩ := Zc ec
 have := Zg ed
 cases this
 obtain ⟨kk, ds0, k', ds', hi, hff, rfl⟩ := ZdQ e3
 refine ⟨δ, Hs, M, d, δ1, g, s, e1, fun v H1 Hs1 m1 M1 g1 st1 r1 s1 => ?_⟩
 obtain ⟨rfl, vo, hvo⟩ := ZhC s1 e2
 obtain ⟨p1, us, m', n2, e8, nn, rl, le, fin⟩ := modL g1 s1 hi
 rw [hvo] at e8
 cases e8
 refine ⟨_, hvo, ?_⟩
 unfold putD at hff
 split at hff
 . rename_i ds C fs
   split at hff
   . rename_i hc
     cases hff
     obtain ⟨hl, dx, hH⟩ := nn
     obtain ⟨z1, z2⟩ := ZgG f v fs us hl
     obtain ⟨G, S, R, SS⟩ := fin (.ins C dx (putF f v (fs.zip us))) (.ins C (putN f fs)) (T.putV f v fs us) (T.putV f d fs ds0) (fun b => m' b + m1 b) (fun _ => 0) .non (.sc .non) (fun b => by (try dsimp only); omega) ⟨z2, dx, by rw [Zm, z1]⟩ (rl.putV f r1 hl) (.sc _ _)
     have z := Zr (m1 := fun _ => 0) g (g1.re fun b => by simp) (st1.drop (fun b => by simp) g1.le) G S
     refine ⟨p1, C, dx, fs.zip us, rfl, hH, (hf C f hc.2).1, (hf C f hc.2).2, ?_, ?_⟩
     . rw [List.length_zip, hl, Nat.min_self]
       rw [<- hl]
       exact hc.1
     . exact q σ _ Hs1 _ (Keeps.refl _ _) (G.re fun b => by (try dsimp only); omega) ((z.2.1.drop (fun b => by simp) z.1.le).drop (fun b => by (try dsimp only); omega) G.le) SS
   . cases hff
 . cases hff
end
open PySem.W
noncomputable def scr (ns : List Int) : D := .node .frl false (ns.map fun i => .sc (.int i))
theorem ZnW {K : Fg} {H : Hp} {a : Addr} {ns : List Int} {F : List D -> Rs (D × List D)} {E : XK} (hS : SqL K H a (ns.map V.int)) (e : ∃ ds', F [scr ns] = .ok (.sc (.bl true), ds')) : spF K F [.ref a] H (fun v _ => v = .bl true) E := by
 obtain ⟨ds', e⟩ := e
 refine ⟨[scr ns], H, fun _ => 0, _, ds', ⟨Same.refl _, fun b => Nat.zero_le _, fun b h => by simp at h, fun b h => by simp at h⟩, .cons (m1 := fun _ => 0) (m2 := fun _ => 0) (.shd (vs := ns.map V.int) hS (Zd0 ns)) (.nil _) fun b => by simp, e, fun v H' Hs' m1 m' g st r _ => ?_⟩
 cases r
 rfl
theorem Zkx {l : PySem.W.OpenLaw} {q : Program} {loose : List Str} {XP : (Str -> Option Value) -> Heap -> Prop} {YP : World -> Heap -> Prop} {d : DefRec} {K : Params -> Fg} {k : Nat} {x : Str} {R : Fg -> List D -> Rs (D × List D)} (hn : l.most = some 63) (hdf : d.params.defaults = []) (hr : Room k callerA)
 (hY : ∀ (w : World) (h : Heap), YP w h -> (K w.params).In h)
 (F : ∀ (w : World) (mg : SO) (fa : Addr) (h : Heap), (K w.params).In h -> h.Ns mainGlobals mg -> mg d.name = some (.ref fa) ->
  ∃ fd : FuncData, (∀ (s : Shared) (u : Value), BindsTo s fd ⟨[u], []⟩ [(x, u)]) /\ ∀ base : Heap, (K w.params).In base -> base.Ns mainGlobals mg -> FnOk l.prog w (K w.params) mg base CX0 k fa fd [x] (spF (K w.params) (R (K w.params))))
 (hL : ∀ (K : Fg) (ns : List Int), ns.length <= 63 -> ∃ ds', R K [scr ns] = .ok (.sc (.bl true), ds')) :
 PySem.W.WalkO q loose XP YP l.row.toRowW d [] (fun f vs => PySem.call f vs) :=
 L2.Zkf (n := 63) (k := k) (x := x) (CX := CX0) (sp := fun K => spF K (R K)) hn (by decide) hdf hr hY F (fun K H a ns hl _ hS => ZnW hS (hL K ns hl)) fun _ _ _ _ z => z
theorem Zjp {α β : Type} {c : M α} {f : α -> M β} {δ δ' : List D} {a : α} (h : c δ = .ok (a, δ')) : c.bnd f δ = f a δ' := by
 unfold M.bnd
 rw [h]
theorem runA {C : Ctx} {n N : Nat} {body : List S} {ds : List D} (h : ds.length = n) : Zj C n N body ds = ZeN n (exs { C with lock := fun i => decide (i < n) } body (ds ++ List.replicate (N - n) .hole)) := if_pos h
theorem szl : sizeLine = 16777216 := by rw [sizeLine_eq]
section
variable {α β : Type} {C : Ctx} {δ δ' : List D} {a : α} {i j : Nat} {x y : Int} {v w : V} {k : Kd} {ds es : List D} {d : D}
noncomputable def bndR (f : α -> M β) : Rs (α × List D) -> Rs (β × List D)
 | .ok (a, δ) => f a δ
 | .exc x δ => .exc x δ
 | .stuck => .stuck
theorem bndA (c : M α) (f : α -> M β) (δ : List D) : c.bnd f δ = bndR f (c δ) := by
 unfold M.bnd bndR
 cases c δ <;> rfl
theorem Zmb (f : α -> M β) : bndR f (.ok (a, δ)) = f a δ := (rfl)
theorem retA : M.ret a δ = .ok (a, δ) := (rfl)
theorem Zqd : lift (some a) δ = .ok (a, δ) := (rfl)
theorem Zmc (c : Prop) [Decidable c] (f g : M α) (δ : List D) : (if c then f else g) δ = if c then f δ else g δ := by split <;> rfl
theorem Zqe (c : M D) : Zk (.v i) c = Zag i := (rfl)
noncomputable def atR (i : Nat) (δ : List D) : Option D -> Rs (Op × List D)
 | some (.sc _) => .ok (.late i, δ)
 | some (.node _ _ _) => .ok (.late i, δ)
 | _ => .stuck
theorem Zqf : Zag i δ = atR i δ δ[i]? := by unfold Zag atR; cases δ[i]? with | none => rfl | some d => cases d <;> rfl
theorem ZnX : atR i δ (some (.sc v)) = .ok (.late i, δ) := (rfl)
theorem ZnY {o : Bool} : atR i δ (some (.node k o ds)) = .ok (.late i, δ) := (rfl)
noncomputable def vwR (i : Nat) (δ : List D) : Option D -> Rs (W × List D)
 | some (.sc v) => .ok (.sc v, δ)
 | some (.node k false ds) => .ok (.nd k ds, δ)
 | some (.node k true ds) => .ok (.nd k (shrL ds), δ.set i (.node k true (shrL ds)))
 | _ => .stuck
theorem Zqg : view (.late i) δ = vwR i δ δ[i]? := by
 unfold view vwR
 (try dsimp only)
 all_goals
  cases δ[i]? with
  | none => rfl
  | some d => cases d with
   | node k o ds => cases o <;> rfl
   | _ => rfl
theorem ZnZ : vwR i δ (some (.sc v)) = .ok (.sc v, δ) := (rfl)
theorem Zqh : vwR i δ (some (.node k false ds)) = .ok (.nd k ds, δ) := (rfl)
theorem Zqi : vwR i δ (some (.node k true ds)) = .ok (.nd k (shrL ds), δ.set i (.node k true (shrL ds))) := (rfl)
theorem Zmd : view (.tmp (.sc v)) = M.ret (.sc v) := (rfl)
theorem Zme {o : Bool} : view (.tmp (.node k o ds)) = M.ret (.nd k ds) := (rfl)
noncomputable def vlR (i : Nat) (δ : List D) : Option D -> Rs (D × List D)
 | some (.sc v) => .ok (.sc v, δ)
 | some (.node k false ds) => .ok (.node k false ds, δ)
 | some (.node k true ds) => .ok (.node k false (shrL ds), δ.set i (.node k false (shrL ds)))
 | _ => .stuck
theorem valA : T.valV i δ = vlR i δ δ[i]? := by
 unfold T.valV vlR
 cases δ[i]? with
 | none => rfl
 | some d => cases d with
  | node k o ds => cases o <;> rfl
  | _ => rfl
theorem Zoa : vlR i δ (some (.sc v)) = .ok (.sc v, δ) := (rfl)
theorem Zqj : vlR i δ (some (.node k true ds)) = .ok (.node k false (shrL ds), δ.set i (.node k false (shrL ds))) := (rfl)
noncomputable def mvR (i : Nat) (δ : List D) : Option D -> Rs (D × List D)
 | some (.sc v) => .ok (.sc v, δ)
 | some (.node k o ds) => .ok (.node k o ds, δ.set i .hole)
 | _ => .stuck
theorem movA : movV i δ = mvR i δ δ[i]? := by unfold movV mvR; cases δ[i]? with | none => rfl | some d => cases d <;> rfl
theorem Zob : mvR i δ (some (.sc v)) = .ok (.sc v, δ) := (rfl)
theorem Zoc {o : Bool} : mvR i δ (some (.node k o ds)) = .ok (.node k o ds, δ.set i .hole) := (rfl)
noncomputable def tkR (lend : Bool) (i : Nat) (δ : List D) : Option D -> Rs (D × List D)
 | some (.sc v) => .ok (.sc v, δ)
 | some (.node k false ds) => .ok (.node k false ds, δ)
 | some (.node k true ds) => if lend then .ok (.node k true ds, δ.set i .hole) else .ok (.node k false (shrL ds), δ.set i (.node k false (shrL ds)))
 | _ => .stuck
theorem Zqk {lend : Bool} : ZcP lend (.late i) δ = tkR lend i δ δ[i]? := by
 unfold ZcP tkR
 (try dsimp only)
 all_goals
  cases δ[i]? with
  | none => rfl
  | some d => cases d with
   | node k o ds => cases o <;> rfl
   | _ => rfl
theorem Zql {lend : Bool} : ZcP lend (.tmp d) = M.ret d := (rfl)
theorem Zod {lend : Bool} : tkR lend i δ (some (.sc v)) = .ok (.sc v, δ) := (rfl)
theorem Zqm {lend : Bool} : tkR lend i δ (some (.node k false ds)) = .ok (.node k false ds, δ) := (rfl)
theorem Zqn : tkR true i δ (some (.node k true ds)) = .ok (.node k true ds, δ.set i .hole) := (rfl)
theorem Zqo : tkR false i δ (some (.node k true ds)) = .ok (.node k false (shrL ds), δ.set i (.node k false (shrL ds))) := (rfl)
theorem Zoe {lend : Bool} : Zbq lend [] = M.ret [] := (rfl)
theorem Zof {lend : Bool} {p : Op} {ps : List Op} : Zbq lend (p :: ps) = (ZcP lend p).bnd fun d => (Zbq lend ps).bnd fun ds => M.ret (d :: ds) := (rfl)
noncomputable def gvR (i : Nat) (δ : List D) (d : D) : Option D -> Rs (Unit × List D)
 | some .hole => .ok ((), δ.set i d)
 | _ => .ok ((), δ)
theorem Zqp : ZdL (.late i) d δ = gvR i δ d δ[i]? := by unfold ZdL gvR; (try dsimp only); all_goals (cases δ[i]? with | none => rfl | some d => cases d <;> rfl)
theorem Zqq {d' : D} : ZdL (.tmp d') d = M.ret () := (rfl)
theorem Zog : gvR i δ d (some (.sc v)) = .ok ((), δ) := (rfl)
theorem Zoh {o : Bool} : gvR i δ d (some (.node k o ds)) = .ok ((), δ) := (rfl)
theorem Zqr : gvR i δ d (some .hole) = .ok ((), δ.set i d) := (rfl)
theorem Zoi {ds : List D} : Za5 [] ds = M.ret () := by cases ds <;> rfl
theorem Zoj {p : Op} {ps : List Op} : Za5 (p :: ps) (d :: ds) = (ZdL p d).bnd fun _ => Za5 ps ds := (rfl)
theorem Zok : views [] = M.ret [] := (rfl)
theorem Zol {p : Op} {ps : List Op} : views (p :: ps) = (view p).bnd fun w => (views ps).bnd fun ws => M.ret (w :: ws) := (rfl)
noncomputable def cfR (ps : List Op) (δ : List D) : Rs (D × List D) -> Rs (D × List D)
 | .ok (d, ds') => ((Za5 ps ds').bnd fun _ => M.ret d) δ
 | .exc x _ => .exc x δ
 | .stuck => .stuck
theorem Zqs {fi : FI} {ps : List Op} : ZaB fi ps = (Zbq fi.lend ps).bnd fun ds δ => cfR ps δ (fi.run ds) := by
 unfold ZaB cfR
 congr 1
 funext ds δ
 cases fi.run ds with
 | ok r => obtain ⟨d, ds'⟩ := r; rfl
 | exc x y => rfl
 | stuck => rfl
theorem Zom {ps : List Op} {ds' : List D} : cfR ps δ (.ok (d, ds')) = ((Za5 ps ds').bnd fun _ => M.ret d) δ := (rfl)
noncomputable def seqR (r : M Fl) : Rs (Fl × List D) -> Rs (Fl × List D)
 | .ok (.nx, δ) => r δ
 | .ok (f, δ) => .ok (f, δ)
 | .exc x δ => .exc x δ
 | .stuck => .stuck
theorem exs1 {s : S} {r : List S} : exs C (s :: r) δ = seqR (exs C r) (ex C s δ) := by
 show seqL (ex C s) (exs C r) δ = _
 unfold seqL M.bnd seqR
 cases ex C s δ with
 | ok z => obtain ⟨f, δ1⟩ := z; cases f <;> rfl
 | exc x y => rfl
 | stuck => rfl
noncomputable def forR (asg : D -> M Unit) (body : M Fl) (ds : List D) : Rs (Fl × List D) -> Rs (Fl × List D)
 | .ok (.nx, δ) => forL asg body ds δ
 | .ok (.ct, δ) => forL asg body ds δ
 | .ok (.bk, δ) => .ok (.nx, δ)
 | .ok (.rt x, δ) => .ok (.rt x, δ)
 | .exc x δ => .exc x δ
 | .stuck => .stuck
theorem Za4 {asg : D -> M Unit} {body : M Fl} : forL asg body (d :: ds) δ = forR asg body ds (((asg d).bnd fun _ => body) δ) := by
 show ((asg d).bnd fun _ => body.bnd fun f => match f with | .nx => forL asg body ds | .ct => forL asg body ds | .bk => M.ret .nx | .rt x => M.ret (.rt x)) δ = _
 unfold forR M.bnd
 cases asg d δ with
 | ok r =>
  dsimp only
  cases body r.2 with
  | ok z => obtain ⟨f, δ1⟩ := z; cases f <;> rfl
  | exc x y => rfl
  | stuck => rfl
 | exc x y => rfl
 | stuck => rfl
theorem Zqt {asg : D -> M Unit} {body : M Fl} : forL asg body [] δ = .ok (.nx, δ) := (rfl)
theorem Zmf {asg : D -> M Unit} {body : M Fl} : forR asg body ds (.ok (.nx, δ)) = forL asg body ds δ := (rfl)
theorem Zmg {asg : D -> M Unit} {body : M Fl} : forR asg body ds (.ok (.rt d, δ)) = .ok (.rt d, δ) := (rfl)
theorem exs0 : exs C [] δ = .ok (.nx, δ) := (rfl)
theorem Zmh (r : M Fl) : seqR r (.ok (.nx, δ)) = r δ := (rfl)
theorem Zmi (r : M Fl) : seqR r (.ok (.rt d, δ)) = .ok (.rt d, δ) := (rfl)
end
theorem e_k (C : Ctx) (v : V) : (evb C (.k v)).1 = (M.ret (.sc v)) := (rfl)
theorem o_k (v : V) (z : M D) : Zk (.k v) z = z.bnd fun d => M.ret (.tmp d) := (rfl)
theorem e_g (C : Ctx) (d : D) : (evb C (.g d)).1 = (M.ret d) := (rfl)
theorem o_g (d : D) (z : M D) : Zk (.g d) z = z.bnd fun d => M.ret (.tmp d) := (rfl)
theorem Zqu (C : Ctx) (op : Operator) (a : E) (b : E) : (evb C (.bin op a b)).1 = ((Zk a (evb C a).1).bnd fun p => (Zk b (evb C b).1).bnd fun q => (view p).bnd fun x => (view q).bnd fun y => lift (binW op x y)) := (rfl)
theorem Zqv (op : Operator) (a : E) (b : E) (z : M D) : Zk (.bin op a b) z = z.bnd fun d => M.ret (.tmp d) := (rfl)
theorem Zqw (C : Ctx) (a : E) : (evb C (.neg a)).1 = (((Zk a (evb C a).1).bnd view).bnd fun x => lift (negW x)) := (rfl)
theorem Zqx (a : E) (z : M D) : Zk (.neg a) z = z.bnd fun d => M.ret (.tmp d) := (rfl)
theorem Zqy (C : Ctx) (op : CmpOp) (a : E) (b : E) : (evb C (.cmp op a b)).1 = ((Zk a (evb C a).1).bnd fun p => (Zk b (evb C b).1).bnd fun q => (view p).bnd fun x => (view q).bnd fun y => lift ((Zat op x y).map fun t => .sc (.bl t))) := (rfl)
theorem Zqz (C : Ctx) (op : CmpOp) (a : E) (b : E) : (evb C (.cmp op a b)).2 = Zbr (evb C (.cmp op a b)).1 := (rfl)
theorem Zq0 (op : CmpOp) (a : E) (b : E) (z : M D) : Zk (.cmp op a b) z = z.bnd fun d => M.ret (.tmp d) := (rfl)
theorem Zmj (C : Ctx) (op : CmpOp) (op' : CmpOp) (a : E) (b : E) (c : E) : (evb C (.chain op op' a b c)).2 = Zbr (evb C (.chain op op' a b c)).1 := (rfl)
theorem Zq1 (C : Ctx) (p : Bool) (a : E) : (evb C (.isN p a)).1 = (((Zk a (evb C a).1).bnd view).bnd fun x => M.ret (isNW p x)) := (rfl)
theorem Zq2 (C : Ctx) (p : Bool) (a : E) : (evb C (.isN p a)).2 = ((Zk (.isN p a) (evb C (.isN p a)).1).bnd fun p => (view p).bnd fun w => lift (truW w)) := (rfl)
theorem Zq3 (p : Bool) (a : E) (z : M D) : Zk (.isN p a) z = z.bnd fun d => M.ret (.tmp d) := (rfl)
theorem e_nt (C : Ctx) (a : E) : (evb C (.nt a)).1 = (((Zk a (evb C a).1).bnd view).bnd fun w => lift (notW w)) := (rfl)
theorem t_nt (C : Ctx) (a : E) : (evb C (.nt a)).2 = ((evb C a).2.bnd fun b => M.ret (!b)) := (rfl)
theorem Zq4 (C : Ctx) (a : E) (b : E) : (evb C (.and a b)).1 = (((Zk a (evb C a).1).bnd view).bnd (andM (evb C b).1)) := (rfl)
theorem Zq5 (C : Ctx) (a : E) (b : E) : (evb C (.and a b)).2 = ((evb C a).2.bnd fun t => if t then (evb C b).2 else M.ret false) := (rfl)
theorem t_or (C : Ctx) (a : E) (b : E) : (evb C (.or a b)).2 = ((evb C a).2.bnd fun t => if t then M.ret true else (evb C b).2) := (rfl)
theorem Zq6 (C : Ctx) (c : E) (a : E) (b : E) : (evb C (.ife c a b)).1 = ((evb C c).2.bnd fun t => if t then (evb C a).1 else (evb C b).1) := (rfl)
theorem e_ix (C : Ctx) (a : E) (b : E) : (evb C (.ix a b)).1 = ((Zk a (evb C a).1).bnd fun p => (Zk b (evb C b).1).bnd fun q => (view p).bnd fun x => (view q).bnd fun y => lift (ixW2 x y)) := (rfl)
theorem o_ix (a : E) (b : E) (z : M D) : Zk (.ix a b) z = z.bnd fun d => M.ret (.tmp d) := (rfl)
theorem e_sl (C : Ctx) (a : E) (b : E) (c : E) : (evb C (.sl a b c)).1 = ((Zk a (evb C a).1).bnd fun p => (Zb9 b (Zk b (evb C b).1)).bnd fun l => (Zb9 c (Zk c (evb C c).1)).bnd fun h => (view p).bnd fun x => lift (slD x l h)) := (rfl)
theorem o_sl (a : E) (b : E) (c : E) (z : M D) : Zk (.sl a b c) z = z.bnd fun d => M.ret (.tmp d) := (rfl)
theorem Zq7 (C : Ctx) (a : E) (f : Str) : (evb C (.fld a f)).1 = (((Zk a (evb C a).1).bnd view).bnd fun x => lift (fldW C.fok f x)) := (rfl)
theorem Zq8 (a : E) (f : Str) (z : M D) : Zk (.fld a f) z = z.bnd fun d => M.ret (.tmp d) := (rfl)
theorem Zq9 (C : Ctx) (es : List E) : (evb C (.lst es)).1 = ((evs C es).bnd fun ds => lift (newL ds)) := (rfl)
theorem ZqA (es : List E) (z : M D) : Zk (.lst es) z = z.bnd fun d => M.ret (.tmp d) := (rfl)
theorem ZqB (C : Ctx) (es : List E) : (evb C (.tup es)).1 = ((evs C es).bnd fun ds => lift (newT ds)) := (rfl)
theorem ZqC (es : List E) (z : M D) : Zk (.tup es) z = z.bnd fun d => M.ret (.tmp d) := (rfl)
theorem e_kl (C : Ctx) (vs : List V) : (evb C (.kl vs)).1 = (lift (newL (vs.map D.sc))) := (rfl)
theorem o_kl (vs : List V) (z : M D) : Zk (.kl vs) z = z.bnd fun d => M.ret (.tmp d) := (rfl)
theorem Zon (C : Ctx) (fi : FI) (es : List E) : (evb C (.call fi es)).1 = ((opds C es).bnd fun ps => ZaB fi ps) := (rfl)
theorem Zoo (C : Ctx) (fi : FI) (es : List E) : (evb C (.call fi es)).2 = ((Zk (.call fi es) (evb C (.call fi es)).1).bnd fun p => (view p).bnd fun w => lift (truW w)) := (rfl)
theorem Zop (fi : FI) (es : List E) (z : M D) : Zk (.call fi es) z = z.bnd fun d => M.ret (.tmp d) := (rfl)
theorem e_bf (C : Ctx) (f : BF) (es : List E) : (evb C (.bf f es)).1 = ((opds C es).bnd fun ps => (views ps).bnd fun ws => lift (bfW f ws)) := (rfl)
theorem t_bf (C : Ctx) (f : BF) (es : List E) : (evb C (.bf f es)).2 = ((Zk (.bf f es) (evb C (.bf f es)).1).bnd fun p => (view p).bnd fun w => lift (truW w)) := (rfl)
theorem o_bf (f : BF) (es : List E) (z : M D) : Zk (.bf f es) z = z.bnd fun d => M.ret (.tmp d) := (rfl)
theorem Zoq (C : Ctx) (A : Addr) (f : Str) (fi : FI) (a : E) (es : List E) : (evb C (.meth A f fi a es)).1 = ((Zk a (evb C a).1).bnd fun p => (chkI A f p).bnd fun _ => (opds C es).bnd fun ps => ZaB fi (p :: ps)) := (rfl)
theorem Zor (C : Ctx) (A : Addr) (f : Str) (fi : FI) (a : E) (es : List E) : (evb C (.meth A f fi a es)).2 = ((Zk (.meth A f fi a es) (evb C (.meth A f fi a es)).1).bnd fun p => (view p).bnd fun w => lift (truW w)) := (rfl)
theorem Zos (A : Addr) (f : Str) (fi : FI) (a : E) (es : List E) (z : M D) : Zk (.meth A f fi a es) z = z.bnd fun d => M.ret (.tmp d) := (rfl)
theorem ZqD (C : Ctx) (A : Addr) (fi : FI) (es : List E) : (evb C (.new A fi es)).1 = ((opds C es).bnd fun ps => newF A fi ps) := (rfl)
theorem Zot (k : Nat) (js : List Nat) (tg : Tg) (ik : IK) (es : List E) (es' : List E) (a : E) (z : M D) : Zk (.comp k js tg ik es es' a) z = z.bnd fun d => M.ret (.tmp d) := (rfl)
theorem Zou (C : Ctx) : (evb C .dct0).1 = M.ret (.node (.dic []) true []) := (rfl)
theorem Zov (C : Ctx) (o k : E) : (evb C (.dget o k)).1 = ((evb C o).1.bnd fun d => (dicS d).bnd fun _ => (evb C k).1.bnd fun kd => lift (ZdM d kd)) := (rfl)
theorem Zow (ks : List (List Key)) (vs : List D) : dicS (.node (.dic ks) false vs) = M.ret () := (rfl)
theorem ZqE (C : Ctx) (a : E) : (evb C (.rev a)).1 = (((Zk a (evb C a).1).bnd view).bnd fun x => lift (revW x)) := (rfl)
theorem ZqF (a : E) (z : M D) : Zk (.rev a) z = z.bnd fun d => M.ret (.tmp d) := (rfl)
theorem ZqG (C : Ctx) (a : E) : retV C (.rev a) = (evb C (.rev a)).1 := (rfl)
theorem Zox (C : Ctx) (i : Nat) (f : Str) : (evb C (.fldV i f)).1 = fldS C.fok i f := (rfl)
theorem Zoy (i : Nat) (f : Str) (z : M D) : Zk (.fldV i f) z = z.bnd fun d => M.ret (.tmp d) := (rfl)
theorem Zoz (C : Ctx) (i : Nat) (f : Str) (jx jy : Nat) : ex C (.dput i f jx jy) = ZdN C.fok i f jx jy := (rfl)
theorem ZqH (ds : List D) : revW (.nd .lst ds) = some (.node .lst true ds.reverse) := (rfl)
theorem Zmk (ok : Addr -> Str -> Bool) (i j : Nat) (f : Str) (δ : List D) (C : Addr) (fs : List Str) (ds : List D) (d : D) (h : δ[i]? = some (.node (.ins C fs) true ds)) (h1 : ok C f = true) (h2 : idxF f fs = some j) (h3 : ds[j]? = some d) : fldS ok i f δ = .ok (shr d, δ.set i (.node (.ins C fs) true (ds.set j (shr d)))) := by
 unfold fldS
 simp only [h, h1, h2, h3, if_true]
theorem e_v (C : Ctx) (i : Nat) : (evb C (.v i)).1 = T.valV i := (rfl)
theorem Zky (C : Ctx) (i : Nat) (es : List E) : (evb C (.mut .append i [] es)).1 = ((chkL i).bnd fun _ => (evs C es).bnd fun ds => appM i ds) := (rfl)
theorem ZqI (C : Ctx) : opds C [] = M.ret [] := (rfl)
theorem ZqJ (C : Ctx) (e : E) (es : List E) : opds C (e :: es) = ((Zk e (evb C e).1).bnd fun p => (opds C es).bnd fun ps => M.ret (p :: ps)) := (rfl)
theorem evs0 (C : Ctx) : evs C [] = M.ret [] := (rfl)
theorem evs1 (C : Ctx) (e : E) (es : List E) : evs C (e :: es) = ((evb C e).1.bnd fun p => (evs C es).bnd fun ps => M.ret (p :: ps)) := (rfl)
theorem ZqK (C : Ctx) : tsts C [] = M.ret true := (rfl)
theorem ZqL (C : Ctx) (e : E) (es : List E) : tsts C (e :: es) = ((evb C e).2.bnd fun b => if b then tsts C es else M.ret false) := (rfl)
theorem ZqM (C : Ctx) (i : Nat) (e : E) : ex C (.asg i e) = ((evb C e).1.bnd fun d => (asgN C.lock i d).bnd fun _ => M.ret .nx) := (rfl)
theorem ZqN (C : Ctx) (is : List Nat) (e : E) : ex C (.unp is e) = (((Zk e (evb C e).1).bnd view).bnd fun w => (unpM C.lock is w).bnd fun _ => M.ret .nx) := (rfl)
theorem ZqO (C : Ctx) (i : Nat) (x e : E) : ex C (.sub i [] x e) = ((evb C e).1.bnd fun d => (Zag i).bnd fun _ => ((Zk x (evb C x).1).bnd view).bnd fun w => (modS i (Zap w d)).bnd fun _ => M.ret .nx) := (rfl)
theorem Zo0 (C : Ctx) (i : Nat) (f : Str) (e : E) : ex C (.attr i f e) = ((evb C e).1.bnd fun d => (Zag i).bnd fun _ => (modS i (putD C.fok f d)).bnd fun _ => M.ret .nx) := (rfl)
theorem x_ex (C : Ctx) (e : E) : ex C (.ex e) = ((evb C e).1.bnd fun _ => M.ret .nx) := (rfl)
theorem ZqP (C : Ctx) (e : E) : ex C (.ret e) = ((retV C e).bnd fun d => M.ret (.rt d)) := (rfl)
theorem ZqQ (C : Ctx) (c : E) (a b : List S) : ex C (.iff c a b) = ((evb C c).2.bnd fun t => if t then exs C a else exs C b) := (rfl)
theorem Zo1 (C : Ctx) (tg : Tg) (ik : IK) (ies : List E) (body : List S) : ex C (.for_ tg ik ies body) = ((opds C ies).bnd fun ps => (Z1 ps).bnd fun h => (lift (itW ik h.1)).bnd fun items => (forL (asgT (fun j => C.lock j || walked ies j) tg) (exs { C with lock := fun j => C.lock j || walked ies j } body) items).bnd fun f => (Zau h.2).bnd fun _ => M.ret f) := (rfl)
theorem ZqR (C : Ctx) (i : Nat) : retV C (.v i) = if C.lock i then T.valV i else movV i := (rfl)
theorem r_k (C : Ctx) (v : V) : retV C (.k v) = (evb C (.k v)).1 := (rfl)
theorem ZqS (C : Ctx) (op : Operator) (a : E) (b : E) : retV C (.bin op a b) = (evb C (.bin op a b)).1 := (rfl)
theorem ZqT (C : Ctx) (op : CmpOp) (a : E) (b : E) : retV C (.cmp op a b) = (evb C (.cmp op a b)).1 := (rfl)
theorem ZqU (C : Ctx) (a : E) (b : E) : retV C (.and a b) = (evb C (.and a b)).1 := (rfl)
theorem ZqV (C : Ctx) (c : E) (a : E) (b : E) : retV C (.ife c a b) = (evb C (.ife c a b)).1 := (rfl)
theorem r_ix (C : Ctx) (a : E) (b : E) : retV C (.ix a b) = (evb C (.ix a b)).1 := (rfl)
theorem ZqW (C : Ctx) (a : E) (f : Str) : retV C (.fld a f) = (evb C (.fld a f)).1 := (rfl)
theorem ZqX (C : Ctx) (es : List E) : retV C (.lst es) = (evb C (.lst es)).1 := (rfl)
theorem ZqY (C : Ctx) (es : List E) : retV C (.tup es) = (evb C (.tup es)).1 := (rfl)
theorem Zo2 (C : Ctx) (fi : FI) (es : List E) : retV C (.call fi es) = (evb C (.call fi es)).1 := (rfl)
theorem r_bf (C : Ctx) (f : BF) (es : List E) : retV C (.bf f es) = (evb C (.bf f es)).1 := (rfl)
theorem Zo3 (C : Ctx) (A : Addr) (f : Str) (fi : FI) (a : E) (es : List E) : retV C (.meth A f fi a es) = (evb C (.meth A f fi a es)).1 := (rfl)
theorem Zo4 (C : Ctx) (k : Nat) (js : List Nat) (tg : Tg) (ik : IK) (es : List E) (es' : List E) (a : E) : retV C (.comp k js tg ik es es' a) = (evb C (.comp k js tg ik es es' a)).1 := (rfl)
theorem ZqZ (i j : Int) : binW .Add (.sc (.int i)) (.sc (.int j)) = some (.sc (.int (i + j))) := (rfl)
theorem Zra (i j : Int) : binW .Sub (.sc (.int i)) (.sc (.int j)) = some (.sc (.int (i - j))) := (rfl)
theorem Zah (i j : Int) (h : (-(2 ^ 64) < i /\ i < 2 ^ 64) \/ (-(2 ^ 64) < j /\ j < 2 ^ 64)) : binW .Mult (.sc (.int i)) (.sc (.int j)) = some (.sc (.int (i * j))) := if_pos h
theorem ZbV (i j : Int) (h : 0 < j /\ j < 18446744073709551616) : binW .FloorDiv (.sc (.int i)) (.sc (.int j)) = some (.sc (.int (i / j))) := if_pos h
theorem Z2 (i j : Int) (h : 0 < j) : binW .Mod (.sc (.int i)) (.sc (.int j)) = some (.sc (.int (i % j))) := if_pos h
theorem Zgm (i j : Int) (h : 0 <= j /\ j <= 1000000 /\ i.natAbs < 2 ^ 64) : binW .Pow (.sc (.int i)) (.sc (.int j)) = some (.sc (.int (i ^ j.toNat))) := if_pos h
theorem ZeU (xs ys : List D) (h : (xs ++ ys).length <= sizeLine) : binW .Add (.nd .lst xs) (.nd .lst ys) = some (.node .lst true (xs ++ ys)) := if_pos h
theorem ZR (ds : List D) (h : ds.length <= sizeLine) : newL ds = some (.node .lst true ds) := if_pos h
theorem Zfs (ds : List D) (h : ds.length <= sizeLine) : newT ds = some (.node .tup true ds) := if_pos h
theorem c_lt (i j : Int) : cmpW .Lt (.sc (.int i)) (.sc (.int j)) = some (decide (i < j)) := (rfl)
theorem Zrb (i j : Int) : Zat .Lt (.sc (.int i)) (.sc (.int j)) = some (decide (i < j)) := (rfl)
theorem c_le (i j : Int) : cmpW .LtE (.sc (.int i)) (.sc (.int j)) = some (decide (i <= j)) := (rfl)
theorem Zrc (i j : Int) : Zat .LtE (.sc (.int i)) (.sc (.int j)) = some (decide (i <= j)) := (rfl)
theorem Zrd (i j : Int) : Zat .Gt (.sc (.int i)) (.sc (.int j)) = some (decide (j < i)) := (rfl)
theorem Zre (i j : Int) : Zat .GtE (.sc (.int i)) (.sc (.int j)) = some (decide (j <= i)) := (rfl)
theorem Zo5 (i j : Int) : Zat .Eq (.sc (.int i)) (.sc (.int j)) = some (decide (V.int i = V.int j)) := (rfl)
theorem Zo6 (i j : Int) : Zat .NotEq (.sc (.int i)) (.sc (.int j)) = some (!decide (V.int i = V.int j)) := (rfl)
theorem Zrf (c : M D) (δ : List D) : Zbr c δ = bndR (fun d => lift (match d with | .sc (.bl b) => some b | _ => none)) (c δ) := bndA _ _ _
theorem Zrg (b : M D) : andM b (.sc (.bl true)) = b := (rfl)
theorem Zrh (b : M D) : andM b (.sc (.bl false)) = M.ret (.sc (.bl false)) := (rfl)
theorem Zri (b : Bool) : notW (.sc (.bl b)) = some (.sc (.bl (!b))) := (rfl)
theorem Zrj (i : Int) : negW (.sc (.int i)) = some (.sc (.int (-i))) := (rfl)
theorem Zrk (b : Bool) : truW (.sc (.bl b)) = some b := (rfl)
theorem Zrl (ds : List D) : bfW .len [.nd .lst ds] = some (.sc (.int ds.length)) := (rfl)
theorem Zrm (i : Int) : bfW .abs [.sc (.int i)] = some (.sc (.int (if i < 0 then -i else i))) := (rfl)
theorem Zo7 (ds : List D) : bfW .list [.nd .lst ds] = some (.node .lst true ds) := (rfl)
theorem Zo8 (c : M Op) : Zb9 (.k .non) c = M.ret none := (rfl)
theorem Zo9 (i : Int) (c : M Op) : Zb9 (.k (.int i)) c = ((c.bnd view).bnd fun w => lift (intP w)) := (rfl)
theorem ZoA (i : Nat) (c : M Op) : Zb9 (.v i) c = ((c.bnd view).bnd fun w => lift (intP w)) := (rfl)
theorem ZoB (op : Operator) (a b : E) (c : M Op) : Zb9 (.bin op a b) c = ((c.bnd view).bnd fun w => lift (intP w)) := (rfl)
theorem ZoC (a : E) (c : M Op) : Zb9 (.neg a) c = ((c.bnd view).bnd fun w => lift (intP w)) := (rfl)
theorem intp (i : Int) : intP (.sc (.int i)) = some (some i) := (rfl)
theorem sl_l (ds : List D) (l h : Option Int) : slD (.nd .lst ds) l h = some (.node .lst true (cutD ds l h)) := (rfl)
theorem sl_f (ds : List D) (l h : Option Int) : slD (.nd .frl ds) l h = some (.node .lst true (cutD ds l h)) := (rfl)
theorem Zrn (lk : Nat -> Bool) (is : List Nat) (ds : List D) : unpM lk is (.nd .tup ds) = ZaX lk is ds := (rfl)
theorem Zro (lk : Nat -> Bool) (is : List Nat) (ds : List D) : unpM lk is (.nd .lst ds) = ZaX lk is ds := (rfl)
theorem Zrp (lk : Nat -> Bool) : ZaX lk [] [] = M.ret () := (rfl)
theorem Zrq (lk : Nat -> Bool) (i : Nat) (is : List Nat) (d : D) (ds : List D) : ZaX lk (i :: is) (d :: ds) = ((asgN lk i d).bnd fun _ => ZaX lk is ds) := (rfl)
theorem ZoD (lk : Nat -> Bool) (i : Nat) (d : D) : asgT lk (.name i) d = asgN lk i d := (rfl)
theorem asgn (lk : Nat -> Bool) (i : Nat) (d : D) (δ : List D) : asgN lk i d δ = if (decide (i < δ.length) && !lk i) = true then .ok ((), δ.set i d) else .stuck := (rfl)
theorem ZoE : Z1 [] = M.ret ([], []) := (rfl)
theorem ZoF (p : Op) (ps : List Op) : Z1 (p :: ps) = ((Zao p).bnd fun w => (Z1 ps).bnd fun ws => M.ret (w.1 :: ws.1, w.2.toList ++ ws.2)) := (rfl)
noncomputable def hdR (i : Nat) (δ : List D) : Option D -> Rs ((W × Option (Nat × D)) × List D)
 | some (.sc v) => .ok ((.sc v, none), δ)
 | some (.node k false ds) => .ok ((.nd k ds, none), δ)
 | some (.node k true ds) => .ok ((.nd k (shrL ds), some (i, .node k true (shrL ds))), δ.set i .hole)
 | _ => .stuck
theorem ZoG (i : Nat) (δ : List D) : Zao (.late i) δ = hdR i δ δ[i]? := by
 unfold Zao hdR
 (try dsimp only)
 all_goals
  cases δ[i]? with
  | none => rfl
  | some d => cases d with
   | node k o ds => cases o <;> rfl
   | _ => rfl
theorem ZoH (i : Nat) (δ : List D) (v : V) : hdR i δ (some (.sc v)) = .ok ((.sc v, none), δ) := (rfl)
theorem Zrr (i : Nat) (δ : List D) (k : Kd) (ds : List D) : hdR i δ (some (.node k false ds)) = .ok ((.nd k ds, none), δ) := (rfl)
theorem Zrs (i : Nat) (δ : List D) (k : Kd) (ds : List D) : hdR i δ (some (.node k true ds)) = .ok ((.nd k (shrL ds), some (i, .node k true (shrL ds))), δ.set i .hole) := (rfl)
theorem ZoI (v : V) : Zao (.tmp (.sc v)) = M.ret (.sc v, none) := (rfl)
theorem ZoJ (k : Kd) (o : Bool) (ds : List D) : Zao (.tmp (.node k o ds)) = M.ret (.nd k (shrL ds), none) := (rfl)
theorem ZoK : Zau [] = M.ret () := (rfl)
theorem ZoL (i : Nat) (d : D) (r : List (Nat × D)) (δ : List D) : Zau ((i, d) :: r) δ = Zau r (δ.set i d) := (rfl)
theorem it_l (ds : List D) : itW .val [.nd .lst ds] = some ds := (rfl)
theorem it_t (ds : List D) : itW .val [.nd .tup ds] = some ds := (rfl)
theorem it_1 (n : Int) (h : okR n = true) : itW .rng1 [.sc (.int n)] = some (rng 0 n) := if_pos h
theorem it_2 (a b : Int) (h : (okR a && okR b) = true) : itW .rng2 [.sc (.int a), .sc (.int b)] = some (rng a b) := if_pos h
noncomputable def mdR (i : Nat) (δ : List D) (f : Kd -> List D -> Option (D × Kd × List D)) : Option D -> Rs (D × List D)
 | some (.node k true ds) => match f k ds with
  | some (r, k', ds') => .ok (r, δ.set i (.node k' true ds'))
  | none => .stuck
 | _ => .stuck
theorem modA (i : Nat) (f : Kd -> List D -> Option (D × Kd × List D)) (δ : List D) : modS i f δ = mdR i δ f δ[i]? := by
 unfold modS mdR
 cases δ[i]? with
 | none => rfl
 | some d => cases d with
  | node k o ds => cases o <;> rfl
  | _ => rfl
theorem ZgH (i : Nat) (δ : List D) (d : D) (ds : List D) (h : ds.length < sizeLine) : mdR i δ (appD d) (some (.node .lst true ds)) = .ok (.sc .non, δ.set i (.node .lst true (ds ++ [d]))) := by
 show (match (if ds.length < sizeLine then some (D.sc .non, Kd.lst, ds ++ [d]) else none) with | some (r, k', ds') => Rs.ok (r, δ.set i (.node k' true ds')) | none => .stuck) = _
 rw [if_pos h]
theorem ZcA (i : Nat) (δ : List D) (d : D) (ds : List D) (n : Int) (j : Nat) (h : ixN' ds.length n = some j) : mdR i δ (Zap (.sc (.int n)) d) (some (.node .lst true ds)) = .ok (.sc .non, δ.set i (.node .lst true (ds.set j d))) := by
 show (match ((ixN' ds.length n).map fun j => (D.sc .non, Kd.lst, ds.set j d)) with | some (r, k', ds') => Rs.ok (r, δ.set i (.node k' true ds')) | none => .stuck) = _
 rw [h]
 rfl
theorem Zrt (i : Nat) (d : D) : appM i [d] = modS i (appD d) := (rfl)
noncomputable def ckR (δ : List D) : Option D -> Rs (Unit × List D)
 | some (.node .lst _ _) => .ok ((), δ)
 | _ => .stuck
theorem chkA (i : Nat) (δ : List D) : chkL i δ = ckR δ δ[i]? := by
 unfold chkL ckR
 cases δ[i]? with
 | none => rfl
 | some d => cases d with
  | node k o ds => cases k <;> rfl
  | _ => rfl
theorem Zru (δ : List D) (o : Bool) (ds : List D) : ckR δ (some (.node .lst o ds)) = .ok ((), δ) := (rfl)
theorem ix_l (ds : List D) (i : Int) : ixW2 (.nd .lst ds) (.sc (.int i)) = (ixN' ds.length i).bind fun j => ds[j]? := (rfl)
theorem Zft (n j : Nat) (h : j < n) : ixN' n (j : Int) = some j := by
 unfold ixN'
 rw [if_pos (Int.natCast_nonneg j), if_pos (by omega)]
 simp
end T
namespace T
open PySem PySem.Spec L2
section
variable {X : Cx} {a b c : Expr} {pos : Pos}
def r2C (K : Fg) (f : W -> W -> Option Bool) : R2 := fun x y H Q => ∃ (Hs : Hp) (w1 w2 : W) (m1 m2 : Bud) (t : Bool), Same Hs H /\ View K H Hs x w1 m1 /\ View K H Hs y w2 m2 /\ f w1 w2 = some t /\ Q (.bl t) H
theorem ZdV (op : CmpOp) (hu : X.A.units + 64 < cLine) : OpR X (compareOp op) (r2C X.K (cmpW op)) := by
 intro pins s σ H x y v u Q I rx ry h
 obtain ⟨Hs, w1, w2, m1, m2, t, hs, v1, v2, e, q⟩ := h
 unfold cmpW at e
 split at e
 . rcases ZeO hs v1 v2 e with ⟨h3, rfl⟩ | ⟨d, f, h3, h4, h5, h6, rfl⟩
   . exact ZkU pins s σ H _ _ v u Q I rx ry ⟨h3, q⟩
   . exact ZiX hu pins s σ H _ _ v u Q I rx ry ⟨d, f, h3, h4, h5, h6, q⟩
 . simp only [Option.map_eq_some_iff] at e
   obtain ⟨t, e, rfl⟩ := e
   rcases ZeO hs v1 v2 e with ⟨h3, rfl⟩ | ⟨d, f, h3, h4, h5, h6, rfl⟩
   . exact ZkV pins s σ H _ _ v u Q I rx ry ⟨h3, q⟩
   . exact ZiY hu pins s σ H _ _ v u Q I rx ry ⟨d, f, h3, h4, h5, h6, q⟩
 . simp only [Option.map_eq_some_iff] at e
   obtain ⟨is, e, rfl⟩ := e
   cases v1
   cases v2 with
   | nd n r =>
    have ei := Zar r e
    subst ei
    exact Zdr pins s σ H _ _ v u Q I rx ry ⟨_, _, rfl, .inr n, rfl, Zdw _, by rw [if_pos rfl, Zey]; exact q⟩
 . rename_i i j _ _
   cases v1; cases v2
   cases op with
   | Lt => cases e; exact ZkW pins s σ H _ _ v u Q I rx ry ⟨_, _, rfl, rfl, q⟩
   | LtE => cases e; exact ZkX pins s σ H _ _ v u Q I rx ry ⟨_, _, rfl, rfl, q⟩
   | Gt => cases e; exact ZkY pins s σ H _ _ v u Q I rx ry ⟨_, _, rfl, rfl, q⟩
   | GtE => cases e; exact ZkZ pins s σ H _ _ v u Q I rx ry ⟨_, _, rfl, rfl, q⟩
   | _ => cases e
 . cases e
noncomputable def ZgI (op op' : CmpOp) (ca cb cc : M Op) : M D := ca.bnd fun p => cb.bnd fun q => (view p).bnd fun x => (view q).bnd fun y => (lift (cmpW op x y)).bnd fun t => if t then cc.bnd fun r => (view q).bnd fun y => (view r).bnd fun z => lift ((cmpW op' y z).map fun t => .sc (.bl t)) else M.ret (.sc (.bl false))
theorem ZfI {op op' : CmpOp} {K : Fg} {ca cb cc : M Op} {σ : St} {H : Hp} {Q : VK} (h : tM K (ZgI op op' ca cb cc) σ H Q) :
 Zgw (r2C K (cmpW op)) (r2C K (cmpW op')) (tP K ca) (tP K cb) (tP K cc) σ H Q := by
 obtain ⟨δ, Hs, M, d, δ', g, s, e, q⟩ := h
 obtain ⟨p, δ1, e1, e⟩ := Zc e
 obtain ⟨p2, δ2, e2, e⟩ := Zc e
 obtain ⟨w1, δ3, e3, e⟩ := Zc e
 obtain ⟨w2, δ4, e4, e⟩ := Zc e
 obtain ⟨t, δ5, e5, e⟩ := Zc e
 obtain ⟨e5', rfl⟩ := ZN e5
 refine seq2 g s e1 e2 fun x y H2 Hs2 m1 m2 M2 g2 st2 r1 r2 s2 => ?_
 obtain ⟨Hs3, M3, g3, st3, v1, v2, s3⟩ := Zit g2 s2 r1 r2 e3 e4
 have z := Zr (m1 := fun _ => 0) g (g2.re fun b => by simp) (st2.drop (fun b => by simp) g2.le) g3 st3
 have st : Stp H Hs M H2 Hs3 (fun b => (m1 b + m2 b) + M3 b) := z.2.1.drop (fun b => by simp) z.1.le
 refine ⟨Hs3, w1, w2, m1, m2, t, g3.sub, v1, v2, e5', t, rfl, ?_⟩
 cases t with
 | false =>
  rw [if_neg (by simp)]
  have := Zg (show T.M.ret (D.sc (.bl false)) _ = _ from e)
  cases this
  have G : Good H2 Hs3 (fun b => (fun _ => 0) b + M3 b) := g3.re fun b => by simp
  exact q _ _ Hs3 (fun _ => 0) M3 G (st.drop (fun b => by simp) g3.le) (.sc _ _) s3
 | true =>
  rw [if_pos rfl]
  rw [if_pos rfl] at e
  obtain ⟨p3, δ6, e6, e⟩ := Zc e
  obtain ⟨y2, δ7, e7, e⟩ := Zc e
  obtain ⟨z3, δ8, e8, e⟩ := Zc e
  obtain ⟨e9, rfl⟩ := ZN e
  simp only [Option.map_eq_some_iff] at e9
  obtain ⟨t2, e9, rfl⟩ := e9
  have G2 : Good H2 Hs3 (fun b => m2 b + M3 b) := g3.re fun b => by omega
  have st2' : Stp H Hs M H2 Hs3 (fun b => m2 b + M3 b) := st.drop (fun b => by omega) g3.le
  refine ⟨_, Hs3, M3, p3, δ6, G2.re (fun b => by omega), s3, e6, fun z' H4 Hs4 m3 M4 g4 st4 r4 s4 => ?_⟩
  obtain ⟨G, S, k⟩ := Zr g G2 st2' g4 st4
  have ry : RepP K H4 Hs4 σ y p2 m2 := (r2.frame st3.grow fun _ _ _ => rfl).frame st4.grow k
  have G' : Good H4 Hs4 (fun b => (m2 b + m3 b) + M4 b) := G.re fun b => by omega
  have S' : Stp H Hs M H4 Hs4 (fun b => (m2 b + m3 b) + M4 b) := S.drop (fun b => by omega) G.le
  obtain ⟨Hs5, M5, g5, st5, v5, v6, s5⟩ := Zit G' s4 ry r4 e7 e8
  have z5 := Zr (m1 := fun _ => 0) g (G'.re fun b => by simp) (S'.drop (fun b => by simp) G'.le) g5 st5
  have S5 : Stp H Hs M H4 Hs5 (fun b => (m2 b + m3 b) + M5 b) := z5.2.1.drop (fun b => by simp) z5.1.le
  refine ⟨Hs5, y2, z3, m2, m3, t2, g5.sub, v5, v6, e9, ?_⟩
  have G6 : Good H4 Hs5 (fun b => (fun _ => 0) b + M5 b) := g5.re fun b => by simp
  exact q _ _ Hs5 (fun _ => 0) M5 G6 (S5.drop (fun b => by simp) g5.le) (.sc _ _) s5
theorem ZgJ {op op' : CmpOp} {ca cb cc : M Op} (hu : X.A.units + 64 < cLine) (ha : PE X a (tP X.K ca)) (hb : PE X b (tP X.K cb)) (hc : PE X c (tP X.K cc)) (hm : lastMarks [op, op'] [b, c] = false := by with_unfolding_all rfl) :
 PE X (.Compare a [op, op'] [b, c] pos) (tM X.K (ZgI op op' ca cb cc)) := PE.imp (ZjR (ZdV op hu) (ZdV op' hu) ha hb hc hm) fun σ H Q h => ZfI h
theorem ZfJ {op op' : CmpOp} {ca cb cc : M Op} (hu : X.A.units + 64 < cLine) (ha : PE X a (tP X.K ca)) (hb : PE X b (tP X.K cb)) (hc : PE X c (tP X.K cc)) (hm : lastMarks [op, op'] [b, c] = false := by with_unfolding_all rfl) :
 PT X (.Compare a [op, op'] [b, c] pos) (tT X.K (Zbr (ZgI op op' ca cb cc))) := PT.imp (ZjS (ZdV op hu) (ZdV op' hu) ha hb hc hm) fun σ H Q h => ZfI (Zfp h)
end
section
variable {K : Fg} {H Hs : Hp}
theorem RepL.rev : ∀ {vs : List V} {ds : List D} {m : Bud}, RepL K H Hs vs ds m -> RepL K H Hs vs.reverse ds.reverse m
 | _, _, _, .nil m => .nil m
 | _, _, _, .cons (m1 := m1) (m2 := m2) x r l => by
  (rw [List.reverse_cons, List.reverse_cons])
  exact ((RepL.rev r).app (.cons x (.nil (fun _ => 0)) fun b => by simp; exact Nat.le_refl _)).mono fun b => by have := l b; (try dsimp only); omega
end
section
variable {X : Cx} {o e : Expr} {es : List Expr} {cpos apos : Pos} {i : Nat}
noncomputable def mutM (m : MM) (i : Nat) (cs : M (List Op)) : M D := (chkL i).bnd fun _ => cs.bnd fun ps => (views ps).bnd fun ws => modS i (mutD m ws)
theorem Zrv {m : MM} {cs : M (List Op)} {σ : St} {H : Hp} {Q : VK} {rr : V -> List V -> Hp -> VK -> Prop} (h : tM X.K (mutM m i cs) σ H Q)
 (hr : ∀ (vs : List V) (H1 : Hp) (p0 : Addr) (d : D) (ws : List W) (Hs2 : Hp) (ds ds' : List D) (us : List V) (m2 m' : Bud), mutD m ws .lst ds = some (d, .lst, ds') -> Views X.K H1 Hs2 vs ws m2 -> H1 p0 = some (.lst us) -> RepL X.K H1 Hs2 us ds m' ->
  (∀ (us' : List V) (n' nr : Bud) (rv : V), (∀ b, n' b + nr b <= m' b + m2 b) -> RepL X.K H1 Hs2 us' ds' n' -> Rep X.K H1 Hs2 rv d nr -> Q rv (upd H1 p0 (.lst us'))) -> rr (.ref p0) vs H1 Q) :
 tBM X.K "list" rr (tVar i) (tPs X.K cs) σ H Q := by
 obtain ⟨δ, Hs, M, d, δ', g, s, ea, q⟩ := h
 obtain ⟨u, δ0, e0, eb⟩ := Zc ea
 obtain ⟨ps, δ1, e1, ec⟩ := Zc eb
 obtain ⟨rfl, p0, h1, h2⟩ := Zjk g s e0
 refine ⟨_, h1, h2, δ0, Hs, M, ps, δ1, g, s, e1, fun vs H1 Hs1 m1 M1 g1 st1 r1 s1 => ?_⟩
 exact ZlQ (m := m) g g1 st1 r1 s1 h1 ec q fun ws Hs2 ds ds' us m2 m' a b c d' f => hr vs H1 p0 d ws Hs2 ds ds' us m2 m' a b c d' f
theorem Zjq {cs : M (List Op)} (ho : PE X o (tVar i)) (ha : PA X [e] (tPs X.K cs))
 (hbase : attributeBase o "extend" X.env (eval o X.env) = eval o X.env := by rfl)
 (hfew : ((backTo cpos (starEach [e] X.env)).all (fun x => !x.1) && (backToKw cpos (keywordEach [] X.env)).all (fun x => x.1.isSome)
  && decide ([e].length + ([] : List Keyword).length + (if ([] : List Keyword).isEmpty then 0 else 1) < 30)) = true := by rfl)
 (hline : (apos.endLine == cpos.line) = true := by rfl) (hs : starEach [e] X.env = (false, eval e X.env) :: starEach [] X.env := by rfl) (hplain : (backTo cpos (starEach [] X.env)).any (·.1) = false := by rfl) :
 PE X (.Call (.Attribute o "extend" apos) [e] [] cpos) (tM X.K (mutM .extend i cs)) :=
 PE.imp (Zle PySem.F.plainAttrs_list PySem.F.slot_list_extend PySem.F.type_list_extend ZiQ ho ha hbase hfew hline hs hplain) fun σ H Q h => Zrv h fun vs H1 p0 d ws Hs2 ds ds' us m2 m' hm hv n rl fin => by
  unfold mutD at hm
  split at hm
  . split at hm
    . rename_i hl
      cases hm
      obtain ⟨v, m1, rfl, hv, l⟩ := hv.one
      cases hv with
      | nd nn rr =>
       have l1 := rl.len
       have l2 := rr.len
       exact ⟨p0, _, us, _, rfl, rfl, n, nn, by omega, fin _ (fun b => m' b + m1 b) (fun _ => 0) .non (fun b => by have := l b; (try dsimp only); omega) (rl.app rr) (.sc _ _)⟩
    . cases hm
  all_goals (first | contradiction | cases hm)
end
section
variable {X : Cx} {a b o e k : Expr} {pos pos' : Pos} {i : Nat} {lk : Nat -> Bool}
theorem Zml {α β : Type} {c : M α} {f : α -> M β} {δ δ' : List D} {x : α} (h : c δ = .ok (x, δ')) : c.bnd f δ = f x δ' := by
 unfold M.bnd
 rw [h]
theorem ZC {ca cb : M Op} (hu : X.A.units + 64 < cLine) (ha : PE X a (tP X.K ca)) (hb : PE X b (tP X.K cb)) (hs : Zfn b := by intro _ _; rfl) :
 PE X (.Subscript a b pos) (tM X.K (ca.bnd fun p => cb.bnd fun q => (view p).bnd fun x => (view q).bnd fun y => lift (ixW2 x y))) := Zp1 ha hb hs
theorem Zb5 {op : CmpOp} {ca cb : M Op} (hu : X.A.units + 64 < cLine) (ha : PE X a (tP X.K ca)) (hb : PE X b (tP X.K cb)) (hm : behindInMarks op b = false := by first | exact nomark _ | with_unfolding_all rfl) :
 PE X (.Compare a [op] [b] pos) (tM X.K (ca.bnd fun p => cb.bnd fun q => (view p).bnd fun x => (view q).bnd fun y => lift ((Zat op x y).map fun t => .sc (.bl t)))) := ZnC hu ha hb hm
theorem Zu {op : CmpOp} {ca cb : M Op} (hu : X.A.units + 64 < cLine) (ha : PE X a (tP X.K ca)) (hb : PE X b (tP X.K cb)) (hm : behindInMarks op b = false := by first | exact nomark _ | with_unfolding_all rfl) :
 PT X (.Compare a [op] [b] pos) (tT X.K (Zbr (ca.bnd fun p => cb.bnd fun q => (view p).bnd fun x => (view q).bnd fun y => lift ((Zat op x y).map fun t => .sc (.bl t))))) := ZlK hu ha hb hm
theorem Za1 {c : M D} {ck : M Op} (hu : X.A.units + 64 < cLine) (ho : PE X o (tVar i)) (hk : PE X k (tP X.K ck)) (he : PE X e (tM X.K c))
 (ha : ∀ v, assign (.Subscript o k pos') X.env v = (do
  let ov <- holding [v] (eval o X.env)
  let iv <- holding [v, ov] (eval k X.env)
  standAt pos'
  holding [v, ov, iv] (setItem ov iv v)
  release [v, ov, iv] []) := by intro _; rfl)
 (hs : swapsWithSole [.Subscript o k pos'] e pos.line X.env = pure false := by rfl) (hw : swappedStores [.Subscript o k pos'] e X.env = pure none := by rfl)
 (h1 : (assignEach [.Subscript o k pos'] X.env).map (·.2) = [assign (.Subscript o k pos') X.env] := by rfl) :
 PS X (.Assign [.Subscript o k pos'] e pos) (tS X.K lk (c.bnd fun d => (Zag i).bnd fun _ => (ck.bnd view).bnd fun w => (modS i (Zap w d)).bnd fun _ => M.ret .nx)) := ZnO ho hk he ha hs hw h1
end
theorem Zd2 : ∀ (c : Int) (ds : List D), (ZG c ds).length = ds.length
 | _, [] => rfl
 | c, d :: ds => by rw [ZG, List.length_cons, List.length_cons, Zd2]
theorem ZgK : ∀ (c : Int) (ds : List D) (i : Nat) {d : D}, (ZG c ds)[i]? = some d -> ∃ x, ds[i]? = some x /\ d = .node .tup false [.sc (.int (c + i)), x]
 | _, [], i, _, h => by simp [ZG] at h
 | c, x :: ds, 0, d, h => by
  rw [ZG, List.getElem?_cons_zero] at h
  cases h
  exact ⟨x, rfl, by simp⟩
 | c, x :: ds, i + 1, d, h => by
  rw [ZG, List.getElem?_cons_succ] at h
  obtain ⟨y, e1, e2⟩ := ZgK (c + 1) ds i h
  refine ⟨y, by rw [List.getElem?_cons_succ]; exact e1, ?_⟩
  have z : c + 1 + (i : Int) = c + ((i + 1 : Nat) : Int) := by omega
  rw [e2, z]
theorem Zjr {K : Fg} {a : Addr} {vs : List V} {ds : List D} {B : Bud} {c : Int} : Walk K (Ite K a c) (ZG c ds) B (fun H Hs => (SqL K Hs a vs \/ (H a = some (.lst vs) /\ B a ≥ 1)) /\ RepL K H Hs vs ds (fun _ => 0)) := by
 have sq : ∀ {H Hs : Hp}, Same Hs H -> (SqL K Hs a vs \/ (H a = some (.lst vs) /\ B a ≥ 1)) -> SqL K H a vs := fun g h => h.elim (fun h => g.seq h) fun h => .inl (.inl h.1)
 refine ⟨fun h g k => ⟨?_, h.2.frame g fun b hb => absurd hb (by simp)⟩, fun {H Hs i} g h l => ?_, fun {H Hs H' i x d} g h e y => ?_, fun {H Hs i} g h l => ?_⟩
 . rcases h.1 with h | ⟨h, hb⟩
   . exact .inl (g.seq h)
   . exact .inr ⟨(k a hb (by rw [h]; simp)).trans h, hb⟩
 . have e := h.2.len
   rw [Zd2] at l
   exact ⟨vs, _, sq g h.1, List.getElem?_eq_getElem (show i < vs.length by omega)⟩
 . obtain ⟨x1, e1, e2⟩ := ZgK c ds i e
   subst e2
   obtain ⟨A, y1, rfl, hA, rfl, hy⟩ := y
   obtain ⟨v, m1, ev, rv, lv⟩ := h.2.at e1
   have hv := hy vs (sq g h.1)
   rw [ev] at hv
   cases hv
   have gr : Grow H Hs (upd H A (.tup [.int (c + i), y1])) (upd Hs A (.tup [.int (c + i), y1])) := .inr ⟨A, _, hA, rfl, rfl⟩
   obtain ⟨sm, fr, _⟩ := gr.same g
   refine ⟨_, gr, .shd (k := .tup) (vs := [.int (c + i), y1]) (show _ = some _ from Zm) (.cons (m1 := fun _ => 0) (m2 := fun _ => 0) (.sc _ _) (.cons (m1 := fun _ => 0) (m2 := fun _ => 0) ((rv.mono lv).frame sm fun b _ n => fr b n) (.nil _) fun b => by simp) fun b => by simp)⟩
 . have e := h.2.len
   rw [Zd2] at l
   exact ⟨vs, sq g h.1, by omega⟩
theorem ZoM {c cb : M Op} {n : Int} {δ δ' : List D} {h : List W × List (Nat × D)} (hcb : ∀ δ, cb δ = .ok (.tmp (.sc (.int n)), δ)) (e : ((c.bnd fun p => (cb.bnd fun p => (M.ret ([] : List Op)).bnd fun ps => M.ret (p :: ps)).bnd fun ps => M.ret (p :: ps)).bnd Z1) δ = .ok (h, δ')) :
 ∃ p δ1 w, c δ = .ok (p, δ1) /\ Zao p δ1 = .ok (w, δ') /\ h = ([w.1, .sc (.int n)], w.2.toList) := by
 obtain ⟨ps, δ1, e1, e2⟩ := Zc e
 obtain ⟨p, δ2, e3, e4⟩ := Zc e1
 obtain ⟨qs, δ3, e5, e6⟩ := Zc e4
 obtain ⟨p2, δ4, e7, e8⟩ := Zc e5
 rw [hcb] at e7
 cases e7
 obtain ⟨z, δ5, e9, e10⟩ := Zc e8
 have := Zg e9
 cases this
 have := Zg e10
 cases this
 have := Zg e6
 cases this
 obtain ⟨w, δ6, e11, e12⟩ := Zc e2
 obtain ⟨ws, δ7, e13, e14⟩ := Zc e12
 obtain ⟨w2, δ8, e15, e16⟩ := Zc e13
 have := Zg e15
 cases this
 obtain ⟨z, δ9, e17, e18⟩ := Zc e16
 have := Zg e17
 cases this
 have := Zg e18
 cases this
 have := Zg e14
 cases this
 exact ⟨p, _, w, e3, e11, by simp⟩
theorem Zrw {X : Cx} {x : Str} {i : Int} {p : Pos} (hg : Gl X x) (h : ∃ t, X.mg x = some (.int i t)) (hd : (x == ("__debug__" : Str)) = false) : PE X (.Name x p) (tM X.K (M.ret (.sc (.int i)))) := by
 obtain ⟨t, h⟩ := h
 exact ok_k (Zhx hg h ⟨t, rfl⟩ hd)
theorem ZdW {X : Cx} {es : List Expr} {k1 : Nat} {q : Pos} {is : List Nat} (hc : X.calm = true) (hg : PGs X es (gNs is)) (hn : (assignEach es X.env).length = is.length := by rfl) (hst : (assignEach es X.env).findIdx? (·.1) = none := by rfl) : PG X (.Tuple es k1 q) (gT X.K (.tup is)) := Zjl hc hg hn hst
section
variable {X : Cx} {es : List Expr} {k1 : Nat} {l ke : Expr} {ca cb : M Op} {p pos q kp : Pos} {c : Int}
theorem ZhH (hl : PE X l (tP X.K ca)) (hcb : ∀ δ, cb δ = .ok (.tmp (.sc (.int c)), δ)) (σ : St) (H : Hp) (R : It -> Hp -> Prop) (h : tI X.K .enum (ca.bnd fun p => (cb.bnd fun p => (M.ret ([] : List Op)).bnd fun ps => M.ret (p :: ps)).bnd fun ps => M.ret (p :: ps)) σ H R) : Zik X.K c (ZeH (tP X.K ca) tNil) σ H R /\ Builtin.SmallTypes.fitsIndex c = true := by
 obtain ⟨δ, Hs, M, h, items, δ', g, s, e, ei, z⟩ := h
 obtain ⟨p, δ1, w, e1, e2, rfl⟩ := ZoM hcb e
 obtain ⟨w1, w2⟩ := w
 have core : ∀ (x : V) (H2 Hs2 : Hp) (m1 M2 : Bud), Good H2 Hs2 (fun b => m1 b + M2 b) -> Stp H Hs M H2 Hs2 (fun b => m1 b + M2 b) -> RepP X.K H2 Hs2 σ x p m1 -> RepS X.K H2 Hs2 σ δ1 M2 ->
  ∃ Hs3 B M3, Good H2 Hs3 (fun b => B b + M3 b) /\ Stp H Hs M H2 Hs3 (fun b => B b + M3 b) /\ RepS X.K H2 Hs3 σ δ' M3 /\ Held X.K H2 Hs3 σ w2.toList B /\ HW X.K H2 Hs3 B x w1 := fun x H2 Hs2 m1 M2 g2 st2 r1 s2 => by
  obtain ⟨Hs3, B, M3, g3, st3, s3, hh, hw⟩ := Zb4 g2 s2 r1 e2
  have z := Zr (m1 := fun _ => 0) g (g2.re fun b => by simp) (st2.drop (fun b => by simp) g2.le) g3 st3
  exact ⟨Hs3, B, M3, g3, z.2.1.drop (fun b => by simp) z.1.le, s3, hh, hw⟩
 have fit : okR c = true -> Builtin.SmallTypes.fitsIndex c = true := fun h => by
  simp only [okR, Bool.and_eq_true, decide_eq_true_eq] at h
  simp only [Builtin.SmallTypes.fitsIndex, Bool.and_eq_true, decide_eq_true_eq]
  omega
 cases w1 with
 | sc u => cases ei
 | nd k ds =>
  have hkk : (k = .lst \/ k = .frl) /\ okR c = true /\ items = ZG c ds := by
   simp only [itW, Zlh] at ei
   split at ei
   . rename_i hk; cases ei; exact ⟨hk.1, hk.2, rfl⟩
   . cases ei
  obtain ⟨hk, hc, rfl⟩ := hkk
  refine ⟨⟨δ, Hs, M, p, δ1, g, s, e1, fun x H2 Hs2 m1 M2 g2 st2 r1 s2 => ?_⟩, fit hc⟩
  obtain ⟨Hs3, B, M3, g3, st3, s3, hh, a, vs, hx, hr, hn⟩ := core x H2 Hs2 m1 M2 g2 st2 r1 s2
  have hp : SqL X.K Hs3 a vs \/ (H2 a = some (.lst vs) /\ B a ≥ 1) := by
   rcases hk with rfl | rfl
   . exact hn.elim (fun n => .inl (.inl (.inl n))) fun n => .inr n
   . exact hn.elim (fun n => .inl n) fun n => n.1.elim
  refine ⟨a, by rw [hx], ⟨vs, ?_⟩, z _ _ H2 Hs3 B M3 g3 st3 s3 hh Zjr ⟨hp, hr⟩⟩
  rcases hp with hp | hp
  . exact g3.sub.seq hp
  . exact .inl (.inl hp.1)
theorem ZcS (hg : Gl X "enumerate") (hm : X.mg "enumerate" = none) (hl : PE X l (tP X.K ca)) (hcb : ∀ δ, cb δ = .ok (.tmp (.sc (.int 0)), δ) := by intro _; rfl) (hs : starEach [l] X.env = [(false, eval l X.env)] := by rfl) :
 PI X (.Tuple es k1 q) (.Call (.Name "enumerate" p) [l] [] pos) (tI X.K .enum (ca.bnd fun p => (cb.bnd fun p => (M.ret ([] : List Op)).bnd fun ps => M.ret (p :: ps)).bnd fun ps => M.ret (p :: ps))) := PI.imp (ZlH hg hm (ZY hl ZaG (by show _ = _; rw [hs]; rfl)) hs) fun σ H R h => (ZhH hl hcb σ H R h).1
theorem Zkz (hg : Gl X "enumerate") (hm : X.mg "enumerate" = none) (hl : PE X l (tP X.K ca)) (hke : PE X ke (tC (.int c))) (hcb : ∀ δ, cb δ = .ok (.tmp (.sc (.int c)), δ) := by intro _; rfl) (hs : starEach [l] X.env = [(false, eval l X.env)] := by rfl) :
 PI X (.Tuple es k1 q) (.Call (.Name "enumerate" p) [l] [⟨some "start", ke, kp⟩] pos) (tI X.K .enum (ca.bnd fun p => (cb.bnd fun p => (M.ret ([] : List Op)).bnd fun ps => M.ret (p :: ps)).bnd fun ps => M.ret (p :: ps))) := fun pins s σ H R I h => by
 obtain ⟨h1, h2⟩ := ZhH hl hcb σ H R h
 exact Zkm hg hm (ZY hl ZaG (by show _ = _; rw [hs]; rfl)) hke h2 hs pins s σ H R I h1
end
open PySem.W
noncomputable abbrev dI (xs : List Int) : List D := xs.map fun i => D.sc (.int i)
theorem Zt (x : Int) (xs : List Int) : dI (x :: xs) = .sc (.int x) :: dI xs := (rfl)
theorem ZcB : dI [] = [] := (rfl)
theorem ZD (xs ys : List Int) : dI (xs ++ ys) = dI xs ++ dI ys := List.map_append
theorem Zo (xs : List Int) : (dI xs).length = xs.length := List.length_map _
theorem Zi (xs : List Int) : shrL (dI xs) = dI xs := by
 induction xs with
 | nil => rfl
 | cons x xs ih => simp only [List.map_cons, shrL, shr] at ih ⊢; rw [ih]
theorem ZbA (xs : List Int) : Zan (dI xs) = some xs := by
 induction xs with
 | nil => rfl
 | cons x xs ih => simp only [List.map_cons, Zan] at ih ⊢; rw [ih]; rfl
theorem Zrx (ds : List D) : bfW .sum [.nd .lst ds] = (Zan ds).map fun is => .sc (.int is.sum) := (rfl)
theorem Zbe (xs : List Int) : bfW .sum [.nd .lst (dI xs)] = some (.sc (.int xs.sum)) := by rw [Zrx, ZbA]; rfl
theorem Zry (w : W) : bfW (.isi .bool) [w] = (tyW .bool w).map fun b => .sc (.bl b) := (rfl)
theorem Zk0 (xs : List Int) : pyL (dI xs) = some (xs.map PyData.int) := by
 induction xs with
 | nil => rfl
 | cons x xs ih => simp only [List.map_cons, pyL, py] at ih ⊢; rw [ih]; rfl
theorem Zk1 (xs : List Int) : PyData.canLayAll0 (xs.map PyData.int) = true := by
 induction xs with
 | nil => rfl
 | cons x xs ih => simp only [List.map_cons, PyData.canLayAll0, PyData.canLay0, ih, Bool.and_self]
theorem Zjs (xs : List Int) : PyData.depthAll (xs.map PyData.int) = 0 := by
 induction xs with
 | nil => rfl
 | cons x xs ih => simp only [List.map_cons, PyData.depthAll, PyData.depth, ih, Nat.max_self]
theorem Zen (xs : List Int) : SeqAt.shaped (.list (xs.map PyData.int)) = true := by
 simp only [SeqAt.shaped, PyData.canLay0, PyData.depth, Zk1, Zjs]
 decide
theorem ZgL : ∀ xs ys : List Int, PyData.eqvAll (xs.map PyData.int) (ys.map PyData.int) = decide (xs = ys)
 | [], [] => by simp only [List.map_nil, PyData.eqvAll, decide_true]
 | [], y :: ys => by simp [PyData.eqvAll]
 | x :: xs, [] => by simp [PyData.eqvAll]
 | x :: xs, y :: ys => by
  simp only [List.map_cons, PyData.eqvAll, PyData.eqv, ZgL xs ys]
  (by_cases h1 : x = y <;> by_cases h2 : xs = ys <;> simp [h1, h2])
theorem ZdX (xs ys : List Int) : Zat .Eq (.nd .lst (dI xs)) (.nd .lst (dI ys)) = some (decide (xs = ys)) := by
 show (py (.node .lst false (dI xs))).bind (fun a => (py (.node .lst false (dI ys))).bind fun b => eqPy a b) = _
 simp only [py, Zk0, Option.map_some, Option.bind_some]
 unfold eqPy
 rw [if_pos ⟨Zen xs, Zen ys⟩]
 simp only [PyData.eqv, ZgL]
noncomputable def cutI (xs : List Int) (lo hi : Option Int) : List Int := (xs.drop (HT.sIx xs.length 0 lo)).take (HT.sIx xs.length xs.length hi - HT.sIx xs.length 0 lo)
theorem Zb6 (xs : List Int) (lo hi : Option Int) : cutD (dI xs) lo hi = dI (cutI xs lo hi) := by
 unfold cutD cutI
 simp only [List.length_map, List.map_take, List.map_drop]
theorem Zk2 (xs : List Int) (k : Nat) : cutI xs (some (k : Int)) (some ((k : Int) + 1)) = (xs[k]?).toList := by
 unfold cutI
 have e1 : ((k : Int) + 1) = ((k + 1 : Nat) : Int) := by omega
 rw [e1, HT.Zcb, HT.Zcb]
 by_cases h : k < xs.length
 . rw [Nat.min_eq_left (by omega), Nat.min_eq_left (by omega), List.getElem?_eq_getElem h, List.drop_eq_getElem_cons h]
   have : k + 1 - k = 1 := by omega
   rw [this]
   rfl
 . rw [Nat.min_eq_right (by omega), Nat.min_eq_right (by omega), List.getElem?_eq_none (by omega)]
   simp
noncomputable def rngI : Int -> Nat -> List Int
 | _, 0 => []
 | a, n + 1 => a :: rngI (a + 1) n
theorem Zmm (a : Int) : ∀ (n : Nat) (f : Nat -> Int), (∀ k, f k = a + k) -> (List.range n).map (fun k => D.sc (.int (f k))) = dI (rngI a n) := by
 intro n
 induction n generalizing a with
 | zero => intro f _; rfl
 | succ n ih =>
  intro f hf
  (rw [List.range_succ_eq_map, List.map_cons, List.map_map])
  show _ = D.sc (.int a) :: dI (rngI (a + 1) n)
  have h0 : f 0 = a := by rw [hf]; simp
  rw [h0]
  congr 1
  exact ih (a + 1) (fun k => f (k + 1)) fun k => by rw [hf]; omega
theorem ZgM (a b : Int) : rng a b = dI (rngI a (b - a).toNat) := Zmm a _ (fun k => a + k) fun k => rfl
theorem Ze2 (a : Int) : ∀ n, (rngI a n).length = n := by
 intro n
 induction n generalizing a with
 | zero => rfl
 | succ n ih => rw [rngI, List.length_cons, ih]
theorem ZcT (a : Int) : ∀ n x, x ∈ rngI a n ↔ a <= x /\ x < a + n := by
 intro n
 induction n generalizing a with
 | zero => intro x; simp only [rngI, List.not_mem_nil, false_iff]; omega
 | succ n ih => intro x; rw [rngI, List.mem_cons, ih]; omega
theorem Zgn (n : Int) (h : -(2 ^ 62) <= n /\ n < 2 ^ 62) : itW .rng1 [.sc (.int n)] = some (dI (rngI 0 n.toNat)) := by
 rw [it_1 n (by simp only [okR, Bool.and_eq_true, decide_eq_true_eq]; exact h), ZgM]
 have : n - 0 = n := by omega
 rw [this]
theorem Zgo (a b : Int) (h : -(2 ^ 62) <= a /\ a < 2 ^ 62 /\ -(2 ^ 62) <= b /\ b < 2 ^ 62) : itW .rng2 [.sc (.int a), .sc (.int b)] = some (dI (rngI a (b - a).toNat)) := by
 rw [it_2 a b (by simp only [okR, Bool.and_eq_true, decide_eq_true_eq]; exact ⟨⟨h.1, h.2.1⟩, h.2.2⟩), ZgM]
theorem it_e (ds : List D) (c : Int) (h : -(2 ^ 62) <= c /\ c < 2 ^ 62) : itW .enum [.nd .lst ds, .sc (.int c)] = some (ZG c ds) := by
 show (if _ then _ else _) = _
 rw [if_pos ⟨.inl rfl, by simp only [okR, Bool.and_eq_true, decide_eq_true_eq]; exact h⟩]
theorem ZbF (lk : Nat -> Bool) (is : List Nat) (o : Bool) (ds : List D) : asgT lk (.tup is) (.node .tup o ds) = ZaX lk is ds := (rfl)
theorem ixI (xs : List Int) (k : Int) (h0 : 0 <= k) (h : k < xs.length) : ((ixN' (dI xs).length k).bind fun j => (dI xs)[j]?) = some (.sc (.int (xs.getD k.toNat 0))) := by
 rw [List.length_map]
 unfold ixN'
 rw [if_pos h0, if_pos h]
 (have hk : k.toNat < xs.length := by omega)
 show (dI xs)[k.toNat]? = _
 rw [List.getElem?_map, List.getElem?_eq_getElem hk, List.getD_eq_getElem?_getD, List.getElem?_eq_getElem hk]
 rfl
noncomputable def notV : E -> Bool
 | .v _ => false
 | _ => true
theorem Zae {e : E} {c : M D} {lk : Nat -> Bool} (h : notV e = true) : ZaN (Zk e c) lk := by
 rw [ZlW fun j z => by subst z; cases h]
 exact ZnQ
section
variable {asg : D -> M Unit} {cond : M Bool} {elt : M D} {d : D} {ds acc δ δ' δ1 caps : List D} {k : Nat} {js : List Nat} {loop : M (List D)}
theorem Zaj : Z7 asg cond elt (d :: ds) acc δ = ((asg d).bnd fun _ => cond.bnd fun b => if b then elt.bnd fun x => Z7 asg cond elt ds (acc ++ [x]) else Z7 asg cond elt ds acc) δ := (rfl)
noncomputable def ZB (fok : Addr -> Str -> Bool) (fuel k : Nat) (tg : Tg) (cond : List E) (elt : E) (items acc : List D) : M (List D) := Z7 (asgT (fun i => decide (k <= i)) tg) (tsts ⟨fun i => decide (k <= i), fok, fuel⟩ cond) (evb ⟨fun i => decide (k <= i), fok, fuel⟩ elt).1 items acc
theorem Zmn (C : Ctx) (k : Nat) (js : List Nat) (tg : Tg) (ik : IK) (es es' : List E) (a : E) : (evb C (.comp k js tg ik es es' a)).1 = ((opds C es).bnd fun ps => (Z1 ps).bnd fun h => (lift (itW ik h.1)).bnd fun items => (ZV k js (ZB C.fok C.fuel k tg es' a items [])).bnd fun d => (Zau h.2).bnd fun _ => M.ret d) := (rfl)
theorem ZL (h1 : Zc6 js δ = .ok (caps, δ1)) (h2 : loop (List.replicate k .hole ++ caps) = .ok (acc, δ')) (h3 : acc.length <= sizeLine) : ZV k js loop δ = ((Zbj js (δ'.drop k)).bnd fun _ => M.ret (.node .lst true acc)) δ1 := by
 unfold ZV
 rw [Zjp h1, h2]
 show ((Zbj js (δ'.drop k)).bnd fun _ => lift (newL acc)) δ1 = _
 rw [ZR _ h3]
 rfl
end
end T
namespace T
open PySem PySem.Spec L2
theorem Zmo {K : Fg} {ca : M Op} {p : Bool} {σ : St} {H : Hp} {Q : Bool -> Hp -> Prop} (h : tT K ((((ca.bnd view).bnd fun x => M.ret (isNW p x)).bnd fun d => M.ret (.tmp d)).bnd fun q => (view q).bnd fun w => lift (truW w)) σ H Q) :
 tM K ((ca.bnd view).bnd fun x => M.ret (isNW p x)) σ H (fun x H' => ∃ k, x = .bl k /\ Q k H') := by
 obtain ⟨δ, Hs, M, b, δ', g, s, e, q⟩ := h
 obtain ⟨op, δ1, e1, e2⟩ := Zc e
 obtain ⟨d, δ2, e3, e4⟩ := Zc e1
 have := Zg e4
 cases this
 have hb : ∃ t, d = .sc (.bl t) := by
  obtain ⟨x, δ3, e5, e6⟩ := Zc e3
  have := Zg e6
  cases this
  cases x <;> exact ⟨_, rfl⟩
 obtain ⟨t, rfl⟩ := hb
 obtain ⟨w, δ4, e7, e8⟩ := Zc e2
 have := Zg (show T.M.ret (W.sc (.bl t)) δ1 = .ok (w, δ4) from e7)
 cases this
 obtain ⟨e9, rfl⟩ := ZN e8
 cases e9
 refine Zfp (c := (ca.bnd view).bnd fun x => T.M.ret (isNW p x)) ⟨δ, Hs, M, _, _, g, s, ?_, q⟩
 unfold Zbr
 rw [Zjp e3]
 rfl
theorem Zfu (C : T.Ctx) (op op' : CmpOp) (a b e : E) : (evb C (.chain op op' a b e)).1 = ((Zk a (evb C a).1).bnd fun p => (Zk b (evb C b).1).bnd fun q => (view p).bnd fun x => (view q).bnd fun y => (lift (cmpW op x y)).bnd fun t => if t then (Zk e (evb C e).1).bnd fun r => (view q).bnd fun y => (view r).bnd fun z => lift ((cmpW op' y z).map fun t => .sc (.bl t)) else M.ret (.sc (.bl false))) := (rfl)
section
variable {X : Cx} {a : Expr} {pos pos' : Pos} {ca : M Op}
theorem Zfv (ha : PE X a (tP X.K ca)) {j} : PT X (.Compare a [.Is] [.Constant .none j pos'] pos) (tT X.K ((((ca.bnd view).bnd fun x => M.ret (isNW true x)).bnd fun d => M.ret (.tmp d)).bnd fun q => (view q).bnd fun w => lift (truW w))) := PT.imp (ZmS (ZmR ha)) fun σ H Q h => by
 have h2 : tM X.K ((ca.bnd view).bnd fun x => lift (some (isNW true x))) σ H _ := Zmo h
 exact op1 (r := fun x H1 Q => Q (.bl (decide (x = .non))) H1) h2 fun x H Hs w m d g h1 h2 v e o => by
  cases e
  rw [(ZlZ v).1] at o
  exact o.sc
end
theorem ZhI : ∀ (ds es : List D) (i : Nat) {d : D}, (zipD ds es)[i]? = some d -> ∃ x y, ds[i]? = some x /\ es[i]? = some y /\ d = .node .tup false [x, y]
 | [], es, i, d, h => by simp [zipD] at h
 | x :: ds, [], i, d, h => by simp [zipD] at h
 | x :: ds, y :: es, 0, d, h => by
  rw [zipD, List.getElem?_cons_zero] at h
  cases h
  exact ⟨x, y, rfl, rfl, rfl⟩
 | x :: ds, y :: es, i + 1, d, h => by
  rw [zipD, List.getElem?_cons_succ] at h
  obtain ⟨u, v, e1, e2, e3⟩ := ZhI ds es i h
  exact ⟨u, v, by rw [List.getElem?_cons_succ]; exact e1, by rw [List.getElem?_cons_succ]; exact e2, e3⟩
theorem Ze3 : ∀ ds es : List D, (zipD ds es).length = min ds.length es.length
 | [], es => by simp [zipD]
 | x :: ds, [] => by simp [zipD]
 | x :: ds, y :: es => by rw [zipD, List.length_cons, List.length_cons, List.length_cons, Ze3 ds es]; omega
def Stays (K : Fg) (B : Bud) (a : Addr) (vs : List V) (H Hs : Hp) : Prop := SqL K Hs a vs \/ (H a = some (.lst vs) /\ B a ≥ 1)
theorem Stays.sq {K : Fg} {B : Bud} {a : Addr} {vs : List V} {H Hs : Hp} (g : Same Hs H) (h : Stays K B a vs H Hs) : SqL K H a vs := h.elim (fun h => g.seq h) fun h => .inl (.inl h.1)
theorem Stays.frame {K : Fg} {B : Bud} {a : Addr} {vs : List V} {H Hs H' Hs' : Hp} (h : Stays K B a vs H Hs) (g : Same Hs Hs') (k : ∀ b, B b ≥ 1 -> H b ≠ none -> H' b = H b) : Stays K B a vs H' Hs' := by
 rcases h with h | ⟨h, hb⟩
 . exact .inl (g.seq h)
 . exact .inr ⟨(k a hb (by rw [h]; simp)).trans h, hb⟩
theorem Zk3 {K : Fg} {a b : Addr} {vs ws : List V} {ds es : List D} {B : Bud} : Walk K (Itz K a b) (zipD ds es) B (fun H Hs => (Stays K B a vs H Hs /\ Stays K B b ws H Hs) /\ RepL K H Hs vs ds (fun _ => 0) /\ RepL K H Hs ws es (fun _ => 0)) := by
 refine ⟨fun h g k => ⟨⟨h.1.1.frame g k, h.1.2.frame g k⟩, h.2.1.frame g fun b hb => absurd hb (by simp), h.2.2.frame g fun b hb => absurd hb (by simp)⟩, fun {H Hs i} g h l => ?_, fun {H Hs H' i x d} g h e y => ?_, fun {H Hs i} g h l => ?_⟩
 . have e1 := h.2.1.len
   have e2 := h.2.2.len
   rw [Ze3] at l
   exact ⟨vs, ws, _, _, h.1.1.sq g, h.1.2.sq g, List.getElem?_eq_getElem (show i < vs.length by omega), List.getElem?_eq_getElem (show i < ws.length by omega)⟩
 . obtain ⟨x1, y1, e1, e2, rfl⟩ := ZhI ds es i e
   obtain ⟨A, u, v, rfl, hA, rfl, hu, hv⟩ := y
   obtain ⟨u', m1, eu, ru, lu⟩ := h.2.1.at e1
   obtain ⟨v', m2, ev, rv, lv⟩ := h.2.2.at e2
   have qu := hu vs (h.1.1.sq g)
   have qv := hv ws (h.1.2.sq g)
   rw [eu] at qu
   rw [ev] at qv
   cases qu
   cases qv
   have gr : Grow H Hs (upd H A (.tup [u, v])) (upd Hs A (.tup [u, v])) := .inr ⟨A, _, hA, rfl, rfl⟩
   obtain ⟨sm, fr, _⟩ := gr.same g
   refine ⟨_, gr, .shd (k := .tup) (vs := [u, v]) (show _ = some _ from Zm) (.cons (m1 := fun _ => 0) (m2 := fun _ => 0) ((ru.mono lu).frame sm fun b _ n => fr b n) (.cons (m1 := fun _ => 0) (m2 := fun _ => 0) ((rv.mono lv).frame sm fun b _ n => fr b n) (.nil _) fun b => by simp) fun b => by simp)⟩
 . have e1 := h.2.1.len
   have e2 := h.2.2.len
   rw [Ze3] at l
   exact ⟨vs, ws, h.1.1.sq g, h.1.2.sq g, by omega⟩
theorem Held.app {K : Fg} {H Hs : Hp} {σ : St} : ∀ {l r : List (Nat × D)} {m n : Bud}, Held K H Hs σ l m -> Held K H Hs σ r n -> Held K H Hs σ (l ++ r) (fun b => m b + n b)
 | [], r, m, n, _, h => Held.more h fun b => by omega
 | (i, d) :: l, r, m, n, ⟨v, m1, m2, e, x, y, q⟩, h => ⟨v, m1, fun b => m2 b + n b, e, x, Held.app y h, fun b => by have := q b; (try dsimp only); omega⟩
where
 Held.more {K : Fg} {H Hs : Hp} {σ : St} : ∀ {l : List (Nat × D)} {m n : Bud}, Held K H Hs σ l m -> (∀ b, m b <= n b) -> Held K H Hs σ l n
  | [], _, _, h, _ => h
  | (i, d) :: l, m, n, ⟨v, m1, m2, e, x, y, q⟩, k => ⟨v, m1, m2, e, x, y, fun b => Nat.le_trans (q b) (k b)⟩
theorem HW.nd_stays {K : Fg} {H Hs Hs' : Hp} {B B' : Bud} {x : V} {k : Kd} {ds : List D} (hk : k = .lst \/ k = .frl) (g : Same Hs Hs') (l : ∀ b, B b <= B' b) (h : HW K H Hs B x (.nd k ds)) : ∃ a vs, x = .ref a /\ Stays K B' a vs H Hs' /\ RepL K H Hs' vs ds (fun _ => 0) := by
 obtain ⟨a, vs, e, r, n⟩ := h
 refine ⟨a, vs, e, ?_, r.frame g fun b hb => absurd hb (by simp)⟩
 rcases hk with rfl | rfl
 . rcases n with n | n
   . exact .inl (.inl (.inl (g _ _ n)))
   . exact .inr ⟨n.1, Nat.le_trans n.2 (l a)⟩
 . rcases n with n | n
   . exact .inl (g.seq n)
   . exact n.1.elim
section
variable {X : Cx} {es : List Expr} {k1 : Nat} {l r : Expr} {ca cb : M Op} {p pos q : Pos}
theorem ZoN (σ : St) (H : Hp) (R : It -> Hp -> Prop) (h : tI X.K .zip (ca.bnd fun p => (cb.bnd fun p => (M.ret ([] : List Op)).bnd fun ps => M.ret (p :: ps)).bnd fun ps => M.ret (p :: ps)) σ H R) : iZip X.K (ZeH (tP X.K ca) (ZeH (tP X.K cb) tNil)) σ H R := by
 obtain ⟨δ, Hs, M, h, items, δ', g, s, e, ei, z⟩ := h
 obtain ⟨ps, δ1, e1, e2⟩ := Zc e
 obtain ⟨p1, δ2, e3, e4⟩ := Zc e1
 obtain ⟨qs, δ3, e5, e6⟩ := Zc e4
 obtain ⟨p2, δ4, e7, e8⟩ := Zc e5
 obtain ⟨y0, δ5, e9, e10⟩ := Zc e8
 have := Zg e9
 cases this
 have := Zg e10
 cases this
 have := Zg e6
 cases this
 obtain ⟨w1, δ6, e11, e12⟩ := Zc e2
 obtain ⟨ws, δ7, e13, e14⟩ := Zc e12
 obtain ⟨w2, δ8, e15, e16⟩ := Zc e13
 obtain ⟨y1, δ9, e17, e18⟩ := Zc e16
 have := Zg e17
 cases this
 have := Zg e18
 cases this
 have := Zg e14
 cases this
 obtain ⟨w1, h1⟩ := w1
 obtain ⟨w2, h2⟩ := w2
 refine ⟨δ, Hs, M, p1, δ2, g, s, e3, fun x H1 Hs1 m1 M1 g1 st1 r1 s1 => ⟨δ2, Hs1, M1, p2, _, g1.re, s1, e7, fun y H2 Hs2 m2 M2 g2 st2 r2 s2 => ?_⟩⟩
 obtain ⟨G2, S2, k2⟩ := Zr g g1 st1 g2 st2
 have r1' := RepP.frame st2.grow k2 r1
 obtain ⟨Hs3, B3, M3, g3, st3, s3, hh3, hw3⟩ := Zb4 (m := m1) (M := M2) (G2.re fun b => by (try dsimp only); omega) s2 r1' e11
 have G2' : Good H2 Hs2 (fun b => m2 b + (m1 b + M2 b)) := G2.re fun b => by (try dsimp only); omega
 have S2' : Stp H Hs M H2 Hs2 (fun b => m2 b + (m1 b + M2 b)) := S2.drop (fun b => by (try dsimp only); omega) G2.le
 obtain ⟨G3, S3, k3⟩ := Zr (m1 := m2) g G2' S2' g3 st3
 have r2' : RepP X.K H2 Hs3 σ y p2 m2 := RepP.frame st3.grow k3 r2
 obtain ⟨Hs4, B4, M4, g4, st4, s4, hh4, hw4⟩ := Zb4 (m := m2) (M := M3) (G3.re fun b => by (try dsimp only); omega) s3 r2' e15
 have G3' : Good H2 Hs3 (fun b => B3 b + (m2 b + M3 b)) := G3.re fun b => by (try dsimp only); omega
 have S3' : Stp H Hs M H2 Hs3 (fun b => B3 b + (m2 b + M3 b)) := S3.drop (fun b => by (try dsimp only); omega) G3.le
 obtain ⟨G4, S4, k4⟩ := Zr (m1 := B3) g G3' S3' g4 st4
 cases w1 with
 | sc u => cases ei
 | nd k ds =>
  cases w2 with
  | sc u => cases ei
  | nd k' ds' =>
   have hkk : ((k = .lst \/ k = .frl) /\ (k' = .lst \/ k' = .frl)) /\ items = zipD ds ds' := by
    simp only [itW, zipI] at ei
    split at ei
    . rename_i hk; cases ei; exact ⟨hk, rfl⟩
    . cases ei
   obtain ⟨⟨hk, hk'⟩, rfl⟩ := hkk
   obtain ⟨a, vs, rfl, sa, ra⟩ := HW.nd_stays (B' := fun b => B3 b + B4 b) hk st4.grow (fun b => by omega) hw3
   obtain ⟨b, us, rfl, sb, rb⟩ := HW.nd_stays (B' := fun b => B3 b + B4 b) hk' (Same.refl _) (fun b => by omega) hw4
   have gg : Good H2 Hs4 (fun b => (fun b => B3 b + B4 b) b + M4 b) := G4.re fun b => by (try dsimp only); omega
   have hh := Held.app (hh3.frame st4.grow fun b _ _ => rfl) hh4
   exact ⟨a, b, rfl, ⟨vs, sa.sq gg.sub⟩, ⟨us, sb.sq gg.sub⟩, z _ _ H2 Hs4 (fun b => B3 b + B4 b) M4 gg (S4.drop (fun b => by (try dsimp only); omega) G4.le) s4 (by simpa using hh) Zk3 ⟨⟨sa, sb⟩, ra, rb⟩⟩
theorem ZoO (hg : Gl X "zip") (hm : X.mg "zip" = none) (hl : PE X l (tP X.K ca)) (hr : PE X r (tP X.K cb)) (hs : starEach [l, r] X.env = [(false, eval l X.env), (false, eval r X.env)] := by rfl) (hs2 : starEach [r] X.env = [(false, eval r X.env)] := by rfl) :
 PI X (.Tuple es k1 q) (.Call (.Name "zip" p) [l, r] [] pos) (tI X.K .zip (ca.bnd fun p => (cb.bnd fun p => (M.ret ([] : List Op)).bnd fun ps => M.ret (p :: ps)).bnd fun ps => M.ret (p :: ps))) :=
 PI.imp (Zn6 hg hm (ZY hl (ZY hr ZaG (by show _ = _; rw [hs2]; rfl)) (by show _ = _; rw [hs, hs2])) hs hs2) fun σ H R h => ZoN σ H R h
end
end T
namespace L2
open PySem PySem.Spec PyProof.Rows
noncomputable def Itw (lo c : Int) (n : Nat) : It := ⟨fun i _ => i < n, fun i H x H' => H' = H /\ x = .int (lo + i * c), fun i _ => n <= i⟩
theorem Zhn {P : Program} {w : World} {K : Fg} {tg : Expr} (it : Addr) (lo c : Int) (n : Nat) : Turn P w K tg (Itw lo c n) [it] it (fun i h => IsRangeIter h it (lo + (i : Nat) * c) ((n : Int) - (i : Nat)) c) where
 mem := by simp
 obj := fun i h st b hb => by
  have e : b = it := by simpa using hb
  subst e
  exact ⟨_, st, fun v z => by
   have z' : Data.fields _ = Data.cell v := z
   cases z'⟩
 keep := fun i h h' st k => k it (by simp) _ st
 item := by
  intro X hP hw hK hc i pins s σ H E I hf st hg
  subst hP hw hK
  obtain ⟨f0, f1, f2, f3, f4, f5⟩ := hf it (by simp)
  have W := Walks.range (prog := X.prog) (w := X.w) (I.ok.hd hc) it lo c n
  refine W.item i s _ _ hg st fun v h' tk hv st' kk => ?_
  obtain ⟨t, rfl⟩ := hv
  have I1 : Inv X pins σ H { s with heap := h', toks := tk } := I.turned (fun b o hb e => kk b o (by simpa using hb) e) f0 f1 f3 f4 f5
  exact ⟨_, rfl, ZeE (s := { s with heap := h', toks := tk }) (n := "range_iterator") st' rfl rfl (by decide) ⟨.int (lo + i * c), H, I1, ⟨t, rfl⟩, ⟨rfl, rfl⟩, st', fun b hb => (hf b hb).1⟩⟩
 done := by
  intro X hP hw hK hc i pins s σ H E I hf st hg
  subst hP hw hK
  obtain ⟨f0, f1, f2, f3, f4, f5⟩ := hf it (by simp)
  exact wpAny_pyNext_range_end (I.ok.hd hc) st (by have : n <= i := hg; omega) fun h' eb => ⟨rfl, I.turned (t' := s.toks) (fun b o hb e => eb b o hb e) f0 f1 f3 f4 f5⟩
 self := fun _ _ _ _ _ st h => wpAny_pyIter_rangeiter st h
section
variable {X : Cx} {tg : Expr}
theorem ZhJ {a b c : Int} (hc : c ≠ 0) (h1 : -(2 ^ 62) <= a) (h2 : a < 2 ^ 62) (h3 : -(2 ^ 62) <= b) (h4 : b < 2 ^ 62) : 0 <= Builtin.Range.rangeSize a b c /\ Builtin.Range.rangeSize a b c < 2 ^ 63 := by
 (unfold Builtin.Range.rangeSize)
 split
 . split
   . have := Int.ediv_nonneg (a := b - a - 1) (b := c) (by omega) (by omega)
     have := Int.ediv_le_self (a := b - a - 1) c (by omega)
     omega
   . omega
 . split
   . have := Int.ediv_nonneg (a := a - b - 1) (b := -c) (by omega) (by omega)
     have := Int.ediv_le_self (a := a - b - 1) (-c) (by omega)
     omega
   . omega
theorem Zjt {a b c : Int} (hc : c ≠ 0) (hc1 : -1000000 <= c) (hc2 : c <= 1000000) (h1 : -(2 ^ 62) <= a) (h2 : a < 2 ^ 62) (h3 : -(2 ^ 62) <= b) (h4 : b < 2 ^ 62) : Builtin.Range.small a b c = true := by
 obtain ⟨q1, q2⟩ := ZhJ hc h1 h2 h3 h4
 unfold Builtin.Range.small
 simp only [Builtin.Range.rangeFitsLong, Bool.and_eq_true, Bool.or_eq_true, decide_eq_true_eq, beq_iff_eq]
 refine ⟨⟨⟨⟨by omega, by omega⟩, by omega⟩, by omega⟩, .inr ?_⟩
 split <;> (simp only [Bool.and_eq_true, decide_eq_true_eq]; omega)
theorem Zju {pins : Pn} {σ : St} {H : Hp} {s : Shared} {R : It -> Hp -> Prop} {E : VS} {lo hi c : Int} {t u v : Tok} {tk : Nat} (I : Inv X pins σ H s) (hc : c ≠ 0) (hc1 : -1000000 <= c) (hc2 : c <= 1000000) (h1 : -(2 ^ 62) <= lo) (h2 : lo < 2 ^ 62) (h3 : -(2 ^ 62) <= hi) (h4 : hi < 2 ^ 62)
 (q : R (Itw lo c (Builtin.Range.rangeSize lo hi c).toNat) H) : wpAny (model X.prog X.w) X.A (pyIter (.ref s.heap.objs.size)) (PIE X pins σ tg R) E { s with heap := s.heap.push { cls := .type "range", data := .fields #[.int lo t, .int hi u, .int c v] }, toks := tk } := by
 refine wpAny_pyIter_range (IsRange.new ..) (Zjt hc hc1 hc2 h1 h2 h3 h4) ?_
 have I1 : Inv X pins σ H { s with heap := s.heap.push { cls := .type "range", data := .fields #[.int lo t, .int hi u, .int c v] }, toks := tk } := I.kept fun b o e => Heap.get?_push_of_some _ e
 refine ⟨(s.heap.push { cls := .type "range", data := .fields #[.int lo t, .int hi u, .int c v] }).objs.size, [(s.heap.push { cls := .type "range", data := .fields #[.int lo t, .int hi u, .int c v] }).objs.size], _, _, H, rfl,
  I1.kept (t' := tk) fun b o e => Heap.get?_push_of_some _ e, Zhn _ lo c (Builtin.Range.rangeSize lo hi c).toNat, ?_, fun b hb => ?_, q⟩
 . have e1 : lo + ((0 : Nat) : Int) * c = lo := by simp
   have e2 : (((Builtin.Range.rangeSize lo hi c).toNat : Nat) : Int) - ((0 : Nat) : Int) = Builtin.Range.rangeSize lo hi c := by
    have := (ZhJ hc h1 h2 h3 h4).1
    omega
   show IsRangeIter _ _ (lo + ((0 : Nat) : Int) * c) ((((Builtin.Range.rangeSize lo hi c).toNat : Nat) : Int) - ((0 : Nat) : Int)) c
   rw [e1, e2]
   exact Heap.get?_push_size _ rfl
 . have e : b = (s.heap.push { cls := .type "range", data := .fields #[.int lo t, .int hi u, .int c v] }).objs.size := by simpa using hb
   subst e
   exact I1.fpOk (Nat.le_refl _) (I1.hok.fresh (Nat.le_refl _))
noncomputable def Zrz (ta : TA) : TI := fun σ H R => ta σ H fun vs H1 => ∃ i j c : Int, vs = [.int i, .int j, .int c] /\ (-(2 ^ 62) <= i /\ i < 2 ^ 62 /\ -(2 ^ 62) <= j /\ j < 2 ^ 62) /\ (c ≠ 0 /\ -1000000 <= c /\ c <= 1000000) /\ R (Itw i c (Builtin.Range.rangeSize i j c).toNat) H1
theorem Zjv {a b c : Expr} {ta : TA} {p pos : Pos} (hg : Gl X "range") (hm : X.mg "range" = none) (ha : PA X [a, b, c] ta) (hs : starEach [a, b, c] X.env = [(false, eval a X.env), (false, eval b X.env), (false, eval c X.env)] := by rfl) (hs2 : starEach [b, c] X.env = [(false, eval b X.env), (false, eval c X.env)] := by rfl) :
 PI X tg (.Call (.Name "range" p) [a, b, c] [] pos) (Zrz ta) := by
 intro pins s σ H R I h
 refine Call_ (ZaF I hg hm boot_range (PyProof.Rows.callWith_type1 (thn (ha pos pins s σ H _ I h) fun us s1 z0 => ?_) (by show _ = _; rw [hs, hs2]) (by show _ = _; rw [hs2]; rfl)))
 obtain ⟨vs, H1, I1, r1, q1⟩ := z0
 obtain ⟨i, j, k, e, ⟨q1, q2, q3, q4⟩, ⟨c1, c2, c3⟩, q⟩ := q1
 subst e
 cases r1 with
 | cons r rr =>
  cases rr with
  | cons r' rr =>
   cases rr with
   | cons r'' rr =>
    cases rr
    obtain ⟨t, rfl⟩ := r
    obtain ⟨t', rfl⟩ := r'
    obtain ⟨t'', rfl⟩ := r''
    refine call_range_3 c1 (Zju I1 c1 c2 c3 q1 q2 q3 q4 q) (Or.inl (PyProof.noPylong_of_log2 ?_))
    by_cases h0 : k.natAbs = 0
    . rw [h0]; decide +kernel
    . have : k.natAbs.log2 < 64 := (Nat.log2_lt h0).mpr (by omega)
      omega
end
end L2
namespace T
open PySem PySem.Spec L2
theorem Zho (lo c : Int) (n : Nat) (B : Bud) : WalkV (Itw lo c n) (((List.range n).map fun (k : Nat) => lo + k * c).map V.int) B (fun _ _ => True) where
 stay := fun _ _ _ => trivial
 go := fun {H Hs i v} _ _ h => by
  have := (List.getElem?_eq_some_iff.mp h).1
  simp only [List.length_map, List.length_range] at this
  exact this
 yld := fun {H Hs H' i x v} _ _ h y => by
  obtain ⟨e, y⟩ := y
  have := (List.getElem?_eq_some_iff.mp h).1
  simp only [List.length_map, List.length_range] at this
  rw [List.getElem?_map, List.getElem?_map, List.getElem?_range this] at h
  simp only [Option.map_some, Option.some.injEq] at h
  exact ⟨e, y.trans h⟩
 stop := fun {H Hs i} _ _ h => by
  simp only [List.length_map, List.length_range] at h
  exact h
theorem hw_3 {ca cb cc : M Op} {lk : Nat -> Bool} (h1 : ZaN ca lk) (h2 : ZaN cb lk) (h3 : ZaN cc lk) : HWs (ca.bnd fun p => (cb.bnd fun p => (cc.bnd fun p => (M.ret ([] : List Op)).bnd fun ps => M.ret (p :: ps)).bnd fun ps => M.ret (p :: ps)).bnd fun ps => M.ret (p :: ps)) lk := fun δ w δ' e q hq => by
 obtain ⟨ps, δ1, e1, e2⟩ := Zc e
 obtain ⟨p1, δ2, e3, e4⟩ := Zc e1
 obtain ⟨qs, δ3, e5, e6⟩ := Zc e4
 obtain ⟨p2, δ4, e7, e8⟩ := Zc e5
 obtain ⟨rs, δ5, f5, f6⟩ := Zc e8
 obtain ⟨p3, δ6, f7, f8⟩ := Zc f5
 obtain ⟨z, δ7, e9, e10⟩ := Zc f8
 have := Zg e9
 cases this
 have := Zg e10
 cases this
 have := Zg f6
 cases this
 have := Zg e6
 cases this
 have := Zc3 e2 q hq
 rcases List.mem_cons.mp this with z | z
 . exact h1 _ _ _ e3 _ z.symm
 . rcases List.mem_cons.mp z with z | z
   . exact h2 _ _ _ e7 _ z.symm
   . exact h3 _ _ _ f7 _ (List.mem_singleton.mp z).symm
theorem Zmp {K : Fg} {H Hs : Hp} {σ : St} {δ δ' : List D} {m M : Bud} {p : Op} {x v : V} {h : Option (Nat × D)} (s : RepS K H Hs σ δ M) (r : RepP K H Hs σ x p m) (e : Zao p δ = .ok ((.sc v, h), δ')) : h = none /\ δ' = δ /\ x = v := by
 cases p with
 | tmp d =>
  cases d with
  | sc u => cases e; cases r; exact ⟨rfl, rfl, rfl⟩
  | hole => cases e
  | node k o ds => cases e
 | late i =>
  have r : σ[i]? = some (some x) := r
  unfold Zao at e
  dsimp only at e
  split at e
  . rename_i u hi
    cases e
    obtain ⟨v', m1, m2, e1, q, l, f⟩ := s.slot hi (by simp)
    rw [r] at e1
    cases e1
    cases q
    exact ⟨rfl, rfl, rfl⟩
  . cases e
  . cases e
  . cases e
theorem ZgN {K : Fg} {H Hs : Hp} {σ : St} : ∀ {ps : List Op} {xs : List V} {vs : List V} {δ δ' : List D} {m M : Bud} {h : List (Nat × D)}, RepS K H Hs σ δ M -> ZaY K H Hs σ xs ps m -> Z1 ps δ = .ok ((vs.map W.sc, h), δ') -> h = [] /\ δ' = δ /\ xs = vs
 | [], xs, vs, δ, δ', m, M, h, s, r, e => by
  have := Zg e
  cases xs with
  | nil => cases vs with
   | nil => cases this; exact ⟨rfl, rfl, rfl⟩
   | cons => cases this
  | cons => exact r.elim
 | p :: ps, xs, vs, δ, δ', m, M, h, s, r, e => by
  obtain ⟨w, δ1, e1, e⟩ := Zc e
  obtain ⟨ws, δ2, e2, e⟩ := Zc e
  have e3 := Zg e
  cases xs with
  | nil => exact r.elim
  | cons x xs =>
   obtain ⟨m1, m2, r1, r2, l⟩ := r
   cases vs with
   | nil => cases e3
   | cons v vs =>
    obtain ⟨w1, w2⟩ := w
    obtain ⟨ws1, ws2⟩ := ws
    simp only [Prod.mk.injEq, List.map_cons, List.cons.injEq] at e3
    obtain ⟨⟨⟨ea, eb⟩, ec⟩, ed⟩ := e3
    subst ea
    obtain ⟨ha, hb, hx⟩ := Zmp s r1 e1
    subst ha hb hx
    subst eb
    obtain ⟨hc, hd, hy⟩ := ZgN s r2 e2
    subst hc hy ec
    exact ⟨rfl, ed.trans hd, rfl⟩
section
variable {X : Cx} {tg a b c e o : Expr} {es : List Expr} {p pos pos' apos cpos : Pos} {cs : M (List Op)} {i j : Nat}
theorem Zmq (hg : Gl X "range") (hm : X.mg "range" = none) (ha : PA X [a, b, c] (tPs X.K cs)) (hs : starEach [a, b, c] X.env = [(false, eval a X.env), (false, eval b X.env), (false, eval c X.env)] := by rfl) (hs2 : starEach [b, c] X.env = [(false, eval b X.env), (false, eval c X.env)] := by rfl) :
 PI X tg (.Call (.Name "range" p) [a, b, c] [] pos) (tI X.K .rng3 cs) := PI.imp (Zjv hg hm ha hs hs2) fun σ H R h => by
 obtain ⟨δ, Hs, M, h, items, δ', g, s, e, ei, q⟩ := h
 obtain ⟨ps, δ1, e1, e2⟩ := Zc e
 refine ⟨δ, Hs, M, ps, δ1, g, s, e1, fun vs H1 Hs1 m1 M1 g1 st1 r1 s1 => ?_⟩
 obtain ⟨ws, hh⟩ := h
 replace ei : Zir ws = _ := ei
 unfold Zir at ei
 split at ei
 . rename_i lo hi k
   split at ei
   . rename_i hok
     cases ei
     simp only [okR, Bool.and_eq_true, decide_eq_true_eq] at hok
     obtain ⟨rfl, rfl, rfl⟩ := ZgN (vs := [.int lo, .int hi, .int k]) s1 r1 e2
     refine ⟨lo, hi, k, rfl, ⟨hok.1.1.1, hok.1.1.2, hok.1.2.1, hok.1.2.2⟩, ⟨hok.2.1.1, hok.2.1.2, hok.2.2⟩, ?_⟩
     exact q _ _ H1 Hs1 (fun _ => 0) M1 (g1.re fun b => by omega) (st1.drop (fun b => by omega) g1.le) s1 trivial (Zho lo k _ _).w ⟨trivial, ZcQ _⟩
   . cases ei
 . cases ei
end
section
variable {X : Cx} {o k k2 e : Expr} {pos pos' pos1 apos cpos : Pos} {i : Nat} {n m : Int} {v : V} {lk : Nat -> Bool}
theorem Zlj (h : PE X e (tC (.int n))) : PE X (.UnaryOp .USub e pos) (tC (.int (-n))) := PE.imp (ZkT ZiF h) fun σ H Q q => ⟨n, rfl, q⟩
end
open PyProof.Rows
section
variable {X : Cx} {e k v : Expr} {pos : Pos}
structure ModT (K : Fg) (mg : SO) (x : Str) (vs : List V) : Prop where
 ex : ∃ a, mg x = some (.ref a) /\ ∃ (o : Obj) (its : Array Value) (n : Nat), K.lookup a = some o /\ o.cls = .type "tuple" /\ o.data = .seq its n /\ its.size <= sizeLine /\ Vals vs its.toList
theorem Zmr {x : Str} {vs : List V} {p : Pos} (hg : Gl X x) (h : ModT X.K X.mg x vs) (hd : (x == ("__debug__" : Str)) = false) : PE X (.Name x p) (tM X.K (M.ret (.node .ftp false (vs.map D.sc)))) := by
 obtain ⟨a, h, z⟩ := h.ex
 exact Zqb (Zhx (v := .ref a) hg h rfl hd) fun H Hs m => .shd (vs := vs) (.inr z) (Zfr vs)
theorem ZbC : ∀ {is : List Int} {its : List Value}, (its.map fun u => match u with | .int i _ => some i | _ => none) = is.map some -> Vals (is.map V.int) its
 | [], [], _ => .nil
 | [], _ :: _, h => by simp at h
 | _ :: _, [], h => by simp at h
 | i :: is, u :: its, h => by
  (simp only [List.map_cons, List.cons.injEq] at h)
  refine .cons ?_ (ZbC h.2)
  cases u <;> simp at h
  rename_i j t
  exact ⟨t, by rw [h.1]⟩
theorem Zms {K : Fg} {h : Heap} {mg : SO} {x : Str} {a : Addr} {is : List Int} {dct : Option Addr} {its : Array Value} {n : Nat} {sl : Array (Option Value)} (X : K.In h) (G : h.Ns mainGlobals mg) (hx : PySem.W.nsIn K mainGlobals x = some (some (.ref a))) (hl : K.lookup a = some ⟨.type "tuple", dct, .seq its n, sl⟩) (hs : its.size <= sizeLine) (hi : (its.toList.map fun u => match u with | .int i _ => some i | _ => none) = is.map some) : ModT K mg x (is.map V.int) :=
 ⟨a, PySem.W.mg_of X G hx, _, its, n, hl, rfl, rfl, hs, ZbC hi⟩
end
theorem us0 {P : List Value -> Prop} (h : P []) (us : List Value) (e : us.length = 0) : P us := by
 cases us with
 | nil => exact h
 | cons _ _ => cases e
theorem usS {P : List Value -> Prop} {n : Nat} (h : ∀ a, ∀ us : List Value, us.length = n -> P (a :: us)) (us : List Value) (e : us.length = n + 1) : P us := by
 cases us with
 | nil => cases e
 | cons a us => exact h a us (Nat.succ.inj e)
theorem us1 {P : List Value -> Prop} (h : ∀ a, P [a]) : ∀ us : List Value, us.length = 1 -> P us := usS fun a => us0 (h a)
theorem us2 {P : List Value -> Prop} (h : ∀ a b, P [a, b]) : ∀ us : List Value, us.length = 2 -> P us := usS fun a => us1 (h a)
theorem us3 {P : List Value -> Prop} (h : ∀ a b c, P [a, b, c]) : ∀ us : List Value, us.length = 3 -> P us := usS fun a => us2 (h a)
theorem us4 {P : List Value -> Prop} (h : ∀ a b c d, P [a, b, c, d]) : ∀ us : List Value, us.length = 4 -> P us := usS fun a => us3 (h a)
theorem us5 {P : List Value -> Prop} (h : ∀ a b c d e, P [a, b, c, d, e]) : ∀ us : List Value, us.length = 5 -> P us := usS fun a => us4 (h a)
theorem us6 {P : List Value -> Prop} (h : ∀ a b c d e f, P [a, b, c, d, e, f]) : ∀ us : List Value, us.length = 6 -> P us := usS fun a => us5 (h a)
theorem Zk4 {X : Cx} {body : List Stmt} {lk : Nat -> Bool} {C : T.Ctx} : PSs X body (tS X.K lk (exs C [.raise (.k .non)])) := fun pins s σ H E I z0 => by obtain ⟨δ, Hs, M, f, δ', g, _, e, q⟩ := z0; cases e
end T
namespace T
open PySem PySem.Spec L2
theorem Zfw {f : Str} : ∀ {fs : List Str} {us : List V} {j : Nat} {a : V}, idxF f fs = some j -> us[j]? = some a -> (fs.zip us).lookup f = some a
 | [], _, _, _, h, _ => by cases h
 | g :: fs, [], _, _, h, e => by simp at e
 | g :: fs, u :: us, j, a, h, e => by
  unfold idxF at h
  rw [List.zip_cons_cons]
  by_cases q : g = f
  . rw [if_pos q] at h
    cases h
    (simp only [List.getElem?_cons_zero, Option.some.injEq] at e)
    subst e q
    exact List.lookup_cons_self
  . rw [if_neg q] at h
    (simp only [Option.map_eq_some_iff] at h)
    obtain ⟨j', h, rfl⟩ := h
    rw [List.getElem?_cons_succ] at e
    have hb : (f == g) = false := by simpa using fun z : f = g => q z.symm
    rw [List.lookup_cons, hb]
    exact Zfw h e
section
variable {X : Cx} {a e o x y k : Expr} {ca : M Op} {pos pos' pos1 p p2 pos2 apos cpos : Pos} {i : Nat} {n : Int} {lk : Nat -> Bool} {v : V}
theorem Zjw {σ : St} {H : Hp} {Q : VK} (h : tM X.K ((ca.bnd view).bnd fun x => lift (revW x)) σ H Q) : tRev X.K (tP X.K ca) σ H Q :=
 op1 (r := fun x H1 Q => ∃ l xs, x = .ref l /\ SqL X.K H1 l xs /\ ∀ p, H1 p = none -> Q (.ref p) (upd H1 p (.lst xs.reverse))) h fun x H Hs w m d g h1 h2 v e o => by
  unfold revW at e
  split at e
  . cases v with
    | nd n r => cases e; exact ⟨_, _, rfl, .inl (.inl n), fun p hp => o.new h1 h2 hp Zm r.rev⟩
  . cases v with
    | nd n r => cases e; exact ⟨_, _, rfl, n, fun p hp => o.new h1 h2 hp Zm r.rev⟩
  . cases e
theorem ZoP (hc : X.calm = true) (hg : Gl X "list") (hm : X.mg "list" = none) (hg2 : Gl X "reversed") (hm2 : X.mg "reversed" = none) (ha : PE X a (tP X.K ca))
 (hs : starEach [.Call (.Name "reversed" p2) [a] [] pos2] X.env = [(false, eval (.Call (.Name "reversed" p2) [a] [] pos2) X.env)] := by rfl) (hs2 : starEach [a] X.env = [(false, eval a X.env)] := by rfl) :
 PE X (.Call (.Name "list" p) [.Call (.Name "reversed" p2) [a] [] pos2] [] pos) (tM X.K ((ca.bnd view).bnd fun x => lift (revW x))) := PE.imp (Zn7 hc hg hm hg2 hm2 ha hs hs2) fun σ H Q h => Zjw h
theorem ZhK (ha : PE X a (tP X.K ca)) (hk : PE X k (tC (.int (-1)))) : PE X (.Subscript a (.Slice none none (some k) p2) pos) (tM X.K ((ca.bnd view).bnd fun x => lift (revW x))) := PE.imp (ZlI ha hk) fun σ H Q h => Zjw h
theorem Zmt {f : Str} {ok : Addr -> Str -> Bool} (hf : ∀ C f, ok C f = true -> Cls X.K C /\ ZQ X.K C f) (ho : PE X o (tVar i)) (hb : attributeBase o f X.env (eval o X.env) = eval o X.env := by rfl) :
 PE X (.Attribute o f pos) (tM X.K (fldS ok i f)) := PE.imp (Zgx ho hb) fun σ H Q z0 => by
 obtain ⟨δ, Hs, M, d, δ', g, s, e, q⟩ := z0
 unfold fldS at e
 split at e
 . rename_i C fs ds hi
   split at e
   . rename_i hok
     split at e
     . rename_i j hj
       split at e
       . rename_i d0 hd
         cases e
         obtain ⟨v, m1, m2, e3, r, l, f3⟩ := s.slot hi (by simp)
         cases r with
         | @own p _ us _ _ m' n r l' =>
          obtain ⟨hl, dx, hH⟩ := n
          obtain ⟨a, n1, n2, ea, ra, ln, fr⟩ := r.sep.focus hd
          have tot : ∀ b, n1 b + (one p b + n2 b + m2 b) <= M b := fun b => by have := l b; have := l' b; have := ln b; omega
          have g2 : Good H Hs (fun b => n1 b + (one p b + n2 b + m2 b)) := g.re tot
          have hsame := Zbd g2 (m := n1) fun b => by omega
          have r2 := Rep.share hsame (Zc7 (H := H) (Hs := Hs) (m := n1)) ra
          have st := Stp.share g2
          refine ⟨_, e3, p, C, dx, fs.zip us, a, rfl, hH, (hf C f hok).1, (hf C f hok).2, Zfw hj ea, ?_⟩
          refine q a H (shH H Hs n1) (fun _ => 0) (fun b => one p b + n2 b + m2 b) (Zav g2.share) ⟨fun b o h _ => h, fun b h => ?_, st.grow, fun b h h' => ?_, fun b h => h⟩ r2 ?_
          . have := tot b
            have := g.le b
            left; (try dsimp only at h); omega
          . rcases st.shr b h h' with z | z
            . have z : n1 b + (one p b + n2 b + m2 b) = 1 := z
              have := tot b
              have := g.le b
              left; omega
            . exact .inr z
          . have z1 := fr (Rep X.K H (shH H Hs n1)) a (shr d0) (fun _ => 0) (fun a d m'' l' q => q.frame hsame fun _ _ _ => rfl) r2
            rw [Z9 ea] at z1
            have z := f3 H (shH H Hs n1) (some (.ref p)) (.node (.ins C fs) true (ds.set j (shr d0))) (fun b => one p b + n2 b) hsame (fun _ _ _ => rfl) (.inr ⟨_, rfl, .own (m' := n2) ⟨hl, dx, hH⟩ (z1.repL.mono fun b => by simp) fun b => Nat.le_refl _⟩)
            rw [Z9 e3] at z
            exact z
       . cases e
     . cases e
   . cases e
 . cases e
theorem Zr0 : PE X (.Dict [] [] pos) (tM X.K (M.ret (.node (.dic []) true []))) := PE.imp Zkc fun σ H Q h => by
 obtain ⟨δ, Hs, M, d, δ', g, s, e, q⟩ := h
 have := Zg e
 cases this
 have oo : Outs X.K H Hs (fun _ => 0) _ Q := Zb3 (B := fun _ => 0) (M := M) (stp0 H Hs M) (Zav g) s q
 exact fun p hp => oo.new (fun b => by simp) (fun b hb => by simp at hb) hp (vs := []) ⟨rfl, Zm⟩ (.nil _)
end
theorem Zr1 {K : Fg} {H Hs : Hp} {σ : St} {B M : Bud} {δ : List D} {i j : Nat} {k0 k : Kd} {ds es : List D} (g : Good H Hs (fun b => B b + M b)) (s : RepS K H Hs σ δ M) (hi : δ[i]? = some (.node k0 true ds)) (hj : ds[j]? = some (.node k true es)) :
 ∃ (p0 p : Addr) (us vs : List V) (m' m2 : Bud), σ[i]? = some (some (.ref p0)) /\ Zas H p0 us k0 /\ us.length = ds.length /\ us[j]? = some (.ref p) /\ Zas H p vs k /\ RepL K H Hs vs es m' /\ (∀ b, one p b + m' b + m2 b <= M b) /\
  ∀ (ob : HO) (k' : Kd) (vs' : List V) (es' : List D) (n' : Bud), (∀ b, n' b <= m' b + B b) -> Zas (upd H p ob) p vs' k' -> RepL K H Hs vs' es' n' ->
   Good (upd H p ob) Hs (fun b => one p b + n' b + m2 b) /\ Stp H Hs (fun b => B b + M b) (upd H p ob) Hs (fun b => one p b + n' b + m2 b) /\
   RepS K (upd H p ob) Hs σ (δ.set i (.node k0 true (ds.set j (.node k' true es')))) (fun b => one p b + n' b + m2 b) := by
 obtain ⟨v, m1, m2, e1, q, l, f⟩ := s.slot hi (by simp)
 cases q with
 | @own p0 _ us _ _ m0 n0 r0 l0 =>
  obtain ⟨a, n1, n2, ea, ra, ln, fr⟩ := r0.sep.focus hj
  cases ra with
  | @own p _ vs _ _ m' n r l1 =>
   have le : ∀ b, one p b + m' b + (one p0 b + n2 b + m2 b) <= M b := fun b => by have := l b; have := l0 b; have := ln b; have := l1 b; omega
   refine ⟨p0, p, us, vs, m', fun b => one p0 b + n2 b + m2 b, e1, n0, r0.len, ea, n, r, le, fun ob k' vs' es' n' h1 no hr => ?_⟩
   have one_p : one p p = 1 := by simp [one]
   have one_0 : one p0 p0 = 1 := by simp [one]
   have tot : ∀ b, one p b + n' b + (one p0 b + n2 b + m2 b) <= B b + M b := fun b => by have := le b; have := h1 b; omega
   have zp : m' p = 0 /\ B p = 0 /\ m2 p = 0 /\ n2 p = 0 /\ one p0 p = 0 := by
    have := le p
    have := g.le p
    try dsimp only at this
    omega
   have zp2 : n' p = 0 := by have := h1 p; omega
   have hne : p0 ≠ p := fun q => by subst q; omega
   have Hp : H p ≠ none := n.at
   have eqH : ∀ b, b ≠ p -> upd H p ob b = H b := fun b hb => Zq hb
   have hs2 : Hs p = none := g.ne p (by have := le p; have := g.le p; (try dsimp only at this ⊢); omega)
   refine ⟨⟨fun b o e => ?_, fun b => ?_, fun b h => ?_, fun b h => ?_⟩, ⟨fun b o e z => ?_, fun b h => ?_, Same.refl _, fun b h h' => absurd h h', fun b h => ?_⟩, ?_⟩
   . have hb : b ≠ p := fun q => by subst q; rw [hs2] at e; cases e
     rw [eqH b hb]
     exact g.sub b o e
   . have := g.le b
     have := tot b
     (try dsimp only at *)
     omega
   . have := g.le b
     have := tot b
     exact g.ne b (by (try dsimp only at *); omega)
   . by_cases hb : b = p
     . subst hb; rw [Zm]; simp
     . rw [eqH b hb]
       have := g.le b
       have := tot b
       exact g.has b (by (try dsimp only at *); omega)
   . have hb : b ≠ p := fun q => by
      subst q
      have := le b
      have := g.le b
      (try dsimp only at *)
      omega
     rw [eqH b hb]
     exact e
   . have := g.le b
     have := tot b
     left
     (try dsimp only at *)
     omega
   . by_cases hb : b = p
     . subst hb; rw [Zm]; simp
     . rw [eqH b hb]; exact h
   . have r' : RepL K (upd H p ob) Hs vs' es' n' := hr.frame (Same.refl _) fun b hb hn' => eqH b fun q => by subst q; omega
     have z1 := fr (Rep K (upd H p ob) Hs) (.ref p) (.node k' true es') (fun b => one p b + n' b) (fun a d m'' l' q => q.frame (Same.refl _) fun b hb hn' => eqH b fun q => by subst q; have := l' b; omega) (.own no r' fun b => Nat.le_refl _)
     rw [Z9 ea] at z1
     have z := f (upd H p ob) Hs (some (.ref p0)) (.node k0 true (ds.set j (.node k' true es'))) (fun b => one p0 b + (one p b + n' b + n2 b)) (Same.refl _) (fun b hb hn' => eqH b fun q => by subst q; omega) (.inr ⟨_, rfl, .own (n0.eq (eqH p0 hne)) z1.repL fun b => Nat.le_refl _⟩)
     rw [Z9 e1] at z
     exact z.mono fun b => by (try dsimp only); omega
theorem ZhL {k : List Key} : ∀ {ks : List (List Key)} {vs : List V}, ks.length = vs.length -> ((ks.zip vs).any fun kv => decide (kv.1 = k)) = ks.any fun j => decide (j = k)
 | [], _, _ => rfl
 | _ :: _, [], h => by simp at h
 | j :: ks, v :: vs, h => by rw [List.zip_cons_cons, List.any_cons, List.any_cons, ZhL (by simpa using h)]
theorem ZhM {k : List Key} {v : V} : ∀ {ks : List (List Key)} {vs : List V}, (ks.zip vs).map (fun kv => if kv.1 = k then (kv.1, v) else kv) = ks.zip (List.zipWith (fun j x => if j = k then v else x) ks vs)
 | [], _ => rfl
 | _ :: _, [] => rfl
 | j :: ks, u :: vs => by
  rw [List.zip_cons_cons, List.map_cons, ZhM, List.zipWith_cons_cons, List.zip_cons_cons]
  split <;> rfl
theorem Zmu {k : List Key} {v : V} {ks : List (List Key)} {vs : List V} (h : ks.length = vs.length) : putK (ks.zip vs) k v = (kPut k ks).zip (vPut k v ks vs) /\ (kPut k ks).length = (vPut k v ks vs).length := by
 unfold putK kPut vPut
 rw [ZhL h]
 split
 . exact ⟨ZhM, by simp [h]⟩
 . exact ⟨by rw [List.zip_append h]; rfl, by simp [h]⟩
theorem RepL.zw {K : Fg} {H Hs : Hp} {k : List Key} {v : V} : ∀ {ks : List (List Key)} {vs : List V} {ds : List D} {m : Bud}, RepL K H Hs vs ds m -> RepL K H Hs (List.zipWith (fun j x => if j = k then v else x) ks vs) (List.zipWith (fun j x => if j = k then D.sc v else x) ks ds) m
 | [], _, _, _, _ => .nil _
 | _ :: _, _, _, _, .nil _ => .nil _
 | j :: ks, _, _, _, .cons (m1 := m1) (m2 := m2) a b l => by
  rw [List.zipWith_cons_cons, List.zipWith_cons_cons]
  split
  . exact .cons (.sc v m1) (RepL.zw b) l
  . exact .cons a (RepL.zw b) l
theorem RepL.vput {K : Fg} {H Hs : Hp} {k : List Key} {v : V} {ks : List (List Key)} {vs : List V} {ds : List D} {m : Bud} (h : RepL K H Hs vs ds m) : RepL K H Hs (vPut k v ks vs) (vPut k (.sc v) ks ds) m := by
 unfold vPut
 split
 . exact h.zw
 . exact (h.app (.cons (m := fun _ => 0) (.sc v (fun _ => 0)) (.nil (fun _ => 0)) fun b => by simp)).mono fun b => by simp
theorem ZgO {H Hs : Hp} {M : Bud} {l : Addr} {ob : HO} (g : Good H Hs M) (hl : H l = none) : Good (upd H l ob) Hs M /\ Stp H Hs M (upd H l ob) Hs M /\ ∀ b, H b ≠ none -> upd H l ob b = H b := by
 have ne : ∀ b, H b ≠ none -> upd H l ob b = H b := fun b h => Zq fun q => h (q ▸ hl)
 have sm := Zdv (o := ob) hl
 exact ⟨⟨fun b o e => sm b o (g.sub b o e), g.le, g.ne, fun b h => by rw [ne b (g.has b h)]; exact g.has b h⟩, ⟨fun b o e _ => sm b o e, fun b h => .inl h, Same.refl _, fun b h h' => absurd h h', fun b h => by rw [ne b h]; exact h⟩, ne⟩
theorem Zk5 {H : Hp} {a b : Addr} {o u : HO} (h : a ≠ b) : upd (upd H a o) b u = upd (upd H b u) a o := by
 funext c
 unfold upd
 by_cases q : c = b
 . subst q; rw [if_pos rfl, if_neg (Ne.symm h), if_pos rfl]
 . rw [if_neg q]
   by_cases z : c = a
   . rw [if_pos z, if_pos z]
   . rw [if_neg z, if_neg z, if_neg q]
section
variable {X : Cx} {o x y : Expr} {pos pos' pos1 p p2 pos2 : Pos} {i jx jy : Nat} {lk : Nat -> Bool}
theorem Zmv {f : Str} {ok : Addr -> Str -> Bool} (hu : X.A.units + 64 < cLine) (hf : ∀ C f, ok C f = true -> Cls X.K C /\ ZQ X.K C f) (hg : Gl X "tuple") (hm : X.mg "tuple" = none) (ho : PE X o (tVar i)) (hx : PE X x (tVar jx)) (hy : PE X y (tVar jy))
 (hb : attributeBase o f X.env (eval o X.env) = eval o X.env := by rfl) (he : starEach [x] X.env = (false, eval x X.env) :: starEach [] X.env := by rfl) (hpl : (backTo pos2 (starEach [] X.env)).any (·.1) = false := by rfl)
 (hs : swapsWith y (some (.Subscript (.Attribute o f pos1) (.Call (.Name "tuple" p) [x] [] pos2) pos')) pos.line X.env = pure false := by rfl) :
 PS X (.Assign [.Subscript (.Attribute o f pos1) (.Call (.Name "tuple" p) [x] [] pos2) pos'] y pos) (tS X.K lk (ZdN ok i f jx jy)) :=
 PS.imp (Zl7 (by omega) (Zgx ho hb) (Zdq Zdb hg hm (by decide +kernel) (ZY hx ZaG he) (by decide) (by decide) he hpl) hy hs) fun E σ H h => by
 obtain ⟨δ, Hs, M, fl, δ', g, s, e, q⟩ := h
 unfold ZdN at e
 split at e
 . rename_i C fs ds oo es v hi hx' hy'
   split at e
   . rename_i hok
     split at e
     . rename_i j is hj hes
       split at e
       . rename_i ks vs hd
         split at e
         . rename_i hz
           cases e
           obtain ⟨vy, _, _, ey, ry, _, _⟩ := s.slot hy' (by simp)
           cases ry
           obtain ⟨vx, mx, _, ex, rx, lx, _⟩ := s.slot hx' (by simp)
           have hq : ∃ ax, vx = .ref ax /\ SqL X.K H ax (is.map V.int) := by
            cases rx with
            | own n r _ =>
             have := Zar r hes
             subst this
             exact ⟨_, rfl, .inl (.inl n)⟩
            | shd n r =>
             have := Zar r hes
             subst this
             exact ⟨_, rfl, .inl (.inl (g.sub _ _ n))⟩
           obtain ⟨ax, rfl, sq⟩ := hq
           obtain ⟨p0, p, us, ws, m', m2, ei, n0, hl, eu, n1, rl, le, fin⟩ := Zr1 (B := fun _ => 0) (g.re fun b => by simp) s hi hd
           obtain ⟨hl0, dx, hH⟩ := n0
           obtain ⟨hl1, hD⟩ := n1
           refine ⟨v, ey, .ref p0, ei, p0, C, dx, fs.zip us, .ref p, rfl, hH, (hf C f hok).1, (hf C f hok).2, Zfw hj eu, .ref ax, ex, ax, is.map V.int, rfl, .inl ⟨sq, fun l hll => ?_⟩⟩
           have hlp : l ≠ p := fun z => by subst z; rw [hll] at hD; cases hD
           obtain ⟨z1, z2⟩ := Zmu (k := is.map Sum.inl) (v := v) hl1
           have hlen := rl.len
           refine ⟨p, _, rfl, DPut.t (k := is.map Sum.inl) (kvs := ks.zip ws) (by rw [Zq (Ne.symm hlp)]; exact hD) (by rw [Zm, List.map_map]; rfl) (by rw [List.length_zip, hl1, Nat.min_self, hlen]; exact hz), ?_⟩
           rw [Zk5 hlp]
           obtain ⟨G, S, R⟩ := fin (.dT (putK (ks.zip ws) (is.map Sum.inl) v)) (.dic (kPut (is.map Sum.inl) ks)) _ _ m' (fun b => by (try dsimp only); omega) ⟨z2, by rw [Zm, z1]⟩ rl.vput
           obtain ⟨G2, S2, k2⟩ := ZgO (ob := .tup (is.map V.int)) G (l := l) (by rw [Zq hlp]; exact hll)
           have S' : Stp H Hs M (upd H p (.dT (putK (ks.zip ws) (is.map Sum.inl) v))) Hs (fun b => one p b + m' b + m2 b) := ⟨fun b o h z => S.keep b o h (by simpa using z), fun b h => by simpa using S.own b h, S.grow, fun b h h' => by simpa using S.shr b h h', S.stay⟩
           have z := Zr (m1 := fun _ => 0) g (G.re fun b => by simp) (S'.drop (fun b => by simp) G.le) G2 S2
           exact q σ _ Hs _ (Keeps.refl _ _) G2 (z.2.1.drop (fun b => by simp) z.1.le) (R.frame (Same.refl _) fun b _ hn => k2 b hn)
         . cases e
       . cases e
     . cases e
   . cases e
 . cases e
end
section
variable {X : Cx} {tg iter : Expr} {body : List Stmt} {pos : Pos} {tgt : Tg} {C : T.Ctx} {ik : IK} {ies : List E} {body' : List S}
theorem Zmw {lk : Nat -> Bool} (hp : PassesOwn (model X.prog X.w) X.A X.env X.xe) (hc : X.calm = true) (hw : HWs (opds C ies) (fun j => C.lock j || walked ies j)) (hi : PI X tg iter (tI X.K ik (opds C ies))) (hg : PG X tg (gT X.K tgt)) (hb : PSs X body (tS X.K (fun j => C.lock j || walked ies j) (exs { C with lock := fun j => C.lock j || walked ies j } body'))) (hs : ∀ x, foldedSetIterable iter X.env x = pure x := by intro _; rfl) (hl : C.lock = lk := by rfl) :
 PS X (.For tg iter body [] pos) (tS X.K lk (ex C (.for_ tgt ik ies body'))) := by
 subst hl
 have e : ex C (.for_ tgt ik ies body') = ((opds C ies).bnd fun ps => (Z1 ps).bnd fun h => (lift (itW ik h.1)).bnd fun items => (forL (asgT (fun j => C.lock j || walked ies j) tgt) (exs { C with lock := fun j => C.lock j || walked ies j } body') items).bnd fun f => (Zau h.2).bnd fun _ => M.ret f) := rfl
 rw [e]
 exact Zaq hp hc (ZaC _ _) hw hi hg hb hs
end
theorem ZfK {k : List Key} : ∀ {ks : List (List Key)} {vs : List V}, L2.valV (ks.zip vs) k = Za3 k ks vs
 | [], _ => by simp [Za3, L2.Zg3]
 | _ :: _, [] => by simp [Za3, L2.Zg3]
 | j :: ks, v :: vs => by
  rw [List.zip_cons_cons]
  unfold Za3
  by_cases e : j = k
  . rw [if_pos e, L2.ZcL (p := (j, v)) e]
  . rw [if_neg e, L2.ZcM (p := (j, v)) e]
    exact ZfK
theorem RepL.lookN {K : Fg} {H Hs : Hp} {k : List Key} : ∀ {ks : List (List Key)} {vs : List V} {ds : List D} {m : Bud}, RepL K H Hs vs ds m -> Za3 k ks ds = none -> Za3 k ks vs = none
 | [], _, _, _, .nil _, _ => rfl
 | _ :: _, _, _, _, .nil _, _ => rfl
 | [], _, _, _, .cons x r l, _ => rfl
 | j :: ks, _, _, _, .cons x r l, e => by
  unfold Za3 at e ⊢
  by_cases h : j = k
  . rw [if_pos h] at e; cases e
  . rw [if_neg h] at e ⊢; exact RepL.lookN r e
theorem RepL.lookV {K : Fg} {H Hs : Hp} {k : List Key} {v : V} : ∀ {ks : List (List Key)} {vs : List V} {ds : List D} {m : Bud}, RepL K H Hs vs ds m -> Za3 k ks ds = some (.sc v) -> Za3 k ks vs = some v
 | [], _, _, _, .nil _, e => by cases e
 | _ :: _, _, _, _, .nil _, e => by cases e
 | [], _, _, _, .cons x r l, e => by cases e
 | j :: ks, _, _, _, .cons x r l, e => by
  unfold Za3 at e ⊢
  by_cases h : j = k
  . rw [if_pos h] at e ⊢
    cases e
    cases x
    rfl
  . rw [if_neg h] at e ⊢; exact RepL.lookV r e
section
variable {X : Cx} {o k : Expr} {apos cpos p pos : Pos}
theorem Zmx {co ck : M D} (hu : X.A.units + 64 < cLine) (hg : Gl X "tuple") (hm : X.mg "tuple" = none) (ho : PE X o (tM X.K co)) (hk : PE X k (tM X.K ck))
 (he : starEach [k] X.env = (false, eval k X.env) :: starEach [] X.env := by rfl) (hpl : (backTo pos (starEach [] X.env)).any (·.1) = false := by rfl)
 (m : M1 X o "get" apos (.Call (.Name "tuple" p) [k] [] pos) cpos := by exact ⟨rfl, rfl, rfl, rfl⟩) :
 PE X (.Call (.Attribute o "get" apos) [.Call (.Name "tuple" p) [k] [] pos] [] cpos) (tM X.K (co.bnd fun d => (dicS d).bnd fun _ => ck.bnd fun kd => lift (ZdM d kd))) :=
 PE.imp (Zkd (by omega) ho (Zdq Zdb hg hm (by decide +kernel) (ZY hk ZaG he) (by decide) (by decide) he hpl) m) fun σ H Q h => by
 obtain ⟨δ, Hs, M, r, δ', g, s, e, q⟩ := h
 obtain ⟨d, δ1, e1, e⟩ := Zc e
 obtain ⟨u, δ1', e2, e⟩ := Zc e
 obtain ⟨kd, δ2, e3, e⟩ := Zc e
 obtain ⟨e4, rfl⟩ := ZN e
 refine ⟨δ, Hs, M, d, δ1, g, s, e1, fun v H1 Hs1 m1 M1 g1 st1 r1 s1 => ?_⟩
 clear e
 have hd : (∃ ks vs, d = .node (.dic ks) false vs) /\ δ1' = δ1 := by
  unfold dicS at e2
  split at e2
  . have := Zg e2
    cases this
    exact ⟨⟨_, _, rfl⟩, rfl⟩
  . cases e2
 obtain ⟨⟨ks, vs, rfl⟩, hδ⟩ := hd
 subst hδ
 cases r1 with
 | @shd a _ ws _ _ n rl =>
  obtain ⟨hl, hD⟩ := n
  refine ⟨a, rfl, .inr ⟨_, .inl (g1.sub _ _ hD)⟩, _, Hs1, M1, kd, _, g1.re fun b => by (try dsimp only); omega, s1, e3, fun v2 H2 Hs2 m2 M2 g2 st2 r2 s2 => ?_⟩
  unfold ZdM at e4
  split at e4
  . rename_i ks' o' vs' o'' es h1
    cases h1
    simp only [Option.bind_eq_some_iff] at e4
    obtain ⟨is, hes, e4⟩ := e4
    have hq : ∃ ax, v2 = .ref ax /\ SqL X.K H2 ax (is.map V.int) := by
     cases r2 with
     | own n r _ =>
      have := Zar r hes
      subst this
      exact ⟨_, rfl, .inl (.inl n)⟩
     | shd n r =>
      have := Zar r hes
      subst this
      exact ⟨_, rfl, .inl (.inl (g2.sub _ _ n))⟩
    obtain ⟨ax, rfl, sq⟩ := hq
    refine ⟨ax, is.map V.int, rfl, .inl ⟨sq, fun l hll => ?_⟩⟩
    have hD2 : H2 a = some (.dT (ks.zip ws)) := g2.sub _ _ (st2.grow _ _ hD)
    have hla : a ≠ l := fun z => by subst z; rw [hll] at hD2; cases hD2
    have gg := DGet.t (k := is.map Sum.inl) (kvs := ks.zip ws) (H := upd H2 l (.tup (is.map V.int))) (a := a) (b := l) (by rw [Zq hla]; exact hD2) (by rw [Zm, List.map_map]; rfl)
    rw [ZfK] at gg
    have rl2 : RepL X.K H1 Hs1 ws vs (fun _ => 0) := rl
    have hv : r = .sc ((Za3 (is.map Sum.inl) ks ws).getD .non) := by
     split at e4
     . rename_i hz
       rw [rl2.lookN hz]
       cases e4
       rfl
     . rename_i z hz
       rw [rl2.lookV hz]
       cases e4
       rfl
     . cases e4
    refine ⟨_, gg, ?_⟩
    have z := Zr (m1 := fun _ => 0) g (g1.re fun b => by simp) (st1.drop (fun b => by simp) g1.le) (M1 := M1) (H2 := H2) (Hs2 := Hs2) (M2 := M2) (g2.re fun b => by (try dsimp only); omega) (st2.drop (fun b => by (try dsimp only); omega) g2.le)
    have G2 : Good H2 Hs2 M2 := g2.re fun b => by (try dsimp only); omega
    obtain ⟨G3, S3, k3⟩ := ZgO (ob := .tup (is.map V.int)) G2 hll
    have z2 := Zr (m1 := fun _ => 0) g (G2.re fun b => by simp) (z.2.1.drop (fun b => by simp) z.1.le) G3 S3
    rw [hv] at q
    exact q _ _ Hs2 (fun _ => 0) M2 (Zav G3) (z2.2.1.drop (fun b => by simp) z2.1.le) (.sc _ _) (s2.frame (Same.refl _) fun b _ hn => k3 b hn)
  . cases e4
end
open PyProof.Rows
noncomputable def Zbt (i : Int) (is : List Int) : Int := is.foldl (fun a b => if b < a then b else a) i
theorem Zc4 : ∀ (is : List Int) (i : Int), Zbt i is ∈ i :: is /\ ∀ a ∈ i :: is, Zbt i is <= a
 | [], i => ⟨List.mem_cons_self, fun a h => by rw [List.mem_singleton.mp h]; exact Int.le_refl _⟩
 | j :: is, i => by
  obtain ⟨h1, h2⟩ := Zc4 is (if j < i then j else i)
  have e : Zbt i (j :: is) = Zbt (if j < i then j else i) is := rfl
  rw [e]
  refine ⟨?_, fun a ha => ?_⟩
  . rcases List.mem_cons.mp h1 with h | h
    . rw [h]
      split <;> simp
    . exact List.mem_cons_of_mem _ (List.mem_cons_of_mem _ h)
  . have h0 := h2 _ List.mem_cons_self
    have hm : (if j < i then j else i) <= i /\ (if j < i then j else i) <= j := by split <;> omega
    (rcases List.mem_cons.mp ha with rfl | ha)
    . exact Int.le_trans h0 hm.1
    . (rcases List.mem_cons.mp ha with rfl | ha)
      . exact Int.le_trans h0 hm.2
      . exact h2 a (List.mem_cons_of_mem _ ha)
theorem Zjx {i M : Int} {is : List Int} (h1 : M ∈ i :: is) (h2 : ∀ a ∈ i :: is, M <= a) : M = Zbt i is := by
 obtain ⟨g1, g2⟩ := Zc4 is i
 have := h2 _ g1
 have := g2 _ h1
 omega
section
variable {X : Cx}
theorem ZeV : ∀ (is : List Int) (us : List Value), Vals (is.map V.int) us -> ∃ ts : List (Int × Tok), us = ts.map (fun p => Value.int p.1 p.2) /\ ts.map (·.1) = is
 | [], us, r => by cases r; exact ⟨[], rfl, rfl⟩
 | n :: is, us, r => by
  cases r with
  | cons r rr =>
   obtain ⟨t, rfl⟩ := r
   obtain ⟨ts, e1, e2⟩ := ZeV is _ rr
   exact ⟨(n, t) :: ts, by rw [e1]; rfl, by rw [List.map_cons, e2]⟩
theorem Zga (hc : X.calm = true) : ZA X (.builtin "min") (fun xs H Q => ∃ (l : Addr) (i : Int) (is : List Int), xs = [.ref l] /\ SqL X.K H l ((i :: is).map V.int) /\ Q (.int (Zbt i is)) H) := by
 intro pins s σ H xs us Q I r h
 obtain ⟨l, i, is, rfl, hl, q⟩ := h
 obtain ⟨u, rfl, ru⟩ := r.one
 cases (show u = Value.ref l from ru)
 obtain ⟨its, rv, p, hz⟩ := I.list hl
 obtain ⟨ts, e1, e2⟩ := ZeV (i :: is) its rv
 have e3 : its.toArray = intItems ts.toArray := by rw [e1]; unfold intItems; simp
 have hl' := p.isList
 rw [e3] at hl'
 have hn : ts.length = is.length + 1 := by have := congrArg List.length e2; rwa [List.length_map, List.length_cons] at this
 have hsz : 0 < ts.toArray.size := by rw [List.size_toArray]; omega
 refine min_intList (I.ok.hd hc) hl' hsz fun v h' tk hv hk => ?_
 (obtain ⟨t, rfl⟩ := intItems_at hv)
 obtain ⟨h1, h2⟩ := argBest_lt (numAt ts.toArray) (ts.toArray.size - 1)
 have e4 : numAt ts.toArray (argBest (fun i j => decide (numAt ts.toArray i < numAt ts.toArray j)) (ts.toArray.size - 1)) = Zbt i is := by
  apply Zjx
  . rw [numAt_eq, <- e2]
    exact getD_mem (by rw [List.length_map]; rw [List.size_toArray] at h1 ⊢; omega)
  . intro a ha
    rw [<- e2] at ha
    (obtain ⟨j, hj, rfl⟩ := mem_getD ha)
    rw [List.length_map] at hj
    have := h2 j (by rw [List.size_toArray]; omega)
    rw [numAt_eq (j := j)] at this
    exact this
 rw [e4]
 exact ⟨.int _, H, I.kept hk, ⟨_, rfl⟩, q⟩
theorem Zmy (hc : X.calm = true) : ZA X (.builtin "min") (rNW X.K (bfW .minL)) := by
 intro pins s σ H xs us Q I r h
 obtain ⟨Hs, ws, m, d, hs, h1, h2, v, e, o⟩ := h
 replace e : Zio _ = _ := e
 unfold Zio at e
 split at e <;> first | (rename_i z; cases z; done) | skip
 all_goals first
  | (obtain ⟨y, m1, rfl, v, l⟩ := v.one
     cases v with
     | nd n r' =>
      rw [Option.bind_eq_some_iff] at e
      obtain ⟨is, e, e'⟩ := e
      have ei := Zar r' e
      subst ei
      cases is with
      | nil => cases e'
      | cons i is =>
       cases e'
       exact Zga hc pins s σ H _ us Q I r ⟨_, _, _, rfl, .inl (.inl n), o.sc⟩)
  | cases e
end
noncomputable def nmOk (X : Cx) (i : Nat) (x : Str) : Bool := Zw X.env.scope X.N i x false || Zw X.env.scope X.N i x true || Zg8 X.env.scope X.N i x
noncomputable def tgOk (X : Cx) (i : Nat) (x : Str) : Bool := (Zw X.env.scope X.N i x false || Zw X.env.scope X.N i x true && X.fn x) && decide X.N.Nodup
abbrev glX (X : Cx) (x : Str) : Prop := glOk X.env.scope x = true
section
variable {X : Cx} {x : Str} {i : Nat} {pos : Pos}
theorem qv (h : nmOk X i x = true := by kernel_rfl) : PE X (.Name x pos) (tVar i) := by
 unfold nmOk at h
 simp only [Bool.or_eq_true] at h
 rcases h with (h | h) | h
 . exact pvs h
 . exact pvs h
 . exact pvf h
theorem ql (h : nmOk X i x = true := by kernel_rfl) : PE X (.Name x pos) (tP X.K (Zag i)) := ZhA (qv h)
theorem qq (h : tgOk X i x = true) : ∃ b, Zw X.env.scope X.N i x b = true /\ X.N.Nodup /\ (X.fn x = true \/ b = false) := by
 unfold tgOk at h
 simp only [Bool.or_eq_true, Bool.and_eq_true, decide_eq_true_eq] at h
 rcases h with ⟨h | ⟨h, hf⟩, n⟩
 . exact ⟨_, h, n, .inr rfl⟩
 . exact ⟨_, h, n, .inl hf⟩
theorem qa {e : Expr} {c : M D} {lk : Nat -> Bool} {pos' : Pos} (he : PE X e (tM X.K c)) (h : tgOk X i x = true := by kernel_rfl) (hs : swapsWith e (some (.Name x pos')) pos.line X.env = pure false := by rfl) : PS X (.Assign [.Name x pos'] e pos) (tS X.K lk (c.bnd fun d => (asgN lk i d).bnd fun _ => M.ret .nx)) := by
 obtain ⟨b, h, n, f⟩ := qq h
 exact ZlY h n he hs (hf := f)
theorem qg {es : List Expr} {is : List Nat} (hr : PGs X es (gNs is)) (h : tgOk X i x = true := by kernel_rfl) (hs : (assignEach (.Name x pos :: es) X.env).map (·.2) = assign (.Name x pos) X.env :: (assignEach es X.env).map (·.2) := by rfl) : PGs X (.Name x pos :: es) (gNs (i :: is)) := by
 obtain ⟨b, h, n, f⟩ := qq h
 exact ZpZ h n hr rfl rfl f hs
theorem qt (h : tgOk X i x = true := by kernel_rfl) : PG X (.Name x pos) (gT X.K (.name i)) := by
 obtain ⟨b, h, n, f⟩ := qq h
 exact Zqa h n rfl rfl f
theorem cS {k : Nat} {js : List Nat} {scope : Scope} (N' : List Str) (h : Zg6 X.env.scope X.N k js N' scope = true := by kernel_rfl) : CompScope X k js N' scope := .of h rfl rfl
theorem qs {lk : Nat -> Bool} {k : Nat} {js : List Nat} {N' : List Str} {scope : Scope} {tg elt iter : Expr} {ifs : List Expr} {ik : IK} {cs : M (List Op)} {tgt : Tg} {cc : M Bool} {celt : M D} {pos' spos : Pos} (S : CompScope X k js N' scope) (hi : PI X tg iter (tI X.K ik cs))
 (hin : ∀ (cl : List (Str × Addr)) (C : Addr) (s₀ : Shared) (H₀ : Hp) (ex : List Addr), PG (cxC X N' scope cl C s₀ H₀ ex) tg (gT X.K tgt) /\ PIf (cxC X N' scope cl C s₀ H₀ ex) ifs (tT X.K cc) /\ PE (cxC X N' scope cl C s₀ H₀ ex) elt (tM X.K celt))
 (h : (Zw X.env.scope X.N i x false && decide X.N.Nodup && Zdu X.env.scope scope x) = true := by kernel_rfl) (hc : X.calm = true := by rfl) (hl : (pos'.line == pos.line) = true := by rfl) (hs : ∀ x, foldedSetIterable iter X.env x = pure x := by intro _; rfl) :
 PS X (.Assign [.Name x pos'] (.ListComp elt [⟨tg, iter, ifs, 0⟩] scope pos) spos) (tS X.K lk ((cs.bnd fun ps => (Z1 ps).bnd fun h => (lift (itW ik h.1)).bnd fun items => (ZV k js (Z7 (asgT (fun i => decide (k <= i)) tgt) cc celt items [])).bnd fun d => (Zau h.2).bnd fun _ => M.ret d).bnd fun d => (asgN lk i d).bnd fun _ => M.ret .nx)) := by
 simp only [Bool.and_eq_true, decide_eq_true_eq] at h
 exact ZlX h.1.1 h.1.2 h.2 hc S hi hin hl rfl rfl hs
end
section
variable {X : Cx} {e a b l r o k ke : Expr} {es : List Expr} {p pos p2 pos2 : Pos} {x : Str} {j n : Nat} {ps : List Str} {fi : FI} {cs : M (List Op)} {ca cb : M Op} {A : Addr} {f : BF} {id ty : String} {tg : Expr}
theorem qf (G : FnAt X.prog X.w X.K X.mg X.base x j ps (spF X.K fi.run)) (hr : Room n X.A) (ha : PA X (e :: es) (tPs X.K cs)) (h : glX X x := by kernel_rfl) (hj : j <= n := by decide)
 (he : SE X e es := by rfl) (hpl : SF X pos es := by rfl) :
 PE X (.Call (.Name x p) (e :: es) [] pos) (tM X.K (cs.bnd fun ps => ZaB fi ps)) := ZpY G hr ha hj (glk h) (dbk h) he hpl
theorem qn (G : MkAt X.prog X.w X.K X.mg X.base x A j ps (spF X.K fi.run)) (hr : Room n X.A) (ha : PA X (e :: es) (tPs X.K cs)) (h : glX X x := by kernel_rfl) (hj : j + 1 <= n := by decide)
 (he : SE X e es := by rfl) (hpl : SF X pos es := by rfl) :
 PE X (.Call (.Name x p) (e :: es) [] pos) (tM X.K (cs.bnd fun ps => newF A fi ps)) := ZnV G hr ha hj (glk h) (dbk h) he hpl
theorem qB (hc : ZA X (.builtin id) (rNW X.K (bfW f))) (hm : X.mg x = none) (hv : bootBuiltins x = some (.builtin id)) (ha : PA X (e :: es) (tPs X.K cs)) (h : glX X x := by kernel_rfl)
 (he : SE X e es := by rfl) (hpl : SF X pos es := by rfl) :
 PE X (.Call (.Name x p) (e :: es) [] pos) (tM X.K (cs.bnd fun ps => (views ps).bnd fun ws => lift (bfW f ws))) := ZnG hc (glk h) hm hv ha (nmk h) (dbk h) he hpl
theorem qT (hc : ZA X (.type ty) (rNW X.K (bfW f))) (hm : X.mg x = none) (hv : bootBuiltins x = some (.type ty)) (ha : PA X (e :: es) (tPs X.K cs)) (h : glX X x := by kernel_rfl)
 (he : SE X e es := by rfl) (hpl : SF X pos es := by rfl) :
 PE X (.Call (.Name x p) (e :: es) [] pos) (tM X.K (cs.bnd fun ps => (views ps).bnd fun ws => lift (bfW f ws))) := ZnH hc (glk h) hm hv ha (nmk h) (dbk h) he hpl
theorem qi {t : Ty} {n : String} (hm : X.mg "isinstance" = none) (ha : PE X a (tP X.K ca)) (hm2 : X.mg (Str.ofString n) = none) (hv : bootBuiltins (Str.ofString n) = some (.type n)) (h : glX X "isinstance" := by kernel_rfl) (h2 : glX X (Str.ofString n) := by kernel_rfl) (hn : tyS t = some n := by rfl)
 (hs : starEach [a, .Name (Str.ofString n) p2] X.env = [(false, eval a X.env), (false, eval (.Name (Str.ofString n) p2) X.env)] := by rfl) (hs1 : starEach [.Name (Str.ofString n) p2] X.env = [(false, eval (.Name (Str.ofString n) p2) X.env)] := by rfl) :
 PE X (.Call (.Name "isinstance" p) [a, .Name (Str.ofString n) p2] [] pos) (tM X.K ((ca.bnd fun p => (M.ret ([] : List Op)).bnd fun ps => M.ret (p :: ps)).bnd fun ps => (views ps).bnd fun ws => lift (bfW (.isi t) ws))) :=
 ZnM hn (glk h) hm ha (Zlp (glk h2) hm2 hv rfl (nmk h2) (dbk h2)) hs hs1
theorem qr1 (hm : X.mg "range" = none) (ha : PE X a (tP X.K ca)) (h : glX X "range" := by kernel_rfl) (hs : starEach [a] X.env = [(false, eval a X.env)] := by rfl) :
 PI X tg (.Call (.Name "range" p) [a] [] pos) (tI X.K .rng1 (ca.bnd fun p => (M.ret ([] : List Op)).bnd fun ps => M.ret (p :: ps))) := ZlU (glk h) hm ha hs
theorem qr2 (hm : X.mg "range" = none) (ha : PE X a (tP X.K ca)) (hb : PE X b (tP X.K cb)) (h : glX X "range" := by kernel_rfl) (hs : starEach [a, b] X.env = [(false, eval a X.env), (false, eval b X.env)] := by rfl) (hs2 : starEach [b] X.env = [(false, eval b X.env)] := by rfl) :
 PI X tg (.Call (.Name "range" p) [a, b] [] pos) (tI X.K .rng2 (ca.bnd fun p => (cb.bnd fun p => (M.ret ([] : List Op)).bnd fun ps => M.ret (p :: ps)).bnd fun ps => M.ret (p :: ps))) := ZlV (glk h) hm ha hb hs hs2
theorem qb {op : Operator} (ha : PE X a (tP X.K ca)) (hb : PE X b (tP X.K cb)) :
 PE X (.BinOp a op b pos) (tM X.K (ca.bnd fun p => cb.bnd fun q => (view p).bnd fun x => (view q).bnd fun y => lift (binW op x y))) := ZnA (ZnB _) ha hb
theorem qgi {i : Int} (h : ∃ t, X.mg x = some (.int i t)) (g : glX X x := by kernel_rfl) : PE X (.Name x p) (tM X.K (M.ret (.sc (.int i)))) := Zrw (glk g) h (dbk g)
theorem qgu {vs : List V} (h : ModT X.K X.mg x vs) (g : glX X x := by kernel_rfl) : PE X (.Name x p) (tM X.K (M.ret (.node .ftp false (vs.map D.sc)))) := Zmr (glk g) h (dbk g)
theorem g_ (h : glX X x := by kernel_rfl) : Gl X x := glk h
end
structure En where
 P : Program
 w : World
 K : Fg
 mg : Str -> Option Value
 base : Heap
abbrev En.fn (e : En) (x : Str) (k : Nat) (ps : List Str) (f : FI) : Prop := FnAt e.P e.w e.K e.mg e.base x k ps (spF e.K f.run)
abbrev En.me (e : En) (C : Addr) (x : Str) (k : Nat) (ps : List Str) (f : FI) : Prop := MeAt e.P e.w e.K e.mg e.base C x k ps (spF e.K f.run)
abbrev En.nw (e : En) (x : Str) (C : Addr) (k : Nat) (ps : List Str) (f : FI) : Prop := MkAt e.P e.w e.K e.mg e.base x C k ps (spF e.K f.run)
noncomputable def scOk (N P : List Str) (sc : Scope) : Bool := sc.kind == .function && !sc.isCoroutine && !sc.isGenerator && decide N.Nodup && N.take P.length == P && P.all (fun x => sc.names.lookup x == some .local || sc.names.lookup x == some .cell) && sc.names.all (fun y => y.2 != .free)
theorem Zgp {N P : List Str} {sc : Scope} (h : scOk N P sc = true) : FnScope N P sc := by
 unfold scOk at h
 simp only [Bool.and_eq_true, decide_eq_true_eq, List.all_eq_true, Bool.or_eq_true, beq_iff_eq, bne_iff_ne, Bool.not_eq_true'] at h
 obtain ⟨⟨⟨⟨⟨⟨h1, h2⟩, h3⟩, h4⟩, h5⟩, h6⟩, h7⟩ := h
 exact ⟨h1, h2, h3, h4, h5, h6, h7⟩
def NI (K : Fg) (x : Str) : Prop := PySem.W.nsIn K mainGlobals x = some none
def TI (K : Fg) (x : Str) (st : Stmt) : Prop := ∃ f fd, PySem.W.nsIn K mainGlobals x = some (some (.ref f)) /\ Fun K x x st f fd
def MI (K : Fg) (C : Addr) (x q : Str) (st : Stmt) : Prop := ∃ f fd, PySem.W.findIn K (.ref C) x = some (some (.ref f)) /\ PySem.W.isFn K (.ref f) = true /\ Fun K x q st f fd
structure CI (K : Fg) (x : Str) (C : Addr) : Prop where
 at_ : PySem.W.nsIn K mainGlobals x = some (some (.ref C))
 pg : PySem.W.plainGet K C Str.empty = true
 hd : PySem.W.hasDictIn K C = true
 po : PySem.W.plainOver K C = true
 sa : PySem.W.findIn K (.ref C) "__setattr__" = some (some (.builtin "object.__setattr__"))
 mk_ : PySem.W.makesIn K C = true
 kp : PySem.W.keepIn K (.ref C) = true
section
variable {K : Fg} {x q : Str} {st : Stmt} {f C : Addr} {oc : Value} {od an : Option Addr} {osl : Array (Option Value)} {kV doc pm cdv ct : Value}
theorem Zr2 (h : PySem.W.nsIn K mainGlobals x = some (some (.ref f))) (l : K.lookup f = some ⟨oc, od, .func (PySem.W.fnOf x x (Zb2 st) (Zax st) (Zx st) .none kV doc pm an cdv ct), osl⟩) (c : PySem.W.codeIn K cdv x = true) (k : PySem.W.keepIn K (.ref f) = true) : TI K x st := ⟨f, _, h, ZiU l c k⟩
theorem Zr3 (h : PySem.W.findIn K (.ref C) x = some (some (.ref f))) (y : PySem.W.isFn K (.ref f) = true) (l : K.lookup f = some ⟨oc, od, .func (PySem.W.fnOf x q (Zb2 st) (Zax st) (Zx st) .none kV doc pm an cdv ct), osl⟩) (c : PySem.W.codeIn K cdv q = true) (k : PySem.W.keepIn K (.ref f) = true) : MI K C x q st := ⟨f, _, h, y, ZiU l c k⟩
end
theorem CI.cl {K : Fg} {x : Str} {C : Addr} (c : CI K x C) : Cls K C := ⟨c.pg, c.hd, c.po, c.sa⟩
def Bo (e : En) : Prop := ∃ h, e.K.In h /\ h.Ns mainGlobals e.mg
section
variable {e : En} {x q : Str} {st : Stmt} {N ps : List Str} {k n nN : Nat} {C : Ctx} {body : List S} {A : Addr}
abbrev us_ (st : Stmt) (x q : Str) (ps : List Str) : Prop := ∀ (kV doc pm : Value) (an : Option Addr) (cdv ct : Value) (us : List Value), us.length = ps.length -> bindArgs (PySem.W.fnOf x q (Zb2 st) (Zax st) (Zx st) .none kV doc pm an cdv ct) ⟨us, []⟩ = pure (ps.zip us)
abbrev bd_ (e : En) (N : List Str) (q : Str) (st : Stmt) (k n : Nat) (C : Ctx) (body : List S) : Prop := ∀ (f : Addr) (cdv : Value) (A : Around) (outer : List Env) (s : Shared) (H : Hp) (E : XK), Room k (A.deeper (envOfC q (Zx st) s.heap.objs.size f cdv)) ->
 PSs (cxOf CX0 e.P e.w e.K e.mg e.base N q (Zx st) f cdv A outer s H E).nox (Zax st) (tS e.K (fun i => decide (i < n)) (exs { C with lock := fun i => decide (i < n) } body))
theorem Zz (Y : Bo e) (F : TI e.K x st) (N : List Str) (hb : bd_ e N x st k n C body) (hs : scOk N ps (Zx st) = true := by kernel_rfl) (hn : ps.length = n := by rfl) (hN : N.length = nN := by rfl)
 (us : us_ st x x ps := by intro _ _ _ _ _ _; first | exact us1 fun _ => rfl | exact us2 fun _ _ => rfl | exact us3 fun _ _ _ => rfl | exact us4 fun _ _ _ _ => rfl | exact us5 fun _ _ _ _ _ => rfl | exact us6 fun _ _ _ _ _ _ => rfl) :
 FnAt e.P e.w e.K e.mg e.base x (k + 1) ps (spF e.K (Zj C n nN body)) := by
 obtain ⟨f, fd, h1, F⟩ := F
 obtain ⟨h, X, G⟩ := Y
 exact ⟨f, fd, ZdT F (Zgp hs) hn hN fun cdv A o s H E => hb f cdv A o s H E, PySem.W.mg_of X G h1, F.kp, F.binds us⟩
theorem Zcw (cl : Cls e.K A) (F : MI e.K A x q st) (N : List Str) (hb : bd_ e N q st k n C body) (hs : scOk N ps (Zx st) = true := by kernel_rfl) (hn : ps.length = n := by rfl) (hN : N.length = nN := by rfl)
 (us : us_ st x q ps := by intro _ _ _ _ _ _; first | exact us1 fun _ => rfl | exact us2 fun _ _ => rfl | exact us3 fun _ _ _ => rfl | exact us4 fun _ _ _ _ => rfl | exact us5 fun _ _ _ _ _ => rfl | exact us6 fun _ _ _ _ _ _ => rfl) :
 MeAt e.P e.w e.K e.mg e.base A x (k + 1) ps (spF e.K (Zj C n nN body)) := by
 obtain ⟨f, fd, h1, y, F⟩ := F
 exact ⟨⟨f, fd, ZdT F (Zgp hs) hn hN fun cdv A o s H E => hb f cdv A o s H E, ⟨h1, y, F.kp⟩, F.binds us⟩, cl⟩
theorem Zr4 (Y : Bo e) (c : CI e.K x A) (F : MI e.K A "__init__" q st) (N : List Str) (hb : bd_ e N q st k n C body) (hs : scOk N ps (Zx st) = true := by kernel_rfl) (hn : ps.length = n := by rfl) (hN : N.length = nN := by rfl)
 (us : us_ st "__init__" q ps := by intro _ _ _ _ _ _; first | exact us1 fun _ => rfl | exact us2 fun _ _ => rfl | exact us3 fun _ _ _ => rfl | exact us4 fun _ _ _ _ => rfl | exact us5 fun _ _ _ _ _ => rfl | exact us6 fun _ _ _ _ _ _ => rfl) :
 MkAt e.P e.w e.K e.mg e.base x A (k + 1) ps (spF e.K (Zj C n nN body)) := by
 obtain ⟨f, fd, h1, y, F⟩ := F
 obtain ⟨h, X, G⟩ := Y
 exact ⟨f, fd, ZdT F (Zgp hs) hn hN fun cdv A o s H E => hb f cdv A o s H E, ⟨c.mk_, h1, y, c.kp⟩, PySem.W.mg_of X G c.at_, F.binds us⟩
theorem ZoQ {f : Addr} {fd : FuncData} (F : Fun e.K x x st f fd) (N : List Str) (hb : bd_ e N x st k n C body) (hs : scOk N ps (Zx st) = true := by kernel_rfl) (hn : ps.length = n := by rfl) (hN : N.length = nN := by rfl) :
 FnOk e.P e.w e.K e.mg e.base CX0 (k + 1) f fd ps (spF e.K (Zj C n nN body)) := ZdT F (Zgp hs) hn hN fun cdv A o s H E => hb f cdv A o s H E
end
end T
namespace T
open PySem PySem.Spec L2
theorem Zh {X : Cx} {i : Int} {j} {pos : Pos} : PE X (.Constant (.int i) j pos) (tP X.K ((M.ret (.sc (.int i))).bnd fun d => M.ret (.tmp d))) := Za (ok_k ZI)
theorem ZrK {X : Cx} {sc : Scope} {N} {i : Nat} {x : Str} {b : Bool} {pos : Pos} (h : Zw sc N i x b = true) (e1 : X.env.scope = sc := by rfl) (e2 : X.N = N := by rfl) : PE X (.Name x pos) (tP X.K (Zag i)) := ZhA (pvs h e1 e2)
end T
namespace My
open PySem PySem.Spec L2 T
local macro_rules | `(tactic| walk_at "d") => `(tactic| decide +kernel)
section
seal L2.PE L2.PS L2.PSs L2.PT L2.PI L2.PA L2.PG L2.PGs
noncomputable def top (i : Nat) : Stmt := PySem.Challenge.pw_barlabel_k44_whole_printed_spoilt_mended.main.body.getD i (.Pass ⟨0, 0, 0, 0⟩)
noncomputable def Z6 (s : Stmt) (i : Nat) : Stmt := match s with
 | .ClassDef (body := b) .. => b.getD i (.Pass ⟨0, 0, 0, 0⟩)
 | _ => .Pass ⟨0, 0, 0, 0⟩
noncomputable def CK (C : Addr) : T.Ctx := { C0 with fok := fun A f => decide (A = C) && (f == "part_count" || f == "widths_sum" || f == "opening" || f == "closing" || f == "shapes" || f == "symbols_by_shape") }
noncomputable def ZeW (K : Fg) : Addr := match PySem.W.nsIn K mainGlobals "Fount" with
 | some (some (.ref C)) => C
 | _ => 0
structure Txt (e : T.En) (C : Addr) : Prop where
 Y : T.Bo e
 abs_ : e.mg "abs" = none
 all_ : e.mg "all" = none
 bool_ : e.mg "bool" = none
 enumerate_ : e.mg "enumerate" = none
 int_ : e.mg "int" = none
 isinstance_ : e.mg "isinstance" = none
 len_ : e.mg "len" = none
 list_ : e.mg "list" = none
 max_ : e.mg "max" = none
 min_ : e.mg "min" = none
 range_ : e.mg "range" = none
 reversed_ : e.mg "reversed" = none
 sum_ : e.mg "sum" = none
 tuple_ : e.mg "tuple" = none
 zip_ : e.mg "zip" = none
 CHECK_SYMBOLS_ : ∃ t, e.mg "CHECK_SYMBOLS" = some (.int 2 t)
 WIDEST_ : ∃ t, e.mg "WIDEST" = some (.int 4 t)
 PARTS_ : T.ModT e.K e.mg "PARTS" (([4, 6] : List Int).map V.int)
 ci : T.CI e.K "Fount" C
 nF_part_count : ZQ e.K C "part_count"
 nF_widths_sum : ZQ e.K C "widths_sum"
 nF_opening : ZQ e.K C "opening"
 nF_closing : ZQ e.K C "closing"
 nF_shapes : ZQ e.K C "shapes"
 nF_symbols_by_shape : ZQ e.K C "symbols_by_shape"
theorem Txt.fok {e : T.En} {C : Addr} (Z : Txt e C) : ∀ A f, (CK C).fok A f = true -> Cls e.K A /\ ZQ e.K A f := fun A f h => by
 unfold CK at h
 simp only [Bool.and_eq_true, Bool.or_eq_true, decide_eq_true_eq, beq_iff_eq] at h
 obtain ⟨rfl, h⟩ := h
 rcases h with ((((rfl | rfl) | rfl) | rfl) | rfl) | rfl
 . exact ⟨Z.ci.cl, Z.nF_part_count⟩
 . exact ⟨Z.ci.cl, Z.nF_widths_sum⟩
 . exact ⟨Z.ci.cl, Z.nF_opening⟩
 . exact ⟨Z.ci.cl, Z.nF_closing⟩
 . exact ⟨Z.ci.cl, Z.nF_shapes⟩
 . exact ⟨Z.ci.cl, Z.nF_symbols_by_shape⟩
variable {e : T.En} {C : Addr}
noncomputable def Zeo : List T.S := [.ret (.and (.bf (.isi .int) [.v 0]) (.nt (.bf (.isi .bool) [.v 0])))]
noncomputable def ZH : T.FI := ⟨true, T.Zj C0 1 1 Zeo⟩
abbrev ZbW (e : T.En) : Prop := e.fn "is_whole" 1 ["thing"] ZH
theorem Zhp (F : T.TI e.K "is_whole" (top 8)) (Z : Txt e C)  : ZbW e :=
 T.Zz (C := C0) (body := Zeo) (k := 0) Z.Y F ["thing"] fun _ _ _ _ _ _ _ hr =>
 (Zb (Zl (Zcc (Za (qi Z.isinstance_ ql Z.int_ Zpy)) (Zc8 (ZlN (Za (qi Z.isinstance_ ql Z.bool_ Zn1))))))
  Zf)
noncomputable def Zd3 : List T.S := [.ret (.and (.call ZH [.v 1]) (.chain .LtE .Lt (.k (.int 0)) (.v 1) (.v 0)))]
noncomputable def ZaU : T.FI := ⟨true, T.Zj C0 2 2 Zd3⟩
abbrev Zep (e : T.En) : Prop := e.fn "is_symbol" 2 ["count", "thing"] ZaU
theorem ZgP (F : T.TI e.K "is_symbol" (top 9)) (Z : Txt e C) (g0 : ZbW e) : Zep e :=
 T.Zz (C := C0) (body := Zd3) (k := 1) Z.Y F ["count", "thing"] fun _ _ _ _ _ _ _ hr =>
 have hu := hr.units
 (Zb (Zl (Zcc (Za (qf g0 hr (Zd ql Ze))) (Zc8 (ZgJ hu Zh ql ql))))
  Zf)
noncomputable def Zcn : List T.S := [.for_ (.tup [2, 3]) .enum [.v 1, .k (.int 0)] [.iff (.nt (.call ZaU [.v 0, .v 3])) [.raise (.k .non)] []]]
noncomputable def ZZ : T.FI := ⟨true, T.Zj C0 2 4 Zcn⟩
abbrev Zbu (e : T.En) : Prop := e.fn "check_symbols" 3 ["count", "row"] ZZ
theorem Ze4 (F : T.TI e.K "check_symbols" (top 10)) (Z : Txt e C) (g1 : Zep e) : Zbu e :=
 T.Zz (C := C0) (body := Zcn) (k := 2) Z.Y F ["count", "row", "number", "thing"] fun _ _ _ _ _ _ _ hr =>
 (Zb (Zaq PassesOwn.never rfl (ZaC _ _) (hw_2 (Zc9 rfl) (Zae rfl)) (ZcS g_ Z.enumerate_ ql) (ZdW rfl (qg (qg ZbU)))
  (Zb (ZK (Za9 (ZaS (Za (qf g1 hr (Zd ql (Zd ql Ze)))))) (Zb ZaH
  Zf) Zf)
  Zf))
  Zf)
noncomputable def Zd4 : List T.S := [.ret (.bin .Mod (.bf .sum [.v 1]) (.v 0))]
noncomputable def ZE : T.FI := ⟨true, T.Zj C0 2 2 Zd4⟩
abbrev ZaV (e : T.En) : Prop := e.fn "plain_sum" 1 ["prime", "row"] ZE
theorem ZgQ (F : T.TI e.K "plain_sum" (top 13)) (Z : Txt e C)  : ZaV e :=
 T.Zz (C := C0) (body := Zd4) (k := 0) Z.Y F ["prime", "row"] fun _ _ _ _ _ _ _ hr =>
 (Zb (Zl (qb (Za (qB (Zdy rfl) Z.sum_ Zd1 (Zd ql Ze))) ql))
  Zf)
noncomputable def ZcC : List T.S := [.ret (.bin .Mod (.bf .sum [.comp 2 [] (.tup [0, 1]) .enum [.v 1, .k (.int 1)] [] (.bin .Mult (.v 0) (.v 1))]) (.v 0))]
noncomputable def ZP : T.FI := ⟨true, T.Zj C0 2 2 ZcC⟩
abbrev ZaZ (e : T.En) : Prop := e.fn "weighed_sum" 1 ["prime", "row"] ZP
theorem Zfx (F : T.TI e.K "weighed_sum" (top 14)) (Z : Txt e C)  : ZaZ e :=
 T.Zz (C := C0) (body := ZcC) (k := 0) Z.Y F ["prime", "row"] fun _ _ _ _ _ _ _ hr =>
 (Zb (Zl (qb (Za (qB (Zdy rfl) Z.sum_ Zd1 (Zd (Za (Zbk rfl (cS ["place", "symbol"]) (Zkz g_ Z.enumerate_ ql ZI) (fun _ _ _ _ _ => ⟨(ZdW rfl (qg (qg ZbU))), ZaT, (qb ql ql)⟩))) Ze))) ql))
  Zf)
noncomputable def ZbX : List T.S := [.ret (.and (.cmp .Eq (.call ZE [.v 0, .v 1]) (.k (.int 0))) (.cmp .Eq (.call ZP [.v 0, .v 1]) (.k (.int 0))))]
noncomputable def Zcx : T.FI := ⟨true, T.Zj C0 2 2 ZbX⟩
abbrev ZfL (e : T.En) : Prop := e.fn "is_good" 2 ["prime", "row"] Zcx
theorem Zix (F : T.TI e.K "is_good" (top 15)) (Z : Txt e C) (g4 : ZaZ e) (g3 : ZaV e) : ZfL e :=
 T.Zz (C := C0) (body := ZbX) (k := 1) Z.Y F ["prime", "row"] fun _ _ _ _ _ _ _ hr =>
 have hu := hr.units
 (Zb (Zl (Zcc (Za (Zb5 hu (Za (qf g3 hr (Zd ql (Zd ql Ze)))) Zh)) (Zc8 (Zb5 hu (Za (qf g4 hr (Zd ql (Zd ql Ze)))) Zh))))
  Zf)
noncomputable def Zeq : List T.S := [.ret (.ix (.comp 1 [1, 0, 2] (.name 0) .rng1 [.v 0] [.cmp .Eq (.bin .Mod (.bin .Mult (.v 0) (.v 3)) (.v 2)) (.v 1)] (.v 0)) (.k (.int 0)))]
noncomputable def ZbY : T.FI := ⟨true, T.Zj C0 3 3 Zeq⟩
abbrev ZeX (e : T.En) : Prop := e.fn "quotient" 1 ["prime", "rest", "divisor"] ZbY
theorem Zhq (F : T.TI e.K "quotient" (top 16)) (Z : Txt e C)  : ZeX e :=
 T.Zz (C := C0) (body := Zeq) (k := 0) Z.Y F ["prime", "rest", "divisor"] fun _ _ _ _ _ _ _ hr =>
 have hu := hr.units
 (Zb (Zl (ZC hu (Za (Zbk rfl (cS ["symbol", "rest", "prime", "divisor"]) (qr1 Z.range_ ql) (fun _ _ _ _ _ => ⟨qt, (ZgF (Zu hu (Za (qb (Za (qb ql ql)) ql)) ql)), (ok_v qv)⟩))) Zh))
  Zf)
noncomputable def ZbG : List T.S := [.asg 4 (.bin .Add (.v 2) (.k (.int 1))), .asg 5 (.bin .Mod (.bin .Sub (.bin .Mult (.v 4) (.call ZE [.v 0, .v 1])) (.call ZP [.v 0, .v 1])) (.v 0)), .asg 6 (.bf .list [.v 1]), .sub 6 [] (.v 3) (.call ZbY [.v 0, .v 5, .bin .Sub (.v 3) (.v 2)]), .sub 6 [] (.v 2) (.bin .Mod (.neg (.call ZE [.v 0, .v 6])) (.v 0)), .ret (.v 6)]
noncomputable def ZO : T.FI := ⟨true, T.Zj C0 4 7 ZbG⟩
abbrev ZbN (e : T.En) : Prop := e.fn "with_two_filled" 2 ["prime", "row", "earlier", "later"] ZO
theorem Zd5 (F : T.TI e.K "with_two_filled" (top 17)) (Z : Txt e C) (g3 : ZaV e) (g4 : ZaZ e) (g6 : ZeX e) : ZbN e :=
 T.Zz (C := C0) (body := ZbG) (k := 1) Z.Y F ["prime", "row", "earlier", "later", "place", "rest", "filled"] fun _ _ _ _ _ _ _ hr =>
 have hu := hr.units
 (Zb (qa (qb ql Zh))
  (Zb (qa (qb (Za (qb (Za (qb ql (Za (qf g3 hr (Zd ql (Zd ql Ze)))))) (Za (qf g4 hr (Zd ql (Zd ql Ze)))))) ql))
  (Zb (qa (qT Zay Z.list_ Za0 (Zd ql Ze)))
  (Zb (Za1 hu qv ql (qf g6 hr (Zd ql (Zd ql (Zd (Za (qb ql ql)) Ze)))))
  (Zb (Za1 hu qv ql (qb (Za (ZaR (Za (qf g3 hr (Zd ql (Zd ql Ze)))))) ql))
  (Zb (Zl (Zbs qv))
  Zf))))))
noncomputable def Zb0 : List T.S := [.asg 2 (.call ZE [.v 0, .v 1]), .asg 3 (.call ZP [.v 0, .v 1]), .for_ (.tup [4, 5]) .enum [.v 1, .k (.int 0)] [.iff (.cmp .Eq (.bin .Mod (.bin .Mult (.bin .Add (.v 4) (.k (.int 1))) (.v 2)) (.v 0)) (.v 3)) [.asg 6 (.bf .list [.v 1]), .sub 6 [] (.v 4) (.bin .Mod (.bin .Sub (.v 5) (.v 2)) (.v 0)), .ret (.v 6)] []], .raise (.k .non)]
noncomputable def ZX : T.FI := ⟨false, T.Zj C0 2 7 Zb0⟩
abbrev ZbH (e : T.En) : Prop := e.fn "with_one_righted" 2 ["prime", "row"] ZX
theorem Zdm (F : T.TI e.K "with_one_righted" (top 18)) (Z : Txt e C) (g3 : ZaV e) (g4 : ZaZ e) : ZbH e :=
 T.Zz (C := C0) (body := Zb0) (k := 1) Z.Y F ["prime", "row", "excess", "weight", "number", "symbol", "righted"] fun _ _ _ _ _ _ _ hr =>
 have hu := hr.units
 (Zb (qa (qf g3 hr (Zd ql (Zd ql Ze))))
  (Zb (qa (qf g4 hr (Zd ql (Zd ql Ze))))
  (Zb (Zaq PassesOwn.never rfl (ZaC _ _) (hw_2 (Zc9 rfl) (Zae rfl)) (ZcS g_ Z.enumerate_ ql) (ZdW rfl (qg (qg ZbU)))
  (Zb (ZK (Zu hu (Za (qb (Za (qb (Za (qb ql Zh)) ql)) ql)) ql) (Zb (qa (qT Zay Z.list_ Za0 (Zd ql Ze)))
  (Zb (Za1 hu qv ql (qb (Za (qb ql ql)) ql))
  (Zb (Zl (Zbs qv))
  Zf))) Zf)
  Zf))
  (Zb ZaH
  Zf))))
noncomputable def ZfM : List T.S := [.asg 2 (.comp 1 [] (.name 0) .val [.v 1] [] (.ife (.isN true (.v 0)) (.k (.int 0)) (.v 0))), .ex (.call ZZ [.v 0, .v 2]), .iff (.nt (.chain .LtE .LtE (.k (.int 2)) (.bf .len [.v 2]) (.v 0))) [.raise (.k .non)] [], .asg 3 (.comp 2 [] (.tup [0, 1]) .enum [.v 1, .k (.int 0)] [.isN true (.v 1)] (.v 0)), .iff (.cmp .Gt (.bf .len [.v 3]) (.k (.int 2))) [.raise (.k .non)] [], .iff (.cmp .Eq (.bf .len [.v 3]) (.k (.int 2))) [.ret (.call ZO [.v 0, .v 2, .ix (.v 3) (.k (.int 0)), .ix (.v 3) (.k (.int 1))])] [], .iff (.cmp .Eq (.bf .len [.v 3]) (.k (.int 1))) [.sub 2 [] (.ix (.v 3) (.k (.int 0))) (.bin .Mod (.neg (.call ZE [.v 0, .v 2])) (.v 0))] [], .iff (.call Zcx [.v 0, .v 2]) [.ret (.v 2)] [], .ret (.call ZX [.v 0, .v 2])]
noncomputable def Zbf : T.FI := ⟨true, T.Zj C0 2 4 ZfM⟩
abbrev ZgR (e : T.En) : Prop := e.fn "mended" 4 ["prime", "things"] Zbf
theorem Zjy (F : T.TI e.K "mended" (top 19)) (Z : Txt e C) (g2 : Zbu e) (g7 : ZbN e) (g3 : ZaV e) (g5 : ZfL e) (g8 : ZbH e) : ZgR e :=
 T.Zz (C := C0) (body := ZfM) (k := 3) Z.Y F ["prime", "things", "row", "unreadable"] fun _ _ _ _ _ _ _ hr =>
 have hu := hr.units
 (Zb (qs (cS ["thing"]) (Zaz ql) (fun _ _ _ _ _ => ⟨qt, ZaT, (Zjh (Zfv ql) (ok_k ZI) (ok_v qv))⟩))
  (Zb (Zce (qf g2 hr (Zd ql (Zd ql Ze))))
  (Zb (ZK (Za9 (ZfJ hu (Za (qgi Z.CHECK_SYMBOLS_)) (Za (qB Zac Z.len_ Zad (Zd ql Ze))) ql)) (Zb ZaH
  Zf) Zf)
  (Zb (qs (cS ["number", "thing"]) (ZcS g_ Z.enumerate_ ql) (fun _ _ _ _ _ => ⟨(ZdW rfl (qg (qg ZbU))), (ZgF (Zfv ql)), (ok_v qv)⟩))
  (Zb (ZK (Zu hu (Za (qB Zac Z.len_ Zad (Zd ql Ze))) Zh) (Zb ZaH
  Zf) Zf)
  (Zb (ZK (Zu hu (Za (qB Zac Z.len_ Zad (Zd ql Ze))) Zh) (Zb (Zl (qf g7 hr (Zd ql (Zd ql (Zd (Za (ZC hu ql Zh)) (Zd (Za (ZC hu ql Zh)) Ze))))))
  Zf) Zf)
  (Zb (ZK (Zu hu (Za (qB Zac Z.len_ Zad (Zd ql Ze))) Zh) (Zb (Za1 hu qv (Za (ZC hu ql Zh)) (qb (Za (ZaR (Za (qf g3 hr (Zd ql (Zd ql Ze)))))) ql))
  Zf) Zf)
  (Zb (ZK (ZaS (Za (qf g5 hr (Zd ql (Zd ql Ze))))) (Zb (Zl (Zbs qv))
  Zf) Zf)
  (Zb (Zl (qf g8 hr (Zd ql (Zd ql Ze))))
  Zf)))))))))
noncomputable def Zdc : List T.S := [.iff (.or (.nt (.bf (.isi .list) [.v 1])) (.cmp .NotEq (.bf .len [.v 1]) (.v 0))) [.ret (.k (.bl false))] [], .ret (.bf .all [.comp 1 [] (.name 0) .val [.v 1] [] (.and (.call ZH [.v 0]) (.chain .LtE .LtE (.k (.int 1)) (.v 0) (.k (.int 4))))])]
noncomputable def ZaI : T.FI := ⟨true, T.Zj C0 2 2 Zdc⟩
abbrev Zd6 (e : T.En) : Prop := e.fn "are_widths" 2 ["count", "things"] ZaI
theorem Zgb (F : T.TI e.K "are_widths" (top 23)) (Z : Txt e C) (g0 : ZbW e) : Zd6 e :=
 T.Zz (C := C0) (body := Zdc) (k := 1) Z.Y F ["count", "things"] fun _ _ _ _ _ _ _ hr =>
 have hu := hr.units
 (Zb (ZK (PW.pt (ZbE (Za9 (ZaS (Za (qi Z.isinstance_ ql Z.list_ Zn2)))) (Zcj (Zu hu (Za (qB Zac Z.len_ Zad (Zd ql Ze))) ql)))) (Zb (Zl (ok_k ZcJ))
  Zf) Zf)
  (Zb (Zl (qB (ZnJ rfl) Z.all_ ZnS (Zd (Za (Zbk rfl (cS ["thing"]) (Zaz ql) (fun _ _ _ _ _ => ⟨qt, ZaT, (Zcc (Za (qf g0 hr (Zd ql Ze))) (Zc8 (ZgJ hu Zh ql (Za (qgi Z.WIDEST_)))))⟩))) Ze)))
  Zf))
noncomputable def ZfN : List T.S := [.ret (.rev (.v 0))]
noncomputable def Zbg : T.FI := ⟨true, T.Zj C0 1 1 ZfN⟩
abbrev Ze5 (e : T.En) : Prop := e.fn "turned" 1 ["widths"] Zbg
theorem Zjz (F : T.TI e.K "turned" (top 24)) (Z : Txt e C)  : Ze5 e :=
 T.Zz (C := C0) (body := ZfN) (k := 0) Z.Y F ["widths"] fun _ _ _ _ _ _ _ hr =>
 (Zb (Zl (ZoP rfl g_ Z.list_ g_ Z.reversed_ ql))
  Zf)
noncomputable def Zer : List T.S := [.iff (.or (.nt (.call ZH [.v 0])) (.or (.cmp .NotIn (.v 0) (.g (.node .ftp false ((([4, 6] : List Int).map V.int).map D.sc)))) (.nt (.call ZH [.v 1])))) [.ret (.k (.bl false))] [], .iff (.or (.nt (.call ZaI [.v 0, .v 2])) (.nt (.call ZaI [.bin .Add (.v 0) (.k (.int 1)), .v 3]))) [.ret (.k (.bl false))] [], .iff (.or (.cmp .NotEq (.bf .sum [.v 2]) (.v 1)) (.cmp .NotEq (.bf .sum [.sl (.v 3) (.k .non) (.v 0)]) (.v 1))) [.ret (.k (.bl false))] [], .ret (.cmp .NotEq (.sl (.call Zbg [.v 3]) (.k .non) (.v 0)) (.v 2))]
noncomputable def ZbZ : T.FI := ⟨true, T.Zj C0 4 4 Zer⟩
abbrev ZeY (e : T.En) : Prop := e.fn "is_fount" 3 ["parts", "total", "start", "stop"] ZbZ
theorem Zhr (F : T.TI e.K "is_fount" (top 25)) (Z : Txt e C) (g0 : ZbW e) (g10 : Zd6 e) (g11 : Ze5 e) : ZeY e :=
 T.Zz (C := C0) (body := Zer) (k := 2) Z.Y F ["parts", "total", "start", "stop"] fun _ _ _ _ _ _ _ hr =>
 have hu := hr.units
 (Zb (ZK (PW.pt (ZbE (Za9 (ZaS (Za (qf g0 hr (Zd ql Ze))))) (ZbE (Zu hu ql (Za (qgu Z.PARTS_))) (Zcj (Za9 (ZaS (Za (qf g0 hr (Zd ql Ze))))))))) (Zb (Zl (ok_k ZcJ))
  Zf) Zf)
  (Zb (ZK (PW.pt (ZbE (Za9 (ZaS (Za (qf g10 hr (Zd ql (Zd ql Ze)))))) (Zcj (Za9 (ZaS (Za (qf g10 hr (Zd (Za (qb ql Zh)) (Zd ql Ze))))))))) (Zb (Zl (ok_k ZcJ))
  Zf) Zf)
  (Zb (ZK (PW.pt (ZbE (Zu hu (Za (qB (Zdy rfl) Z.sum_ Zd1 (Zd ql Ze))) ql) (Zcj (Zu hu (Za (qB (Zdy rfl) Z.sum_ Zd1 (Zd (Za (ZbT ql ZdO (Zam ql))) Ze))) ql)))) (Zb (Zl (ok_k ZcJ))
  Zf) Zf)
  (Zb (Zl (Zb5 hu (Za (ZbT (Za (qf g11 hr (Zd ql Ze))) ZdO (Zam ql))) ql))
  Zf))))
noncomputable def Zai (fi : T.FI) : List T.S := [.iff (.nt (.chain .LtE .LtE (.v 0) (.v 1) (.bin .Mult (.k (.int 4)) (.v 0)))) [.ret (.lst [])] [], .iff (.cmp .Eq (.v 0) (.k (.int 0))) [.ret (.lst [.lst []])] [], .asg 2 (.lst []), .for_ (.name 3) .rng2 [.k (.int 1), .bin .Add (.k (.int 4)) (.k (.int 1))] [.for_ (.name 4) .val [.call fi [.bin .Sub (.v 0) (.k (.int 1)), .bin .Sub (.v 1) (.v 3)]] [.ex (.mut .append 2 [] [.bin .Add (.lst [.v 3]) (.v 4)])]], .ret (.v 2)]
noncomputable def Z0 : Nat -> List T.D -> T.Rs (T.D × List T.D)
 | 0 => T.Zj C0 2 5 [.raise (.k .non)]
 | n + 1 => T.Zj C0 2 5 (Zai ⟨true, Z0 n⟩)
noncomputable def Zba : T.FI := ⟨true, Z0 7⟩
abbrev Zgc (e : T.En) : Prop := e.fn "patterns_of" 8 ["parts", "total"] Zba
theorem Zfy (F : T.TI e.K "patterns_of" (top 26)) (Z : Txt e C) : ∀ n, e.fn "patterns_of" (n + 1) ["parts", "total"] ⟨true, Z0 n⟩ := fun n => by
 induction n with
 | zero => exact T.Zz (C := C0) (body := [.raise (.k .non)]) (k := 0) Z.Y F ["parts", "total", "found", "width", "rest"] fun _ _ _ _ _ _ _ _ => T.Zk4
 | succ n G_self => exact T.Zz (C := C0) (body := Zai ⟨true, Z0 n⟩) (k := n + 1) Z.Y F ["parts", "total", "found", "width", "rest"] fun _ _ _ _ _ _ _ hr =>
  have hu := hr.units
  (Zb (ZK (Za9 (ZfJ hu ql ql (Za (qb (Za (qgi Z.WIDEST_)) ql)))) (Zb (Zl (ZJ Zy))
   Zf) Zf)
   (Zb (ZK (Zu hu ql Zh) (Zb (Zl (ZJ (Zs (ZJ Zy) Zy)))
   Zf) Zf)
   (Zb (qa (ZJ Zy))
   (Zb (Zmw PassesOwn.never rfl (hw_2 (Zae rfl) (Zae rfl)) (qr2 Z.range_ Zh (Za (qb (Za (qgi Z.WIDEST_)) Zh))) qt
   (Zb (Zaq PassesOwn.never rfl (ZaC _ _) (hw_1 (Zae rfl)) (Zaz (Za (qf G_self hr (Zd (Za (qb ql Zh)) (Zd (Za (qb ql ql)) Ze)) (hj := Nat.le_refl _)))) qt
   (Zb (Zce (Zdz qv (Zs (qb (Za (ZJ (Zs (ok_v qv) Zy))) ql) Zy)))
   Zf))
   Zf))
   (Zb (Zl (Zbs qv))
   Zf)))))
noncomputable def Zcy : List T.S := [.asg 2 (.bin .FloorDiv (.v 1) (.v 0)), .iff (.or (.cmp .Lt (.v 2) (.k (.int 2))) (.cmp .NotEq (.v 1) (.bin .Add (.bin .Mult (.v 2) (.v 0)) (.k (.int 1))))) [.raise (.k .non)] [], .ret (.v 2)]
noncomputable def ZS : T.FI := ⟨true, T.Zj C0 2 3 Zcy⟩
abbrev Zb7 (e : T.En) : Prop := e.fn "stretches_in" 1 ["parts", "width_count"] ZS
theorem ZeZ (F : T.TI e.K "stretches_in" (top 27)) (Z : Txt e C)  : Zb7 e :=
 T.Zz (C := C0) (body := Zcy) (k := 0) Z.Y F ["parts", "width_count", "stretches"] fun _ _ _ _ _ _ _ hr =>
 have hu := hr.units
 (Zb (qa (qb ql ql))
  (Zb (ZK (PW.pt (ZbE (Zu hu ql Zh) (Zcj (Zu hu ql (Za (qb (Za (qb ql ql)) Zh)))))) (Zb ZaH
  Zf) Zf)
  (Zb (Zl (Zbs qv))
  Zf)))
noncomputable def ZbO (C : Addr) : List T.S := [.iff (.nt (.call ZbZ [.v 1, .v 2, .v 3, .v 4])) [.raise (.k .non)] [], .attr 0 "part_count" (.v 1), .attr 0 "widths_sum" (.v 2), .attr 0 "opening" (.bf .list [.v 3]), .attr 0 "closing" (.bf .list [.v 4]), .attr 0 "shapes" (.call Zba [.v 1, .v 2]), .attr 0 "symbols_by_shape" (.dct0), .for_ (.tup [5, 6]) .enum [.fldV 0 "shapes", .k (.int 0)] [.dput 0 "symbols_by_shape" 6 5]]
noncomputable def Zak (C : Addr) : T.FI := ⟨true, T.Zj (CK C) 5 7 (ZbO C)⟩
abbrev Zco (e : T.En) (C : Addr) : Prop := e.nw "Fount" C 9 ["self", "parts", "total", "start", "stop"] (Zak C)
theorem Zeg (F : T.MI e.K C "__init__" "Fount.__init__" (Z6 (top 28) 0)) (Z : Txt e C) (g12 : ZeY e) (g13 : Zgc e) : Zco e C :=
 T.Zr4 (C := (CK C)) (body := (ZbO C)) (k := 8) Z.Y Z.ci F ["self", "parts", "total", "start", "stop", "symbol", "shape"] fun _ _ _ _ _ _ _ hr =>
 have hu := hr.units
 (Zb (ZK (Za9 (ZaS (Za (qf g12 hr (Zd ql (Zd ql (Zd ql (Zd ql Ze)))))))) (Zb ZaH
  Zf) Zf)
  (Zb (Zcf Z.fok qv (ok_v qv))
  (Zb (Zcf Z.fok qv (ok_v qv))
  (Zb (Zcf Z.fok qv (qT Zay Z.list_ Za0 (Zd ql Ze)))
  (Zb (Zcf Z.fok qv (qT Zay Z.list_ Za0 (Zd ql Ze)))
  (Zb (Zcf Z.fok qv (qf g13 hr (Zd ql (Zd ql Ze))))
  (Zb (Zcf Z.fok qv Zr0)
  (Zb (Zaq PassesOwn.never rfl (ZaC _ _) (hw_2 (Zae rfl) (Zae rfl)) (ZcS g_ Z.enumerate_ (Za (Zmt Z.fok qv))) (ZdW rfl (qg (qg ZbU)))
  (Zb (Zmv hu Z.fok g_ Z.tuple_ qv qv qv)
  Zf))
  Zf))))))))
noncomputable def ZcD (C : Addr) : List T.S := [.ret (.fld (.v 0) "part_count")]
noncomputable def Zbb (C : Addr) : T.FI := ⟨true, T.Zj (CK C) 1 1 (ZcD C)⟩
abbrev Zdd (e : T.En) (C : Addr) : Prop := e.me C "parts" 1 ["self"] (Zbb C)
theorem Zfz (F : T.MI e.K C "parts" "Fount.parts" (Z6 (top 28) 1)) (Z : Txt e C)  : Zdd e C :=
 T.Zcw (C := (CK C)) (body := (ZcD C)) (k := 0) Z.ci.cl F ["self"] fun _ _ _ _ _ _ _ hr =>
 (Zb (Zl (Zab Z.fok ql))
  Zf)
noncomputable def ZcE (C : Addr) : List T.S := [.ret (.fld (.v 0) "widths_sum")]
noncomputable def Zbc (C : Addr) : T.FI := ⟨true, T.Zj (CK C) 1 1 (ZcE C)⟩
abbrev Zde (e : T.En) (C : Addr) : Prop := e.me C "total" 1 ["self"] (Zbc C)
theorem Zf0 (F : T.MI e.K C "total" "Fount.total" (Z6 (top 28) 2)) (Z : Txt e C)  : Zde e C :=
 T.Zcw (C := (CK C)) (body := (ZcE C)) (k := 0) Z.ci.cl F ["self"] fun _ _ _ _ _ _ _ hr =>
 (Zb (Zl (Zab Z.fok ql))
  Zf)
noncomputable def Zdf (C : Addr) : List T.S := [.ret (.bf .list [.fld (.v 0) "closing"])]
noncomputable def Zbv (C : Addr) : T.FI := ⟨true, T.Zj (CK C) 1 1 (Zdf C)⟩
abbrev Zd7 (e : T.En) (C : Addr) : Prop := e.me C "stop" 1 ["self"] (Zbv C)
theorem Zgd (F : T.MI e.K C "stop" "Fount.stop" (Z6 (top 28) 4)) (Z : Txt e C)  : Zd7 e C :=
 T.Zcw (C := (CK C)) (body := (Zdf C)) (k := 0) Z.ci.cl F ["self"] fun _ _ _ _ _ _ _ hr =>
 (Zb (Zl (qT Zay Z.list_ Za0 (Zd (Za (Zab Z.fok ql)) Ze)))
  Zf)
noncomputable def ZbP (C : Addr) : List T.S := [.ret (.comp 1 [] (.name 0) .val [.fld (.v 0) "shapes"] [] (.bf .list [.v 0]))]
noncomputable def ZT (C : Addr) : T.FI := ⟨true, T.Zj (CK C) 1 1 (ZbP C)⟩
abbrev Zbh (e : T.En) (C : Addr) : Prop := e.me C "patterns" 1 ["self"] (ZT C)
theorem Zeh (F : T.MI e.K C "patterns" "Fount.patterns" (Z6 (top 28) 5)) (Z : Txt e C)  : Zbh e C :=
 T.Zcw (C := (CK C)) (body := (ZbP C)) (k := 0) Z.ci.cl F ["self"] fun _ _ _ _ _ _ _ hr =>
 (Zb (Zl (Zbk rfl (cS ["shape"]) (Zaz (Za (Zab Z.fok ql))) (fun _ _ _ _ _ => ⟨qt, ZaT, (qT Zay Z.list_ Za0 (Zd ql Ze))⟩)))
  Zf)
noncomputable def Zcp (C : Addr) : List T.S := [.ex (.call ZZ [.bf .len [.fld (.v 0) "shapes"], .v 1]), .asg 2 (.bf .list [.fld (.v 0) "opening"]), .for_ (.name 3) .val [.v 1] [.ex (.mut .extend 2 [] [.ix (.fld (.v 0) "shapes") (.v 3)])], .ret (.bin .Add (.v 2) (.fld (.v 0) "closing"))]
noncomputable def ZaD (C : Addr) : T.FI := ⟨true, T.Zj (CK C) 2 4 (Zcp C)⟩
abbrev Zcz (e : T.En) (C : Addr) : Prop := e.me C "printed" 4 ["self", "row"] (ZaD C)
theorem Ze6 (F : T.MI e.K C "printed" "Fount.printed" (Z6 (top 28) 6)) (Z : Txt e C) (g2 : Zbu e) : Zcz e C :=
 T.Zcw (C := (CK C)) (body := (Zcp C)) (k := 3) Z.ci.cl F ["self", "row", "widths", "symbol"] fun _ _ _ _ _ _ _ hr =>
 have hu := hr.units
 (Zb (Zce (qf g2 hr (Zd (Za (qB Zac Z.len_ Zad (Zd (Za (Zab Z.fok ql)) Ze))) (Zd ql Ze))))
  (Zb (qa (qT Zay Z.list_ Za0 (Zd (Za (Zab Z.fok ql)) Ze)))
  (Zb (Zaq PassesOwn.never rfl (ZaC _ _) (hw_1 (Zc9 rfl)) (Zaz ql) qt
  (Zb (Zce (Zjq qv (Zd (Za (ZC hu (Za (Zab Z.fok ql)) ql)) Ze)))
  Zf))
  (Zb (Zl (qb ql (Za (Zab Z.fok ql))))
  Zf))))
noncomputable def ZbI (C : Addr) : List T.S := [.asg 2 (.cmp .Eq (.sl (.v 1) (.k .non) (.bf .len [.fld (.v 0) "opening"])) (.fld (.v 0) "opening")), .ret (.and (.v 2) (.cmp .Eq (.sl (.v 1) (.neg (.bf .len [.fld (.v 0) "closing"])) (.k .non)) (.fld (.v 0) "closing")))]
noncomputable def Zaf (C : Addr) : T.FI := ⟨true, T.Zj (CK C) 2 3 (ZbI C)⟩
abbrev ZbQ (e : T.En) (C : Addr) : Prop := e.me C "is_framed" 1 ["self", "widths"] (Zaf C)
theorem Zd8 (F : T.MI e.K C "is_framed" "Fount.is_framed" (Z6 (top 28) 8)) (Z : Txt e C)  : ZbQ e C :=
 T.Zcw (C := (CK C)) (body := (ZbI C)) (k := 0) Z.ci.cl F ["self", "widths", "begins"] fun _ _ _ _ _ _ _ hr =>
 have hu := hr.units
 (Zb (qa (Zb5 hu (Za (ZbT ql ZdO (Zam (Za (qB Zac Z.len_ Zad (Zd (Za (Zab Z.fok ql)) Ze)))))) (Za (Zab Z.fok ql))))
  (Zb (Zl (Zcc ql (Zc8 (Zb5 hu (Za (ZbT ql (Zam (Za (ZaR (Za (qB Zac Z.len_ Zad (Zd (Za (Zab Z.fok ql)) Ze)))))) ZdO)) (Za (Zab Z.fok ql))))))
  Zf))
noncomputable def Zaw (C : Addr) : List T.S := [.asg 4 (.bin .Mult (.v 3) (.fld (.v 0) "part_count")), .asg 5 (.dget (.fld (.v 0) "symbols_by_shape") (.sl (.v 2) (.v 4) (.bin .Add (.v 4) (.fld (.v 0) "part_count")))), .ret (.ife (.or (.isN true (.v 5)) (.cmp .GtE (.v 5) (.v 1))) (.k .non) (.v 5))]
noncomputable def Z3 (C : Addr) : T.FI := ⟨true, T.Zj (CK C) 4 6 (Zaw C)⟩
abbrev Zcq (e : T.En) (C : Addr) : Prop := e.me C "thing_at" 1 ["self", "prime", "widths", "number"] (Z3 C)
theorem Zei (F : T.MI e.K C "thing_at" "Fount.thing_at" (Z6 (top 28) 9)) (Z : Txt e C)  : Zcq e C :=
 T.Zcw (C := (CK C)) (body := (Zaw C)) (k := 0) Z.ci.cl F ["self", "prime", "widths", "number", "first", "symbol"] fun _ _ _ _ _ _ _ hr =>
 have hu := hr.units
 (Zb (qa (qb ql (Za (Zab Z.fok ql))))
  (Zb (qa (Zmx hu g_ Z.tuple_ (Zab Z.fok ql) (ZbT ql (Zam ql) (Zam (Za (qb ql (Za (Zab Z.fok ql))))))))
  (Zb (Zl (Zjh (PW.pt (ZbE (Zfv ql) (Zcj (Zu hu ql ql)))) (ok_k Zgu) (ok_v qv)))
  Zf)))
noncomputable def Zc0 (C : Addr) : List T.S := [.asg 3 (.call ZS [.fld (.v 0) "part_count", .bf .len [.v 2]]), .for_ (.name 4) .val [.tup [.v 2, .call Zbg [.v 2]]] [.iff (.meth C "is_framed" (Zaf C) (.v 0) [.v 4]) [.ret (.comp 1 [1, 4, 0] (.name 0) .rng2 [.k (.int 1), .bin .Sub (.v 3) (.k (.int 1))] [] (.meth C "thing_at" (Z3 C) (.v 3) [.v 1, .v 2, .v 0]))] []], .raise (.k .non)]
noncomputable def Z8 (C : Addr) : T.FI := ⟨true, T.Zj (CK C) 3 5 (Zc0 C)⟩
abbrev ZcF (e : T.En) (C : Addr) : Prop := e.me C "looked" 2 ["self", "prime", "widths"] (Z8 C)
theorem Zfa (F : T.MI e.K C "looked" "Fount.looked" (Z6 (top 28) 7)) (Z : Txt e C) (g14 : Zb7 e) (g11 : Ze5 e) (g21 : ZbQ e C) (g22 : Zcq e C) : ZcF e C :=
 T.Zcw (C := (CK C)) (body := (Zc0 C)) (k := 1) Z.ci.cl F ["self", "prime", "widths", "stretches", "seen"] fun _ _ _ _ _ _ _ hr =>
 (Zb (qa (qf g14 hr (Zd (Za (Zab Z.fok ql)) (Zd (Za (qB Zac Z.len_ Zad (Zd ql Ze))) Ze))))
  (Zb (Zaq PassesOwn.never rfl (ZaC _ _) (hw_1 (Zae rfl)) (Zaz (Za (Zdx (Zs (ok_v qv) (Zs (qf g11 hr (Zd ql Ze)) Zy))))) qt
  (Zb (ZK (ZaS (Za (ZdU g21 hr ql (Zd ql Ze)))) (Zb (Zl (Zbk rfl (cS ["number", "prime", "seen", "self"]) (qr2 Z.range_ Zh (Za (qb ql Zh))) (fun _ _ _ _ _ => ⟨qt, ZaT, (ZdU g22 hr ql (Zd ql (Zd ql (Zd ql Ze))))⟩)))
  Zf) Zf)
  Zf))
  (Zb ZaH
  Zf)))
noncomputable def Zes : List T.S := [.asg 3 (.lst [.v 1]), .for_ (.name 4) .val [.v 0] [.ex (.mut .append 3 [] [.bin .Add (.ix (.v 3) (.neg (.k (.int 1)))) (.bin .Mult (.v 4) (.v 2))])], .ret (.v 3)]
noncomputable def Zca : T.FI := ⟨true, T.Zj C0 3 5 Zes⟩
abbrev Zfb (e : T.En) : Prop := e.fn "edges_of" 1 ["widths", "first", "unit"] Zca
theorem Zhs (F : T.TI e.K "edges_of" (top 30)) (Z : Txt e C)  : Zfb e :=
 T.Zz (C := C0) (body := Zes) (k := 0) Z.Y F ["widths", "first", "unit", "edges", "width"] fun _ _ _ _ _ _ _ hr =>
 have hu := hr.units
 (Zb (qa (ZJ (Zs (ok_v qv) Zy)))
  (Zb (Zaq PassesOwn.never rfl (ZaC _ _) (hw_1 (Zc9 rfl)) (Zaz ql) qt
  (Zb (Zce (Zdz qv (Zs (qb (Za (ZC hu ql (Za (ZaR Zh)))) (Za (qb ql ql))) Zy)))
  Zf))
  (Zb (Zl (Zbs qv))
  Zf)))
noncomputable def Zb1 : List T.S := [.ret (.bin .FloorDiv (.bin .Add (.bin .Mult (.k (.int 2)) (.v 0)) (.v 1)) (.bin .Mult (.k (.int 2)) (.v 1)))]
noncomputable def Z4 : T.FI := ⟨true, T.Zj C0 2 2 Zb1⟩
abbrev ZbJ (e : T.En) : Prop := e.fn "nearest_quotient" 1 ["number", "divisor"] Z4
theorem Zdn (F : T.TI e.K "nearest_quotient" (top 31)) (Z : Txt e C)  : ZbJ e :=
 T.Zz (C := C0) (body := Zb1) (k := 0) Z.Y F ["number", "divisor"] fun _ _ _ _ _ _ _ hr =>
 (Zb (Zl (qb (Za (qb (Za (qb Zh ql)) ql)) (Za (qb Zh ql))))
  Zf)
noncomputable def Zfc (C : Addr) : List T.S := [.asg 3 (.call ZS [.meth C "parts" (Zbb C) (.v 0) [], .bin .Sub (.bf .len [.v 2]) (.k (.int 1))]), .asg 4 (.comp 2 [] (.tup [0, 1]) .zip [.v 2, .sl (.v 2) (.k (.int 1)) (.k .non)] [] (.bin .Sub (.v 1) (.v 0))), .iff (.cmp .LtE (.bf .minL [.v 4]) (.k (.int 0))) [.raise (.k .non)] [], .asg 5 (.bin .Add (.bin .Mult (.meth C "total" (Zbc C) (.v 0) []) (.v 3)) (.ix (.meth C "stop" (Zbv C) (.v 0) []) (.neg (.k (.int 1))))), .asg 6 (.bin .Sub (.ix (.v 2) (.neg (.k (.int 1)))) (.ix (.v 2) (.k (.int 0)))), .ret (.meth C "looked" (Z8 C) (.v 0) [.v 1, .comp 1 [6, 5] (.name 0) .val [.v 4] [] (.call Z4 [.bin .Mult (.v 0) (.v 2), .v 1])])]
noncomputable def ZaJ (C : Addr) : T.FI := ⟨true, T.Zj (CK C) 3 7 (Zfc C)⟩
abbrev ZfO (e : T.En) (C : Addr) : Prop := e.fn "scanned" 3 ["fount", "prime", "edges"] (ZaJ C)
theorem Ziy (F : T.TI e.K "scanned" (top 32)) (Z : Txt e C) (g14 : Zb7 e) (g16 : Zdd e C) (g17 : Zde e C) (g18 : Zd7 e C) (g23 : ZcF e C) (g25 : ZbJ e) : ZfO e C :=
 T.Zz (C := (CK C)) (body := (Zfc C)) (k := 2) Z.Y F ["fount", "prime", "edges", "stretches", "distances", "whole", "span"] fun _ _ _ _ _ _ _ hr =>
 have hu := hr.units
 (Zb (qa (qf g14 hr (Zd (Za (Zcm g16 hr ql)) (Zd (Za (qb (Za (qB Zac Z.len_ Zad (Zd ql Ze))) Zh)) Ze))))
  (Zb (qs (cS ["ahead", "after"]) (ZoO g_ Z.zip_ ql (Za (ZbT ql (Zam Zh) ZdO))) (fun _ _ _ _ _ => ⟨(ZdW rfl (qg (qg ZbU))), ZaT, (qb ql ql)⟩))
  (Zb (ZK (Zu hu (Za (qB (Zmy rfl) Z.min_ Zjo (Zd ql Ze))) Zh) (Zb ZaH
  Zf) Zf)
  (Zb (qa (qb (Za (qb (Za (Zcm g17 hr ql)) ql)) (Za (ZC hu (Za (Zcm g18 hr ql)) (Za (ZaR Zh))))))
  (Zb (qa (qb (Za (ZC hu ql (Za (ZaR Zh)))) (Za (ZC hu ql Zh))))
  (Zb (Zl (ZdU g23 hr ql (Zd ql (Zd (Za (Zbk rfl (cS ["distance", "span", "whole"]) (Zaz ql) (fun _ _ _ _ _ => ⟨qt, ZaT, (qf g25 hr (Zd (Za (qb ql ql)) (Zd ql Ze)))⟩))) Ze))))
  Zf))))))
noncomputable def Zet : List T.S := [.for_ (.name 2) .val [.sl (.v 0) (.v 1) (.bin .Add (.v 1) (.k (.int 1)))] [.ret (.v 2)], .ret (.k (.int 0))]
noncomputable def Zp : T.FI := ⟨true, T.Zj C0 2 3 Zet⟩
abbrev Zfd (e : T.En) : Prop := e.fn "_law_nth" 1 ["_law_script", "_law_k"] Zp
theorem Zht (F : T.TI e.K "_law_nth" (top 34)) (Z : Txt e C)  : Zfd e :=
 T.Zz (C := C0) (body := Zet) (k := 0) Z.Y F ["_law_script", "_law_k", "_law_cell"] fun _ _ _ _ _ _ _ hr =>
 (Zb (Zaq PassesOwn.never rfl (ZaC _ _) (hw_1 (Zae rfl)) (Zaz (Za (ZbT ql (Zam ql) (Zam (Za (qb ql Zh)))))) qt
  (Zb (Zl (Zbs qv))
  Zf))
  (Zb (Zl (ok_k ZI))
  Zf))
noncomputable def Zbw : List T.S := [.asg 3 (.bin .Mod (.bin .Mult (.bin .Add (.bin .Mod (.v 0) (.k (.int 2305843009213693951))) (.k (.int 977))) (.bin .Add (.bin .Mult (.k (.int 2)) (.v 1)) (.k (.int 30011)))) (.k (.int 2305843009213693951))), .asg 3 (.bin .Add (.bin .FloorDiv (.v 3) (.k (.int 65537))) (.bin .Mult (.bin .Mod (.v 3) (.k (.int 65537))) (.bin .Add (.v 1) (.k (.int 5))))), .ret (.bin .Mod (.bin .Add (.bin .Mult (.bin .Mod (.v 3) (.k (.int 1000003))) (.k (.int 1000003))) (.bin .Mod (.bin .FloorDiv (.v 3) (.k (.int 97))) (.k (.int 1000003)))) (.v 2))]
noncomputable def ZbB : T.FI := ⟨true, T.Zj C0 3 4 Zbw⟩
abbrev Zeu (e : T.En) : Prop := e.fn "_law_spun" 1 ["_law_cell", "_law_turn", "_law_many"] ZbB
theorem ZgS (F : T.TI e.K "_law_spun" (top 35)) (Z : Txt e C)  : Zeu e :=
 T.Zz (C := C0) (body := Zbw) (k := 0) Z.Y F ["_law_cell", "_law_turn", "_law_many", "_law_number"] fun _ _ _ _ _ _ _ hr =>
 (Zb (qa (qb (Za (qb (Za (qb (Za (qb ql Zh)) Zh)) (Za (qb (Za (qb Zh ql)) Zh)))) Zh))
  (Zb (qa (qb (Za (qb ql Zh)) (Za (qb (Za (qb ql Zh)) (Za (qb ql Zh))))))
  (Zb (Zl (qb (Za (qb (Za (qb (Za (qb ql Zh)) Zh)) (Za (qb (Za (qb ql Zh)) Zh)))) ql))
  Zf)))
noncomputable def ZaO : List T.S := [.ret (.lst [.v 0, .bin .FloorDiv (.bf .abs [.v 0]) (.k (.int 2)), .k (.int 0)])]
noncomputable def Zaa : T.FI := ⟨true, T.Zj C0 1 1 ZaO⟩
abbrev ZbL (e : T.En) : Prop := e.fn "_law_source" 1 ["_law_cell"] Zaa
theorem Zf1 (F : T.TI e.K "_law_source" (top 36)) (Z : Txt e C)  : ZbL e :=
 T.Zz (C := C0) (body := ZaO) (k := 0) Z.Y F ["_law_cell"] fun _ _ _ _ _ _ _ hr =>
 (Zb (Zl (ZJ (Zs (ok_v qv) (Zs (qb (Za (qB ZnI Z.abs_ ZnR (Zd ql Ze))) Zh) (Zs (ok_k ZI) Zy)))))
  Zf)
noncomputable def Zbx : List T.S := [.unp [2, 3, 4] (.v 0), .sub 0 [] (.k (.int 1)) (.bin .FloorDiv (.v 3) (.v 1)), .sub 0 [] (.k (.int 2)) (.bin .Add (.v 4) (.k (.int 1))), .iff (.and (.cmp .Eq (.bin .Mod (.v 2) (.k (.int 2))) (.k (.int 1))) (.cmp .Gt (.v 3) (.k (.int 0)))) [.ret (.bin .Mod (.v 3) (.v 1))] [], .ret (.call ZbB [.v 2, .v 4, .v 1])]
noncomputable def Zn : T.FI := ⟨true, T.Zj C0 2 5 Zbx⟩
abbrev ZaA (e : T.En) : Prop := e.fn "_law_next" 2 ["_law_source_here", "_law_many"] Zn
theorem ZgT (F : T.TI e.K "_law_next" (top 37)) (Z : Txt e C) (g28 : Zeu e) : ZaA e :=
 T.Zz (C := C0) (body := Zbx) (k := 1) Z.Y F ["_law_source_here", "_law_many", "_law_cell", "_law_number", "_law_turn"] fun _ _ _ _ _ _ _ hr =>
 have hu := hr.units
 (Zb (ZgC rfl ql (qg (qg (qg ZbU))))
  (Zb (Za1 hu qv Zh (qb ql ql))
  (Zb (Za1 hu qv Zh (qb ql Zh))
  (Zb (ZK (PW.pt (ZlM (Zu hu (Za (qb ql Zh)) Zh) (ZlL (Zu hu ql Zh)))) (Zb (Zl (qb ql ql))
  Zf) Zf)
  (Zb (Zl (qf g28 hr (Zd ql (Zd ql (Zd ql Ze)))))
  Zf)))))
noncomputable def Zd9 : List T.S := [.asg 2 (.lst [.k (.int 0), .k (.int 0)]), .for_ (.name 3) .rng2 [.k (.int 1), .bin .Add (.bf .len [.v 1]) (.k (.int 1))] [.asg 2 (.lst [.bin .Mod (.bin .Add (.ix (.v 2) (.k (.int 0))) (.ix (.v 1) (.bin .Sub (.v 3) (.k (.int 1))))) (.v 0), .bin .Mod (.bin .Add (.ix (.v 2) (.k (.int 1))) (.bin .Mult (.v 3) (.ix (.v 1) (.bin .Sub (.v 3) (.k (.int 1)))))) (.v 0)])], .ret (.v 2)]
noncomputable def ZaW : T.FI := ⟨true, T.Zj C0 2 4 Zd9⟩
abbrev Zev (e : T.En) : Prop := e.fn "_law_sums" 1 ["_law_prime", "_law_row"] ZaW
theorem ZgU (F : T.TI e.K "_law_sums" (top 38)) (Z : Txt e C)  : Zev e :=
 T.Zz (C := C0) (body := Zd9) (k := 0) Z.Y F ["_law_prime", "_law_row", "_law_sums_here", "_law_place"] fun _ _ _ _ _ _ _ hr =>
 have hu := hr.units
 (Zb (qa (ZJ (Zs (ok_k ZI) (Zs (ok_k ZI) Zy))))
  (Zb (Zaq PassesOwn.never rfl (ZaC _ _) (hw_2 (Zae rfl) (Zae rfl)) (qr2 Z.range_ Zh (Za (qb (Za (qB Zac Z.len_ Zad (Zd ql Ze))) Zh))) qt
  (Zb (qa (ZJ (Zs (qb (Za (qb (Za (ZC hu ql Zh)) (Za (ZC hu ql (Za (qb ql Zh)))))) ql) (Zs (qb (Za (qb (Za (ZC hu ql Zh)) (Za (qb ql (Za (ZC hu ql (Za (qb ql Zh)))))))) ql) Zy))))
  Zf))
  (Zb (Zl (Zbs qv))
  Zf)))
noncomputable def Zdg : List T.S := [.for_ (.name 2) .rng1 [.v 0] [.asg 3 (.bin .Mod (.bin .Sub (.bin .Sub (.k (.int 0)) (.bf .sum [.v 1])) (.v 2)) (.v 0)), .iff (.cmp .Eq (.call ZaW [.v 0, .bin .Add (.v 1) (.lst [.v 3, .v 2])]) (.lst [.k (.int 0), .k (.int 0)])) [.ret (.bin .Add (.v 1) (.lst [.v 3, .v 2]))] []], .ret (.lst [])]
noncomputable def Zby : T.FI := ⟨true, T.Zj C0 2 4 Zdg⟩
abbrev ZdA (e : T.En) : Prop := e.fn "_law_label" 2 ["_law_prime", "_law_row"] Zby
theorem Zge (F : T.TI e.K "_law_label" (top 39)) (Z : Txt e C) (g31 : Zev e) : ZdA e :=
 T.Zz (C := C0) (body := Zdg) (k := 1) Z.Y F ["_law_prime", "_law_row", "_law_last", "_law_other"] fun _ _ _ _ _ _ _ hr =>
 have hu := hr.units
 (Zb (Zaq PassesOwn.never rfl (ZaC _ _) (hw_1 (Zc9 rfl)) (qr1 Z.range_ ql) qt
  (Zb (qa (qb (Za (qb (Za (qb Zh (Za (qB (Zdy rfl) Z.sum_ Zd1 (Zd ql Ze))))) ql)) ql))
  (Zb (ZK (Zu hu (Za (qf g31 hr (Zd ql (Zd (Za (qb ql (Za (ZJ (Zs (ok_v qv) (Zs (ok_v qv) Zy)))))) Ze)))) (Za (ZJ (Zs (ok_k ZI) (Zs (ok_k ZI) Zy))))) (Zb (Zl (qb ql (Za (ZJ (Zs (ok_v qv) (Zs (ok_v qv) Zy))))))
  Zf) Zf)
  Zf)))
  (Zb (Zl (ZJ Zy))
  Zf))
noncomputable def ZcG : List T.S := [.asg 3 (.lst []), .asg 4 (.v 2), .for_ (.name 5) .rng3 [.bin .Sub (.v 1) (.k (.int 1)), .neg (.k (.int 1)), .neg (.k (.int 1))] [.asg 6 (.bf .max [.k (.int 1), .bin .Sub (.v 4) (.bin .Mult (.k (.int 4)) (.v 5))]), .asg 7 (.bf .min [.k (.int 4), .bin .Sub (.v 4) (.v 5)]), .asg 8 (.bin .Add (.v 6) (.call Zn [.v 0, .bin .Add (.bin .Sub (.v 7) (.v 6)) (.k (.int 1))])), .ex (.mut .append 3 [] [.v 8]), .asg 4 (.bin .Sub (.v 4) (.v 8))], .ret (.v 3)]
noncomputable def Za6 : T.FI := ⟨true, T.Zj C0 3 9 ZcG⟩
abbrev Zdh (e : T.En) : Prop := e.fn "_law_widths" 3 ["_law_source_here", "_law_parts", "_law_total"] Za6
theorem Zf2 (F : T.TI e.K "_law_widths" (top 40)) (Z : Txt e C) (g30 : ZaA e) : Zdh e :=
 T.Zz (C := C0) (body := ZcG) (k := 2) Z.Y F ["_law_source_here", "_law_parts", "_law_total", "_law_found", "_law_rest", "_law_left", "_law_low", "_law_high", "_law_width"] fun _ _ _ _ _ _ _ hr =>
 (Zb (qa (ZJ Zy))
  (Zb (qa (ok_v qv))
  (Zb (Zaq PassesOwn.never rfl (ZaC _ _) (hw_3 (Zae rfl) (Zae rfl) (Zae rfl)) (Zmq g_ Z.range_ (Zd (Za (qb ql Zh)) (Zd (Za (ZaR Zh)) (Zd (Za (ZaR Zh)) Ze)))) qt
  (Zb (qa (qB (ZnL rfl) Z.max_ ZnT (Zd Zh (Zd (Za (qb ql (Za (qb Zh ql)))) Ze))))
  (Zb (qa (qB (ZnK rfl) Z.min_ Zjo (Zd Zh (Zd (Za (qb ql ql)) Ze))))
  (Zb (qa (qb ql (Za (qf g30 hr (Zd ql (Zd (Za (qb (Za (qb ql ql)) Zh)) Ze))))))
  (Zb (Zce (Zdz qv (Zs (ok_v qv) Zy)))
  (Zb (qa (qb ql ql))
  Zf))))))
  (Zb (Zl (Zbs qv))
  Zf))))
noncomputable def Zdi : List T.S := [.asg 2 (.call Zaa [.v 0]), .asg 3 (.call Zaa [.v 1]), .asg 4 (.ix (.lst [.k (.int 4), .k (.int 6)]) (.call Zn [.v 2, .k (.int 2)])), .asg 5 (.bin .Add (.ix (.lst [.k (.int 6), .k (.int 7)]) (.bin .Sub (.bin .FloorDiv (.v 4) (.k (.int 2))) (.k (.int 2)))) (.call Zn [.v 2, .ix (.lst [.k (.int 9), .k (.int 17)]) (.bin .Sub (.bin .FloorDiv (.v 4) (.k (.int 2))) (.k (.int 2)))])), .asg 6 (.call Za6 [.v 2, .v 4, .v 5]), .asg 7 (.bin .Add (.call Za6 [.v 3, .v 4, .v 5]) (.lst [.bin .Add (.k (.int 1)) (.call Zn [.v 3, .k (.int 4)])])), .iff (.cmp .Eq (.sl (.rev (.v 7)) (.k .non) (.v 4)) (.v 6)) [.sub 7 [] (.neg (.k (.int 1))) (.bin .Add (.bin .Mod (.ix (.v 7) (.neg (.k (.int 1)))) (.k (.int 4))) (.k (.int 1)))] [], .ret (.tup [.v 4, .v 5, .v 6, .v 7])]
noncomputable def ZaK : T.FI := ⟨true, T.Zj C0 2 8 Zdi⟩
abbrev ZdB (e : T.En) : Prop := e.fn "_law_fount" 4 ["_law_one", "_law_two"] ZaK
theorem Zgf (F : T.TI e.K "_law_fount" (top 41)) (Z : Txt e C) (g29 : ZbL e) (g30 : ZaA e) (g33 : Zdh e) : ZdB e :=
 T.Zz (C := C0) (body := Zdi) (k := 3) Z.Y F ["_law_one", "_law_two", "_law_first", "_law_second", "_law_parts", "_law_total", "_law_start", "_law_stop"] fun _ _ _ _ _ _ _ hr =>
 have hu := hr.units
 (Zb (qa (qf g29 hr (Zd ql Ze)))
  (Zb (qa (qf g29 hr (Zd ql Ze)))
  (Zb (qa (ZC hu (Za (ZJ (Zs (ok_k ZI) (Zs (ok_k ZI) Zy)))) (Za (qf g30 hr (Zd ql (Zd Zh Ze))))))
  (Zb (qa (qb (Za (ZC hu (Za (ZJ (Zs (ok_k ZI) (Zs (ok_k ZI) Zy)))) (Za (qb (Za (qb ql Zh)) Zh)))) (Za (qf g30 hr (Zd ql (Zd (Za (ZC hu (Za (ZJ (Zs (ok_k ZI) (Zs (ok_k ZI) Zy)))) (Za (qb (Za (qb ql Zh)) Zh)))) Ze))))))
  (Zb (qa (qf g33 hr (Zd ql (Zd ql (Zd ql Ze)))))
  (Zb (qa (qb (Za (qf g33 hr (Zd ql (Zd ql (Zd ql Ze))))) (Za (ZJ (Zs (qb Zh (Za (qf g30 hr (Zd ql (Zd Zh Ze))))) Zy)))))
  (Zb (ZK (Zu hu (Za (ZbT (Za (ZhK ql (Zlj ZI))) ZdO (Zam ql))) ql) (Zb (Za1 hu qv (Za (ZaR Zh)) (qb (Za (qb (Za (ZC hu ql (Za (ZaR Zh)))) Zh)) Zh))
  Zf) Zf)
  (Zb (Zl (Zdx (Zs (ok_v qv) (Zs (ok_v qv) (Zs (ok_v qv) (Zs (ok_v qv) Zy))))))
  Zf))))))))
noncomputable def Zcr : List T.S := [.asg 2 (.comp 1 [1] (.name 0) .val [.kl [(.int 5), (.int 7), (.int 11), (.int 13), (.int 17), (.int 19), (.int 23), (.int 29), (.int 31), (.int 37), (.int 41), (.int 43), (.int 47)]] [.cmp .LtE (.v 0) (.v 1)] (.v 0)), .ret (.ix (.v 2) (.bin .Mod (.v 0) (.bf .len [.v 2])))]
noncomputable def ZaE : T.FI := ⟨true, T.Zj C0 2 3 Zcr⟩
abbrev Zc1 (e : T.En) : Prop := e.fn "_law_prime_of" 1 ["_law_cell", "_law_many"] ZaE
theorem Ze7 (F : T.TI e.K "_law_prime_of" (top 42)) (Z : Txt e C)  : Zc1 e :=
 T.Zz (C := C0) (body := Zcr) (k := 0) Z.Y F ["_law_cell", "_law_many", "_law_some"] fun _ _ _ _ _ _ _ hr =>
 have hu := hr.units
 (Zb (qs (cS ["_law_prime", "_law_many"]) (Zaz (Za (Zqc (vs := [(.int 5), (.int 7), (.int 11), (.int 13), (.int 17), (.int 19), (.int 23), (.int 29), (.int 31), (.int 37), (.int 41), (.int 43), (.int 47)]) (by kernel_rfl)))) (fun _ _ _ _ _ => ⟨qt, (ZgF (Zu hu ql ql)), (ok_v qv)⟩))
  (Zb (Zl (ZC hu ql (Za (qb ql (Za (qB Zac Z.len_ Zad (Zd ql Ze)))))))
  Zf))
noncomputable def ZaP : List T.S := [.asg 4 (.bf .list [.v 1]), .asg 5 (.bf .list [.v 1]), .asg 6 (.call Zn [.v 0, .k (.int 4)]), .iff (.cmp .Eq (.v 6) (.k (.int 0))) [.ret (.tup [.v 4, .v 5])] [], .iff (.or (.cmp .Eq (.v 6) (.k (.int 1))) (.cmp .Eq (.v 3) (.v 2))) [.asg 7 (.call Zn [.v 0, .bf .len [.v 1]]), .sub 4 [] (.v 7) (.bin .Mod (.bin .Add (.bin .Add (.ix (.v 1) (.v 7)) (.k (.int 1))) (.call Zn [.v 0, .bin .Sub (.v 2) (.k (.int 1))])) (.v 2)), .sub 5 [] (.v 7) (.ix (.v 4) (.v 7)), .ret (.tup [.v 4, .v 5])] [], .for_ (.name 8) .rng1 [.bin .Sub (.v 6) (.k (.int 1))] [.asg 7 (.call Zn [.v 0, .bf .len [.v 1]]), .sub 4 [] (.v 7) (.bin .Add (.v 2) (.call Zn [.v 0, .bin .Sub (.v 3) (.v 2)])), .sub 5 [] (.v 7) (.k .non)], .ret (.tup [.v 4, .v 5])]
noncomputable def Za7 : T.FI := ⟨true, T.Zj C0 4 9 ZaP⟩
abbrev Zdj (e : T.En) : Prop := e.fn "_law_spoilt" 3 ["_law_source_here", "_law_label_here", "_law_prime", "_law_many"] Za7
theorem Zf3 (F : T.TI e.K "_law_spoilt" (top 43)) (Z : Txt e C) (g30 : ZaA e) : Zdj e :=
 T.Zz (C := C0) (body := ZaP) (k := 2) Z.Y F ["_law_source_here", "_law_label_here", "_law_prime", "_law_many", "_law_symbols", "_law_things", "_law_way", "_law_at", "_law_turn"] fun _ _ _ _ _ _ _ hr =>
 have hu := hr.units
 (Zb (qa (qT Zay Z.list_ Za0 (Zd ql Ze)))
  (Zb (qa (qT Zay Z.list_ Za0 (Zd ql Ze)))
  (Zb (qa (qf g30 hr (Zd ql (Zd Zh Ze))))
  (Zb (ZK (Zu hu ql Zh) (Zb (Zl (Zdx (Zs (ok_v qv) (Zs (ok_v qv) Zy))))
  Zf) Zf)
  (Zb (ZK (PW.pt (ZbE (Zu hu ql Zh) (Zcj (Zu hu ql ql)))) (Zb (qa (qf g30 hr (Zd ql (Zd (Za (qB Zac Z.len_ Zad (Zd ql Ze))) Ze))))
  (Zb (Za1 hu qv ql (qb (Za (qb (Za (qb (Za (ZC hu ql ql)) Zh)) (Za (qf g30 hr (Zd ql (Zd (Za (qb ql Zh)) Ze)))))) ql))
  (Zb (Za1 hu qv ql (ZC hu ql ql))
  (Zb (Zl (Zdx (Zs (ok_v qv) (Zs (ok_v qv) Zy))))
  Zf)))) Zf)
  (Zb (Zaq PassesOwn.never rfl (ZaC _ _) (hw_1 (Zae rfl)) (qr1 Z.range_ (Za (qb ql Zh))) qt
  (Zb (qa (qf g30 hr (Zd ql (Zd (Za (qB Zac Z.len_ Zad (Zd ql Ze))) Ze))))
  (Zb (Za1 hu qv ql (qb ql (Za (qf g30 hr (Zd ql (Zd (Za (qb ql ql)) Ze))))))
  (Zb (Za1 hu qv ql (ok_k Zgu))
  Zf))))
  (Zb (Zl (Zdx (Zs (ok_v qv) (Zs (ok_v qv) Zy))))
  Zf)))))))
noncomputable def Zdk : List T.S := [.asg 3 (.bin .FloorDiv (.v 1) (.k (.int 8))), .ret (.comp 1 [3, 2] (.name 0) .val [.v 0] [] (.bin .Sub (.bin .Add (.v 0) (.call Zn [.v 2, .bin .Add (.bin .Mult (.k (.int 2)) (.v 1)) (.k (.int 1))])) (.v 1)))]
noncomputable def Zbz : T.FI := ⟨true, T.Zj C0 3 4 Zdk⟩
abbrev ZdC (e : T.En) : Prop := e.fn "_law_moved" 3 ["_law_edges", "_law_unit", "_law_source_here"] Zbz
theorem Zgg (F : T.TI e.K "_law_moved" (top 44)) (Z : Txt e C) (g30 : ZaA e) : ZdC e :=
 T.Zz (C := C0) (body := Zdk) (k := 2) Z.Y F ["_law_edges", "_law_unit", "_law_source_here", "_law_most"] fun _ _ _ _ _ _ _ hr =>
 (Zb (qa (qb ql Zh))
  (Zb (Zl (Zbk rfl (cS ["_law_edge", "_law_most", "_law_source_here"]) (Zaz ql) (fun _ _ _ _ _ => ⟨qt, ZaT, (qb (Za (qb ql (Za (qf g30 hr (Zd ql (Zd (Za (qb (Za (qb Zh ql)) Zh)) Ze)))))) ql)⟩)))
  Zf))
noncomputable def Zdl (C : Addr) : List T.S := [.asg 6 (.call Zaa [.v 5]), .unp [7, 8] (.call Za7 [.v 6, .v 2, .v 1, .bf .len [.meth C "patterns" (ZT C) (.v 0) []]]), .asg 9 (.call Zn [.v 6, .k (.int 2)]), .asg 10 (.call Zbz [.call Zca [.meth C "printed" (ZaD C) (.v 0) [.v 7], .v 3, .v 4], .v 4, .v 6]), .iff (.cmp .Eq (.v 9) (.k (.int 1))) [.asg 10 (.comp 1 [] (.name 0) .val [.rev (.v 10)] [] (.bin .Sub (.bin .Pow (.k (.int 10)) (.k (.int 17))) (.v 0)))] [], .asg 11 (.call (ZaJ C) [.v 0, .v 1, .v 10]), .ret (.and (.cmp .Eq (.v 11) (.v 8)) (.cmp .Eq (.call Zbf [.v 1, .v 11]) (.v 2)))]
noncomputable def Za2 (C : Addr) : T.FI := ⟨true, T.Zj (CK C) 6 12 (Zdl C)⟩
abbrev ZdD (e : T.En) (C : Addr) : Prop := e.fn "_law_right" 5 ["_law_fount_here", "_law_prime", "_law_label_here", "_law_first", "_law_unit", "_law_cell"] (Za2 C)
theorem Zgh (F : T.TI e.K "_law_right" (top 45)) (Z : Txt e C) (g29 : ZbL e) (g36 : Zdj e) (g19 : Zbh e C) (g30 : ZaA e) (g37 : ZdC e) (g24 : Zfb e) (g20 : Zcz e C) (g26 : ZfO e C) (g9 : ZgR e) : ZdD e C :=
 T.Zz (C := (CK C)) (body := (Zdl C)) (k := 4) Z.Y F ["_law_fount_here", "_law_prime", "_law_label_here", "_law_first", "_law_unit", "_law_cell", "_law_source_here", "_law_symbols", "_law_things", "_law_turned", "_law_edges", "_law_found"] fun _ _ _ _ _ _ _ hr =>
 have hu := hr.units
 (Zb (qa (qf g29 hr (Zd ql Ze)))
  (Zb (ZgC rfl (Za (qf g36 hr (Zd ql (Zd ql (Zd ql (Zd (Za (qB Zac Z.len_ Zad (Zd (Za (Zcm g19 hr ql)) Ze))) Ze)))))) (qg (qg ZbU)))
  (Zb (qa (qf g30 hr (Zd ql (Zd Zh Ze))))
  (Zb (qa (qf g37 hr (Zd (Za (qf g24 hr (Zd (Za (ZdU g20 hr ql (Zd ql Ze))) (Zd ql (Zd ql Ze))))) (Zd ql (Zd ql Ze)))))
  (Zb (ZK (Zu hu ql Zh) (Zb (qs (cS ["_law_edge"]) (Zaz (Za (ZhK ql (Zlj ZI)))) (fun _ _ _ _ _ => ⟨qt, ZaT, (qb (Za (qb Zh Zh)) ql)⟩))
  Zf) Zf)
  (Zb (qa (qf g26 hr (Zd ql (Zd ql (Zd ql Ze)))))
  (Zb (Zl (Zcc (Za (Zb5 hu ql ql)) (Zc8 (Zb5 hu (Za (qf g9 hr (Zd ql (Zd ql Ze)))) ql))))
  Zf)))))))
noncomputable def Zfe (C : Addr) : List T.S := [.unp [1, 2, 3, 4] (.call ZaK [.call Zp [.v 0, .k (.int 0)], .call Zp [.v 0, .k (.int 1)]]), .asg 5 (.new C (Zak C) [.v 1, .v 2, .bf .list [.v 3], .bf .list [.v 4]]), .asg 6 (.call ZaE [.call Zp [.v 0, .k (.int 2)], .bf .len [.meth C "patterns" (ZT C) (.v 5) []]]), .asg 7 (.call Zp [.v 0, .k (.int 3)]), .asg 8 (.call Zby [.v 6, .comp 1 [6, 0] (.name 0) .rng1 [.bin .Mod (.bin .FloorDiv (.v 7) (.k (.int 4))) (.bin .Sub (.v 6) (.k (.int 1)))] [] (.bin .Mod (.call Zp [.v 2, .bin .Add (.k (.int 6)) (.v 0)]) (.v 1))]), .asg 9 (.bin .Add (.k (.int 8)) (.bin .Mod (.call Zp [.v 0, .k (.int 5)]) (.ix (.lst [.k (.int 10), .k (.int 100), .bin .Pow (.k (.int 10)) (.k (.int 6)), .bin .Pow (.k (.int 10)) (.k (.int 12))]) (.bin .Mod (.v 7) (.k (.int 4)))))), .for_ (.name 10) .val [.bin .Add (.lst [.call Zp [.v 0, .k (.int 53)]]) (.sl (.v 0) (.k (.int 54)) (.k (.int 62)))] [.iff (.nt (.call (Za2 C) [.v 5, .v 6, .v 8, .bin .Mod (.call Zp [.v 0, .k (.int 4)]) (.bin .Pow (.k (.int 10)) (.k (.int 17))), .v 9, .v 10])) [.ret (.k (.bl false))] []], .ret (.k (.bl true))]
noncomputable def Zgq (C : Addr) : T.FI := ⟨true, T.Zj (CK C) 1 11 (Zfe C)⟩
theorem ZoR {f : Addr} {fd : FuncData} (F : Fun e.K "law" "law" (top 46) f fd) (Z : Txt e C) (g34 : ZdB e) (g27 : Zfd e) (g15 : Zco e C) (g35 : Zc1 e) (g19 : Zbh e C) (g32 : ZdA e) (g38 : ZdD e C) : FnOk e.P e.w e.K e.mg e.base CX0 11 f fd ["_law_script"] (T.spF e.K (Zgq C).run) :=
 T.ZoQ (C := (CK C)) (body := (Zfe C)) (k := 10) F ["_law_script", "_law_parts", "_law_total", "_law_start", "_law_stop", "_law_fount_here", "_law_prime", "_law_cell", "_law_label_here", "_law_unit", "_law_one"] fun _ _ _ _ _ _ _ hr =>
 have hu := hr.units
 (Zb (ZgC rfl (Za (qf g34 hr (Zd (Za (qf g27 hr (Zd ql (Zd Zh Ze)))) (Zd (Za (qf g27 hr (Zd ql (Zd Zh Ze)))) Ze)))) (qg (qg (qg (qg ZbU)))))
  (Zb (qa (qn g15 hr (Zd ql (Zd ql (Zd (Za (qT Zay Z.list_ Za0 (Zd ql Ze))) (Zd (Za (qT Zay Z.list_ Za0 (Zd ql Ze))) Ze))))))
  (Zb (qa (qf g35 hr (Zd (Za (qf g27 hr (Zd ql (Zd Zh Ze)))) (Zd (Za (qB Zac Z.len_ Zad (Zd (Za (Zcm g19 hr ql)) Ze))) Ze))))
  (Zb (qa (qf g27 hr (Zd ql (Zd Zh Ze))))
  (Zb (qa (qf g32 hr (Zd ql (Zd (Za (Zbk rfl (cS ["_law_k", "_law_prime", "_law_script"]) (qr1 Z.range_ (Za (qb (Za (qb ql Zh)) (Za (qb ql Zh))))) (fun _ _ _ _ _ => ⟨qt, ZaT, (qb (Za (qf g27 hr (Zd ql (Zd (Za (qb Zh ql)) Ze)))) ql)⟩))) Ze))))
  (Zb (qa (qb Zh (Za (qb (Za (qf g27 hr (Zd ql (Zd Zh Ze)))) (Za (ZC hu (Za (ZJ (Zs (ok_k ZI) (Zs (ok_k ZI) (Zs (qb Zh Zh) (Zs (qb Zh Zh) Zy)))))) (Za (qb ql Zh))))))))
  (Zb (Zaq PassesOwn.never rfl (ZaC _ _) (hw_1 (Zae rfl)) (Zaz (Za (qb (Za (ZJ (Zs (qf g27 hr (Zd ql (Zd Zh Ze))) Zy))) (Za (ZbT ql (Zam Zh) (Zam Zh)))))) qt
  (Zb (ZK (Za9 (ZaS (Za (qf g38 hr (Zd ql (Zd ql (Zd ql (Zd (Za (qb (Za (qf g27 hr (Zd ql (Zd Zh Ze)))) (Za (qb Zh Zh)))) (Zd ql (Zd ql Ze)))))))))) (Zb (Zl (ok_k ZcJ))
  Zf) Zf)
  Zf))
  (Zb (Zl (ok_k ZcJ))
  Zf))))))))
theorem ZoS {l : PySem.W.OpenLaw} {w : World} {K : Fg} {h : Heap} {mg : SO} {fa C : Addr} (X : K.In h) (G : h.Ns mainGlobals mg) (hfa : mg "law" = some (.ref fa))
 (cC : T.CI K "Fount" C)
 (nF0 : PySem.W.findIn K (.ref C) "part_count" = some none)
 (nF1 : PySem.W.findIn K (.ref C) "widths_sum" = some none)
 (nF2 : PySem.W.findIn K (.ref C) "opening" = some none)
 (nF3 : PySem.W.findIn K (.ref C) "closing" = some none)
 (nF4 : PySem.W.findIn K (.ref C) "shapes" = some none)
 (nF5 : PySem.W.findIn K (.ref C) "symbols_by_shape" = some none)
 (d0 : T.TI K "is_whole" (top 8))
 (d1 : T.TI K "is_symbol" (top 9))
 (d2 : T.TI K "check_symbols" (top 10))
 (d3 : T.TI K "plain_sum" (top 13))
 (d4 : T.TI K "weighed_sum" (top 14))
 (d5 : T.TI K "is_good" (top 15))
 (d6 : T.TI K "quotient" (top 16))
 (d7 : T.TI K "with_two_filled" (top 17))
 (d8 : T.TI K "with_one_righted" (top 18))
 (d9 : T.TI K "mended" (top 19))
 (d10 : T.TI K "are_widths" (top 23))
 (d11 : T.TI K "turned" (top 24))
 (d12 : T.TI K "is_fount" (top 25))
 (d13 : T.TI K "patterns_of" (top 26))
 (d14 : T.TI K "stretches_in" (top 27))
 (d15 : T.MI K C "__init__" "Fount.__init__" (Z6 (top 28) 0))
 (d16 : T.MI K C "parts" "Fount.parts" (Z6 (top 28) 1))
 (d17 : T.MI K C "total" "Fount.total" (Z6 (top 28) 2))
 (d18 : T.MI K C "stop" "Fount.stop" (Z6 (top 28) 4))
 (d19 : T.MI K C "patterns" "Fount.patterns" (Z6 (top 28) 5))
 (d20 : T.MI K C "printed" "Fount.printed" (Z6 (top 28) 6))
 (d21 : T.MI K C "is_framed" "Fount.is_framed" (Z6 (top 28) 8))
 (d22 : T.MI K C "thing_at" "Fount.thing_at" (Z6 (top 28) 9))
 (d23 : T.MI K C "looked" "Fount.looked" (Z6 (top 28) 7))
 (d24 : T.TI K "edges_of" (top 30))
 (d25 : T.TI K "nearest_quotient" (top 31))
 (d26 : T.TI K "scanned" (top 32))
 (d27 : T.TI K "_law_nth" (top 34))
 (d28 : T.TI K "_law_spun" (top 35))
 (d29 : T.TI K "_law_source" (top 36))
 (d30 : T.TI K "_law_next" (top 37))
 (d31 : T.TI K "_law_sums" (top 38))
 (d32 : T.TI K "_law_label" (top 39))
 (d33 : T.TI K "_law_widths" (top 40))
 (d34 : T.TI K "_law_fount" (top 41))
 (d35 : T.TI K "_law_prime_of" (top 42))
 (d36 : T.TI K "_law_spoilt" (top 43))
 (d37 : T.TI K "_law_moved" (top 44))
 (d38 : T.TI K "_law_right" (top 45))
 (d39 : T.TI K "law" (top 46))
 (z0 : T.NI K "abs")
 (z1 : T.NI K "all")
 (z2 : T.NI K "bool")
 (z3 : T.NI K "enumerate")
 (z4 : T.NI K "int")
 (z5 : T.NI K "isinstance")
 (z6 : T.NI K "len")
 (z7 : T.NI K "list")
 (z8 : T.NI K "max")
 (z9 : T.NI K "min")
 (z10 : T.NI K "range")
 (z11 : T.NI K "reversed")
 (z12 : T.NI K "sum")
 (z13 : T.NI K "tuple")
 (z14 : T.NI K "zip")
 {tc0 : Tok} (zc0 : PySem.W.nsIn K mainGlobals "CHECK_SYMBOLS" = some (some (.int 2 tc0)))
 {tc1 : Tok} (zc1 : PySem.W.nsIn K mainGlobals "WIDEST" = some (some (.int 4 tc1)))
 {at0 : Addr} {dt0 : Option Addr} {it0 : Array Value} {nt0 : Nat} {st0 : Array (Option Value)} (zt0 : PySem.W.nsIn K mainGlobals "PARTS" = some (some (.ref at0))) (zl0 : K.lookup at0 = some ⟨.type "tuple", dt0, .seq it0 nt0, st0⟩) (zz0 : it0.size <= 1000) (zi0 : (it0.toList.map fun u => match u with | .int i _ => some i | _ => none) = ([4, 6] : List Int).map some)
 : ∃ fd : FuncData, (∀ (s : Shared) (v : Value), BindsTo s fd ⟨[v], []⟩ [("_law_script", v)]) /\ ∀ base : Heap, K.In base -> base.Ns mainGlobals mg -> FnOk l.prog w K mg base CX0 11 fa fd ["_law_script"] (T.spF K (Zgq (ZeW K)).run) := by
 have hC : ZeW K = C := by unfold ZeW; rw [cC.at_]
 rw [hC]
 obtain ⟨f, fd, x, F⟩ := d39
 cases hfa.symm.trans (PySem.W.mg_of X G x)
 refine ⟨fd, fun s v => ?_, fun base _ _ => ?_⟩
 . obtain ⟨oc, od, kV, doc, pm, an, cdv, ct, osl, rfl, lk, hcd⟩ := F.ex
   exact .of_eq rfl
 have m : ∀ {x : Str}, T.NI K x -> mg x = none := PySem.W.mg_none_of X G
 have Z : Txt ⟨l.prog, w, K, mg, base⟩ C := ⟨⟨h, X, G⟩, m z0, m z1, m z2, m z3, m z4, m z5, m z6, m z7, m z8, m z9, m z10, m z11, m z12, m z13, m z14, ⟨tc0, PySem.W.mg_of X G zc0⟩, ⟨tc1, PySem.W.mg_of X G zc1⟩, T.Zms X G zt0 zl0 (by rw [T.szl]; omega) zi0, cC, nF0, nF1, nF2, nF3, nF4, nF5⟩
 have g0 := Zhp d0 Z
 have g1 := ZgP d1 Z g0
 have g2 := Ze4 d2 Z g1
 have g3 := ZgQ d3 Z
 have g4 := Zfx d4 Z
 have g5 := Zix d5 Z g4 g3
 have g6 := Zhq d6 Z
 have g7 := Zd5 d7 Z g3 g4 g6
 have g8 := Zdm d8 Z g3 g4
 have g9 := Zjy d9 Z g2 g7 g3 g5 g8
 have g10 := Zgb d10 Z g0
 have g11 := Zjz d11 Z
 have g12 := Zhr d12 Z g0 g10 g11
 have g13 := Zfy d13 Z 7
 have g14 := ZeZ d14 Z
 have g15 := Zeg d15 Z g12 g13
 have g16 := Zfz d16 Z
 have g17 := Zf0 d17 Z
 have g18 := Zgd d18 Z
 have g19 := Zeh d19 Z
 have g20 := Ze6 d20 Z g2
 have g21 := Zd8 d21 Z
 have g22 := Zei d22 Z
 have g23 := Zfa d23 Z g14 g11 g21 g22
 have g24 := Zhs d24 Z
 have g25 := Zdn d25 Z
 have g26 := Ziy d26 Z g14 g16 g17 g18 g23 g25
 have g27 := Zht d27 Z
 have g28 := ZgS d28 Z
 have g29 := Zf1 d29 Z
 have g30 := ZgT d30 Z g28
 have g31 := ZgU d31 Z
 have g32 := Zge d32 Z g31
 have g33 := Zf2 d33 Z g30
 have g34 := Zgf d34 Z g29 g30 g33
 have g35 := Ze7 d35 Z
 have g36 := Zf3 d36 Z g30
 have g37 := Zgg d37 Z g30
 have g38 := Zgh d38 Z g29 g36 g19 g30 g37 g24 g20 g26 g9
 exact ZoR F Z g34 g27 g15 g35 g19 g32 g38
end
theorem runB {f : FI} {C : T.Ctx} {n N : Nat} {b : List T.S} {ds : List D} {R : Rs (D × List D)} (e : f.run = Zj C n N b) (hl : ds.length = n) (h : ZeN n (exs { C with lock := fun i => decide (i < n) } b (ds ++ List.replicate (N - n) .hole)) = R) : f.run ds = R := by rw [e, runA hl]; exact h
variable (lk : Nat -> Bool) (fok : Addr -> Str -> Bool) (fuel : Nat)
local macro_rules | `(tactic| walk_at "r") => `(tactic| (refine runB rfl rfl ?_; show ZeN _ (exs _ (_ :: _) _) = _; simp only [List.replicate, Nat.reduceSub]))
local macro_rules | `(tactic| walk_at "ev") => `(tactic| simp only [bndA, Zmb, retA, Zqd, Zmc, Zqe, Zqf, ZnX, ZnY, Zqg, ZnZ, Zqh, Zqi, Zmd, Zme, valA, Zoa, Zqj, movA, Zob, Zoc, Zqk, Zql, Zod, Zqm, Zqn, Zqo, Zoe, Zof, Zqp, Zqq, Zog, Zoh, Zqr, Zoi, Zoj, Zok, Zol, Zqs, Zom, exs1, exs0, Zmh, Zmi, Zmf, Zmg, e_k, o_k, e_g, o_g, Zqu, Zqv, Zqw, Zqx, Zqy, Zqz, Zq0, Zmj, Zq1, Zq2, Zq3, Zfu, e_nt, t_nt, Zq4, Zq5, t_or, Zq6, e_ix, o_ix, e_sl, o_sl, Zq7, Zq8, Zq9, ZqA, ZqB, ZqC, e_kl, o_kl, Zon, Zoo, Zop, e_bf, t_bf, o_bf, Zoq, Zor, Zos, ZqD, Zmn, Zot, e_v, Zky, ZqI, ZqJ, evs0, evs1, ZqK, ZqL, ZqM, ZqN, ZqO, Zo0, x_ex, ZqP, ZqQ, Zo1, ZqR, r_k, ZqS, ZqT, ZqU, ZqV, r_ix, ZqW, ZqX, ZqY, Zo2, r_bf, Zo3, Zo4, ZqZ, Zra, c_lt, c_le, Zrb, Zrc, Zrd, Zre, Zo5, Zo6, Zou, Zrf, Zrg, Zrh, Zri, Zrj, Zrk, Zrl, Zrm, Zo7, Zo8, Zo9, ZoA, ZoB, ZoC, intp, sl_l, sl_f, Zrn, Zro, Zrp, Zrq, ZoD, asgn, ZoE, ZoF, ZoG, ZoH, Zrr, Zrs, ZoI, ZoJ, ZoK, ZoL, it_l, it_t, modA, Zrt, chkA, Zru, ix_l, shrL, shr, walked, C0, scr, List.getElem?_cons_zero, List.getElem?_cons_succ, List.set_cons_zero, List.set_cons_succ, List.length_cons, List.length_nil, Option.map_some, Option.bind_some, Option.toList_none, Option.toList_some, List.nil_append, List.append_nil, List.cons_append, List.map_cons, List.map_nil, if_true, if_false, Bool.false_eq_true, Bool.and_true, Bool.true_and, Bool.or_true, Bool.true_or, Bool.or_false, Bool.false_or, Bool.not_false, Bool.not_true, decide_true, decide_false, Nat.reduceLT, Nat.reduceAdd, Nat.reduceLeDiff, beq_self_eq_true, Nat.reduceBEq, Bool.and_false, Bool.false_and, reduceCtorEq, ite_true, ite_false, ZqE, ZqF, ZqG, ZqH, Zoy, Zox, Zoz, Zov, Zow])
local macro_rules | `(tactic| simp_all [$xs,*]) => `(tactic| repeat (first | walk_at "ev" | simp only [$xs,*]))
noncomputable abbrev I (i : Int) : D := .sc (.int i)
noncomputable abbrev Ls (o : Bool) (xs : List Int) : D := .node .lst o (dI xs)
noncomputable abbrev dL (o : Bool) (ls : List (List Int)) : List D := ls.map (Ls o)
theorem ZF (o : Bool) : ∀ ls : List (List Int), shrL (dL o ls) = dL false ls
 | [] => rfl
 | l :: ls => by
  show shr (Ls o l) :: shrL (dL o ls) = Ls false l :: dL false ls
  rw [ZF o ls]
  show D.node .lst false (shrL (dI l)) :: _ = _
  rw [Zi]
theorem Zf4 (o : Bool) (l : List Int) (ls : List (List Int)) : dL o (l :: ls) = Ls o l :: dL o ls := (rfl)
theorem Zj0 (o : Bool) (l m : List (List Int)) : dL o (l ++ m) = dL o l ++ dL o m := List.map_append
theorem ZcH (o : Bool) (l : List (List Int)) : (dL o l).length = l.length := List.length_map _
theorem Zr5 (i : Int) : tyW .int (.sc (.int i)) = some true := (rfl)
theorem Zr6 (i : Int) : tyW .bool (.sc (.int i)) = some false := (rfl)
theorem Zr7 (w : W) : bfW (.isi .int) [w] = (tyW .int w).map fun b => .sc (.bl b) := (rfl)
theorem Zr8 (w : W) : bfW (.isi .list) [w] = (tyW .list w).map fun b => .sc (.bl b) := (rfl)
theorem Zr9 (ds : List D) : tyW .list (.nd .lst ds) = some true := (rfl)
theorem ZrA (xs ys : List Int) : Zat .NotEq (.nd .lst (dI xs)) (.nd .lst (dI ys)) = some (!decide (xs = ys)) := by
 show (Zat .Eq (.nd .lst (dI xs)) (.nd .lst (dI ys))).map (!·) = _
 rw [ZdX]
 rfl
theorem ZrB (ds : List D) : bfW .all [.nd .lst ds] = (Zbi ds).map fun bs => .sc (.bl (bs.all id)) := (rfl)
theorem ZfP : ∀ n : Nat, Zbi (List.replicate n (D.sc (.bl true))) = some (List.replicate n true)
 | 0 => rfl
 | n + 1 => by rw [List.replicate_succ, Zbi, ZfP n]; rfl
theorem Zmz (n : Nat) : bfW .all [.nd .lst (List.replicate n (D.sc (.bl true)))] = some (.sc (.bl true)) := by
 rw [ZrB, ZfP]
 simp
theorem ZdE (x : Int) : ZH.run [I x] = .ok (.sc (.bl true), [I x]) := by
 walk_at "r"
 simp_all [Zr7, Zry, Zr5, Zr6]
 rfl
theorem Zbl (ns : List Int) (k : Nat) : Zp.run [scr ns, I k] = .ok (I (ns.getD k 0), [scr ns, I k]) := by
 walk_at "r"
 have hc := Zb6 ns (some (k : Int)) (some ((k : Int) + 1))
 rw [Zk2] at hc
 (rw [List.getD_eq_getElem?_getD])
 cases h : ns[k]? with
 | none =>
  rw [h] at hc
  simp_all [hc, Zqt]
  rfl
 | some x =>
  rw [h] at hc
  simp_all [hc, Za4]
  rfl
theorem Zk6 (h0 : lk 0 = false) : ∀ (xs : List Int) (n : Nat) (a : D), (∀ x ∈ xs, 1 <= x /\ x <= 4) -> ∃ a',
 Z7 (asgT lk (.name 0)) (tsts ⟨lk, fok, fuel⟩ []) (evb ⟨lk, fok, fuel⟩ (.and (.call ZH [.v 0]) (.chain .LtE .LtE (.k (.int 1)) (.v 0) (.k (.int 4))))).1 (dI xs) (List.replicate n (.sc (.bl true))) [a] = .ok (List.replicate (n + xs.length) (.sc (.bl true)), [a']) := by
 intro xs
 induction xs with
 | nil => exact fun n a _ => ⟨a, rfl⟩
 | cons x xs ih =>
  intro n a hx
  obtain ⟨a', ih⟩ := ih (n + 1) (I x) fun y hy => hx y (List.mem_cons_of_mem _ hy)
  refine ⟨a', ?_⟩
  obtain ⟨h1, h2⟩ := hx x List.mem_cons_self
  have l1 : ZH.lend = true := rfl
  rw [List.length_cons, show n + (xs.length + 1) = n + 1 + xs.length by omega, <- ih, Zt, Zaj, List.replicate_succ']
  simp_all [h0, l1, ZdE, h1, h2]
theorem ZfQ (n : Nat) (xs : List Int) (o : Bool) (hl : xs.length = n) (hn : n <= 100) (hx : ∀ x ∈ xs, 1 <= x /\ x <= 4) : ZaI.run [I n, Ls o xs] = .ok (.sc (.bl true), [I n, Ls o xs]) := by
 walk_at "r"
 obtain ⟨a', hc⟩ := Zk6 (fun i => decide (1 <= i)) (fun _ _ => false) 0 rfl xs 0 .hole hx
 rw [Nat.zero_add] at hc
 replace hc : ZB (fun _ _ => false) 0 1 (.name 0) [] (.and (.call ZH [.v 0]) (.chain .LtE .LtE (.k (.int 1)) (.v 0) (.k (.int 4)))) (dI xs) [] [.hole] = _ := hc
 have hm : ∀ δ : List D, ZV 1 [] (ZB (fun _ _ => false) 0 1 (.name 0) [] (.and (.call ZH [.v 0]) (.chain .LtE .LtE (.k (.int 1)) (.v 0) (.k (.int 4)))) (dI xs) []) δ = .ok (.node .lst true (List.replicate xs.length (.sc (.bl true))), δ) := fun δ => by
  rw [ZL (js := []) (caps := []) rfl hc (by rw [List.length_replicate, szl]; omega), ZW]
  rfl
 have ha := Zmz xs.length
 generalize List.replicate xs.length (D.sc (V.bl true)) = rp at hm ha
 have hdl : ((dI xs).length : Int) = n := by rw [Zo, hl]
 cases o <;> (simp_all [Zr8, Zr9, Zi, hdl, hm, ha]) <;> rfl
theorem ZgV (xs : List Int) : (dI xs).reverse = dI xs.reverse := List.map_reverse.symm
theorem ZcU (xs : List Int) (o : Bool) : Zbg.run [Ls o xs] = .ok (Ls true xs.reverse, [Ls o xs]) := by
 walk_at "r"
 cases o <;> (simp_all [Zi, ZgV]) <;> rfl
theorem Zff (xs : List Int) (n : Nat) : cutD (dI xs) none (some (n : Int)) = dI (xs.take n) := by
 rw [Zb6]
 unfold cutI
 rw [HT.Zcb]
 show dI ((xs.drop 0).take (min n xs.length - 0)) = _
 rw [List.drop_zero, Nat.sub_zero]
 congr 1
 by_cases h : n <= xs.length
 . rw [Nat.min_eq_left h]
 . (rw [Nat.min_eq_right (by omega), List.take_of_length_le (Nat.le_refl _), List.take_of_length_le (by omega)])
theorem Zj1 (n : Nat) (t : Int) (st sp : List Int) (hn : n = 4 \/ n = 6) (h1 : st.length = n) (h2 : sp.length = n + 1) (h3 : ∀ x ∈ st, 1 <= x /\ x <= 4) (h4 : ∀ x ∈ sp, 1 <= x /\ x <= 4) (h5 : st.sum = t) (h6 : (sp.take n).sum = t) (h7 : sp.reverse.take n ≠ st) :
 ZbZ.run [I n, I t, Ls true st, Ls true sp] = .ok (.sc (.bl true), [I n, I t, Ls true st, Ls true sp]) := by
 walk_at "r"
 have l1 : ZH.lend = true := rfl
 have l2 : ZaI.lend = true := rfl
 have l3 : Zbg.lend = true := rfl
 have r1 := ZfQ n st true h1 (by omega) h3
 have r2 := ZfQ (n + 1) sp true h2 (by omega) h4
 rw [show ((n + 1 : Nat) : Int) = (n : Int) + 1 by omega] at r2
 have hin : Zat .NotIn (.sc (.int (n : Int))) (.nd .ftp [D.sc (.int 4), D.sc (.int 6)]) = some false := by
  rcases hn with rfl | rfl <;> rfl
 have c1 := Zff sp n
 have c2 := Zff sp.reverse n
 have s1 := Zbe st
 have s2 := Zbe (sp.take n)
 rw [h5] at s1
 rw [h6] at s2
 have e1 := ZrA (sp.reverse.take n) st
 rw [decide_eq_false h7] at e1
 (simp_all [l1, l2, l3, ZdE, hin, r1, r2, Zi, c1, c2, s1, s2, ZcU, e1]) <;> rfl
theorem Zk7 (c t m : Int) (hm : 0 < m) : ∃ r, 0 <= r /\ r < m /\ ZbB.run [I c, I t, I m] = .ok (I r, [I c, I t, I m]) := by
 have e1 : ∀ a : Int, binW .Mod (.sc (.int a)) (.sc (.int 2305843009213693951)) = some (.sc (.int (a % 2305843009213693951))) := fun a => Z2 _ _ (by decide)
 have e2 : ∀ a : Int, binW .Mult (.sc (.int (a % 2305843009213693951 + 977))) (.sc (.int (2 * t + 30011))) = some (.sc (.int ((a % 2305843009213693951 + 977) * (2 * t + 30011)))) := fun a => Zah _ _ (.inl (by omega))
 have e3 : binW .Mult (.sc (.int 2)) (.sc (.int t)) = some (.sc (.int (2 * t))) := Zah _ _ (.inl (by decide))
 have e4 : ∀ a : Int, binW .FloorDiv (.sc (.int a)) (.sc (.int 65537)) = some (.sc (.int (a / 65537))) := fun a => ZbV _ _ (by decide)
 have e5 : ∀ a : Int, binW .Mod (.sc (.int a)) (.sc (.int 65537)) = some (.sc (.int (a % 65537))) := fun a => Z2 _ _ (by decide)
 have e6 : ∀ a : Int, binW .Mult (.sc (.int (a % 65537))) (.sc (.int (t + 5))) = some (.sc (.int (a % 65537 * (t + 5)))) := fun a => Zah _ _ (.inl (by omega))
 have e7 : ∀ a : Int, binW .Mod (.sc (.int a)) (.sc (.int 1000003)) = some (.sc (.int (a % 1000003))) := fun a => Z2 _ _ (by decide)
 have e8 : ∀ a : Int, binW .Mult (.sc (.int (a % 1000003))) (.sc (.int 1000003)) = some (.sc (.int (a % 1000003 * 1000003))) := fun a => Zah _ _ (.inr (by decide))
 have e9 : ∀ a : Int, binW .FloorDiv (.sc (.int a)) (.sc (.int 97)) = some (.sc (.int (a / 97))) := fun a => ZbV _ _ (by decide)
 show ∃ r, 0 <= r /\ r < m /\ Zj C0 3 4 Zbw [I c, I t, I m] = _
 rw [runA (show [I c, I t, I m].length = 3 from rfl)]
 unfold Zbw
 simp only [List.replicate, Nat.reduceSub]
 simp_all [e1, e2, e3, e4, e5, e6, e7, e8, e9, Z2 _ _ hm]
 exact ⟨_, Int.emod_nonneg _ (by omega), Int.emod_lt_of_pos _ hm, rfl⟩
theorem ZcV (c : Int) : ∃ n, Zaa.run [I c] = .ok (D.node .lst true [I c, I n, I 0], [I c]) := by
 show ∃ n, Zj C0 1 1 ZaO [I c] = _
 rw [runA (show [I c].length = 1 from rfl)]
 unfold ZaO
 simp only [List.replicate, Nat.reduceSub]
 have e1 : ∀ a : Int, binW .FloorDiv (.sc (.int a)) (.sc (.int 2)) = some (.sc (.int (a / 2))) := fun a => ZbV _ _ (by decide)
 have hz : (3 : Nat) <= sizeLine := by rw [szl]; decide
 simp_all [e1]
 rw [ZR _ (by simpa using hz)]
 walk_at "ev"
 exact ⟨_, rfl⟩
theorem Zal (c n t m : Int) (hm : 0 < m) (h2 : m < 18446744073709551616) : ∃ r n' t', 0 <= r /\ r < m /\ Zn.run [D.node .lst true [I c, I n, I t], I m] = .ok (I r, [D.node .lst true [I c, I n', I t'], I m]) := by
 obtain ⟨r, hr1, hr2, hr⟩ := Zk7 c t m hm
 show ∃ r n' t', 0 <= r /\ r < m /\ Zj C0 2 5 Zbx [D.node .lst true [I c, I n, I t], I m] = _
 rw [runA (show [D.node .lst true [I c, I n, I t], I m].length = 2 from rfl)]
 unfold Zbx
 simp only [List.replicate, Nat.reduceSub]
 have l1 : ZbB.lend = true := rfl
 have e1 : ∀ a : Int, binW .FloorDiv (.sc (.int a)) (.sc (.int m)) = some (.sc (.int (a / m))) := fun a => ZbV _ _ ⟨hm, h2⟩
 have e2 : ∀ a : Int, binW .Mod (.sc (.int a)) (.sc (.int 2)) = some (.sc (.int (a % 2))) := fun a => Z2 _ _ (by decide)
 have i1 : ixN' 3 1 = some 1 := rfl
 have i2 : ixN' 3 2 = some 2 := rfl
 have s1 : ∀ (i : Nat) (δ : List D) (d a b e : D), mdR i δ (Zap (.sc (.int 1)) d) (some (.node .lst true [a, b, e])) = .ok (.sc .non, δ.set i (.node .lst true [a, d, e])) := fun i δ d a b e => ZcA i δ d _ 1 1 rfl
 have s2 : ∀ (i : Nat) (δ : List D) (d a b e : D), mdR i δ (Zap (.sc (.int 2)) d) (some (.node .lst true [a, b, e])) = .ok (.sc .non, δ.set i (.node .lst true [a, b, d])) := fun i δ d a b e => ZcA i δ d _ 2 2 rfl
 by_cases h : c % 2 = 1
 . by_cases hn : 0 < n
   . simp_all [e1, e2, s1, s2, h, hn, V.int.injEq, Z2 _ _ hm]
     exact ⟨_, _, _, Int.emod_nonneg _ (by omega), Int.emod_lt_of_pos _ hm, rfl⟩
   . simp_all [e1, e2, s1, s2, h, hn, V.int.injEq, Z2 _ _ hm, l1, hr]
     exact ⟨_, _, _, hr1, hr2, rfl⟩
 . simp_all [e1, e2, s1, s2, h, V.int.injEq, Z2 _ _ hm, l1, hr]
   exact ⟨_, _, _, hr1, hr2, rfl⟩
noncomputable def down : Nat -> List Int
 | 0 => []
 | n + 1 => (n : Int) :: down n
theorem ZrC (n : Int) : bfW .max [.sc (.int 1), .sc (.int n)] = some (.sc (.int (if n > 1 then n else 1))) := (rfl)
theorem ZrD (n : Int) : bfW .min [.sc (.int 4), .sc (.int n)] = some (.sc (.int (if n < 4 then n else 4))) := (rfl)
theorem Zm0 (h3 : lk 3 = false) (h4 : lk 4 = false) (h5 : lk 5 = false) (h6 : lk 6 = false) (h7 : lk 7 = false) (h8 : lk 8 = false) (p t : D) : ∀ (n : Nat) (c m k : Int) (fd : List Int) (r : Int) (a5 a6 a7 a8 : D), fd.length + n <= 100 -> (n : Int) <= r -> r <= 4 * n -> ∃ (xs : List Int) (m' k' : Int) (a5' a6' a7' a8' : D), xs.length = n /\ (∀ x ∈ xs, 1 <= x /\ x <= 4) /\ xs.sum = r /\
 forL (asgT lk (.name 5)) (exs ⟨lk, fok, fuel⟩ [.asg 6 (.bf .max [.k (.int 1), .bin .Sub (.v 4) (.bin .Mult (.k (.int 4)) (.v 5))]), .asg 7 (.bf .min [.k (.int 4), .bin .Sub (.v 4) (.v 5)]), .asg 8 (.bin .Add (.v 6) (.call Zn [.v 0, .bin .Add (.bin .Sub (.v 7) (.v 6)) (.k (.int 1))])), .ex (.mut .append 3 [] [.v 8]), .asg 4 (.bin .Sub (.v 4) (.v 8))]) (dI (down n)) [D.node .lst true [I c, I m, I k], p, t, Ls true fd, I r, a5, a6, a7, a8]
  = .ok (.nx, [D.node .lst true [I c, I m', I k'], p, t, Ls true (fd ++ xs), I 0, a5', a6', a7', a8']) := by
 intro n
 induction n with
 | zero =>
  intro c m k fd r a5 a6 a7 a8 _ h1 h2
  obtain rfl : r = 0 := by omega
  exact ⟨[], m, k, a5, a6, a7, a8, rfl, fun x h => by simp at h, rfl, by rw [List.append_nil]; rfl⟩
 | succ n ih =>
  intro c m k fd r a5 a6 a7 a8 hl h1 h2
  have hlow : ∃ low : Int, (if r - 4 * (n : Int) > 1 then r - 4 * (n : Int) else 1) = low /\ 1 <= low /\ low <= 4 /\ r - 4 * n <= low /\ low <= r - n := by
   refine ⟨_, rfl, ?_⟩
   split <;> omega
  have hhigh : ∃ high : Int, (if r - (n : Int) < 4 then r - (n : Int) else 4) = high /\ high <= 4 /\ high <= r - n /\ (high = 4 \/ high = r - n) := by
   refine ⟨_, rfl, ?_⟩
   split <;> omega
  obtain ⟨low, el, l1, l2, l3, l4⟩ := hlow
  obtain ⟨high, eh, q1, q2, q3⟩ := hhigh
  obtain ⟨w, m1, k1, w1, w2, hw⟩ := Zal c m k (high - low + 1) (by omega) (by omega)
  obtain ⟨xs, m', k', a5', a6', a7', a8', e1, e2, e3, ih⟩ := ih c m1 k1 (fd ++ [low + w]) (r - (low + w)) (I n) (I low) (I high) (I (low + w)) (by rw [List.length_append, List.length_singleton]; omega) (by omega) (by omega)
  refine ⟨(low + w) :: xs, m', k', a5', a6', a7', a8', by rw [List.length_cons, e1], fun x hx => ?_, by rw [List.sum_cons, e3]; omega, ?_⟩
  . rcases List.mem_cons.mp hx with rfl | hx
    . omega
    . exact e2 x hx
  have mu : binW .Mult (.sc (.int 4)) (.sc (.int (n : Int))) = some (.sc (.int (4 * n))) := Zah _ _ (.inl (by decide))
  have ln : Zn.lend = true := rfl
  have ap : ∀ (δ : List D) (u : Int), mdR 3 δ (appD (.sc (.int u))) (some (.node .lst true (dI fd))) = .ok (.sc .non, δ.set 3 (.node .lst true (dI (fd ++ [u])))) := fun δ u => by
   rw [ZgH 3 δ _ _ (by rw [Zo, szl]; omega), ZD]
   rfl
  rw [show fd ++ (low + w) :: xs = fd ++ [low + w] ++ xs by rw [List.append_assoc]; rfl, <- ih, down, Zt, Za4]
  simp_all [h3, h4, h5, h6, h7, h8, mu, ZrC, ZrD, el, eh, ln, hw, ap]
theorem Zfg (n : Nat) (hn : n = 4 \/ n = 6) (c m k t : Int) (h1 : (n : Int) <= t) (h2 : t <= 4 * n) : ∃ (xs : List Int) (m' k' : Int), xs.length = n /\ (∀ x ∈ xs, 1 <= x /\ x <= 4) /\ xs.sum = t /\ Za6.run [D.node .lst true [I c, I m, I k], I n, I t] = .ok (Ls true xs, [D.node .lst true [I c, I m', I k'], I n, I t]) := by
 obtain ⟨xs, m', k', a5, a6, a7, a8, e1, e2, e3, hf⟩ := Zm0 (fun j => decide (j < 3) || walked [.bin .Sub (.v 1) (.k (.int 1)), .neg (.k (.int 1)), .neg (.k (.int 1))] j) (fun _ _ => false) 0 rfl rfl rfl rfl rfl rfl (I n) (I t) n c m k [] t .hole .hole .hole .hole (by simp; omega) h1 h2
 refine ⟨xs, m', k', e1, e2, e3, ?_⟩
 walk_at "r"
 simp only [walked, Bool.or_false, Ls, ZcB, List.nil_append] at hf
 have hn0 : newL [] = some (.node .lst true []) := ZR _ (by simp)
 have hit : itW .rng3 [.sc (.int ((n : Int) - 1)), .sc (.int (-1)), .sc (.int (-1))] = some (dI (down n)) := by
  rcases hn with rfl | rfl <;> kernel_rfl
 (simp_all [hn0, hit, hf]) <;> rfl
noncomputable def pat : Nat -> Int -> List (List Int)
 | 0, t => if t = 0 then [[]] else []
 | n + 1, t => if (n : Int) + 1 <= t /\ t <= 4 * ((n : Int) + 1) then ([1, 2, 3, 4] : List Int).flatMap (fun w => (pat n (t - w)).map (w :: ·)) else []
theorem Ze8 : ∀ (n : Nat) (t : Int), ∀ l ∈ pat n t, l.length = n
 | 0, t, l, h => by
  unfold pat at h
  split at h
  . rw [List.mem_singleton] at h; rw [h]; rfl
  . simp at h
 | n + 1, t, l, h => by
  unfold pat at h
  split at h
  . obtain ⟨w, _, h⟩ := List.mem_flatMap.mp h
    obtain ⟨l', h', rfl⟩ := List.mem_map.mp h
    rw [List.length_cons, Ze8 n _ l' h']
  . simp at h
theorem ZdY : ∀ (n : Nat) (t : Int), (pat n t).length <= 4 ^ n
 | 0, t => by
  unfold pat
  split <;> simp
 | n + 1, t => by
  unfold pat
  split
  . have h := fun u => ZdY n u
    simp only [List.flatMap_cons, List.flatMap_nil, List.length_append, List.length_map, List.length_nil]
    have h1 := h (t - 1)
    have h2 := h (t - 2)
    have h3 := h (t - 3)
    have h4 := h (t - 4)
    rw [Nat.pow_succ]
    omega
  . simp
theorem Zm1 (h4 : lk 4 = false) (x0 x1 : D) (w : Int) : ∀ (ls acc : List (List Int)) (a : D), acc.length + ls.length <= 100000 -> (∀ l ∈ ls, l.length <= 100) -> ∃ a',
 forL (asgT lk (.name 4)) (exs ⟨lk, fok, fuel⟩ [.ex (.mut .append 2 [] [.bin .Add (.lst [.v 3]) (.v 4)])]) (dL false ls) [x0, x1, .node .lst true (dL true acc), I w, a] = .ok (.nx, [x0, x1, .node .lst true (dL true (acc ++ ls.map (w :: ·))), I w, a']) := by
 intro ls
 induction ls with
 | nil => exact fun acc a _ _ => ⟨a, by rw [List.map_nil, List.append_nil]; rfl⟩
 | cons l ls ih =>
  intro acc a hl hx
  rw [List.length_cons] at hl
  obtain ⟨a', ih⟩ := ih (acc ++ [w :: l]) (Ls false l) (by rw [List.length_append, List.length_singleton]; omega) fun y hy => hx y (List.mem_cons_of_mem _ hy)
  refine ⟨a', ?_⟩
  have h1 := hx l List.mem_cons_self
  have hn : newL [D.sc (.int w)] = some (.node .lst true [D.sc (.int w)]) := ZR _ (by rw [szl]; simp)
  have hc : binW .Add (.nd .lst [D.sc (.int w)]) (.nd .lst (dI l)) = some (Ls true (w :: l)) := ZeU _ _ (by rw [List.length_append, Zo, szl]; show 1 + l.length <= _; omega)
  have ap : ∀ δ : List D, mdR 2 δ (appD (Ls true (w :: l))) (some (.node .lst true (dL true acc))) = .ok (.sc .non, δ.set 2 (.node .lst true (dL true (acc ++ [w :: l])))) := fun δ => by
   rw [ZgH 2 δ _ _ (by rw [ZcH, szl]; omega), Zj0]
   rfl
  have e : acc ++ List.map (w :: ·) (l :: ls) = acc ++ [w :: l] ++ ls.map (w :: ·) := by rw [List.append_assoc]; rfl
  rw [e, <- ih, Zf4, Za4]
  generalize Ls true (w :: l) = Z at hc ap
  simp_all [h4, hn, hc, ap]
theorem Zk8 (h3 : lk 3 = false) (h4 : lk 4 = false) (fi : FI) (hf : fi.lend = true) (n1 t : Int) (P : Int -> List (List Int)) (hP : ∀ w, fi.run [I (n1 - 1), I (t - w)] = .ok (.node .lst true (dL true (P w)), [I (n1 - 1), I (t - w)])) (hp1 : ∀ w, (P w).length <= 4096) (hp2 : ∀ w, ∀ l ∈ P w, l.length <= 100) : ∀ (ws : List Int) (acc : List (List Int)) (a b : D), acc.length + 4096 * ws.length <= 100000 -> ∃ a' b',
 forL (asgT lk (.name 3)) (exs ⟨lk, fok, fuel⟩ [.for_ (.name 4) .val [.call fi [.bin .Sub (.v 0) (.k (.int 1)), .bin .Sub (.v 1) (.v 3)]] [.ex (.mut .append 2 [] [.bin .Add (.lst [.v 3]) (.v 4)])]]) (dI ws) [I n1, I t, .node .lst true (dL true acc), a, b]
  = .ok (.nx, [I n1, I t, .node .lst true (dL true (acc ++ ws.flatMap fun w => (P w).map (w :: ·))), a', b']) := by
 intro ws
 induction ws with
 | nil => exact fun acc a b _ => ⟨a, b, by rw [List.flatMap_nil, List.append_nil]; rfl⟩
 | cons w ws ih =>
  intro acc a b hl
  rw [List.length_cons] at hl
  have q := hp1 w
  obtain ⟨b1, hi⟩ := Zm1 (fun j => lk j || walked [.call fi [.bin .Sub (.v 0) (.k (.int 1)), .bin .Sub (.v 1) (.v 3)]] j) fok fuel (by simp [walked, h4]) (I n1) (I t) w (P w) acc b (by omega) (hp2 w)
  obtain ⟨a', b', ih⟩ := ih (acc ++ (P w).map (w :: ·)) (I w) b1 (by rw [List.length_append, List.length_map]; omega)
  refine ⟨a', b', ?_⟩
  simp only [walked, Bool.or_false] at hi
  have hs := ZF true (P w)
  have hr := hP w
  rw [List.flatMap_cons, <- List.append_assoc, <- ih, Zt, Za4]
  simp_all [h3, hf, hr, hs, hi]
theorem ZhN (k : Nat) : ∀ (n : Nat) (t : Int), n <= 6 -> Z0 (n + k + 1) [I n, I t] = .ok (.node .lst true (dL true (pat n t)), [I n, I t]) := by
 intro n
 have hn0 : newL [] = some (.node .lst true []) := ZR _ (by simp)
 have hn1 : newL [D.node .lst true []] = some (.node .lst true [D.node .lst true []]) := ZR _ (by rw [szl]; simp)
 induction n with
 | zero =>
  intro t _
  rw [show Z0 (0 + k + 1) = Zj C0 2 5 (Zai ⟨true, Z0 (0 + k)⟩) from rfl]
  rw [runA (show [I ((0 : Nat) : Int), I t].length = 2 from rfl)]
  unfold Zai pat
  simp only [List.replicate, Nat.reduceSub]
  have mu : binW .Mult (.sc (.int 4)) (.sc (.int ((0 : Nat) : Int))) = some (.sc (.int 0)) := Zah _ _ (.inl (by decide))
  have e0 : (((0 : Nat) : Int) = 0) = True := by simp
  by_cases h1 : ((0 : Nat) : Int) <= t
  . by_cases h2 : t <= 0
    . obtain rfl : t = 0 := by omega
      (simp_all [mu, h1, h2, hn0, hn1, V.int.injEq, e0]) <;> rfl
    . rw [if_neg (by omega)]
      (simp_all [mu, h1, h2, hn0]) <;> rfl
  . rw [if_neg (by omega)]
    (simp_all [mu, h1, hn0]) <;> rfl
 | succ n ih =>
  intro t hn
  rw [show n + 1 + k + 1 = n + k + 1 + 1 by omega, show Z0 (n + k + 1 + 1) = Zj C0 2 5 (Zai ⟨true, Z0 (n + k + 1)⟩) from rfl]
  rw [runA (show [I ((n + 1 : Nat) : Int), I t].length = 2 from rfl)]
  unfold Zai pat
  simp only [List.replicate, Nat.reduceSub]
  rw [show ((n + 1 : Nat) : Int) = (n : Int) + 1 by omega]
  have mu : binW .Mult (.sc (.int 4)) (.sc (.int ((n : Int) + 1))) = some (.sc (.int (4 * ((n : Int) + 1)))) := Zah _ _ (.inl (by decide))
  have ne : ¬ (n : Int) + 1 = 0 := by omega
  have sb : (n : Int) + 1 - 1 = n := by omega
  by_cases h1 : (n : Int) + 1 <= t
  . by_cases h2 : t <= 4 * ((n : Int) + 1)
    . rw [if_pos ⟨h1, h2⟩]
      have pw : 4 ^ n <= 4096 := Nat.le_trans (Nat.pow_le_pow_right (by decide) (show n <= 6 by omega)) (by decide)
      obtain ⟨a', b', hf⟩ := Zk8 (fun j => decide (j < 2) || walked [.k (.int 1), .bin .Add (.k (.int 4)) (.k (.int 1))] j) (fun _ _ => false) 0 rfl rfl ⟨true, Z0 (n + k + 1)⟩ rfl ((n : Int) + 1) t (fun w => pat n (t - w)) (fun w => by rw [sb]; exact ih (t - w) (by omega)) (fun w => Nat.le_trans (ZdY n _) pw) (fun w l hl => by rw [Ze8 n _ l hl]; omega) [1, 2, 3, 4] [] .hole .hole (by decide)
      simp only [walked, Bool.or_false, List.nil_append, dL, List.map_nil] at hf
      have hit : itW .rng2 [.sc (.int 1), .sc (.int (4 + 1))] = some (dI [1, 2, 3, 4]) := Zgo 1 5 (by decide)
      generalize ([1, 2, 3, 4] : List Int) = ws at hf hit
      generalize (ws.flatMap fun w => (pat n (t - w)).map (w :: ·)) = R at hf
      (simp_all [mu, h1, h2, hn0, V.int.injEq, ne, hit, hf]) <;> rfl
    . rw [if_neg (by omega)]
      (simp_all [mu, h1, h2, hn0]) <;> rfl
  . rw [if_neg (by omega)]
    (simp_all [mu, h1, hn0]) <;> rfl
noncomputable def lexL : Nat -> List (List Int)
 | 0 => [[]]
 | n + 1 => ([1, 2, 3, 4] : List Int).flatMap fun w => (lexL n).map (w :: ·)
theorem ZhO : ∀ (n : Nat), ∀ l ∈ lexL n, (n : Int) <= l.sum /\ l.sum <= 4 * n
 | 0, l, h => by
  rw [lexL, List.mem_singleton] at h
  subst h
  decide
 | n + 1, l, h => by
  rw [lexL] at h
  obtain ⟨w, hw, h⟩ := List.mem_flatMap.mp h
  obtain ⟨l', h', rfl⟩ := List.mem_map.mp h
  have := ZhO n l' h'
  rw [List.sum_cons]
  simp only [List.mem_cons, List.not_mem_nil, or_false] at hw
  omega
theorem Zf5 : ∀ (n : Nat) (t : Int), pat n t = (lexL n).filter fun l => decide (l.sum = t)
 | 0, t => by
  unfold pat
  by_cases h : t = 0
  . subst h; rfl
  . rw [if_neg h, lexL, List.filter_cons_of_neg (fun q => h (of_decide_eq_true q).symm), List.filter_nil]
 | n + 1, t => by
  unfold pat
  by_cases h : (n : Int) + 1 <= t /\ t <= 4 * ((n : Int) + 1)
  . rw [if_pos h, lexL, List.filter_flatMap]
    congr 1
    funext w
    rw [Zf5 n, List.filter_map]
    congr 2
    funext l
    show decide (l.sum = t - w) = decide ((w :: l).sum = t)
    rw [List.sum_cons]
    by_cases q : l.sum = t - w
    . rw [decide_eq_true q, decide_eq_true (by omega)]
    . rw [decide_eq_false q, decide_eq_false (by omega)]
  . rw [if_neg h, eq_comm, List.filter_eq_nil_iff]
    intro l hl
    have := ZhO (n + 1) l hl
    rw [decide_eq_true_eq]
    omega
theorem Zfh (w : Int) : ∀ ls : List (List Int), ls.Nodup -> (ls.map (w :: ·)).Nodup := fun ls h => by
 unfold List.Nodup at h ⊢
 rw [List.pairwise_map]
 exact h.imp fun q z => q (List.cons.inj z).2
theorem ZdZ (v w : Int) (h : v ≠ w) (xs ys : List (List Int)) : ∀ a ∈ xs.map (v :: ·), ∀ b ∈ ys.map (w :: ·), a ≠ b := fun a ha b hb z => by
 obtain ⟨l, _, rfl⟩ := List.mem_map.mp ha
 obtain ⟨m, _, rfl⟩ := List.mem_map.mp hb
 exact h (List.cons.inj z).1
theorem Zj2 : ∀ n : Nat, (lexL n).Nodup
 | 0 => by simp [lexL]
 | n + 1 => by
  have ih := Zj2 n
  rw [lexL]
  simp only [List.flatMap_cons, List.flatMap_nil, List.append_nil]
  rw [List.nodup_append]
  refine ⟨Zfh 1 _ ih, ?_, fun a ha b hb => ?_⟩
  . rw [List.nodup_append]
    refine ⟨Zfh 2 _ ih, ?_, fun a ha b hb => ?_⟩
    . rw [List.nodup_append]
      exact ⟨Zfh 3 _ ih, Zfh 4 _ ih, ZdZ 3 4 (by decide) _ _⟩
    . (rcases List.mem_append.mp hb with hb | hb)
      . exact ZdZ 2 3 (by decide) _ _ a ha b hb
      . exact ZdZ 2 4 (by decide) _ _ a ha b hb
  . (rcases List.mem_append.mp hb with hb | hb)
    . exact ZdZ 1 2 (by decide) _ _ a ha b hb
    . (rcases List.mem_append.mp hb with hb | hb)
      . exact ZdZ 1 3 (by decide) _ _ a ha b hb
      . exact ZdZ 1 4 (by decide) _ _ a ha b hb
theorem Zj3 (n : Nat) (t : Int) : (pat n t).Nodup := by
 rw [Zf5]
 exact (Zj2 n).filter _
theorem ZdP (ps : List (List Int)) : ∀ (j : Nat) (a : Int), ps.Nodup -> (h : j < ps.length) -> Za3 ((ps[j]).map Sum.inl) (ps.map fun l => l.map Sum.inl) (dI (rngI a ps.length)) = some (I (a + j)) := by
 induction ps with
 | nil => intro j a _ h; simp at h
 | cons p ps ih =>
  intro j a hn h
  rw [List.map_cons, List.length_cons, rngI, Zt]
  unfold Za3
  have hinj : ∀ x y : List Int, x.map (Sum.inl : Int -> Key) = y.map Sum.inl -> x = y := fun x y q => by
   have := congrArg (List.map fun k : Key => match k with | .inl i => i | .inr _ => 0) q
   simpa [List.map_map, Function.comp_def] using this
  cases j with
  | zero =>
   rw [if_pos (show List.map Sum.inl p = List.map Sum.inl (p :: ps)[0] from rfl)]
   show some (I a) = some (I (a + ((0 : Nat) : Int)))
   rw [show a + ((0 : Nat) : Int) = a by omega]
  | succ j =>
   have hj : j < ps.length := by simpa using h
   rw [if_neg fun q => by
    have := hinj _ _ q
    have hm : ps[j] ∈ ps := List.getElem_mem hj
    rw [List.nodup_cons] at hn
    exact hn.1 (by rw [this]; exact hm)]
   have := ih j (a + 1) (List.nodup_cons.mp hn).2 hj
   rw [show (p :: ps)[j + 1] = ps[j] from rfl, this, show a + 1 + (j : Int) = a + ((j + 1 : Nat) : Int) by omega]
theorem Zm2 (p x : Int) (h0 : 0 <= x) (h1 : x < p) : ZaU.run [I p, I x] = .ok (.sc (.bl true), [I p, I x]) := by
 walk_at "r"
 have l1 : ZH.lend = true := rfl
 simp_all [l1, ZdE, Zfu, h0, h1]
 rfl
theorem Ziz (h2 : lk 2 = false) (h3 : lk 3 = false) (p : Int) (X : D) : ∀ (xs : List Int) (c : Int) (a b : D), (∀ x ∈ xs, 0 <= x /\ x < p) -> ∃ a' b',
 forL (asgT lk (.tup [2, 3])) (exs ⟨lk, fok, fuel⟩ [.iff (.nt (.call ZaU [.v 0, .v 3])) [.raise (.k .non)] []]) (ZG c (dI xs)) [I p, X, a, b] = .ok (.nx, [I p, X, a', b']) := by
 intro xs
 induction xs with
 | nil => exact fun c a b _ => ⟨a, b, rfl⟩
 | cons x xs ih =>
  intro c a b hx
  obtain ⟨a', b', ih⟩ := ih (c + 1) (I c) (I x) fun y hy => hx y (List.mem_cons_of_mem _ hy)
  refine ⟨a', b', ?_⟩
  rw [<- ih, Zt, ZG, Za4]
  have hr := Zm2 p x (hx x List.mem_cons_self).1 (hx x List.mem_cons_self).2
  have l1 : ZaU.lend = true := rfl
  simp_all [h2, h3, ZbF, l1, hr]
theorem ZfR (p : Int) (xs : List Int) (o : Bool) (hx : ∀ x ∈ xs, 0 <= x /\ x < p) : ZZ.run [I p, Ls o xs] = .ok (.sc .non, [I p, Ls o xs]) := by
 walk_at "r"
 have hs := fun X => Ziz (fun j => decide (j < 2) || walked [.v 1, .k (.int 0)] j) (fun _ _ => false) 0 rfl rfl p X xs 0 .hole .hole hx
 simp only [walked, Bool.or_false] at hs
 cases o
 . obtain ⟨a', b', hs⟩ := hs (Ls false xs)
   simp_all [Zi, it_e _ 0 (by decide), hs]
   rfl
 . obtain ⟨a', b', hs⟩ := hs .hole
   simp_all [Zi, it_e _ 0 (by decide), hs]
   rfl
noncomputable abbrev FS : List Str := ["part_count", "widths_sum", "opening", "closing", "shapes", "symbols_by_shape"]
noncomputable abbrev Fo (C : Addr) (b : Bool) (p t : Int) (st sp : List Int) (ps : List (List Int)) (X : D) : D := .node (.ins C FS) true [I p, I t, Ls b st, Ls b sp, .node .lst false (dL false ps), X]
theorem Zgr (C : Addr) (f : Str) (h : f ∈ FS) : (CK C).fok C f = true := by
 show (decide (C = C) && _) = true
 simp only [decide_true, Bool.true_and, Bool.or_eq_true, beq_iff_eq]
 simp only [List.mem_cons, List.not_mem_nil, or_false] at h
 rcases h with rfl | rfl | rfl | rfl | rfl | rfl <;> simp
theorem Zea (C : Addr) (f : Str) (fs : List Str) (ds : List D) (x : D) (hf : f ∈ FS) (hl : ZcO f fs ds = some x) : fldW (CK C).fok f (.nd (.ins C fs) ds) = some x := by
 show (if (CK C).fok C f = true then ZcO f fs ds else none) = _
 rw [if_pos (Zgr C f hf), hl]
theorem ZcI (C : Addr) (i : Nat) (δ : List D) (f : Str) (hf : f ∈ FS) (d : D) (fs : List Str) (ds : List D) (hl : fs.length < 1000) : mdR i δ (putD (CK C).fok f d) (some (.node (.ins C fs) true ds)) = .ok (.sc .non, δ.set i (.node (.ins C (putN f fs)) true (putV f d fs ds))) := by
 have e : putD (CK C).fok f d (.ins C fs) ds = some (.sc .non, .ins C (putN f fs), putV f d fs ds) := by
  show (if fs.length < 1000 /\ (CK C).fok C f = true then some (D.sc .non, Kd.ins C (putN f fs), T.putV f d fs ds) else none) = _
  rw [if_pos ⟨hl, Zgr C f hf⟩]
 show (match putD (CK C).fok f d (.ins C fs) ds with | some (r, k', ds') => Rs.ok (r, δ.set i (.node k' true ds')) | none => .stuck) = _
 rw [e]
noncomputable abbrev kys (ps : List (List Int)) : List (List Key) := ps.map fun l => l.map Sum.inl
noncomputable abbrev Dk (b : Bool) (ps : List (List Int)) : D := .node (.dic (kys ps)) b (dI (rngI 0 ps.length))
noncomputable abbrev Fd (C : Addr) (b : Bool) (p t : Int) (st sp : List Int) (ps : List (List Int)) : D := Fo C b p t st sp ps (Dk b ps)
theorem ZfS : ∀ (n : Nat) (a : Int), rngI a (n + 1) = rngI a n ++ [a + n]
 | 0, a => by rw [rngI, rngI]; show [a] = [a + ((0 : Nat) : Int)]; rw [show a + ((0 : Nat) : Int) = a by omega]
 | n + 1, a => by
  rw [rngI, ZfS n (a + 1), rngI, List.cons_append, show a + 1 + (n : Int) = a + ((n + 1 : Nat) : Int) by omega]
theorem Zm3 (dn : List (List Int)) (l : List Int) (h : l ∉ dn) : kPut (l.map Sum.inl) (kys dn) = kys (dn ++ [l]) /\ vPut (l.map Sum.inl) (I dn.length) (kys dn) (dI (rngI 0 dn.length)) = dI (rngI 0 (dn ++ [l]).length) := by
 have hinj : ∀ x y : List Int, x.map (Sum.inl : Int -> Key) = y.map Sum.inl -> x = y := fun x y q => by
  have := congrArg (List.map fun k : Key => match k with | .inl i => i | .inr _ => 0) q
  simpa [List.map_map, Function.comp_def] using this
 have e : ((kys dn).any fun j => decide (j = l.map Sum.inl)) = false := by
  rw [List.any_eq_false]
  intro k hk
  obtain ⟨m, hm, rfl⟩ := List.mem_map.mp hk
  rw [decide_eq_true_eq]
  exact fun q => h (by rw [<- hinj _ _ q]; exact hm)
 unfold kPut vPut
 rw [e, if_neg (by decide), if_neg (by decide), List.length_append, List.length_singleton, ZfS, ZD]
 refine ⟨by rw [kys, kys, List.map_append]; rfl, ?_⟩
 rw [show (0 : Int) + (dn.length : Int) = dn.length by omega]
 rfl
theorem Zm4 (C : Addr) (p t c : Int) (st sp l : List Int) (ps : List (List Int)) (ks : List (List Key)) (vs : List D) (x1 x2 x3 x4 : D) (h : vs.length < 16777216) :
 ZdN (CK C).fok 0 "symbols_by_shape" 6 5 [Fo C true p t st sp ps (.node (.dic ks) true vs), x1, x2, x3, x4, I c, Ls false l] = .ok (.nx, [Fo C true p t st sp ps (.node (.dic (kPut (l.map Sum.inl) ks)) true (vPut (l.map Sum.inl) (I c) ks vs)), x1, x2, x3, x4, I c, Ls false l]) := by
 unfold ZdN
 have e : idxF "symbols_by_shape" FS = some 5 := by decide
 have hz : vs.length < sizeLine := by rw [szl]; exact h
 simp only [List.getElem?_cons_zero, List.getElem?_cons_succ, Zgr C "symbols_by_shape" (by decide), e, ZbA, if_true, hz]
 rfl
theorem Zj4 (C : Addr) (lk : Nat -> Bool) (fuel : Nat) (h5 : lk 5 = false) (h6 : lk 6 = false) (p t : Int) (st sp : List Int) (ps : List (List Int)) (x1 x2 x3 x4 : D) : ∀ (ls dn : List (List Int)) (a b : D), (dn ++ ls).length <= 100000 -> (dn ++ ls).Nodup -> ∃ (a' b' : D),
 forL (asgT lk (.tup [5, 6])) (exs ⟨lk, (CK C).fok, fuel⟩ [.dput 0 "symbols_by_shape" 6 5]) (ZG dn.length (dL false ls)) [Fo C true p t st sp ps (Dk true dn), x1, x2, x3, x4, a, b] = .ok (.nx, [Fo C true p t st sp ps (Dk true (dn ++ ls)), x1, x2, x3, x4, a', b']) := by
 intro ls
 induction ls with
 | nil => exact fun dn a b _ _ => ⟨a, b, by rw [List.append_nil]; rfl⟩
 | cons l ls ih =>
  intro dn a b hl hn
  have e : dn ++ l :: ls = dn ++ [l] ++ ls := by rw [List.append_assoc]; rfl
  have hnot : l ∉ dn := fun q => by
   rw [List.nodup_append] at hn
   exact hn.2.2 l q l List.mem_cons_self rfl
  rw [e] at hl hn
  obtain ⟨a', b', ih⟩ := ih (dn ++ [l]) (I dn.length) (Ls false l) hl hn
  refine ⟨a', b', ?_⟩
  obtain ⟨p1, p2⟩ := Zm3 dn l hnot
  have hd := Zm4 C p t dn.length st sp l ps (kys dn) (dI (rngI 0 dn.length)) x1 x2 x3 x4 (by rw [Zo, Ze2]; rw [List.length_append, List.length_append] at hl; omega)
  rw [p1, p2] at hd
  rw [show ((dn ++ [l]).length : Int) = (dn.length : Int) + 1 by rw [List.length_append]; rfl] at ih
  rw [e, <- ih, Zf4, ZG, Za4]
  simp_all [h5, h6, ZbF, hd]
theorem Zk9 (n : Nat) (hn : n = 4 \/ n = 6) (t : Int) : Zba.run [I n, I t] = .ok (.node .lst true (dL true (pat n t)), [I n, I t]) := by
 show Z0 7 [I n, I t] = _
 rcases hn with rfl | rfl
 . exact ZhN 2 4 t (by decide)
 . exact ZhN 0 6 t (by decide)
theorem ZkA (C : Addr) (n : Nat) (t : Int) (st sp : List Int) (hn : n = 4 \/ n = 6) (h1 : st.length = n) (h2 : sp.length = n + 1) (h3 : ∀ x ∈ st, 1 <= x /\ x <= 4) (h4 : ∀ x ∈ sp, 1 <= x /\ x <= 4) (h5 : st.sum = t) (h6 : (sp.take n).sum = t) (h7 : sp.reverse.take n ≠ st) :
 (Zak C).run [.node (.ins C []) true [], I n, I t, Ls true st, Ls true sp] = .ok (.sc .non, [Fd C true n t st sp (pat n t), I n, I t, Ls true st, Ls true sp]) := by
 have r1 := Zj1 n t st sp hn h1 h2 h3 h4 h5 h6 h7
 have r2 := Zk9 n hn t
 have hpl : (pat n t).length <= 4096 := Nat.le_trans (ZdY n t) (by rcases hn with rfl | rfl <;> decide)
 obtain ⟨a', b', hf⟩ := Zj4 C (fun j => decide (j < 5) || walked [.fldV 0 "shapes", .k (.int 0)] j) (CK C).fuel rfl rfl n t st sp (pat n t) (I n) (I t) (Ls true st) (Ls true sp) (pat n t) [] .hole .hole (by rw [List.nil_append]; omega) (by rw [List.nil_append]; exact Zj3 n t)
 rw [List.nil_append, show (([] : List (List Int)).length : Int) = 0 from rfl] at hf
 simp only [walked, Bool.or_false] at hf
 simp only [Dk, kys, List.map_nil, List.length_nil, rngI] at hf ⊢
 generalize pat n t = ps at r2 hf hpl
 walk_at "r"
 have l1 : ZbZ.lend = true := rfl
 have l2 : Zba.lend = true := rfl
 have p1 := fun (δ : List D) (d : D) => ZcI C 0 δ "part_count" (by decide) d [] [] (by decide)
 have p2 := fun (δ : List D) (a d : D) => ZcI C 0 δ "widths_sum" (by decide) d ["part_count"] [a] (by decide)
 have p3 := fun (δ : List D) (a b d : D) => ZcI C 0 δ "opening" (by decide) d ["part_count", "widths_sum"] [a, b] (by decide)
 have p4 := fun (δ : List D) (a b c d : D) => ZcI C 0 δ "closing" (by decide) d ["part_count", "widths_sum", "opening"] [a, b, c] (by decide)
 have p5 := fun (δ : List D) (a b c e d : D) => ZcI C 0 δ "shapes" (by decide) d ["part_count", "widths_sum", "opening", "closing"] [a, b, c, e] (by decide)
 have p6 := fun (δ : List D) (a b c e f d : D) => ZcI C 0 δ "symbols_by_shape" (by decide) d ["part_count", "widths_sum", "opening", "closing", "shapes"] [a, b, c, e, f] (by decide)
 have e1 : putN "part_count" [] = ([Str.ofString "part_count"] : List Str) := rfl
 have e2 : putN "widths_sum" ["part_count"] = (["part_count", "widths_sum"] : List Str) := by decide
 have e3 : putN "opening" ["part_count", "widths_sum"] = (["part_count", "widths_sum", "opening"] : List Str) := by decide
 have e4 : putN "closing" ["part_count", "widths_sum", "opening"] = (["part_count", "widths_sum", "opening", "closing"] : List Str) := by decide
 have e5 : putN "shapes" ["part_count", "widths_sum", "opening", "closing"] = (["part_count", "widths_sum", "opening", "closing", "shapes"] : List Str) := by decide
 have e6 : putN "symbols_by_shape" ["part_count", "widths_sum", "opening", "closing", "shapes"] = FS := by decide
 have v1 : ∀ d : D, putV "part_count" d [] [] = [d] := fun d => rfl
 have v2 : ∀ a d : D, putV "widths_sum" d ["part_count"] [a] = [a, d] := fun a d => rfl
 have v3 : ∀ a b d : D, putV "opening" d ["part_count", "widths_sum"] [a, b] = [a, b, d] := fun a b d => rfl
 have v4 : ∀ a b c d : D, putV "closing" d ["part_count", "widths_sum", "opening"] [a, b, c] = [a, b, c, d] := fun a b c d => rfl
 have v5 : ∀ a b c e d : D, putV "shapes" d ["part_count", "widths_sum", "opening", "closing"] [a, b, c, e] = [a, b, c, e, d] := fun a b c e d => rfl
 have v6 : ∀ a b c e f d : D, putV "symbols_by_shape" d ["part_count", "widths_sum", "opening", "closing", "shapes"] [a, b, c, e, f] = [a, b, c, e, f, d] := fun a b c e f d => rfl
 have fs : ∀ (a b c e X x1 x2 x3 x4 x5 x6 : D), fldS (CK C).fok 0 "shapes" [.node (.ins C FS) true [a, b, c, e, .node .lst true (dL true ps), X], x1, x2, x3, x4, x5, x6] = .ok (.node .lst false (dL false ps), [.node (.ins C FS) true [a, b, c, e, .node .lst false (dL false ps), X], x1, x2, x3, x4, x5, x6]) := fun a b c e X x1 x2 x3 x4 x5 x6 => by
  rw [Zmk _ 0 4 "shapes" _ C FS _ (.node .lst true (dL true ps)) rfl (Zgr C _ (by decide)) (by decide) rfl]
  show Rs.ok (D.node .lst false (shrL (dL true ps)), _) = _
  rw [show shr (D.node .lst true (dL true ps)) = D.node .lst false (shrL (dL true ps)) from rfl, ZF]
  rfl
 have sd := ZF false ps
 have hit := it_e (dL false ps) 0 (by decide)
 (simp_all [l1, l2, r1, r2, p1, p2, p3, p4, p5, p6, e1, e2, e3, e4, e5, e6, v1, v2, v3, v4, v5, v6, Zi, fs, sd, hit, hf]) <;> rfl
theorem fl_1 (C : Addr) (a b c d e f : D) : fldW (CK C).fok "part_count" (.nd (.ins C FS) [a, b, c, d, e, f]) = some a := Zea C _ _ _ _ (by decide) rfl
theorem fl_3 (C : Addr) (a b c d e f : D) : fldW (CK C).fok "opening" (.nd (.ins C FS) [a, b, c, d, e, f]) = some c := Zea C _ _ _ _ (by decide) rfl
theorem fl_4 (C : Addr) (a b c d e f : D) : fldW (CK C).fok "closing" (.nd (.ins C FS) [a, b, c, d, e, f]) = some d := Zea C _ _ _ _ (by decide) rfl
theorem fl_5 (C : Addr) (a b c d e f : D) : fldW (CK C).fok "shapes" (.nd (.ins C FS) [a, b, c, d, e, f]) = some e := Zea C _ _ _ _ (by decide) rfl
theorem fl_6 (C : Addr) (a b c d e f : D) : fldW (CK C).fok "symbols_by_shape" (.nd (.ins C FS) [a, b, c, d, e, f]) = some f := Zea C _ _ _ _ (by decide) rfl
theorem Zm5 (h0 : lk 0 = false) : ∀ (ls acc : List (List Int)) (a : D), ∃ a',
 Z7 (asgT lk (.name 0)) (tsts ⟨lk, fok, fuel⟩ []) (evb ⟨lk, fok, fuel⟩ (.bf .list [.v 0])).1 (dL false ls) (dL true acc) [a] = .ok (dL true (acc ++ ls), [a']) := by
 intro ls
 induction ls with
 | nil => exact fun acc a => ⟨a, by rw [List.append_nil]; rfl⟩
 | cons l ls ih =>
  intro acc a
  obtain ⟨a', ih⟩ := ih (acc ++ [l]) (Ls false l)
  refine ⟨a', ?_⟩
  have e : acc ++ l :: ls = acc ++ [l] ++ ls := by rw [List.append_assoc]; rfl
  rw [e, <- ih, Zf4, Zaj, Zj0]
  simp_all [h0]
theorem Zm6 (fok : Addr -> Str -> Bool) (fuel : Nat) (ls : List (List Int)) (hl : ls.length <= 100000) (δ : List D) : ZV 1 [] (ZB fok fuel 1 (.name 0) [] (.bf .list [.v 0]) (dL false ls) []) δ = .ok (.node .lst true (dL true ls), δ) := by
 obtain ⟨a', hc⟩ := Zm5 (fun i => decide (1 <= i)) fok fuel rfl ls [] .hole
 rw [List.nil_append] at hc
 replace hc : ZB fok fuel 1 (.name 0) [] (.bf .list [.v 0]) (dL false ls) [] [.hole] = _ := hc
 rw [ZL (js := []) (caps := []) rfl hc (by rw [ZcH, szl]; omega), ZW]
 rfl
theorem ZgW (C : Addr) (b : Bool) (p t : Int) (st sp : List Int) (ps : List (List Int)) (hl : ps.length <= 100000) : (ZT C).run [Fd C b p t st sp ps] = .ok (.node .lst true (dL true ps), [Fd C false p t st sp ps]) := by
 walk_at "r"
 have hm := Zm6 (CK C).fok (CK C).fuel ps hl
 (simp_all [fl_5, Zi, ZF, hm]) <;> rfl
theorem ixL (o : Bool) (B : List (List Int)) (s : Int) (h0 : 0 <= s) (h : s < B.length) : ((ixN' (dL o B).length s).bind fun j => (dL o B)[j]?) = some (Ls o (B.getD s.toNat [])) := by
 unfold ixN'
 rw [ZcH, if_pos h0, if_pos h]
 show (dL o B)[s.toNat]? = _
 have hk : s.toNat < B.length := by omega
 rw [List.getElem?_map, List.getElem?_eq_getElem hk, List.getD_eq_getElem?_getD, List.getElem?_eq_getElem hk]
 rfl
theorem ZrE (C : T.Ctx) (i : Nat) (es : List E) : (evb C (.mut .extend i [] es)).1 = ((chkL i).bnd fun _ => (opds C es).bnd fun ps => (views ps).bnd fun ws => modS i (mutD .extend ws)) := (rfl)
noncomputable abbrev pt (ps : List (List Int)) (s : Int) : List Int := ps.getD s.toNat []
theorem Zm7 (C : Addr) (lk : Nat -> Bool) (fuel : Nat) (h3 : lk 3 = false) (p t : Int) (st sp : List Int) (ps : List (List Int)) (hp : ∀ l ∈ ps, l.length <= 10) : ∀ (xs acc : List Int) (x1 a : D), acc.length + 10 * xs.length <= 100000 -> (∀ x ∈ xs, 0 <= x /\ x < ps.length) -> ∃ a',
 forL (asgT lk (.name 3)) (exs ⟨lk, (CK C).fok, fuel⟩ [.ex (.mut .extend 2 [] [.ix (.fld (.v 0) "shapes") (.v 3)])]) (dI xs) [Fd C false p t st sp ps, x1, Ls true acc, a] = .ok (.nx, [Fd C false p t st sp ps, x1, Ls true (acc ++ (xs.map (pt ps)).flatten), a']) := by
 intro xs
 induction xs with
 | nil => exact fun acc x1 a _ _ => ⟨a, by rw [List.map_nil, List.flatten_nil, List.append_nil]; rfl⟩
 | cons x xs ih =>
  intro acc x1 a hl hx
  rw [List.length_cons] at hl
  obtain ⟨q0, q1⟩ := hx x List.mem_cons_self
  have hb : (pt ps x).length <= 10 := by
   have hk : x.toNat < ps.length := by omega
   rw [pt, List.getD_eq_getElem?_getD, List.getElem?_eq_getElem hk]
   exact hp _ (List.getElem_mem hk)
  obtain ⟨a', ih⟩ := ih (acc ++ pt ps x) x1 (I x) (by rw [List.length_append]; omega) fun y hy => hx y (List.mem_cons_of_mem _ hy)
  refine ⟨a', ?_⟩
  have hi := ixL false ps x q0 q1
  rw [show ps.getD x.toNat [] = pt ps x from rfl] at hi
  have ap : ∀ δ : List D, mdR 2 δ (mutD .extend [.nd .lst (dI (pt ps x))]) (some (.node .lst true (dI acc))) = .ok (.sc .non, δ.set 2 (Ls true (acc ++ pt ps x))) := fun δ => by
   have e : mutD .extend [.nd .lst (dI (pt ps x))] .lst (dI acc) = some (.sc .non, .lst, dI acc ++ dI (pt ps x)) := if_pos (by rw [Zo, Zo, szl]; omega)
   show (match mutD .extend [.nd .lst (dI (pt ps x))] .lst (dI acc) with | some (r, k', ds') => Rs.ok (r, δ.set 2 (.node k' true ds')) | none => .stuck) = _
   rw [e, Ls, ZD]
  rw [List.map_cons, List.flatten_cons, <- List.append_assoc, <- ih, Zt, Za4]
  generalize pt ps x = l at hi ap
  simp_all [h3, ZrE, fl_5, Zi, ZF, hi, ap]
noncomputable abbrev wds (st sp : List Int) (ps : List (List Int)) (row : List Int) : List Int := st ++ (row.map (pt ps)).flatten ++ sp
theorem Ze9 (ps : List (List Int)) (n : Nat) (hp : ∀ l ∈ ps, l.length = n) : ∀ row : List Int, (∀ x ∈ row, 0 <= x /\ x < ps.length) -> ((row.map (pt ps)).flatten).length = row.length * n
 | [], _ => by simp
 | x :: row, h => by
  obtain ⟨q0, q1⟩ := h x List.mem_cons_self
  have hb : (pt ps x).length = n := by
   have hk : x.toNat < ps.length := by omega
   rw [pt, List.getD_eq_getElem?_getD, List.getElem?_eq_getElem hk]
   exact hp _ (List.getElem_mem hk)
  rw [List.map_cons, List.flatten_cons, List.length_append, Ze9 ps n hp row fun y hy => h y (List.mem_cons_of_mem _ hy), hb, List.length_cons, Nat.add_mul]
  omega
theorem Zhu (C : Addr) (b : Bool) (n : Nat) (t : Int) (st sp : List Int) (ps : List (List Int)) (row : List Int) (hn : n <= 10) (h1 : st.length = n) (h2 : sp.length = n + 1) (hp : ∀ l ∈ ps, l.length = n) (hr : row.length <= 100) (hx : ∀ x ∈ row, 0 <= x /\ x < ps.length) :
 (ZaD C).run [Fd C b n t st sp ps, Ls false row] = .ok (Ls true (wds st sp ps row), [Fd C false n t st sp ps, Ls false row]) := by
 have hc := fun o => ZfR ps.length row o hx
 have hfl := Ze9 ps n hp row hx
 have hml : row.length * n <= 1000 := Nat.le_trans (Nat.mul_le_mul hr hn) (by decide)
 obtain ⟨a', hf⟩ := Zm7 C (fun j => decide (j < 2) || walked [.v 1] j) (CK C).fuel rfl n t st sp ps (fun l hl => by rw [hp l hl]; exact hn) row st (Ls false row) .hole (by omega) hx
 simp only [walked, Bool.or_false] at hf
 walk_at "r"
 have l1 : ZZ.lend = true := rfl
 have hdl := ZcH false ps
 have cat : binW .Add (.nd .lst (dI (st ++ (row.map (pt ps)).flatten))) (.nd .lst (dI sp)) = some (Ls true (wds st sp ps row)) := by
  rw [ZeU _ _ (by rw [List.length_append, Zo, Zo, List.length_append, hfl, szl]; omega), Ls, wds, <- ZD]
 generalize st ++ (row.map (pt ps)).flatten = A at hf cat
 generalize wds st sp ps row = W at cat
 (simp_all [l1, fl_3, fl_4, fl_5, Zi, ZF, hdl, hc, hf, cat]) <;> rfl
theorem ZbM (n m : Nat) (h1 : 2 <= n) (h2 : n <= 10) : ZS.run [I n, I (((m + 2 : Nat) : Int) * n + 1)] = .ok (I ((m + 2 : Nat) : Int), [I n, I (((m + 2 : Nat) : Int) * n + 1)]) := by
 walk_at "r"
 have e : (((m + 2 : Nat) : Int) * n + 1) / n = ((m + 2 : Nat) : Int) := by
  rw [Int.add_comm, Int.add_mul_ediv_right _ _ (by omega), Int.ediv_eq_zero_of_lt (by decide) (by omega)]
  omega
 have dv : binW .FloorDiv (.sc (.int (((m + 2 : Nat) : Int) * n + 1))) (.sc (.int (n : Int))) = some (.sc (.int ((m + 2 : Nat) : Int))) := by
  rw [ZbV _ _ (by omega), e]
 have mu : binW .Mult (.sc (.int ((m + 2 : Nat) : Int))) (.sc (.int (n : Int))) = some (.sc (.int (((m + 2 : Nat) : Int) * n))) := Zah _ _ (.inr (by omega))
 have lt : ¬ ((m + 2 : Nat) : Int) < 2 := by omega
 generalize ((m + 2 : Nat) : Int) = s at dv mu lt
 have hd : decide (V.int (s * n + 1) = V.int (s * n + 1)) = true := decide_eq_true rfl
 (simp_all [dv, mu, lt, hd]) <;> rfl
theorem ZkB (xs : List Int) (k : Nat) (h : k <= xs.length) (h0 : 0 < k) : cutD (dI xs) (some (-(k : Int))) none = dI (xs.drop (xs.length - k)) := by
 rw [Zb6]
 unfold cutI
 have e : HT.sIx xs.length 0 (some (-(k : Int))) = xs.length - k := by
  show (if -(k : Int) < 0 then (-(k : Int) + (xs.length : Int)).toNat else min (-(k : Int)).toNat xs.length) = _
  rw [if_pos (by omega)]
  omega
 have e3 : HT.sIx xs.length xs.length none = xs.length := rfl
 rw [e, e3, List.take_of_length_le (by rw [List.length_drop]; exact Nat.le_refl _)]
theorem ZhP (f : BF) (es : List E) (c : M Op) : Zb9 (.bf f es) c = ((c.bnd view).bnd fun w => lift (intP w)) := (rfl)
theorem ZcW (C : Addr) (n : Nat) (t : Int) (st sp : List Int) (ps : List (List Int)) (ws : List Int) (o : Bool) (h1 : st.length = n) (h2 : sp.length = n + 1) (h3 : n + 1 <= ws.length) :
 (Zaf C).run [Fd C false n t st sp ps, Ls o ws] = .ok (.sc (.bl (decide (ws.take n = st) && decide (ws.drop (ws.length - (n + 1)) = sp))), [Fd C false n t st sp ps, Ls o ws]) := by
 walk_at "r"
 have d1 : ((dI st).length : Int) = n := by rw [Zo, h1]
 have d2 : ((dI sp).length : Int) = ((n + 1 : Nat) : Int) := by rw [Zo, h2]
 have c1 := Zff ws n
 have c2 := ZkB ws (n + 1) h3 (by omega)
 have q1 := ZdX (ws.take n) st
 have q2 := ZdX (ws.drop (ws.length - (n + 1))) sp
 generalize ((n + 1 : Nat) : Int) = n1 at d2 c2
 generalize ws.take n = A at c1 q1
 generalize ws.drop (ws.length - (n + 1)) = B at c2 q2
 by_cases hA : A = st
 . rw [decide_eq_true hA] at q1 ⊢
   rw [Bool.true_and]
   cases o <;> (simp_all [ZhP, fl_3, fl_4, Zi, ZF, d1, d2, c1, c2, q1, q2]) <;> rfl
 . rw [decide_eq_false hA] at q1 ⊢
   rw [Bool.false_and]
   cases o <;> (simp_all [ZhP, fl_3, fl_4, Zi, ZF, d1, d2, c1, c2, q1, q2]) <;> rfl
noncomputable def tg (q s : Int) : D := if q <= s then .sc .non else I s
theorem Zgs (i : Int) : isNW true (.sc (.int i)) = .sc (.bl false) := by
 show D.sc (.bl (decide (V.int i = V.non) == true)) = _
 rw [decide_eq_false (fun h => by cases h)]
 rfl
theorem Zj5 (C : Addr) (n : Nat) (t : Int) (st sp : List Int) (ps : List (List Int)) (ws : List Int) (q k s : Int) (hn : n <= 10) (hnd : ps.Nodup) (h0 : 0 <= s) (h1 : s < ps.length) (hc : cutD (dI ws) (some (k * n)) (some (k * n + n)) = dI (pt ps s)) :
 (Z3 C).run [Fd C false n t st sp ps, I q, Ls false ws, I k] = .ok (tg q s, [Fd C false n t st sp ps, I q, Ls false ws, I k]) := by
 rw [show (Z3 C).run = Zj (CK C) 4 6 (Zaw C) from rfl]
 rw [runA (show [Fd C false n t st sp ps, I q, Ls false ws, I k].length = 4 from rfl)]
 unfold Zaw tg
 simp only [List.replicate, Nat.reduceSub]
 have mu : binW .Mult (.sc (.int k)) (.sc (.int (n : Int))) = some (.sc (.int (k * n))) := Zah _ _ (.inr (by omega))
 have hk : s.toNat < ps.length := by omega
 have hp : pt ps s = ps[s.toNat] := by rw [pt, List.getD_eq_getElem?_getD, List.getElem?_eq_getElem hk]; rfl
 have dg : ZdM (.node (.dic (kys ps)) false (dI (rngI 0 ps.length))) (.node .lst true (dI (pt ps s))) = some (I s) := by
  unfold ZdM
  simp only [ZbA, Option.bind_some]
  rw [hp, ZdP ps s.toNat 0 hnd hk]
  show some (I (0 + (s.toNat : Int))) = _
  rw [show (0 : Int) + (s.toNat : Int) = s by omega]
 generalize pt ps s = l at hc dg
 by_cases hq : q <= s
 . rw [if_pos hq]
   (simp_all [fl_1, fl_6, Zi, ZF, mu, hc, dg, Zgs, hq]) <;> rfl
 . rw [if_neg hq]
   (simp_all [fl_1, fl_6, Zi, ZF, mu, hc, dg, Zgs, hq]) <;> rfl
theorem ZfT (ps : List (List Int)) (n : Nat) (hp : ∀ l ∈ ps, l.length = n) (sp : List Int) : ∀ (row : List Int) (j : Nat) (hj : j < row.length), (∀ x ∈ row, 0 <= x /\ x < ps.length) -> (((row.map (pt ps)).flatten ++ sp).drop (j * n)).take n = pt ps row[j]
 | [], j, hj, _ => by simp at hj
 | x :: row, j, hj, h => by
  obtain ⟨q0, q1⟩ := h x List.mem_cons_self
  have hb : (pt ps x).length = n := by
   have hk : x.toNat < ps.length := by omega
   rw [pt, List.getD_eq_getElem?_getD, List.getElem?_eq_getElem hk]
   exact hp _ (List.getElem_mem hk)
  rw [List.map_cons, List.flatten_cons, List.append_assoc]
  cases j with
  | zero => rw [Nat.zero_mul, List.drop_zero, List.take_append_of_le_length (by omega), List.take_of_length_le (by omega)]; rfl
  | succ j =>
   have hj' : j < row.length := by simpa using hj
   have := ZfT ps n hp sp row j hj' fun y hy => h y (List.mem_cons_of_mem _ hy)
   rw [show (x :: row)[j + 1] = row[j] from rfl, <- this]
   congr 1
   rw [show (j + 1) * n = (pt ps x).length + j * n by rw [hb, Nat.add_mul]; omega, List.drop_append, List.drop_of_length_le (by omega), List.nil_append, Nat.add_sub_cancel_left]
theorem Zeb (n : Nat) (st sp : List Int) (ps : List (List Int)) (row : List Int) (h1 : st.length = n) (h2 : sp.length = n + 1) (hp : ∀ l ∈ ps, l.length = n) (hx : ∀ x ∈ row, 0 <= x /\ x < ps.length) : (wds st sp ps row).length = (row.length + 2) * n + 1 := by
 rw [wds, List.length_append, List.length_append, Ze9 ps n hp row hx, h1, h2, Nat.add_mul]
 omega
theorem blk (n : Nat) (st sp : List Int) (ps : List (List Int)) (row : List Int) (h1 : st.length = n) (h2 : sp.length = n + 1) (hp : ∀ l ∈ ps, l.length = n) (hx : ∀ x ∈ row, 0 <= x /\ x < ps.length) (j : Nat) (hj : j < row.length) :
 cutD (dI (wds st sp ps row)) (some (((j + 1 : Nat) : Int) * n)) (some (((j + 1 : Nat) : Int) * n + n)) = dI (pt ps row[j]) := by
 have hl := Zeb n st sp ps row h1 h2 hp hx
 have hle : (j + 1) * n + n <= (wds st sp ps row).length := by
  have : (j + 2) * n <= (row.length + 2) * n := Nat.mul_le_mul_right n (by omega)
  rw [hl]
  have e : (j + 2) * n = (j + 1) * n + n := by rw [show j + 2 = j + 1 + 1 from rfl, Nat.add_mul (j + 1) 1 n, Nat.one_mul]
  omega
 rw [Zb6, show ((j + 1 : Nat) : Int) * n = (((j + 1) * n : Nat) : Int) by rw [Int.natCast_mul], show (((j + 1) * n : Nat) : Int) + n = (((j + 1) * n + n : Nat) : Int) by omega]
 unfold cutI
 rw [HT.Zcb, HT.Zcb, Nat.min_eq_left hle, Nat.min_eq_left (show (j + 1) * n <= (wds st sp ps row).length by omega), Nat.add_sub_cancel_left]
 congr 1
 rw [wds, List.append_assoc, show (j + 1) * n = st.length + j * n by rw [h1, Nat.add_mul]; omega, List.drop_append, List.drop_of_length_le (by omega), List.nil_append, Nat.add_sub_cancel_left, ZfT ps n hp sp row j hj hx]
theorem Zm8 (C : Addr) (lk : Nat -> Bool) (fuel : Nat) (k0 : lk 0 = false) (n : Nat) (t q : Int) (st sp : List Int) (ps : List (List Int)) (ws row : List Int) (hn : n <= 10) (hnd : ps.Nodup) (hx : ∀ x ∈ row, 0 <= x /\ x < ps.length)
 (hc : ∀ (j : Nat) (hj : j < row.length), cutD (dI ws) (some (((j + 1 : Nat) : Int) * n)) (some (((j + 1 : Nat) : Int) * n + n)) = dI (pt ps row[j])) : ∀ (xs pre : List Int) (acc : List D) (a : D), row = pre ++ xs -> ∃ a',
 Z7 (asgT lk (.name 0)) (tsts ⟨lk, (CK C).fok, fuel⟩ []) (evb ⟨lk, (CK C).fok, fuel⟩ (.meth C "thing_at" (Z3 C) (.v 3) [.v 1, .v 2, .v 0])).1 (dI (rngI ((pre.length + 1 : Nat) : Int) xs.length)) acc [a, I q, Ls false ws, Fd C false n t st sp ps]
  = .ok (acc ++ xs.map (tg q), [a', I q, Ls false ws, Fd C false n t st sp ps]) := by
 intro xs
 induction xs with
 | nil => exact fun pre acc a _ => ⟨a, by rw [List.map_nil, List.append_nil]; rfl⟩
 | cons x xs ih =>
  intro pre acc a hrow
  obtain ⟨a', ih⟩ := ih (pre ++ [x]) (acc ++ [tg q x]) (I ((pre.length + 1 : Nat) : Int)) (by rw [hrow, List.append_assoc]; rfl)
  refine ⟨a', ?_⟩
  have hj : pre.length < row.length := by rw [hrow, List.length_append, List.length_cons]; omega
  have hg : row[pre.length] = x := by
   have : row[pre.length]? = some x := by rw [hrow, List.getElem?_append_right (Nat.le_refl _), Nat.sub_self]; rfl
   rw [List.getElem?_eq_getElem hj] at this
   exact Option.some.inj this
  have hcc := hc pre.length hj
  rw [hg] at hcc
  obtain ⟨q0, q1⟩ := hx x (by rw [<- hg]; exact List.getElem_mem hj)
  have hr := Zj5 C n t st sp ps ws q ((pre.length + 1 : Nat) : Int) x hn hnd q0 q1 hcc
  have e : acc ++ List.map (tg q) (x :: xs) = acc ++ [tg q x] ++ xs.map (tg q) := by rw [List.append_assoc]; rfl
  have hk : ∃ v, tg q x = .sc v := by
   unfold tg
   split
   . exact ⟨_, rfl⟩
   . exact ⟨_, rfl⟩
  rw [show (((pre ++ [x]).length + 1 : Nat) : Int) = ((pre.length + 1 : Nat) : Int) + 1 by rw [List.length_append, List.length_singleton]; omega] at ih
  rw [e, <- ih, List.length_cons, rngI, Zt, Zaj]
  have l1 : (Z3 C).lend = true := rfl
  have ck : ∀ (ds : List D) (x0 x1 x2 : D), chkI C "thing_at" (.late 3) [x0, x1, x2, .node (.ins C FS) true ds] = .ok ((), [x0, x1, x2, .node (.ins C FS) true ds]) := fun ds x0 x1 x2 => if_pos ⟨rfl, by decide⟩
  generalize tg q x = Z at hr
  simp_all [k0, l1, ck, hr]
theorem ZhQ (C : Addr) (n : Nat) (t q : Int) (st sp : List Int) (ps : List (List Int)) (ws row : List Int) (x2 x3 : D) (hn : n <= 10) (hnd : ps.Nodup) (hx : ∀ x ∈ row, 0 <= x /\ x < ps.length) (hr : row.length <= 100)
 (hc : ∀ (j : Nat) (hj : j < row.length), cutD (dI ws) (some (((j + 1 : Nat) : Int) * n)) (some (((j + 1 : Nat) : Int) * n + n)) = dI (pt ps row[j])) :
 ZV 1 [1, 4, 0] (ZB (CK C).fok (CK C).fuel 1 (.name 0) [] (.meth C "thing_at" (Z3 C) (.v 3) [.v 1, .v 2, .v 0]) (dI (rngI 1 row.length)) []) [Fd C false n t st sp ps, I q, x2, x3, Ls false ws] = .ok (.node .lst true (row.map (tg q)), [Fd C false n t st sp ps, I q, x2, x3, Ls false ws]) := by
 obtain ⟨a', h⟩ := Zm8 C (fun i => decide (1 <= i)) (CK C).fuel rfl n t q st sp ps ws row hn hnd hx hc row [] [] .hole rfl
 rw [List.nil_append, show (((([] : List Int).length + 1 : Nat)) : Int) = 1 from rfl] at h
 replace h : ZB (CK C).fok (CK C).fuel 1 (.name 0) [] (.meth C "thing_at" (Z3 C) (.v 3) [.v 1, .v 2, .v 0]) (dI (rngI 1 row.length)) [] [.hole, I q, Ls false ws, Fd C false n t st sp ps] = _ := h
 rw [ZL (js := [1, 4, 0]) (caps := [I q, Ls false ws, Fd C false n t st sp ps]) (δ1 := [.hole, .hole, x2, x3, .hole]) rfl h (by rw [List.length_map, szl]; omega)]
 rfl
section
variable (C : Addr) (b : Bool) (n : Nat) (t q : Int) (st sp : List Int) (ps : List (List Int)) (ws row : List Int) (hn2 : 2 <= n) (hn : n <= 10) (h1 : st.length = n) (h2 : sp.length = n + 1) (hnd : ps.Nodup) (hx : ∀ x ∈ row, 0 <= x /\ x < ps.length) (hr : row.length <= 100) (hl : ws.length = (row.length + 2) * n + 1)
include hn2 hn h1 h2 hnd hx hr hl
theorem ZkC (hf1 : ws.take n = st) (hf2 : ws.drop (ws.length - (n + 1)) = sp) (hc : ∀ (j : Nat) (hj : j < row.length), cutD (dI ws) (some (((j + 1 : Nat) : Int) * n)) (some (((j + 1 : Nat) : Int) * n + n)) = dI (pt ps row[j])) :
 (Z8 C).run [Fd C b n t st sp ps, I q, Ls true ws] = .ok (.node .lst true (row.map (tg q)), [Fd C false n t st sp ps, I q, Ls false ws]) := by
 have hge : n + 1 <= ws.length := by
  have : 2 * n <= (row.length + 2) * n := Nat.mul_le_mul_right n (by omega)
  omega
 have hs := ZbM n row.length hn2 hn
 have hdl : ((dI ws).length : Int) = ((row.length + 2 : Nat) : Int) * n + 1 := by rw [Zo, hl, Int.natCast_add, Int.natCast_mul]; rfl
 have fr := ZcW C n t st sp ps ws false h1 h2 hge
 rw [decide_eq_true hf1, decide_eq_true hf2, Bool.true_and] at fr
 have cm := fun x2 x3 => ZhQ C n t q st sp ps ws row x2 x3 hn hnd hx hr hc
 have hit : itW .rng2 [.sc (.int 1), .sc (.int (((row.length + 2 : Nat) : Int) - 1))] = some (dI (rngI 1 row.length)) := by
  rw [Zgo 1 (((row.length + 2 : Nat) : Int) - 1) (by omega), show (((row.length + 2 : Nat) : Int) - 1 - 1).toNat = row.length by omega]
 walk_at "r"
 have tr := ZcU ws false
 have nt : ∀ u v : D, newT [u, v] = some (.node .tup true [u, v]) := fun u v => Zfs _ (by rw [szl]; simp)
 have l1 : ZS.lend = true := rfl
 have l2 : Zbg.lend = true := rfl
 have l3 : (Zaf C).lend = true := rfl
 have ck : ∀ (ds : List D) (x1 x2 x3 x4 : D), chkI C "is_framed" (.late 0) [.node (.ins C FS) true ds, x1, x2, x3, x4] = .ok ((), [.node (.ins C FS) true ds, x1, x2, x3, x4]) := fun ds x1 x2 x3 x4 => if_pos ⟨rfl, by decide⟩
 generalize ((row.length + 2 : Nat) : Int) = s2 at hs hdl hit
 generalize hR : row.map (tg q) = R at cm ⊢
 generalize rngI 1 row.length = rg at cm hit
 generalize hrev : ws.reverse = rv at tr
 (simp_all [l1, l2, l3, fl_1, Zi, ZF, hdl, hs, tr, nt, ck, fr, hit, cm, Za4]) <;> rfl
theorem ZkD (hnf : ws.take n ≠ st) (hf1 : ws.reverse.take n = st) (hf2 : ws.reverse.drop (ws.reverse.length - (n + 1)) = sp) (hc : ∀ (j : Nat) (hj : j < row.length), cutD (dI ws.reverse) (some (((j + 1 : Nat) : Int) * n)) (some (((j + 1 : Nat) : Int) * n + n)) = dI (pt ps row[j])) :
 (Z8 C).run [Fd C b n t st sp ps, I q, Ls true ws] = .ok (.node .lst true (row.map (tg q)), [Fd C false n t st sp ps, I q, Ls false ws]) := by
 have hge : n + 1 <= ws.length := by
  have : 2 * n <= (row.length + 2) * n := Nat.mul_le_mul_right n (by omega)
  omega
 have hs := ZbM n row.length hn2 hn
 have hdl : ((dI ws).length : Int) = ((row.length + 2 : Nat) : Int) * n + 1 := by rw [Zo, hl, Int.natCast_add, Int.natCast_mul]; rfl
 have f0 := ZcW C n t st sp ps ws false h1 h2 hge
 rw [decide_eq_false hnf, Bool.false_and] at f0
 have fr := ZcW C n t st sp ps ws.reverse false h1 h2 (by rw [List.length_reverse]; exact hge)
 rw [decide_eq_true hf1, decide_eq_true hf2, Bool.true_and] at fr
 have cm := fun x2 x3 => ZhQ C n t q st sp ps ws.reverse row x2 x3 hn hnd hx hr hc
 have hit : itW .rng2 [.sc (.int 1), .sc (.int (((row.length + 2 : Nat) : Int) - 1))] = some (dI (rngI 1 row.length)) := by
  rw [Zgo 1 (((row.length + 2 : Nat) : Int) - 1) (by omega), show (((row.length + 2 : Nat) : Int) - 1 - 1).toNat = row.length by omega]
 walk_at "r"
 have tr := ZcU ws false
 have nt : ∀ u v : D, newT [u, v] = some (.node .tup true [u, v]) := fun u v => Zfs _ (by rw [szl]; simp)
 have l1 : ZS.lend = true := rfl
 have l2 : Zbg.lend = true := rfl
 have l3 : (Zaf C).lend = true := rfl
 have ck : ∀ (ds : List D) (x1 x2 x3 x4 : D), chkI C "is_framed" (.late 0) [.node (.ins C FS) true ds, x1, x2, x3, x4] = .ok ((), [.node (.ins C FS) true ds, x1, x2, x3, x4]) := fun ds x1 x2 x3 x4 => if_pos ⟨rfl, by decide⟩
 generalize ((row.length + 2 : Nat) : Int) = s2 at hs hdl hit
 generalize hR : row.map (tg q) = R at cm ⊢
 generalize rngI 1 row.length = rg at cm hit
 generalize hrev : ws.reverse = rv at tr fr cm
 (simp_all [l1, l2, l3, fl_1, Zi, ZF, hdl, hs, tr, nt, ck, f0, fr, hit, cm, Za4]) <;> rfl
end
theorem Zec (xs : List Int) (e : Int) : ((ixN' (dI (xs ++ [e])).length (-1)).bind fun j => (dI (xs ++ [e]))[j]?) = some (.sc (.int e)) := by
 have h : ixN' (dI (xs ++ [e])).length (-1) = some xs.length := by
  rw [Zo, List.length_append]
  show ixN' (xs.length + 1) (-1) = _
  unfold ixN'
  rw [if_neg (by decide), if_pos (by omega)]
  congr 1
  omega
 rw [h]
 show (dI (xs ++ [e]))[xs.length]? = _
 rw [ZD, List.getElem?_append_right (by rw [Zo]; exact Nat.le_refl _), Zo, Nat.sub_self]
 rfl
theorem ZkE (i : Nat) (δ : List D) (xs : List Int) (e u : Int) : mdR i δ (Zap (.sc (.int (-1))) (.sc (.int u))) (some (.node .lst true (dI (xs ++ [e])))) = .ok (.sc .non, δ.set i (Ls true (xs ++ [u]))) := by
 have h : ixN' (dI (xs ++ [e])).length (-1) = some xs.length := by
  rw [Zo, List.length_append]
  show ixN' (xs.length + 1) (-1) = _
  unfold ixN'
  rw [if_neg (by decide), if_pos (by omega)]
  congr 1
  omega
 rw [ZcA i δ _ _ _ _ h]
 congr 4
 rw [ZD, List.set_append_right _ _ (by rw [Zo]; exact Nat.le_refl _), Zo, Nat.sub_self, ZD]
 rfl
theorem ZrF : ∀ k : Nat, k < 9 -> 5 <= (pat 4 (6 + (k : Int))).length := by walk_at "d"
theorem ZrG : ∀ k : Nat, k < 17 -> 5 <= (pat 6 (7 + (k : Int))).length := by walk_at "d"
theorem ZkF (c0 c1 : Int) : ∃ (n : Nat) (t : Int) (st sp : List Int), (n = 4 \/ n = 6) /\ 5 <= (pat n t).length /\ st.length = n /\ sp.length = n + 1 /\ (∀ x ∈ st, 1 <= x /\ x <= 4) /\ (∀ x ∈ sp, 1 <= x /\ x <= 4) /\ st.sum = t /\ (sp.take n).sum = t /\ sp.reverse.take n ≠ st /\
 ZaK.run [I c0, I c1] = .ok (.node .tup true [I n, I t, Ls false st, Ls false sp], [I c0, I c1]) := by
 obtain ⟨a0, hs0⟩ := ZcV c0
 obtain ⟨a1, hs1⟩ := ZcV c1
 obtain ⟨r1, u1, v1, r10, r11, hx1⟩ := Zal c0 a0 0 2 (by decide) (by decide)
 have hpick : ∃ (n : Nat) (lo wd : Int), ((n = 4 /\ lo = 6 /\ wd = 9) \/ (n = 6 /\ lo = 7 /\ wd = 17)) /\ ((ixN' 2 r1).bind fun j => [D.sc (.int 4), D.sc (.int 6)][j]?) = some (.sc (.int (n : Int))) /\ ((ixN' 2 ((n : Int) / 2 - 2)).bind fun j => [D.sc (.int 6), D.sc (.int 7)][j]?) = some (.sc (.int lo)) /\ ((ixN' 2 ((n : Int) / 2 - 2)).bind fun j => [D.sc (.int 9), D.sc (.int 17)][j]?) = some (.sc (.int wd)) := by
  rcases (show r1 = 0 \/ r1 = 1 by omega) with q | q <;> rw [q]
  . exact ⟨4, 6, 9, .inl ⟨rfl, rfl, rfl⟩, rfl, rfl, rfl⟩
  . exact ⟨6, 7, 17, .inr ⟨rfl, rfl, rfl⟩, rfl, rfl, rfl⟩
 obtain ⟨n, lo, wd, hnl, i1, i2, i3⟩ := hpick
 have hn : n = 4 \/ n = 6 := by omega
 obtain ⟨r2, u2, v2, r20, r21, hx2⟩ := Zal c0 u1 v1 wd (by omega) (by omega)
 have et : ∃ t : Int, lo + r2 = t /\ (n : Int) <= t /\ t <= 4 * n /\ 5 <= (pat n t).length := by
  refine ⟨_, rfl, by omega, by omega, ?_⟩
  rcases hnl with ⟨rfl, rfl, rfl⟩ | ⟨rfl, rfl, rfl⟩
  . have := ZrF r2.toNat (by omega)
    rwa [show (r2.toNat : Int) = r2 by omega] at this
  . have := ZrG r2.toNat (by omega)
    rwa [show (r2.toNat : Int) = r2 by omega] at this
 obtain ⟨t, et, t1, t2, t3⟩ := et
 obtain ⟨st, m1, k1, s1, s2, s3, hw1⟩ := Zfg n hn c0 u2 v2 t t1 t2
 obtain ⟨ys, m2, k2, y1, y2, y3, hw2⟩ := Zfg n hn c1 a1 0 t t1 t2
 obtain ⟨w, m3, k3, w1, w2, hnx⟩ := Zal c1 m2 k2 4 (by decide) (by decide)
 have d2 : ∀ u : Int, binW .FloorDiv (.sc (.int u)) (.sc (.int 2)) = some (.sc (.int (u / 2))) := fun u => ZbV _ _ (by decide)
 have e4 : ∀ u : Int, binW .Mod (.sc (.int u)) (.sc (.int 4)) = some (.sc (.int (u % 4))) := fun u => Z2 _ _ (by decide)
 have nl2 : ∀ u v : D, newL [u, v] = some (.node .lst true [u, v]) := fun u v => ZR _ (by rw [szl]; simp)
 have nl1 : ∀ u : D, newL [u] = some (.node .lst true [u]) := fun u => ZR _ (by rw [szl]; simp)
 have nt4 : ∀ a b c d : D, newT [a, b, c, d] = some (.node .tup true [a, b, c, d]) := fun a b c d => Zfs _ (by rw [szl]; simp)
 have cat : ∀ u : Int, binW .Add (.nd .lst (dI ys)) (.nd .lst [D.sc (.int u)]) = some (Ls true (ys ++ [u])) := fun u => by
  rw [ZeU (dI ys) [D.sc (.int u)] (by rw [List.length_append, Zo, szl]; show ys.length + 1 <= _; omega), Ls, ZD]
  rfl
 have cut := Zff (ys ++ [1 + w]).reverse n
 have ce := ZdX ((ys ++ [1 + w]).reverse.take n) st
 have lx := Zec ys (1 + w)
 have ls := fun (δ : List D) (u : Int) => ZkE 7 δ ys (1 + w) u
 have hdr := ZgV (ys ++ [1 + w])
 have g2 : Zaa.lend = true := rfl
 have g3 : Za6.lend = true := rfl
 have g4 : Zn.lend = true := rfl
 have hsp : ∀ e : Int, 1 <= e /\ e <= 4 -> (ys ++ [e]).length = n + 1 /\ (∀ x ∈ ys ++ [e], 1 <= x /\ x <= 4) /\ ((ys ++ [e]).take n).sum = t := fun e he =>
  ⟨by rw [List.length_append, y1]; rfl, fun x hx => by
   (rcases List.mem_append.mp hx with hx | hx)
   . exact y2 x hx
   . rw [List.mem_singleton.mp hx]; exact he, by rw [List.take_append_of_le_length (by omega), List.take_of_length_le (by omega)]; exact y3⟩
 have fin : ∀ b : Bool, Zat .Eq (.nd .lst (dI ((ys ++ [1 + w]).reverse.take n))) (.nd .lst (dI st)) = some b -> ZaK.run [I c0, I c1] = .ok (.node .tup true [I n, I t, Ls false st, Ls false (ys ++ [if b then (1 + w) % 4 + 1 else 1 + w])], [I c0, I c1]) := fun b ce => by
  generalize (ys ++ [1 + w]).reverse.take n = zs at cut ce
  generalize (ys ++ [1 + w]).reverse = rv at cut hdr
  walk_at "r"
  simp_all [g2, g3, g4, hs0, hs1, hx1, hx2, i1, i2, i3, et, hw1, hw2, hnx, d2, nl1, nl2, cat, cut, ce, hdr, Zi]
  cases b
  . (simp_all [nt4, Zi]) <;> rfl
  . (simp_all [e4, nt4, lx, ls, Zi]) <;> rfl
 have fin := fin _ ce
 by_cases hq : (ys ++ [1 + w]).reverse.take n = st
 . have hne : (ys ++ [(1 + w) % 4 + 1]).reverse.take n ≠ st := fun hc => by
    rw [<- hc] at hq
    have e1 : n = (n - 1) + 1 := by omega
    rw [e1, List.reverse_append, List.reverse_append] at hq
    simp only [List.reverse_singleton, List.cons_append, List.nil_append, List.take_succ_cons, List.cons.injEq] at hq
    omega
   obtain ⟨p1, p2, p3⟩ := hsp ((1 + w) % 4 + 1) (by omega)
   rw [decide_eq_true hq] at fin
   exact ⟨n, t, st, ys ++ [(1 + w) % 4 + 1], hn, t3, s1, p1, s2, p2, s3, p3, hne, fin⟩
 . obtain ⟨p1, p2, p3⟩ := hsp (1 + w) (by omega)
   rw [decide_eq_false hq] at fin
   exact ⟨n, t, st, ys ++ [1 + w], hn, t3, s1, p1, s2, p2, s3, p3, hq, fin⟩
noncomputable abbrev PR : List Int := [5, 7, 11, 13, 17, 19, 23, 29, 31, 37, 41, 43, 47]
theorem Zm9 (h0 : lk 0 = false) (m : Int) : ∀ (xs acc : List Int) (a : D), ∃ a',
 Z7 (asgT lk (.name 0)) (tsts ⟨lk, fok, fuel⟩ [.cmp .LtE (.v 0) (.v 1)]) (evb ⟨lk, fok, fuel⟩ (.v 0)).1 (dI xs) (dI acc) [a, I m] = .ok (dI (acc ++ xs.filter fun x => decide (x <= m)), [a', I m]) := by
 intro xs
 induction xs with
 | nil => exact fun acc a => ⟨a, by rw [List.filter_nil, List.append_nil]; rfl⟩
 | cons x xs ih =>
  intro acc a
  rw [Zt, Zaj]
  by_cases h : x <= m
  . obtain ⟨a', ih⟩ := ih (acc ++ [x]) (I x)
    refine ⟨a', ?_⟩
    have e : acc ++ (x :: xs).filter (fun x => decide (x <= m)) = acc ++ [x] ++ xs.filter (fun x => decide (x <= m)) := by
     rw [List.filter_cons_of_pos (by simpa using h), List.append_assoc]
     rfl
    rw [e, <- ih, ZD]
    simp_all [h0, h]
  . obtain ⟨a', ih⟩ := ih acc (I x)
    refine ⟨a', ?_⟩
    rw [List.filter_cons_of_neg (by simpa using h), <- ih]
    simp_all [h0, h]
theorem Zj6 (c m : Int) (hm : 5 <= m) : ∃ p : Int, 5 <= p /\ p <= m /\ p <= 47 /\ p ∈ PR /\ ZaE.run [I c, I m] = .ok (I p, [I c, I m]) := by
 obtain ⟨a', hc⟩ := Zm9 (fun i => decide (1 <= i)) (fun _ _ => false) 0 rfl m PR [] .hole
 rw [List.nil_append] at hc
 have hall : ∀ x ∈ PR.filter (fun x => decide (x <= m)), 5 <= x /\ x <= m /\ x <= 47 /\ x ∈ PR := fun x hx => by
  rw [List.mem_filter, decide_eq_true_eq] at hx
  have : ∀ y ∈ PR, 5 <= y /\ y <= 47 := by decide
  exact ⟨(this x hx.1).1, hx.2, (this x hx.1).2, hx.1⟩
 have hpos : 0 < (PR.filter (fun x => decide (x <= m))).length := List.length_pos_of_mem (List.mem_filter.mpr ⟨show (5 : Int) ∈ PR by decide, by simpa using hm⟩)
 have hup : (PR.filter (fun x => decide (x <= m))).length <= 13 := List.length_filter_le _ _
 generalize PR.filter (fun x => decide (x <= m)) = L at hc hall hpos hup
 have h0 := Int.emod_nonneg c (show ((L.length : Nat) : Int) ≠ 0 by omega)
 have h1 := Int.emod_lt_of_pos c (show (0 : Int) < ((L.length : Nat) : Int) by omega)
 have hi := ixI L (c % (L.length : Int)) h0 h1
 have hk : (c % (L.length : Int)).toNat < L.length := by omega
 have hb := hall (L.getD (c % (L.length : Int)).toNat 0) (by rw [List.getD_eq_getElem?_getD, List.getElem?_eq_getElem hk]; exact List.getElem_mem hk)
 generalize L.getD (c % (L.length : Int)).toNat 0 = p at hi hb
 refine ⟨p, hb.1, hb.2.1, hb.2.2.1, hb.2.2.2, ?_⟩
 walk_at "r"
 have hdl : ((dI L).length : Int) = (L.length : Int) := by rw [Zo]
 have md : binW .Mod (.sc (.int c)) (.sc (.int (L.length : Int))) = some (.sc (.int (c % (L.length : Int)))) := Z2 _ _ (by omega)
 have kl : newL [D.sc (.int 5), D.sc (.int 7), D.sc (.int 11), D.sc (.int 13), D.sc (.int 17), D.sc (.int 19), D.sc (.int 23), D.sc (.int 29), D.sc (.int 31), D.sc (.int 37), D.sc (.int 41), D.sc (.int 43), D.sc (.int 47)] = some (.node .lst true (dI PR)) := ZR _ (by rw [szl]; simp)
 replace hc : ZB (fun _ _ => false) 0 1 (.name 0) [.cmp .LtE (.v 0) (.v 1)] (.v 0) (dI PR) [] [.hole, I m] = _ := hc
 have hm1 : ∀ x0 x2 : D, ZV 1 [1] (ZB (fun _ _ => false) 0 1 (.name 0) [.cmp .LtE (.v 0) (.v 1)] (.v 0) (dI PR) []) [x0, I m, x2] = .ok (Ls true L, [x0, I m, x2]) := fun x0 x2 => by
  rw [ZL (js := [1]) (caps := [I m]) (δ1 := [x0, .hole, x2]) rfl hc (by rw [Zo, szl]; omega)]
  rfl
 generalize PR = pr at kl hm1
 (simp_all [kl, Zi, hm1, hdl, md, hi]) <;> rfl
section
variable (C : Addr) (b : Bool) (n : Nat) (t q : Int) (st sp : List Int) (ps : List (List Int)) (row : List Int) (hn2 : 2 <= n) (hn : n <= 10) (h1 : st.length = n) (h2 : sp.length = n + 1) (hp : ∀ l ∈ ps, l.length = n) (hnd : ps.Nodup) (hx : ∀ x ∈ row, 0 <= x /\ x < ps.length) (hr : row.length <= 100)
include hn2 hn h1 h2 hp hnd hx hr
theorem Zlk : (wds st sp ps row).take n = st := by
 rw [wds, List.append_assoc, List.take_append_of_le_length (by omega), List.take_of_length_le (by omega)]
theorem Zll : (wds st sp ps row).drop ((wds st sp ps row).length - (n + 1)) = sp := by
 rw [wds, List.length_append, h2, Nat.add_sub_cancel, List.drop_append, List.drop_of_length_le (Nat.le_refl _), List.nil_append, Nat.sub_self, List.drop_zero]
theorem ZkG : (Z8 C).run [Fd C b n t st sp ps, I q, Ls true (wds st sp ps row)] = .ok (.node .lst true (row.map (tg q)), [Fd C false n t st sp ps, I q, Ls false (wds st sp ps row)]) :=
 ZkC C b n t q st sp ps _ row hn2 hn h1 h2 hnd hx hr (Zeb n st sp ps row h1 h2 hp hx) (Zlk n st sp ps row hn2 hn h1 h2 hp hnd hx hr) (Zll n st sp ps row hn2 hn h1 h2 hp hnd hx hr) (fun j hj => blk n st sp ps row h1 h2 hp hx j hj)
theorem ZoT (hne : sp.reverse.take n ≠ st) : (wds st sp ps row).reverse.take n ≠ st := by
 rw [wds, List.reverse_append, List.take_append_of_le_length (by rw [List.length_reverse]; omega)]
 exact hne
theorem ZkH (hne : sp.reverse.take n ≠ st) : (Z8 C).run [Fd C b n t st sp ps, I q, Ls true (wds st sp ps row).reverse] = .ok (.node .lst true (row.map (tg q)), [Fd C false n t st sp ps, I q, Ls false (wds st sp ps row).reverse]) := by
 have e : (wds st sp ps row).reverse.reverse = wds st sp ps row := List.reverse_reverse _
 refine ZkD C b n t q st sp ps _ row hn2 hn h1 h2 hnd hx hr (by rw [List.length_reverse]; exact Zeb n st sp ps row h1 h2 hp hx) (ZoT n st sp ps row hn2 hn h1 h2 hp hnd hx hr hne) ?_ ?_ ?_
 . rw [e]; exact Zlk n st sp ps row hn2 hn h1 h2 hp hnd hx hr
 . rw [e]; exact Zll n st sp ps row hn2 hn h1 h2 hp hnd hx hr
 . rw [e]; exact fun j hj => blk n st sp ps row h1 h2 hp hx j hj
end
noncomputable def wts : Int -> List Int -> List Int
 | _, [] => []
 | c, x :: xs => c * x :: wts (c + 1) xs
theorem ZmA (c : Int) (xs : List Int) : (wts c xs).length = xs.length := by
 induction xs generalizing c with
 | nil => rfl
 | cons x xs ih => rw [wts, List.length_cons, List.length_cons, ih]
theorem ZbK (p : Int) (xs : List Int) (o : Bool) (hp : 0 < p) : ZE.run [I p, Ls o xs] = .ok (I (xs.sum % p), [I p, Ls o xs]) := by
 walk_at "r"
 cases o <;> (simp_all [Zi, Zbe, Z2 _ _ hp]) <;> rfl
theorem wloop (h0 : lk 0 = false) (h1 : lk 1 = false) : ∀ (xs : List Int) (c : Int) (acc : List Int) (a b : D), 0 <= c -> c + xs.length < 2 ^ 64 -> ∃ a' b', Z7 (asgT lk (.tup [0, 1])) (tsts ⟨lk, fok, fuel⟩ []) (evb ⟨lk, fok, fuel⟩ (.bin .Mult (.v 0) (.v 1))).1 (ZG c (dI xs)) (dI acc) [a, b] = .ok (dI (acc ++ wts c xs), [a', b']) := by
 intro xs
 induction xs with
 | nil => exact fun c acc a b _ _ => ⟨a, b, by rw [wts, List.append_nil]; rfl⟩
 | cons x xs ih =>
  intro c acc a b hc hl
  rw [List.length_cons] at hl
  obtain ⟨a', b', ih⟩ := ih (c + 1) (acc ++ [c * x]) (I c) (I x) (by omega) (by omega)
  refine ⟨a', b', ?_⟩
  have hm : binW .Mult (.sc (.int c)) (.sc (.int x)) = some (.sc (.int (c * x))) := Zah c x (.inl ⟨by omega, by omega⟩)
  rw [Zt, ZG, Zaj]
  rw [ZD] at ih
  simp_all [h0, h1, ZbF, hm]
  rw [wts]
  have e : acc ++ c * x :: wts (c + 1) xs = acc ++ [c * x] ++ wts (c + 1) xs := by simp
  rw [e]
  exact ih
theorem Zc5 (p : Int) (xs : List Int) (o : Bool) (hp : 0 < p) (hl : xs.length <= 1000) : ZP.run [I p, Ls o xs] = .ok (I ((wts 1 xs).sum % p), [I p, Ls o xs]) := by
 walk_at "r"
 have hz : (dI ([] ++ wts 1 xs)).length <= sizeLine := by rw [Zo, List.nil_append, ZmA, szl]; omega
 obtain ⟨a', b', hw⟩ := wloop (fun i => decide (2 <= i)) (fun _ _ => false) 0 rfl rfl xs 1 [] .hole .hole (by decide) (by omega)
 replace hw : ZB (fun _ _ => false) 0 2 (.tup [0, 1]) [] (.bin .Mult (.v 0) (.v 1)) (ZG 1 (dI xs)) [] [.hole, .hole] = _ := hw
 cases o
 . simp_all [Zi, it_e _ 1 (by decide)]
   rw [ZL (js := []) (caps := []) rfl hw hz]
   simp_all [ZW, Zbe, Z2 _ _ hp]
   rfl
 . simp_all [Zi, it_e _ 1 (by decide)]
   rw [ZL (js := []) (caps := []) rfl hw hz]
   simp_all [ZW, Zbe, Z2 _ _ hp]
   rfl
noncomputable def good (p : Int) (xs : List Int) : Bool := decide (xs.sum % p = 0) && decide ((wts 1 xs).sum % p = 0)
theorem ZeA (p : Int) (xs : List Int) (o : Bool) (hp : 0 < p) (hl : xs.length <= 1000) : Zcx.run [I p, Ls o xs] = .ok (.sc (.bl (good p xs)), [I p, Ls o xs]) := by
 show Zj C0 2 2 ZbX [I p, Ls o xs] = _
 rw [runA (show [I p, Ls o xs].length = 2 from rfl)]
 unfold ZbX good
 simp only [List.replicate, Nat.reduceSub]
 have l1 : ZE.lend = true := rfl
 have l2 : ZP.lend = true := rfl
 have r1 := fun o => ZbK p xs o hp
 have r2 := fun o => Zc5 p xs o hp hl
 by_cases h : xs.sum % p = 0
 . cases o <;> (simp_all [l1, l2, r1, r2, h, V.int.injEq]) <;> rfl
 . cases o <;> (simp_all [l1, l2, r1, r2, h, V.int.injEq]) <;> rfl
noncomputable def Zc2 (p : Int) : Int -> List Int -> Int × Int -> Int × Int
 | _, [], s => s
 | c, x :: xs, s => Zc2 p (c + 1) xs ((s.1 + x) % p, (s.2 + c * x) % p)
theorem ZgX (p : Int) : ∀ (xs : List Int) (c : Int) (a b : Int), Zc2 p c xs (a % p, b % p) = ((a + xs.sum) % p, (b + (wts c xs).sum) % p)
 | [], c, a, b => by simp [Zc2, wts]
 | x :: xs, c, a, b => by
  rw [Zc2, wts, List.sum_cons, List.sum_cons]
  dsimp only
  rw [Int.emod_add_emod, Int.emod_add_emod, ZgX p xs (c + 1) (a + x) (b + c * x), Int.add_assoc, Int.add_assoc]
theorem Zj7 (h2 : lk 2 = false) (h3 : lk 3 = false) (p : Int) (hp : 0 < p) (xs : List Int) (hl : xs.length <= 1000) : ∀ (n i : Nat) (a b : Int) (x : D), i + n = xs.length -> ∃ x',
 forL (asgT lk (.name 3)) (exs ⟨lk, fok, fuel⟩ [.asg 2 (.lst [.bin .Mod (.bin .Add (.ix (.v 2) (.k (.int 0))) (.ix (.v 1) (.bin .Sub (.v 3) (.k (.int 1))))) (.v 0), .bin .Mod (.bin .Add (.ix (.v 2) (.k (.int 1))) (.bin .Mult (.v 3) (.ix (.v 1) (.bin .Sub (.v 3) (.k (.int 1)))))) (.v 0)])]) (dI (rngI (1 + i) n)) [I p, Ls true xs, .node .lst true [I a, I b], x]
  = .ok (.nx, [I p, Ls true xs, D.node .lst true [I (Zc2 p (1 + i) (xs.drop i) (a, b)).1, I (Zc2 p (1 + i) (xs.drop i) (a, b)).2], x']) := by
 intro n
 induction n with
 | zero =>
  intro i a b x hi
  refine ⟨x, ?_⟩
  rw [List.drop_of_length_le (by omega)]
  rfl
 | succ n ih =>
  intro i a b x hi
  (have hlt : i < xs.length := by omega)
  obtain ⟨x', ih⟩ := ih (i + 1) ((a + xs[i]) % p) ((b + (1 + i) * xs[i]) % p) (I (1 + i)) (by omega)
  refine ⟨x', ?_⟩
  have e0 : (1 + ((i + 1 : Nat) : Int)) = 1 + (i : Int) + 1 := by omega
  rw [e0] at ih
  rw [List.drop_eq_getElem_cons hlt, Zc2]
  dsimp only
  rw [<- ih, rngI, Zt, Za4]
  have hx := ixI xs (1 + (i : Int) - 1) (by omega) (by omega)
  have hg : xs.getD (1 + (i : Int) - 1).toNat 0 = xs[i] := by
   have : (1 + (i : Int) - 1).toNat = i := by omega
   rw [this, List.getD_eq_getElem?_getD, List.getElem?_eq_getElem hlt]
   rfl
  rw [hg] at hx
  have i0 : ixN' 2 0 = some 0 := rfl
  have i1 : ixN' 2 1 = some 1 := rfl
  have hm : binW .Mult (.sc (.int (1 + (i : Int)))) (.sc (.int xs[i])) = some (.sc (.int ((1 + (i : Int)) * xs[i]))) := Zah _ _ (.inl (by omega))
  have hz : (2 : Nat) <= sizeLine := by rw [szl]; decide
  have hn : ∀ u v : D, newL [u, v] = some (.node .lst true [u, v]) := fun u v => ZR _ (by simpa using hz)
  (simp_all [h2, h3, Zi, hx, hm, hn, i0, i1, Z2 _ _ hp])
theorem ZkI (p : Int) (xs : List Int) (hp : 0 < p) (hl : xs.length <= 1000) : ZaW.run [I p, Ls true xs] = .ok (Ls true [xs.sum % p, (wts 1 xs).sum % p], [I p, Ls true xs]) := by
 walk_at "r"
 obtain ⟨x', hs⟩ := Zj7 (fun j => decide (j < 2) || walked [.k (.int 1), .bin .Add (.bf .len [.v 1]) (.k (.int 1))] j) (fun _ _ => false) 0 rfl rfl p hp xs hl xs.length 0 0 0 .hole (by omega)
 have hf : Zc2 p (1 + ((0 : Nat) : Int)) (xs.drop 0) (0, 0) = (xs.sum % p, (wts 1 xs).sum % p) := by
  have z := ZgX p xs 1 0 0
  rw [Int.zero_emod, Int.zero_add, Int.zero_add] at z
  exact z
 rw [hf] at hs
 have e1 : (1 : Int) + ((0 : Nat) : Int) = 1 := rfl
 rw [e1] at hs
 have hr : itW .rng2 [.sc (.int 1), .sc (.int ((dI xs).length + 1))] = some (dI (rngI 1 xs.length)) := by
  rw [Zgo _ _ (by rw [Zo]; omega), Zo]
  have : ((xs.length : Int) + 1 - 1).toNat = xs.length := by omega
  rw [this]
 have hz : (2 : Nat) <= sizeLine := by rw [szl]; decide
 have hn : ∀ u v : D, newL [u, v] = some (.node .lst true [u, v]) := fun u v => ZR _ (by simpa using hz)
 simp only [walked, Bool.or_false, Zt, ZcB] at hs
 (simp_all [Zi, hn, hr, hs]) <;> rfl
theorem ZmB (c : Int) (xs ys : List Int) : wts c (xs ++ ys) = wts c xs ++ wts (c + xs.length) ys := by
 induction xs generalizing c with
 | nil => simp [wts]
 | cons x xs ih =>
  rw [List.cons_append, wts, wts, ih, List.cons_append, List.length_cons]
  have : c + 1 + (xs.length : Int) = c + ((xs.length + 1 : Nat) : Int) := by omega
  rw [this]
noncomputable def other (p : Int) (xs : List Int) (l : Int) : Int := (0 - xs.sum - l) % p
theorem ZhR (p : Int) (xs : List Int) (l : Int) : (xs ++ [other p xs l, l]).sum % p = 0 := by
 have e : (xs ++ [other p xs l, l]).sum = (0 - xs.sum - l) % p + (xs.sum + l) := by
  simp only [List.sum_append, List.sum_cons, List.sum_nil, other]
  omega
 rw [e, Int.emod_add_emod]
 have : 0 - xs.sum - l + (xs.sum + l) = 0 := by omega
 rw [this, Int.zero_emod]
theorem ZkJ (p : Int) (xs : List Int) (l : Int) : (wts 1 (xs ++ [other p xs l, l])).sum % p = ((wts 1 xs).sum - (xs.length + 1) * xs.sum + l) % p := by
 have e : (wts 1 (xs ++ [other p xs l, l])).sum = (1 + (xs.length : Int)) * ((0 - xs.sum - l) % p) + ((wts 1 xs).sum + (1 + xs.length + 1) * l) := by
  rw [ZmB]
  simp only [List.sum_append, List.sum_cons, List.sum_nil, other, wts]
  omega
 rw [e, Int.add_emod, Int.mul_emod, Int.emod_emod, <- Int.mul_emod, <- Int.add_emod]
 congr 1
 rw [Int.mul_sub, Int.mul_sub, Int.mul_zero]
 have h1 : (1 + (xs.length : Int) + 1) * l = (1 + (xs.length : Int)) * l + l := by rw [Int.add_mul, Int.one_mul]
 have h2 : (1 + (xs.length : Int)) * xs.sum = ((xs.length : Int) + 1) * xs.sum := by rw [Int.add_comm]
 rw [h1, h2]
 omega
theorem ZoU (p : Int) (xs : List Int) (hp : 0 < p) : ∃ l, 0 <= l /\ l < p /\ (wts 1 (xs ++ [other p xs l, l])).sum % p = 0 := by
 refine ⟨(((xs.length : Int) + 1) * xs.sum - (wts 1 xs).sum) % p, Int.emod_nonneg _ (by omega), Int.emod_lt_of_pos _ hp, ?_⟩
 rw [ZkJ]
 generalize ((xs.length : Int) + 1) * xs.sum = a
 generalize (wts 1 xs).sum = b
 rw [Int.add_emod, Int.emod_emod, <- Int.add_emod]
 have : b - a + (a - b) = 0 := by omega
 rw [this, Int.zero_emod]
theorem Zi0 (h2 : lk 2 = false) (h3 : lk 3 = false) (p : Int) (hp : 0 < p) (xs : List Int) (hl : xs.length <= 500) : ∀ (ls : List Int) (a b : D), (∃ l ∈ ls, (wts 1 (xs ++ [other p xs l, l])).sum % p = 0) -> ∃ (l : Int) (a' b' : D), l ∈ ls /\ (wts 1 (xs ++ [other p xs l, l])).sum % p = 0 /\
 forL (asgT lk (.name 2)) (exs ⟨lk, fok, fuel⟩ [.asg 3 (.bin .Mod (.bin .Sub (.bin .Sub (.k (.int 0)) (.bf .sum [.v 1])) (.v 2)) (.v 0)), .iff (.cmp .Eq (.call ZaW [.v 0, .bin .Add (.v 1) (.lst [.v 3, .v 2])]) (.lst [.k (.int 0), .k (.int 0)])) [.ret (.bin .Add (.v 1) (.lst [.v 3, .v 2]))] []]) (dI ls) [I p, Ls true xs, a, b]
  = .ok (.rt (Ls true (xs ++ [other p xs l, l])), [I p, Ls true xs, a', b']) := by
 intro ls
 induction ls with
 | nil => rintro a b ⟨l, hm, _⟩; simp at hm
 | cons l ls ih =>
  intro a b hex
  have hz : (2 : Nat) <= sizeLine := by rw [szl]; decide
  have hn : ∀ u v : D, newL [u, v] = some (.node .lst true [u, v]) := fun u v => ZR _ (by simpa using hz)
  have hcat : ∀ u v : Int, binW .Add (.nd .lst (dI xs)) (.nd .lst [.sc (.int u), .sc (.int v)]) = some (Ls true (xs ++ [u, v])) := fun u v => by
   have := ZeU (dI xs) [.sc (.int u), .sc (.int v)] (by rw [List.length_append, Zo, szl]; show xs.length + 2 <= _; omega)
   rw [this, Ls, ZD]
   rfl
  have l1 : ZaW.lend = true := rfl
  have hs := ZkI p (xs ++ [other p xs l, l]) hp (by rw [List.length_append]; show xs.length + 2 <= _; omega)
  rw [ZhR] at hs
  have hq := fun u v : Int => ZdX [u, v] [0, 0]
  simp only [Zt, ZcB] at hq
  simp only [other] at hs ih hex ⊢
  rw [Zt, Za4]
  by_cases hw : (wts 1 (xs ++ [(0 - xs.sum - l) % p, l])).sum % p = 0
  . refine ⟨l, .sc (.int l), .sc (.int ((0 - xs.sum - l) % p)), List.mem_cons_self, hw, ?_⟩
    rw [hw] at hs
    (simp_all [h2, h3, Zi, Zbe, Z2 _ _ hp, hn, hcat, l1, hs, hq])
  . obtain ⟨l', a', b', y1, y2, ih⟩ := ih (.sc (.int l)) (.sc (.int ((0 - xs.sum - l) % p))) (by
     obtain ⟨l', hm, h⟩ := hex
     (rcases List.mem_cons.mp hm with rfl | hm)
     . exact absurd h hw
     . exact ⟨l', hm, h⟩)
    refine ⟨l', a', b', List.mem_cons_of_mem _ y1, y2, ?_⟩
    rw [<- ih]
    have hd : decide ([(0 : Int), (wts 1 (xs ++ [(0 - xs.sum - l) % p, l])).sum % p] = [0, 0]) = false := by
     apply decide_eq_false
     intro h
     injection h with _ h
     injection h with h _
     exact hw h
    (simp_all [h2, h3, Zi, Zbe, Z2 _ _ hp, hn, hcat, l1, hs, hq, hd])
theorem Zj8 (p : Int) (xs : List Int) (hp : 0 < p) (h2 : p <= 47) (hl : xs.length <= 500) : ∃ l : Int, 0 <= l /\ l < p /\ (wts 1 (xs ++ [other p xs l, l])).sum % p = 0 /\ Zby.run [I p, Ls true xs] = .ok (Ls true (xs ++ [other p xs l, l]), [I p, Ls true xs]) := by
 obtain ⟨l0, q1, q2, q3⟩ := ZoU p xs hp
 have hr : itW .rng1 [.sc (.int p)] = some (dI (rngI 0 p.toNat)) := Zgn p (by omega)
 obtain ⟨l, a', b', y1, y2, hs⟩ := Zi0 (fun j => decide (j < 2) || walked [.v 0] j) (fun _ _ => false) 0 rfl rfl p hp xs hl (rngI 0 p.toNat) .hole .hole ⟨l0, (ZcT _ _ _).mpr (by omega), q3⟩
 rw [ZcT] at y1
 refine ⟨l, by omega, by omega, y2, ?_⟩
 walk_at "r"
 simp only [walked, Bool.or_false, Zt, ZcB] at hs
 (simp_all [hr, hs]) <;> rfl
theorem ZgY (h4 : lk 4 = false) (h5 : lk 5 = false) (h6 : lk 6 = false) (p ex wt : Int) (hp : 0 < p) (hp2 : p < 2 ^ 64) (hex : 0 <= ex /\ ex < p) (xs : List Int) (hl : xs.length <= 1000) (r : Nat) (hr : r < xs.length) (hkey : (((r : Int) + 1) * ex) % p = wt) (hun : ∀ i : Nat, i < r -> ((((i : Int) + 1) * ex) % p ≠ wt)) : ∀ (n i : Nat) (a b c : D), i <= r -> n = xs.length - i -> ∃ a' b' c',
 forL (asgT lk (.tup [4, 5])) (exs ⟨lk, fok, fuel⟩ [.iff (.cmp .Eq (.bin .Mod (.bin .Mult (.bin .Add (.v 4) (.k (.int 1))) (.v 2)) (.v 0)) (.v 3)) [.asg 6 (.bf .list [.v 1]), .sub 6 [] (.v 4) (.bin .Mod (.bin .Sub (.v 5) (.v 2)) (.v 0)), .ret (.v 6)] []]) (ZG i (dI (xs.drop i))) [I p, Ls false xs, I ex, I wt, a, b, c]
  = .ok (.rt (Ls true (xs.set r ((xs.getD r 0 - ex) % p))), [I p, Ls false xs, I ex, I wt, a', b', c']) := by
 intro n
 induction n with
 | zero => intro i a b c hi hn; omega
 | succ n ih =>
  intro i a b c hi hn
  (have hlt : i < xs.length := by omega)
  rw [List.drop_eq_getElem_cons hlt, Zt, ZG, Za4]
  have hm : ∀ u : Int, binW .Mult (.sc (.int u)) (.sc (.int ex)) = some (.sc (.int (u * ex))) := fun u => Zah _ _ (.inr (by omega))
  by_cases hk : ((((i : Int) + 1) * ex) % p = wt)
  . have hir : i = r := by
     rcases Nat.lt_or_ge i r with h | h
     . exact absurd hk (hun i h)
     . omega
    subst hir
    have hix : ixN' (dI xs).length (i : Int) = some i := Zft _ _ (by rw [Zo]; exact hlt)
    have hs : ∀ (δ : List D) (d : D), mdR 6 δ (Zap (.sc (.int (i : Int))) d) (some (.node .lst true (dI xs))) = .ok (.sc .non, δ.set 6 (.node .lst true ((dI xs).set i d))) := fun δ d => ZcA 6 δ d _ _ _ hix
    have hset : ∀ v : Int, (dI xs).set i (.sc (.int v)) = dI (xs.set i v) := fun v => by exact List.map_set.symm
    have hg : xs.getD i 0 = xs[i] := by rw [List.getD_eq_getElem?_getD, List.getElem?_eq_getElem hlt]; rfl
    rw [hg]
    refine ⟨I i, I xs[i], .hole, ?_⟩
    simp_all [h4, h5, h6, ZbF, hm, Z2 _ _ hp, hk, hs, hset, Zi]
  . have hne : i ≠ r := fun h => hk (by rw [h]; exact hkey)
    obtain ⟨a', b', c', ih⟩ := ih (i + 1) (I i) (I xs[i]) c (by omega) (by omega)
    refine ⟨a', b', c', ?_⟩
    have e1 : ((i + 1 : Nat) : Int) = (i : Int) + 1 := by omega
    rw [e1] at ih
    rw [<- ih]
    simp_all [h4, h5, h6, ZbF, hm, Z2 _ _ hp, hk, V.int.injEq]
theorem Zhv (p : Int) (xs : List Int) (hp : 0 < p) (hp2 : p < 2 ^ 64) (hl : xs.length <= 1000) (r : Nat) (hr : r < xs.length) (hkey : (((r : Int) + 1) * (xs.sum % p)) % p = (wts 1 xs).sum % p) (hun : ∀ i : Nat, i < r -> ((((i : Int) + 1) * (xs.sum % p)) % p ≠ (wts 1 xs).sum % p)) :
 ZX.run [I p, Ls false xs] = .ok (Ls true (xs.set r ((xs.getD r 0 - xs.sum % p) % p)), [I p, Ls false xs]) := by
 walk_at "r"
 have l1 : ZE.lend = true := rfl
 have l2 : ZP.lend = true := rfl
 have r1 := fun o => ZbK p xs o hp
 have r2 := fun o => Zc5 p xs o hp hl
 obtain ⟨a', b', c', hs⟩ := ZgY (fun j => decide (j < 2) || walked [.v 1, .k (.int 0)] j) (fun _ _ => false) 0 rfl rfl rfl p (xs.sum % p) ((wts 1 xs).sum % p) hp hp2 ⟨Int.emod_nonneg _ (by omega), Int.emod_lt_of_pos _ hp⟩ xs hl r hr hkey hun xs.length 0 .hole .hole .hole (by omega) (by omega)
 rw [List.drop_zero] at hs
 simp only [walked, Bool.or_false] at hs
 have e0 : ((0 : Nat) : Int) = 0 := rfl
 rw [e0] at hs
 simp_all [l1, l2, r1, r2, Zi, it_e _ 0 (by decide), hs]
 rfl
theorem Zcg : ∀ (ys : List Int) (r : Nat) (v : Int), r < ys.length -> (ys.set r v).sum = ys.sum + (v - ys.getD r 0)
 | [], r, v, h => by simp at h
 | y :: ys, 0, v, _ => by simp only [List.set_cons_zero, List.sum_cons, List.getD_cons_zero]; omega
 | y :: ys, r + 1, v, h => by
  have := Zcg ys r v (by simpa using h)
  simp only [List.set_cons_succ, List.sum_cons, List.getD_cons_succ]
  omega
theorem Zed : ∀ (ys : List Int) (r : Nat) (v c : Int), r < ys.length -> (wts c (ys.set r v)).sum = (wts c ys).sum + (c + r) * (v - ys.getD r 0)
 | [], r, v, c, h => by simp at h
 | y :: ys, 0, v, c, _ => by
  simp only [List.set_cons_zero, wts, List.sum_cons, List.getD_cons_zero]
  rw [Int.mul_sub, show c + ((0 : Nat) : Int) = c by omega]
  omega
 | y :: ys, r + 1, v, c, h => by
  have := Zed ys r v (c + 1) (by simpa using h)
  simp only [List.set_cons_succ, wts, List.sum_cons, List.getD_cons_succ]
  rw [this, show c + 1 + (r : Int) = c + ((r + 1 : Nat) : Int) by omega]
  omega
theorem ZrH : ∀ p ∈ [5, 7, 11, 13, 17, 19, 23, 29, 31, 37, 41, 43, 47], ∀ a ∈ List.range p, ∀ b ∈ List.range p, a ≠ 0 -> b ≠ 0 -> a * b % p ≠ 0 := by walk_at "d"
theorem ZdF (p : Int) (hp : p ∈ PR) (a b : Int) (h1 : 0 < a) (h2 : a < p) (h3 : 0 < b) (h4 : b < p) : a * b % p ≠ 0 := by
 obtain ⟨m, hm⟩ : ∃ m : Nat, p = m := ⟨p.toNat, by omega⟩
 obtain ⟨i, hi⟩ : ∃ i : Nat, a = i := ⟨a.toNat, by omega⟩
 obtain ⟨j, hj⟩ : ∃ j : Nat, b = j := ⟨b.toNat, by omega⟩
 subst hm hi hj
 have hin : m ∈ [5, 7, 11, 13, 17, 19, 23, 29, 31, 37, 41, 43, 47] := (show ∀ q ∈ PR, q.toNat ∈ [5, 7, 11, 13, 17, 19, 23, 29, 31, 37, 41, 43, 47] by decide) _ hp
 have z := ZrH m hin i (List.mem_range.mpr (by omega)) j (List.mem_range.mpr (by omega)) (by omega) (by omega)
 intro e
 apply z
 have e2 : ((i * j % m : Nat) : Int) = 0 := by rw [Int.natCast_emod, Int.natCast_mul]; exact e
 omega
theorem Zcs {p : Int} {xs : List Int} : good p xs = true ↔ xs.sum % p = 0 /\ (wts 1 xs).sum % p = 0 := by simp [good]
theorem spoil (p : Int) (hpr : p ∈ PR) (hp1 : 5 <= p) (ys : List Int) (hl : (ys.length : Int) <= p) (hs : ∀ y ∈ ys, 0 <= y /\ y < p) (hg : good p ys = true) (r : Nat) (hr : r < ys.length) (d : Int) (hd : 0 <= d) (hd2 : d < p - 1) (v : Int) (hv : v = (ys.getD r 0 + 1 + d) % p) :
 good p (ys.set r v) = false /\ (∀ x ∈ ys.set r v, 0 <= x /\ x < p) /\ (((r : Int) + 1) * ((ys.set r v).sum % p)) % p = (wts 1 (ys.set r v)).sum % p /\ (∀ i : Nat, i < r -> ((((i : Int) + 1) * ((ys.set r v).sum % p)) % p ≠ (wts 1 (ys.set r v)).sum % p)) /\ ys = (ys.set r v).set r (((ys.set r v).getD r 0 - (ys.set r v).sum % p) % p) := by
 have hp0 : 0 < p := by omega
 obtain ⟨g1, g2⟩ := Zcs.mp hg
 have hy : 0 <= ys.getD r 0 /\ ys.getD r 0 < p := by
  rw [List.getD_eq_getElem?_getD, List.getElem?_eq_getElem hr]
  exact hs _ (List.getElem_mem hr)
 have hv0 : 0 <= v := by rw [hv]; exact Int.emod_nonneg _ (by omega)
 have hv1 : v < p := by rw [hv]; exact Int.emod_lt_of_pos _ hp0
 have e1 : (ys.set r v).sum % p = (v - ys.getD r 0) % p := by
  rw [Zcg ys r v hr, Int.add_emod, g1, Int.zero_add, Int.emod_emod]
 have e2 : (wts 1 (ys.set r v)).sum % p = ((r : Int) + 1) * (v - ys.getD r 0) % p := by
  rw [Zed ys r v 1 hr, Int.add_emod, g2, Int.zero_add, Int.emod_emod, Int.add_comm 1]
 have e3 : (v - ys.getD r 0) % p = (1 + d) % p := by
  rw [hv, Int.sub_eq_add_neg, Int.emod_add_emod]
  congr 1
  omega
 have e4 : (1 + d) % p = 1 + d := Int.emod_eq_of_lt (by omega) (by omega)
 have e5 : (ys.set r v).sum % p = 1 + d := by rw [e1, e3, e4]
 have e6 : (wts 1 (ys.set r v)).sum % p = ((r : Int) + 1) * (1 + d) % p := by
  rw [e2, Int.mul_emod, e3, <- Int.mul_emod]
 refine ⟨?_, ?_, ?_, ?_, ?_⟩
 . cases h : good p (ys.set r v) with
   | false => rfl
   | true =>
    have := (Zcs.mp h).1
    omega
 . intro x hx
   rcases List.mem_or_eq_of_mem_set hx with h | h
   . exact hs x h
   . rw [h]; exact ⟨hv0, hv1⟩
 . rw [e5, e6]
 . intro i hi h
   rw [e5, e6] at h
   have h2 : (((r : Int) - i) * (1 + d)) % p = 0 := by
    have : ((r : Int) - i) * (1 + d) = ((r : Int) + 1) * (1 + d) - ((i : Int) + 1) * (1 + d) := by
     rw [<- Int.sub_mul]
     congr 1
     omega
    rw [this, Int.sub_emod, h, Int.sub_self, Int.zero_emod]
   exact ZdF p hpr _ _ (by omega) (by omega) (by omega) (by omega) h2
 . have hg : (ys.set r v).getD r 0 = v := by rw [List.getD_eq_getElem?_getD, List.getElem?_set_self hr]; rfl
   rw [hg, e5, List.set_set]
   have h3 : (v - (1 + d)) % p = ys.getD r 0 := by
    rw [hv, Int.sub_eq_add_neg, Int.emod_add_emod]
    have : ys.getD r 0 + 1 + d + -(1 + d) = ys.getD r 0 := by omega
    rw [this]
    exact Int.emod_eq_of_lt hy.1 hy.2
   rw [h3, List.getD_eq_getElem?_getD, List.getElem?_eq_getElem hr]
   exact (List.set_getElem_self hr).symm
theorem ZeB {ys zs : List Int} (hl : ys.length = zs.length) (h : ∀ k, k < ys.length -> ys.getD k 0 = zs.getD k 0) : ys = zs := by
 apply List.ext_getElem hl
 intro k h1 h2
 have := h k h1
 rwa [List.getD_eq_getElem?_getD, List.getD_eq_getElem?_getD, List.getElem?_eq_getElem h1, List.getElem?_eq_getElem h2] at this
theorem Zct (ys : List Int) (r : Nat) (v : Int) (k : Nat) (hr : r < ys.length) : (ys.set r v).getD k 0 = if r = k then v else ys.getD k 0 := by
 rw [List.getD_eq_getElem?_getD, List.getD_eq_getElem?_getD]
 split
 . rename_i e; subst e; rw [List.getElem?_set_self hr]; rfl
 . rename_i e; rw [List.getElem?_set_ne e]
theorem Zj9 (p : Int) (hp : p ∈ PR) (a b : Int) (h1 : a ≠ 0) (h2 : -p < a) (h3 : a < p) (h4 : b ≠ 0) (h5 : -p < b) (h6 : b < p) : a * b % p ≠ 0 := fun e => by
 have d := Int.dvd_of_emod_eq_zero e
 rcases Int.lt_or_gt_of_ne h1 with u | u <;> rcases Int.lt_or_gt_of_ne h4 with v | v
 . have := ZdF p hp (-a) (-b) (by omega) (by omega) (by omega) (by omega)
   rw [Int.neg_mul_neg] at this
   exact this e
 . have := ZdF p hp (-a) b (by omega) (by omega) (by omega) (by omega)
   rw [Int.neg_mul] at this
   exact this (Int.emod_eq_zero_of_dvd (Int.dvd_neg.mpr d))
 . have := ZdF p hp a (-b) (by omega) (by omega) (by omega) (by omega)
   rw [Int.mul_neg] at this
   exact this (Int.emod_eq_zero_of_dvd (Int.dvd_neg.mpr d))
 . exact ZdF p hp a b (by omega) (by omega) (by omega) (by omega) e
theorem ZcX {p : Int} {ys : List Int} (hs : ∀ y ∈ ys, 0 <= y /\ y < p) {r : Nat} (hr : r < ys.length) : 0 <= ys.getD r 0 /\ ys.getD r 0 < p := by
 rw [List.getD_eq_getElem?_getD, List.getElem?_eq_getElem hr]
 exact hs _ (List.getElem_mem hr)
theorem ZeC (ys : List Int) (r : Nat) : ys.set r (ys.getD r 0) = ys := by
 by_cases h : r < ys.length
 . apply List.ext_getElem (by simp)
   intro k h1 h2
   rw [List.getElem_set]
   split
   . rename_i e
     subst e
     rw [List.getD_eq_getElem?_getD, List.getElem?_eq_getElem h]
     rfl
   . rfl
 . exact List.set_eq_of_length_le (by omega)
theorem Zlm : isNW true (.sc .non) = .sc (.bl true) := (rfl)
theorem Zch (i : Nat) (δ : List D) (v : Int) (zs : List Int) (r : Int) (h0 : 0 <= r) (h1 : r < zs.length) : mdR i δ (Zap (.sc (.int r)) (.sc (.int v))) (some (.node .lst true (dI zs))) = .ok (.sc .non, δ.set i (.node .lst true (dI (zs.set r.toNat v)))) := by
 rw [ZcA i δ _ (dI zs) r r.toNat (by
  have := Zft (dI zs).length r.toNat (by rw [Zo]; omega)
  rwa [Int.toNat_of_nonneg h0] at this)]
 congr 4
 exact List.map_set.symm
noncomputable def oD : Option Int -> D
 | some x => .sc (.int x)
 | none => .sc .non
noncomputable abbrev dO (os : List (Option Int)) : List D := os.map oD
noncomputable abbrev Lo (o : Bool) (os : List (Option Int)) : D := .node .lst o (dO os)
theorem Zee (o : Option Int) (os : List (Option Int)) : dO (o :: os) = oD o :: dO os := (rfl)
theorem ZoV (os : List (Option Int)) : (dO os).length = os.length := List.length_map _
theorem oD_n : oD none = .sc .non := (rfl)
theorem oD_s (x : Int) : oD (some x) = .sc (.int x) := (rfl)
theorem Zfi (os : List (Option Int)) : shrL (dO os) = dO os := by
 induction os with
 | nil => rfl
 | cons o os ih => simp only [List.map_cons, shrL] at ih ⊢; rw [ih]; cases o <;> rfl
theorem ZoW (os : List (Option Int)) (r : Nat) : (dO os).set r (.sc .non) = dO (os.set r none) := by
 show _ = List.map oD _
 rw [List.map_set]
 rfl
theorem ZhS (xs : List Int) : dI xs = dO (xs.map some) := by
 induction xs with
 | nil => rfl
 | cons x xs ih => rw [Zt, ih]; rfl
noncomputable def fill (os : List (Option Int)) : List Int := os.map fun o => o.getD 0
noncomputable def holes : Int -> List (Option Int) -> List Int
 | _, [] => []
 | c, some _ :: os => holes (c + 1) os
 | c, none :: os => c :: holes (c + 1) os
theorem Zi1 (h0 : lk 0 = false) : ∀ (os : List (Option Int)) (acc : List Int) (a : D), ∃ a',
 Z7 (asgT lk (.name 0)) (tsts ⟨lk, fok, fuel⟩ []) (evb ⟨lk, fok, fuel⟩ (.ife (.isN true (.v 0)) (.k (.int 0)) (.v 0))).1 (dO os) (dI acc) [a] = .ok (dI (acc ++ fill os), [a']) := by
 intro os
 induction os with
 | nil => exact fun acc a => ⟨a, by rw [show fill [] = [] from rfl, List.append_nil]; rfl⟩
 | cons o os ih =>
  intro acc a
  cases o with
  | none =>
   obtain ⟨a', ih⟩ := ih (acc ++ [0]) (.sc .non)
   refine ⟨a', ?_⟩
   have e : acc ++ fill (none :: os) = acc ++ [0] ++ fill os := by rw [List.append_assoc]; rfl
   rw [e, <- ih, Zee, Zaj, ZD, oD_n]
   simp_all [h0, Zlm]
  | some x =>
   obtain ⟨a', ih⟩ := ih (acc ++ [x]) (I x)
   refine ⟨a', ?_⟩
   have e : acc ++ fill (some x :: os) = acc ++ [x] ++ fill os := by rw [List.append_assoc]; rfl
   rw [e, <- ih, Zee, Zaj, ZD, oD_s]
   simp_all [h0, Zgs]
theorem ZjA (h0 : lk 0 = false) (h1 : lk 1 = false) : ∀ (os : List (Option Int)) (c : Int) (acc : List Int) (a b : D), ∃ a' b',
 Z7 (asgT lk (.tup [0, 1])) (tsts ⟨lk, fok, fuel⟩ [.isN true (.v 1)]) (evb ⟨lk, fok, fuel⟩ (.v 0)).1 (ZG c (dO os)) (dI acc) [a, b] = .ok (dI (acc ++ holes c os), [a', b']) := by
 intro os
 induction os with
 | nil => exact fun c acc a b => ⟨a, b, by rw [show holes c [] = [] from rfl, List.append_nil]; rfl⟩
 | cons o os ih =>
  intro c acc a b
  cases o with
  | none =>
   obtain ⟨a', b', ih⟩ := ih (c + 1) (acc ++ [c]) (I c) (.sc .non)
   refine ⟨a', b', ?_⟩
   have e : acc ++ holes c (none :: os) = acc ++ [c] ++ holes (c + 1) os := by rw [List.append_assoc]; rfl
   rw [e, <- ih, Zee, ZG, Zaj, ZD, oD_n]
   simp_all [h0, h1, ZbF, Zlm]
  | some x =>
   obtain ⟨a', b', ih⟩ := ih (c + 1) acc (I c) (I x)
   refine ⟨a', b', ?_⟩
   rw [show holes c (some x :: os) = holes (c + 1) os from rfl, <- ih, Zee, ZG, Zaj, oD_s]
   simp_all [h0, h1, ZbF, Zgs]
theorem ZdG : ∀ (os : List (Option Int)) (c : Int), (holes c os).length <= os.length
 | [], c => Nat.le_refl _
 | some _ :: os, c => by have := ZdG os (c + 1); rw [holes, List.length_cons]; omega
 | none :: os, c => by have := ZdG os (c + 1); rw [holes, List.length_cons, List.length_cons]; omega
theorem Zb8 : ∀ (os : List (Option Int)) (c x : Int), x ∈ holes c os -> c <= x /\ x < c + os.length /\ os.getD (x - c).toNat none = none
 | [], c, x, h => by simp [holes] at h
 | some y :: os, c, x, h => by
  obtain ⟨h1, h2, h3⟩ := Zb8 os (c + 1) x h
  refine ⟨by omega, by rw [List.length_cons]; omega, ?_⟩
  have : (x - c).toNat = (x - (c + 1)).toNat + 1 := by omega
  rw [this]
  exact h3
 | none :: os, c, x, h => by
  rw [holes] at h
  (rcases List.mem_cons.mp h with rfl | h)
  . refine ⟨by omega, by rw [List.length_cons]; omega, ?_⟩
    have : (x - x).toNat = 0 := by omega
    rw [this]
    rfl
  . obtain ⟨h1, h2, h3⟩ := Zb8 os (c + 1) x h
    refine ⟨by omega, by rw [List.length_cons]; omega, ?_⟩
    have : (x - c).toNat = (x - (c + 1)).toNat + 1 := by omega
    rw [this]
    exact h3
theorem ZcY : ∀ (os : List (Option Int)) (c : Int) (k : Nat), k < os.length -> os.getD k none = none -> c + k ∈ holes c os
 | [], c, k, h, _ => by simp at h
 | some y :: os, c, 0, _, h => by simp at h
 | none :: os, c, 0, _, _ => by rw [holes]; simp
 | o :: os, c, k + 1, h, h2 => by
  have := ZcY os (c + 1) k (by rw [List.length_cons] at h; omega) h2
  have e : c + 1 + (k : Int) = c + ((k + 1 : Nat) : Int) := by omega
  rw [e] at this
  cases o with
  | none => rw [holes]; exact List.mem_cons_of_mem _ this
  | some y => exact this
theorem ZeD : ∀ (os : List (Option Int)) (c : Int), (holes c os).Pairwise (· < ·)
 | [], c => List.Pairwise.nil
 | some _ :: os, c => ZeD os (c + 1)
 | none :: os, c => by
  rw [holes]
  refine List.Pairwise.cons (fun x hx => ?_) (ZeD os (c + 1))
  have := (Zb8 os (c + 1) x hx).1
  omega
theorem ZaL (os : List (Option Int)) : (fill os).length = os.length := List.length_map _
theorem ZcZ (os : List (Option Int)) (k : Nat) : (fill os).getD k 0 = (os.getD k none).getD 0 := by
 rw [List.getD_eq_getElem?_getD, List.getD_eq_getElem?_getD]
 unfold fill
 rw [List.getElem?_map]
 cases os[k]? <;> rfl
def Hd (ys : List Int) (os : List (Option Int)) : Prop := os.length = ys.length /\ ∀ k, k < ys.length -> os.getD k none = none \/ os.getD k none = some (ys.getD k 0)
theorem Hd.all (ys : List Int) : Hd ys (ys.map some) := by
 refine ⟨List.length_map _, fun k hk => .inr ?_⟩
 rw [List.getD_eq_getElem?_getD, List.getD_eq_getElem?_getD, List.getElem?_map, List.getElem?_eq_getElem hk]
 rfl
theorem Hd.set {ys : List Int} {os : List (Option Int)} (h : Hd ys os) (r : Nat) : Hd ys (os.set r none) := by
 refine ⟨by rw [List.length_set]; exact h.1, fun k hk => ?_⟩
 by_cases e : r = k
 . subst e
   left
   rw [List.getD_eq_getElem?_getD, List.getElem?_set_self (by rw [h.1]; exact hk)]
   rfl
 . rw [List.getD_eq_getElem?_getD, List.getElem?_set_ne e, <- List.getD_eq_getElem?_getD]
   exact h.2 k hk
theorem Hd.fill {p : Int} {ys : List Int} {os : List (Option Int)} (h : Hd ys os) (hp : 0 < p) (hy : ∀ y ∈ ys, 0 <= y /\ y < p) : ∀ x ∈ fill os, 0 <= x /\ x < p := fun x hx => by
 obtain ⟨k, hk, rfl⟩ := List.mem_iff_getElem.mp hx
 have hk2 : k < ys.length := by rw [ZaL, h.1] at hk; exact hk
 have e : (My.fill os)[k] = (My.fill os).getD k 0 := by rw [List.getD_eq_getElem?_getD, List.getElem?_eq_getElem hk]; rfl
 rw [e, ZcZ]
 rcases h.2 k hk2 with q | q
 . rw [q]; exact ⟨Int.le_refl 0, hp⟩
 . rw [q]; exact ZcX hy hk2
theorem Hd.fill0 {ys : List Int} {os : List (Option Int)} (h : Hd ys os) (e : holes 0 os = []) : My.fill os = ys := by
 refine ZeB (by rw [ZaL, h.1]) fun k hk => ?_
 rw [ZaL] at hk
 rw [ZcZ]
 rcases h.2 k (by rw [<- h.1]; exact hk) with q | q
 . have := ZcY os 0 k hk q
   rw [e] at this
   simp at this
 . rw [q]; rfl
theorem Hd.fill1 {ys : List Int} {os : List (Option Int)} (h : Hd ys os) (i : Int) (e : holes 0 os = [i]) : 0 <= i /\ i < ys.length /\ My.fill os = ys.set i.toNat 0 := by
 obtain ⟨a1, a2, a3⟩ := Zb8 os 0 i (by rw [e]; exact List.mem_cons_self)
 rw [h.1] at a2
 have a3' : os.getD i.toNat none = none := by rwa [Int.sub_zero] at a3
 refine ⟨a1, by omega, ZeB (by rw [ZaL, h.1, List.length_set]) fun k hk => ?_⟩
 rw [ZaL] at hk
 rw [ZcZ, Zct _ _ _ _ (by omega)]
 rcases h.2 k (by rw [<- h.1]; exact hk) with q | q
 . have := ZcY os 0 k hk q
   rw [e, List.mem_singleton] at this
   rw [q, if_pos (by omega)]
   rfl
 . rw [q, if_neg]
   . rfl
   . rintro rfl
     rw [a3'] at q
     cases q
theorem Hd.fill2 {ys : List Int} {os : List (Option Int)} (h : Hd ys os) (i j : Int) (e : holes 0 os = [i, j]) : 0 <= i /\ i < j /\ j < ys.length /\ My.fill os = (ys.set i.toNat 0).set j.toNat 0 := by
 obtain ⟨a1, a2, a3⟩ := Zb8 os 0 i (by rw [e]; exact List.mem_cons_self)
 obtain ⟨b1, b2, b3⟩ := Zb8 os 0 j (by rw [e]; exact List.mem_cons_of_mem _ List.mem_cons_self)
 have hij := ZeD os 0
 rw [e] at hij
 have hij := (List.pairwise_cons.mp hij).1 j List.mem_cons_self
 rw [h.1] at a2 b2
 have a3' : os.getD i.toNat none = none := by rwa [Int.sub_zero] at a3
 have b3' : os.getD j.toNat none = none := by rwa [Int.sub_zero] at b3
 refine ⟨a1, hij, by omega, ZeB (by rw [ZaL, h.1, List.length_set, List.length_set]) fun k hk => ?_⟩
 rw [ZaL] at hk
 rw [ZcZ, Zct _ _ _ _ (by rw [List.length_set]; omega), Zct _ _ _ _ (by omega)]
 rcases h.2 k (by rw [<- h.1]; exact hk) with q | q
 . have := ZcY os 0 k hk q
   rw [e] at this
   simp only [List.mem_cons, List.not_mem_nil, or_false] at this
   rw [q]
   rcases this with t | t
   . rw [if_neg (by omega), if_pos (by omega)]; rfl
   . rw [if_pos (by omega)]; rfl
 . rw [q, if_neg, if_neg]
   . rfl
   . rintro rfl
     rw [a3'] at q
     cases q
   . rintro rfl
     rw [b3'] at q
     cases q
theorem ZjB (h0 : lk 0 = false) (p q t : Int) (hp : 0 < p) (ht : -(2 ^ 64) < t /\ t < 2 ^ 64) : ∀ (ss acc : List Int) (a : D), ∃ a',
 Z7 (asgT lk (.name 0)) (tsts ⟨lk, fok, fuel⟩ [.cmp .Eq (.bin .Mod (.bin .Mult (.v 0) (.v 3)) (.v 2)) (.v 1)]) (evb ⟨lk, fok, fuel⟩ (.v 0)).1 (dI ss) (dI acc) [a, I q, I p, I t] = .ok (dI (acc ++ ss.filter fun s => decide (s * t % p = q)), [a', I q, I p, I t]) := by
 intro ss
 induction ss with
 | nil => exact fun acc a => ⟨a, by rw [List.filter_nil, List.append_nil]; rfl⟩
 | cons s ss ih =>
  intro acc a
  have hm : binW .Mult (.sc (.int s)) (.sc (.int t)) = some (.sc (.int (s * t))) := Zah _ _ (.inr ht)
  rw [Zt, Zaj]
  by_cases h : s * t % p = q
  . obtain ⟨a', ih⟩ := ih (acc ++ [s]) (I s)
    refine ⟨a', ?_⟩
    have e : acc ++ (s :: ss).filter (fun s => decide (s * t % p = q)) = acc ++ [s] ++ ss.filter (fun s => decide (s * t % p = q)) := by
     rw [List.filter_cons_of_pos (by simpa using h)]
     simp
    rw [e, <- ih, ZD]
    simp_all [h0, hm, Z2 _ _ hp, h, V.int.injEq]
  . obtain ⟨a', ih⟩ := ih acc (I s)
    refine ⟨a', ?_⟩
    rw [List.filter_cons_of_neg (by simpa using h), <- ih]
    simp_all [h0, hm, Z2 _ _ hp, h, V.int.injEq]
theorem ZkK (p q t v : Int) (hp : 0 < p) (hp2 : p <= 1000) (ht : -(2 ^ 64) < t /\ t < 2 ^ 64) (h0 : 0 <= v) (h1 : v < p) (hv : v * t % p = q) (hun : ∀ s, 0 <= s -> s < p -> s * t % p = q -> s = v) : ZbY.run [I p, I q, I t] = .ok (I v, [I p, I q, I t]) := by
 walk_at "r"
 obtain ⟨a', hc⟩ := ZjB (fun i => decide (1 <= i)) (fun _ _ => false) 0 rfl p q t hp ht (rngI 0 p.toNat) [] .hole
 rw [List.nil_append] at hc
 have hall : ∀ s ∈ (rngI 0 p.toNat).filter (fun s => decide (s * t % p = q)), s = v := fun s hs => by
  rw [List.mem_filter, ZcT] at hs
  obtain ⟨⟨b1, b2⟩, b3⟩ := hs
  exact hun s b1 (by omega) (of_decide_eq_true b3)
 have hin : v ∈ (rngI 0 p.toNat).filter (fun s => decide (s * t % p = q)) := by
  rw [List.mem_filter, ZcT, decide_eq_true_eq]
  exact ⟨⟨h0, by omega⟩, hv⟩
 have hlen : ((rngI 0 p.toNat).filter (fun s => decide (s * t % p = q))).length <= p.toNat := by
  have := List.length_filter_le (fun s => decide (s * t % p = q)) (rngI 0 p.toNat)
  rwa [Ze2] at this
 generalize (rngI 0 p.toNat).filter (fun s => decide (s * t % p = q)) = L at hc hall hin hlen
 cases L with
 | nil => simp at hin
 | cons s L =>
  obtain rfl := hall s List.mem_cons_self
  replace hc : ZB (fun _ _ => false) 0 1 (.name 0) [.cmp .Eq (.bin .Mod (.bin .Mult (.v 0) (.v 3)) (.v 2)) (.v 1)] (.v 0) (dI (rngI 0 p.toNat)) [] [.hole, I q, I p, I t] = _ := hc
  have hm : ZV 1 [1, 0, 2] (ZB (fun _ _ => false) 0 1 (.name 0) [.cmp .Eq (.bin .Mod (.bin .Mult (.v 0) (.v 3)) (.v 2)) (.v 1)] (.v 0) (dI (rngI 0 p.toNat)) []) [I p, I q, I t] = .ok (Ls true (s :: L), [I p, I q, I t]) := by
   rw [ZL (js := [1, 0, 2]) (caps := [I q, I p, I t]) (δ1 := [.hole, .hole, .hole]) rfl hc (by rw [Zo, szl]; omega)]
   rfl
  have hr := Zgn p (by omega)
  have hi := ixI (s :: L) 0 (by decide) (by rw [List.length_cons]; omega)
  have hg : (s :: L).getD (0 : Int).toNat 0 = s := rfl
  rw [hg] at hi
  generalize s :: L = M at hm hi
  simp_all [hr, hm, hi]
  rfl
theorem ZkL (p : Int) (xs : List Int) (i j : Int) (v w : Int) (hp : 0 < p) (hp2 : p <= 1000) (hl : xs.length <= 1000) (hi : 0 <= i) (hij : i < j) (hj : j < xs.length) (h0 : 0 <= v) (h1 : v < p)
 (hv : v * (j - i) % p = ((i + 1) * (xs.sum % p) - (wts 1 xs).sum % p) % p) (hun : ∀ s, 0 <= s -> s < p -> s * (j - i) % p = v * (j - i) % p -> s = v) (hw : -((xs.set j.toNat v).sum % p) % p = w) :
 ZO.run [I p, Ls true xs, I i, I j] = .ok (Ls true ((xs.set j.toNat v).set i.toNat w), [I p, Ls true xs, I i, I j]) := by
 walk_at "r"
 have l1 : ZE.lend = true := rfl
 have l2 : ZP.lend = true := rfl
 have l3 : ZbY.lend = true := rfl
 have r1 := fun o => ZbK p xs o hp
 have r2 := fun o => Zc5 p xs o hp hl
 have r4 := fun o => ZbK p (xs.set j.toNat v) o hp
 have r3 := ZkK p (v * (j - i) % p) (j - i) v hp hp2 (by omega) h0 h1 rfl hun
 have hm : ∀ u : Int, binW .Mult (.sc (.int (i + 1))) (.sc (.int u)) = some (.sc (.int ((i + 1) * u))) := fun u => Zah _ _ (.inl (by omega))
 have s1 : ∀ (δ : List D) (u : Int), mdR 6 δ (Zap (.sc (.int j)) (.sc (.int u))) (some (.node .lst true (dI xs))) = .ok (.sc .non, δ.set 6 (.node .lst true (dI (xs.set j.toNat u)))) := fun δ u => Zch 6 δ u xs j (by omega) hj
 have s2 : ∀ (δ : List D) (u u' : Int), mdR 6 δ (Zap (.sc (.int i)) (.sc (.int u))) (some (.node .lst true (dI (xs.set j.toNat u')))) = .ok (.sc .non, δ.set 6 (.node .lst true (dI ((xs.set j.toNat u').set i.toNat u)))) := fun δ u u' => Zch 6 δ u _ i hi (by rw [List.length_set]; omega)
 rw [hv] at r3
 (simp_all [Zi, l1, l2, l3, r1, r2, r3, r4, hm, Z2 _ _ hp, hw, s1, s2]) <;> rfl
theorem ZkM (p : Int) (hpr : p ∈ PR) (hp1 : 5 <= p) (ys : List Int) (hl : (ys.length : Int) <= p) (hs : ∀ y ∈ ys, 0 <= y /\ y < p) (hg : good p ys = true) (i j : Int) (hi : 0 <= i) (hij : i < j) (hj : j < ys.length) :
 ZO.run [I p, Ls true ((ys.set i.toNat 0).set j.toNat 0), I i, I j] = .ok (Ls true ys, [I p, Ls true ((ys.set i.toNat 0).set j.toNat 0), I i, I j]) := by
 have hp47 : p <= 47 := by
  simp only [PR, List.mem_cons, List.not_mem_nil, or_false] at hpr
  omega
 obtain ⟨g1, g2⟩ := Zcs.mp hg
 have hin : i.toNat < ys.length := by omega
 have hjn : j.toNat < ys.length := by omega
 have hjn' : j.toNat < (ys.set i.toNat 0).length := by rw [List.length_set]; exact hjn
 have hne : i.toNat ≠ j.toNat := by omega
 have yi := ZcX hs hin
 have yj := ZcX hs hjn
 have gj : (ys.set i.toNat 0).getD j.toNat 0 = ys.getD j.toNat 0 := by rw [Zct _ _ _ _ hin, if_neg hne]
 have e1 : ((ys.set i.toNat 0).set j.toNat 0).sum = ys.sum - ys.getD i.toNat 0 - ys.getD j.toNat 0 := by
  rw [Zcg _ _ _ hjn', Zcg _ _ _ hin, gj]
  omega
 have e2 : (wts 1 ((ys.set i.toNat 0).set j.toNat 0)).sum = (wts 1 ys).sum - (i + 1) * ys.getD i.toNat 0 - (j + 1) * ys.getD j.toNat 0 := by
  rw [Zed _ _ _ _ hjn', Zed _ _ _ _ hin, gj, Int.toNat_of_nonneg hi, Int.toNat_of_nonneg (by omega : 0 <= j), Int.add_comm 1 i, Int.add_comm 1 j, Int.zero_sub, Int.zero_sub, Int.mul_neg, Int.mul_neg]
  omega
 have e3 : ((ys.set i.toNat 0).set j.toNat 0).set j.toNat (ys.getD j.toNat 0) = ys.set i.toNat 0 := by
  rw [List.set_set, <- gj, ZeC]
 have e4 : (ys.set i.toNat 0).set i.toNat (ys.getD i.toNat 0) = ys := by rw [List.set_set, ZeC]
 have hv : ys.getD j.toNat 0 * (j - i) % p = ((i + 1) * (((ys.set i.toNat 0).set j.toNat 0).sum % p) - (wts 1 ((ys.set i.toNat 0).set j.toNat 0)).sum % p) % p := by
  have q : ((i + 1) * (((ys.set i.toNat 0).set j.toNat 0).sum % p) - (wts 1 ((ys.set i.toNat 0).set j.toNat 0)).sum % p) % p = ((i + 1) * ((ys.set i.toNat 0).set j.toNat 0).sum - (wts 1 ((ys.set i.toNat 0).set j.toNat 0)).sum) % p := by
   rw [Int.sub_emod, Int.mul_emod, Int.emod_emod, Int.emod_emod, <- Int.mul_emod, <- Int.sub_emod]
  rw [q, e1, e2]
  generalize ys.getD i.toNat 0 = a
  generalize ys.getD j.toNat 0 = b
  have x : (i + 1) * (ys.sum - a - b) - ((wts 1 ys).sum - (i + 1) * a - (j + 1) * b) = ((i + 1) * ys.sum - (wts 1 ys).sum) + b * (j - i) := by
   have x1 : b * (j - i) = (j + 1) * b - (i + 1) * b := by rw [<- Int.sub_mul, Int.mul_comm]; congr 1; omega
   rw [Int.mul_sub, Int.mul_sub, x1]
   omega
  rw [x, Int.add_emod, Int.emod_eq_zero_of_dvd (Int.dvd_sub (Int.dvd_mul_of_dvd_right (Int.dvd_of_emod_eq_zero g1)) (Int.dvd_of_emod_eq_zero g2)), Int.zero_add, Int.emod_emod]
 have hun : ∀ s, 0 <= s -> s < p -> s * (j - i) % p = ys.getD j.toNat 0 * (j - i) % p -> s = ys.getD j.toNat 0 := fun s s0 s1 hq => by
  rcases Int.lt_trichotomy s (ys.getD j.toNat 0) with h | h | h
  . exact absurd (by rw [Int.sub_mul]; exact Int.emod_eq_emod_iff_emod_sub_eq_zero.mp hq) (Zj9 p hpr (s - ys.getD j.toNat 0) (j - i) (by omega) (by omega) (by omega) (by omega) (by omega) (by omega))
  . exact h
  . exact absurd (by rw [Int.sub_mul]; exact Int.emod_eq_emod_iff_emod_sub_eq_zero.mp hq) (Zj9 p hpr (s - ys.getD j.toNat 0) (j - i) (by omega) (by omega) (by omega) (by omega) (by omega) (by omega))
 have hw : -((((ys.set i.toNat 0).set j.toNat 0).set j.toNat (ys.getD j.toNat 0)).sum % p) % p = ys.getD i.toNat 0 := by
  rw [e3, Zcg _ _ _ hin, <- Int.zero_sub, Int.sub_emod, Int.emod_emod, <- Int.sub_emod]
  have x : 0 - (ys.sum + (0 - ys.getD i.toNat 0)) = ys.getD i.toNat 0 - ys.sum := by omega
  rw [x, Int.sub_emod, g1, Int.sub_zero, Int.emod_emod]
  exact Int.emod_eq_of_lt yi.1 yi.2
 have r := ZkL p ((ys.set i.toNat 0).set j.toNat 0) i j (ys.getD j.toNat 0) (ys.getD i.toNat 0) (by omega) (by omega) (by rw [List.length_set, List.length_set]; omega) hi hij (by rw [List.length_set, List.length_set]; exact hj) yj.1 yj.2 hv hun hw
 rw [r, e3, e4]
theorem ZkN (p : Int) (hp : 0 < p) (ys : List Int) (hs : ∀ y ∈ ys, 0 <= y /\ y < p) (hg : good p ys = true) (i : Int) (hi : 0 <= i) (hl : i < ys.length) :
 (ys.set i.toNat 0).set i.toNat (-((ys.set i.toNat 0).sum % p) % p) = ys := by
 obtain ⟨g1, g2⟩ := Zcs.mp hg
 have hin : i.toNat < ys.length := by omega
 have yi := ZcX hs hin
 have hw : -((ys.set i.toNat 0).sum % p) % p = ys.getD i.toNat 0 := by
  rw [Zcg _ _ _ hin, <- Int.zero_sub, Int.sub_emod, Int.emod_emod, <- Int.sub_emod]
  have x : 0 - (ys.sum + (0 - ys.getD i.toNat 0)) = ys.getD i.toNat 0 - ys.sum := by omega
  rw [x, Int.sub_emod, g1, Int.sub_zero, Int.emod_emod]
  exact Int.emod_eq_of_lt yi.1 yi.2
 rw [hw, List.set_set, ZeC]
noncomputable def oP : Option Int -> PyData
 | some x => .int x
 | none => .none
theorem ZoX (os : List (Option Int)) : pyL (dO os) = some (os.map oP) := by
 induction os with
 | nil => rfl
 | cons o os ih => cases o <;> simp only [List.map_cons, oD, oP, pyL, py] at ih ⊢ <;> rw [ih] <;> rfl
theorem ZoY (os : List (Option Int)) : PyData.canLayAll0 (os.map oP) = true := by
 induction os with
 | nil => rfl
 | cons o os ih => cases o <;> simp only [List.map_cons, oP, PyData.canLayAll0, PyData.canLay0, ih, Bool.and_self]
theorem ZmC (os : List (Option Int)) : PyData.depthAll (os.map oP) = 0 := by
 induction os with
 | nil => rfl
 | cons o os ih => cases o <;> simp only [List.map_cons, oP, PyData.depthAll, PyData.depth, ih, Nat.max_self]
theorem ZfU (os : List (Option Int)) : SeqAt.shaped (.list (os.map oP)) = true := by
 simp only [SeqAt.shaped, PyData.canLay0, PyData.depth, ZoY, ZmC]
 decide
theorem ZgZ : ∀ os : List (Option Int), PyData.eqvAll (os.map oP) (os.map oP) = true
 | [] => by simp only [List.map_nil, PyData.eqvAll]
 | none :: os => by simp only [List.map_cons, oP, PyData.eqvAll, PyData.eqv, ZgZ os, Bool.and_self]
 | some x :: os => by simp only [List.map_cons, oP, PyData.eqvAll, PyData.eqv, ZgZ os, beq_self_eq_true, Bool.and_self]
theorem ZrI (os : List (Option Int)) : Zat .Eq (.nd .lst (dO os)) (.nd .lst (dO os)) = some true := by
 show (py (.node .lst false (dO os))).bind (fun a => (py (.node .lst false (dO os))).bind fun b => eqPy a b) = _
 simp only [py, ZoX, Option.map_some, Option.bind_some]
 unfold eqPy
 rw [if_pos ⟨ZfU os, ZfU os⟩]
 simp only [PyData.eqv, ZgZ]
theorem Zha (p : Int) (os : List (Option Int)) (R : Rs (D × List D)) (hp : 0 < p) (hp2 : p < 1000) (h1 : 2 <= os.length) (h2 : (os.length : Int) <= p) (hx : ∀ x ∈ fill os, 0 <= x /\ x < p)
 (hend : (∃ i j ys, holes 0 os = [i, j] /\ ZO.run [I p, Ls true (fill os), I i, I j] = .ok (Ls true ys, [I p, Ls true (fill os), I i, I j]) /\ R = .ok (Ls true ys, [I p, Lo true os])) \/
  (∃ i, holes 0 os = [i] /\ 0 <= i /\ i < os.length /\ good p ((fill os).set i.toNat (-((fill os).sum % p) % p)) = true /\ R = .ok (Ls true ((fill os).set i.toNat (-((fill os).sum % p) % p)), [I p, Lo true os])) \/
  (holes 0 os = [] /\ good p (fill os) = true /\ R = .ok (Ls true (fill os), [I p, Lo true os])) \/
  (∃ ys, holes 0 os = [] /\ good p (fill os) = false /\ ZX.run [I p, Ls false (fill os)] = .ok (Ls true ys, [I p, Ls false (fill os)]) /\ R = .ok (Ls true ys, [I p, Lo true os]))) :
 Zbf.run [I p, Lo true os] = R := by
 have hfl := ZaL os
 have hl : (fill os).length <= 1000 := by omega
 walk_at "r"
 obtain ⟨a1, hc1⟩ := Zi1 (fun i => decide (1 <= i)) (fun _ _ => false) 0 rfl os [] .hole
 obtain ⟨a2, b2, hc2⟩ := ZjA (fun i => decide (2 <= i)) (fun _ _ => false) 0 rfl rfl os 0 [] .hole .hole
 rw [List.nil_append] at hc1 hc2
 have hz : (dI (fill os)).length <= sizeLine := by rw [Zo, szl]; omega
 have hz2 : (dI (holes 0 os)).length <= sizeLine := by have := ZdG os 0; rw [Zo, szl]; omega
 replace hc1 : ZB (fun _ _ => false) 0 1 (.name 0) [] (.ife (.isN true (.v 0)) (.k (.int 0)) (.v 0)) (dO os) [] [.hole] = _ := hc1
 replace hc2 : ZB (fun _ _ => false) 0 2 (.tup [0, 1]) [.isN true (.v 1)] (.v 0) (ZG 0 (dO os)) [] [.hole, .hole] = _ := hc2
 have hm1 : ∀ δ : List D, ZV 1 [] (ZB (fun _ _ => false) 0 1 (.name 0) [] (.ife (.isN true (.v 0)) (.k (.int 0)) (.v 0)) (dO os) []) δ = .ok (Ls true (fill os), δ) := fun δ => by
  rw [ZL (js := []) (caps := []) rfl hc1 hz, ZW]
  rfl
 have hm2 : ∀ δ : List D, ZV 2 [] (ZB (fun _ _ => false) 0 2 (.tup [0, 1]) [.isN true (.v 1)] (.v 0) (ZG 0 (dO os)) []) δ = .ok (Ls true (holes 0 os), δ) := fun δ => by
  rw [ZL (js := []) (caps := []) rfl hc2 hz2, ZW]
  rfl
 have l1 : ZZ.lend = true := rfl
 have l2 : Zcx.lend = true := rfl
 have l3 : ZO.lend = true := rfl
 have l4 : ZE.lend = true := rfl
 have r1 := fun o => ZfR p (fill os) o hx
 have q1 : (2 : Int) <= ((dI (fill os)).length : Int) := by rw [Zo]; omega
 have q2 : ((dI (fill os)).length : Int) <= p := by rw [Zo]; omega
 have c2 : ((2 : Nat) : Int) = 2 := rfl
 have c1 : ((1 : Nat) : Int) = 1 := rfl
 have c0 : ((0 : Nat) : Int) = 0 := rfl
 have z1 : ¬ (2 : Int) < 2 := by decide
 have z2 : ¬ (2 : Int) < 1 := by decide
 have z3 : ¬ (1 : Int) = 2 := by decide
 have z4 : ¬ (2 : Int) < 0 := by decide
 have z5 : ¬ (0 : Int) = 2 := by decide
 have z6 : ¬ (0 : Int) = 1 := by decide
 have i20 : ixN' 2 0 = some 0 := rfl
 have i21 : ixN' 2 1 = some 1 := rfl
 have i10 : ixN' 1 0 = some 0 := rfl
 have l5 : ZX.lend = false := rfl
 simp_all [Zi, Zfi, hm1, hm2, it_e _ 0 (by decide), l1, r1, Zfu, q1, q2, V.int.injEq]
 rcases hend with ⟨i, j, ys, hh, r3, rfl⟩ | ⟨i, hh, hi, hi2, hg, rfl⟩ | ⟨hh, hg, rfl⟩ | ⟨ys, hh, hg, r5, rfl⟩ <;> rw [hh] <;> simp only [Zt, ZcB]
 . (simp_all [l3, r3, c2, z1, i20, i21, V.int.injEq]) <;> rfl
 . have r4 := fun o => ZbK p (fill os) o hp
   have r2 := ZeA p ((fill os).set i.toNat (-((fill os).sum % p) % p)) true hp (by rw [List.length_set]; omega)
   have s1 : ∀ (δ : List D) (u : Int), mdR 2 δ (Zap (.sc (.int i)) (.sc (.int u))) (some (.node .lst true (dI (fill os)))) = .ok (.sc .non, δ.set 2 (.node .lst true (dI ((fill os).set i.toNat u)))) := fun δ u => Zch 2 δ u (fill os) i hi (by rw [hfl]; exact hi2)
   (simp_all [Zi, l2, l4, r2, r4, hg, s1, c1, z2, z3, i10, Z2 _ _ hp, V.int.injEq]) <;> rfl
 . have r2 := ZeA p (fill os) true hp hl
   (simp_all [l2, r2, hg, c0, z4, z5, z6, V.int.injEq]) <;> rfl
 . have r2 := ZeA p (fill os) true hp hl
   (simp_all [Zi, l2, l5, r2, r5, hg, c0, z4, z5, z6, V.int.injEq]) <;> rfl
theorem ZjC (p : Int) (hpr : p ∈ PR) (hp1 : 5 <= p) (hp2 : p <= 47) (ys : List Int) (os : List (Option Int)) (h2 : 2 <= ys.length) (hl : (ys.length : Int) <= p) (hs : ∀ y ∈ ys, 0 <= y /\ y < p) (hg : good p ys = true) (H : Hd ys os) (hh : (holes 0 os).length <= 2) :
 Zbf.run [I p, Lo true os] = .ok (Ls true ys, [I p, Lo true os]) := by
 have hpp : 0 < p := by omega
 refine Zha p os _ hpp (by omega) (by rw [H.1]; exact h2) (by rw [H.1]; exact hl) (H.fill hpp hs) ?_
 match hq : holes 0 os with
 | [] => exact .inr (.inr (.inl ⟨rfl, by rw [H.fill0 hq]; exact hg, by rw [H.fill0 hq]⟩))
 | [i] =>
  obtain ⟨a1, a2, a3⟩ := H.fill1 i hq
  have e := ZkN p hpp ys hs hg i a1 a2
  rw [<- a3] at e
  exact .inr (.inl ⟨i, rfl, a1, by rw [H.1]; exact a2, by rw [e]; exact hg, by rw [e]⟩)
 | [i, j] =>
  obtain ⟨a1, a2, a3, a4⟩ := H.fill2 i j hq
  have e := ZkM p hpr hp1 ys hl hs hg i j a1 a2 a3
  rw [<- a4] at e
  exact .inl ⟨i, j, ys, rfl, e, rfl⟩
 | _ :: _ :: _ :: _ => rw [hq] at hh; simp at hh
theorem Zi2 (p : Int) (hpr : p ∈ PR) (hp1 : 5 <= p) (hp2 : p <= 47) (ys : List Int) (h2 : 2 <= ys.length) (hl : (ys.length : Int) <= p) (hs : ∀ y ∈ ys, 0 <= y /\ y < p) (hg : good p ys = true) (r : Nat) (hr : r < ys.length) (d : Int) (hd : 0 <= d) (hd2 : d < p - 1) (v : Int) (hv : v = (ys.getD r 0 + 1 + d) % p) :
 Zbf.run [I p, Lo true ((ys.set r v).map some)] = .ok (Ls true ys, [I p, Lo true ((ys.set r v).map some)]) := by
 obtain ⟨s1, s2, s3, s4, s5⟩ := spoil p hpr hp1 ys hl hs hg r hr d hd hd2 v hv
 have hl2 : (ys.set r v).length = ys.length := List.length_set
 have hr2 := Zhv p (ys.set r v) (by omega) (by omega) (by omega) r (by omega) s3 s4
 rw [<- s5] at hr2
 generalize ys.set r v = zs at s1 s2 hl2 hr2
 have hf : fill (zs.map some) = zs := by unfold fill; rw [List.map_map]; exact List.map_id _
 have hh : ∀ (xs : List Int) (c : Int), holes c (xs.map some) = [] := fun xs => by
  induction xs with
  | nil => exact fun c => rfl
  | cons x xs ih => exact fun c => ih (c + 1)
 refine Zha p (zs.map some) _ (by omega) (by omega) (by rw [List.length_map]; omega) (by rw [List.length_map]; omega) (by rw [hf]; exact s2) (.inr (.inr (.inr ⟨ys, hh zs 0, by rw [hf]; exact s1, by rw [hf]; exact hr2, rfl⟩)))
noncomputable def osOf (p : Int) (ss : List Int) : List (Option Int) := ss.map fun s => if p <= s then none else some s
theorem ZrJ (p : Int) (ss : List Int) : ss.map (tg p) = dO (osOf p ss) := by
 show _ = List.map oD (ss.map _)
 rw [List.map_map]
 refine List.map_congr_left fun s _ => ?_
 unfold tg
 show _ = oD (if p <= s then none else some s)
 split <;> rfl
theorem Zf6 (p : Int) (ss : List Int) (h : ∀ x ∈ ss, 0 <= x /\ x < p) : osOf p ss = ss.map some := List.map_congr_left fun s hs => by
 rw [if_neg (by have := h s hs; omega)]
theorem ZjD (p : Int) (ss : List Int) (k : Nat) (v : Int) (h : p <= v) : osOf p (ss.set k v) = (osOf p ss).set k none := by
 unfold osOf
 rw [List.map_set, if_pos h]
theorem ZdH : ∀ (os : List (Option Int)) (r : Nat) (c : Int), (holes c (os.set r none)).length <= (holes c os).length + 1
 | [], r, c => by simp [holes]
 | some x :: os, 0, c => by show (c :: holes (c + 1) os).length <= _; rw [List.length_cons]; exact Nat.le_refl _
 | none :: os, 0, c => Nat.le_succ _
 | some x :: os, r + 1, c => ZdH os r (c + 1)
 | none :: os, r + 1, c => by
  have := ZdH os r (c + 1)
  show (c :: holes (c + 1) (os.set r none)).length <= (c :: holes (c + 1) os).length + 1
  rw [List.length_cons, List.length_cons]
  omega
noncomputable abbrev Sr (c a b : Int) : D := .node .lst true [I c, I a, I b]
theorem ZmD (i : Nat) (δ : List D) (os : List (Option Int)) (r : Int) (h0 : 0 <= r) (h1 : r < os.length) : mdR i δ (Zap (.sc (.int r)) (.sc .non)) (some (.node .lst true (dO os))) = .ok (.sc .non, δ.set i (Lo true (os.set r.toNat none))) := by
 rw [ZcA i δ _ (dO os) r r.toNat (by
  have := Zft (dO os).length r.toNat (by rw [ZoV]; omega)
  rwa [Int.toNat_of_nonneg h0] at this), ZoW]
theorem ZmE (h7 : lk 7 = false) (h8 : lk 8 = false) (p m c w : Int) (hp : 0 < p) (hm : p < m) (hm2 : m <= 5000) (ys : List Int) (hl : 2 <= ys.length) (hl2 : ys.length <= 100) : ∀ (is ss : List Int) (a b : Int) (x y : D), ss.length = ys.length -> (∀ x ∈ ss, 0 <= x /\ x < m) -> Hd ys (osOf p ss) -> ∃ (ss' : List Int) (a' b' : Int) (x' y' : D), ss'.length = ys.length /\ (∀ x ∈ ss', 0 <= x /\ x < m) /\ Hd ys (osOf p ss') /\ (holes 0 (osOf p ss')).length <= (holes 0 (osOf p ss)).length + is.length /\
 forL (asgT lk (.name 8)) (exs ⟨lk, fok, fuel⟩ [.asg 7 (.call Zn [.v 0, .bf .len [.v 1]]), .sub 4 [] (.v 7) (.bin .Add (.v 2) (.call Zn [.v 0, .bin .Sub (.v 3) (.v 2)])), .sub 5 [] (.v 7) (.k .non)]) (dI is) [Sr c a b, Ls true ys, I p, I m, Ls true ss, Lo true (osOf p ss), I w, x, y]
  = .ok (.nx, [Sr c a' b', Ls true ys, I p, I m, Ls true ss', Lo true (osOf p ss'), I w, x', y']) := by
 intro is
 induction is with
 | nil => exact fun ss a b x y e1 e2 e3 => ⟨ss, a, b, x, y, e1, e2, e3, Nat.le_refl _, rfl⟩
 | cons i is ih =>
  intro ss a b x y e1 e2 e3
  obtain ⟨k, a1, b1, k0, k1, hk⟩ := Zal c a b ((dI ys).length : Int) (by rw [Zo]; omega) (by rw [Zo]; omega)
  obtain ⟨r, a2, b2, r0, r1, hr⟩ := Zal c a1 b1 (m - p) (by omega) (by omega)
  have k1' : k < ys.length := by rwa [Zo] at k1
  obtain ⟨ss', a', b', x', y', q1, q2, q3, q4, ih⟩ := ih (ss.set k.toNat (p + r)) a2 b2 (I k) (I i) (by rw [List.length_set, e1]) (fun z hz => by
   rcases List.mem_or_eq_of_mem_set hz with h | h
   . exact e2 z h
   . omega) (by rw [ZjD p ss k.toNat (p + r) (by omega)]; exact e3.set _)
  rw [ZjD p ss k.toNat (p + r) (by omega)] at q4 ih
  have hs := ZdH (osOf p ss) k.toNat 0
  refine ⟨ss', a', b', x', y', q1, q2, q3, by rw [List.length_cons]; omega, ?_⟩
  have ln : Zn.lend = true := rfl
  have s4 : ∀ δ : List D, mdR 4 δ (Zap (.sc (.int k)) (.sc (.int (p + r)))) (some (.node .lst true (dI ss))) = .ok (.sc .non, δ.set 4 (Ls true (ss.set k.toNat (p + r)))) := fun δ => Zch 4 δ _ ss k k0 (by rw [e1]; exact k1')
  have s5 : ∀ δ : List D, mdR 5 δ (Zap (.sc (.int k)) (.sc .non)) (some (.node .lst true (dO (osOf p ss)))) = .ok (.sc .non, δ.set 5 (Lo true ((osOf p ss).set k.toNat none))) := fun δ => ZmD 5 δ _ k k0 (by rw [e3.1]; exact k1')
  rw [<- ih, Zt, Za4]
  generalize osOf p ss = os at s5
  simp_all [h7, h8, ln, hk, hr, Zi, Zfi, s4, s5]
def Sp (p : Int) (ys ss : List Int) : Prop := (∃ (r : Nat) (d v : Int), r < ys.length /\ 0 <= d /\ d < p - 1 /\ v = (ys.getD r 0 + 1 + d) % p /\ ss = ys.set r v) \/ (Hd ys (osOf p ss) /\ (holes 0 (osOf p ss)).length <= 2)
theorem Zfj (c : Int) : ∀ (xs : List Int) (c : Int), holes c (xs.map some) = []
 | [], c => rfl
 | x :: xs, c => Zfj c xs (c + 1)
theorem nt2 (u v : D) : newT [u, v] = some (.node .tup true [u, v]) := by unfold newT; rw [if_pos (by rw [szl]; simp)]
theorem Zi3 (c a b p m : Int) (ys : List Int) (hp : 5 <= p) (hp2 : p <= 47) (hm : p <= m) (hm2 : m <= 5000) (hl : 2 <= ys.length) (hl2 : ys.length <= 100) (hy : ∀ y ∈ ys, 0 <= y /\ y < p) : ∃ (ss : List Int) (a' b' : Int), ss.length = ys.length /\ (∀ x ∈ ss, 0 <= x /\ x < m) /\ Sp p ys ss /\
 Za7.run [Sr c a b, Ls true ys, I p, I m] = .ok (.node .tup true [Ls false ss, Lo false (osOf p ss)], [Sr c a' b', Ls true ys, I p, I m]) := by
 obtain ⟨w, a1, b1, w0, w1, hw⟩ := Zal c a b 4 (by decide) (by decide)
 have hos := Zf6 p ys hy
 have hH : Hd ys (osOf p ys) := by rw [hos]; exact Hd.all ys
 have hh : (holes 0 (osOf p ys)).length = 0 := by rw [hos, Zfj 0]; rfl
 have hdo : dO (osOf p ys) = dI ys := by rw [hos, <- ZhS]
 have hx : ∀ x ∈ ys, 0 <= x /\ x < m := fun x h => by have := hy x h; omega
 have ln : Zn.lend = true := rfl
 rw [show Za7.run = Zj C0 4 9 ZaP from rfl]
 rw [runA (show [Sr c a b, Ls true ys, I p, I m].length = 4 from rfl)]
 unfold ZaP
 simp only [List.replicate, Nat.reduceSub]
 by_cases hw0 : w = 0
 . refine ⟨ys, a1, b1, rfl, hx, .inr ⟨hH, by omega⟩, ?_⟩
   rw [Lo, hdo]
   subst hw0
   (simp_all [ln, hw, Zi, nt2, V.int.injEq]) <;> rfl
 . by_cases hb : w = 1 \/ m = p
   . obtain ⟨k, a2, b2, k0, k1, hk⟩ := Zal c a1 b1 ((dI ys).length : Int) (by rw [Zo]; omega) (by rw [Zo]; omega)
     obtain ⟨d, a3, b3, d0, d1, hd⟩ := Zal c a2 b2 (p - 1) (by omega) (by omega)
     have k1' : k < ys.length := by rwa [Zo] at k1
     have hix := ixI ys k k0 k1'
     have hv0 := Int.emod_nonneg (ys.getD k.toNat 0 + 1 + d) (show p ≠ 0 by omega)
     have hv1 := Int.emod_lt_of_pos (ys.getD k.toNat 0 + 1 + d) (show 0 < p by omega)
     have hz : ∀ z ∈ ys.set k.toNat ((ys.getD k.toNat 0 + 1 + d) % p), 0 <= z /\ z < p := fun z hz => by
      rcases List.mem_or_eq_of_mem_set hz with h | h
      . exact hy z h
      . rw [h]; exact ⟨hv0, hv1⟩
     refine ⟨ys.set k.toNat ((ys.getD k.toNat 0 + 1 + d) % p), a3, b3, List.length_set, fun z h => by have := hz z h; omega, .inl ⟨k.toNat, d, _, by omega, d0, d1, rfl, rfl⟩, ?_⟩
     rw [Lo, Zf6 p _ hz, <- ZhS]
     have md := fun u => Z2 u p (show 0 < p by omega)
     have hix2 := ixI (ys.set k.toNat ((ys.getD k.toNat 0 + 1 + d) % p)) k k0 (by rw [List.length_set]; exact k1')
     rw [Zct _ _ _ _ (by omega), if_pos rfl] at hix2
     generalize ys.getD k.toNat 0 = yk at hix hix2 hv0 hv1
     have s4 : ∀ δ : List D, mdR 4 δ (Zap (.sc (.int k)) (.sc (.int ((yk + 1 + d) % p)))) (some (.node .lst true (dI ys))) = .ok (.sc .non, δ.set 4 (Ls true (ys.set k.toNat ((yk + 1 + d) % p)))) := fun δ => Zch 4 δ _ ys k k0 k1'
     have s5 : ∀ δ : List D, mdR 5 δ (Zap (.sc (.int k)) (.sc (.int ((yk + 1 + d) % p)))) (some (.node .lst true (dI ys))) = .ok (.sc .non, δ.set 5 (Ls true (ys.set k.toNat ((yk + 1 + d) % p)))) := fun δ => Zch 5 δ _ ys k k0 k1'
     generalize ys.set k.toNat ((yk + 1 + d) % p) = zs at s4 s5 hix2
     have hor : ∀ δ : List D, (if decide (w = 1) = true then Rs.ok (true, δ) else Rs.ok (decide (m = p), δ)) = .ok (true, δ) := fun δ => by rcases hb with h | h <;> simp [h]
     (simp_all [ln, hw, hw0, hor, hk, hd, md, hix, hix2, s4, s5, Zi, nt2, V.int.injEq]) <;> rfl
   . have hw1 : w ≠ 1 := fun h => hb (.inl h)
     have hmp : m ≠ p := fun h => hb (.inr h)
     have hit := Zgn (w - 1) (by omega)
     obtain ⟨ss, a', b', x', y', q1, q2, q3, q4, hf⟩ := ZmE (fun j => decide (j < 4) || walked [.bin .Sub (.v 6) (.k (.int 1))] j) (fun _ _ => false) 0 rfl rfl p m c w (by omega) (by omega) hm2 ys hl hl2 (rngI 0 (w - 1).toNat) ys a1 b1 .hole .hole rfl hx hH
     rw [Ze2] at q4
     refine ⟨ss, a', b', q1, q2, .inr ⟨q3, by omega⟩, ?_⟩
     simp only [walked, Bool.or_false] at hf
     rw [Lo, hdo] at hf
     generalize rngI 0 (w - 1).toNat = is at hit hf
     have sO := Zfi (osOf p ss)
     generalize osOf p ss = os at hf sO
     (simp_all [ln, hw, hw0, hw1, hmp, hit, hf, Zi, sO, nt2, V.int.injEq]) <;> rfl
theorem ZjE (p : Int) (hpr : p ∈ PR) (hp1 : 5 <= p) (hp2 : p <= 47) (ys ss : List Int) (h2 : 2 <= ys.length) (hl : (ys.length : Int) <= p) (hs : ∀ y ∈ ys, 0 <= y /\ y < p) (hg : good p ys = true) (h : Sp p ys ss) :
 Zbf.run [I p, Lo true (osOf p ss)] = .ok (Ls true ys, [I p, Lo true (osOf p ss)]) := by
 rcases h with ⟨r, d, v, hr, d0, d1, hv, rfl⟩ | ⟨h, hh⟩
 . rw [Zf6 p (ys.set r v) fun z hz => by
    rcases List.mem_or_eq_of_mem_set hz with h | h
    . exact hs z h
    . rw [h, hv]; exact ⟨Int.emod_nonneg _ (by omega), Int.emod_lt_of_pos _ (by omega)⟩]
   exact Zi2 p hpr hp1 hp2 ys h2 hl hs hg r hr d d0 d1 v hv
 . exact ZjC p hpr hp1 hp2 ys _ h2 hl hs hg h hh
theorem ZoZ (w T u m d S δ Δ : Int) (hw : 1 <= w /\ w <= 4) (hT : 9 <= T) (hu : 1 <= u) (hm : 0 <= m) (h8 : 8 * m <= u) (hd : d = w * u + δ) (hS : S = T * u + Δ) (h1 : -(2 * m) <= δ /\ δ <= 2 * m) (h2 : -(2 * m) <= Δ /\ Δ <= 2 * m) : 0 < S /\ (2 * (d * T) + S) / (2 * S) = w := by
 have a1 : T * m ≥ 9 * m := Int.mul_le_mul_of_nonneg_right hT hm
 have a2 : T * u ≥ 9 * u := Int.mul_le_mul_of_nonneg_right hT (by omega)
 have a3 : T * (8 * m) <= T * u := Int.mul_le_mul_of_nonneg_left h8 (by omega)
 have a4 : T * δ <= T * (2 * m) := Int.mul_le_mul_of_nonneg_left h1.2 (by omega)
 have a5 : T * (-(2 * m)) <= T * δ := Int.mul_le_mul_of_nonneg_left h1.1 (by omega)
 have e1 : T * (8 * m) = 8 * (T * m) := by rw [Int.mul_left_comm]
 have e2 : T * (2 * m) = 2 * (T * m) := by rw [Int.mul_left_comm]
 have e3 : T * (-(2 * m)) = -(2 * (T * m)) := by rw [Int.mul_neg, e2]
 rw [e1] at a3
 rw [e2] at a4
 rw [e3] at a5
 have hSp : 0 < S := by omega
 refine ⟨hSp, ?_⟩
 have hdT : d * T = w * (T * u) + T * δ := by rw [hd, Int.add_mul, Int.mul_assoc, Int.mul_comm u T, Int.mul_comm δ T]
 rw [hdT]
 generalize T * δ = P at a4 a5
 generalize T * u = A at hS a2 a3
 generalize T * m = B at a1 a3 a4 a5
 have key : ∀ q r c : Int, 0 < c -> q = r * c + (q - r * c) -> 0 <= q - r * c -> q - r * c < c -> q / c = r := fun q r c hc hq l1 l2 => by
  rw [hq, Int.add_comm, Int.add_mul_ediv_right _ _ (by omega), Int.ediv_eq_zero_of_lt l1 l2]
  omega
 have hw' : w = 1 \/ w = 2 \/ w = 3 \/ w = 4 := by omega
 rcases hw' with rfl | rfl | rfl | rfl <;> exact key _ _ _ (by omega) (by omega) (by omega) (by omega)
noncomputable def pos (u : Int) : Int -> List Int -> List Int
 | f, [] => [f]
 | f, w :: ws => f :: pos u (f + w * u) ws
def Near (m : Int) : List Int -> List Int -> Prop
 | [], [] => True
 | a :: as, b :: bs => (-m <= a - b /\ a - b <= m) /\ Near m as bs
 | _, _ => False
noncomputable def dst : List Int -> List Int
 | a :: b :: r => (b - a) :: dst (b :: r)
 | _ => []
theorem Zda {m : Int} : ∀ {as bs : List Int}, Near m as bs -> as.length = bs.length
 | [], [], _ => rfl
 | a :: as, b :: bs, h => by rw [List.length_cons, List.length_cons, Zda h.2]
 | [], _ :: _, h => h.elim
 | _ :: _, [], h => h.elim
theorem Zef (u : Int) : ∀ (ws : List Int) (f : Int), (pos u f ws).length = ws.length + 1
 | [], _ => rfl
 | w :: ws, f => by rw [pos, List.length_cons, Zef u ws, List.length_cons]
theorem Zhb (u m : Int) : ∀ (ws : List Int) (f : Int) (es : List Int), Near m es (pos u f ws) -> (dst es).length = ws.length /\ ∀ (j : Nat) (h1 : j < (dst es).length) (h2 : j < ws.length), ∃ δ, (dst es)[j] = ws[j] * u + δ /\ -(2 * m) <= δ /\ δ <= 2 * m
 | [], f, es, h => by
  match es, h with
  | [e], _ => exact ⟨rfl, fun j h1 h2 => by simp at h2⟩
  | e :: e2 :: r, h => exact h.2.elim
 | w :: ws, f, es, h => by
  rw [pos] at h
  match es, h with
  | [e], h => cases ws <;> exact h.2.elim
  | e :: e2 :: r, h =>
   obtain ⟨i1, i2⟩ := Zhb u m ws (f + w * u) (e2 :: r) h.2
   refine ⟨by rw [dst, List.length_cons, i1, List.length_cons], fun j h1 h2 => ?_⟩
   cases j with
   | zero =>
    have hb : -m <= e2 - (f + w * u) /\ e2 - (f + w * u) <= m := by
     have := h.2
     cases ws with
     | nil => rw [pos] at this; exact this.1
     | cons w2 ws => rw [pos] at this; exact this.1
    have ha := h.1
    refine ⟨e2 - e - w * u, ?_, by omega, by omega⟩
    show e2 - e = w * u + (e2 - e - w * u)
    omega
   | succ j => exact i2 j (by simpa [dst] using h1) (by simpa using h2)
theorem Zhc {m : Int} : ∀ {as bs cs ds : List Int}, Near m as bs -> Near m cs ds -> Near m (as ++ cs) (bs ++ ds)
 | [], [], _, _, _, h => h
 | a :: as, b :: bs, _, _, h, g => ⟨h.1, Zhc h.2 g⟩
 | [], _ :: _, _, _, h, _ => h.elim
 | _ :: _, [], _, _, h, _ => h.elim
theorem ZfV {m : Int} (K : Int) : ∀ {as bs : List Int}, Near m as bs -> Near m (as.reverse.map (K - ·)) (bs.reverse.map (K - ·))
 | [], [], _ => trivial
 | a :: as, b :: bs, h => by
  rw [List.reverse_cons, List.reverse_cons, List.map_append, List.map_append]
  refine Zhc (ZfV K h.2) ⟨?_, trivial⟩
  have := h.1
  show -m <= K - a - (K - b) /\ K - a - (K - b) <= m
  omega
 | [], _ :: _, h => h.elim
 | _ :: _, [], h => h.elim
theorem Zhd (u w : Int) : ∀ (ws : List Int) (f : Int), pos u f (ws ++ [w]) = pos u f ws ++ [f + (ws.sum + w) * u]
 | [], f => by
  show [f, f + w * u] = [f] ++ [f + (0 + w) * u]
  rw [Int.zero_add]
  rfl
 | v :: ws, f => by
  rw [List.cons_append, pos, Zhd u w ws, pos, List.cons_append, List.sum_cons]
  congr 3
  rw [show v + ws.sum + w = v + (ws.sum + w) by omega, Int.add_mul v]
  omega
theorem Zhe (u K : Int) : ∀ (ws : List Int) (f : Int), (pos u f ws).reverse.map (K - ·) = pos u (K - f - ws.sum * u) ws.reverse
 | [], f => by
  show [K - f] = [K - f - 0 * u]
  rw [Int.zero_mul, Int.sub_zero]
 | w :: ws, f => by
  have hs : ws.reverse.sum = ws.sum := List.sum_reverse ws
  rw [pos, List.reverse_cons, List.map_append, Zhe u K ws, List.reverse_cons, Zhd, hs, List.sum_cons, Int.add_mul, Int.add_mul]
  have e : K - (f + w * u) - ws.sum * u = K - f - (w * u + ws.sum * u) := by omega
  rw [e]
  congr 1
  show [K - f] = _
  congr 1
  omega
theorem ZfW (u m : Int) : ∀ (ws : List Int) (f : Int) (es : List Int), Near m es (pos u f ws) -> ∃ x, es.getLast? = some x /\ -m <= x - (f + ws.sum * u) /\ x - (f + ws.sum * u) <= m
 | [], f, es, h => by
  match es, h with
  | [e], h =>
   refine ⟨e, rfl, ?_⟩
   rw [List.sum_nil, Int.zero_mul, Int.add_zero]
   exact h.1
  | e :: e2 :: r, h => exact h.2.elim
 | w :: ws, f, es, h => by
  rw [pos] at h
  match es, h with
  | [e], h => cases ws <;> exact h.2.elim
  | e :: e2 :: r, h =>
   obtain ⟨x, h1, h2⟩ := ZfW u m ws (f + w * u) (e2 :: r) h.2
   refine ⟨x, by rw [List.getLast?_cons_cons]; exact h1, ?_⟩
   rw [List.sum_cons, Int.add_mul]
   omega
theorem ZmF (h4 : lk 4 = false) (x0 x1 : D) (u : Int) : ∀ (ws pre : List Int) (g : Int) (a : D), pre.length + ws.length <= 10000 -> (∀ w ∈ ws, 1 <= w /\ w <= 4) -> ∃ a',
 forL (asgT lk (.name 4)) (exs ⟨lk, fok, fuel⟩ [.ex (.mut .append 3 [] [.bin .Add (.ix (.v 3) (.neg (.k (.int 1)))) (.bin .Mult (.v 4) (.v 2))])]) (dI ws) [x0, x1, I u, Ls true (pre ++ [g]), a] = .ok (.nx, [x0, x1, I u, Ls true (pre ++ pos u g ws), a']) := by
 intro ws
 induction ws with
 | nil => exact fun pre g a _ _ => ⟨a, rfl⟩
 | cons w ws ih =>
  intro pre g a hl hw
  rw [List.length_cons] at hl
  obtain ⟨a', ih⟩ := ih (pre ++ [g]) (g + w * u) (I w) (by rw [List.length_append, List.length_singleton]; omega) fun y hy => hw y (List.mem_cons_of_mem _ hy)
  refine ⟨a', ?_⟩
  obtain ⟨q1, q2⟩ := hw w List.mem_cons_self
  have mu : binW .Mult (.sc (.int w)) (.sc (.int u)) = some (.sc (.int (w * u))) := Zah _ _ (.inl (by omega))
  have lx := Zec pre g
  have ap : ∀ (δ : List D) (v : Int), mdR 3 δ (appD (.sc (.int v))) (some (.node .lst true (dI (pre ++ [g])))) = .ok (.sc .non, δ.set 3 (Ls true (pre ++ [g] ++ [v]))) := fun δ v => by
   rw [ZgH 3 δ _ _ (by rw [Zo, List.length_append, List.length_singleton, szl]; omega), Ls, ZD (pre ++ [g])]
   rfl
  have e : pre ++ pos u g (w :: ws) = pre ++ [g] ++ pos u (g + w * u) ws := by rw [List.append_assoc]; rfl
  rw [e, <- ih, Zt, Za4]
  simp_all [h4, Zi, lx, mu, ap]
theorem ZjF (ws : List Int) (f u : Int) (hl : ws.length <= 5000) (hw : ∀ w ∈ ws, 1 <= w /\ w <= 4) : Zca.run [Ls true ws, I f, I u] = .ok (Ls true (pos u f ws), [Ls true ws, I f, I u]) := by
 obtain ⟨a', hf⟩ := ZmF (fun j => decide (j < 3) || walked [.v 0] j) (fun _ _ => false) 0 rfl .hole (I f) u ws [] f .hole (by simp; omega) hw
 simp only [walked, Bool.or_false, List.nil_append, Ls, Zt, ZcB] at hf
 walk_at "r"
 have nl1 : ∀ v : D, newL [v] = some (.node .lst true [v]) := fun v => ZR _ (by rw [szl]; simp)
 (simp_all [nl1, Zi, hf]) <;> rfl
theorem ZkO (a s : Int) (h0 : 0 < s) (h1 : 2 * s < 18446744073709551616) : Z4.run [I a, I s] = .ok (I ((2 * a + s) / (2 * s)), [I a, I s]) := by
 walk_at "r"
 have m2 : ∀ v : Int, binW .Mult (.sc (.int 2)) (.sc (.int v)) = some (.sc (.int (2 * v))) := fun v => Zah _ _ (.inl (by decide))
 have dv : ∀ v : Int, binW .FloorDiv (.sc (.int v)) (.sc (.int (2 * s))) = some (.sc (.int (v / (2 * s)))) := fun v => ZbV _ _ (by omega)
 (simp_all [m2, dv]) <;> rfl
theorem ZmG (h0 : lk 0 = false) (h1 : lk 1 = false) : ∀ (es acc : List Int) (a b : D), ∃ a' b',
 Z7 (asgT lk (.tup [0, 1])) (tsts ⟨lk, fok, fuel⟩ []) (evb ⟨lk, fok, fuel⟩ (.bin .Sub (.v 1) (.v 0))).1 (zipD (dI es) (dI (es.drop 1))) (dI acc) [a, b] = .ok (dI (acc ++ dst es), [a', b']) := by
 intro es
 induction es with
 | nil => exact fun acc a b => ⟨a, b, by rw [show dst [] = [] from rfl, List.append_nil]; rfl⟩
 | cons e es ih =>
  intro acc a b
  cases es with
  | nil => exact ⟨a, b, by rw [show dst [e] = [] from rfl, List.append_nil]; rfl⟩
  | cons e2 r =>
   obtain ⟨a', b', ih⟩ := ih (acc ++ [e2 - e]) (I e) (I e2)
   refine ⟨a', b', ?_⟩
   have eq : acc ++ dst (e :: e2 :: r) = acc ++ [e2 - e] ++ dst (e2 :: r) := by rw [List.append_assoc]; rfl
   rw [eq, <- ih, show List.drop 1 (e :: e2 :: r) = e2 :: r from rfl, Zt e, Zt e2 r, zipD, Zaj, ZD, show List.drop 1 (e2 :: r) = r from rfl]
   simp_all [h0, h1, ZbF]
theorem ZmH (h0 : lk 0 = false) (S T : Int) (hS : 0 < S) (hS2 : 2 * S < 18446744073709551616) (hT : 0 <= T /\ T < 100000) : ∀ (ds acc : List Int) (a : D), ∃ a',
 Z7 (asgT lk (.name 0)) (tsts ⟨lk, fok, fuel⟩ []) (evb ⟨lk, fok, fuel⟩ (.call Z4 [.bin .Mult (.v 0) (.v 2), .v 1])).1 (dI ds) (dI acc) [a, I S, I T] = .ok (dI (acc ++ ds.map fun d => (2 * (d * T) + S) / (2 * S)), [a', I S, I T]) := by
 intro ds
 induction ds with
 | nil => exact fun acc a => ⟨a, by rw [List.map_nil, List.append_nil]; rfl⟩
 | cons d ds ih =>
  intro acc a
  obtain ⟨a', ih⟩ := ih (acc ++ [(2 * (d * T) + S) / (2 * S)]) (I d)
  refine ⟨a', ?_⟩
  have mu : binW .Mult (.sc (.int d)) (.sc (.int T)) = some (.sc (.int (d * T))) := Zah _ _ (.inr (by omega))
  have l1 : Z4.lend = true := rfl
  have hr := ZkO (d * T) S hS hS2
  have e : acc ++ List.map (fun d => (2 * (d * T) + S) / (2 * S)) (d :: ds) = acc ++ [(2 * (d * T) + S) / (2 * S)] ++ ds.map fun d => (2 * (d * T) + S) / (2 * S) := by rw [List.append_assoc]; rfl
  rw [e, <- ih, Zt, Zaj, ZD]
  simp_all [h0, mu, l1, hr]
section
variable (C : Addr) (b : Bool) (p t : Int) (st sp : List Int) (ps : List (List Int))
theorem fl_2 (a b c d e f : D) : fldW (CK C).fok "widths_sum" (.nd (.ins C FS) [a, b, c, d, e, f]) = some b := Zea C _ _ _ _ (by decide) rfl
theorem ZjG : (Zbb C).run [Fd C b p t st sp ps] = .ok (I p, [Fd C false p t st sp ps]) := by
 walk_at "r"
 (simp_all [fl_1, Zi, ZF]) <;> rfl
theorem ZjH : (Zbc C).run [Fd C b p t st sp ps] = .ok (I t, [Fd C false p t st sp ps]) := by
 walk_at "r"
 (simp_all [fl_2, Zi, ZF]) <;> rfl
theorem ZkP : (Zbv C).run [Fd C b p t st sp ps] = .ok (Ls true sp, [Fd C false p t st sp ps]) := by
 walk_at "r"
 (simp_all [fl_4, Zi, ZF]) <;> rfl
end
theorem Zpa (i : Int) (is : List Int) : bfW .minL [.nd .lst (dI (i :: is))] = some (.sc (.int (Zbt i is))) := by
 show (Zan (dI (i :: is))).bind _ = _
 rw [ZbA]
 rfl
theorem Zhw (C : Addr) (b : Bool) (n : Nat) (t q : Int) (st sp0 : List Int) (sl : Int) (ps : List (List Int)) (es ws : List Int) (m : Nat) (e0 e1 S T : Int) (out : List D) (hn2 : 2 <= n) (hn : n <= 10) (hmn : m <= 100) (hl : ((dI es).length : Int) - 1 = ((m + 2 : Nat) : Int) * n + 1) (hel : es.length <= 5000)
 (hpos : ∀ d ∈ dst es, 0 < d) (hne : dst es ≠ []) (h0 : es.head? = some e0) (h1 : es.getLast? = some e1) (hS : S = e1 - e0) (hT : T = t * ((m + 2 : Nat) : Int) + sl) (hS1 : 0 < S) (hS2 : 2 * S < 18446744073709551616) (hT1 : 0 <= T /\ T < 100000) (ht : 0 <= t /\ t < 1000)
 (hq : (dst es).map (fun d => (2 * (d * T) + S) / (2 * S)) = ws) (hlook : ∀ b, (Z8 C).run [Fd C b n t st (sp0 ++ [sl]) ps, I q, Ls true ws] = .ok (.node .lst true out, [Fd C false n t st (sp0 ++ [sl]) ps, I q, Ls false ws])) :
 (ZaJ C).run [Fd C b n t st (sp0 ++ [sl]) ps, I q, Ls true es] = .ok (.node .lst true out, [Fd C false n t st (sp0 ++ [sl]) ps, I q, Ls true es]) := by
 have hs := ZbM n m hn2 hn
 obtain ⟨a1, b1, hd⟩ := ZmG (fun i => decide (2 <= i)) (CK C).fok (CK C).fuel rfl rfl es [] .hole .hole
 rw [List.nil_append] at hd
 obtain ⟨a2, hqq⟩ := ZmH (fun i => decide (1 <= i)) (CK C).fok (CK C).fuel rfl S T hS1 hS2 hT1 (dst es) [] .hole
 rw [List.nil_append, hq] at hqq
 have dl : ∀ es : List Int, (dst es).length <= es.length := fun es => by
  induction es with
  | nil => simp [dst]
  | cons e es ih =>
   cases es with
   | nil => simp [dst]
   | cons e2 r => rw [dst, List.length_cons, List.length_cons]; omega
 have hdl := dl es
 have hwl : ws.length <= 5000 := by rw [<- hq, List.length_map]; omega
 cases hds : dst es with
 | nil => exact absurd hds hne
 | cons d0 dr =>
 have hmin : ¬ Zbt d0 dr <= 0 := by
  have := (Zc4 dr d0).1
  rw [<- hds] at this
  have := hpos _ this
  omega
 have hmn' := Zpa d0 dr
 rw [<- hds] at hmn'
 replace hd : ZB (CK C).fok (CK C).fuel 2 (.tup [0, 1]) [] (.bin .Sub (.v 1) (.v 0)) (zipD (dI es) (dI (es.drop 1))) [] [.hole, .hole] = _ := hd
 have hm1 : ∀ δ : List D, ZV 2 [] (ZB (CK C).fok (CK C).fuel 2 (.tup [0, 1]) [] (.bin .Sub (.v 1) (.v 0)) (zipD (dI es) (dI (es.drop 1))) []) δ = .ok (Ls true (dst es), δ) := fun δ => by
  rw [ZL (js := []) (caps := []) rfl hd (by rw [Zo, szl]; omega), ZW]
  rfl
 replace hqq : ZB (CK C).fok (CK C).fuel 1 (.name 0) [] (.call Z4 [.bin .Mult (.v 0) (.v 2), .v 1]) (dI (dst es)) [] [.hole, I S, I T] = _ := hqq
 have hm2 : ∀ x0 x1 x2 x3 x4 : D, ZV 1 [6, 5] (ZB (CK C).fok (CK C).fuel 1 (.name 0) [] (.call Z4 [.bin .Mult (.v 0) (.v 2), .v 1]) (dI (dst es)) []) [x0, x1, x2, x3, x4, I T, I S] = .ok (Ls true ws, [x0, x1, x2, x3, x4, I T, I S]) := fun x0 x1 x2 x3 x4 => by
  rw [ZL (js := [6, 5]) (caps := [I S, I T]) (δ1 := [x0, x1, x2, x3, x4, .hole, .hole]) rfl hqq (by rw [Zo, szl]; omega)]
  rfl
 have hit : itW .zip [.nd .lst (dI es), .nd .lst (dI (es.drop 1))] = some (zipD (dI es) (dI (es.drop 1))) := by
  show (if (Kd.lst = .lst \/ Kd.lst = .frl) /\ (Kd.lst = .lst \/ Kd.lst = .frl) then some (zipD (dI es) (dI (es.drop 1))) else none) = _
  rw [if_pos ⟨.inl rfl, .inl rfl⟩]
 have hcut : cutD (dI es) (some 1) none = dI (es.drop 1) := by
  rw [Zb6]
  unfold cutI
  have e2 := HT.Zcb es.length 0 1
  have e3 : HT.sIx es.length es.length none = es.length := rfl
  rw [show ((1 : Nat) : Int) = 1 from rfl] at e2
  have hge : 1 <= es.length := by cases es with | nil => simp at h0 | cons _ _ => simp
  rw [e2, e3, Nat.min_eq_left hge, List.take_of_length_le (by rw [List.length_drop]; exact Nat.le_refl _)]
 have ix1 : ((ixN' (dI es).length (-1)).bind fun j => (dI es)[j]?) = some (.sc (.int e1)) := by
  have := List.getLast?_eq_some_iff.mp h1
  obtain ⟨ys, rfl⟩ := this
  exact Zec ys e1
 have ix0 : ((ixN' (dI es).length 0).bind fun j => (dI es)[j]?) = some (.sc (.int e0)) := by
  cases es with
  | nil => simp at h0
  | cons e r =>
   simp only [List.head?_cons, Option.some.injEq] at h0
   subst h0
   exact ixI (e :: r) 0 (by decide) (by rw [List.length_cons]; omega)
 have ixs := Zec sp0 sl
 have mu : binW .Mult (.sc (.int t)) (.sc (.int ((m + 2 : Nat) : Int))) = some (.sc (.int (t * ((m + 2 : Nat) : Int)))) := Zah _ _ (.inl (by omega))
 have q1 := ZjG C b n t st (sp0 ++ [sl]) ps
 have q2 := ZjH C false n t st (sp0 ++ [sl]) ps
 have q3 := ZkP C false n t st (sp0 ++ [sl]) ps
 have q4 := hlook false
 have l1 : (Zbb C).lend = true := rfl
 have l2 : (Zbc C).lend = true := rfl
 have l3 : (Zbv C).lend = true := rfl
 have l4 : (Z8 C).lend = true := rfl
 have l5 : ZS.lend = true := rfl
 have ck : ∀ (m : Str) (hm : m ∉ FS) (ds : List D) (x1 x2 x3 x4 x5 x6 : D), chkI C m (.late 0) [.node (.ins C FS) true ds, x1, x2, x3, x4, x5, x6] = .ok ((), [.node (.ins C FS) true ds, x1, x2, x3, x4, x5, x6]) := fun m hm ds x1 x2 x3 x4 x5 x6 => if_pos ⟨rfl, hm⟩
 have c1 := ck "parts" (by decide)
 have c2 := ck "total" (by decide)
 have c3 := ck "stop" (by decide)
 have c4 := ck "looked" (by decide)
 clear ck
 generalize sp0 ++ [sl] = sp at q1 q2 q3 q4 ixs ⊢
 generalize ((m + 2 : Nat) : Int) = s2 at hs hl mu hT
 generalize dst es = de at hm1 hm2 hmn'
 walk_at "r"
 (simp_all [l1, l2, l3, l4, l5, c1, c2, c3, c4, q1, q2, q3, q4, hl, hs, Zi, ZF, hcut, hit, hm1, hm2, hmn', hmin, mu, ixs, ix0, ix1, <- hS, <- hT]) <;> rfl
theorem ZjI (m : Int) : ∀ (u f : Int) (ws es : List Int), Near m es (pos u f ws) -> ∃ x, es.head? = some x /\ -m <= x - f /\ x - f <= m := fun u f ws es h => by
 cases es with
 | nil => cases ws <;> exact h.elim
 | cons e r =>
  refine ⟨e, rfl, ?_⟩
  cases ws <;> exact h.1
theorem ZhT (C : Addr) (b : Bool) (n : Nat) (t q : Int) (st sp0 : List Int) (sl : Int) (ps : List (List Int)) (ws es : List Int) (m : Nat) (u k f : Int) (out : List D) (hn2 : 2 <= n) (hn : n <= 10) (hm : m <= 100) (hu : 1 <= u) (hu2 : u <= 2000000000000) (hk : 0 <= k) (h8 : 8 * k <= u) (hl : ws.length = (m + 2) * n + 1)
 (hw : ∀ x ∈ ws, 1 <= x /\ x <= 4) (hT : ws.sum = t * ((m + 2 : Nat) : Int) + sl) (hT1 : 9 <= ws.sum) (hT2 : ws.sum < 100000) (ht : 0 <= t /\ t < 1000) (hnear : Near k es (pos u f ws)) (hlook : ∀ b, (Z8 C).run [Fd C b n t st (sp0 ++ [sl]) ps, I q, Ls true ws] = .ok (.node .lst true out, [Fd C false n t st (sp0 ++ [sl]) ps, I q, Ls false ws])) :
 (ZaJ C).run [Fd C b n t st (sp0 ++ [sl]) ps, I q, Ls true es] = .ok (.node .lst true out, [Fd C false n t st (sp0 ++ [sl]) ps, I q, Ls true es]) := by
 obtain ⟨e0, a0, a1, a2⟩ := ZjI k u f ws es hnear
 obtain ⟨e1, b0, b1, b2⟩ := ZfW u k ws f es hnear
 obtain ⟨d1, d2⟩ := Zhb u k ws f es hnear
 have hnl := Zda hnear
 rw [Zef] at hnl
 have hml : (m + 2) * n <= 102 * 10 := Nat.mul_le_mul (by omega) hn
 have hTu : ws.sum * u <= 100000 * 2000000000000 := Int.mul_le_mul (by omega) hu2 (by omega) (by decide)
 have hS : e1 - e0 = ws.sum * u + (e1 - e0 - ws.sum * u) := by omega
 have hΔ : -(2 * k) <= e1 - e0 - ws.sum * u /\ e1 - e0 - ws.sum * u <= 2 * k := by omega
 have hq : ∀ (j : Nat) (h1 : j < (dst es).length) (h2 : j < ws.length), 0 < (dst es)[j] /\ 0 < e1 - e0 /\ (2 * ((dst es)[j] * ws.sum) + (e1 - e0)) / (2 * (e1 - e0)) = ws[j] := fun j h1 h2 => by
  obtain ⟨δ, x1, x2⟩ := d2 j h1 h2
  have hwj := hw ws[j] (List.getElem_mem h2)
  obtain ⟨y1, y2⟩ := ZoZ ws[j] ws.sum u k (dst es)[j] (e1 - e0) δ _ hwj hT1 hu hk h8 x1 hS x2 hΔ
  refine ⟨?_, y1, y2⟩
  have : 1 * u <= ws[j] * u := Int.mul_le_mul_of_nonneg_right hwj.1 (by omega)
  omega
 have hpos0 : 0 < (dst es).length := by omega
 have hS1 := (hq 0 hpos0 (by omega)).2.1
 refine Zhw C b n t q st sp0 sl ps es ws m e0 e1 (e1 - e0) ws.sum out hn2 hn hm ?_ (by omega) (fun d hd => ?_) (fun z => by rw [z] at hpos0; simp at hpos0) a0 b0 rfl hT hS1 (by omega) (by omega) ht ?_ hlook
 . rw [Zo, hnl, hl, show (((m + 2) * n + 1 + 1 : Nat) : Int) = (((m + 2) * n : Nat) : Int) + 1 + 1 by omega, Int.natCast_mul]
   omega
 . obtain ⟨j, hj, rfl⟩ := List.getElem_of_mem hd
   exact (hq j hj (by omega)).1
 . apply List.ext_getElem
   . rw [List.length_map, d1]
   . intro j j1 j2
     rw [List.getElem_map]
     exact (hq j (by rw [List.length_map] at j1; exact j1) j2).2.2
theorem ZjJ : ∀ (n : Nat), ∀ l ∈ lexL n, ∀ x ∈ l, 1 <= x /\ x <= 4
 | 0, l, h, x, hx => by
  rw [lexL, List.mem_singleton] at h
  subst h
  simp at hx
 | n + 1, l, h, x, hx => by
  rw [lexL] at h
  obtain ⟨w, hw, h⟩ := List.mem_flatMap.mp h
  obtain ⟨l', h', rfl⟩ := List.mem_map.mp h
  (rcases List.mem_cons.mp hx with rfl | hx)
  . simp only [List.mem_cons, List.not_mem_nil, or_false] at hw
    omega
  . exact ZjJ n l' h' x hx
theorem Zpb (n : Nat) (t : Int) : ∀ l ∈ pat n t, l.sum = t /\ ∀ x ∈ l, 1 <= x /\ x <= 4 := fun l hl => by
 rw [Zf5, List.mem_filter, decide_eq_true_eq] at hl
 exact ⟨hl.2, ZjJ n l hl.1⟩
theorem ZhU (ps : List (List Int)) (t : Int) (hp : ∀ l ∈ ps, l.sum = t /\ ∀ x ∈ l, 1 <= x /\ x <= 4) : ∀ row : List Int, (∀ x ∈ row, 0 <= x /\ x < ps.length) -> ((row.map (pt ps)).flatten).sum = t * row.length /\ ∀ x ∈ (row.map (pt ps)).flatten, 1 <= x /\ x <= 4
 | [], _ => ⟨by simp, fun x hx => by simp at hx⟩
 | r :: row, h => by
  obtain ⟨q0, q1⟩ := h r List.mem_cons_self
  have hb := hp (pt ps r) (by
   have hk : r.toNat < ps.length := by omega
   rw [pt, List.getD_eq_getElem?_getD, List.getElem?_eq_getElem hk]
   exact List.getElem_mem hk)
  obtain ⟨i1, i2⟩ := ZhU ps t hp row fun y hy => h y (List.mem_cons_of_mem _ hy)
  rw [List.map_cons, List.flatten_cons]
  refine ⟨?_, fun x hx => ?_⟩
  . rw [List.sum_append, hb.1, i1, List.length_cons, show ((row.length + 1 : Nat) : Int) = 1 + row.length by omega, Int.mul_add, Int.mul_one]
  . rcases List.mem_append.mp hx with hx | hx
    . exact hb.2 x hx
    . exact i2 x hx
theorem ZmI (h0 : lk 0 = false) (k c : Int) (hk : 0 <= k) (hk2 : k <= 2000000000000) : ∀ (es acc : List Int) (a b : Int) (y : D), ∃ (fs : List Int) (a' b' : Int) (y' : D), Near k fs es /\
 Z7 (asgT lk (.name 0)) (tsts ⟨lk, fok, fuel⟩ []) (evb ⟨lk, fok, fuel⟩ (.bin .Sub (.bin .Add (.v 0) (.call Zn [.v 2, .bin .Add (.bin .Mult (.k (.int 2)) (.v 1)) (.k (.int 1))])) (.v 1))).1 (dI es) (dI acc) [y, I k, Sr c a b] = .ok (dI (acc ++ fs), [y', I k, Sr c a' b']) := by
 intro es
 induction es with
 | nil => exact fun acc a b y => ⟨[], a, b, y, trivial, by rw [List.append_nil]; rfl⟩
 | cons e es ih =>
  intro acc a b y
  have m2 : ∀ v : Int, binW .Mult (.sc (.int 2)) (.sc (.int v)) = some (.sc (.int (2 * v))) := fun v => Zah _ _ (.inl (by decide))
  have ln : Zn.lend = true := rfl
  obtain ⟨r, a1, b1, r0, r1, hr⟩ := Zal c a b (2 * k + 1) (by omega) (by omega)
  obtain ⟨fs, a', b', y', hn, ih⟩ := ih (acc ++ [e + r - k]) a1 b1 (I e)
  refine ⟨(e + r - k) :: fs, a', b', y', ⟨by omega, hn⟩, ?_⟩
  rw [show acc ++ (e + r - k) :: fs = acc ++ [e + r - k] ++ fs by rw [List.append_assoc]; rfl, <- ih, Zt, Zaj, ZD]
  simp_all [h0, m2, ln, hr]
theorem ZjK (es : List Int) (u c a b : Int) (hl : es.length <= 5000) (hu : 1 <= u) (hu2 : u <= 2000000000000) : ∃ (fs : List Int) (a' b' : Int), Near (u / 8) fs es /\ Zbz.run [Ls true es, I u, Sr c a b] = .ok (Ls true fs, [Ls true es, I u, Sr c a' b']) := by
 obtain ⟨fs, a', b', y', hn, hc⟩ := ZmI (fun i => decide (1 <= i)) (fun _ _ => false) 0 rfl (u / 8) c (by omega) (by omega) es [] a b .hole
 refine ⟨fs, a', b', hn, ?_⟩
 rw [List.nil_append] at hc
 have hnl := Zda hn
 replace hc : ZB (fun _ _ => false) 0 1 (.name 0) [] (.bin .Sub (.bin .Add (.v 0) (.call Zn [.v 2, .bin .Add (.bin .Mult (.k (.int 2)) (.v 1)) (.k (.int 1))])) (.v 1)) (dI es) [] [.hole, I (u / 8), Sr c a b] = _ := hc
 have hm : ∀ x0 x1 : D, ZV 1 [3, 2] (ZB (fun _ _ => false) 0 1 (.name 0) [] (.bin .Sub (.bin .Add (.v 0) (.call Zn [.v 2, .bin .Add (.bin .Mult (.k (.int 2)) (.v 1)) (.k (.int 1))])) (.v 1)) (dI es) []) [x0, x1, Sr c a b, I (u / 8)] = .ok (Ls true fs, [x0, x1, Sr c a' b', I (u / 8)]) := fun x0 x1 => by
  rw [ZL (js := [3, 2]) (caps := [I (u / 8), Sr c a b]) (δ1 := [x0, x1, .hole, .hole]) rfl hc (by rw [Zo, szl]; omega)]
  rfl
 walk_at "r"
 have d8 : ∀ v : Int, binW .FloorDiv (.sc (.int v)) (.sc (.int 8)) = some (.sc (.int (v / 8))) := fun v => ZbV _ _ (by decide)
 (simp_all [d8, Zi, hm]) <;> rfl
theorem ZmJ (h0 : lk 0 = false) : ∀ (es acc : List Int) (a : D), ∃ a',
 Z7 (asgT lk (.name 0)) (tsts ⟨lk, fok, fuel⟩ []) (evb ⟨lk, fok, fuel⟩ (.bin .Sub (.bin .Pow (.k (.int 10)) (.k (.int 17))) (.v 0))).1 (dI es) (dI acc) [a] = .ok (dI (acc ++ es.map (100000000000000000 - ·)), [a']) := by
 intro es
 induction es with
 | nil => exact fun acc a => ⟨a, by rw [List.map_nil, List.append_nil]; rfl⟩
 | cons e es ih =>
  intro acc a
  obtain ⟨a', ih⟩ := ih (acc ++ [100000000000000000 - e]) (I e)
  refine ⟨a', ?_⟩
  have pw : binW .Pow (.sc (.int 10)) (.sc (.int 17)) = some (.sc (.int 100000000000000000)) := Zgm 10 17 (by decide)
  rw [show acc ++ List.map (100000000000000000 - ·) (e :: es) = acc ++ [100000000000000000 - e] ++ es.map (100000000000000000 - ·) by rw [List.append_assoc]; rfl, <- ih, Zt, Zaj, ZD]
  simp_all [h0, pw]
theorem Zhf : ∀ xs : List Int, (∀ x ∈ xs, 1 <= x /\ x <= 4) -> (xs.length : Int) <= xs.sum /\ xs.sum <= 4 * xs.length
 | [], _ => by simp
 | x :: xs, h => by
  have i := Zhf xs fun y hy => h y (List.mem_cons_of_mem _ hy)
  have := h x List.mem_cons_self
  (rw [List.sum_cons, List.length_cons])
  omega
section
variable (C : Addr) (n : Nat) (t p : Int) (st sp0 : List Int) (sl : Int) (ps : List (List Int)) (ss : List Int) (u : Int)
theorem ZmK (hn : n = 4 \/ n = 6) (h1 : st.length = n) (h2 : (sp0 ++ [sl]).length = n + 1) (h3 : ∀ x ∈ st, 1 <= x /\ x <= 4) (h4 : ∀ x ∈ sp0 ++ [sl], 1 <= x /\ x <= 4) (h5 : st.sum = t) (h6 : sp0.sum = t) (h7 : (sp0 ++ [sl]).reverse.take n ≠ st) (hp : ∀ l ∈ ps, l.length = n) (hpi : ∀ l ∈ ps, l.sum = t /\ ∀ x ∈ l, 1 <= x /\ x <= 4) (hnd : ps.Nodup) (hr : ss.length <= 100) (hx : ∀ x ∈ ss, 0 <= x /\ x < ps.length) (u1 : 1 <= u) (u2 : u <= 2000000000000) :
 (∀ x ∈ wds st (sp0 ++ [sl]) ps ss, 1 <= x /\ x <= 4) /\ (wds st (sp0 ++ [sl]) ps ss).length <= 2000 /\
 (∀ (es : List Int) (f : Int), Near (u / 8) es (pos u f (wds st (sp0 ++ [sl]) ps ss)) -> (ZaJ C).run [Fd C false n t st (sp0 ++ [sl]) ps, I p, Ls true es] = .ok (Lo true (osOf p ss), [Fd C false n t st (sp0 ++ [sl]) ps, I p, Ls true es])) /\
 ∀ (es : List Int) (f : Int), Near (u / 8) es (pos u f (wds st (sp0 ++ [sl]) ps ss).reverse) -> (ZaJ C).run [Fd C false n t st (sp0 ++ [sl]) ps, I p, Ls true es] = .ok (Lo true (osOf p ss), [Fd C false n t st (sp0 ++ [sl]) ps, I p, Ls true es]) := by
 have hn2 : 2 <= n := by omega
 have hn10 : n <= 10 := by omega
 have tb := Zhf st h3
 have hsl := h4 sl (by simp)
 have lk1 := fun b => ZkG C b n t p st (sp0 ++ [sl]) ps ss hn2 hn10 h1 h2 hp hnd hx hr
 have lk2 := fun b => ZkH C b n t p st (sp0 ++ [sl]) ps ss hn2 hn10 h1 h2 hp hnd hx hr h7
 rw [ZrJ] at lk1 lk2
 have hwl := Zeb n st (sp0 ++ [sl]) ps ss h1 h2 hp hx
 obtain ⟨f1, f2⟩ := ZhU ps t hpi ss hx
 have hww : ∀ x ∈ wds st (sp0 ++ [sl]) ps ss, 1 <= x /\ x <= 4 := fun x hx => by
  (rcases List.mem_append.mp hx with hx | hx)
  . rcases List.mem_append.mp hx with hx | hx
    . exact h3 x hx
    . exact f2 x hx
  . exact h4 x hx
 have hws : (wds st (sp0 ++ [sl]) ps ss).sum = t * ((ss.length + 2 : Nat) : Int) + sl := by
  rw [wds, List.sum_append, List.sum_append, f1, h5, List.sum_append, h6, List.sum_cons, List.sum_nil, show ((ss.length + 2 : Nat) : Int) = ss.length + 2 by omega, Int.mul_add]
  omega
 have hge := Zhf _ hww
 have hmul : 2 * n <= (ss.length + 2) * n := Nat.mul_le_mul_right n (by omega)
 have hmul2 : (ss.length + 2) * n <= 102 * 10 := Nat.mul_le_mul (by omega) hn10
 generalize wds st (sp0 ++ [sl]) ps ss = Wd at lk1 lk2 hwl hww hws hge
 have rv1 : ∀ x ∈ Wd.reverse, 1 <= x /\ x <= 4 := fun x hx => hww x (List.mem_reverse.mp hx)
 have rv2 : Wd.reverse.sum = Wd.sum := List.sum_reverse Wd
 have rv3 : Wd.reverse.length = Wd.length := List.length_reverse
 have k8 : 8 * (u / 8) <= u := by omega
 refine ⟨hww, by omega, fun es f hnr => ?_, fun es f hnr => ?_⟩
 . exact ZhT C false n t p st sp0 sl ps Wd es ss.length u (u / 8) f _ hn2 hn10 hr u1 u2 (by omega) k8 hwl hww hws (by omega) (by omega) (by omega) hnr lk1
 . exact ZhT C false n t p st sp0 sl ps Wd.reverse es ss.length u (u / 8) f _ hn2 hn10 hr u1 u2 (by omega) k8 (by rw [rv3]; exact hwl) rv1 (by rw [rv2]; exact hws) (by rw [rv2]; omega) (by rw [rv2]; omega) (by omega) hnr lk2
end
theorem ZjL (C : Addr) (n : Nat) (t p : Int) (st sp : List Int) (ps : List (List Int)) (ys : List Int) (f u c : Int) (hn : n = 4 \/ n = 6) (h1 : st.length = n) (h2 : sp.length = n + 1) (h3 : ∀ x ∈ st, 1 <= x /\ x <= 4) (h4 : ∀ x ∈ sp, 1 <= x /\ x <= 4) (h5 : st.sum = t) (h6 : (sp.take n).sum = t) (h7 : sp.reverse.take n ≠ st) (hp : ∀ l ∈ ps, l.length = n) (hpi : ∀ l ∈ ps, l.sum = t /\ ∀ x ∈ l, 1 <= x /\ x <= 4) (hnd : ps.Nodup) (hpl : ps.length <= 4096)
 (hpr : p ∈ PR) (hp1 : 5 <= p) (hp2 : p <= 47) (hpm : p <= ps.length) (hl : 2 <= ys.length) (hl2 : (ys.length : Int) <= p) (hy : ∀ y ∈ ys, 0 <= y /\ y < p) (hg : good p ys = true) (u1 : 1 <= u) (u2 : u <= 2000000000000) :
 (Za2 C).run [Fd C false n t st sp ps, I p, Ls true ys, I f, I u, I c] = .ok (.sc (.bl true), [Fd C false n t st sp ps, I p, Ls true ys, I f, I u, I c]) := by
 have hsp : ∃ (sp0 : List Int) (sl : Int), sp = sp0 ++ [sl] /\ sp0.sum = t := by
  have hd : (sp.drop n).length = 1 := by rw [List.length_drop]; omega
  match hq : sp.drop n, hd with
  | [sl], _ => exact ⟨sp.take n, sl, by rw [<- hq, List.take_append_drop], h6⟩
 obtain ⟨sp0, sl, rfl, hs0⟩ := hsp
 obtain ⟨a, hs⟩ := ZcV c
 obtain ⟨ss, a1, b1, s1, s2, s3, hsp⟩ := Zi3 c a 0 p ps.length ys hp1 hp2 hpm (by omega) hl (by omega) hy
 obtain ⟨j, a2, b2, j0, j1, hj⟩ := Zal c a1 b1 2 (by decide) (by decide)
 obtain ⟨hww, hwl, sA, sB⟩ := ZmK C n t p st sp0 sl ps ss u hn h1 h2 h3 h4 h5 hs0 h7 hp hpi hnd (by omega) s2 u1 u2
 have r1 := Zhu C false n t st (sp0 ++ [sl]) ps ss (by omega) h1 h2 hp (by omega) s2
 generalize wds st (sp0 ++ [sl]) ps ss = Wd at hww hwl sA sB r1
 have hed := ZjF Wd f u (by omega) hww
 obtain ⟨fs, a3, b3, hfn, hmv⟩ := ZjK (pos u f Wd) u c a2 b2 (by rw [Zef]; omega) u1 u2
 have hfl := Zda hfn
 rw [Zef] at hfl
 obtain ⟨a12, ht⟩ := ZmJ (fun i => decide (1 <= i)) (CK C).fok (CK C).fuel rfl fs.reverse [] .hole
 rw [List.nil_append] at ht
 have t2 := sA fs f hfn
 have t3 := sB (fs.reverse.map (100000000000000000 - ·)) _ (by have := ZfV 100000000000000000 hfn; rw [Zhe] at this; exact this)
 have g1l : (fs.reverse.map (100000000000000000 - ·)).length <= 5000 := by rw [List.length_map, List.length_reverse]; omega
 have dr1 := ZgV fs
 generalize fs.reverse.map (100000000000000000 - ·) = TT at ht t3 g1l
 generalize fs.reverse = fr at ht dr1
 generalize pos u f Wd = EE at hed hmv
 replace ht : ZB (CK C).fok (CK C).fuel 1 (.name 0) [] (.bin .Sub (.bin .Pow (.k (.int 10)) (.k (.int 17))) (.v 0)) (dI fr) [] [.hole] = _ := ht
 have hmt : ∀ δ : List D, ZV 1 [] (ZB (CK C).fok (CK C).fuel 1 (.name 0) [] (.bin .Sub (.bin .Pow (.k (.int 10)) (.k (.int 17))) (.v 0)) (dI fr) []) δ = .ok (Ls true TT, δ) := fun δ => by
  rw [ZL (js := []) (caps := []) rfl ht (by rw [Zo, szl]; omega), ZW]
  rfl
 have hme := ZjE p hpr hp1 hp2 ys ss hl hl2 hy hg s3
 have ceq := ZrI (osOf p ss)
 have sO := Zfi (osOf p ss)
 have ce2 := ZdX ys ys
 rw [decide_eq_true rfl] at ce2
 have told := ZgW C false n t st (sp0 ++ [sl]) ps (by omega)
 have hll := ZcH true ps
 generalize osOf p ss = os at hsp t2 t3 hme ceq sO
 have l1 : (ZaD C).lend = true := rfl
 have l3 : (ZT C).lend = true := rfl
 have g1 : Zaa.lend = true := rfl
 have g2 : Za7.lend = true := rfl
 have g3 : Zn.lend = true := rfl
 have g4 : Zca.lend = true := rfl
 have g5 : Zbz.lend = true := rfl
 have g6 : (ZaJ C).lend = true := rfl
 have g7 : Zbf.lend = true := rfl
 have ck : ∀ (m : Str) (hm : m ∉ FS) (ds : List D) (x1 x2 x3 x4 x5 x6 x7 x8 x9 x10 x11 : D), chkI C m (.late 0) [.node (.ins C FS) true ds, x1, x2, x3, x4, x5, x6, x7, x8, x9, x10, x11] = .ok ((), [.node (.ins C FS) true ds, x1, x2, x3, x4, x5, x6, x7, x8, x9, x10, x11]) := fun m hm ds x1 x2 x3 x4 x5 x6 x7 x8 x9 x10 x11 => if_pos ⟨rfl, hm⟩
 have c1' := ck "printed" (by decide)
 have c3' := ck "patterns" (by decide)
 clear ck
 generalize sp0 ++ [sl] = sp at t2 t3 told r1 ⊢
 walk_at "r"
 simp_all [l1, l3, g1, g2, g3, g4, g5, c1', c3', hs, hsp, hj, r1, told, hll, hed, hmv, Zi, ZF, V.int.injEq]
 by_cases hj1 : j = 1
 . subst hj1
   (simp_all [g6, g7, hmt, t3, hme, ceq, ce2, dr1, sO, Zi, ZF]) <;> rfl
 . (simp_all [hj1, g6, g7, t2, hme, ceq, ce2, sO, Zi, ZF]) <;> rfl
theorem ZkQ (h0 : lk 0 = false) (ns : List Int) (p : Int) (hp : 0 < p) : ∀ (m j : Nat) (acc : List Int) (a : D), ∃ (xs : List Int) (a' : D), xs.length = m /\ (∀ x ∈ xs, 0 <= x /\ x < p) /\
 Z7 (asgT lk (.name 0)) (tsts ⟨lk, fok, fuel⟩ []) (evb ⟨lk, fok, fuel⟩ (.bin .Mod (.call Zp [.v 2, .bin .Add (.k (.int 6)) (.v 0)]) (.v 1))).1 (dI (rngI j m)) (dI acc) [a, I p, scr ns] = .ok (dI (acc ++ xs), [a', I p, scr ns]) := by
 intro m
 induction m with
 | zero => exact fun j acc a => ⟨[], a, rfl, fun x h => by simp at h, by rw [List.append_nil]; rfl⟩
 | succ m ih =>
  intro j acc a
  have hr := Zbl ns (6 + j)
  rw [show ((6 + j : Nat) : Int) = 6 + (j : Int) by omega] at hr
  generalize ns.getD (6 + j) 0 = v at hr
  obtain ⟨xs, a', e1, e2, ih⟩ := ih (j + 1) (acc ++ [v % p]) (I j)
  refine ⟨v % p :: xs, a', by rw [List.length_cons, e1], fun x hx => ?_, ?_⟩
  . rcases List.mem_cons.mp hx with rfl | hx
    . exact ⟨Int.emod_nonneg _ (by omega), Int.emod_lt_of_pos _ hp⟩
    . exact e2 x hx
  have l1 : Zp.lend = true := rfl
  rw [show ((j + 1 : Nat) : Int) = (j : Int) + 1 by omega] at ih
  rw [show acc ++ v % p :: xs = acc ++ [v % p] ++ xs by rw [List.append_assoc]; rfl, <- ih, rngI, Zt, Zaj, ZD]
  simp only [scr] at hr ⊢
  simp_all [h0, l1, hr, Z2 _ _ hp]
theorem ZmL (C : Addr) (lk : Nat -> Bool) (fuel : Nat) (k10 : lk 10 = false) (ns F : List Int) (G : List D) (p u c4 : Int) (ys : List Int) (h4 : Zp.run [scr ns, .sc (.int 4)] = .ok (I c4, [scr ns, .sc (.int 4)])) (hr : ∀ c : Int, (Za2 C).run [.node (.ins C FS) true G, I p, Ls true ys, I (c4 % 100000000000000000), I u, I c] = .ok (.sc (.bl true), [.node (.ins C FS) true G, I p, Ls true ys, I (c4 % 100000000000000000), I u, I c])) (x1 x2 x3 x4 x7 : D) : ∀ (cs : List Int) (a : D), ∃ a',
 forL (asgT lk (.name 10)) (exs ⟨lk, (CK C).fok, fuel⟩ [.iff (.nt (.call (Za2 C) [.v 5, .v 6, .v 8, .bin .Mod (.call Zp [.v 0, .k (.int 4)]) (.bin .Pow (.k (.int 10)) (.k (.int 17))), .v 9, .v 10])) [.ret (.k (.bl false))] []]) (dI cs) [scr ns, x1, x2, x3, x4, .node (.ins C FS) true G, I p, x7, Ls true ys, I u, a]
  = .ok (.nx, [scr ns, x1, x2, x3, x4, .node (.ins C FS) true G, I p, x7, Ls true ys, I u, a']) := by
 intro cs
 induction cs with
 | nil => exact fun a => ⟨a, rfl⟩
 | cons c cs ih =>
  intro a
  obtain ⟨a', ih⟩ := ih (I c)
  refine ⟨a', ?_⟩
  have l1 : Zp.lend = true := rfl
  have l2 : (Za2 C).lend = true := rfl
  have pw : binW .Pow (.sc (.int 10)) (.sc (.int 17)) = some (.sc (.int 100000000000000000)) := Zgm 10 17 (by decide)
  have md : binW .Mod (.sc (.int c4)) (.sc (.int 100000000000000000)) = some (.sc (.int (c4 % 100000000000000000))) := Z2 _ _ (by decide)
  have hr1 := hr c
  rw [<- ih, Zt, Za4]
  simp only [scr] at h4 ⊢
  simp_all [k10, l1, l2, h4, pw, md, hr1]
theorem ZkR (C : Addr) (ns : List Int) (h : ns.length <= 63) : ∃ ds', (Zgq C).run [scr ns] = .ok (.sc (.bl true), ds') := by
 have n0 : Zp.run [scr ns, .sc (.int 0)] = .ok (I (ns.getD 0 0), [scr ns, .sc (.int 0)]) := Zbl ns 0
 have n1 : Zp.run [scr ns, .sc (.int 1)] = .ok (I (ns.getD 1 0), [scr ns, .sc (.int 1)]) := Zbl ns 1
 have n2 : Zp.run [scr ns, .sc (.int 2)] = .ok (I (ns.getD 2 0), [scr ns, .sc (.int 2)]) := Zbl ns 2
 have n3 : Zp.run [scr ns, .sc (.int 3)] = .ok (I (ns.getD 3 0), [scr ns, .sc (.int 3)]) := Zbl ns 3
 have n4 : Zp.run [scr ns, .sc (.int 4)] = .ok (I (ns.getD 4 0), [scr ns, .sc (.int 4)]) := Zbl ns 4
 have n5 : Zp.run [scr ns, .sc (.int 5)] = .ok (I (ns.getD 5 0), [scr ns, .sc (.int 5)]) := Zbl ns 5
 have n53 : Zp.run [scr ns, .sc (.int 53)] = .ok (I (ns.getD 53 0), [scr ns, .sc (.int 53)]) := Zbl ns 53
 generalize ns.getD 0 0 = c0 at n0
 generalize ns.getD 1 0 = c1 at n1
 generalize ns.getD 2 0 = c2 at n2
 generalize ns.getD 3 0 = c3 at n3
 generalize ns.getD 4 0 = c4 at n4
 generalize ns.getD 5 0 = c5 at n5
 generalize ns.getD 53 0 = c53 at n53
 obtain ⟨n, t, st, sp, hn, hmany, h1, h2, h3, h4, h5, h6, h7, hdraw⟩ := ZkF c0 c1
 have hini := ZkA C n t st sp hn h1 h2 h3 h4 h5 h6 h7
 have hp := Ze8 n t
 have hpi := Zpb n t
 have hnd := Zj3 n t
 have hpl : (pat n t).length <= 4096 := Nat.le_trans (ZdY n t) (by rcases hn with rfl | rfl <;> decide)
 generalize pat n t = ps at hini hp hpi hnd hpl hmany
 obtain ⟨p, p1, p2, p3, hpr, hpp⟩ := Zj6 c2 ps.length (by omega)
 have b0 := Int.emod_nonneg (c3 / 4) (show p - 1 ≠ 0 by omega)
 have b1 := Int.emod_lt_of_pos (c3 / 4) (show 0 < p - 1 by omega)
 have hit1 := Zgn (c3 / 4 % (p - 1)) (by omega)
 obtain ⟨row, a', e1, e2, hc⟩ := ZkQ (fun i => decide (1 <= i)) (CK C).fok (CK C).fuel rfl ns p (by omega) (c3 / 4 % (p - 1)).toNat 0 [] .hole
 rw [List.nil_append, show ((0 : Nat) : Int) = 0 from rfl] at hc
 replace hc : ZB (CK C).fok (CK C).fuel 1 (.name 0) [] (.bin .Mod (.call Zp [.v 2, .bin .Add (.k (.int 6)) (.v 0)]) (.v 1)) (dI (rngI 0 (c3 / 4 % (p - 1)).toNat)) [] [.hole, I p, scr ns] = _ := hc
 have hm : ∀ x1 x2 x3 x4 x5 x7 x8 x9 x10 : D, ZV 1 [6, 0] (ZB (CK C).fok (CK C).fuel 1 (.name 0) [] (.bin .Mod (.call Zp [.v 2, .bin .Add (.k (.int 6)) (.v 0)]) (.v 1)) (dI (rngI 0 (c3 / 4 % (p - 1)).toNat)) []) [scr ns, x1, x2, x3, x4, x5, I p, x7, x8, x9, x10] = .ok (Ls true row, [scr ns, x1, x2, x3, x4, x5, I p, x7, x8, x9, x10]) := fun x1 x2 x3 x4 x5 x7 x8 x9 x10 => by
  rw [ZL (js := [6, 0]) (caps := [I p, scr ns]) (δ1 := [.hole, x1, x2, x3, x4, x5, .hole, x7, x8, x9, x10]) rfl hc (by rw [Zo, szl]; omega)]
  rfl
 generalize rngI 0 (c3 / 4 % (p - 1)).toNat = rg at hit1 hm
 obtain ⟨l, l0, l1, lw, hlab⟩ := Zj8 p row (by omega) p3 (by omega)
 have hls := ZhR p row l
 have hlo : 0 <= other p row l /\ other p row l < p := ⟨Int.emod_nonneg _ (by omega), Int.emod_lt_of_pos _ (by omega)⟩
 have hyl : (row ++ [other p row l, l]).length = row.length + 2 := by rw [List.length_append]; rfl
 have hy : ∀ y ∈ row ++ [other p row l, l], 0 <= y /\ y < p := fun y hy => by
  rcases List.mem_append.mp hy with hy | hy
  . exact e2 y hy
  . simp only [List.mem_cons, List.not_mem_nil, or_false] at hy
    rcases hy with rfl | rfl
    . exact hlo
    . exact ⟨l0, l1⟩
 have hg : good p (row ++ [other p row l, l]) = true := Zcs.mpr ⟨hls, lw⟩
 generalize row ++ [other p row l, l] = ys at hlab hyl hy hg
 have hpick : ∃ w : Int, 1 <= w /\ w <= 1000000000000 /\ ((ixN' 4 (c3 % 4)).bind fun j => [D.sc (.int 10), D.sc (.int 100), D.sc (.int 1000000), D.sc (.int 1000000000000)][j]?) = some (.sc (.int w)) := by
  rcases (show c3 % 4 = 0 \/ c3 % 4 = 1 \/ c3 % 4 = 2 \/ c3 % 4 = 3 by omega) with q | q | q | q <;> rw [q]
  . exact ⟨10, by decide, by decide, rfl⟩
  . exact ⟨100, by decide, by decide, rfl⟩
  . exact ⟨1000000, by decide, by decide, rfl⟩
  . exact ⟨1000000000000, by decide, by decide, rfl⟩
 obtain ⟨wd, wd1, wd2, hix⟩ := hpick
 have eu : ∃ u : Int, 8 + c5 % wd = u /\ 1 <= u /\ u <= 2000000000000 := by
  have q0 := Int.emod_nonneg c5 (show wd ≠ 0 by omega)
  have q1 := Int.emod_lt_of_pos c5 (show 0 < wd by omega)
  exact ⟨_, rfl, by omega, by omega⟩
 obtain ⟨u, eu, u1, u2⟩ := eu
 have mw : binW .Mod (.sc (.int c5)) (.sc (.int wd)) = some (.sc (.int (c5 % wd))) := Z2 _ _ (by omega)
 have hR := fun c => ZjL C n t p st sp ps ys (c4 % 100000000000000000) u c hn h1 h2 h3 h4 h5 h6 h7 hp hpi hnd hpl hpr p1 p3 p2 (by omega) (by omega) hy hg u1 u2
 have hcut := Zb6 ns (some 54) (some 62)
 have hcl : (cutI ns (some 54) (some 62)).length <= 63 := by
  unfold cutI
  rw [List.length_take, List.length_drop]
  omega
 obtain ⟨y1, hlp⟩ := ZmL C (fun j => decide (j < 1) || walked [.bin .Add (.lst [.call Zp [.v 0, .k (.int 53)]]) (.sl (.v 0) (.k (.int 54)) (.k (.int 62)))] j) (CK C).fuel rfl ns [] [I n, I t, Ls false st, Ls false sp, .node .lst false (dL false ps), Dk false ps] p u c4 ys n4 hR (I n) (I t) (Ls false st) (Ls false sp) (I c3) (c53 :: cutI ns (some 54) (some 62)) .hole
 have cat : binW .Add (.nd .lst [D.sc (.int c53)]) (.nd .lst (dI (cutI ns (some 54) (some 62)))) = some (.node .lst true (dI (c53 :: cutI ns (some 54) (some 62)))) := ZeU [D.sc (.int c53)] _ (by rw [List.length_append, Zo, szl]; show 1 + _ <= _; omega)
 generalize cutI ns (some 54) (some 62) = cs at hcut hlp cat
 generalize c53 :: cs = cs' at hlp cat
 simp only [walked, Bool.or_false] at hlp
 have told := ZgW C true n t st sp ps (by omega)
 have hll := ZcH true ps
 have nw : newF C (Zak C) [.late 1, .late 2, .tmp (Ls true st), .tmp (Ls true sp)] [scr ns, I n, I t, Ls false st, Ls false sp, .hole, .hole, .hole, .hole, .hole, .hole] = .ok (Fd C true n t st sp ps, [scr ns, I n, I t, Ls false st, Ls false sp, .hole, .hole, .hole, .hole, .hole, .hole]) := by
  unfold newF
  rw [Zml (show Zbq (Zak C).lend [.late 1, .late 2, .tmp (Ls true st), .tmp (Ls true sp)] [scr ns, I n, I t, Ls false st, Ls false sp, .hole, .hole, .hole, .hole, .hole, .hole] = .ok ([I n, I t, Ls true st, Ls true sp], [scr ns, I n, I t, Ls false st, Ls false sp, .hole, .hole, .hole, .hole, .hole, .hole]) from rfl), hini]
  rfl
 have ck : ∀ (ds : List D) (x0 x1 x2 x3 x4 x6 x7 x8 x9 x10 : D), chkI C "patterns" (.late 5) [x0, x1, x2, x3, x4, .node (.ins C FS) true ds, x6, x7, x8, x9, x10] = .ok ((), [x0, x1, x2, x3, x4, .node (.ins C FS) true ds, x6, x7, x8, x9, x10]) := fun ds x0 x1 x2 x3 x4 x6 x7 x8 x9 x10 => if_pos ⟨rfl, by decide⟩
 have l3 : (ZT C).lend = true := rfl
 have g1 : Zp.lend = true := rfl
 have g2 : ZaK.lend = true := rfl
 have g3 : ZaE.lend = true := rfl
 have g4 : Zby.lend = true := rfl
 have w6 : binW .Pow (.sc (.int 10)) (.sc (.int 6)) = some (.sc (.int 1000000)) := Zgm 10 6 (by decide)
 have w12 : binW .Pow (.sc (.int 10)) (.sc (.int 12)) = some (.sc (.int 1000000000000)) := Zgm 10 12 (by decide)
 have m4 : ∀ v : Int, binW .Mod (.sc (.int v)) (.sc (.int 4)) = some (.sc (.int (v % 4))) := fun v => Z2 _ _ (by decide)
 have mp : ∀ v : Int, binW .Mod (.sc (.int v)) (.sc (.int (p - 1))) = some (.sc (.int (v % (p - 1)))) := fun v => Z2 _ _ (by omega)
 have d4 : ∀ v : Int, binW .FloorDiv (.sc (.int v)) (.sc (.int 4)) = some (.sc (.int (v / 4))) := fun v => ZbV _ _ (by decide)
 have nl4 : ∀ a b c d : D, newL [a, b, c, d] = some (.node .lst true [a, b, c, d]) := fun a b c d => ZR _ (by rw [szl]; simp)
 have nl1 : ∀ a : D, newL [a] = some (.node .lst true [a]) := fun a => ZR _ (by rw [szl]; simp)
 show ∃ ds', Zj (CK C) 1 11 (Zfe C) [scr ns] = .ok (.sc (.bl true), ds')
 rw [runA (show [scr ns].length = 1 from rfl)]
 unfold Zfe
 simp only [List.replicate, Nat.reduceSub]
 simp only [scr] at n0 n1 n2 n3 n5 n53 hm hlp nw ⊢
 (simp_all [g1, g2, g3, g4, l3, n0, n1, n2, n3, n5, n53, hdraw, nw, ck, told, hll, hpp, w6, w12, m4, mp, d4, nl4, nl1, hix, mw, eu, hit1, hm, hlab, hcut, cat, hlp, Zi, ZF]) <;> exact ⟨_, rfl⟩
end My
open PySem PySem.W PyProof.Rows
set_option maxRecDepth 100000 in
set_option maxHeartbeats 0 in
theorem PySem.Challenge.cw_barlabel_k44_whole_printed_spoilt_mended_holds : PySem.Challenge.rw_barlabel_k44_whole_printed_spoilt_mended.Holds := by
 w_on; o_law; k_head; (case hw => w_witness2)
 k_fill
 refine T.Zkx (l := PySem.Challenge.rw_barlabel_k44_whole_printed_spoilt_mended) (k := 11) (x := "_law_script") (R := fun K => (My.Zgq (My.ZeW K)).run) rfl rfl ⟨rfl, by decide, by decide⟩ (fun w h Y => PySem.W.kIn_of Y) ?F (fun K ns hl => My.ZkR (My.ZeW K) ns hl)
 case F =>
  intro w mg fa h KX G hmg
  refine' My.ZoS KX G hmg ?_ ?_ ?_ ?_ ?_ ?_ ?_ ?_ ?_ ?_ ?_ ?_ ?_ ?_ ?_ ?_ ?_ ?_ ?_ ?_ ?_ ?_ ?_ ?_ ?_ ?_ ?_ ?_ ?_ ?_ ?_ ?_ ?_ ?_ ?_ ?_ ?_ ?_ ?_ ?_ ?_ ?_ ?_ ?_ ?_ ?_ ?_ ?_ ?_ ?_ ?_ ?_ ?_ ?_ ?_ ?_ ?_ ?_ ?_ ?_ ?_ ?_ ?_ ?_ ?_ ?_ ?_ ?_
  any_goals first | (refine' T.Zr2 ?a ?b ?c ?d; (case a => k_is); (case b => k_is); (case c => k_is); (case d => k_is)) | (refine' T.Zr3 ?a ?b ?c ?d ?e; (case a => k_is); (case b => k_is); (case c => k_is); (case d => k_is); (case e => k_is)) | (refine' T.CI.mk ?a ?b ?c ?d ?e ?f ?g; (case a => k_is); (case b => k_is); (case c => k_is); (case d => k_is); (case e => k_is); (case f => k_is); (case g => k_is)) | (unfold T.NI; k_is) | k_is | rfl | exact Nat.le_of_ble_eq_true rfl
