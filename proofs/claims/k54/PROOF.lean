import PyProof.Rows.All
import Wide.All
import OpenK.AllK
import Wide.FinOn
import Lean
import PyProof.EqAt
import PyProof.EqKinds
import PyProof.TupleCall
import PySem.Challenge.RW_barlabel_k54_whole_labels_by_hand
set_option Elab.async false
set_option compiler.extract_closed false
set_option genSizeOf false
set_option linter.all false
set_option maxRecDepth 100000
set_option maxHeartbeats 4100000
open PySem.W (instObj methodObj lookIn plainGet hasDictIn findIn handedIn plainGet_of isFn plainOver takerIn looks_clsIn makesIn typeIn emptyDict looks_findIn keepIn specialIn takesIn mroIn kitOne kia_one callWith_K methodCall_KW cellsFrom_some fnOf codeIn tailIn Looks clsIn findObj looks_mroIn nsIn notCls nsOkIn mg_of lks_uniq)
open Nat (lt_of_lt_of_le lt_irrefl ne_of_lt le_trans le_of_lt ne_of_gt le_refl zero_le le_succ le_add_right reduceSub)
open List (mem_cons_self mem_cons_of_mem getElem?_set_self getElem?_set_ne mem_append_right size_toArray length_cons map_cons length_map append_nil of_mem_zip replicate length_take getElem?_map length_replicate length_drop length_set any_cons replicate_succ flatten_cons foldl length_singleton nil_append find?_cons length_nil map_nil lookup_cons cons_append getElem_mem any_eq_true mem_cons not_mem_nil drop_of_length_le zip_cons_cons length_zip drop_eq_getElem_cons take_succ_cons drop_zero map_map getElem?_cons_succ map_append getD_eq_getElem?_getD mem_filter sum_append sum_cons length_dropLast any_map dropLast_sublist take_zero)
open PySem.W.Looks (here andThen)
open Int (toNat_natCast sub_emod emod_nonneg emod_lt_of_pos add_mul one_mul mul_sub)
open Bool (and_eq_true not_eq_true' or_eq_true)
open Option (isSome_some isSome_map bind_some getD_some map_eq_some_iff bind_eq_some_iff toList_none)
open PyProof.Rows (boot_enumerate)
open PySem.F (plainAttrs_list)
abbrev Pn:=List (PySem.Addr×PySem.Obj)
abbrev VS:=PySem.Value->PySem.Shared->Prop
abbrev SO:=PySem.Str->Option PySem.Value
abbrev Fg:=PySem.W.Frag
theorem Q90(h:0=0:=by rfl):True:=trivial
def Q9:=Q90._auto_1
theorem Q80(h:0=0:=by kernel_rfl):True:=trivial
def Q8:=Q80._auto_1
theorem Q70(h:0=0:=by decide):True:=trivial
def Q7:=Q70._auto_1
namespace PySem.W.Fast
local macro_rules|`(command|#print $s:str)=>do
 let mut a:=#[]
 for w in s.getString.splitOn " " do
  let i:=Lean.mkIdent (.mkSimple s!"tw{w.foldl (fun n c=>n*43+c.toNat-48) 0}")
  a:=a.push (←`(command|def $i:ident:=trivial))
 return Lean.mkNullNode a
#print"615GXIY8UR81 =G3IHN<6PHM1 523EJWOOXQ5? @BS8K?J76ZIV :2TP8T4BMC=N >2ZR44A9NESE <YRX0DVZQBGO 8130W1H50EV2 8VNDRUOMQ>XS ;<;WVJZ:YG5E <;B6=IQ>FJCU ==80J5EI;WN@ ?:64YO48ZTN@ ATHANSDFBZ:> 4U3UM;O6E3X? ?NS;QQZ19G4 ;VV?G07XAPHN 5MR=P9P6>@11 ;R2RWVNF7?2S >L94V:4IF;>R :2BYN>?@@BC8 5CW=BX9XBHSE ?5<7HF823BLX 14E1DG;DVICP 5S;G9F6?L?G7 :W;XELB0=PKC @9>D>UJ2DB8E 9UFLFRUX;L=F ZGMK7@<>M8I 2E>C@9EET9VH ;WQKL?6PQ4PD 5?QM@BKA3P3Q BHXOH:K1PA2V <URLU6ZSC0UZ <Z88EXFR5=O2 2<RBD;U>KW2I 1CQ69V:WEI C75PFA7Q;0VE <HZW=IGK?>=@ =BGVGE<53PLP 21SED987BFR0 9VYFMXJOJ<42 D5Z>KCB@0YZ >2@X<K51XRSL =9U7U4C5NJYD 4TX;HRFHPFI1 C55WV=74D<4M <<5?C3PCBCYK 69HJ5>NT;P=U ;T3ZQ@TSR1G4 RX6XI=9>UJI 2R13BS6>UISC :@28GCR?O45C @X715BU=6?0F ?@=>>HVMWKOT 3MCC;@@E6GY< C22323:E??D ;PD=SP7MZ<92 <6IS3RY4LIKX AAU5=R8NO7LO C>@B:4VKY0<E 77MDNX<GCJQB =I:7YGE@D0=D BJ6?PG7QK0DB ?0>M5RTLGJ6A ?:AOD=;9GS23 6RZI:77=V6E< 9TLO3AR7=3HQ @T1Y:7@CY4SP 555R;7?0NFD< B4WSN;TG;YVN 9=2=VF?X1ZEZ <1QWSBZCV@G5 5DF8<PSK=9OE 7WTO8S;A=VWY @;T8DB>JCAI: ;CH3=?GJ0TMF 11KR3W9HA89J 60H3AZT0>F50 B>EJ?:N<HB37 =CIWAKXESS2A <S1YC;VDB<Y1 A0BX0M6RPEKY B4R=OJX>NA04 4FXJLML8B?<9 BF182QVAO0XF"
end PySem.W.Fast
namespace L2
open PySem PySem.Spec PyProof.Rows
variable{H H':Hp}{X:Cx}{s:Shared}{pins:Pn}{pos:Pos}{t':Nat}{tg:Expr}{us:List Value}{kindOf:Str->Option NameKind}{h h' base:Heap}{kw:List (Str×Value)}{mg mA:SO}{g':Array GenState}{ch:List Addr}{N ps:List Str}{name qual:Str}{scope:Scope}
abbrev Key:=Sum Int Str
noncomputable def ZdY:Key->Value->Bool
 | .inl k,v=>Value.isInt k v
 | .inr x,v=>Value.isStrOf x v
noncomputable def keyH(w:World):Key->Int
 | .inl k=>hashInt k
 | .inr x=>hashStr w x
theorem Zah:∀{k:Key}{v:Value},ZdY k v=true->(∃ i t,k=Sum.inl i/\v=Value.int i t)\/(∃ x t,k=Sum.inr x/\v=Value.str x t)
 | .inl i,v,h=>by
  obtain ⟨t,e⟩:=Value.isInt_shape (k:=i) (v:=v) h
  exact .inl ⟨i,t,rfl,e⟩
 | .inr x,v,h=>by
  obtain ⟨t,e⟩:=Value.isStrOf_shape (x:=x) (v:=v) h
  exact .inr ⟨x,t,rfl,e⟩
def ZiH(i:Int)(t:Tok):ZdY (.inl i) (.int i t)=true:=by simp [ZdY,Value.isInt]
def ZiI(x:Str)(t:Tok):ZdY (.inr x) (.str x t)=true:=by simp [ZdY,Value.isStrOf]
def Zn8(a b:Int):decide ((Sum.inl a:Key)=Sum.inl b)=(a == b):=by
 by_cases e:a=b
 . subst e;simp
 . have h:¬ (Sum.inl a:Key)=Sum.inl b:=fun q=>e (Sum.inl.inj q)
   rw [decide_eq_false h]
   exact (beq_eq_false_iff_ne.mpr e).symm
def Zn9(a b:Str):decide ((Sum.inr a:Key)=Sum.inr b)=decide (a=b):=by
 by_cases e:a=b
 . subst e;simp
 . have h:¬ (Sum.inr a:Key)=Sum.inr b:=fun q=>e (Sum.inr.inj q)
   rw [decide_eq_false h,decide_eq_false e]
def ZnA(a:Int)(b:Str):decide ((Sum.inl a:Key)=Sum.inr b)=false:=decide_eq_false (fun q=>nomatch q)
def ZnB(a:Str)(b:Int):decide ((Sum.inr a:Key)=Sum.inl b)=false:=decide_eq_false (fun q=>nomatch q)
noncomputable def ZT(prog:Program)(w:World):PySem.KeyKind prog w Key where
 is:=ZdY
 hash:=keyH w
 inj:=fun v a b ha hb=>by
  rcases Zah ha with ⟨i,t,rfl,rfl⟩|⟨x,t,rfl,rfl⟩
  . rcases Zah hb with ⟨j,u,rfl,e⟩|⟨y,u,rfl,e⟩
    . injection e with e1 _;rw [e1]
    . exact nomatch e
  . rcases Zah hb with ⟨j,u,rfl,e⟩|⟨y,u,rfl,e⟩
    . exact nomatch e
    . injection e with e1 _;rw [e1]
 byValue:=fun k v h=>by
  rcases Zah h with ⟨i,t,rfl,rfl⟩|⟨x,t,rfl,rfl⟩<;>rfl
 pyHash:=fun hv h=>by
  rcases Zah hv with ⟨i,t,rfl,rfl⟩|⟨x,t,rfl,rfl⟩
  . exact wpAny_pyHash_int h
  . exact wpAny_pyHash_str h
 eqBool:=fun hu hv h=>by
  rcases Zah hu with ⟨i,t,rfl,rfl⟩|⟨x,t,rfl,rfl⟩
  . rcases Zah hv with ⟨j,u,rfl,rfl⟩|⟨y,u,rfl,rfl⟩
    . rw [Zn8] at h;exact wpAny_eqBool_int h
    . rw [ZnA] at h;exact SeqAt.EqAt.int_str i t y u _ _ _ _ h
  . rcases Zah hv with ⟨j,u,rfl,rfl⟩|⟨y,u,rfl,rfl⟩
    . rw [ZnB] at h;exact SeqAt.EqAt.str_int x t j u _ _ _ _ h
    . rw [Zn9] at h;exact wpAny_eqBool_str h
 «strs»:=fun k x t v h=>by
  rcases Zah h with ⟨i,u,rfl,e⟩|⟨y,u,rfl,e⟩
  . exact nomatch e
  . injection e with e1 _
    subst e1
    cases v<;>rfl
def ZgS(prog:Program)(w:World)(i:Int)(t:Tok):(ZT prog w).is (.inl i) (.int i t)=true:=ZiH i t
def ZgT(prog:Program)(w:World)(x:Str)(t:Tok):(ZT prog w).is (.inr x) (.str x t)=true:=ZiI x t
inductive V where
 | non|bl (b:Bool)|int (i:Int)|str (x:Str)|byt (b:Array UInt8)|flt (b:UInt64)|ref (a:Addr)|ty (n:String)
 deriving DecidableEq
def RelV:V->Value->Prop
 | .non,u=>u=Value.none
 | .bl b,u=>u=Value.bool b
 | .int i,u=>∃ t,u=Value.int i t
 | .str x,u=>∃ t,u=Value.str x t
 | .byt b,u=>∃ t,u=Value.bytes b t
 | .flt b,u=>∃ t,u=Value.float b t
 | .ref a,u=>u=Value.ref a
 | .ty n,u=>u=Value.type n
abbrev Vals:List V->List Value->Prop:=Paired RelV
def Vals.length(r:Vals xs us):xs.length=us.length:=Paired.length r
theorem Vals.get:∀{xs:List V}{us:List Value}{i:Nat}{x:V},Vals xs us->xs[i]?=some x->∃ u,us[i]?=some u/\RelV x u
 | _,_,_,_,.nil,e=>by simp at e
 | _,_,0,_,.cons r _,e=>by simp at e;subst e;exact ⟨_,rfl,r⟩
 | _,_,i+1,x,.cons _ t,e=>by
  obtain ⟨u,h1,h2⟩:=Vals.get (i:=i) (x:=x) t (by simpa using e)
  exact ⟨u,by simpa using h1,h2⟩
theorem Vals.set(r:RelV x u):∀{xs:List V}{us:List Value}(i:Nat),Vals xs us->Vals (xs.set i x) (us.set i u)
 | _,_,_,.nil=>.nil
 | _,_,0,.cons _ t=>.cons r t
 | _,_,i+1,.cons q t=>.cons q (Vals.set r i t)
theorem Vals.append:∀{xs ys:List V}{us ws:List Value},Vals xs us->Vals ys ws->Vals (xs++ys) (us++ws)
 | _,_,_,_,.nil,s=>s
 | _,_,_,_,.cons r t,s=>.cons r (Vals.append t s)
termination_by structural a=>a
theorem Vals.take:∀{xs:List V}{us:List Value}(n:Nat),Vals xs us->Vals (xs.take n) (us.take n)
 | _,_,0,_=>.nil
 | _,_,_+1,.nil=>.nil
 | _,_,n+1,.cons r t=>.cons r (Vals.take n t)
theorem Vals.drop:∀{xs:List V}{us:List Value}(n:Nat),Vals xs us->Vals (xs.drop n) (us.drop n)
 | _,_,0,r=>r
 | _,_,_+1,.nil=>.nil
 | _,_,n+1,.cons _ t=>Vals.drop n t
def RelO:Option V->Option Value->Prop
 | some v,some u=>RelV v u
 | none,none=>True
 | _,_=>False
def KV{κ:Type}:List (κ×V)->List (κ×Value)->Prop:=Paired fun(p:κ×V)(q:κ×Value)=>p.1=q.1/\RelV p.2 q.2
noncomputable def kV:Key->V
 | .inl i=>.int i
 | .inr x=>.str x
inductive HO where
 | lst (xs:List V)
 | tup (xs:List V)
 | dK (kvs:List (Key×V))|dT (kvs:List (List Key×V))
 | set (S:Int->Bool) (n:Nat)
 | ins (C dx:Addr) (fs:List (Str×V))
 | own (x:Addr)
 | xd (fs:List (Str×V))
 | met (f x:Addr)
 | rng (lo hi:Int)
 | frz (o:Obj) (u:HO)
 | tbl (ps:Array Value)
 | ext (φ:Heap->Prop)
 | exc (C:Addr) (dx:Option Addr) (fr:Bool) (fs:List (Str×V))
noncomputable abbrev Hp:=Addr->Option HO
noncomputable def upd(H:Hp)(a:Addr)(o:HO):Hp:=fun b=>if b=a then some o else H b
def Zj:upd H a o a=some o:=by unfold upd;rw [if_pos rfl]
def Zn(h:b≠a):upd H a o b=H b:=by unfold upd;rw [if_neg h]
def ZpR{a b:Addr}{o u:HO}(h:H a=some o)(h':H b=some u)(d:o≠u):a≠b:=by
 intro e;subst e;rw [h] at h';exact d (Option.some.inj h')
def Zai{a b:Addr}{o:HO}(h:H a=some o)(h':H b=none):a≠b:=by
 intro e;subst e;rw [h] at h';cases h'
section
variable(P:Program)(w:World)
def ZE(H:Hp)(h:Heap)(a:Addr):HO->Prop
 | .lst xs=>xs.length<=sizeLine/\∃(its:List Value)(n:Nat),Vals xs its/\h.get? a=some { cls:=.type "list",data:=.seq its.toArray n }
 | .tup xs=>xs.length<=sizeLine/\∃ its:List Value,Vals xs its/\IsTup h a its.toArray
 | .dK kvs=>kvs.length<=sizeLine/\(a == sysModules)=false/\∃ vs,KV kvs vs/\h.DictOf (ZT P w) a vs
 | .dT kvs=>kvs.length<=sizeLine/\(a == sysModules)=false/\∃ xs:List (List Key×Addr×Value),
  Paired (fun(p:List Key×V)(q:List Key×Addr×Value)=>p.1=q.1/\H q.2.1=some (.tup (p.1.map kV))/\RelV p.2 q.2.2) kvs xs/\
  ∃ o es ep,h.get? a=some o/\o.ExactDict/\o.data=.dict es ep/\es.toList=xs.map (entryOfKey (tupleKind (ZT P w)))/\(xs.map (·.1)).Nodup
 | .set S n=>h.SetOf (intKind P w) a S n
 | .ins C dx fs=>H dx=some (.own a)/\fs.length<=1000/\dx≠a/\h.get? a=some (instObj C dx)/\
  ∃ mA,h.Ns1 dx mA/\(∀ f,RelO (fs.lookup f) (mA f))/\PySem.Within mA (fs.map (·.1))
 | .own _=>∃ o,h.get? a=some o
 | .xd fs=>∃ mA,h.Ns1 a mA/\∀ f,RelO (fs.lookup f) (mA f)
 | .rng lo hi=>∃ t u v,h.get? a=some { cls:=.type "range",data:=.fields #[.int lo t,.int hi u,.int 1 v] }
 | .frz o u=>h.get? a=some o/\ZE H h a u
 | .tbl ps=>h.get? a=some { cls:=.none,data:=.fields ps }
 | .met f x=>h.get? a=some (methodObj (.ref f) (.ref x))
 | .exc C dx fr fs=>fs.length<=1000/\(∃ o vs,h.get? a=some o/\o.cls=.ref C/\o.dict=dx/\o.data=.fields vs/\vs.size=6/\(fr=true->vs[1]?=some .none))/\
  match dx with
  | none=>fs=[]
  | some d=>H d=some (.own a)/\d≠a/\∃ mA,h.Ns1 d mA/\(∀ f,RelO (fs.lookup f) (mA f))/\PySem.Within mA (fs.map (·.1))
 | .ext φ=>φ h/\(∃ o,h.get? a=some o)/\∀ h1 h2:Heap,φ h1->(∀ o,h1.get? a=some o->h2.get? a=some o)->φ h2
def HOk(H:Hp)(h:Heap):Prop:=∀ a o,H a=some o->ZE P w H h a o
end
section
variable{P:Program}{w:World}{a:Addr}{o:HO}
theorem ZE.lt(x:ZE P w H h a o):a < h.objs.size:=by
 cases o with
 | lst xs=>obtain ⟨_,_,_,_,e⟩:=x;exact Heap.lt_size e
 | tup xs=>obtain ⟨_,_,_,p⟩:=x;exact p.lt
 | dK kvs=>obtain ⟨_,_,_,_,o,_,_,e,_⟩:=x;exact Heap.lt_size e
 | dT kvs=>obtain ⟨_,_,_,_,o,_,_,e,_⟩:=x;exact Heap.lt_size e
 | set S n=>obtain ⟨o,_,_,_,e,_⟩:=x;exact Heap.lt_size e
 | ins C dx fs=>obtain ⟨_,_,_,e,_⟩:=x;exact Heap.lt_size e
 | own y=>obtain ⟨_,e⟩:=x;exact Heap.lt_size e
 | xd fs=>obtain ⟨_,⟨_,_,_,e,_⟩,_⟩:=x;exact Heap.lt_size e
 | rng lo hi=>obtain ⟨_,_,_,e⟩:=x;exact Heap.lt_size e
 | frz ob u=>obtain ⟨e,_⟩:=x;exact Heap.lt_size e
 | tbl ps=>exact Heap.lt_size (show h.get? a=some _ from x)
 | met f y=>exact Heap.lt_size (show h.get? a=some _ from x)
 | ext φ=>obtain ⟨_,⟨_,e⟩,_⟩:=x;exact Heap.lt_size e
 | exc C dx fr fs=>obtain ⟨_,⟨_,_,e,_⟩,_⟩:=x;exact Heap.lt_size e
theorem Paired.mapP:∀{l₁:List α}{l₂:List β},Paired F l₁ l₂->(∀ a b,F a b->G a b)->Paired G l₁ l₂
 | _,_,.nil,_=>.nil
 | _,_,.cons r t,f=>.cons (f _ _ r) (Paired.mapP t f)
termination_by structural a=>a
theorem ZE.stay(x:ZE P w H h a o)(k:∀ b u,(b=a\/H b=some (.own a))->h.get? b=some u->h'.get? b=some u)
 (ho:∀ b,H b=some (.own a)->H' b=some (.own a)) (ht:∀ b xs,H b=some (.tup xs)->H' b=some (.tup xs)):ZE P w H' h' a o:=by
 induction o with
 | lst xs=>obtain ⟨z,its,n,r,e⟩:=x;exact ⟨z,its,n,r,k _ _ (.inl rfl) e⟩
 | tup xs=>obtain ⟨z,its,r,ob,e,c⟩:=x;exact ⟨z,its,r,ob,k _ _ (.inl rfl) e,c⟩
 | dK kvs=>obtain ⟨z,y,vs,r,ob,es,ep,e,c⟩:=x;exact ⟨z,y,vs,r,ob,es,ep,k _ _ (.inl rfl) e,c⟩
 | dT kvs=>
  obtain ⟨z,y,xs,r,ob,es,ep,e,c⟩:=x
  exact ⟨z,y,xs,Paired.mapP r fun p q z=>⟨z.1,ht _ _ z.2.1,z.2.2⟩,ob,es,ep,k _ _ (.inl rfl) e,c⟩
 | set S n=>obtain ⟨ob,es,ep,t,e,c⟩:=x;exact ⟨ob,es,ep,t,k _ _ (.inl rfl) e,c⟩
 | ins C dx fs=>
  obtain ⟨d,z,ne,e,mA,⟨od,es,ep,e2,c⟩,r⟩:=x
  exact ⟨ho _ d,z,ne,k _ _ (.inl rfl) e,mA,⟨od,es,ep,k _ _ (.inr d) e2,c⟩,r⟩
 | own y=>obtain ⟨ob,e⟩:=x;exact ⟨ob,k _ _ (.inl rfl) e⟩
 | xd fs=>obtain ⟨mA,⟨od,es,ep,e,c⟩,r⟩:=x;exact ⟨mA,⟨od,es,ep,k _ _ (.inl rfl) e,c⟩,r⟩
 | rng lo hi=>obtain ⟨t,u,v,e⟩:=x;exact ⟨t,u,v,k _ _ (.inl rfl) e⟩
 | frz ob u ih=>obtain ⟨e,q⟩:=x;exact ⟨k _ _ (.inl rfl) e,ih q⟩
 | tbl ps=>
  have e:h.get? a=some { cls:=.none,data:=.fields ps }:=x
  show h'.get? a=some { cls:=.none,data:=.fields ps }
  exact k a _ (.inl rfl) e
 | met f y=>
  have e:h.get? a=some (methodObj (.ref f) (.ref y)):=x
  show h'.get? a=some (methodObj (.ref f) (.ref y))
  exact k a _ (.inl rfl) e
 | ext φ=>obtain ⟨p,⟨o,e⟩,st⟩:=x;exact ⟨st _ _ p fun o q=>k _ _ (.inl rfl) q,⟨o,k _ _ (.inl rfl) e⟩,st⟩
 | exc C dx fr fs=>
  obtain ⟨z,⟨o,vs,e,q⟩,r⟩:=x
  refine ⟨z,⟨o,vs,k _ _ (.inl rfl) e,q⟩,?_⟩
  cases dx with
  | none=>exact r
  | some d=>
   obtain ⟨r1,r2,mA,⟨od,es,ep,e2,c⟩,r3⟩:=r
   exact ⟨ho _ r1,r2,mA,⟨od,es,ep,k _ _ (.inr r1) e2,c⟩,r3⟩
def HOk.lt(x:HOk P w H h)(e:H a=some o):a < h.objs.size:=(x a o e).lt
theorem HOk.fresh(x:HOk P w H h)(e:h.objs.size<=a):H a=none:=by
 cases q:H a with
 | none=>rfl
 | some u=>exact absurd (lt_of_lt_of_le (x.lt q) e) (lt_irrefl _)
def HOk.kept(x:HOk P w H h)(k:∀ b u,h.get? b=some u->h'.get? b=some u):HOk P w H h':=fun a o e=>
 (x a o e).stay (fun b u _ q=>k b u q) (fun _ q=>q) fun _ _ q=>q
def HOk.laid(x:HOk P w H h)(k:∀ b u,h.get? b=some u->h'.get? b=some u)(hp:h.objs.size<=a)(new:ZE P w (upd H a o) h' a o):HOk P w (upd H a o) h':=fun b u e=>by
 have hn:=x.fresh hp
 by_cases hb:b=a
 . subst hb;rw [Zj] at e;cases e;exact new
 . rw [Zn hb] at e
   exact (x b u e).stay (fun c v _ q=>k c v q) (fun c q=>by rw [Zn (Zai q hn)];exact q) fun c xs q=>by rw [Zn (Zai q hn)];exact q
end
def Rd(H:Hp)(a:Addr)(u:HO):Prop:=H a=some u\/∃ o,H a=some (.frz o u)
def Rd.ok(r:Rd H a u)(x:HOk P w H h):ZE P w H h a u:=by
 rcases r with r|⟨o,r⟩
 . exact x a u r
 . obtain ⟨_,q⟩:=x a _ r
   exact q
def Mut:Option HO->Prop
 | some (.lst _)=>True
 | some (.dK _)=>True
 | some (.dT _)=>True
 | some (.set _ _)=>True
 | some (.ins _ _ _)=>True
 | some (.ext _)=>True
 | some (.exc _ _ _ _)=>True
 | _=>False
section
def HOk.write(ok:HOk P w H h)(mu:Mut (H x))(he:e=x\/H e=some (.own x))(k:∀ b u,b≠e->h.get? b=some u->h'.get? b=some u)(heo:∃ u,h'.get? e=some u)
 (new:ZE P w (upd H x o') h' x o'):HOk P w (upd H x o') h':=fun b u q=>by
 have nown:∀ c y,H c=some (.own y)->c≠x:=fun c y r z=>by subst z;rw [r] at mu;exact mu
 have ntup:∀ c xs,H c=some (.tup xs)->c≠x:=fun c xs r z=>by subst z;rw [r] at mu;exact mu
 by_cases hb:b=x
 . subst hb;rw [Zj] at q;cases q;exact new
 . rw [Zn hb] at q
   by_cases hbe:b=e
   . have q':H b=some (.own x):=by
      rcases he with z|z
      . exact absurd (hbe.trans z) hb
      . rw [hbe];exact z
     rw [q] at q';cases q'
     obtain ⟨v,hv⟩:=heo
     exact ⟨v,by rw [hbe];exact hv⟩
   . refine (ok b u q).stay (fun c v hc r=>k c v ?_ r) (fun c r=>by rw [Zn (nown c b r)];exact r) fun c xs r=>by rw [Zn (ntup c xs r)];exact r
     rcases hc with rfl|hc
     . exact hbe
     . rintro rfl
       rcases he with z|z
       . exact nown c b hc z
       . rw [hc] at z;cases z;exact hb rfl
end
structure Un(fs ex:List Addr)(H H':Hp)(h h':Heap):Prop where
 keep:∀ b o,h.get? b=some o->H b=none->b∉fs->b∉ex->h'.get? b=some o
 slot:∀ b o,h.get? b=some o->H b=none->b∈fs->b∉ex->∃ sl,h'.get? b=some { o with slots:=sl }
 free:∀ b o,h.get? b=some o->H b=none->b∉ex->H' b=none
 there:∀ b o,h.get? b=some o->b∉ex->∃ o',h'.get? b=some o'
 tups:∀ b xs,H b=some (.tup xs)->H' b=some (.tup xs)
 frzs:∀ b o u,H b=some (.frz o u)->H' b=some (.frz o u)
 tbls:∀ b ps,H b=some (.tbl ps)->∃ more,H' b=some (.tbl (ps++more))
section
variable{fs fs' ex ex':List Addr}{H1 H2:Hp}{h1 h2:Heap}{a x e:Addr}{o:HO}
def Un.any(u:Un fs ex H H1 h h1)(q:h.get? b=some ob)(n:H b=none)(hx:b∉ex):∃ sl,h1.get? b=some { ob with slots:=sl }:=by
 by_cases hb:b∈fs
 . exact u.slot b ob q n hb hx
 . exact ⟨ob.slots,u.keep b ob q n hb hx⟩
def Un.kept(k:∀ b u,h.get? b=some u->h'.get? b=some u):Un fs ex H H h h':=
 ⟨fun b ob q _ _ _=>k b ob q,fun b ob q _ _ _=>⟨ob.slots,k b ob q⟩,fun _ _ _ n _=>n,fun b ob q _=>⟨ob,k b ob q⟩,fun _ _ q=>q,fun _ _ _ q=>q,fun _ ps q=>⟨#[],by rw [q];simp⟩⟩
def Un.refl:Un fs ex H H h h:=Un.kept fun _ _ q=>q
def Un.laid(k:∀ b u,h.get? b=some u->h'.get? b=some u)(hp:h.objs.size<=a)(hn:H a=none):Un fs ex H (upd H a o) h h' where
 keep:=fun b u q _ _ _=>k b u q
 slot:=fun b u q _ _ _=>⟨u.slots,k b u q⟩
 free:=fun b u q n _=>by rw [Zn (ne_of_lt (lt_of_lt_of_le (Heap.lt_size q) hp))];exact n
 there:=fun b u q _=>⟨u,k b u q⟩
 tups:=fun b xs q=>by rw [Zn (Zai q hn)];exact q
 frzs:=fun b u xs q=>by rw [Zn (Zai q hn)];exact q
 tbls:=fun b ps q=>⟨#[],by rw [Zn (Zai q hn),q];simp⟩
def Un.write(mu:Mut (H x))(he:e=x\/H e=some (.own x))(k:∀ b u,b≠e->h.get? b=some u->h'.get? b=some u)(heo:∃ u,h'.get? e=some u):Un fs ex H (upd H x o) h h':=by
 have hx:∀ b,H b=none->b≠x:=fun b n z=>by subst z;rw [n] at mu;exact mu
 have hb:∀ b,H b=none->b≠e:=fun b n z=>by
  subst z
  rcases he with r|r
  . exact hx b n r
  . rw [n] at r;cases r
 have hm:∀ b u,H b=some u->¬ Mut (some u)->b≠x:=fun b u q nm z=>by subst z;rw [q] at mu;exact nm mu
 refine ⟨fun b u q n _ _=>k b u (hb b n) q,fun b u q n _ _=>⟨u.slots,k b u (hb b n) q⟩,fun b u q n _=>by rw [Zn (hx b n)];exact n,fun b u q _=>?_,
  fun b xs q=>by rw [Zn (hm b _ q fun z=>z)];exact q,fun b u xs q=>by rw [Zn (hm b _ q fun z=>z)];exact q,fun b ps q=>⟨#[],by rw [Zn (hm b _ q fun z=>z),q];simp⟩⟩
 by_cases hbe:b=e
 . subst hbe;exact heo
 . exact ⟨u,k b u hbe q⟩
end
noncomputable def trk(h:Heap)(H:Hp):List Addr:=(List.range h.objs.size).filter fun a=>(H a).isSome
noncomputable def hidT(h:Heap)(H:Hp):Heap:=PySem.W.hideAll h (trk h H)
def ZiJ(h:Heap)(H:Hp):(hidT h H).objs.size=h.objs.size:=PySem.W.hideAll_size _ _
def ZjZ(e:h.get? b=some o)(n:H b=none):(hidT h H).get? b=some o:=
 PySem.W.hideAll_get _ e fun hm=>by
  have q:(H b).isSome=true:=(List.mem_filter.mp hm).2
  rw [n] at q;simp at q
theorem ZlY(e:(hidT h H).get? b=some o):h.get? b=some o/\H b=none:=by
 have e':h.get? b=some o:=PySem.W.of_hideAll (trk h H) e
 refine ⟨e',?_⟩
 cases q:H b with
 | none=>rfl
 | some x=>
  have hm:b∈trk h H:=List.mem_filter.mpr ⟨List.mem_range.mpr (Heap.lt_size e'),by simp [q]⟩
  have z:(hidT h H).get? b=none:=PySem.W.hideAll_none (trk h H) hm
  rw [z] at e;cases e
noncomputable def ZlZ(g h:Heap)(L:Addr):List (Addr×Obj):=(List.range h.objs.size).filterMap fun a=>if a=L\/(g.get? a).isSome=true then none else (h.get? a).map fun o=>(a,o)
noncomputable def rest(g h:Heap)(L d:Addr):List (Addr×Obj):=(ZlZ g h L).filter fun p=>decide (p.1≠d)
structure Mod(K:Fg)(mg:SO)(base:Heap):Prop where
 kin:K.In base
 glob:base.Ns mainGlobals mg
 blt:∃ mb,base.Ns builtinsNs mb/\∀ x:Str,x≠"__name__"->mb x=bootBuiltins x
 nolimit:base.NoLimit
structure Cx where
 prog:Program
 w:World
 K:Fg
 mg:Str->Option Value
 base:Heap
 A:Around
 N:List Str
 s₀:Shared
 H₀:Hp
 env:Env
 outer:List Env
 stack:List Env
 ex:List Addr
 fn:Str->Bool
 calm:Bool
 pn:List (Addr×Obj)
 xe:Value->Shared->Prop
noncomputable def frs(l:List Env):List Addr:=l.filterMap (·.frame)
noncomputable abbrev Cx.fs(X:Cx):List Addr:=frs X.outer
def Vis(sc:Scope)(x:Str):Prop:=sc.names.lookup x=some .local\/sc.names.lookup x=some .cell\/sc.names.lookup x=some .free
def Loc(sc:Scope)(x:Str):Prop:=sc.names.lookup x=some .local\/sc.names.lookup x=some .cell
def Look(env:Env)(h:Heap)(m:SO)(x:Str)(u:Value):Prop:=
 (env.kindOf x=some .local/\m x=some u)\/((env.kindOf x=some .cell\/env.kindOf x=some .free)/\∃ c,env.cells.lookup x=some c/\h.IsCell c (some u))
structure Cx.Ok(X:Cx):Prop where
 mod:Mod X.K X.mg X.base
 kind:X.env.scope.kind=.function
 glob:X.env.globals=mainGlobals
 blt:X.env.builtins=builtinsNs
 above:X.s₀.heap.objs.size<=X.env.locals
 inj:∀ x y c,X.env.cells.lookup x=some c->X.env.cells.lookup y=some c->x=y
 has:∀ x,(X.env.kindOf x=some .cell\/X.env.kindOf x=some .free)->∃ c,X.env.cells.lookup x=some c
 cab:∀ x c,X.fn x=true->X.env.cells.lookup x=some c->X.s₀.heap.objs.size<=c
 hd:X.calm=true->X.A.handled=none
 frames:X.A.frames=some X.stack
 stk:X.stack=X.outer\/(X.stack=X.env::X.outer/\X.env.frame=some X.env.locals)
 exf:∀ b∈X.ex,b≠X.env.locals/\∀ x c,X.env.cells.lookup x=some c->c≠b
 bs:∀ b o,X.base.get? b=some o->X.s₀.heap.get? b=some o/\X.H₀ b=none
 bsz:X.base.objs.size<=X.s₀.heap.objs.size
 noex:∀ b o,X.base.get? b=some o->b∉X.ex
 exfs:∀ b∈X.ex,b∉X.fs
 funs:X.s₀.heap.FunFrames X.base X.outer
 frf:∀ b∈X.fs,X.H₀ b=none
structure Inv(X:Cx)(pins:Pn)(σ:List (Option V))(H:Hp)(s:Shared):Prop where
 ok:X.Ok
 os:s.os=X.s₀.os
 bare:AllBare s.gens
 base:Un X.fs X.ex X.H₀ H X.s₀.heap s.heap
 loc:∃ m,s.heap.Ns X.env.locals m/\∀(i:Nat)(x:Str)(v:V),X.N[i]?=some x->σ[i]?=some (some v)->Vis X.env.scope x->∃ u,RelV v u/\Look X.env s.heap m x u
 cell:∀ x c,X.env.cells.lookup x=some c->∃ v,s.heap.IsCell c v
 free:H X.env.locals=none
 freeC:∀ x c,X.env.cells.lookup x=some c->H c=none
 pin:∀ p∈X.pn++pins,s.heap.get? p.1=some p.2/\H p.1=none/\p.1≠X.env.locals/\p.1∉X.fs/\∀ v,p.2.data≠.cell v
 hok:HOk X.prog X.w H s.heap
 len:σ.length=X.N.length
section
variable{σ:List (Option V)}
def Cx.Ok.nofr(ok:X.Ok)(e:X.base.get? b=some o):b∉X.fs:=fun hb=>by
 have:=(ok.funs.mem hb).1
 rw [e] at this;cases this
def Inv.bs(I:Inv X pins σ H s):∀ b o,X.base.get? b=some o->s.heap.get? b=some o/\H b=none:=fun b o e=>
 ⟨I.base.keep b o (I.ok.bs b o e).1 (I.ok.bs b o e).2 (I.ok.nofr e) (I.ok.noex b o e),I.base.free b o (I.ok.bs b o e).1 (I.ok.bs b o e).2 (I.ok.noex b o e)⟩
def Inv.bk(I:Inv X pins σ H s):∀ b o,X.base.get? b=some o->s.heap.get? b=some o:=fun b o e=>(I.bs b o e).1
def Inv.mod(I:Inv X pins σ H s):Mod X.K X.mg X.base:=I.ok.mod
def Inv.kIn(I:Inv X pins σ H s):X.K.In s.heap:=I.ok.mod.kin.keeps I.bk
def Inv.lt(I:Inv X pins σ H s):X.env.locals < s.heap.objs.size:=let ⟨_,hn,_⟩:=I.loc;hn.lt
def Inv.sz(I:Inv X pins σ H s):X.s₀.heap.objs.size<=s.heap.objs.size:=le_trans I.ok.above (le_of_lt I.lt)
def Inv.nofs(I:Inv X pins σ H s)(h:s.heap.objs.size<=a):a∉X.fs:=fun hb=>by
 obtain ⟨_,o,ho,_⟩:=I.ok.funs.mem hb
 exact absurd (lt_of_lt_of_le (Heap.lt_size ho) (le_trans I.sz h)) (lt_irrefl _)
def Inv.cne(I:Inv X pins σ H s):∀ x c,X.env.cells.lookup x=some c->c≠X.env.locals:=fun x c e z=>by
 obtain ⟨v,o,ho,hd⟩:=I.cell x c e
 obtain ⟨m,⟨o',es,ep,ho',hd',_⟩,_⟩:=I.loc
 rw [z,ho'] at ho;cases ho;rw [hd'] at hd;cases hd
def Inv.funs(I:Inv X pins σ H s):s.heap.FunFrames X.base X.outer:=by
 have all:∀(l:List Env),(∀ b∈frs l,b∈X.fs)->X.s₀.heap.FunFrames X.base l->s.heap.FunFrames X.base l:=by
  intro l
  induction l with
  | nil=>intro _ _;trivial
  | cons env r ih=>
   intro hs hl
   obtain ⟨hk,⟨L,o,hf,hn,ho,hd⟩,hr⟩:=hl
   have hL:L∈X.fs:=hs L (by unfold frs;rw [List.filterMap_cons,hf];exact mem_cons_self)
   obtain ⟨sl,e⟩:=I.base.slot L o ho (I.ok.frf L hL) hL fun z=>I.ok.exfs L z hL
   exact ⟨hk,⟨L,_,hf,hn,e,hd⟩,ih (fun b hb=>hs b (by unfold frs;rw [List.filterMap_cons,hf];exact mem_cons_of_mem _ hb)) hr⟩
 exact all X.outer (fun _ hb=>hb) I.ok.funs
def Inv.stack(I:Inv X pins σ H s):s.heap.FunFrames X.base X.stack:=by
 rcases I.ok.stk with e|⟨e,hf⟩
 . rw [e];exact I.funs
 . rw [e]
   obtain ⟨m,hn,_⟩:=I.loc
   refine .cons (by rw [I.ok.kind];decide) hf hn ?_ I.funs
   exact Heap.get?_none_of_le (le_trans I.ok.bsz I.ok.above)
def Inv.stkSub(I:Inv X pins σ H s):∀ b∈frs X.stack,b∈X.env.locals::X.fs:=fun b hb=>by
 rcases I.ok.stk with e|⟨e,hf⟩
 . rw [e] at hb;exact mem_cons_of_mem _ hb
 . rw [e] at hb
   unfold frs at hb
   rw [List.filterMap_cons,hf] at hb
   exact hb
def Inv.stkFree(I:Inv X pins σ H s):∀ b∈frs X.stack,H b=none:=fun b hb=>by
 rcases List.mem_cons.mp (I.stkSub b hb) with e|hb
 . rw [e];exact I.free
 . obtain ⟨_,o,ho,_⟩:=I.ok.funs.mem hb
   exact I.base.free b o ho (I.ok.frf b hb) fun z=>I.ok.exfs b z hb
def Inv.step{d':Drawn}(I:Inv X pins σ H s)
 (hch:∀ b∈ch,(b∈X.ex\/X.s₀.heap.objs.size<=b)/\b≠X.env.locals/\(∀ x c,X.env.cells.lookup x=some c->c≠b)/\∀ p∈X.pn++pins,p.1≠b)
 (keep:∀ b o,b≠X.env.locals->b∉X.fs->b∉ch->s.heap.get? b=some o->H b=none->h'.get? b=some o)
 (slot:∀ b o,b≠X.env.locals->b∈X.fs->b∉ch->s.heap.get? b=some o->H b=none->∃ sl,h'.get? b=some { o with slots:=sl }) (free:∀ b o,b∉ch->s.heap.get? b=some o->H b=none->H' b=none)
 (there:∀ b o,b∉ch->s.heap.get? b=some o->∃ o',h'.get? b=some o')
 (tups:∀ b xs,H b=some (.tup xs)->H' b=some (.tup xs)) (frzs:∀ b o u,H b=some (.frz o u)->H' b=some (.frz o u)) (tbls:∀ b ps,H b=some (.tbl ps)->∃ more,H' b=some (.tbl (ps++more)))
 (ns:∀ m,s.heap.Ns X.env.locals m->h'.Ns X.env.locals m) (hok:HOk X.prog X.w H' h') (hg:AllBare g'):
 Inv X pins σ H' { s with heap:=h',gens:=g',drawn:=d',toks:=t' }:=by
 have neL:∀ b o,X.s₀.heap.get? b=some o->b≠X.env.locals:=fun b o e=>ne_of_lt (lt_of_lt_of_le (Heap.lt_size e) I.ok.above)
 have neC:∀ b o,X.s₀.heap.get? b=some o->b∉X.ex->b∉ch:=fun b o e hx hb=>by
  rcases (hch b hb).1 with z|z
  . exact hx z
  . exact absurd (lt_of_lt_of_le (Heap.lt_size e) z) (lt_irrefl _)
 have cellK:∀ x c,X.env.cells.lookup x=some c->∀ v,s.heap.IsCell c v->h'.IsCell c v:=fun x c e v z0=>by
  obtain ⟨o,ho,hd⟩:=z0
  have nch:c∉ch:=fun z=>(hch c z).2.2.1 x c e rfl
  by_cases hc:c∈X.fs
  . obtain ⟨sl,q⟩:=slot c o (I.cne x c e) hc nch ho (I.freeC x c e)
    exact ⟨_,q,hd⟩
  . exact ⟨o,keep c o (I.cne x c e) hc nch ho (I.freeC x c e),hd⟩
 refine ⟨I.ok,I.os,hg,⟨fun b o e n hb hx=>?_,fun b o e n hb hx=>?_,fun b o e n hx=>?_,fun b o e hx=>?_,fun b xs e=>tups b xs (I.base.tups b xs e),fun b o xs e=>frzs b o xs (I.base.frzs b o xs e),fun b ps e=>?_⟩,?_,fun x c e=>?_,?_,fun x c e=>?_,fun p hp=>?_,hok,I.len⟩
 . exact keep b o (neL b o e) hb (neC b o e hx) (I.base.keep b o e n hb hx) (I.base.free b o e n hx)
 . obtain ⟨sl,e1⟩:=I.base.slot b o e n hb hx
   obtain ⟨sl',e2⟩:=slot b _ (neL b o e) hb (neC b o e hx) e1 (I.base.free b o e n hx)
   exact ⟨sl',e2⟩
 . obtain ⟨o',e1⟩:=I.base.there b o e hx
   exact free b o' (neC b o e hx) e1 (I.base.free b o e n hx)
 . obtain ⟨o',e1⟩:=I.base.there b o e hx
   exact there b o' (neC b o e hx) e1
 . obtain ⟨m1,e1⟩:=I.base.tbls b ps e
   obtain ⟨m2,e2⟩:=tbls b _ e1
   exact ⟨m1++m2,by rw [e2,Array.append_assoc]⟩
 . obtain ⟨m,hn,hl⟩:=I.loc
   refine ⟨m,ns m hn,fun i x v e1 e2 e3=>?_⟩
   obtain ⟨u,r,l⟩:=hl i x v e1 e2 e3
   refine ⟨u,r,?_⟩
   rcases l with l|⟨k,c,e,z⟩
   . exact .inl l
   . exact .inr ⟨k,c,e,cellK x c e _ z⟩
 . obtain ⟨v,z⟩:=I.cell x c e
   exact ⟨v,cellK x c e v z⟩
 . obtain ⟨m,⟨o,_,_,ho,_⟩,_⟩:=I.loc
   exact free _ o (fun z=>(hch _ z).2.1 rfl) ho I.free
 . obtain ⟨v,o,ho,hd⟩:=I.cell x c e
   exact free c o (fun z=>(hch c z).2.2.1 x c e rfl) ho (I.freeC x c e)
 . obtain ⟨e,n,ne,nf,d⟩:=I.pin p hp
   have nch:p.1∉ch:=fun z=>(hch p.1 z).2.2.2 p hp rfl
   exact ⟨keep p.1 p.2 ne nf nch e n,free p.1 p.2 nch e n,ne,nf,d⟩
def Inv.un(I:Inv X pins σ H s)(u:Un X.fs [] H H' s.heap h')(hok:HOk X.prog X.w H' h'):Inv X pins σ H' { s with heap:=h',toks:=t' }:=by
 obtain ⟨m,⟨o,es,ep,ho,r⟩,_⟩:=id I.loc
 obtain ⟨sl,hL⟩:=u.any ho I.free (by simp)
 exact I.step (g':=s.gens) (d':=s.drawn) (ch:=[]) (fun _ z=>nomatch z) (fun b o _ hb _ e n=>u.keep b o e n hb (by simp)) (fun b o _ hb _ e n=>u.slot b o e n hb (by simp)) (fun b o _ e n=>u.free b o e n (by simp)) (fun b o _ e=>u.there b o e (by simp)) u.tups u.frzs u.tbls (fun m' hm=>by
  obtain ⟨o',es',ep',ho',r'⟩:=hm
  rw [ho] at ho';cases ho'
  exact ⟨_,es',ep',hL,r'⟩) hok I.bare
def Inv.call{d':Drawn}(I:Inv X pins σ H s)(u:Un (frs X.stack) ch H H' s.heap h')(hok:HOk X.prog X.w H' h')(hg:AllBare g')
 (hch:∀ b∈ch,(b∈X.ex\/X.s₀.heap.objs.size<=b)/\b≠X.env.locals/\(∀ x c,X.env.cells.lookup x=some c->c≠b)/\∀ p∈X.pn++pins,p.1≠b):
 Inv X pins σ H' { s with heap:=h',gens:=g',drawn:=d',toks:=t' }:=by
 obtain ⟨m,⟨o,es,ep,ho,r⟩,_⟩:=id I.loc
 obtain ⟨sl,hL⟩:=u.any ho I.free fun z=>(hch _ z).2.1 rfl
 exact I.step (ch:=ch) hch (fun b o hL hb hc e n=>u.keep b o e n (fun z=>(List.mem_cons.mp (I.stkSub b z)).elim hL hb) hc) (fun b o _ _ hc e n=>u.any e n hc) (fun b o hc e n=>u.free b o e n hc) (fun b o hc e=>u.there b o e hc) u.tups u.frzs u.tbls (fun m' hm=>by
  obtain ⟨o',es',ep',ho',r'⟩:=hm
  rw [ho] at ho';cases ho'
  exact ⟨_,es',ep',hL,r'⟩) hok hg
def Inv.turned{it:Addr}(I:Inv X pins σ H s)(k:∀ b o,b≠it->s.heap.get? b=some o->h'.get? b=some o)(hn:H it=none)(hL:it≠X.env.locals)
 (h1:it∈X.ex\/X.s₀.heap.objs.size<=it) (h2:∀ x c,X.env.cells.lookup x=some c->c≠it) (h3:∀ p∈X.pn++pins,p.1≠it):Inv X pins σ H { s with heap:=h',toks:=t' }:=by
 have nit:∀ b u,H b=some u->b≠it:=fun b u e z=>by rw [z,hn] at e;cases e
 refine I.step (g':=s.gens) (d':=s.drawn) (ch:=[it]) (fun b hb=>?_) (fun b o _ _ hc e _=>k b o (fun z=>hc (by simp [z])) e) (fun b o _ _ hc e _=>⟨o.slots,k b o (fun z=>hc (by simp [z])) e⟩) (fun _ _ _ _ n=>n)
  (fun b o hc e=>⟨o,k b o (fun z=>hc (by simp [z])) e⟩) (fun _ _ e=>e) (fun _ _ _ e=>e) (fun b ps e=>⟨#[],by rw [e];simp⟩) (fun m hm=>?_) (fun b u e=>?_) I.bare
 . have e:b=it:=by simpa using hb
   subst e
   exact ⟨h1,hL,h2,h3⟩
 . obtain ⟨o,es,ep,ho,r⟩:=hm
   exact ⟨o,es,ep,k _ o (Ne.symm hL) ho,r⟩
 . refine (I.hok b u e).stay (fun c v hc q=>k c v ?_ q) (fun _ q=>q) fun _ _ q=>q
   rcases hc with z|z
   . rw [z];exact nit b u e
   . exact nit c _ z
def Inv.tok(I:Inv X pins σ H s)(t:Nat):Inv X pins σ H { s with toks:=t }:=I.un (h':=s.heap) (t':=t) Un.refl I.hok
def Inv.kept(I:Inv X pins σ H s)(k:∀ b u,s.heap.get? b=some u->h'.get? b=some u):Inv X pins σ H { s with heap:=h',toks:=t' }:=I.un (Un.kept k) (I.hok.kept k)
def Inv.laid(I:Inv X pins σ H s)(k:∀ b u,s.heap.get? b=some u->h'.get? b=some u)(hp:s.heap.objs.size<=a)(new:ZE X.prog X.w (upd H a o) h' a o):
 Inv X pins σ (upd H a o) { s with heap:=h',toks:=t' }:=I.un (Un.laid k hp (I.hok.fresh hp)) (I.hok.laid k hp new)
def Inv.write(I:Inv X pins σ H s)(mu:Mut (H x))(he:e=x\/H e=some (.own x))(k:∀ b u,b≠e->s.heap.get? b=some u->h'.get? b=some u)(heo:∃ u,h'.get? e=some u)
 (new:ZE X.prog X.w (upd H x o) h' x o):Inv X pins σ (upd H x o) { s with heap:=h',toks:=t' }:=I.un (Un.write mu he k heo) (I.hok.write mu he k heo new)
def Inv.pins_of(I:Inv X pins σ H s)(h:∀ p∈pins',s.heap.get? p.1=some p.2/\H p.1=none/\p.1≠X.env.locals/\p.1∉X.fs/\∀ v,p.2.data≠.cell v):Inv X pins' σ H s:=
 ⟨I.ok,I.os,I.bare,I.base,I.loc,I.cell,I.free,I.freeC,fun p hp=>(List.mem_append.mp hp).elim (fun z=>I.pin p (List.mem_append_left _ z)) (h p),I.hok,I.len⟩
def Zey(hN:N.Nodup){i j:Nat}{x:Str}(a:N[i]?=some x)(b:N[j]?=some x):i=j:=by
 obtain ⟨h1,e1⟩:=List.getElem?_eq_some_iff.mp a
 obtain ⟨h2,e2⟩:=List.getElem?_eq_some_iff.mp b
 exact (List.getElem_inj hN).mp (e1.trans e2.symm)
def ZiK{M:Model}{A:Around}{E:VS}{i:Nat}{x:Str}{v:V}{u:Value}{Q:Unit->Shared->Prop}(I:Inv X pins σ H s)(hN:X.N.Nodup)(hi:X.N[i]?=some x)(hx:Loc X.env.scope x)(r:RelV v u)
 (h:∀ s',Inv X pins (σ.set i (some v)) H s'->(∃ a,Heap.SameBut a s.heap s'.heap/\(a=X.env.locals\/X.env.cells.lookup x=some a))->Q () s') (hf:X.fn x=true\/X.env.scope.names.lookup x=some .local:=by first|exact .inl rfl|exact .inr rfl|assumption):wpAny M A (storeName X.env x u) Q E s:=by
 obtain ⟨m,hn,hl⟩:=id I.loc
 have hcls:(X.env.scope.kind == .class || (X.env.scope.kind == .module && X.env.locals != X.env.globals))=false:=by rw [I.ok.kind];rfl
 have hiσ:i < σ.length:=by rw [I.len];exact (List.getElem?_eq_some_iff.mp hi).1
 have cne:=I.cne
 have tracked:∀{a:Addr}{h':Heap},(∃ o,s.heap.get? a=some o/\H a=none)->Heap.SameBut a s.heap h'->HOk X.prog X.w H h':=fun{a h'} ha hs b ob e=>by
  obtain ⟨_,_,hfree⟩:=ha
  refine (I.hok b ob e).stay (fun c w' hc q=>(hs.2 c ?_).trans q) (fun _ q=>q) fun _ _ q=>q
  rintro rfl
  rcases hc with rfl|hc
  . rw [hfree] at e;cases e
  . rw [hfree] at hc;cases hc
 rcases hx with hk|hk
 . refine wpAny_storeName_local hk hn (fun h' hn' hs=>?_) hcls
   obtain ⟨oL,_,_,hoL,_⟩:=id hn
   refine h _ ⟨I.ok,I.os,I.bare,⟨fun b o e n hb hx=>?_,fun b o e n hb hx=>?_,I.base.free,fun b o e hx=>?_,I.base.tups,I.base.frzs,I.base.tbls⟩,⟨_,hn',fun j y v' e1 e2 e3=>?_⟩,fun y c e=>?_,I.free,I.freeC,fun p hp=>?_,tracked ⟨oL,hoL,I.free⟩ hs,by simpa using I.len⟩ ⟨_,hs,.inl rfl⟩
   . exact (hs.2 b (ne_of_lt (lt_of_lt_of_le (Heap.lt_size e) I.ok.above))).trans (I.base.keep b o e n hb hx)
   . obtain ⟨sl,e1⟩:=I.base.slot b o e n hb hx
     exact ⟨sl,(hs.2 b (ne_of_lt (lt_of_lt_of_le (Heap.lt_size e) I.ok.above))).trans e1⟩
   . obtain ⟨o',e1⟩:=I.base.there b o e hx
     exact ⟨o',(hs.2 b (ne_of_lt (lt_of_lt_of_le (Heap.lt_size e) I.ok.above))).trans e1⟩
   . by_cases hj:j=i
     . subst hj
       rw [hi] at e1;cases e1
       rw [getElem?_set_self hiσ] at e2
       cases e2
       exact ⟨u,r,.inl ⟨hk,by simp⟩⟩
     . rw [getElem?_set_ne (Ne.symm hj)] at e2
       obtain ⟨u',r',q⟩:=hl j y v' e1 e2 e3
       refine ⟨u',r',?_⟩
       rcases q with ⟨k,e⟩|⟨k,c,e,z⟩
       . refine .inl ⟨k,?_⟩
         have:y≠x:=fun e=>hj (Zey hN e1 (e ▸ hi))
         simp [this,e]
       . exact .inr ⟨k,c,e,z.sameBut hs (cne y c e)⟩
   . obtain ⟨w',z⟩:=I.cell y c e
     exact ⟨w',z.sameBut hs (cne y c e)⟩
   . obtain ⟨e,n,ne,nf,d⟩:=I.pin p hp
     exact ⟨(hs.2 p.1 ne).trans e,n,ne,nf,d⟩
 . have hfn:X.fn x=true:=by
    rcases hf with z|z
    . exact z
    . rw [z] at hk;cases hk
   obtain ⟨c,hc⟩:=I.ok.has x (.inl hk)
   obtain ⟨w',z⟩:=I.cell x c hc
   refine wpAny_storeName_cell I.ok.kind hk hc z (fun h' hc' hs=>?_)
   obtain ⟨oc,hoc,hocd⟩:=id z
   refine h { s with heap:=h' } ⟨I.ok,I.os,I.bare,⟨fun b o e n hb hx=>?_,fun b o e n hb hx=>?_,I.base.free,fun b o e hx=>?_,I.base.tups,I.base.frzs,I.base.tbls⟩,⟨m,hn.sameBut hs (Ne.symm (cne x c hc)),fun j y v' e1 e2 e3=>?_⟩,fun y c' e=>?_,I.free,I.freeC,fun p hp=>?_,tracked ⟨oc,hoc,I.freeC x c hc⟩ hs,by simpa using I.len⟩ ⟨c,hs,.inr hc⟩
   . exact (hs.2 b (ne_of_lt (lt_of_lt_of_le (Heap.lt_size e) (I.ok.cab x c hfn hc)))).trans (I.base.keep b o e n hb hx)
   . obtain ⟨sl,e1⟩:=I.base.slot b o e n hb hx
     exact ⟨sl,(hs.2 b (ne_of_lt (lt_of_lt_of_le (Heap.lt_size e) (I.ok.cab x c hfn hc)))).trans e1⟩
   . obtain ⟨o',e1⟩:=I.base.there b o e hx
     exact ⟨o',(hs.2 b (ne_of_lt (lt_of_lt_of_le (Heap.lt_size e) (I.ok.cab x c hfn hc)))).trans e1⟩
   . by_cases hj:j=i
     . subst hj
       rw [hi] at e1;cases e1
       rw [getElem?_set_self hiσ] at e2
       cases e2
       exact ⟨u,r,.inr ⟨.inl hk,c,hc,hc'⟩⟩
     . rw [getElem?_set_ne (Ne.symm hj)] at e2
       obtain ⟨u',r',q⟩:=hl j y v' e1 e2 e3
       refine ⟨u',r',?_⟩
       rcases q with q|⟨k,c',e,z'⟩
       . exact .inl q
       . refine .inr ⟨k,c',e,z'.sameBut hs ?_⟩
         rintro rfl
         exact hj (Zey hN e1 (I.ok.inj _ _ _ e hc ▸ hi))
   . by_cases hcc:c'=c
     . subst hcc;exact ⟨_,hc'⟩
     . obtain ⟨w2,z2⟩:=I.cell y c' e
       exact ⟨w2,z2.sameBut hs hcc⟩
   . obtain ⟨e,n,ne,nf,d⟩:=I.pin p hp
     refine ⟨(hs.2 p.1 ?_).trans e,n,ne,nf,d⟩
     intro q
     rw [q,hoc] at e
     have q':oc=p.2:=Option.some.inj e
     exact d w' (by rw [<- q'];exact hocd)
def ZbB(I:Inv X pins σ H s)(hN:X.N.Nodup)(hi:X.N[i]?=some x)(hx:Loc X.env.scope x)(r:RelV v u)
 (h:∀ s',Inv X pins (σ.set i (some v)) H s'->Q () s') (hf:X.fn x=true\/X.env.scope.names.lookup x=some .local:=by first|exact .inl rfl|exact .inr rfl|assumption):wpAny M A (storeName X.env x u) Q E s:=
 ZiK I hN hi hx r (fun s' I' _=>h s' I') hf
def Inv.call'(I:Inv X pins σ H s)(ho:s'.os=s.os)(u:Un (frs X.stack) ch H H' s.heap s'.heap)(hok:HOk X.prog X.w H' s'.heap)(hg:AllBare s'.gens)
 (hch:∀ b∈ch,(b∈X.ex\/X.s₀.heap.objs.size<=b)/\b≠X.env.locals/\(∀ x c,X.env.cells.lookup x=some c->c≠b)/\∀ p∈X.pn++pins,p.1≠b):Inv X pins σ H' s':=by
 obtain ⟨h',g',d',t',o'⟩:=s'
 have e:o'=s.os:=ho
 subst e
 exact I.call (g':=g') (t':=t') (d':=d') u hok hg hch
end
abbrev XK:=Value->Option Addr->Hp->Prop
noncomputable abbrev St:=List (Option V)
abbrev VK:=V->Hp->Prop
abbrev TE:=St->Hp->VK->Prop
abbrev TT:=St->Hp->(Bool->Hp->Prop)->Prop
abbrev TA:=St->Hp->(List V->Hp->Prop)->Prop
structure Ends where
 nx:St->Hp->Prop
 rt:VK
 bk:St->Hp->Prop:=fun _ _=>False
 ct:St->Hp->Prop:=fun _ _=>False
abbrev TS:=Ends->St->Hp->Prop
def EP(X:Cx)(pins:Pn)(σ:St)(Q:VK)(u:Value)(s':Shared):Prop:=∃ v H',Inv X pins σ H' s'/\RelV v u/\Q v H'
def TP(X:Cx)(pins:Pn)(σ:St)(Q:Bool->Hp->Prop)(b:Bool)(s':Shared):Prop:=∃ H',Inv X pins σ H' s'/\Q b H'
def AP(X:Cx)(pins:Pn)(σ:St)(Q:List V->Hp->Prop)(us:List Value)(s':Shared):Prop:=∃ vs H',Inv X pins σ H' s'/\Vals vs us/\Q vs H'
def SP(X:Cx)(pins:Pn)(D:Ends)(f:Flow)(s':Shared):Prop:=
 match f with
 | .next=>∃ σ' H',Inv X pins σ' H' s'/\D.nx σ' H'
 | .brk=>∃ σ' H',Inv X pins σ' H' s'/\D.bk σ' H'
 | .cont=>∃ σ' H',Inv X pins σ' H' s'/\D.ct σ' H'
 | .ret u=>∃ v σ' H',Inv X pins σ' H' s'/\RelV v u/\D.rt v H'
def PE(X:Cx)(e:Expr)(t:TE):Prop:=
 ∀(pins:Pn)(s:Shared)(σ:St)(H:Hp)(Q:VK),Inv X pins σ H s->t σ H Q->wpAny (model X.prog X.w) X.A (eval e X.env) (EP X pins σ Q) X.xe s
def PT(X:Cx)(e:Expr)(t:TT):Prop:=
 ∀(pins:Pn)(s:Shared)(σ:St)(H:Hp)(Q:Bool->Hp->Prop),Inv X pins σ H s->t σ H Q->wpAny (model X.prog X.w) X.A (isTrue e X.env (eval e X.env)) (TP X pins σ Q) X.xe s
def PW(X:Cx)(e:Expr)(t:TT):Prop:=
 ∀(whole:Sem Value)(pins:Pn)(s:Shared)(σ:St)(H:Hp)(Q:Bool->Hp->Prop),Inv X pins σ H s->t σ H Q->wpAny (model X.prog X.w) X.A (isTrue e X.env whole) (TP X pins σ Q) X.xe s
def PW.pt(h:PW X e t):PT X e t:=h _
def PA(X:Cx)(es:List Expr)(t:TA):Prop:=
 ∀(pos:Pos)(pins:Pn)(s:Shared)(σ:St)(H:Hp)(Q:List V->Hp->Prop),Inv X pins σ H s->t σ H Q->wpAny (model X.prog X.w) X.A (spliced (backTo pos (starEach es X.env))) (AP X pins σ Q) X.xe s
def PS(X:Cx)(st:Stmt)(t:TS):Prop:=
 ∀(pins:Pn)(s:Shared)(σ:St)(H:Hp)(D:Ends),Inv X pins σ H s->t D σ H->wpAny (model X.prog X.w) X.A (exec st X.env) (SP X pins D) X.xe s
def PSs(X:Cx)(st:List Stmt)(t:TS):Prop:=
 ∀(pins:Pn)(s:Shared)(σ:St)(H:Hp)(D:Ends),Inv X pins σ H s->t D σ H->wpAny (model X.prog X.w) X.A (execs st X.env) (SP X pins D) X.xe s
def thn(h:wpAny M A t Q E s)(hQ:∀ a s,Q a s->Q' a s):wpAny M A t Q' E s:=wpAny_mono h hQ fun _ _ x=>x
section
def bin{a b:Expr}{ta tb:TE}(ha:PE X a ta)(hb:PE X b tb){σ:St}{R:V->V->Hp->Prop}(I:Inv X pins σ H s)(h:ta σ H fun x H1=>tb σ H1 fun y H2=>R x y H2)
 {α:Type} {Q:α->Shared->Prop} {f:Value->Value->Sem α}
 (hf:∀ v u s2 x y H2,Inv X pins σ H2 s2->RelV x v->RelV y u->R x y H2->wpAny (model X.prog X.w) X.A (f v u) Q X.xe s2):
 wpAny (model X.prog X.w) X.A (eval a X.env) (fun v s₁=>wpAny (model X.prog X.w) X.A (eval b X.env) (fun u s₂=>wpAny (model X.prog X.w) X.A (f v u) Q X.xe s₂) X.xe s₁) X.xe s:=by
 refine thn (ha pins s σ H _ I h) fun v s1 z0=>?_
 obtain ⟨x,H1,I1,r1,q1⟩:=z0
 refine thn (hb pins s1 σ H1 _ I1 q1) fun u s2 z0=>?_
 obtain ⟨y,H2,I2,r2,q2⟩:=z0
 exact hf v u s2 x y H2 I2 r1 r2 q2
def tVar(i:Nat):TE:=fun σ H Q=>∃ v,σ[i]?=some (some v)/\Q v H
def tC(v:V):TE:=fun _ H Q=>Q v H
def ZiL(hN:X.N[i]?=some x)(hv:Vis X.env.scope x)(hd:autoParam ((x == ("__debug__":Str))=false) Q7)(hcd:autoParam ((x == ("__classdict__":Str))=false) Q7):PE X (.Name x pos) (tVar i):=by
 intro pins s σ H Q I h
 obtain ⟨v,e,h⟩:=h
 obtain ⟨m,hn,hl⟩:=I.loc
 obtain ⟨u,r,l⟩:=hl i x v hN e hv
 have fin:EP X pins σ Q u s:=⟨v,H,I,r,h⟩
 rcases l with ⟨hk,hm⟩|⟨hk,c,hc,hcell⟩
 . exact wpAny_Name (wpAny_loadName_local I.ok.kind hk hn hm fin) hd
 . rcases hk with hk|hk
   . exact wpAny_Name (wpAny_loadName_cell I.ok.kind hk hc hcell fin) hd
   . exact wpAny_Name (wpAny_loadName_free I.ok.kind hk hc hcell fin hcd) hd
def Zbu{i j pos}:PE X (.Constant (.int i) j pos) (tC (.int i)):=fun _ _ _ H _ I h=>wpAny_Constant_int ⟨.int i,H,I.tok _,⟨_,rfl⟩,h⟩
def ZbL{b j pos}:PE X (.Constant (.bool b) j pos) (tC (.bl b)):=fun _ _ _ H _ I h=>Constant_bool ⟨.bl b,H,I,rfl,h⟩
def ZcY{j pos}:PE X (.Constant .none j pos) (tC .non):=fun _ _ _ H _ I h=>Constant_none ⟨.non,H,I,rfl,h⟩
def ZaC{x j pos}:PE X (.Constant (.str x) j pos) (tC (.str x)):=fun _ _ _ H _ I h=>Calls.Constant_str ⟨.str x,H,I.tok _,⟨_,rfl⟩,h⟩
def Gl(X:Cx)(x:Str):Prop:=X.env.kindOf x=some .globalImplicit
def ZcZ(I:Inv X pins σ H s)(hg:Gl X x)(hm:X.mg x=some u)(h:Q u s)
 (hd:autoParam ((x == ("__debug__":Str))=false) Q7):wpAny (model X.prog X.w) X.A (eval (.Name x pos) X.env) Q E s:=
 Calls.Name_function_global I.ok.kind hg (Calls.loadGlobal_global (by rw [I.ok.glob];exact I.mod.glob.keeps I.bk) hm h) hd
def Zbv(I:Inv X pins σ H s)(hg:Gl X x)(hm:X.mg x=none)(hv:bootBuiltins x=some u)(h:Q u s)
 (hn:autoParam (x≠"__name__") Q7) (hd:autoParam ((x == ("__debug__":Str))=false) Q7):wpAny (model X.prog X.w) X.A (eval (.Name x pos) X.env) Q E s:=by
 obtain ⟨mb,h1,h2⟩:=I.mod.blt
 exact Calls.Name_function_global I.ok.kind hg (Calls.loadGlobal_builtin (by rw [I.ok.glob];exact I.mod.glob.keeps I.bk) hm (by rw [I.ok.blt];exact h1.keeps I.bk) ((h2 x hn).trans hv) h) hd
def Zfn(hg:Gl X x)(hm:X.mg x=some u)(r:RelV v u)(hd:autoParam ((x == ("__debug__":Str))=false) Q7):PE X (.Name x pos) (tC v):=
 fun _ _ _ H _ I h=>ZcZ I hg hm ⟨v,H,I,r,h⟩ hd
def Zma(hg:Gl X x)(hm:X.mg x=none)(hv:bootBuiltins x=some u)(r:RelV v u)(hn:autoParam (x≠"__name__") Q7)(hd:autoParam ((x == ("__debug__":Str))=false) Q7):PE X (.Name x pos) (tC v):=
 fun _ _ _ H _ I h=>Zbv I hg hm hv ⟨v,H,I,r,h⟩ hn hd
variable{a b:Expr}{ta tb:TE}
def PC(X:Cx)(op:CmpOp)(a b:Expr)(t:TE):Prop:=
 ∀(pins:Pn)(s:Shared)(σ:St)(H:Hp)(Q:VK),Inv X pins σ H s->t σ H Q->
  wpAny (model X.prog X.w) X.A (eval a X.env) (fun v s₁=>wpAny (model X.prog X.w) X.A (eval b X.env) (fun u s₂=>wpAny (model X.prog X.w) X.A (compareOp op v u) (EP X pins σ Q) X.xe s₂) X.xe s₁) X.xe s
def Zka(b:Expr)(h:op≠.In)(h2:op≠.NotIn):behindInMarks op b=false:=by
 have e1:(op == CmpOp.In)=false:=by cases op<;>first|rfl|exact absurd rfl h
 have e2:(op == CmpOp.NotIn)=false:=by cases op<;>first|rfl|exact absurd rfl h2
 cases b<;>simp [behindInMarks,e1,e2]
def tIsN(ta:TE):TE:=fun σ H Q=>ta σ H fun x H1=>Q (.bl (decide (x=.non))) H1
def ZpS(ta:TE):TE:=fun σ H Q=>ta σ H fun x H1=>Q (.bl (!decide (x=.non))) H1
theorem RelV.none_iff(r:RelV x v):(v == Value.none)=decide (x=.non):=by
 cases x with
 | non=>cases r;rfl
 | bl _=>cases r;rfl
 | int _=>obtain ⟨t,rfl⟩:=r;rfl
 | str _=>obtain ⟨t,rfl⟩:=r;rfl
 | byt _=>obtain ⟨t,rfl⟩:=r;rfl
 | flt _=>obtain ⟨t,rfl⟩:=r;rfl
 | ref _=>cases r;rfl
 | ty _=>cases r;rfl
def ZnC{j pos'}(ha:PE X a ta):PC X .Is a (.Constant .none j pos') (tIsN ta):=by
 intro pins s σ H Q I h
 refine thn (ha pins s σ H _ I h) fun v s1 z0=>?_
 obtain ⟨x,H1,I1,r1,q1⟩:=z0
 exact Constant_none (is_none_gen ⟨.bl _,H1,I1,by rw [r1.none_iff];rfl,q1⟩)
def Zmb{j pos'}(ha:PE X a ta):PC X .IsNot a (.Constant .none j pos') (ZpS ta):=by
 intro pins s σ H Q I h
 refine thn (ha pins s σ H _ I h) fun v s1 z0=>?_
 obtain ⟨x,H1,I1,r1,q1⟩:=z0
 exact Constant_none (isnot_none_gen ⟨.bl _,H1,I1,by rw [r1.none_iff];rfl,q1⟩)
def tB(t:TE):TT:=fun σ H Q=>t σ H fun x H1=>∃ c,x=.bl c/\Q c H1
def ZiM(h:PC X op a b t)(h1:behindInMarks op b=false:=by first|exact Zka _ (by decide) (by decide)|rfl):PT X (.Compare a [op] [b] pos) (tB t):=by
 intro pins s σ H Q I hw
 refine wpAny_isTrue_Compare1 (thn (h pins s σ H _ I hw) fun v s1 h1=>thn h1 fun u s2 h2=>thn h2 fun c s3 z0=>?_) h1
 obtain ⟨x,H1,I1,r1,q1⟩:=z0
 obtain ⟨d,rfl,q⟩:=q1
 cases r1
 exact wpAny_truthy_bool ⟨H1,I1,q⟩
variable{tA tB':TT}{rest:List Expr}
def tAnd(t u:TT):TT:=fun σ H Q=>t σ H fun c H1=>if c=true then u σ H1 Q else Q false H1
def tOr(t u:TT):TT:=fun σ H Q=>t σ H fun c H1=>if c=true then Q true H1 else u σ H1 Q
def tNot(t:TT):TT:=fun σ H Q=>t σ H fun c H1=>Q (!c) H1
theorem Zmc(ha:PT X a tA):PW X (.BoolOp .And [a] pos) tA:=by
 intro wh pins s σ H Q I h
 refine isTrue_and (thn (ha pins s σ H Q I h) fun c s1 e=>?_)
 cases c with
 | true=>exact isTrue_and_nil e
 | false=>exact e
theorem ZnD(ha:PT X a tA):PW X (.BoolOp .Or [a] pos) tA:=by
 intro wh pins s σ H Q I h
 refine isTrue_or (thn (ha pins s σ H Q I h) fun c s1 e=>?_)
 cases c with
 | false=>exact isTrue_or_nil e
 | true=>exact e
theorem ZnE(ha:PT X a tA)(hb:PW X (.BoolOp .And (b::rest) pos) tB'):PW X (.BoolOp .And (a::b::rest) pos) (tAnd tA tB'):=by
 intro wh pins s σ H Q I h
 refine isTrue_and (thn (ha pins s σ H _ I h) fun c s1 z0=>?_)
 obtain ⟨H1,I1,q1⟩:=z0
 cases c with
 | true=>exact hb wh pins s1 σ H1 Q I1 q1
 | false=>exact ⟨H1,I1,q1⟩
theorem ZpT(ha:PT X a tA)(hb:PW X (.BoolOp .Or (b::rest) pos) tB'):PW X (.BoolOp .Or (a::b::rest) pos) (tOr tA tB'):=by
 intro wh pins s σ H Q I h
 refine isTrue_or (thn (ha pins s σ H _ I h) fun c s1 z0=>?_)
 obtain ⟨H1,I1,q1⟩:=z0
 cases c with
 | true=>exact ⟨H1,I1,q1⟩
 | false=>exact hb wh pins s1 σ H1 Q I1 q1
def ZnF(ha:PT X a tA):PT X (.UnaryOp .Not a pos) (tNot tA):=by
 intro pins s σ H Q I h
 exact isTrue_not (ha pins s σ H (fun c H1=>Q (!c) H1) I h)
def ZpU(ta tb:TE):TE:=fun σ H Q=>ta σ H fun x H1=>∃ c,x=.bl c/\if c=true then tb σ H1 Q else Q (.bl false) H1
def ZpV(ta:TE):TE:=fun σ H Q=>ta σ H fun x H1=>∃ c,x=.bl c/\Q (.bl (!c)) H1
def ZnG{op}(h:PE X a t):PE X (.BoolOp op [a] pos) t:=fun pins s σ H Q I hw=>BoolOp_one (h pins s σ H Q I hw)
theorem ZnH(ha:PE X a ta)(hb:PE X (.BoolOp .And (b::rest) pos) tb):PE X (.BoolOp .And (a::b::rest) pos) (ZpU ta tb):=by
 intro pins s σ H Q I h
 refine BoolOp_and (thn (ha pins s σ H _ I h) fun v s1 z0=>?_)
 obtain ⟨x,H1,I1,r1,q1⟩:=z0
 obtain ⟨c,rfl,q1⟩:=q1
 cases r1
 refine wpAny_truthy_bool ?_
 cases c with
 | true=>exact hb pins s1 σ H1 Q I1 q1
 | false=>exact ⟨.bl false,H1,I1,rfl,q1⟩
def ZnI(ha:PE X a ta):PE X (.UnaryOp .Not a pos) (ZpV ta):=by
 intro pins s σ H Q I h
 refine UnaryOp_ (thn (ha pins s σ H _ I h) fun v s1 z0=>?_)
 obtain ⟨x,H1,I1,r1,q1⟩:=z0
 obtain ⟨c,rfl,q1⟩:=q1
 cases r1
 exact not_of (wpAny_truthy_bool ⟨.bl (!c),H1,I1,rfl,q1⟩)
end
def SqL(K:Fg)(H:Hp)(a:Addr)(xs:List V):Prop:=
 Rd H a (.lst xs)\/
  ∃(o:Obj)(its:Array Value)(n:Nat),K.lookup a=some o/\o.cls=.type "list"/\o.dict=none/\o.data=.seq its n/\its.size<=sizeLine/\Vals xs its.toList
def SqT(K:Fg)(H:Hp)(a:Addr)(xs:List V):Prop:=
 Rd H a (.tup xs)\/
  ∃(o:Obj)(its:Array Value)(n:Nat),K.lookup a=some o/\o.cls=.type "tuple"/\o.data=.seq its n/\its.size<=sizeLine/\Vals xs its.toList
noncomputable def absV:Value->Option V
 | .none=>some .non
 | .bool b=>some (.bl b)
 | .int i _=>some (.int i)
 | .str x _=>some (.str x)
 | .bytes b _=>some (.byt b)
 | .float b _=>some (.flt b)
 | .ref a=>some (.ref a)
 | .type n=>some (.ty n)
 | _=>none
theorem RelV.abs(r:RelV x u):absV u=some x:=by
 cases x with
 | non=>cases r;rfl
 | bl _=>cases r;rfl
 | int _=>obtain ⟨t,rfl⟩:=r;rfl
 | str _=>obtain ⟨t,rfl⟩:=r;rfl
 | byt _=>obtain ⟨t,rfl⟩:=r;rfl
 | flt _=>obtain ⟨t,rfl⟩:=r;rfl
 | ref _=>cases r;rfl
 | ty _=>cases r;rfl
def RelV.inj(r:RelV x u)(q:RelV y u):x=y:=Option.some.inj (r.abs.symm.trans q.abs)
theorem Vals.inj:∀{xs ys:List V}{us:List Value},Vals xs us->Vals ys us->xs=ys
 | _,_,_,.nil,.nil=>rfl
 | _,_,_,.cons r t,.cons r' t'=>by rw [r.inj r',Vals.inj t t']
termination_by structural a=>a
section
variable{σ:St}{a:Addr}{xs ys:List V}
def Inv.list(I:Inv X pins σ H s)(h:SqL X.K H a xs):∃ its:List Value,Vals xs its/\PlainL s.heap a its.toArray/\xs.length<=sizeLine:=by
 rcases h with h|⟨o,its,n,hk,hc,hd,hs,hz,r⟩
 . obtain ⟨z,its,n,r,e⟩:=h.ok I.hok
   exact ⟨its,r,⟨_,n,e,rfl,rfl,rfl⟩,z⟩
 . refine ⟨its.toList,r,⟨o,n,I.kIn a o hk,hc,hd,by simpa using hs⟩,?_⟩
   have e:=r.length
   simp only [Array.length_toList] at e
   omega
def Inv.tuple(I:Inv X pins σ H s)(h:SqT X.K H a xs):∃ its:List Value,Vals xs its/\IsTup s.heap a its.toArray/\xs.length<=sizeLine:=by
 rcases h with h|⟨o,its,n,hk,hc,hs,hz,r⟩
 . obtain ⟨z,its,r,p⟩:=h.ok I.hok
   exact ⟨its,r,p,z⟩
 . refine ⟨its.toList,r,⟨o,I.kIn a o hk,hc,n,by simpa using hs⟩,?_⟩
   have e:=r.length
   simp only [Array.length_toList] at e
   omega
def Inv.list_inj(I:Inv X pins σ H s)(h:SqL X.K H a xs)(h':SqL X.K H a ys):xs=ys:=by
 obtain ⟨its,r,⟨o,n,e,_,_,d⟩,_⟩:=I.list h
 obtain ⟨its',r',⟨o',n',e',_,_,d'⟩,_⟩:=I.list h'
 rw [e] at e';cases e'
 rw [d] at d'
 injection d' with d1 _
 have:its=its':=by simpa using congrArg Array.toList d1
 subst this
 exact r.inj r'
def Inv.tuple_inj(I:Inv X pins σ H s)(h:SqT X.K H a xs)(h':SqT X.K H a ys):xs=ys:=by
 obtain ⟨its,r,⟨o,e,_,n,d⟩,_⟩:=I.tuple h
 obtain ⟨its',r',⟨o',e',_,n',d'⟩,_⟩:=I.tuple h'
 rw [e] at e';cases e'
 rw [d] at d'
 injection d' with d1 _
 have:its=its':=by simpa using congrArg Array.toList d1
 subst this
 exact r.inj r'
end
noncomputable abbrev Cx.wish(X:Cx)(E:VS):Cx:={ X with xe:=E }
noncomputable abbrev Cx.nox(X:Cx):Cx:=X.wish fun _ _=>False
def Cx.Ok.wish(ok:X.Ok)(E:VS):(X.wish E).Ok:=
 ⟨ok.mod,ok.kind,ok.glob,ok.blt,ok.above,ok.inj,ok.has,ok.cab,ok.hd,ok.frames,ok.stk,ok.exf,ok.bs,ok.bsz,ok.noex,ok.exfs,ok.funs,ok.frf⟩
def Cx.Ok.unwish{E:VS}(ok:(X.wish E).Ok):X.Ok:=
 ⟨ok.mod,ok.kind,ok.glob,ok.blt,ok.above,ok.inj,ok.has,ok.cab,ok.hd,ok.frames,ok.stk,ok.exf,ok.bs,ok.bsz,ok.noex,ok.exfs,ok.funs,ok.frf⟩
section
variable{σ:St}{E:VS}
def Inv.wish(I:Inv X pins σ H s)(E:VS):Inv (X.wish E) pins σ H s:=⟨I.ok.wish E,I.os,I.bare,I.base,I.loc,I.cell,I.free,I.freeC,I.pin,I.hok,I.len⟩
def Inv.unwish(I:Inv (X.wish E) pins σ H s):Inv X pins σ H s:=⟨I.ok.unwish,I.os,I.bare,I.base,I.loc,I.cell,I.free,I.freeC,I.pin,I.hok,I.len⟩
theorem SP.unwish(h:SP (X.wish E) pins D f s'):SP X pins D f s':=by
 cases f with
 | next=>obtain ⟨σ',H',I,q⟩:=h;exact ⟨σ',H',I.unwish,q⟩
 | brk=>obtain ⟨σ',H',I,q⟩:=h;exact ⟨σ',H',I.unwish,q⟩
 | cont=>obtain ⟨σ',H',I,q⟩:=h;exact ⟨σ',H',I.unwish,q⟩
 | ret u=>obtain ⟨v,σ',H',I,r,q⟩:=h;exact ⟨v,σ',H',I.unwish,r,q⟩
def PSs.nox{st:List Stmt}{t:TS}(h:PSs X.nox st t):PSs X st t:=fun pins s σ H D I hw=>
 wpAny_mono (h pins s σ H D (I.wish _) hw) (fun _ _ q=>q.unwish) fun _ _ z=>False.elim z
end
section
variable{st:Stmt}{rest:List Stmt}{t u:TS}{e:Expr}{te:TE}
def ZpW:TS:=fun D σ H=>D.nx σ H
def tSeq(t u:TS):TS:=fun D σ H=>t { D with nx:=u D } σ H
def Zmd:PSs X [] ZpW:=fun _ _ σ H _ I h=>wpAny_execs_nil ⟨σ,H,I,h⟩
theorem Zkb(h1:PS X st t)(h2:PSs X rest u):PSs X (st::rest) (tSeq t u):=by
 intro pins s σ H D I h
 refine wpAny_execs_cons (thn (h1 pins s σ H { D with nx:=u D } I h) fun f s1 q=>?_)
 cases f with
 | next=>
  obtain ⟨σ',H',I',q⟩:=q
  exact h2 pins s1 σ' H' D I' q
 | ret v=>exact q
 | brk=>exact q
 | cont=>exact q
def Inv.quiet(I:Inv X pins σ H s):interactive X.env=false:=by simp [interactive,I.ok.kind]
def ZpX(te:TE):TS:=fun D σ H=>te σ H fun _ H1=>D.nx σ H1
def Zme(he:PE X e te)(hs:autoParam (swapsWith e none pos.line X.env=pure false) Q9):PS X (.Expr e pos) (ZpX te):=by
 intro pins s σ H D I h
 exact wpAny_Expr_any (thn (he pins s σ H _ I h) fun v s1 z90=>by obtain ⟨x,H1,I1,r1,q1⟩:=z90;exact ⟨σ,H1,I1,q1⟩) I.quiet hs
def tRet(te:TE):TS:=fun D σ H=>te σ H D.rt
def ZnJ(he:PE X e te):PS X (.Return (some e) pos) (tRet te):=by
 intro pins s σ H D I h
 exact wpAny_Return_some (thn (he pins s σ H _ I h) fun v s1 z90=>by obtain ⟨x,H1,I1,r1,q1⟩:=z90;exact ⟨x,σ,H1,I1,r1,q1⟩)
def tIfS(c:TT)(t u:TS):TS:=fun D σ H=>c σ H fun b H1=>if b=true then t D σ H1 else u D σ H1
theorem ZpY(hc:PT X c tc)(ha:PSs X a t)(hb:PSs X b u):PS X (.If c a b pos) (tIfS tc t u):=by
 intro pins s σ H D I h
 refine wpAny_If (thn (hc pins s σ H _ I h) fun d s1 z0=>?_)
 obtain ⟨H1,I1,q1⟩:=z0
 cases d with
 | true=>exact ha pins s1 σ H1 D I1 q1
 | false=>exact hb pins s1 σ H1 D I1 q1
end
abbrev TG:=V->St->Hp->(St->Hp->Prop)->Prop
abbrev TGs:=List V->St->Hp->(St->Hp->Prop)->Prop
def PG(X:Cx)(target:Expr)(t:TG):Prop:=
 ∀(pins:Pn)(s:Shared)(σ:St)(H:Hp)(v:V)(u:Value)(Q:St->Hp->Prop),Inv X pins σ H s->RelV v u->t v σ H Q->
  wpAny (model X.prog X.w) X.A (assign target X.env u) (fun _ s'=>∃ σ' H',Inv X pins σ' H' s'/\Q σ' H') X.xe s
def PGs(X:Cx)(ts:List Expr)(t:TGs):Prop:=
 ∀(pins:Pn)(s:Shared)(σ:St)(H:Hp)(vs:List V)(us:List Value)(Q:St->Hp->Prop),Inv X pins σ H s->Vals vs us->t vs σ H Q->
  wpAny (model X.prog X.w) X.A (assignInOrder ((assignEach ts X.env).map (·.2)) us) (fun _ s'=>∃ σ' H',Inv X pins σ' H' s'/\Q σ' H') X.xe s
abbrev TSet:=V->V->V->Hp->(Hp->Prop)->Prop
def PSet(X:Cx)(t:TSet):Prop:=
 ∀(pins:Pn)(s:Shared)(σ:St)(H:Hp)(o i v:V)(ov iv u:Value)(Q:Hp->Prop),Inv X pins σ H s->RelV o ov->RelV i iv->RelV v u->t o i v H Q->
  wpAny (model X.prog X.w) X.A (setItem ov iv u) (fun _ s'=>∃ H',Inv X pins σ H' s'/\Q H') X.xe s
section
noncomputable def ZcB(i:Nat):TG:=fun v σ H Q=>Q (σ.set i (some v)) H
def Zhi(hN:X.N.Nodup)(hi:X.N[i]?=some x)(hx:Loc X.env.scope x)(hf:X.fn x=true\/X.env.scope.names.lookup x=some .local:=by first|exact .inl rfl|exact .inr rfl|assumption):PG X (.Name x pos) (ZcB i):=by
 intro pins s σ H v u Q I r h
 exact wpAny_assign_Name (ZbB I hN hi hx r (fun s' I'=>⟨_,H,I',h⟩) hf)
noncomputable def gNil:TGs:=fun vs σ H Q=>vs=[]/\Q σ H
noncomputable def Zl4(t:TG)(u:TGs):TGs:=fun vs σ H Q=>∃ v r,vs=v::r/\t v σ H fun σ' H'=>u r σ' H' Q
def Zmf:PGs X [] gNil:=by
 intro pins s σ H vs us Q I r h
 obtain ⟨e,h⟩:=h
 subst e
 cases r
 exact assignInOrder_nil ⟨σ,H,I,h⟩
theorem Zkc(h1:PG X e t)(h2:PGs X es u)
 (hs:autoParam ((assignEach (e::es) X.env).map (·.2)=assign e X.env::(assignEach es X.env).map (·.2)) Q9):PGs X (e::es) (Zl4 t u):=by
 intro pins s σ H vs us Q I r h
 obtain ⟨v,vr,e1,h⟩:=h
 subst e1
 cases r with
 | cons r rr=>
  rw [hs]
  refine assignInOrder_cons (thn (h1 pins s σ H _ _ _ I r h) fun _ s1 z0=>?_)
  obtain ⟨σ1,H1,I1,q1⟩:=z0
  exact h2 pins s1 σ1 H1 _ _ Q I1 rr q1
noncomputable def gTup(K:Fg)(n:Nat)(t:TGs):TG:=fun v σ H Q=>∃ a xs,v=.ref a/\SqT K H a xs/\xs.length=n/\t xs σ H Q
def ZnK(hc:X.calm=true)(h:PGs X es t)
 (hn:autoParam ((assignEach es X.env).length=n) Q9) (hst:autoParam ((assignEach es X.env).findIdx? (·.1)=none) Q9):PG X (.Tuple es k pos) (gTup X.K n t):=by
 intro pins s σ H v u Q I r hw
 obtain ⟨a,xs,e1,hq,hl,hw⟩:=hw
 subst e1
 cases r
 obtain ⟨its,rv,ht,hz⟩:=I.tuple hq
 refine assign_Tuple_tuple (I.ok.hd hc) ht (by simp [hn,<- hl,rv.length]) hst fun h' hx=>?_
 have I1:Inv X pins σ H { s with heap:=h' }:=I.kept (t':=s.toks) fun b o e=>hx b o (ne_of_lt (Heap.lt_size e)) e
 exact h pins _ σ H xs _ Q I1 (by simpa using rv) hw
noncomputable def gSub(to ti:TE)(t:TSet):TG:=fun v σ H Q=>to σ H fun o H1=>ti σ H1 fun i H2=>t o i v H2 fun H3=>Q σ H3
def ZnL(ho:PE X o to)(hi:PE X i ti)(hs:PSet X t)
 (ha:∀ v,assign (.Subscript o i pos) X.env v=(do
  let ov <- holding [v] (eval o X.env)
  let iv <- holding [v,ov] (eval i X.env)
  standAt pos
  holding [v,ov,iv] (setItem ov iv v)
  release [v,ov,iv] []):=by intro _;rfl):PG X (.Subscript o i pos) (gSub to ti t):=by
 intro pins s σ H v u Q I r h
 rw [ha]
 refine wpAny_bind (wpAny_holding (thn (ho pins s σ H _ I h) fun ov s1 z0=>?_))
 obtain ⟨x,H1,I1,r1,q1⟩:=z0
 refine wpAny_bind (wpAny_holding (thn (hi pins s1 σ H1 _ I1 q1) fun iv s2 z0=>?_))
 obtain ⟨y,H2,I2,r2,q2⟩:=z0
 refine wpAny_bind (wpAny_standAt (wpAny_bind (wpAny_holding (thn (hs pins s2 σ H2 x y v ov iv u _ I2 r1 r2 r q2) fun _ s3 z0=>?_))))
 obtain ⟨H3,I3,q3⟩:=z0
 exact wpAny_release ⟨σ,H3,I3,q3⟩
def tAsg(te:TE)(g:TG):TS:=fun D σ H=>te σ H fun x H1=>g x σ H1 D.nx
def ZiN(he:PE X e te)(hg:PG X tg g)(hs:autoParam (swapsWithSole [tg] e pos.line X.env=pure false) Q9)(hw:autoParam (swappedStores [tg] e X.env=pure none) Q9)
 (h1:autoParam ((assignEach [tg] X.env).map (·.2)=[assign tg X.env]) Q9):PS X (.Assign [tg] e pos) (tAsg te g):=by
 intro pins s σ H D I h
 refine wpAny_Assign_stores (thn (he pins s σ H _ I h) fun v s1 z0=>?_) hs hw
 obtain ⟨x,H1,I1,r1,q1⟩:=z0
 rw [h1]
 exact thn (hg pins s1 σ H1 x v _ I1 r1 q1) fun _ s2 q=>q
def ZnM(hN:X.N.Nodup)(hi:X.N[i]?=some x)(hx:Loc X.env.scope x)(he:PE X e te)(hs:autoParam (swapsWith e (some (.Name x pos')) pos.line X.env=pure false) Q9)(hf:X.fn x=true\/X.env.scope.names.lookup x=some .local:=by first|exact .inl rfl|exact .inr rfl|assumption):
 PS X (.Assign [.Name x pos'] e pos) (tAsg te (ZcB i)):=by
 intro pins s σ H D I h
 refine wpAny_Assign_Name (thn (he pins s σ H _ I h) fun v s1 z0=>?_) hs
 obtain ⟨y,H1,I1,r1,q1⟩:=z0
 exact ZbB I1 hN hi hx r1 (fun s2 I2=>⟨_,H1,I2,q1⟩) hf
end
structure It where
 go:Nat->Hp->Prop
 yld:Nat->Hp->V->Hp->Prop
 stop:Nat->Hp->Prop
def FpOk(X:Cx)(pins:Pn)(H:Hp)(b:Addr):Prop:=
 H b=none/\b≠X.env.locals/\b∉X.fs/\(b∈X.ex\/X.s₀.heap.objs.size<=b)/\(∀ x c,X.env.cells.lookup x=some c->c≠b)/\∀ p∈X.pn++pins,p.1≠b
def Inv.fpOk(I:Inv X pins σ H s)(hb:s.heap.objs.size<=b)(hn:H' b=none):FpOk X pins H' b:=by
 refine ⟨hn,ne_of_gt (lt_of_lt_of_le I.lt hb),I.nofs hb,.inr (le_trans I.sz hb),fun x c e z=>?_,fun p hp z=>?_⟩
 . obtain ⟨v,q⟩:=I.cell x c e
   exact absurd (lt_of_lt_of_le q.lt (by rw [z];exact hb)) (lt_irrefl _)
 . exact absurd (lt_of_lt_of_le (Heap.lt_size (I.pin p hp).1) (by rw [z];exact hb)) (lt_irrefl _)
structure Turn(P:Program)(w:World)(K:Fg)(tg:Expr)(J:It)(fp:List Addr)(it:Addr)(tn:Nat->Heap->Prop):Prop where
 mem:it∈fp
 obj:∀ i h,tn i h->∀ b∈fp,∃ o,h.get? b=some o/\∀ v,o.data≠.cell v
 keep:∀ i h h',tn i h->(∀ b∈fp,∀ o,h.get? b=some o->h'.get? b=some o)->tn i h'
 item:∀(X:Cx),X.prog=P->X.w=w->X.K=K->X.calm=true->∀(i:Nat)(pins:Pn)(s:Shared)(σ:St)(H:Hp)(E:VS),Inv X pins σ H s->(∀ b∈fp,FpOk X pins H b)->tn i s.heap->J.go i H->
  wpAny (model P w) X.A (pyNext (.ref it)) (fun r s1=>∃ u,r=some u/\
   wpAny (model P w) X.A (letOwnedTupleGo tg (.ref it) u) (fun _ s2=>∃ x H',Inv X pins σ H' s2/\RelV x u/\J.yld i H x H'/\tn (i+1) s2.heap/\∀ b∈fp,H' b=none) E s1) E s
 done:∀(X:Cx),X.prog=P->X.w=w->X.K=K->X.calm=true->∀(i:Nat)(pins:Pn)(s:Shared)(σ:St)(H:Hp)(E:VS),Inv X pins σ H s->(∀ b∈fp,FpOk X pins H b)->tn i s.heap->J.stop i H->
  wpAny (model P w) X.A (pyNext (.ref it)) (fun r s1=>r=none/\Inv X pins σ H s1) E s
 self:∀(A:Around)(i:Nat)(s:Shared)(Q:VS)(E:VS),tn i s.heap->Q (.ref it) s->wpAny (model P w) A (pyIter (.ref it)) Q E s
abbrev TI:=St->Hp->(It->Hp->Prop)->Prop
def PIE(X:Cx)(pins:Pn)(σ:St)(tg:Expr)(R:It->Hp->Prop)(itv:Value)(s2:Shared):Prop:=
 ∃(it:Addr)(fp:List Addr)(tn:Nat->Heap->Prop)(J:It)(H':Hp),itv=.ref it/\Inv X pins σ H' s2/\Turn X.prog X.w X.K tg J fp it tn/\tn 0 s2.heap/\(∀ b∈fp,FpOk X pins H' b)/\R J H'
def PI(X:Cx)(tg iter:Expr)(wi:TI):Prop:=
 ∀(pins:Pn)(s:Shared)(σ:St)(H:Hp)(R:It->Hp->Prop),Inv X pins σ H s->wi σ H R->
  wpAny (model X.prog X.w) X.A (eval iter X.env) (fun v s1=>wpAny (model X.prog X.w) X.A (pyIter v) (PIE X pins σ tg R) X.xe s1) X.xe s
def ZhU(ho:s.heap.get? it=some o)(hc:o.cls=.type n)(hd:o.data=.fields vs)
 (hn:["enumerate","zip","dict_itemiterator","dict_reverseitemiterator","odict_iterator","itertools.zip_longest","itertools.pairwise"].contains n=false) (hQ:Q () s):wpAny M A (letOwnedTupleGo tg (.ref it) u) Q E s:=by
 unfold letOwnedTupleGo
 cases tg<;>first
  | exact wpAny_pure hQ
  | (cases u<;>first
   | exact wpAny_pure hQ
   | (refine wpAny_bind (wpAny_load ho ?_)
      rw [hc,hd]
      show wpAny M A (if (["enumerate","zip","dict_itemiterator","dict_reverseitemiterator","odict_iterator","itertools.zip_longest","itertools.pairwise"].contains n && vs[0]? == some (rawInt _))=true then _ else _) Q E s
      rw [if_neg (by intro h;rw [hn,Bool.false_and] at h;cases h)]
      exact wpAny_pure hQ))
noncomputable def Itl(K:Fg)(a:Addr):It:=
 ⟨fun i H=>∃ xs x,SqL K H a xs/\xs[i]?=some x,fun i H x H'=>H'=H/\∀ xs,SqL K H a xs->xs[i]?=some x,fun i H=>∃ xs,SqL K H a xs/\xs.length<=i⟩
noncomputable def Itt(K:Fg)(a:Addr):It:=
 ⟨fun i H=>∃ xs x,SqT K H a xs/\xs[i]?=some x,fun i H x H'=>H'=H/\∀ xs,SqT K H a xs->xs[i]?=some x,fun i H=>∃ xs,SqT K H a xs/\xs.length<=i⟩
noncomputable def Itr(lo:Int)(n:Nat):It:=⟨fun i _=>i < n,fun i H x H'=>H'=H/\x=.int (lo+i),fun i _=>n<=i⟩
def ZiO{P:Program}{w:World}{K:Fg}(a it:Addr):Turn P w K tg (Itl K a) [it] it (fun i h=>h.IsListIter it a i) where
 mem:=by simp
 obj:=fun i h st b hb=>by
  have e:b=it:=by simpa using hb
  subst e
  obtain ⟨o,e,c,d⟩:=st
  exact ⟨o,e,fun v z=>by rw [d] at z;cases z⟩
 keep:=fun i h h' st k=>st.at fun o e=>k it (by simp) o e
 item:=by
  intro X hP hw hK hc i pins s σ H E I hf st hg
  subst hP hw hK
  obtain ⟨xs,x,hq,hx⟩:=hg
  obtain ⟨its,rv,p,hz⟩:=I.list hq
  obtain ⟨u,hu,ru⟩:=rv.get hx
  obtain ⟨f0,f1,f2,f3,f4,f5⟩:=hf it (by simp)
  refine wpAny_pyNext_list_item st p.isList (x:=u) (by simpa using hu) fun h' st' sb=>?_
  have I1:Inv X pins σ H { s with heap:=h' }:=I.turned (t':=s.toks) (fun b o hb e=>(sb.2 b hb).trans e) f0 f1 f3 f4 f5
  obtain ⟨o,e,c,d⟩:=id st'
  exact ⟨u,rfl,ZhU (s:={ s with heap:=h' }) e c d (by decide) ⟨x,H,I1,ru,⟨rfl,fun ys hy=>by rw [I.list_inj hy hq];exact hx⟩,st',fun b hb=>(hf b hb).1⟩⟩
 done:=by
  intro X hP hw hK hc i pins s σ H E I hf st hg
  subst hP hw hK
  obtain ⟨xs,hq,hx⟩:=hg
  obtain ⟨its,rv,p,hz⟩:=I.list hq
  obtain ⟨f0,f1,f2,f3,f4,f5⟩:=hf it (by simp)
  have hl:=rv.length
  exact wpAny_pyNext_list_end (I.ok.hd hc) st p.isList (by simp;omega) fun h' eb=>⟨rfl,I.turned (t':=s.toks) (fun b o hb e=>eb b o hb e) f0 f1 f3 f4 f5⟩
 self:=fun _ _ _ _ _ st h=>wpAny_pyIter_listiter st h
def ZhV{P:Program}{w:World}{K:Fg}(a it:Addr):Turn P w K tg (Itt K a) [it] it (fun i h=>h.IsTupleIter it a i) where
 mem:=by simp
 obj:=fun i h st b hb=>by
  have e:b=it:=by simpa using hb
  subst e
  obtain ⟨o,e,c,d⟩:=st
  exact ⟨o,e,fun v z=>by rw [d] at z;cases z⟩
 keep:=fun i h h' st k=>st.at fun o e=>k it (by simp) o e
 item:=by
  intro X hP hw hK hc i pins s σ H E I hf st hg
  subst hP hw hK
  obtain ⟨xs,x,hq,hx⟩:=hg
  obtain ⟨its,rv,p,hz⟩:=I.tuple hq
  obtain ⟨u,hu,ru⟩:=rv.get hx
  obtain ⟨f0,f1,f2,f3,f4,f5⟩:=hf it (by simp)
  refine wpAny_pyNext_tuple_item st (show s.heap.IsTuple a its.toArray from p) (x:=u) (by simpa using hu) fun h' st' sb=>?_
  have I1:Inv X pins σ H { s with heap:=h' }:=I.turned (t':=s.toks) (fun b o hb e=>(sb.2 b hb).trans e) f0 f1 f3 f4 f5
  obtain ⟨o,e,c,d⟩:=id st'
  exact ⟨u,rfl,ZhU (s:={ s with heap:=h' }) e c d (by decide) ⟨x,H,I1,ru,⟨rfl,fun ys hy=>by rw [I.tuple_inj hy hq];exact hx⟩,st',fun b hb=>(hf b hb).1⟩⟩
 done:=by
  intro X hP hw hK hc i pins s σ H E I hf st hg
  subst hP hw hK
  obtain ⟨xs,hq,hx⟩:=hg
  obtain ⟨its,rv,p,hz⟩:=I.tuple hq
  obtain ⟨f0,f1,f2,f3,f4,f5⟩:=hf it (by simp)
  have hl:=rv.length
  exact wpAny_pyNext_tuple_end (I.ok.hd hc) st (show s.heap.IsTuple a its.toArray from p) (by simp;omega) fun h' eb=>⟨rfl,I.turned (t':=s.toks) (fun b o hb e=>eb b o hb e) f0 f1 f3 f4 f5⟩
 self:=fun _ _ _ _ _ st h=>wpAny_pyIter_tupleiter st h
def ZhW{P:Program}{w:World}{K:Fg}(it:Addr)(lo:Int)(n:Nat):Turn P w K tg (Itr lo n) [it] it (fun i h=>IsRangeIter h it (lo+(i:Nat) * 1) ((n:Int) - (i:Nat)) 1) where
 mem:=by simp
 obj:=fun i h st b hb=>by
  have e:b=it:=by simpa using hb
  subst e
  exact ⟨_,st,fun v z=>by
   have z':Data.fields _=Data.cell v:=z
   cases z'⟩
 keep:=fun i h h' st k=>k it (by simp) _ st
 item:=by
  intro X hP hw hK hc i pins s σ H E I hf st hg
  subst hP hw hK
  obtain ⟨f0,f1,f2,f3,f4,f5⟩:=hf it (by simp)
  have W:=Walks.range (prog:=X.prog) (w:=X.w) (I.ok.hd hc) it lo 1 n
  refine W.item i s _ _ hg st fun v h' tk hv st' kk=>?_
  obtain ⟨t,rfl⟩:=hv
  have I1:Inv X pins σ H { s with heap:=h',toks:=tk }:=I.turned (fun b o hb e=>kk b o (by simpa using hb) e) f0 f1 f3 f4 f5
  refine ⟨_,rfl,ZhU (s:={ s with heap:=h',toks:=tk }) (n:="range_iterator") st' rfl rfl (by decide) ⟨.int (lo+i),H,I1,⟨t,?_⟩,⟨rfl,rfl⟩,st',fun b hb=>(hf b hb).1⟩⟩
  rw [Int.mul_one]
 done:=by
  intro X hP hw hK hc i pins s σ H E I hf st hg
  subst hP hw hK
  obtain ⟨f0,f1,f2,f3,f4,f5⟩:=hf it (by simp)
  exact wpAny_pyNext_range_end (I.ok.hd hc) st (by have:n<=i:=hg;omega) fun h' eb=>⟨rfl,I.turned (t':=s.toks) (fun b o hb e=>eb b o hb e) f0 f1 f3 f4 f5⟩
 self:=fun _ _ _ _ _ st h=>wpAny_pyIter_rangeiter st h
section
noncomputable def ZpZ(K:Fg)(tl:TE):TI:=fun σ H R=>tl σ H fun x H1=>∃ a,x=.ref a/\(∃ xs,SqL K H1 a xs)/\R (Itl K a) H1
noncomputable def iTup(K:Fg)(tl:TE):TI:=fun σ H R=>tl σ H fun x H1=>∃ a,x=.ref a/\(∃ xs,SqT K H1 a xs)/\R (Itt K a) H1
def Zhj(hl:PE X l tl):PI X tg l (ZpZ X.K tl):=by
 intro pins s σ H R I h
 refine thn (hl pins s σ H _ I h) fun v s1 z0=>?_
 obtain ⟨x,H1,I1,r1,q1⟩:=z0
 obtain ⟨a,e,⟨xs,hq⟩,q⟩:=q1
 subst e
 cases r1
 obtain ⟨its,rv,p,hz⟩:=I1.list hq
 refine wpAny_pyIter_list p.isList ?_
 refine ⟨s1.heap.objs.size,[s1.heap.objs.size],_,_,H1,rfl,I1.kept (t':=s1.toks) fun b o e=>Heap.get?_push_of_some _ e,ZiO a _,⟨_,Heap.get?_push_size _ rfl,rfl,rfl⟩,fun b hb=>?_,q⟩
 have e:b=s1.heap.objs.size:=by simpa using hb
 subst e
 exact I1.fpOk (le_refl _) (I1.hok.fresh (le_refl _))
def ZiP(hl:PE X l tl):PI X tg l (iTup X.K tl):=by
 intro pins s σ H R I h
 refine thn (hl pins s σ H _ I h) fun v s1 z0=>?_
 obtain ⟨x,H1,I1,r1,q1⟩:=z0
 obtain ⟨a,e,⟨xs,hq⟩,q⟩:=q1
 subst e
 cases r1
 obtain ⟨its,rv,p,hz⟩:=I1.tuple hq
 refine wpAny_pyIter_tuple (show s1.heap.IsTuple a its.toArray from p) ?_
 refine ⟨s1.heap.objs.size,[s1.heap.objs.size],_,_,H1,rfl,I1.kept (t':=s1.toks) fun b o e=>Heap.get?_push_of_some _ e,ZhV a _,⟨_,Heap.get?_push_size _ rfl,rfl,rfl⟩,fun b hb=>?_,q⟩
 have e:b=s1.heap.objs.size:=by simpa using hb
 subst e
 exact I1.fpOk (le_refl _) (I1.hok.fresh (le_refl _))
def Zgg{σ:St}{R:It->Hp->Prop}{E:VS}{lo hi:Int}{t u v:Tok}{tk:Nat}(I:Inv X pins σ H s)(h1:-(2 ^ 62)<=lo)(h2:lo < 2 ^ 62)(h3:-(2 ^ 62)<=hi)(h4:hi < 2 ^ 62)
 (q:R (Itr lo (hi - lo).toNat) H):wpAny (model X.prog X.w) X.A (pyIter (.ref s.heap.objs.size)) (PIE X pins σ tg R) E { s with heap:=s.heap.push { cls:=.type "range",data:=.fields #[.int lo t,.int hi u,.int 1 v] },toks:=tk }:=by
 refine wpAny_pyIter_range (IsRange.new ..) (small_one h1 h2 h3 h4) ?_
 have I1:Inv X pins σ H { s with heap:=s.heap.push { cls:=.type "range",data:=.fields #[.int lo t,.int hi u,.int 1 v] },toks:=tk }:=I.kept fun b o e=>Heap.get?_push_of_some _ e
 refine ⟨(s.heap.push { cls:=.type "range",data:=.fields #[.int lo t,.int hi u,.int 1 v] }).objs.size,[(s.heap.push { cls:=.type "range",data:=.fields #[.int lo t,.int hi u,.int 1 v] }).objs.size],_,_,H,rfl,
  I1.kept (t':=tk) fun b o e=>Heap.get?_push_of_some _ e,ZhW _ lo (hi - lo).toNat,?_,fun b hb=>?_,q⟩
 . have e1:lo+((0:Nat):Int) * 1=lo:=by simp
   have e2:(((hi - lo).toNat:Nat):Int) - ((0:Nat):Int)=Builtin.Range.rangeSize lo hi 1:=by rw [rangeSize_one];split<;>omega
   show IsRangeIter _ _ (lo+((0:Nat):Int) * 1) ((((hi - lo).toNat:Nat):Int) - ((0:Nat):Int)) 1
   rw [e1,e2]
   exact Heap.get?_push_size _ rfl
 . have e:b=(s.heap.push { cls:=.type "range",data:=.fields #[.int lo t,.int hi u,.int 1 v] }).objs.size:=by simpa using hb
   subst e
   exact I1.fpOk (le_refl _) (I1.hok.fresh (le_refl _))
noncomputable def Zqa(ta:TA):TI:=fun σ H R=>ta σ H fun vs H1=>∃ j:Int,vs=[.int j]/\-(2 ^ 62)<=j/\j < 2 ^ 62/\R (Itr 0 j.toNat) H1
noncomputable def Zqb(ta:TA):TI:=fun σ H R=>ta σ H fun vs H1=>∃ i j:Int,vs=[.int i,.int j]/\(-(2 ^ 62)<=i/\i < 2 ^ 62/\-(2 ^ 62)<=j/\j < 2 ^ 62)/\R (Itr i (j - i).toNat) H1
theorem ZiQ{a:Expr}{ta:TA}{p:Pos}(hg:Gl X "range")(hm:X.mg "range"=none)(ha:PA X [a] ta)(hs:autoParam (starEach [a] X.env=[(false,eval a X.env)]) Q9):PI X tg (.Call (.Name "range" p) [a] [] pos) (Zqa ta):=by
 intro pins s σ H R I h
 refine Call_ (Zbv I hg hm boot_range (PyProof.Rows.callWith_type1 (thn (ha pos pins s σ H _ I h) fun us s1 z0=>?_) hs rfl))
 obtain ⟨vs,H1,I1,r1,q1⟩:=z0
 obtain ⟨j,e,q1,q2,q⟩:=q1
 subst e
 cases r1 with
 | cons r rr=>
  cases rr
  obtain ⟨t,rfl⟩:=r
  exact call_range_1 (Zgg I1 (by omega) (by omega) q1 q2 (by simpa using q))
theorem ZiR(hg:Gl X "range")(hm:X.mg "range"=none)(ha:PA X [a,b] ta)(hs:autoParam (starEach [a,b] X.env=[(false,eval a X.env),(false,eval b X.env)]) Q9)(hs2:autoParam (starEach [b] X.env=[(false,eval b X.env)]) Q9):
 PI X tg (.Call (.Name "range" p) [a,b] [] pos) (Zqb ta):=by
 intro pins s σ H R I h
 refine Call_ (Zbv I hg hm boot_range (PyProof.Rows.callWith_type1 (thn (ha pos pins s σ H _ I h) fun us s1 z0=>?_) (by show _=_;rw [hs,hs2]) (by show _=_;rw [hs2];rfl)))
 obtain ⟨vs,H1,I1,r1,q1⟩:=z0
 obtain ⟨i,j,e,⟨q1,q2,q3,q4⟩,q⟩:=q1
 subst e
 cases r1 with
 | cons r rr=>
  cases rr with
  | cons r' rr=>
   cases rr
   obtain ⟨t,rfl⟩:=r
   obtain ⟨t',rfl⟩:=r'
   exact call_range_2 (Zgg I1 q1 q2 q3 q4 q)
def tFor(wi:TI)(g:TG)(tb:TS):TS:=fun D σ H=>wi σ H fun J H1=>∃ W:Nat->Nat->St->Hp->Prop,(∃ m,W 0 m σ H1)/\∀ i m σ H,W i m σ H->
 (J.stop i H/\D.nx σ H)\/(J.go i H/\∃ N:St->Hp->Prop,(∀ σ' H',N σ' H'->∃ m',m' < m/\W (i+1) m' σ' H')/\∀ x H',J.yld i H x H'->g x σ H' fun σ2 H2=>tb { D with nx:=N,ct:=N,bk:=D.nx } σ2 H2)
noncomputable def Zda(fp:List Addr)(h:Heap):List (Addr×Obj):=fp.filterMap fun b=>(h.get? b).map fun o=>(b,o)
def ZaX(hb:b∈fp)(e:h.get? b=some o):(b,o)∈Zda fp h:=List.mem_filterMap.mpr ⟨b,hb,by rw [e];rfl⟩
theorem ZiS(hp:p∈Zda fp h):p.1∈fp/\h.get? p.1=some p.2:=by
 obtain ⟨b,hb,e⟩:=List.mem_filterMap.mp hp
 cases q:h.get? b with
 | none=>rw [q] at e;cases e
 | some o=>
  rw [q] at e
  have e':(b,o)=p:=Option.some.inj e
  subst e'
  exact ⟨hb,q⟩
def Inv.pinned(I:Inv X pins σ H s)(hf:∀ b∈fp,FpOk X pins H b)(ho:∀ b∈fp,∃ o,s.heap.get? b=some o/\∀ v,o.data≠.cell v):Inv X (pins++Zda fp s.heap) σ H s:=
 I.pins_of fun p hp=>(List.mem_append.mp hp).elim (fun z=>I.pin p (mem_append_right _ z)) fun z=>by
  obtain ⟨hb,e⟩:=ZiS z
  obtain ⟨f0,f1,f2,_⟩:=hf p.1 hb
  obtain ⟨o,e',d⟩:=ho p.1 hb
  rw [e] at e';cases e'
  exact ⟨e,f0,f1,f2,d⟩
def Inv.unpinned(I:Inv X (pins++pl) σ H s):Inv X pins σ H s:=I.pins_of fun p hp=>I.pin p (mem_append_right _ (List.mem_append_left _ hp))
def ZnN(hp:PassesOwn (model X.prog X.w) X.A X.env X.xe)(hc:X.calm=true)(hi:PI X tg iter wi)(hg:PG X tg g)(hb:PSs X body tb)
 (hs:∀ x,foldedSetIterable iter X.env x=pure x:=by intro _;rfl):PS X (.For tg iter body [] pos) (tFor wi g tb):=by
 intro pins s σ H D I h
 refine wpAny_For (thn (hi pins s σ H _ I h) fun v s1 h1=>thn h1 fun itv s2 h2=>?_) hs
 obtain ⟨it,fp,tn,J,H2,e,I2,T,st2,f2,W,⟨m0,w0⟩,turn⟩:=h2
 subst e
 have stat:∀{H':Hp},(∀ b∈fp,H' b=none)->∀ b∈fp,FpOk X pins H' b:=fun hn b hb=>⟨hn b hb,(f2 b hb).2⟩
 refine codeAny_forLoop_any (fun n s'=>∃ i σ' H',Inv X pins σ' H' s'/\tn i s'.heap/\(∀ b∈fp,H' b=none)/\W i n σ' H') ?_ m0 ⟨0,σ,H2,I2,st2,fun b hb=>(f2 b hb).1,w0⟩
 rintro n s3 ⟨i,σ3,H3,I3,st3,fr3,w3⟩
 rcases turn i n σ3 H3 w3 with ⟨stop,qn⟩|⟨go,N,hN,step⟩
 . refine wpAny_passesOwn hp (thn (T.done X rfl rfl rfl hc i pins s3 σ3 H3 X.xe I3 (stat fr3) st3 stop) fun r s4 z0=>?_)
   obtain ⟨hr,I4⟩:=z0
   subst hr
   exact wpAny_execs_nil ⟨σ3,H3,I4,qn⟩
 . refine wpAny_passesOwn hp (thn (T.item X rfl rfl rfl hc i pins s3 σ3 H3 X.xe I3 (stat fr3) st3 go) fun r s4 z0=>?_)
   obtain ⟨u,hr,h4⟩:=z0
   subst hr
   refine wpAny_passesOwn hp (thn h4 fun _ s5 z0=>?_)
   obtain ⟨x,H5,I5,r5,y5,st5,fr5⟩:=z0
   have I5':=I5.pinned (stat fr5) (T.obj _ _ st5)
   refine wpAny_passesOwn hp (thn (hg _ s5 σ3 H5 x u _ I5' r5 (step x H5 y5)) fun _ s6 z0=>?_)
   obtain ⟨σ6,H6,I6,q6⟩:=z0
   refine wpAny_passesOwn hp (thn (hb _ s6 σ6 H6 _ I6 q6) fun f s7 q7=>?_)
   have again:∀{σ7:St}{H7:Hp},Inv X (pins++Zda fp s5.heap) σ7 H7 s7->N σ7 H7->∃ m,m < n/\∃ i σ' H',Inv X pins σ' H' s7/\tn i s7.heap/\(∀ b∈fp,H' b=none)/\W i m σ' H':=fun{σ7 H7} I7 n7=>by
    obtain ⟨m',hm,w7⟩:=hN σ7 H7 n7
    refine ⟨m',hm,i+1,σ7,H7,I7.unpinned,T.keep _ _ _ st5 fun b hb o e=>(I7.pin (b,o) (mem_append_right _ (mem_append_right _ (ZaX hb e)))).1,fun b hb=>?_,w7⟩
    obtain ⟨o,e,d⟩:=T.obj _ _ st5 b hb
    exact (I7.pin (b,o) (mem_append_right _ (mem_append_right _ (ZaX hb e)))).2.1
   cases f with
   | next=>obtain ⟨σ7,H7,I7,n7⟩:=q7;exact again I7 n7
   | cont=>obtain ⟨σ7,H7,I7,n7⟩:=q7;exact again I7 n7
   | brk=>obtain ⟨σ7,H7,I7,q7⟩:=q7;exact ⟨σ7,H7,I7.unpinned,q7⟩
   | ret v=>obtain ⟨x7,σ7,H7,I7,r7,q7⟩:=q7;exact ⟨x7,σ7,H7,I7.unpinned,r7,q7⟩
end
abbrev R2:=V->V->Hp->VK->Prop
def OpR(X:Cx)(f:Value->Value->Sem Value)(r:R2):Prop:=
 ∀(pins:Pn)(s:Shared)(σ:St)(H:Hp)(x y:V)(v u:Value)(Q:VK),Inv X pins σ H s->RelV x v->RelV y u->r x y H Q->
  wpAny (model X.prog X.w) X.A (f v u) (EP X pins σ Q) X.xe s
def UnR(X:Cx)(f:Value->Sem Value)(r:V->Hp->VK->Prop):Prop:=
 ∀(pins:Pn)(s:Shared)(σ:St)(H:Hp)(x:V)(v:Value)(Q:VK),Inv X pins σ H s->RelV x v->r x H Q->
  wpAny (model X.prog X.w) X.A (f v) (EP X pins σ Q) X.xe s
def Zaj(X:Cx)(f:Value)(r:List V->Hp->VK->Prop):Prop:=
 ∀(pins:Pn)(s:Shared)(σ:St)(H:Hp)(xs:List V)(us:List Value)(Q:VK),Inv X pins σ H s->Vals xs us->r xs H Q->
  wpAny (model X.prog X.w) X.A (call f us) (EP X pins σ Q) X.xe s
def TruR(X:Cx)(r:V->Hp->(Bool->Hp->Prop)->Prop):Prop:=
 ∀(pins:Pn)(s:Shared)(σ:St)(H:Hp)(x:V)(v:Value)(Q:Bool->Hp->Prop),Inv X pins σ H s->RelV x v->r x H Q->
  wpAny (model X.prog X.w) X.A (truthy v) (TP X pins σ Q) X.xe s
def tOp(r:R2)(ta tb:TE):TE:=fun σ H Q=>ta σ H fun x H1=>tb σ H1 fun y H2=>r x y H2 Q
def tUn(r:V->Hp->VK->Prop)(ta:TE):TE:=fun σ H Q=>ta σ H fun x H1=>r x H1 Q
def rI(C:Int->Int->Prop)(g:Int->Int->V):R2:=fun x y H Q=>∃ i j,x=.int i/\y=.int j/\C i j/\Q (g i j) H
def rI0(g:Int->Int->V):R2:=fun x y H Q=>∃ i j,x=.int i/\y=.int j/\Q (g i j) H
def rU(g:Int->V):V->Hp->VK->Prop:=fun x H Q=>∃ i,x=.int i/\Q (g i) H
section
variable{a b c:Expr}{ta tb tc:TE}
def binT(ha:PE X a ta)(hb:PE X b tb){σ:St}{R:V->V->Hp->Prop}(I:Inv X pins σ H s)
 (h:ta σ H fun x H1=>tb σ H1 fun y H2=>R x y H2) {Q:VS} {f:Value->Value->Sem Value}
 (hf:∀ v u s2 x y H2,Inv X pins σ H2 s2->RelV x v->RelV y u->R x y H2->wpAny (model X.prog X.w) X.A (f v u) Q X.xe s2):
 wpAny (model X.prog X.w) X.A (eval a X.env) (fun v s₁=>wpAny (model X.prog X.w) X.A (eval b X.env) (fun u s₂=>wpAny (model X.prog X.w) X.A (f v u) Q X.xe s₂) X.xe s₁) X.xe s:=by
 refine thn (ha pins s σ H _ I h) fun v s1 z0=>?_
 obtain ⟨x,H1,I1,r1,q1⟩:=z0
 refine thn (hb pins s1 σ H1 _ I1 q1) fun u s2 z0=>?_
 obtain ⟨y,H2,I2,r2,q2⟩:=z0
 exact hf v u s2 x y H2 I2 r1 r2 q2
def Zqc{op:Operator}{r:R2}(ho:OpR X (binaryOp op) r)(ha:PE X a ta)(hb:PE X b tb):PE X (.BinOp a op b pos) (tOp r ta tb):=by
 intro pins s σ H Q I h
 exact wpAny_BinOp (binT ha hb I h fun v u s2 x y H2 I2 rx ry q=>ho pins s2 σ H2 x y v u Q I2 rx ry q)
def Zqd(ho:UnR X (unaryOp op) r)(ha:PE X a ta):PE X (.UnaryOp op a pos) (tUn r ta):=by
 intro pins s σ H Q I h
 exact UnaryOp_ (thn (ha pins s σ H _ I h) fun v s1 z90=>by obtain ⟨x,H1,I1,r1,q1⟩:=z90;exact ho pins s1 σ H1 x v Q I1 r1 q1)
def opI{f:Value->Value->Sem Value}{C:Int->Int->Prop}{g:Int->Int->Int}
 (rule:∀(i j:Int)(t u:Tok)(s:Shared)(Q:VS)(E:VS),C i j->Q (.int (g i j) s.toks) { s with toks:=s.toks+1 }->wpAny (model X.prog X.w) X.A (f (.int i t) (.int j u)) Q E s):
 OpR X f (rI C fun i j=>.int (g i j)):=by
 intro pins s σ H x y v u Q I rx ry h
 obtain ⟨i,j,rfl,rfl,hc,q⟩:=h
 obtain ⟨t,rfl⟩:=rx
 obtain ⟨t',rfl⟩:=ry
 exact rule i j t t' s _ _ hc ⟨.int (g i j),H,I.tok _,⟨_,rfl⟩,q⟩
def opI0{f:Value->Value->Sem Value}{g:Int->Int->Int}
 (rule:∀(i j:Int)(t u:Tok)(s:Shared)(Q:VS)(E:VS),Q (.int (g i j) s.toks) { s with toks:=s.toks+1 }->wpAny (model X.prog X.w) X.A (f (.int i t) (.int j u)) Q E s):
 OpR X f (rI0 fun i j=>.int (g i j)):=by
 intro pins s σ H x y v u Q I rx ry h
 obtain ⟨i,j,rfl,rfl,q⟩:=h
 obtain ⟨t,rfl⟩:=rx
 obtain ⟨t',rfl⟩:=ry
 exact rule i j t t' s _ _ ⟨.int (g i j),H,I.tok _,⟨_,rfl⟩,q⟩
def opB0{f:Value->Value->Sem Value}{g:Int->Int->Bool}
 (rule:∀(i j:Int)(t u:Tok)(s:Shared)(Q:VS)(E:VS),Q (.bool (g i j)) s->wpAny (model X.prog X.w) X.A (f (.int i t) (.int j u)) Q E s):
 OpR X f (rI0 fun i j=>.bl (g i j)):=by
 intro pins s σ H x y v u Q I rx ry h
 obtain ⟨i,j,rfl,rfl,q⟩:=h
 obtain ⟨t,rfl⟩:=rx
 obtain ⟨t',rfl⟩:=ry
 exact rule i j t t' s _ _ ⟨.bl (g i j),H,I,rfl,q⟩
def CPow(i j:Int):Prop:=0<=j/\j<=1000000/\i.natAbs < 2 ^ 64
def CMul(i j:Int):Prop:=(-(2 ^ 64) < i/\i < 2 ^ 64)\/(-(2 ^ 64) < j/\j < 2 ^ 64)
def CMul.ok(h:CMul i j):IntMulOk i j:=by
 rcases h with ⟨h1,h2⟩|⟨h1,h2⟩
 . exact .of_left (intBits_le_64 h1 h2)
 . exact .of_right (intBits_le_64 h1 h2)
def ZnO:OpR X (binaryOp .Add) (rI0 fun i j=>.int (i+j)):=opI0 fun _ _ _ _ _ _ _ q=>add_int q
def ZnP:OpR X (binaryOp .Sub) (rI0 fun i j=>.int (i - j)):=opI0 fun _ _ _ _ _ _ _ q=>sub_int q
def ZnQ:OpR X (binaryOp .Mult) (rI CMul fun i j=>.int (i * j)):=opI fun _ _ _ _ _ _ _ hc q=>mul_int q hc.ok
def ZnR:OpR X (binaryOp .Mod) (rI (fun _ j=>0 < j) fun i j=>.int (i % j)):=opI fun i j _ _ _ _ _ hc q=>by
 have h1:(0:Int) < j:=hc
 exact mod_int' (by omega) (by rw [Int.fmod_eq_emod_of_nonneg i (by omega)];exact q)
def ZnS:OpR X (binaryOp .Pow) (rI CPow fun i j=>.int (i ^ j.toNat)):=opI fun _ _ _ _ _ _ _ hc q=>pow_int_small hc.1 hc.2.1 hc.2.2 q
def unI{f:Value->Sem Value}{g:Int->Int}
 (rule:∀(i:Int)(t:Tok)(s:Shared)(Q:VS)(E:VS),Q (.int (g i) s.toks) { s with toks:=s.toks+1 }->wpAny (model X.prog X.w) X.A (f (.int i t)) Q E s):
 UnR X f (rU fun i=>.int (g i)):=by
 intro pins s σ H x v Q I rx h
 obtain ⟨i,rfl,q⟩:=h
 obtain ⟨t,rfl⟩:=rx
 exact rule i t s _ _ ⟨.int (g i),H,I.tok _,⟨_,rfl⟩,q⟩
def ZnT:UnR X (unaryOp .USub) (rU fun i=>.int (-i)):=unI fun _ _ _ _ _ q=>neg_int q
end
noncomputable def scal:V->V->Bool
 | .non,.non=>true|.non,.int _=>true|.int _,.non=>true|.non,.bl _=>true|.bl _,.non=>true|.non,.str _=>true|.str _,.non=>true
 | .int _,.int _=>true|.bl _,.bl _=>true|.str _,.str _=>true|.byt _,.byt _=>true
 | .int _,.str _=>true|.str _,.int _=>true|.bl _,.str _=>true|.str _,.bl _=>true
 | _,_=>false
def rEq:R2:=fun x y H Q=>scal x y=true/\Q (.bl (decide (x=y))) H
def rNe:R2:=fun x y H Q=>scal x y=true/\Q (.bl (!decide (x=y))) H
def Zhk:decide (V.int i=V.int j)=(i == j):=by
 rw [Bool.eq_iff_iff]
 simp
def ZiT:decide (V.bl i=V.bl j)=(i == j):=by
 rw [Bool.eq_iff_iff]
 simp
def Zhl:decide (V.str i=V.str j)=(i == j):=by
 rw [Bool.eq_iff_iff]
 simp
def Zhm:decide (V.byt i=V.byt j)=(i.toList == j.toList):=by
 rw [Bool.eq_iff_iff]
 cases i
 cases j
 simp
section
variable{a b c:Expr}{ta tb tc:TE}
def Zy(I:Inv X pins σ H s)(q:Q (.bl k) H)(e:k=k'):EP X pins σ Q (.bool k') s:=by
 subst e
 exact ⟨.bl k,H,I,rfl,q⟩
theorem Zqe:OpR X (compareOp .Eq) rEq:=by
 intro pins s σ H x y v u Q I rx ry h
 obtain ⟨hs,q⟩:=h
 cases x with
 | non=>
  cases rx
  cases y with
  | non=>cases ry;exact PySem.EqNone.eq_none_none (Zy I q (by simp))
  | bl j=>cases ry;exact PySem.EqNone.eq_none_bool (Zy I q (by simp))
  | int j=>obtain ⟨t',rfl⟩:=ry;exact PySem.EqNone.eq_none_int (Zy I q (by simp))
  | str j=>obtain ⟨t',rfl⟩:=ry;exact PySem.EqNone.eq_none_str (Zy I q (by simp))
  | _=>exact absurd (show false=true from hs) Bool.false_ne_true
 | bl i=>
  cases rx
  cases y with
  | non=>cases ry;exact PySem.EqNone.eq_bool_none (Zy I q (by simp))
  | bl j=>cases ry;exact eq_bool (Zy I q ZiT)
  | str j=>obtain ⟨t',rfl⟩:=ry;exact PySem.EqMixed.eq_bool_str (Zy I q (by simp))
  | _=>exact absurd (show false=true from hs) Bool.false_ne_true
 | int i=>
  obtain ⟨t,rfl⟩:=rx
  cases y with
  | non=>cases ry;exact PySem.EqNone.eq_int_none (Zy I q (by simp))
  | int j=>obtain ⟨t',rfl⟩:=ry;exact eq_int (Zy I q Zhk)
  | str j=>obtain ⟨t',rfl⟩:=ry;exact PySem.EqMixed.eq_int_str (Zy I q (by simp))
  | _=>exact absurd (show false=true from hs) Bool.false_ne_true
 | str i=>
  obtain ⟨t,rfl⟩:=rx
  cases y with
  | non=>cases ry;exact PySem.EqNone.eq_str_none (Zy I q (by simp))
  | bl j=>cases ry;exact PySem.EqMixed.eq_str_bool (Zy I q (by simp))
  | int j=>obtain ⟨t',rfl⟩:=ry;exact PySem.EqMixed.eq_str_int (Zy I q (by simp))
  | str j=>obtain ⟨t',rfl⟩:=ry;exact eq_str (Zy I q Zhl)
  | _=>exact absurd (show false=true from hs) Bool.false_ne_true
 | byt i=>
  obtain ⟨t,rfl⟩:=rx
  cases y with
  | byt j=>obtain ⟨t',rfl⟩:=ry;exact PySem.W.eq_bytes (Zy I q Zhm)
  | _=>exact absurd (show false=true from hs) Bool.false_ne_true
 | _=>cases y<;>exact absurd (show false=true from hs) Bool.false_ne_true
theorem Zqf:OpR X (compareOp .NotEq) rNe:=by
 intro pins s σ H x y v u Q I rx ry h
 obtain ⟨hs,q⟩:=h
 cases x with
 | non=>
  cases rx
  cases y with
  | non=>cases ry;exact PySem.EqNone.ne_none_none (Zy I q (by simp))
  | bl j=>cases ry;exact PySem.EqNone.ne_none_bool (Zy I q (by simp))
  | int j=>obtain ⟨t',rfl⟩:=ry;exact PySem.EqNone.ne_none_int (Zy I q (by simp))
  | str j=>obtain ⟨t',rfl⟩:=ry;exact PySem.EqNone.ne_none_str (Zy I q (by simp))
  | _=>exact absurd (show false=true from hs) Bool.false_ne_true
 | bl i=>
  cases rx
  cases y with
  | non=>cases ry;exact PySem.EqNone.ne_bool_none (Zy I q (by simp))
  | bl j=>cases ry;exact ne_bool (Zy I q (congrArg not ZiT))
  | str j=>obtain ⟨t',rfl⟩:=ry;exact PySem.EqMixed.ne_bool_str (Zy I q (by simp))
  | _=>exact absurd (show false=true from hs) Bool.false_ne_true
 | int i=>
  obtain ⟨t,rfl⟩:=rx
  cases y with
  | non=>cases ry;exact PySem.EqNone.ne_int_none (Zy I q (by simp))
  | int j=>obtain ⟨t',rfl⟩:=ry;exact ne_int (Zy I q (congrArg not Zhk))
  | str j=>obtain ⟨t',rfl⟩:=ry;exact PySem.EqMixed.ne_int_str (Zy I q (by simp))
  | _=>exact absurd (show false=true from hs) Bool.false_ne_true
 | str i=>
  obtain ⟨t,rfl⟩:=rx
  cases y with
  | non=>cases ry;exact PySem.EqNone.ne_str_none (Zy I q (by simp))
  | bl j=>cases ry;exact PySem.EqMixed.ne_str_bool (Zy I q (by simp))
  | int j=>obtain ⟨t',rfl⟩:=ry;exact PySem.EqMixed.ne_str_int (Zy I q (by simp))
  | str j=>obtain ⟨t',rfl⟩:=ry;exact ne_str (Zy I q (congrArg not Zhl))
  | _=>exact absurd (show false=true from hs) Bool.false_ne_true
 | byt i=>
  obtain ⟨t,rfl⟩:=rx
  cases y with
  | byt j=>obtain ⟨t',rfl⟩:=ry;exact PySem.W.ne_bytes (Zy I q (congrArg not Zhm))
  | _=>exact absurd (show false=true from hs) Bool.false_ne_true
 | _=>cases y<;>exact absurd (show false=true from hs) Bool.false_ne_true
def Zqg:OpR X (compareOp .Lt) (rI0 fun i j=>.bl (decide (i < j))):=opB0 fun _ _ _ _ _ _ _ q=>lt_int q
def Zqh:OpR X (compareOp .LtE) (rI0 fun i j=>.bl (decide (i<=j))):=opB0 fun _ _ _ _ _ _ _ q=>le_int q
def Zqi:OpR X (compareOp .Gt) (rI0 fun i j=>.bl (decide (j < i))):=opB0 fun _ _ _ _ _ _ _ q=>gt_int q
def Zqj:OpR X (compareOp .GtE) (rI0 fun i j=>.bl (decide (j<=i))):=opB0 fun _ _ _ _ _ _ _ q=>ge_int q
def nomark(b:Expr)(h:autoParam (op≠.In) Q7)(h2:autoParam (op≠.NotIn) Q7):behindInMarks op b=false:=by
 have e1:(op == CmpOp.In)=false:=by cases op<;>first|rfl|exact absurd rfl h
 have e2:(op == CmpOp.NotIn)=false:=by cases op<;>first|rfl|exact absurd rfl h2
 cases b<;>simp [behindInMarks,e1,e2]
def Zmg(ho:OpR X (compareOp op) r)(ha:PE X a ta)(hb:PE X b tb)(hm:behindInMarks op b=false):PE X (.Compare a [op] [b] pos) (tOp r ta tb):=by
 intro pins s σ H Q I h
 exact wpAny_Compare1 (binT ha hb I h fun v u s2 x y H2 I2 rx ry q=>ho pins s2 σ H2 x y v u Q I2 rx ry q) hm
def Zqk(t:TE):TT:=fun σ H Q=>t σ H fun x H'=>∃ k,x=.bl k/\Q k H'
def Zmh(ho:OpR X (compareOp op) r)(ha:PE X a ta)(hb:PE X b tb)(hm:behindInMarks op b=false):PT X (.Compare a [op] [b] pos) (Zqk (tOp r ta tb)):=by
 intro pins s σ H Q I h
 refine wpAny_isTrue_Compare1 (thn (ha pins s σ H _ I h) fun v s1 ⟨x,H1,I1,r1,q1⟩=>thn (hb pins s1 σ H1 _ I1 q1) fun u s2 ⟨y,H2,I2,r2,q2⟩=>
  thn (ho pins s2 σ H2 x y v u _ I2 r1 r2 q2) fun c s3 ⟨z,H3,I3,r3,k,e,q3⟩=>?_) hm
 subst e
 cases r3
 exact wpAny_truthy_bool ⟨H3,I3,q3⟩
def ZiU(r r':R2)(ta tb tc:TE):TE:=fun σ H Q=>ta σ H fun x H1=>tb σ H1 fun y H2=>r x y H2 fun z H3=>∃ k,z=.bl k/\
 (if k=true then tc σ H3 fun w' H4=>r' y w' H4 Q else Q (.bl false) H3)
theorem Zkd(ho:OpR X (compareOp op) r)(ho':OpR X (compareOp op') r')(ha:PE X a ta)(hb:PE X b tb)(hc:PE X c tc)
 (hm:lastMarks [op,op'] [b,c]=false:=by with_unfolding_all rfl):PE X (.Compare a [op,op'] [b,c] pos) (ZiU r r' ta tb tc):=by
 intro pins s σ H Q I h
 refine Compare_chain (thn (ha pins s σ H _ I h) fun v s1 ⟨x,H1,I1,r1,q1⟩=>chain_link (thn (hb pins s1 σ H1 _ I1 q1) fun u s2 ⟨y,H2,I2,r2,q2⟩=>
  thn (ho pins s2 σ H2 x y v u _ I2 r1 r2 q2) fun d s3 ⟨z,H3,I3,r3,k,e,q3⟩=>?_)) hm
 subst e
 cases r3
 refine wpAny_truthy_bool ?_
 cases k with
 | false=>exact ite_ff ⟨.bl false,H3,I3,rfl,q3⟩
 | true=>exact ite_tt (chain_last (thn (hc pins s3 σ H3 _ I3 q3) fun w' s4 z90=>by obtain ⟨z',H4,I4,r4,q4⟩:=z90;exact ho' pins s4 σ H4 y z' u w' Q I4 r2 r4 q4))
def TruV(K:Fg)(x:V)(H:Hp)(k:Bool):Prop:=
 match x with
 | .non=>k=false
 | .bl b=>k=b
 | .int i=>k=(i != 0)
 | .str y=>y.length<=sizeLine/\k=((y.length:Int) != 0)
 | .byt y=>y.size<=sizeLine/\k=((y.size:Int) != 0)
 | .ref p=>(∃ xs,SqL K H p xs/\k=!xs.isEmpty)\/(∃ xs,SqT K H p xs/\k=!xs.isEmpty)\/∃ kvs,H p=some (.dK kvs)/\k=!kvs.isEmpty
 | _=>False
def ZhX(r:KV kvs vs):(!vs.isEmpty)=!kvs.isEmpty:=by
 cases r<;>rfl
def ZeG(r:Vals xs its):(!its.toArray.isEmpty)=!xs.isEmpty:=by
 cases r<;>simp
def Zd8:(sizeLine:Nat) < 2 ^ 63:=by rw [sizeLine_eq];decide
theorem ZnU:TruR X (fun x H Q=>∃ k,TruV X.K x H k/\Q k H):=by
 intro pins s σ H x v Q I rx h
 obtain ⟨k,e,q⟩:=h
 have hl:=Zd8
 have hs:sizeLine=16777216:=sizeLine_eq
 cases x with
 | non=>
  cases rx
  have e':k=false:=e
  subst e'
  exact truthy_none ⟨H,I,q⟩
 | bl b=>
  cases rx
  have e':k=b:=e
  subst e'
  exact wpAny_truthy_bool ⟨H,I,q⟩
 | int i=>
  obtain ⟨t,rfl⟩:=rx
  have e':k=(i != 0):=e
  subst e'
  exact PySem.P.truthy_int ⟨H,I,q⟩
 | str y=>
  obtain ⟨t,rfl⟩:=rx
  obtain ⟨hy,e'⟩:y.length<=sizeLine/\k=((y.length:Int) != 0):=e
  subst e'
  exact PySem.P.truthy_str (by omega) ⟨H,I.tok _,q⟩
 | byt y=>
  obtain ⟨t,rfl⟩:=rx
  obtain ⟨hy,e'⟩:y.size<=sizeLine/\k=((y.size:Int) != 0):=e
  subst e'
  exact PySem.W.truthy_bytes (by omega) ⟨H,I.tok _,q⟩
 | ref p=>
  cases rx
  have e':(∃ xs,SqL X.K H p xs/\k=!xs.isEmpty)\/(∃ xs,SqT X.K H p xs/\k=!xs.isEmpty)\/∃ kvs,H p=some (.dK kvs)/\k=!kvs.isEmpty:=e
  rcases e' with ⟨xs,hx,e'⟩|⟨xs,hx,e'⟩|⟨kvs,hx,e'⟩
  . subst e'
    obtain ⟨its,r,pl,hz⟩:=I.list hx
    have hlen:=r.length
    exact wpAny_truthy_list pl.isList (by simp only [size_toArray];omega) ⟨H,I.tok _,by rw [ZeG r];exact q⟩
  . subst e'
    obtain ⟨its,r,pl,hz⟩:=I.tuple hx
    have hlen:=r.length
    exact truthy_tuple pl (by simp only [size_toArray];omega) ⟨H,I.tok _,by rw [ZeG r];exact q⟩
  . subst e'
    obtain ⟨hz,hS,vs,r,m⟩:kvs.length<=sizeLine/\(p == sysModules)=false/\∃ vs,KV kvs vs/\s.heap.DictOf (ZT X.prog X.w) p vs:=I.hok p _ hx
    have hlen:kvs.length=vs.length:=Paired.length r
    exact wpAny_truthy_dict hS m (by omega) ⟨H,I.tok _,by rw [ZhX r];exact q⟩
 | _=>exact (show False from e).elim
def Zke(ha:PE X a ta)(he:∀ whole,isTrue a X.env whole=(do let v <- whole;standAt a.pos;holding [v] (truthy v))):
 PT X a (fun σ H Q=>ta σ H fun x H'=>∃ k,TruV X.K x H' k/\Q k H'):=by
 intro pins s σ H Q I h
 exact isTrue_plain (thn (ha pins s σ H _ I h) fun v s1 z90=>by obtain ⟨x,H1,I1,r1,q1⟩:=z90;exact ZnU pins s1 σ H1 x v Q I1 r1 q1) (he _)
theorem ZhY(r:Vals [x] us):∃ u,us=[u]/\RelV x u:=by
 cases r with
 | cons r1 r2=>cases r2;exact ⟨_,rfl,r1⟩
theorem Zql(r:Vals [x,y] us):∃ u w',us=[u,w']/\RelV x u/\RelV y w':=by
 cases r with
 | cons r1 r2=>
  cases r2 with
  | cons r3 r4=>cases r4;exact ⟨_,_,rfl,r1,r3⟩
def ZiV(hc:X.calm=true):Zaj X (.builtin "min") (fun xs H Q=>∃ i j,xs=[.int i,.int j]/\Q (.int (if j < i then j else i)) H):=by
 intro pins s σ H xs us Q I r h
 obtain ⟨i,j,rfl,q⟩:=h
 obtain ⟨u,w',rfl,⟨t,rfl⟩,⟨t',rfl⟩⟩:=Zql r
 refine min_two_ints (I.ok.hd hc) fun h' tk k=>⟨_,H,I.kept k,?_,q⟩
 by_cases hj:j < i
 . rw [if_pos hj,if_pos hj];exact ⟨_,rfl⟩
 . rw [if_neg hj,if_neg hj];exact ⟨_,rfl⟩
end
structure ObjM(h:Heap)(x dx C:Addr)(mA:SO):Prop where
 obj:h.get? x=some (instObj C dx)
 ns:h.Ns1 dx mA
 ne:dx≠x
def Zf7{dx:Addr}(n:h.Ns1 dx mA):∃ od,h.get? dx=some od/\∀ name,lookIn name od=some (mA name):=by
 obtain ⟨o,es,ep,ho,hd,hk,_,hm⟩:=n
 refine ⟨o,ho,fun name=>?_⟩
 have e:=hm name
 unfold nsFind findBy at e
 rw [<- Array.find?_toList] at e
 unfold lookIn
 rw [hd]
 dsimp only
 split
 . rename_i y q
   rw [q] at e
   exact congrArg some e
 . rename_i q
   rw [q] at e
   have a:es.toList.any (·.refKey)=false:=by
    rw [List.any_eq_false]
    intro y hy
    obtain ⟨z,t,hkey⟩:=hk y (Array.mem_toList_iff.mp hy)
    simp [DictEntry.refKey,hkey]
   have a':¬ es.toList.any (·.refKey)=true:=by rw [a];exact Bool.false_ne_true
   rw [if_neg a']
   exact congrArg some e
def ObjM.look(I:ObjM h x dx C mA):∃ od,PySem.W.InstAt h x (instObj C dx) C (some od)/\∀ name,lookIn name od=some (mA name):=
 let ⟨od,ho,hl⟩:=Zf7 I.ns
 ⟨od,⟨I.obj,rfl,rfl,ho⟩,hl⟩
section
variable{prog:Program}{w:World}{A:Around}{E:VS}{K:Fg}{x dx C f:Addr}{v:Value}
def Zmi(X:K.In s.heap)(I:ObjM s.heap x dx C mA)(hg:plainGet K C name=true)(hh:hasDictIn K C=true)
 (ha:findIn K (.ref C) name=some none) (hv:mA name=some v) (hv':handedIn v=true) (h:Q v { s with toks:=s.toks+1 }):
 wpAny (model prog w) A (getAttr (.ref x) name expr) Q E s:=by
 obtain ⟨od,J,hl⟩:=I.look
 exact PySem.W.get_value X J (plainGet_of hg).1 (PySem.W.findObj_own hh ha rfl (by rw [hl,hv])) hv' h
def Zkf(X:K.In s.heap)(I:ObjM s.heap x dx C mA)(hg:plainGet K C name=true)
 (hf:findIn K (.ref C) name=some (some (.ref f))) (ht:isFn K (.ref f)=true) (hv:mA name=none) (h:Q (.ref f,[.ref x]) s):
 wpAny (model prog w) A (getMethod (.ref x) name pl) Q E s:=by
 obtain ⟨od,J,hl⟩:=I.look
 exact PySem.W.method_fn X J (plainGet_of hg).1 (plainGet_of hg).2 hf (beq_iff_eq.mp ht) (by show (lookIn name od).map (·.isSome)=some false;rw [hl,hv];rfl) h
def Zmj(X:K.In s.heap)(I:ObjM s.heap x dx C mA)
 (hs:findIn K (.ref C) "__setattr__"=some (some (.builtin "object.__setattr__"))) (hp:plainOver K C=true) (ht:takerIn K C name=some none) (hh:hasDictIn K C=true)
 (hw:PySem.Within mA ns) (hsz:ns.length<=sizeLine)
 (h:∀ h',ObjM h' x dx C (fun y=>if y=name then some v else mA y)->Heap.SameBut dx s.heap h'->Q () { s with heap:=h',toks:=s.toks+2 }):
 wpAny (model prog w) A (setAttr (.ref x) name v) Q E s:=by
 obtain ⟨od,J,hl⟩:=I.look
 refine PySem.W.set_plain X J hs (PySem.W.osa_open (s:={ s with toks:=s.toks+1 }) (r:=none) X J hp ht fun b=>?_)
 obtain ⟨cd,hc,hd'⟩:=PySem.W.any_some hh
 have hx:s.heap.get? x=some ⟨.ref C,some dx,.plain,#[]⟩:=I.obj
 refine wpAny_bind (wpAny_pure (wpAny_bind (wpAny_bind (wpAny_loadPart hx (wpAny_bind (here (s:={ s with toks:=s.toks+1 }) (looks_clsIn X hc) ?_))))))
 rw [hd']
 refine wpAny_pure (a:=some dx) (wpAny_bind (wpAny_pure (wpAny_bind ?_)))
 refine wpAny_nsSet1 (s:={ s with toks:=s.toks+1 }) I.ns fun h' hn2 hs2=>?_
 obtain ⟨oD,esD,epD,hoD,hdD,hcD⟩:=hn2.count (PySem.Within.cons name v hw)
 refine wpAny_bind (wpAny_lookBehind hoD (by rw [hdD];exact pastItsLine_dict (le_trans hcD (by rw [length_cons];omega))) ?_)
 exact wpAny_pure (h _ ⟨(hs2.2 _ (Ne.symm I.ne)).trans I.obj,hn2,I.ne⟩ hs2)
def Zkg(X:K.In s.heap)(hm:makesIn K C=true)
 (hi:findIn K (.ref C) "__init__"=some (some (.ref f))) (hf:typeIn K (.ref f)=some (.type "function"))
 (h:codeAny (model prog w) (A.under (.builtin "type.__call__" ⟨.ref C::vs,kw⟩)) (.call (.ref f) ⟨.ref (s.heap.objs.size+1)::vs,kw⟩) (PySem.W.InitBack (s.heap.objs.size+1) R)
  { s with heap:=(s.heap.push emptyDict).push (instObj C s.heap.objs.size) }):
 codeAny (model prog w) A (.call (.ref C) ⟨vs,kw⟩) R s:=by
 obtain ⟨hh,g,d,t,os⟩:=s
 exact PySem.W.make_core (PySem.W.makes_of X hm) (looks_findIn X hi) (fun self=>PySem.W.bind_fn X self hf) (.inl rfl) h
end
noncomputable def putF(f:Str)(v:V):List (Str×V)->List (Str×V)
 | []=>[(f,v)]
 | (g,x)::r=>if g=f then (g,v)::r else (g,x)::putF f v r
theorem ZcT(f g:Str)(v:V):∀ fs:List (Str×V),(putF f v fs).lookup g=if g=f then some v else fs.lookup g
 | []=>by
  show List.lookup g [(f,v)]=_
  by_cases h:g=f
  . have hb:(g == f)=true:=beq_iff_eq.mpr h
    simp only [List.lookup,hb,if_pos h]
  . have hb:(g == f)=false:=beq_eq_false_iff_ne.mpr h
    simp only [List.lookup,hb,if_neg h]
 | (k,x)::r=>by
  have ih:=ZcT f g v r
  rw [show putF f v ((k,x)::r)=(if k=f then (k,v)::r else (k,x)::putF f v r) from rfl]
  by_cases hk:k=f
  . rw [if_pos hk]
    by_cases h:g=k
    . have hb:(g == k)=true:=beq_iff_eq.mpr h
      simp only [List.lookup,hb,if_pos (h.trans hk)]
    . have hb:(g == k)=false:=beq_eq_false_iff_ne.mpr h
      simp only [List.lookup,hb,if_neg (fun e:g=f=>h (e.trans hk.symm))]
  . rw [if_neg hk]
    by_cases h:g=k
    . have hb:(g == k)=true:=beq_iff_eq.mpr h
      simp only [List.lookup,hb,if_neg (fun e:g=f=>hk (h.symm.trans e))]
    . have hb:(g == k)=false:=beq_eq_false_iff_ne.mpr h
      simp only [List.lookup,hb]
      exact ih
theorem ZbU(f:Str)(v:V):∀ fs:List (Str×V),f∈(putF f v fs).map (·.1)/\∀ g,g∈fs.map (·.1)->g∈(putF f v fs).map (·.1)
 | []=>⟨by simp [putF],fun g h=>by simp at h⟩
 | (k,x)::r=>by
  obtain ⟨i1,i2⟩:=ZbU f v r
  rw [show putF f v ((k,x)::r)=(if k=f then (k,v)::r else (k,x)::putF f v r) from rfl]
  by_cases hk:k=f
  . rw [if_pos hk]
    subst hk
    exact ⟨by simp,fun g h=>by simpa using h⟩
  . rw [if_neg hk]
    refine ⟨?_,fun g h=>?_⟩
    . rw [map_cons]
      exact mem_cons_of_mem _ i1
    . rw [map_cons] at h ⊢
      rcases List.mem_cons.mp h with e|e
      . exact List.mem_cons.mpr (.inl e)
      . exact mem_cons_of_mem _ (i2 g e)
theorem ZcU(f:Str)(v:V):∀ fs:List (Str×V),(putF f v fs).length<=fs.length+1
 | []=>by simp [putF]
 | (k,x)::r=>by
  have ih:=ZcU f v r
  rw [show putF f v ((k,x)::r)=(if k=f then (k,v)::r else (k,x)::putF f v r) from rfl]
  by_cases hk:k=f
  . rw [if_pos hk,length_cons,length_cons];omega
  . rw [if_neg hk,length_cons,length_cons];omega
theorem RelO.some_of(r:RelO (some v) o):∃ u,o=some u/\RelV v u:=by
 cases o with
 | none=>exact (show False from r).elim
 | some u=>exact ⟨u,rfl,r⟩
theorem RelO.none_of(r:RelO none o):o=none:=by
 cases o with
 | none=>rfl
 | some u=>exact (show False from r).elim
theorem Zf8(r:RelV v u):handedIn u=true:=by
 cases v with
 | non=>cases (show u=Value.none from r);rfl
 | bl b=>cases (show u=Value.bool b from r);rfl
 | int i=>obtain ⟨t,e⟩:=(show ∃ t,u=Value.int i t from r);cases e;rfl
 | str x=>obtain ⟨t,e⟩:=(show ∃ t,u=Value.str x t from r);cases e;rfl
 | byt b=>obtain ⟨t,e⟩:=(show ∃ t,u=Value.bytes b t from r);cases e;rfl
 | flt b=>obtain ⟨t,e⟩:=(show ∃ t,u=Value.float b t from r);cases e;rfl
 | ref a=>cases (show u=Value.ref a from r);rfl
 | ty n=>cases (show u=Value.type n from r);rfl
section
def ZdZ(hok:HOk P w H h)(e:H a=some (.ins C dx fs)):∃ mA,ObjM h a dx C mA/\(∀ f,RelO (fs.lookup f) (mA f))/\PySem.Within mA (fs.map (·.1))/\fs.length<=1000/\H dx=some (.own a):=by
 obtain ⟨d,z,ne,ob,mA,n,r,q⟩:=(show ZE P w H h a (.ins C dx fs) from hok a _ e)
 exact ⟨mA,⟨ob,n,ne⟩,r,q,z,d⟩
end
structure Cls(K:Fg)(C:Addr):Prop where
 pg:plainGet K C Str.empty=true
 hd:hasDictIn K C=true
 po:plainOver K C=true
 sa:findIn K (.ref C) "__setattr__"=some (some (.builtin "object.__setattr__"))
def Cls.get{K:Fg}{C:Addr}(c:Cls K C)(f:Str):plainGet K C f=true:=c.pg
def Zaa(K:Fg)(C:Addr)(f:Str):Prop:=findIn K (.ref C) f=some none
def Zaa.taker{K:Fg}{C:Addr}{f:Str}(n:Zaa K C f):takerIn K C f=some none:=by
 unfold takerIn
 rw [show findIn K (.ref C) f=some none from n]
 rfl
structure Meth(K:Fg)(C:Addr)(m:Str)(f:Addr):Prop where
 at_:findIn K (.ref C) m=some (some (.ref f))
 fn:isFn K (.ref f)=true
 kp:keepIn K (.ref f)=true
section
def ZhZ(I:Inv X pins σ H s)(e:H a=some (.ins C dx fs))(c:Cls X.K C)(n:Zaa X.K C f)(l:fs.lookup f=some v)
 (h:∀ u s',Inv X pins σ H s'->RelV v u->Q u s'):wpAny (model X.prog X.w) A (getAttr (.ref a) f b) Q E s:=by
 obtain ⟨mA,O,r,_,_,_⟩:=ZdZ I.hok e
 obtain ⟨u,hu,ru⟩:=RelO.some_of (v:=v) (o:=mA f) (by rw [<- l];exact r f)
 exact Zmi I.kIn O (c.get f) c.hd n hu (Zf8 ru) (h u _ (I.tok _) ru)
def ZeH(I:Inv X pins σ H s)(e:H a=some (.ins C dx fs))(c:Cls X.K C)(k:Meth X.K C m g)(l:fs.lookup m=none)
 (h:Q (.ref g,[.ref a]) s):wpAny (model X.prog X.w) A (getMethod (.ref a) m pl) Q E s:=by
 obtain ⟨mA,O,r,_,_,_⟩:=ZdZ I.hok e
 have hn:mA m=none:=RelO.none_of (by rw [<- l];exact r m)
 exact Zkf I.kIn O (c.get m) k.at_ k.fn hn h
def Zia(I:Inv X pins σ H s)(e:H a=some (.ins C dx fs))(c:Cls X.K C)(n:Zaa X.K C f)(hl:fs.length < 1000)(ry:RelV y u)
 (h:∀ s',Inv X pins σ (upd H a (.ins C dx (putF f y fs))) s'->Q () s'):wpAny (model X.prog X.w) A (setAttr (.ref a) f u) Q E s:=by
 obtain ⟨mA,O,r,wi,_,ho⟩:=ZdZ I.hok e
 have hz:(fs.map (·.1)).length<=sizeLine:=by rw [length_map,sizeLine_eq];omega
 refine Zmj I.kIn O c.sa c.po n.taker c.hd wi hz fun h' O' sb=>h _ ?_
 have hd:∃ o,h'.get? dx=some o:=let ⟨o,_,_,e',_⟩:=O'.ns;⟨o,e'⟩
 refine I.write (x:=a) (e:=dx) (by rw [e];exact True.intro) (.inr ho) (fun b q hb z=>(sb.2 b hb).trans z) hd ?_
 refine ⟨by rw [Zn O.ne];exact ho,?_,O.ne,O'.obj,_,O'.ns,fun g=>?_,fun g hg=>?_⟩
 . have:=ZcU f y fs;omega
 . show RelO ((putF f y fs).lookup g) (if g=f then some u else mA g)
   rw [ZcT]
   by_cases q:g=f
   . rw [if_pos q,if_pos q];exact ry
   . rw [if_neg q,if_neg q];exact r g
 . by_cases q:g=f
   . rw [q];exact (ZbU f y fs).1
   . refine (ZbU f y fs).2 g (wi g fun z=>hg ?_)
     show (if g=f then some u else mA g)=none
     rw [if_neg q];exact z
def Inv.made(I:Inv X pins σ H s):Inv X pins σ (upd (upd H s.heap.objs.size (.own (s.heap.objs.size+1))) (s.heap.objs.size+1) (.ins C s.heap.objs.size []))
 { s with heap:=(s.heap.push emptyDict).push (instObj C s.heap.objs.size) }:=by
 have e1:(s.heap.push emptyDict).get? s.heap.objs.size=some emptyDict:=Heap.get?_push_size s.heap rfl
 have e2:((s.heap.push emptyDict).push (instObj C s.heap.objs.size)).get? (s.heap.objs.size+1)=some (instObj C s.heap.objs.size):=by
  have:=Heap.get?_push_size (s.heap.push emptyDict) (o:=instObj C s.heap.objs.size) rfl
  rwa [Heap.size_push] at this
 have e3:(s.heap.push emptyDict).Ns s.heap.objs.size (fun _=>none):=⟨emptyDict,#[],_,e1,rfl,(fun e he=>absurd he (by simp)),fun _=>rfl⟩
 have I1:=I.laid (a:=s.heap.objs.size) (o:=.own (s.heap.objs.size+1)) (h':=s.heap.push emptyDict) (t':=s.toks) (fun b u q=>Heap.get?_push_of_some _ q) (le_refl _) ⟨_,e1⟩
 refine I1.laid (a:=s.heap.objs.size+1) (o:=.ins C s.heap.objs.size []) (t':=s.toks) (fun b u q=>Heap.get?_push_of_some _ q) (Nat.le_of_eq (Heap.size_push _ _)) ?_
 have ne:s.heap.objs.size≠s.heap.objs.size+1:=ne_of_lt (Nat.lt_succ_self _)
 refine ⟨by rw [Zn ne,Zj],zero_le _,ne,e2,fun _=>none,(Heap.Ns1.of_empty e3).at fun o q=>Heap.get?_push_of_some _ q,fun _=>True.intro,fun y hy=>absurd rfl hy⟩
def Zhn(hb:attributeBase e f env (eval e env)=eval e env)
 (h:wpAny (model prog w) A (eval e env) (fun o s₁=>wpAny (model prog w) A (getAttr o f true) Q E s₁) E s):wpAny (model prog w) A (eval (.Attribute e f pos) env) Q E s:=
 Attribute_any_ h (by rw [arm_eval_Attribute,hb])
end
def tFld(K:Fg)(ta:TE)(f:Str):TE:=fun σ H Q=>ta σ H fun x H1=>∃ a C dx fs v,x=.ref a/\H1 a=some (.ins C dx fs)/\Cls K C/\Zaa K C f/\fs.lookup f=some v/\Q v H1
def sFld(K:Fg)(ta tv:TE)(f:Str):TS:=fun D σ H=>tv σ H fun y H1=>ta σ H1 fun x H2=>∃ a C dx fs,x=.ref a/\H2 a=some (.ins C dx fs)/\Cls K C/\Zaa K C f/\fs.length < 1000/\
 D.nx σ (upd H2 a (.ins C dx (putF f y fs)))
section
def ZnV(he:PE X e ta)(hb:attributeBase e f X.env (eval e X.env)=eval e X.env):PE X (.Attribute e f pos) (tFld X.K ta f):=by
 intro pins s σ H Q I h
 refine Zhn hb (thn (he pins s σ H _ I h) fun u s1 z0=>?_)
 obtain ⟨x,H1,I1,rx,a,C,dx,fs,v,ex,ea,c,n,l,q⟩:=z0
 subst ex
 obtain rfl:u=Value.ref a:=rx
 exact ZhZ I1 ea c n l fun u' s2 I2 ru=>⟨v,H1,I2,ru,q⟩
def ZnW(ha:PE X o ta)(hv:PE X value tv)(hs:swapsWith value (some (.Attribute o f pos')) pos.line X.env=pure false):PS X (.Assign [.Attribute o f pos'] value pos) (sFld X.K ta tv f):=by
 intro pins s σ H D I h
 refine plainObj_wpAny_Assign_Attribute (thn (hv pins s σ H _ I h) fun u s1 ⟨y,H1,I1,ry,q⟩=>thn (ha pins s1 σ H1 _ I1 q) fun ov s2 z90=>?_) hs
 obtain ⟨x,H2,I2,rx,a,C,dx,fs,ex,ea,c,n,l,q2⟩:=z90
 subst ex
 obtain rfl:ov=Value.ref a:=rx
 exact Zia I2 ea c n l ry fun s3 I3=>⟨σ,_,I3,q2⟩
end
section
inductive TyOf(K:Fg)(H:Hp):V->Value->Prop where
 | non:TyOf K H .non (.type "NoneType")
 | bl (x:Bool):TyOf K H (.bl x) (.type "bool")
 | int (i:Int):TyOf K H (.int i) (.type "int")
 | str (x:Str):TyOf K H (.str x) (.type "str")
 | flt (x:UInt64):TyOf K H (.flt x) (.type "float")
 | lst {a:Addr} {xs:List V} (e:H a=some (.lst xs)):TyOf K H (.ref a) (.type "list")
 | frz {a:Addr} {o:Obj} {xs:List V} (e:H a=some (.frz o (.lst xs))):TyOf K H (.ref a) (.type "list")
 | tup {a:Addr} {xs:List V} (e:H a=some (.tup xs)):TyOf K H (.ref a) (.type "tuple")
 | dK {a:Addr} {kvs:List (Key×V)} (e:H a=some (.dK kvs)):TyOf K H (.ref a) (.type "dict")
 | dT {a:Addr} {kvs:List (List Key×V)} (e:H a=some (.dT kvs)):TyOf K H (.ref a) (.type "dict")
 | ins {a C dx:Addr} {fs:List (Str×V)} (e:H a=some (.ins C dx fs)) (cl:Cls K C) (ha:findIn K (.ref C) "__class__"=some (some (.builtin "object.__class__")))
  (hn:specialIn K (.builtin "object.__class__") "__get__"=some (some (.builtin "getset_descriptor.__get__"))) (htk:takesIn K (.builtin "object.__class__")=some true)
  (hm:mroIn K C (.type "object")=some true):TyOf K H (.ref a) (.ref C)
theorem ZiW(I:Inv X pins σ H s)(rx:RelV x u)(ty:TyOf X.K H x t)(e:kitOne X.K t c=some b)(h:∀ tk,Q (.bool b) { s with toks:=tk }):
 wpAny (model X.prog X.w) A (call (.builtin "isinstance") [u,c]) Q E s:=by
 cases ty with
 | non=>cases (show u=Value.none from rx);exact kia_one PySem.W.kitx_none I.kIn True.intro e (fun z=>nomatch z) h
 | bl y=>cases (show u=Value.bool y from rx);exact kia_one PySem.W.kitx_bool I.kIn True.intro e (fun z=>nomatch z) h
 | int i=>obtain ⟨t,q⟩:=(show ∃ t,u=Value.int i t from rx);cases q;exact kia_one PySem.W.kitx_int I.kIn True.intro e (fun z=>nomatch z) h
 | str y=>obtain ⟨t,q⟩:=(show ∃ t,u=Value.str y t from rx);cases q;exact kia_one PySem.W.kitx_str I.kIn True.intro e (fun z=>nomatch z) h
 | flt y=>obtain ⟨t,q⟩:=(show ∃ t,u=Value.float y t from rx);cases q;exact kia_one PySem.W.kitx_float I.kIn True.intro e (fun z=>nomatch z) h
 | @lst a xs ea=>
  cases (show u=Value.ref a from rx)
  obtain ⟨_,_,n,_,h1⟩:=(show ZE X.prog X.w H s.heap a (.lst xs) from I.hok a _ ea)
  exact kia_one PySem.W.kitx_list I.kIn ⟨_,h1,rfl⟩ e (fun z=>nomatch z) h
 | @frz a ob xs ea=>
  cases (show u=Value.ref a from rx)
  obtain ⟨_,_,_,n,_,h1⟩:=(show ZE X.prog X.w H s.heap a (.frz ob (.lst xs)) from I.hok a _ ea)
  exact kia_one PySem.W.kitx_list I.kIn ⟨_,h1,rfl⟩ e (fun z=>nomatch z) h
 | @tup a xs ea=>
  cases (show u=Value.ref a from rx)
  obtain ⟨_,_,_,p⟩:=(show ZE X.prog X.w H s.heap a (.tup xs) from I.hok a _ ea)
  obtain ⟨o,h1,h2,_⟩:=p
  exact kia_one PySem.W.kitx_tuple I.kIn ⟨o,h1,h2⟩ e (fun z=>nomatch z) h
 | @dK a kvs ea=>
  cases (show u=Value.ref a from rx)
  obtain ⟨_,_,vs,_,p⟩:=(show ZE X.prog X.w H s.heap a (.dK kvs) from I.hok a _ ea)
  obtain ⟨o,es,ep,h1,h2,_⟩:=p
  exact kia_one PySem.W.kitx_dict I.kIn ⟨o,h1,h2.1⟩ e (fun z=>nomatch z) h
 | @dT a kvs ea=>
  cases (show u=Value.ref a from rx)
  obtain ⟨_,_,xs,_,o,es,ep,h1,h2,_⟩:=(show ZE X.prog X.w H s.heap a (.dT kvs) from I.hok a _ ea)
  exact kia_one PySem.W.kitx_dict I.kIn ⟨o,h1,h2.1⟩ e (fun z=>nomatch z) h
 | @ins a C dx fs ea cl ha hn htk hm=>
  cases (show u=Value.ref a from rx)
  obtain ⟨mA,O,_⟩:=ZdZ I.hok ea
  obtain ⟨od,J,_⟩:=O.look
  exact kia_one (PySem.W.kitx_own (cl.get _) cl.hd ha hn htk hm) I.kIn J e (fun z=>nomatch z) h
end
structure Room(k:Nat)(A:Around):Prop where
 hd:A.handled=none
 dp:A.depth+3 * k+5 < recursionLimit
 un:A.units+16 * k+200 < cLine
 gd:A.guards=some []
def Room.mono(r:Room k A)(h:j<=k):Room j A:=⟨r.hd,by have:=r.dp;omega,by have:=r.un;omega,r.gd⟩
def Room.deeper(r:Room (k+1) A)(env:Env):Room k (A.deeper env):=
 ⟨r.hd,by have:=r.dp;show A.depth+1+3 * k+5 < _;omega,by have:=r.un;show A.units+3+16 * k+200 < _;omega,r.gd⟩
def Zib{A:Around}{C:Addr}:(A.under (.builtin "type.__call__" ⟨.ref C::us,kw⟩)).depth=A.depth+1:=by
 first|rfl|simp [Around.under,Code.weight,Code.isCreation,Code.isGuard,Code.isCaller,Code.frames,Code.isFrame,guardIds]
def Zic{A:Around}{C:Addr}:(A.under (.builtin "type.__call__" ⟨.ref C::us,kw⟩)).units=A.units+1:=by
 first|rfl|simp [Around.under,Code.cUnits,Code.frames,Code.isFrame]
def Zmk{A:Around}{C:Addr}:(A.under (.builtin "type.__call__" ⟨.ref C::us,kw⟩)).guards=A.guards:=by
 cases e:A.guards<;>(first|(simp [Around.under,Code.guards,Code.isGuard,guardIds,pushGuards,e];done)|(show pushGuards _ A.guards=_;rw [e];rfl))
def Room.make(r:Room (k+1) A)(C:Addr)(us:List Value)(kw:List (Str×Value)):Room k (A.under (.builtin "type.__call__" ⟨.ref C::us,kw⟩)):=
 ⟨r.hd,by have:=r.dp;rw [Zib];omega,by have:=r.un;rw [Zic];omega,by rw [Zmk];exact r.gd⟩
def Room.depth(r:Room k A):A.depth < recursionLimit:=by have:=r.dp;omega
def Room.units(r:Room k A):A.units+64 < cLine:=by have:=r.un;omega
def tNil:TA:=fun _ H Q=>Q [] H
def ZeI(ta:TE)(tr:TA):TA:=fun σ H Q=>ta σ H fun x H1=>tr σ H1 fun xs H2=>Q (x::xs) H2
section
def Zbc:PA X [] tNil:=fun _ _ _ _ H Q I h=>Calls.spliced_nil ⟨[],H,I,.nil,h⟩
abbrev SE(X:Cx)(e:Expr)(es:List Expr):Prop:=starEach (e::es) X.env=(false,eval e X.env)::starEach es X.env
def Zao(ha:PE X e te)(hr:PA X es t)(hs:autoParam (SE X e es) Q9):PA X (e::es) (ZeI te t):=by
 intro pos pins s σ H Q I h
 rw [hs]
 show wpAny _ _ (spliced ((false,eval e X.env)::backTo pos (starEach es X.env))) _ _ s
 refine Calls.spliced_cons (thn (ha pins s σ H _ I h) fun u s1 z0=>?_)
 obtain ⟨x,H1,I1,r1,q1⟩:=z0
 exact thn (hr pos pins s1 σ H1 _ I1 q1) fun us s2 z90=>by obtain ⟨xs,H2,I2,r2,q2⟩:=z90;exact ⟨x::xs,H2,I2,.cons r1 r2,q2⟩
def tTup(t:TA):TE:=fun σ H Q=>t σ H fun xs H1=>xs.length<=sizeLine/\∀ p,H1 p=none->Q (.ref p) (upd H1 p (.tup xs))
def tLst(t:TA):TE:=fun σ H Q=>t σ H fun xs H1=>xs.length<=sizeLine/\∀ p,H1 p=none->Q (.ref p) (upd H1 p (.lst xs))
def ZnX{x1}(h:PA X es t):PE X (.Tuple es x1 pos) (tTup t):=by
 intro pins s σ H Q I hq
 refine wpAny_Tuple_spliced (thn (h pos pins s σ H _ I hq) fun us s1 ⟨xs,H1,I1,r,z,q⟩=>⟨by rw [<- r.length];exact z,?_⟩)
 have hf:H1 s1.heap.objs.size=none:=I1.hok.fresh (le_refl _)
 refine ⟨.ref s1.heap.objs.size,upd H1 s1.heap.objs.size (.tup xs),I1.laid (t':=s1.toks) (fun b u e=>Heap.get?_push_of_some _ e) (le_refl _) ?_,rfl,q _ hf⟩
 exact ⟨z,us,r,⟨_,Heap.get?_push_size _ rfl,rfl,_,rfl⟩⟩
def ZiX(h:PA X es t):PE X (.List es pos) (tLst t):=by
 intro pins s σ H Q I hq
 refine wpAny_List_spliced (thn (h pos pins s σ H _ I hq) fun us s1 ⟨xs,H1,I1,r,z,q⟩=>⟨by rw [<- r.length];exact z,?_⟩)
 have hf:H1 s1.heap.objs.size=none:=I1.hok.fresh (le_refl _)
 refine ⟨.ref s1.heap.objs.size,upd H1 s1.heap.objs.size (.lst xs),I1.laid (t':=s1.toks) (fun b u e=>Heap.get?_push_of_some _ e) (le_refl _) ?_,rfl,q _ hf⟩
 exact ⟨z,us,0,r,Heap.get?_push_size _ rfl⟩
end
abbrev Sp:=List V->Hp->VK->XK->Prop
abbrev CXT:=List Env->Hp->Shared->XK->Value->Shared->Prop
structure Env0(P:Program)(w:World)(K:Fg)(mg:SO)(base:Heap)(A:Around)(outer:List Env)(s:Shared)(H:Hp):Prop where
 frames:A.frames=some outer
 mod:Mod K mg base
 bs:∀ b o,base.get? b=some o->s.heap.get? b=some o/\H b=none
 bsz:base.objs.size<=s.heap.objs.size
 funs:s.heap.FunFrames base outer
 frf:∀ b∈frs outer,H b=none
 hok:HOk P w H s.heap
 bare:AllBare s.gens
def CE(outer:List Env)(P:Program)(w:World)(H:Hp)(s:Shared)(Q:VK)(u:Value)(s':Shared):Prop:=
 ∃ v H',s'.os=s.os/\AllBare s'.gens/\Un (frs outer) [] H H' s.heap s'.heap/\HOk P w H' s'.heap/\RelV v u/\Q v H'
def CR(CX:CXT)(outer:List Env)(P:Program)(w:World)(H:Hp)(s:Shared)(Q:VK)(E:XK)(r:Result)(s':Shared):Prop:=
 match r with
 | .ok (.ret u)=>CE outer P w H s Q u s'
 | .ok _=>False
 | .error e=>CX outer H s E e s'
structure FnOk(P:Program)(w:World)(K:Fg)(mg:SO)(base:Heap)(CX:CXT)(k:Nat)(f:Addr)(fd:FuncData)(ps:List Str)(sp:Sp):Prop where
 len:∀ vs H Q E,sp vs H Q E->vs.length=ps.length
 run:∀(A:Around)(outer:List Env)(s:Shared)(H:Hp)(args:Args)(us:List Value)(vs:List V)(Q:VK)(E:XK),Room k A->Env0 P w K mg base A outer s H->BindsTo s fd args (ps.zip us)->Vals vs us->sp vs H Q E->
  codeAny (model P w) A (.call (.ref f) args) (CR CX outer P w H s Q E) s
def Env0.make{P:Program}{w:World}{K:Fg}{A:Around}{outer:List Env}(e:Env0 P w K mg base A outer s H)(C:Addr)(us:List Value)(kw:List (Str×Value)):
 Env0 P w K mg base (A.under (.builtin "type.__call__" ⟨.ref C::us,kw⟩)) outer s H:=⟨by first|exact e.frames|(simpa [Around.under,Code.envs,Code.isFrame,pushEnvs] using e.frames),e.mod,e.bs,e.bsz,e.funs,e.frf,e.hok,e.bare⟩
section
def Inv.env0(I:Inv X pins σ H s):Env0 X.prog X.w X.K X.mg X.base X.A X.stack s H:=
 ⟨I.ok.frames,I.ok.mod,I.bs,le_trans I.ok.bsz I.sz,I.stack,I.stkFree,I.hok,I.bare⟩
def Inv.after(I:Inv X pins σ H s)(h:CE X.stack X.prog X.w H s Q u s'):EP X pins σ Q u s':=by
 obtain ⟨v,H',os,bare,un,hok,r,q⟩:=h
 obtain ⟨hh,g,d,t,os'⟩:=s'
 obtain rfl:os'=s.os:=os
 exact ⟨v,H',I.call (h':=hh) (g':=g) (d':=d) (t':=t) (ch:=[]) un hok bare (fun b z=>absurd z (by simp)),r,q⟩
end
def Zl5(sp:Sp)(dvs:List V)(E:XK)(t:TA):TE:=fun σ H Q=>t σ H fun vs H1=>sp (vs++dvs) H1 Q E
def Zl6(C:Addr)(m:Str)(sp:Sp)(dvs:List V)(E:XK)(ta:TE)(t:TA):TE:=fun σ H Q=>ta σ H fun x H1=>∃ a dx fs,x=.ref a/\H1 a=some (.ins C dx fs)/\fs.lookup m=none/\
 t σ H1 fun vs H2=>sp (x::(vs++dvs)) H2 Q E
def Zl7(C:Addr)(sp:Sp)(dvs:List V)(E:XK)(t:TA):TE:=fun σ H Q=>t σ H fun vs H1=>∀ x dx,H1 x=none->H1 dx=none->dx≠x->
 sp (.ref x::(vs++dvs)) (upd (upd H1 dx (.own x)) x (.ins C dx [])) (fun v H2=>v=.non/\Q (.ref x) H2) E
def Binds(K:Fg)(fd:FuncData)(ps:List Str)(ds:List Value):Prop:=
 ∀(s:Shared)(us:List Value),K.In s.heap->(us++ds).length=ps.length->BindsTo s fd ⟨us,[]⟩ (ps.zip (us++ds))
def Binds.all{K:Fg}{fd:FuncData}(h:∀ us:List Value,us.length=ps.length->bindArgs fd ⟨us,[]⟩=pure (ps.zip us)):Binds K fd ps []:=fun s us _ hl=>by
 rw [append_nil] at hl ⊢
 exact .of_eq (h us hl)
def Passes(CX:CXT)(X:Cx)(E:XK):Prop:=∀(pins:Pn)(σ:St)(H:Hp)(s:Shared)(e:Value)(s':Shared),Inv X pins σ H s->CX X.stack H s E e s'->X.xe e s'
section
theorem ZiY(F:FnOk X.prog X.w X.K X.mg X.base CX k f fd ps sp)(hr:Room k X.A)(hb:Binds X.K fd ps ds)(hd:Vals dvs ds)(hx:Passes CX X E)
 (I:Inv X pins σ H s) (r:Vals vs us) (h:sp (vs++dvs) H Q E):wpAny (model X.prog X.w) X.A (call (.ref f) us) (EP X pins σ Q) X.xe s:=by
 have r2:Vals (vs++dvs) (us++ds):=r.append hd
 have hl:(us++ds).length=ps.length:=by rw [<- r2.length];exact F.len _ _ _ _ h
 refine wpAny_call (codeAny_mono (F.run X.A X.stack s H ⟨us,[]⟩ (us++ds) (vs++dvs) Q E hr I.env0 (hb s us I.kIn hl) r2 h) fun r s' hq=>?_)
 cases r with
 | error e=>exact hx pins σ H s e s' I hq
 | ok fl=>
  cases fl with
  | ret u=>exact I.after hq
  | next=>exact False.elim hq
  | brk=>exact False.elim hq
  | cont=>exact False.elim hq
abbrev SFx(X:Cx)(pos:Pos)(es:List Expr):Prop:=(backTo pos (starEach es X.env)).any (·.1)=false
def Zml(F:FnOk X.prog X.w X.K X.mg X.base CX k f fd ps sp)(hr:Room k X.A)(hg:Gl X x)(hm:X.mg x=some (.ref f))(hk:keepIn X.K (.ref f)=true)(hb:Binds X.K fd ps ds)(hd:Vals dvs ds)(hx:Passes CX X E)
 (ha:PA X (e::es) t) (hdb:autoParam ((x == ("__debug__":Str))=false) Q7) (he:autoParam (SE X e es) Q9) (hpl:autoParam (SFx X pos es) Q9):
 PE X (.Call (.Name x p) (e::es) [] pos) (Zl5 sp dvs E t):=by
 intro pins s σ H Q I h
 refine wpAny_Call_Name_kw (ZcZ I hg hm ?_ hdb)
 refine callWith_K (h₀:=X.base) I.ok.mod.kin hk (thn (ha pos pins s σ H _ I h) fun us s1 ⟨vs,H1,I1,r,q⟩=>⟨I1.kIn,?_⟩) he hpl
 exact ZiY F hr hb hd hx I1 r q
def Zmm(he:PE X o ta)(c:Cls X.K C)(hm:Meth X.K C m f)(F:FnOk X.prog X.w X.K X.mg X.base CX k f fd ps sp)(hr:Room k X.A)(hb:Binds X.K fd ps ds)(hd:Vals dvs ds)(hx:Passes CX X E)(ha:PA X (e::es) t)
 (hst:autoParam (SE X e es) Q9) (hpl:autoParam (SFx X pos es) Q9)
 (ht:autoParam (eval (.Call (.Attribute o m apos) (e::es) [] pos) X.env=(do
  let ov <- eval o X.env
  standAt apos.atName
  let (f,first) <- holding [ov] (getMethod ov m pl)
  callWith pos f first (backTo pos (starEach (e::es) X.env)) (backToKw pos (keywordEach [] X.env)))) Q9):
 PE X (.Call (.Attribute o m apos) (e::es) [] pos) (Zl6 C m sp dvs E ta t):=by
 intro pins s σ H Q I h
 refine methodCall_KW (pl:=pl) (thn (he pins s σ H _ I h) fun u s1 z0=>?_) ht
 obtain ⟨x,H1,I1,rx,a,dx,fs,ex,ea,l,q⟩:=z0
 subst ex
 obtain rfl:u=Value.ref a:=rx
 refine ZeH I1 ea c hm l ?_
 refine callWith_K (first:=[.ref a]) (h₀:=X.base) I.ok.mod.kin hm.kp (thn (ha pos pins s1 σ H1 _ I1 q) fun us s2 ⟨vs,H2,I2,r,q2⟩=>⟨I2.kIn,?_⟩) hst hpl
 exact ZiY (us:=.ref a::us) (vs:=.ref a::vs) F hr hb hd hx I2 (.cons rfl r) q2
structure Mk(K:Fg)(C f:Addr):Prop where
 makes:makesIn K C=true
 init:findIn K (.ref C) "__init__"=some (some (.ref f))
 fn:isFn K (.ref f)=true
 kp:keepIn K (.ref C)=true
theorem Zkh(M:Mk X.K C f)(F:FnOk X.prog X.w X.K X.mg X.base CX k f fd ps sp)(hr:Room (k+1) X.A)(hb:Binds X.K fd ps ds)(hd:Vals dvs ds)
 (hx:Passes CX X E) (I:Inv X pins σ H s) (r:Vals vs us)
 (h:∀ x dx,H x=none->H dx=none->dx≠x->sp (.ref x::(vs++dvs)) (upd (upd H dx (.own x)) x (.ins C dx [])) (fun v H2=>v=.non/\Q (.ref x) H2) E):
 wpAny (model X.prog X.w) X.A (call (.ref C) us) (EP X pins σ Q) X.xe s:=by
 have hq:=h (s.heap.objs.size+1) s.heap.objs.size (I.hok.fresh (le_succ _)) (I.hok.fresh (le_refl _)) (ne_of_lt (Nat.lt_succ_self _))
 have I2:=Inv.made (C:=C) I
 have r2:Vals (V.ref (s.heap.objs.size+1)::(vs++dvs)) (Value.ref (s.heap.objs.size+1)::(us++ds)):=.cons rfl (r.append hd)
 have hl:(Value.ref (s.heap.objs.size+1)::us++ds).length=ps.length:=by
  have e:=r2.length
  rw [F.len _ _ _ _ hq] at e
  exact e.symm
 refine wpAny_call (Zkg (f:=f) I.kIn M.makes M.init (beq_iff_eq.mp M.fn) (codeAny_mono (F.run _ X.stack _ _ ⟨Value.ref (s.heap.objs.size+1)::us,[]⟩ (Value.ref (s.heap.objs.size+1)::(us++ds)) _ _ E (hr.make C us [])
  (I2.env0.make C us []) (hb _ (Value.ref (s.heap.objs.size+1)::us) I2.kIn hl) r2 hq) fun r s' hq'=>?_))
 cases r with
 | error e=>exact hx pins σ _ _ e s' I2 hq'
 | ok fl=>
  cases fl with
  | ret u=>
   obtain ⟨v,H',I3,rv,ev,q3⟩:=I2.after hq'
   subst ev
   exact ⟨rv,⟨V.ref (s.heap.objs.size+1),H',I3,rfl,q3⟩⟩
  | next=>exact False.elim hq'
  | brk=>exact False.elim hq'
  | cont=>exact False.elim hq'
def Zmn(M:Mk X.K C f)(F:FnOk X.prog X.w X.K X.mg X.base CX k f fd ps sp)(hr:Room (k+1) X.A)(hg:Gl X x)(hm:X.mg x=some (.ref C))(hb:Binds X.K fd ps ds)(hd:Vals dvs ds)(hx:Passes CX X E)
 (ha:PA X (e::es) t) (hdb:autoParam ((x == ("__debug__":Str))=false) Q7) (he:autoParam (SE X e es) Q9) (hpl:autoParam (SFx X pos es) Q9):
 PE X (.Call (.Name x p) (e::es) [] pos) (Zl7 C sp dvs E t):=by
 intro pins s σ H Q I h
 refine wpAny_Call_Name_kw (ZcZ I hg hm ?_ hdb)
 refine callWith_K (h₀:=X.base) I.ok.mod.kin M.kp (thn (ha pos pins s σ H _ I h) fun us s1 ⟨vs,H1,I1,r,q⟩=>⟨I1.kIn,?_⟩) he hpl
 exact Zkh M F hr hb hd hx I1 r q
end
def PK(X:Cx)(kws:List Keyword)(t:TA):Prop:=
 ∀(pos:Pos)(pins:Pn)(s:Shared)(σ:St)(H:Hp)(Q:List V->Hp->Prop),Inv X pins σ H s->t σ H Q->wpAny (model X.prog X.w) X.A (evalAll ((backToKw pos (keywordEach kws X.env)).map (·.2))) (AP X pins σ Q) X.xe s
section
def ZnY:PK X [] tNil:=fun _ _ _ _ H Q I h=>wpAny_evalAll_nil ⟨[],H,I,.nil,h⟩
def Zmo(ha:PE X e te)(hr:PK X kws t):PK X (⟨nm,e,kpos⟩::kws) (ZeI te t):=by
 intro pos pins s σ H Q I h
 show wpAny _ _ (evalAll ((do let v <- eval e X.env;standAt pos;pure v)::(backToKw pos (keywordEach kws X.env)).map (·.2))) _ _ s
 refine wpAny_evalAll_cons (wpAny_bind (thn (ha pins s σ H _ I h) fun u s1 ⟨x,H1,I1,r1,q1⟩=>wpAny_bind (wpAny_standAt (wpAny_pure ?_))))
 exact thn (hr pos pins s1 σ H1 _ I1 q1) fun us s2 z90=>by obtain ⟨xs,H2,I2,r2,q2⟩:=z90;exact ⟨x::xs,H2,I2,.cons r1 r2,q2⟩
end
structure FnScope(N P:List Str)(sc:Scope):Prop where
 kind:sc.kind=.function
 co:sc.isCoroutine=false
 gen:sc.isGenerator=false
 nd:N.Nodup
 pre:N.take P.length=P
 par:∀ x∈P,sc.names.lookup x=some .local\/sc.names.lookup x=some .cell
 nofree:∀ y∈sc.names,y.2≠.free
theorem Zf9{x:Str}:∀{binds:List (Str×Value)}{m:SO},(∀ v,(x,v)∉binds)->bindL kindOf binds m x=m x
 | [],_,_=>rfl
 | (n,v)::r,m,h=>by
  unfold bindL
  rw [Zf9 fun w hw=>h w (mem_cons_of_mem _ hw)]
  split
  . have:x≠n:=by rintro rfl;exact h v mem_cons_self
    simp [this]
  . rfl
theorem ZfA{x:Str}:∀{binds:List (Str×Value)}{m:SO},(∀ v,(x,v)∉binds)->bindC kindOf binds m x=m x
 | [],_,_=>rfl
 | (n,v)::r,m,h=>by
  unfold bindC
  rw [ZfA fun w hw=>h w (mem_cons_of_mem _ hw)]
  split
  . rfl
  . have:x≠n:=by rintro rfl;exact h v mem_cons_self
    simp [this]
theorem ZfB{x:Str}{v:Value}:∀{P:List Str}{vs:List Value}{i:Nat}{m:SO},P.Nodup->P[i]?=some x->vs[i]?=some v->kindOf x=some .local->
 bindL kindOf (P.zip vs) m x=some v
 | [],_,_,_,_,h,_,_=>by simp at h
 | _::_,[],_,_,_,_,h,_=>by simp at h
 | p::P,w::vs,0,m,nd,h1,h2,hk=>by
  simp at h1 h2;subst h1;subst h2
  show bindL kindOf ((p,w)::P.zip vs) m p=_
  unfold bindL
  rw [Zf9 fun v hv=>(List.nodup_cons.mp nd).1 (of_mem_zip hv).1,if_pos hk]
  simp
 | p::P,w::vs,i+1,m,nd,h1,h2,hk=>by
  show bindL kindOf ((p,w)::P.zip vs) m x=_
  unfold bindL
  exact ZfB (i:=i) (List.nodup_cons.mp nd).2 (by simpa using h1) (by simpa using h2) hk
theorem ZfC{x:Str}{v:Value}:∀{P:List Str}{vs:List Value}{i:Nat}{m:SO},P.Nodup->P[i]?=some x->vs[i]?=some v->kindOf x≠some .local->
 bindC kindOf (P.zip vs) m x=some v
 | [],_,_,_,_,h,_,_=>by simp at h
 | _::_,[],_,_,_,_,h,_=>by simp at h
 | p::P,w::vs,0,m,nd,h1,h2,hk=>by
  simp at h1 h2;subst h1;subst h2
  show bindC kindOf ((p,w)::P.zip vs) m p=_
  unfold bindC
  rw [ZfA fun v hv=>(List.nodup_cons.mp nd).1 (of_mem_zip hv).1,if_neg hk]
  simp
 | p::P,w::vs,i+1,m,nd,h1,h2,hk=>by
  show bindC kindOf ((p,w)::P.zip vs) m x=_
  unfold bindC
  exact ZfC (i:=i) (List.nodup_cons.mp nd).2 (by simpa using h1) (by simpa using h2) hk
noncomputable def start(N:List Str)(vs:List V):St:=vs.map some++replicate (N.length - vs.length) none
noncomputable def cxOf(CX:CXT)(P:Program)(w:World)(K:Fg)(mg:SO)(base:Heap)(N:List Str)(qual:Str)(scope:Scope)(f:Addr)(cd:Value)(A:Around)(outer:List Env)(s:Shared)(H:Hp)(E:XK):Cx where
 prog:=P
 w:=w
 K:=K
 mg:=mg
 base:=base
 A:=A.deeper (envOfC qual scope s.heap.objs.size f cd)
 N:=N
 s₀:=s
 H₀:=H
 env:=envOfC qual scope s.heap.objs.size f cd
 outer:=outer
 stack:=envOfC qual scope s.heap.objs.size f cd::outer
 ex:=[]
 calm:=true
 fn:=fun _=>true
 pn:=[]
 xe:=fun e s'=>wpAny (model P w) (A.deeper (envOfC qual scope s.heap.objs.size f cd)) (leaving (envOfC qual scope s.heap.objs.size f cd) e) (fun _ s''=>CX outer H s E e s'') (fun e' s''=>CX outer H s E e' s'') s'
def Zds{sc:Scope}{n:Nat}{x:Str}(h:sc.names.lookup x=some .cell):∃ c,(cellsFrom n sc.names []).lookup x=some c:=by
 have q:=cellsFrom_some sc.names n [] (.inl h)
 exact Option.isSome_iff_exists.mp q
def ZfD{CX:CXT}{P:Program}{w:World}{K:Fg}{f:Addr}{cd:Value}{A:Around}{outer:List Env}{s1:Shared}{E:XK}{vs:List V}
 (S:FnScope N ps scope) (hd:A.handled=none) (e0:Env0 P w K mg base A outer s H) (hl:vs.length=ps.length) (r:Vals vs us)
 (x:InCallC s s.heap.objs.size (bindL (envOfC qual scope s.heap.objs.size f cd).kindOf (ps.zip us) fun _=>none) (cellsFrom (s.heap.objs.size+1) scope.names []) (bindC (envOfC qual scope s.heap.objs.size f cd).kindOf (ps.zip us) fun _=>none) s1):
 Inv (cxOf CX P w K mg base N qual scope f cd A outer s H E) [] (start N vs) H s1:=by
 have hpl:ps.length<=N.length:=by have:=congrArg List.length S.pre;rw [length_take] at this;omega
 obtain ⟨h1,tk,rfl,hk⟩:=x.done
 have noA:∀ b:Addr,b∉(cxOf CX P w K mg base N qual scope f cd A outer s H E).ex:=fun b z=>absurd (show b∈([]:List Addr) from z) (by simp)
 refine ⟨⟨e0.mod,S.kind,rfl,rfl,le_refl _,fun y z c h1 h2=>?_,fun y hy=>?_,fun y c _ h=>?_,fun _=>hd,Around.frames_deeper e0.frames,.inr ⟨rfl,rfl⟩,fun b z=>absurd z (noA b),e0.bs,e0.bsz,fun b _ _=>noA b,fun b z=>absurd z (noA b),e0.funs,e0.frf⟩,
  rfl,e0.bare,Un.kept hk,⟨_,x.toInCall.ns,fun i y v h1 h2 h3=>?_⟩,fun y c h=>⟨_,x.cell y c h⟩,e0.hok.fresh (le_refl _),fun y c h=>?_,fun p hp=>absurd (show p∈([]:Pn) from hp) (by simp),e0.hok.kept hk,?_⟩
 . exact name_of_addr x.apart (PySem.mem_of_lookup h1) (PySem.mem_of_lookup h2)
 . have hy:scope.names.lookup y=some .cell\/scope.names.lookup y=some .free:=hy
   rcases hy with hy|hy
   . exact Zds hy
   . exact absurd rfl (S.nofree _ (PySem.mem_of_lookup hy))
 . exact le_of_lt (x.above y c (PySem.mem_of_lookup h))
 . have hi:i < vs.length:=by
    unfold start at h2
    by_cases hi:i < vs.length
    . exact hi
    . rw [List.getElem?_append_right (by simpa using hi)] at h2
      rw [List.getElem?_replicate] at h2
      split at h2<;>cases h2
   have ha:vs[i]?=some v:=by
    unfold start at h2
    rw [List.getElem?_append_left (by simpa using hi),getElem?_map] at h2
    cases e:vs[i]? with
    | none=>rw [e] at h2;cases h2
    | some a=>rw [e] at h2;cases h2;rfl
   obtain ⟨u,hu,rv⟩:=r.get ha
   have hp:ps[i]?=some y:=by
    rw [<- S.pre,List.getElem?_take_of_lt (by omega)];exact h1
   have ndP:ps.Nodup:=by rw [<- S.pre];exact S.nd.sublist (List.take_sublist _ _)
   refine ⟨u,rv,?_⟩
   rcases S.par y (List.mem_of_getElem? hp) with k|k
   . exact .inl ⟨k,ZfB ndP hp hu k⟩
   . obtain ⟨c,e⟩:=Zds (n:=s.heap.objs.size+1) k
     refine .inr ⟨.inl k,c,e,?_⟩
     have q:=x.cell y c e
     rw [ZfC ndP hp hu (by show scope.names.lookup y≠_;rw [k];decide)] at q
     exact q
 . exact e0.hok.fresh (le_of_lt (x.above y c (PySem.mem_of_lookup h)))
 . unfold start
   show _=N.length
   rw [List.length_append,length_map,length_replicate]
   omega
theorem Zqm{CX:CXT}{P:Program}{w:World}{K:Fg}{k:Nat}{f:Addr}{params:Arguments}{body:List Stmt}{dV kV doc pm cdv ct oc:Value}{an od:Option Addr}
 {osl:Array (Option Value)} {N ps:List Str} {sp:Sp} (lk:K.lookup f=some ⟨oc,od,.func (fnOf name qual params body scope dV kV doc pm an cdv ct),osl⟩) (hcd:codeIn K cdv qual=true) (S:FnScope N ps scope)
 (len:∀ vs H Q E,sp vs H Q E->vs.length=ps.length)
 (hbody:∀(A:Around)(outer:List Env)(s:Shared)(H:Hp)(vs:List V)(Q:VK)(E:XK),Room k (A.deeper (envOfC qual scope s.heap.objs.size f cdv))->sp vs H Q E->
  ∃ t,PSs (cxOf CX P w K mg base N qual scope f cdv A outer s H E) body t/\t { nx:=fun _ H'=>Q .non H',rt:=Q } (start N vs) H):
 FnOk P w K mg base CX (k+1) f (fnOf name qual params body scope dV kV doc pm an cdv ct) ps sp:=by
 refine ⟨len,fun A outer s H args us vs Q E hr e0 hb r hsp=>?_⟩
 have hl:=len _ _ _ _ hsp
 have KX:K.In s.heap:=e0.mod.kin.keeps fun b o e=>(e0.bs b o e).1
 have lim:s.heap.NoLimit:=e0.mod.nolimit.keeps fun b o e=>(e0.bs b o e).1
 have hkind:∀ y∈ps.zip us,scope.names.lookup y.1=some .local\/(scope.names.lookup y.1=some .cell/\((cellsFrom (s.heap.objs.size+1) scope.names []).lookup y.1).isSome=true):=fun z90 hy=>by
  obtain ⟨n,v⟩:=z90
  rcases S.par n (of_mem_zip hy).1 with q|q
  . exact .inl q
  . exact .inr ⟨q,cellsFrom_some _ _ _ (.inl q)⟩
 refine codeAny_call_function hr.depth (KX _ _ lk) rfl S.co S.gen rfl (PySem.W.codeRec_of KX hcd) (hb _ _ _ _ ?_)
 refine wpAny_newFunctionEnv_cells S.kind hkind fun env he s1 x=>?_
 subst he
 refine ⟨lim.keeps x.toInCall.keep,codeAny_func ?_⟩
 obtain ⟨t,ht,hq⟩:=hbody A outer s H vs Q E (hr.deeper _) hsp
 have I:Inv (cxOf CX P w K mg base N qual scope f cdv A outer s H E) [] (start N vs) H s1:=ZfD S hr.hd e0 hl r x
 refine wpAny_mono (ht [] s1 (start N vs) H _ I hq) (fun fl s' hs=>?_) fun e s' hs=>hs
 have fin:∀{σ':St}{H':Hp}{v:V}{u:Value},Inv (cxOf CX P w K mg base N qual scope f cdv A outer s H E) [] σ' H' s'->RelV v u->Q v H'->CE outer P w H s Q u s':=
  fun{σ' H' v u} J rv q=>⟨v,H',J.os,J.bare,J.base,J.hok,rv,q⟩
 cases fl with
 | ret u=>
  obtain ⟨v,σ',H',J,rv,q⟩:=hs
  exact fin J rv q
 | next=>
  obtain ⟨σ',H',J,q⟩:=hs
  exact fin (v:=V.non) (u:=Value.none) J rfl q
 | brk=>
  obtain ⟨_,_,_,q⟩:=hs
  exact False.elim q
 | cont=>
  obtain ⟨_,_,_,q⟩:=hs
  exact False.elim q
section
variable{x:Str}{p:Pos}{e:Expr}{es:List Expr}{t:TA}{id T:String}{r:List V->Hp->VK->Prop}
def tCB(r:List V->Hp->VK->Prop)(t:TA):TE:=fun σ H Q=>t σ H fun vs H1=>r vs H1 Q
def Zez(hc:Zaj X (.builtin id) r)(hg:Gl X x)(hm:X.mg x=none)(hv:bootBuiltins x=some (.builtin id))(ha:PA X (e::es) t)(hn:autoParam (x≠"__name__") Q7)(hdb:autoParam ((x == ("__debug__":Str))=false) Q7)
 (he:autoParam (SE X e es) Q9) (hpl:autoParam (SFx X pos es) Q9):PE X (.Call (.Name x p) (e::es) [] pos) (tCB r t):=by
 intro pins s σ H Q I h
 refine wpAny_Call_Name_kw (Zbv I hg hm hv ?_ hn hdb)
 exact PyProof.Rows.callWith_builtin1 (thn (ha pos pins s σ H _ I h) fun us s1 z90=>by obtain ⟨vs,H1,I1,r1,q1⟩:=z90;exact hc pins s1 σ H1 vs us Q I1 r1 q1) he hpl
def ZiZ(hc:Zaj X (.type T) r)(hg:Gl X x)(hm:X.mg x=none)(hv:bootBuiltins x=some (.type T))(ha:PA X (e::es) t)(hn:autoParam (x≠"__name__") Q7)(hdb:autoParam ((x == ("__debug__":Str))=false) Q7)
 (he:autoParam (SE X e es) Q9) (hpl:autoParam (SFx X pos es) Q9):PE X (.Call (.Name x p) (e::es) [] pos) (tCB r t):=by
 intro pins s σ H Q I h
 refine wpAny_Call_Name_kw (Zbv I hg hm hv ?_ hn hdb)
 exact PyProof.Rows.callWith_type1 (thn (ha pos pins s σ H _ I h) fun us s1 z90=>by obtain ⟨vs,H1,I1,r1,q1⟩:=z90;exact hc pins s1 σ H1 vs us Q I1 r1 q1) he hpl
end
end L2
namespace HT
open PySem PyProof.Rows
section
variable{prog:Program}{w:World}{A:Around}{E:VS}{s:Shared}
noncomputable def sIx(n d:Nat):Option Int->Nat
 | none=>d
 | some v=>if v < 0 then (v+(n:Int)).toNat else min v.toNat n
def Zho(n d k:Nat):sIx n d (some (k:Int))=min k n:=by
 show (if (k:Int) < 0 then ((k:Int)+(n:Int)).toNat else min (k:Int).toNat n)=min k n
 rw [if_neg (by omega),toNat_natCast]
end
end HT
namespace L2
open PySem PySem.Spec PyProof.Rows
variable{X:Cx}{H:Hp}{pos:Pos}{s:Shared}{pins:Pn}{ys:List V}{its':List Value}
abbrev TO:=St->Hp->(Option Int->Hp->Prop)->Prop
def PO(X:Cx)(e:Option Expr)(t:TO):Prop:=
 ∀(pins:Pn)(s:Shared)(σ:St)(H:Hp)(Q:Option Int->Hp->Prop),Inv X pins σ H s->t σ H Q->
  wpAny (model X.prog X.w) X.A (evalPart e X.env) (fun u s'=>∃ o H',Inv X pins σ H' s'/\IsPart u o/\Q o H') X.xe s
noncomputable def Zmp:TO:=fun _ H Q=>Q none H
noncomputable def Zqn(t:TE):TO:=fun σ H Q=>t σ H fun x H1=>∃ i,x=.int i/\Q (some i) H1
section
variable{e:Expr}{te:TE}{lo hi:Option Expr}{tl th:TO}{p2:Pos}
def Zmq:PO X none Zmp:=by
 intro pins s σ H Q I h
 rw [evalPart_none]
 exact wpAny_pure ⟨none,H,I,.none,h⟩
def Zmr(h:PE X e te):PO X (some e) (Zqn te):=by
 intro pins s σ H Q I hw
 rw [evalPart_some]
 refine thn (h pins s σ H _ I hw) fun u s1 z0=>?_
 obtain ⟨x,H1,I1,r1,q1⟩:=z0
 obtain ⟨i,rfl,q⟩:=q1
 obtain ⟨t,rfl⟩:=r1
 exact ⟨some i,H1,I1,.int i t,q⟩
def SlR(X:Cx)(r:V->Option Int->Option Int->Hp->VK->Prop):Prop:=
 ∀(pins:Pn)(s:Shared)(σ:St)(H:Hp)(x:V)(v vl vu:Value)(lo hi:Option Int)(sl:Addr)(Q:VK),Inv X pins σ H s->RelV x v->s.heap.IsSliceOf sl vl vu .none->IsPart vl lo->IsPart vu hi->r x lo hi H Q->
  ∃ T id,typeLookup (.type T) "__getitem__"=pure (some (.builtin id))/\s.TypeIs v T/\wpAny (model X.prog X.w) X.A (getItem v (.ref sl)) (EP X pins σ Q) X.xe s
def tSl(r:V->Option Int->Option Int->Hp->VK->Prop)(te:TE)(tl th:TO):TE:=fun σ H Q=>te σ H fun x H1=>tl σ H1 fun l H2=>th σ H2 fun u H3=>r x l u H3 Q
def Zki(hr:SlR X r)(he:PE X e te)(hl:PO X lo tl)(hu:PO X hi th):PE X (.Subscript e (.Slice lo hi none p2) pos) (tSl r te tl th):=by
 intro pins s σ H Q I h
 refine Subscript_ (thn (he pins s σ H _ I h) fun v s1 z0=>?_)
 obtain ⟨x,H1,I1,r1,q1⟩:=z0
 refine wpAny_Slice (thn (hl pins s1 σ H1 _ I1 q1) fun vl s2 ⟨l,H2,I2,pl,q2⟩=>thn (hu pins s2 σ H2 _ I2 q2) fun vu s3 z90=>?_)
 obtain ⟨u,H3,I3,pu,q3⟩:=z90
 rw [evalPart_none]
 refine wpAny_pure ?_
 have I4:Inv X pins σ H3 { s3 with heap:=s3.heap.push { cls:=.type "slice",data:=.fields #[vl,vu,.none] } }:=I3.kept (t':=s3.toks) fun b ob q=>Heap.get?_push_of_some _ q
 obtain ⟨T,id,hT,ht,hg⟩:=hr pins { s3 with heap:=s3.heap.push { cls:=.type "slice",data:=.fields #[vl,vu,.none] } } σ H3 x v vl vu l u s3.heap.objs.size Q I4 r1 (Heap.IsSliceOf.new ..) pl pu q3
 show wpAny (model X.prog X.w) X.A (subscriptTail e (.Slice lo hi none p2) v (.ref s3.heap.objs.size)) (EP X pins σ Q) X.xe { s3 with heap:=s3.heap.push { cls:=.type "slice",data:=.fields #[vl,vu,.none] } }
 exact tail_any (ops:=[.ref s3.heap.objs.size,v]) ht hT hg (by with_unfolding_all rfl)
noncomputable def cutV(xs:List V)(lo hi:Option Int):List V:=(xs.drop (HT.sIx xs.length 0 lo)).take (HT.sIx xs.length xs.length hi - HT.sIx xs.length 0 lo)
def ZgU(xs:List V)(lo hi:Option Int):(cutV xs lo hi).length<=xs.length:=by
 unfold cutV
 rw [length_take,length_drop]
 omega
end
noncomputable def ixN(n:Nat)(i:Int):Option Nat:=if 0<=i then (if i < n then some i.toNat else none) else if -(n:Int)<=i then some (i+n).toNat else none
noncomputable def atI{α:Type}(xs:List α)(i:Int):Option α:=(ixN xs.length i).bind fun j=>xs[j]?
def Zhp(h:ixN n i=some j):seqIndex? i n=some j/\j < n/\-(n:Int)<=i/\i < n:=by
 unfold ixN at h
 by_cases h0:0<=i
 . rw [if_pos h0] at h
   by_cases h1:i < n
   . rw [if_pos h1] at h
     have e:i.toNat=j:=Option.some.inj h
     exact ⟨by rw [seqIndex_of h0 h1,e],by omega,by omega,h1⟩
   . rw [if_neg h1] at h;cases h
 . rw [if_neg h0] at h
   by_cases h1:-(n:Int)<=i
   . rw [if_pos h1] at h
     have e:(i+n).toNat=j:=Option.some.inj h
     exact ⟨by rw [seqIndex_neg (by omega) h1,e],by omega,h1,by omega⟩
   . rw [if_neg h1] at h;cases h
theorem Zhq(h:atI xs i=some v):∃ j,seqIndex? i xs.length=some j/\xs[j]?=some v/\j < xs.length/\-(xs.length:Int)<=i/\i < xs.length:=by
 unfold atI at h
 cases e:ixN xs.length i with
 | none=>rw [e] at h;cases h
 | some j=>
  rw [e] at h
  obtain ⟨h1,h2,h3,h4⟩:=Zhp e
  exact ⟨j,h1,h,h2,h3,h4⟩
def Zhr(b:Expr):Prop:=∀ o i,subscripted b false o i=operate [o,i] (getItem o i)
def IxR(X:Cx)(r:R2):Prop:=
 ∀(value slice:Expr)(pins:Pn)(s:Shared)(σ:St)(H:Hp)(x y:V)(v u:Value)(Q:VK),Inv X pins σ H s->RelV x v->RelV y u->r x y H Q->
  subscripted slice false v u=operate [v,u] (getItem v u)->wpAny (model X.prog X.w) X.A (subscriptTail value slice v u) (EP X pins σ Q) X.xe s
def MtR(X:Cx)(id:String)(r:V->List V->Hp->VK->Prop):Prop:=
 ∀(pins:Pn)(s:Shared)(σ:St)(H:Hp)(x:V)(xs:List V)(v:Value)(us:List Value)(Q:VK),Inv X pins σ H s->RelV x v->Vals xs us->r x xs H Q->
  wpAny (model X.prog X.w) X.A (call (.builtin id) (v::us)) (EP X pins σ Q) X.xe s
section
variable{a b:Expr}{ta tb:TE}
def Zqo(hr:IxR X r)(ha:PE X a ta)(hb:PE X b tb)(hs:Zhr b):PE X (.Subscript a b pos) (tOp r ta tb):=by
 intro pins s σ H Q I h
 exact Subscript_ (binT ha hb I h fun v u s2 x y H2 I2 rx ry q=>hr a b pins s2 σ H2 x y v u Q I2 rx ry q (hs _ _))
def rIxL(K:Fg):R2:=fun x y H Q=>∃ p xs i v,x=.ref p/\y=.int i/\SqL K H p xs/\atI xs i=some v/\Q v H
def rIxT(K:Fg):R2:=fun x y H Q=>∃ p xs i v,x=.ref p/\y=.int i/\SqT K H p xs/\atI xs i=some v/\Q v H
def Zhs:IxR X (rIxL X.K):=by
 intro value slice pins s σ H x y v u Q I rx ry h hs
 obtain ⟨p,xs,i,z,rfl,rfl,hq,he,q⟩:=h
 cases rx
 obtain ⟨t,rfl⟩:=ry
 obtain ⟨its,r,pl,hz⟩:=I.list hq
 obtain ⟨j,h1,h2,h3,h4,h5⟩:=Zhq he
 obtain ⟨w,ew,rw'⟩:=r.get h2
 have hl:=r.length
 have hn:=Zd8
 have fin:EP X pins σ Q w s:=⟨z,H,I,rw',q⟩
 by_cases h0:0<=i
 . have hj:i.toNat=j:=by
    rw [seqIndex_of h0 h5] at h1
    exact Option.some.inj h1
   exact item_listR pl.isList h0 (by omega) (by rw [hj];simpa using ew) fin hs
 . have hj:(i+(its.toArray.size:Int)).toNat=j:=by
    rw [seqIndex_neg (by omega) h4] at h1
    rw [size_toArray,<- hl]
    exact Option.some.inj h1
   exact subscriptTail_builtinR (x:=w) pl.isList.typeIs slot_list_getitem.lookup
    (wpAny_getItem_list_neg (Q:=fun r s'=>r=w/\EP X pins σ Q r s') pl.isList (by omega) (by rw [size_toArray]<;>omega) (by omega) (by rw [hj];simpa using ew) ⟨rfl,fin⟩) hs
def Zja:IxR X (rIxT X.K):=by
 intro value slice pins s σ H x y v u Q I rx ry h hs
 obtain ⟨p,xs,i,z,rfl,rfl,hq,he,q⟩:=h
 cases rx
 obtain ⟨t,rfl⟩:=ry
 obtain ⟨its,r,pl,hz⟩:=I.tuple hq
 obtain ⟨j,h1,h2,h3,h4,h5⟩:=Zhq he
 obtain ⟨w,ew,rw'⟩:=r.get h2
 have hl:=r.length
 have hn:=Zd8
 have fin:EP X pins σ Q w s:=⟨z,H,I,rw',q⟩
 exact subscriptTail_builtinR (x:=w) pl.typeIs slot_tuple_getitem.lookup
  (getItem_tuple (j:=j) (Q:=fun r s'=>r=w/\EP X pins σ Q r s') pl (by omega) (by omega) (by rw [size_toArray,<- hl];exact h1) (by simpa using ew) ⟨rfl,fin⟩) hs
def Zid(its:List Value)(n j:Nat)(u:Value):Obj.mapSeq (·.setIfInBounds j u) { cls:=.type "list",data:=.seq its.toArray n }={ cls:=.type "list",data:=.seq (its.set j u).toArray n }:=by
 simp [Obj.mapSeq]
def Inv.lst(I:Inv X pins σ H s)(h:H p=some (.lst xs)):
 ∃(its:List Value)(n:Nat),Vals xs its/\s.heap.get? p=some { cls:=.type "list",data:=.seq its.toArray n }/\xs.length<=sizeLine:=by
 obtain ⟨z,its,n,r,e⟩:=I.hok p _ h
 exact ⟨its,n,r,e,z⟩
def Inv.lstUpd{σ:St}{p:Addr}{xs:List V}{its:List Value}{n n':Nat}{f:Obj->Obj}(I:Inv X pins σ H s)(h:H p=some (.lst xs))
 (ho:s.heap.get? p=some { cls:=.type "list",data:=.seq its.toArray n }) (hf:f { cls:=.type "list",data:=.seq its.toArray n }={ cls:=.type "list",data:=.seq its'.toArray n' }) (r:Vals ys its') (hz:ys.length<=sizeLine) (t:Nat):
 Inv X pins σ (upd H p (.lst ys)) { s with heap:=s.heap.update p f,toks:=t }:=by
 have e:(s.heap.update p f).get? p=some { cls:=.type "list",data:=.seq its'.toArray n' }:=by
  rw [Heap.get?_update_self f ho (by rw [hf]<;>rfl),hf]
 refine I.write (x:=p) (e:=p) (by rw [h];trivial) (.inl rfl) (fun b u hb q=>(Heap.get?_update_other _ _ (Ne.symm hb)).trans q) ⟨_,e⟩ ?_
 exact ⟨hz,its',n',r,e⟩
def Zl8:V->V->V->Hp->(Hp->Prop)->Prop:=fun o i v H Q=>∃ p xs k j,o=.ref p/\i=.int k/\H p=some (.lst xs)/\ixN xs.length k=some j/\Q (upd H p (.lst (xs.set j v)))
def Zkj:PSet X Zl8:=by
 intro pins s σ H o i v ov iv u Q I ro ri rv h
 obtain ⟨p,xs,k,j,rfl,rfl,hp,hj,q⟩:=h
 cases ro
 obtain ⟨t,rfl⟩:=ri
 obtain ⟨its,n,r,ho,hz⟩:=I.lst hp
 obtain ⟨h1,h2,h3,h4⟩:=Zhp hj
 have hl:=r.length
 have hn:=Zd8
 have I':Inv X pins σ (upd H p (.lst (xs.set j v))) { s with heap:=s.heap.update p (Obj.mapSeq (·.setIfInBounds j u)) }:=
  I.lstUpd hp ho (Zid its n j u) (r.set rv j) (by rw [length_set];exact hz) s.toks
 by_cases h0:0<=k
 . have hk:k.toNat=j:=by
    rw [seqIndex_of h0 h4] at h1
    exact Option.some.inj h1
   exact PySem.W.ki_setAt ho h0 (by omega) (by rw [size_toArray,<- hl];exact h4) (by rw [hk];exact ⟨_,I',q⟩)
 . have hk:(k+(its.toArray.size:Int)).toNat=j:=by
    rw [seqIndex_neg (by omega) h3] at h1
    rw [size_toArray,<- hl]
    exact Option.some.inj h1
   exact PySem.W.ki_setBack ho (by omega) (by rw [size_toArray,<- hl];exact h3) (by omega) (by rw [hk];exact ⟨_,I',q⟩)
def Zgh(lo hi:Option Int)(n:Nat):(sliceBounds lo hi none n).1=((HT.sIx n 0 lo:Nat):Int)/\(sliceBounds lo hi none n).2.1=((HT.sIx n n hi:Nat):Int)/\(sliceBounds lo hi none n).2.2=1:=by
 refine ⟨?_,?_,rfl⟩
 . cases lo with
   | none=>simp [sliceBounds,HT.sIx]
   | some i=>
    simp only [sliceBounds,HT.sIx,Option.getD_none,show (1:Int) > 0 by decide,if_true]
    by_cases h:i < 0
    . simp only [h,if_true]<;>omega
    . simp only [h,if_false]<;>omega
 . cases hi with
   | none=>simp [sliceBounds,HT.sIx]
   | some i=>
    simp only [sliceBounds,HT.sIx,Option.getD_none,show (1:Int) > 0 by decide,if_true]
    by_cases h:i < 0
    . simp only [h,if_true]<;>omega
    . simp only [h,if_false]<;>omega
def ZfW(its:List Value)(lo hi:Option Int):slicePick its.toArray lo hi none=((its.drop (HT.sIx its.length 0 lo)).take (HT.sIx its.length its.length hi - HT.sIx its.length 0 lo)).toArray:=by
 obtain ⟨h1,h2,h3⟩:=Zgh lo hi its.toArray.size
 unfold slicePick
 rw [h1,h2,h3]
 simp only [sliceRange_one,pick_run,size_toArray]<;>rfl
def rSlL(K:Fg):V->Option Int->Option Int->Hp->VK->Prop:=fun x lo hi H Q=>∃ a xs,x=.ref a/\SqL K H a xs/\∀ p,H p=none->Q (.ref p) (upd H p (.lst (cutV xs lo hi)))
def Zht:SlR X (rSlL X.K):=by
 intro pins s σ H x v vl vu lo hi sl Q I rx hs pl pu h
 obtain ⟨a,xs,rfl,hx,q⟩:=h
 cases rx
 obtain ⟨its,r,ht,hz⟩:=I.list hx
 have hlen:=r.length
 refine ⟨"list",_,slot_list_getitem.lookup,ht.isList.typeIs,?_⟩
 refine wpAny_getItem_list_slice ht.isList hs pl pu .none (by simp) ?_ (by rw [size_toArray]<;>omega)
 rw [ZfW,<- hlen]
 refine ⟨.ref s.heap.objs.size,_,I.laid (t':=s.toks) (o:=.lst (cutV xs lo hi)) (fun b ob q=>Heap.get?_push_of_some _ q) (le_refl _) ?_,rfl,q _ (I.hok.fresh (le_refl _))⟩
 exact ⟨le_trans (ZgU xs lo hi) hz,_,0,(r.drop (HT.sIx xs.length 0 lo)).take (HT.sIx xs.length xs.length hi - HT.sIx xs.length 0 lo),Heap.get?_push_size _ rfl⟩
noncomputable def Zch:V->Bool
 | .non=>true
 | .bl _=>true
 | .int _=>true
 | .str _=>true
 | _=>false
noncomputable def eqV:V->V->Bool
 | .non,.non=>true
 | .bl a,.bl b=>a == b
 | .bl a,.int b=>(if a then 1 else 0) == b
 | .int a,.bl b=>a == (if b then 1 else 0)
 | .int a,.int b=>a == b
 | .str a,.str b=>a == b
 | _,_=>false
theorem ZnZ(ry:RelV y u)(rx:RelV x v)(fy:Zch y=true)(fx:Zch x=true):SeqAt.EqAt A s u v (eqV y x):=by
 cases y with
 | non=>
  cases ry
  cases x with
  | non=>cases rx;exact SeqAt.EqAt.same _
  | bl b=>cases rx;exact SeqAt.EqAt.none_bool b
  | int b=>obtain ⟨t,rfl⟩:=rx;exact SeqAt.EqAt.none_int b t
  | str b=>obtain ⟨t,rfl⟩:=rx;exact SeqAt.EqAt.none_str b t
  | _=>exact absurd (show false=true from fx) Bool.false_ne_true
 | bl a=>
  cases ry
  cases x with
  | non=>cases rx;exact SeqAt.EqAt.bool_none a
  | bl b=>cases rx;exact SeqAt.EqAt.bool_bool a b
  | int b=>obtain ⟨t,rfl⟩:=rx;exact SeqAt.EqAt.bool_int a b t
  | str b=>obtain ⟨t,rfl⟩:=rx;exact SeqAt.EqAt.bool_str a b t
  | _=>exact absurd (show false=true from fx) Bool.false_ne_true
 | int a=>
  obtain ⟨t',rfl⟩:=ry
  cases x with
  | non=>cases rx;exact SeqAt.EqAt.int_none a t'
  | bl b=>cases rx;exact SeqAt.EqAt.int_bool a t' b
  | int b=>obtain ⟨t,rfl⟩:=rx;exact SeqAt.EqAt.int_int a t' b t
  | str b=>obtain ⟨t,rfl⟩:=rx;exact SeqAt.EqAt.int_str a t' b t
  | _=>exact absurd (show false=true from fx) Bool.false_ne_true
 | str a=>
  obtain ⟨t',rfl⟩:=ry
  cases x with
  | non=>cases rx;exact SeqAt.EqAt.str_none a t'
  | bl b=>cases rx;exact SeqAt.EqAt.str_bool a t' b
  | int b=>obtain ⟨t,rfl⟩:=rx;exact SeqAt.EqAt.str_int a t' b t
  | str b=>obtain ⟨t,rfl⟩:=rx;exact SeqAt.EqAt.str_str a t' b t
  | _=>exact absurd (show false=true from fx) Bool.false_ne_true
 | _=>exact absurd (show false=true from fy) Bool.false_ne_true
noncomputable def eqU(x:V)(u:Value):Bool:=match u with
 | .none=>eqV .non x
 | .bool b=>eqV (.bl b) x
 | .int i _=>eqV (.int i) x
 | .str z _=>eqV (.str z) x
 | _=>false
theorem Zjb(r:RelV y u)(f:Zch y=true):eqU x u=eqV y x:=by
 cases y with
 | non=>cases r;rfl
 | bl b=>cases r;rfl
 | int i=>obtain ⟨t,rfl⟩:=r;rfl
 | str z=>obtain ⟨t,rfl⟩:=r;rfl
 | _=>exact absurd (show false=true from f) Bool.false_ne_true
theorem Zfo:∀{xs:List V}{us:List Value},Vals xs us->xs.all Zch=true->us.any (eqU x)=xs.any fun y=>eqV y x
 | _,_,.nil,_=>rfl
 | y::xs,u::us,.cons r t,f=>by
  rw [List.all_cons,and_eq_true] at f
  rw [any_cons,any_cons,Zjb r f.1,Zfo t f.2]
termination_by structural a=>a
theorem Ze0(rx:RelV x v)(fx:Zch x=true):∀{xs:List V}{us:List Value},Vals xs us->xs.all Zch=true->∀ u∈us,SeqAt.EqAt A s u v (eqU x u)
 | _,_,.nil,_=>fun u hu=>by cases hu
 | y::xs,u::us,.cons r t,f=>fun u' hu=>by
  rw [List.all_cons,and_eq_true] at f
  rcases List.mem_cons.mp hu with rfl|hu
  . rw [Zjb r f.1];exact ZnZ r rx f.1 fx
  . exact Ze0 rx fx t f.2 u' hu
noncomputable def inV(x:V)(xs:List V):Bool:=xs.any fun y=>eqV y x
def rIn(K:Fg)(neg:Bool):R2:=fun x y H Q=>∃ p xs,y=.ref p/\(SqL K H p xs\/SqT K H p xs)/\Zch x=true/\xs.all Zch=true/\Q (.bl (if neg then !inV x xs else inV x xs)) H
def Zd9:OpR X (compareOp .NotIn) (rIn X.K true):=by
 intro pins s σ H x y v u Q I rx ry h
 obtain ⟨p,xs,rfl,hq,fx,fs,q⟩:=h
 cases ry
 rcases hq with hq|hq
 . obtain ⟨its,r,pl,hz⟩:=I.list hq
   refine SeqAt.notIn_listAt (eqU x) pl.isList (fun w hw=>Ze0 rx fx r fs w (by simpa using hw)) ⟨.bl _,H,I,rfl,?_⟩
   rw [show its.toArray.any (eqU x)=its.any (eqU x) by simp,Zfo r fs]
   exact q
 . obtain ⟨its,r,pl,hz⟩:=I.tuple hq
   refine SeqAt.notIn_tupleAt (eqU x) pl (fun w hw=>Ze0 rx fx r fs w (by simpa using hw)) ⟨.bl _,H,I,rfl,?_⟩
   rw [show its.toArray.any (eqU x)=its.any (eqU x) by simp,Zfo r fs]
   exact q
def Zbw:Zaj X (.builtin "len") (fun xs H Q=>∃ p ys,xs=[.ref p]/\(SqL X.K H p ys\/SqT X.K H p ys)/\Q (.int ys.length) H):=by
 intro pins s σ H xs us Q I r h
 obtain ⟨p,ys,rfl,hq,q⟩:=h
 obtain ⟨u,rfl,rx⟩:=ZhY r
 cases rx
 have hn:=Zd8
 rcases hq with hq|hq
 . obtain ⟨its,r',pl,hz⟩:=I.list hq
   have hlen:=r'.length
   exact Calls.call_len_list pl.isList (by simp only [size_toArray]<;>omega) ⟨.int ys.length,H,I.tok _,⟨s.toks+1,by rw [size_toArray,hlen]⟩,q⟩
 . obtain ⟨its,r',pl,hz⟩:=I.tuple hq
   have hlen:=r'.length
   exact len_tuple pl (by simp only [size_toArray]<;>omega) ⟨.int ys.length,H,I.tok _,⟨s.toks+1,by rw [size_toArray,hlen]⟩,q⟩
def Zbx:Zaj X (.type "list") (fun xs H Q=>∃ p ys,xs=[.ref p]/\(SqL X.K H p ys\/SqT X.K H p ys)/\∀ l,H l=none->Q (.ref l) (upd H l (.lst ys))):=by
 intro pins s σ H xs us Q I r h
 obtain ⟨p,ys,rfl,hq,q⟩:=h
 obtain ⟨u,rfl,rx⟩:=ZhY r
 cases rx
 have fin:∀(its:List Value),Vals ys its->ys.length<=sizeLine->∀(h':Heap)(c':Nat),(∀ b o',s.heap.get? b=some o'->h'.get? b=some o')->
  h'.get? s.heap.objs.size=some { cls:=.type "list",dict:=none,data:=.seq its.toArray c',slots:=#[] }->EP X pins σ Q (.ref s.heap.objs.size) { s with heap:=h' }:=fun its r' hz h' c' kp e=>
  ⟨.ref s.heap.objs.size,_,I.laid (t':=s.toks) kp (le_refl _) (show ZE X.prog X.w _ h' _ (.lst ys) from ⟨hz,its,c',r',e⟩),rfl,q _ (I.hok.fresh (le_refl _))⟩
 rcases hq with hq|hq
 . obtain ⟨its,r',pl,hz⟩:=I.list hq
   have hlen:=r'.length
   obtain ⟨o,ho,hc,n,hd⟩:=pl.isList
   exact call_list_seq p (.inl rfl) ho hc hd (fun h' c' kp e=>fin its r' hz h' c' kp e) (by simp only [size_toArray]<;>omega)
 . obtain ⟨its,r',pl,hz⟩:=I.tuple hq
   have hlen:=r'.length
   obtain ⟨o,ho,hc,n,hd⟩:=pl
   exact call_list_seq p (.inr rfl) ho hc hd (fun h' c' kp e=>fin its r' hz h' c' kp e) (by simp only [size_toArray]<;>omega)
def tyV(K:Fg)(T:String)(x:V)(H:Hp):Prop:=match x with
 | .str _=>T="str"
 | .int _=>T="int"
 | .ref p=>(T="list"/\∃ xs,SqL K H p xs)\/(T="tuple"/\∃ o,K.lookup p=some o/\o.cls=.type "tuple"/\o.dict=none)\/
  (T="dict"/\((∃ kvs,H p=some (.dK kvs))\/∃ kvs,H p=some (.dT kvs)))\/(T="set"/\∃ S n,H p=some (.set S n))
 | _=>False
theorem Zoa(I:Inv X pins σ H s)(r:RelV x v)(ty:tyV X.K T x H):
 s.TypeIs v T/\∀ a,v=.ref a->∃ ob,s.heap.get? a=some ob/\ob.dict=none:=by
 cases x with
 | str z=>
  obtain ⟨t,rfl⟩:=r
  cases (show T="str" from ty)
  exact ⟨typeIs_str s z t,fun _ e=>nomatch e⟩
 | int i=>
  obtain ⟨t,rfl⟩:=r
  cases (show T="int" from ty)
  exact ⟨typeIs_int s i t,fun _ e=>nomatch e⟩
 | ref p=>
  cases r
  rcases ty with ⟨rfl,xs,hq⟩|⟨rfl,o,hk,hc,hd⟩|⟨rfl,hk⟩|⟨rfl,S,n,hk⟩
  . obtain ⟨its,_,pl,_⟩:=I.list hq
    refine ⟨pl.isList.typeIs,fun a e=>?_⟩
    cases e
    obtain ⟨o,n,e,c,hd,_⟩:=pl
    exact ⟨o,e,hd⟩
  . refine ⟨⟨o,I.kIn p o hk,hc⟩,fun a e=>?_⟩
    cases e
    exact ⟨o,I.kIn _ o hk,hd⟩
  . have z:∃ o,s.heap.get? p=some o/\o.ExactDict:=by
     rcases hk with ⟨kvs,hk⟩|⟨kvs,hk⟩
     . obtain ⟨_,_,_,_,o,_,_,e,ex,_⟩:=I.hok p _ hk
       exact ⟨o,e,ex⟩
     . obtain ⟨_,_,_,_,o,_,_,e,ex,_⟩:=I.hok p _ hk
       exact ⟨o,e,ex⟩
    obtain ⟨o,e,ex⟩:=z
    refine ⟨⟨o,e,ex.1⟩,fun a e2=>?_⟩
    cases e2
    exact ⟨o,e,ex.2.1⟩
  . obtain ⟨o,_,_,_,e,ex,_⟩:=I.hok p _ hk
    refine ⟨⟨o,e,ex.1⟩,fun a e2=>?_⟩
    cases e2
    exact ⟨o,e,ex.2.1⟩
 | _=>exact False.elim ty
def tBM(K:Fg)(T:String)(r:V->List V->Hp->VK->Prop)(to:TE)(t:TA):TE:=fun σ H Q=>to σ H fun x H1=>tyV K T x H1/\t σ H1 fun xs H2=>r x xs H2 Q
variable{o e:Expr}{es:List Expr}{to:TE}{t:TA}{name:Str}{apos cpos:Pos}{T id:String}{r:V->List V->Hp->VK->Prop}
def Zie(pa:PlainAttrs T)(slot:Slot T name id)(hty:typeOf (.builtin id)=pure (.type "method_descriptor"))(hm:MtR X id r)(ho:PE X o to)(ha:PA X (e::es) t)
 (hbase:autoParam (attributeBase o name X.env (eval o X.env)=eval o X.env) Q9)
 (hfew:autoParam (((backTo cpos (starEach (e::es) X.env)).all (fun x=>!x.1) && (backToKw cpos (keywordEach [] X.env)).all (fun x=>x.1.isSome)
  && decide ((e::es).length+([]:List Keyword).length+(if ([]:List Keyword).isEmpty then 0 else 1) < 30))=true) Q9)
 (hline:autoParam ((apos.endLine == cpos.line)=true) Q9) (hs:autoParam (SE X e es) Q9) (hplain:autoParam ((backTo cpos (starEach es X.env)).any (·.1)=false) Q9):
 PE X (.Call (.Attribute o name apos) (e::es) [] cpos) (tBM X.K T r to t):=by
 intro pins s σ H Q I h
 refine wpAny_Call_method_late hbase hfew hline rfl (thn (ho pins s σ H _ I h) fun v s1 z0=>?_)
 obtain ⟨x,H1,I1,r1,ty,q1⟩:=z0
 obtain ⟨h1,h2⟩:=Zoa I1 r1 ty
 refine ⟨T,id,pa,slot,hty,h1,h2,?_⟩
 have hA:=ha cpos pins s1 σ H1 _ I1 q1
 rw [hs] at hA ⊢
 refine Calls.callWith_builtin (by show (false || (backTo cpos (starEach es X.env)).any (·.1))=false;rw [hplain]<;>rfl) (Calls.evalArgs_plain ?_)
 exact thn hA fun us s2 z90=>by obtain ⟨vs,H2,I2,r2,q2⟩:=z90;exact hm pins s2 σ H2 x vs v us Q I2 r1 r2 q2
end
def MtM(X:Cx)(id:String)(r:V->List V->Hp->VK->Prop):Prop:=
 ∀(pins:Pn)(s:Shared)(σ:St)(H:Hp)(x:V)(xs:List V)(v:Value)(us:List Value)(Q:VK),Inv X pins σ H s->RelV x v->Vals xs us->r x xs H Q->
  wpAny (model X.prog X.w) X.A (call (.builtin id) (v::us)) (EP X pins σ Q) X.xe s
def Vals.one(h:Vals [x] us):∃ u,us=[u]/\RelV x u:=by
 cases h with|cons r h=>cases h;exact ⟨_,rfl,r⟩
def Vals.two(h:Vals [x,y] us):∃ u v,us=[u,v]/\RelV x u/\RelV y v:=by
 cases h with|cons r h=>cases h with|cons q h=>cases h;exact ⟨_,_,rfl,r,q⟩
theorem Vals.eraseIdx:∀{xs:List V}{us:List Value}(i:Nat),Vals xs us->Vals (xs.eraseIdx i) (us.eraseIdx i)
 | _,_,_,.nil=>.nil
 | _,_,0,.cons _ t=>t
 | _,_,i+1,.cons r t=>.cons r (Vals.eraseIdx i t)
theorem Vals.reverse(h:Vals xs us):Vals xs.reverse us.reverse:=by
 induction h with
 | nil=>exact .nil
 | cons r t ih=>rw [List.reverse_cons,List.reverse_cons];exact Vals.append ih (.cons r .nil)
theorem Vals.rep(h:Vals xs us):∀ k:Nat,Vals (replicate k xs).flatten (replicate k us).flatten
 | 0=>.nil
 | k+1=>by
  rw [replicate_succ,replicate_succ,flatten_cons,flatten_cons]
  exact Vals.append h (Vals.rep h k)
theorem ZfE:∀(l:List α)(i:Nat),(l.eraseIdx i).length<=l.length
 | [],_=>le_refl _
 | _::_,0=>le_succ _
 | _::r,i+1=>Nat.succ_le_succ (ZfE r i)
theorem ZfF(its:List Value):∀(k:Nat)(acc:List Value),
 foldl (fun x1 x2=>x1++x2) acc.toArray (replicate k its.toArray)=(acc++(replicate k its).flatten).toArray
 | 0,acc=>by simp
 | k+1,acc=>by
  have e:acc.toArray++its.toArray=(acc++its).toArray:=by simp
  have e2:(acc++its)++(replicate k its).flatten=acc++(replicate (k+1) its).flatten:=by
   rw [replicate_succ,flatten_cons,List.append_assoc]
  rw [<- e2,<- ZfF its k (acc++its),<- e,replicate_succ,List.foldl_cons]
section
variable{σ:St}{l b:Addr}{xs zs:List V}
def Inv.lset{its:List Value}{n:Nat}{f:Array Value->Array Value}{t':Nat}(I:Inv X pins σ H s)(hH:H l=some (.lst xs))
 (e:s.heap.get? l=some { cls:=.type "list",data:=.seq its.toArray n }) (hf:f its.toArray=its'.toArray) (hv:Vals ys its') (hz:ys.length<=sizeLine):
 Inv X pins σ (upd H l (.lst ys)) { s with heap:=s.heap.update l (Obj.mapSeq f),toks:=t' }:=by
 have q:=PySem.IsL.update e f
 rw [hf] at q
 refine I.write (x:=l) (e:=l) (by rw [hH];exact trivial) (.inl rfl) (fun b' u hb hu=>(Heap.get?_update_other s.heap (Obj.mapSeq f) (Ne.symm hb)).trans hu) ⟨_,q⟩ ?_
 exact ⟨hz,its',_,hv,q⟩
def Inv.lnew(I:Inv X pins σ H s)(hv:Vals ys its)(hz:ys.length<=sizeLine):
 Inv X pins σ (upd H s.heap.objs.size (.lst ys)) { s with heap:=s.heap.push { cls:=.type "list",data:=.seq its.toArray },toks:=t' }:=
 I.laid (fun _ _ q=>Heap.get?_push_of_some _ q) (le_refl _) ⟨hz,its,0,hv,Heap.get?_push_size _ rfl⟩
def Inv.fresh(I:Inv X pins σ H s):H s.heap.objs.size=none:=I.hok.fresh (le_refl _)
def Inv.lstM(I:Inv X pins σ H s)(hH:H l=some (.lst xs)):xs.length<=sizeLine/\∃(its:List Value)(n:Nat),Vals xs its/\xs.length=its.length/\s.heap.get? l=some { cls:=.type "list",data:=.seq its.toArray n }:=by
 obtain ⟨z,its,n,r,e⟩:=I.hok l _ hH
 exact ⟨z,its,n,r,r.length,e⟩
def Zgi(h:n<=sizeLine):Builtin.List.listTooLong n=false:=by
 unfold Builtin.List.listTooLong
 exact decide_eq_false (by omega)
end
section
def Zms:V->List V->Hp->VK->Prop:=fun x vs H Q=>∃ l xs y,x=.ref l/\vs=[y]/\H l=some (.lst xs)/\xs.length < sizeLine/\Q .non (upd H l (.lst (xs++[y])))
def ZfG:MtM X "list.append" Zms:=by
 intro pins s σ H x vs v us Q I rx rv h
 obtain ⟨l,xs,y,rfl,rfl,hH,hz,q⟩:=h
 cases rx
 obtain ⟨u,rfl,ru⟩:=rv.one
 obtain ⟨z,its,n,r,hl,e⟩:=I.lstM hH
 refine call_meets F.slot_list_append ⟨_,e,rfl⟩ F.entry_list_append (F.args_list_append_2 _ _) (PySem.list_append l its.toArray n u (by rw [size_toArray];omega)) ⟨e,?_⟩
 refine ⟨.non,_,I.lset (its':=its++[u]) hH e (by simp) (r.append (.cons ru .nil)) ?_,rfl,q⟩
 rw [List.length_append,length_singleton]
 omega
def Zmt:V->List V->Hp->VK->Prop:=fun x vs H Q=>∃ l b xs zs,x=.ref l/\vs=[.ref b]/\H l=some (.lst xs)/\H b=some (.lst zs)/\xs.length+zs.length<=sizeLine/\Q .non (upd H l (.lst (xs++zs)))
def Zjc:MtM X "list.extend" Zmt:=by
 intro pins s σ H x vs v us Q I rx rv h
 obtain ⟨l,b,xs,zs,rfl,rfl,hH,hB,hz,q⟩:=h
 cases rx
 obtain ⟨u,rfl,ru⟩:=rv.one
 cases ru
 obtain ⟨z,its,n,r,hl,e⟩:=I.lstM hH
 obtain ⟨z2,its2,n2,r2,hl2,e2⟩:=I.lstM hB
 have hsz:its.toArray.size+its2.toArray.size<=sizeLine:=by rw [size_toArray,size_toArray];omega
 have hlong:¬ (!its.toArray.isEmpty && Builtin.List.listTooLong (its.toArray.size+its2.toArray.size))=true:=by
  rw [Zgi hsz,Bool.and_false]
  exact Bool.false_ne_true
 refine call_meets F.slot_list_extend ⟨_,e,rfl⟩ F.entry_list_extend (F.args_list_extend_2 _ _)
  (AutoSeq1.list_extend_list_list_0 l its.toArray n b its2.toArray n2 hlong (by rw [size_toArray];omega) (by omega)) ⟨e,e2,?_⟩
 refine ⟨.non,_,I.lset (its':=its++its2) hH e (by simp) (r.append r2) ?_,rfl,q⟩
 rw [List.length_append]
 omega
def Zob:V->List V->Hp->VK->Prop:=fun x vs H Q=>∃ l xs i k y,x=.ref l/\vs=[.int i]/\H l=some (.lst xs)/\-(2 ^ 63)<=i/\i < 2 ^ 63/\seqIndex? i xs.length=some k/\xs[k]?=some y/\Q y (upd H l (.lst (xs.eraseIdx k)))
def Zkk:MtM X "list.pop" Zob:=by
 intro pins s σ H x vs v us Q I rx rv h
 obtain ⟨l,xs,i,k,y,rfl,rfl,hH,h1,h2,hk,hy,q⟩:=h
 cases rx
 obtain ⟨u,rfl,ru⟩:=rv.one
 obtain ⟨t,rfl⟩:=ru
 obtain ⟨z,its,n,r,hl,e⟩:=I.lstM hH
 obtain ⟨w,hw,rw'⟩:=r.get hy
 refine call_meets F.slot_list_pop ⟨_,e,rfl⟩ F.entry_list_pop (F.args_list_pop_2 _ _)
  (MeetsSeq.list_pop_at l its.toArray n i t k w (fitsIndex_both h1 h2) (by rw [size_toArray,<- hl];exact hk) (by rw [<- Array.getElem?_toList];exact hw) (by rw [size_toArray];omega)) ⟨e,?_⟩
 refine ⟨y,_,I.lset (its':=its.eraseIdx k) hH e ?_ (r.eraseIdx k) ?_,rw',q⟩
 . show its.toArray.eraseIdxIfInBounds k=(its.eraseIdx k).toArray
   rw [List.eraseIdxIfInBounds_toArray]
 . have:=ZfE xs k
   omega
def rCat:R2:=fun x y H Q=>∃ l b xs zs,x=.ref l/\y=.ref b/\H l=some (.lst xs)/\H b=some (.lst zs)/\xs.length+zs.length<=sizeLine/\∀ p,H p=none->Q (.ref p) (upd H p (.lst (xs++zs)))
def Zoc:OpR X (binaryOp .Add) rCat:=by
 intro pins s σ H x y v u Q I rx ry h
 obtain ⟨l,b,xs,zs,rfl,rfl,hH,hB,hz,q⟩:=h
 cases rx
 cases ry
 obtain ⟨z,its,n,r,hl,e⟩:=I.lstM hH
 obtain ⟨z2,its2,n2,r2,hl2,e2⟩:=I.lstM hB
 refine PySem.P.add_list e e2 ?_ (by rw [size_toArray,size_toArray];omega)
 have ea:its.toArray++its2.toArray=(its++its2).toArray:=by simp
 rw [ea]
 exact ⟨.ref _,_,I.lnew (t':=s.toks) (r.append r2) (by rw [List.length_append];omega),rfl,q _ I.fresh⟩
def rRep:R2:=fun x y H Q=>∃ l k xs,x=.ref l/\y=.int k/\H l=some (.lst xs)/\-(2 ^ 63)<=k/\k < 2 ^ 63/\xs.length * k.toNat<=sizeLine/\
 ∀ p,H p=none->Q (.ref p) (upd H p (.lst (replicate k.toNat xs).flatten))
theorem Zmu(xs:List α)(k:Nat):(replicate k xs).flatten.length=k * xs.length:=by
 induction k with
 | zero=>simp
 | succ k ih=>rw [replicate_succ,flatten_cons,List.length_append,ih,Nat.succ_mul,Nat.add_comm]
def Zod:OpR X (binaryOp .Mult) rRep:=by
 intro pins s σ H x y v u Q I rx ry h
 obtain ⟨l,k,xs,rfl,rfl,hH,h1,h2,hz,q⟩:=h
 cases rx
 obtain ⟨t,rfl⟩:=ry
 obtain ⟨z,its,n,r,hl,e⟩:=I.lstM hH
 have hlen:its.toArray.size * k.toNat<=sizeLine:=by rw [size_toArray,<- hl];exact hz
 have hcap:¬ its.toArray.size * k.toNat > (2 ^ 63 - 1) / 8:=by
  have:(sizeLine:Nat)<=(2 ^ 63 - 1) / 8:=by decide
  omega
 have hfit:¬ (!Builtin.List.listFitsIndex k)=true:=by
  rw [fitsIndex_both h1 h2]
  exact Bool.false_ne_true
 have hlong:¬ Builtin.List.listTooLong (its.toArray.size * k.toNat)=true:=by
  rw [Zgi hlen]
  exact Bool.false_ne_true
 have hnew:foldl (fun x1 x2=>x1++x2) #[] (replicate (if its.toArray.isEmpty=true then 0 else k.toNat) its.toArray)=(replicate k.toNat its).flatten.toArray:=by
  have f0:∀ m:Nat,foldl (fun x1 x2=>x1++x2) #[] (replicate m its.toArray)=(replicate m its).flatten.toArray:=fun m=>by
   have:=ZfF its m []
   rw [nil_append] at this
   exact this
  rw [f0]
  cases its with
  | nil=>simp
  | cons a r'=>rw [if_neg (by simp)]
 refine wpAny_binaryOp_repeat_ref (T:="list") (U:="int") (by decide) ⟨_,e,rfl⟩ (fun s'=>typeIs_int s' k t) noFill_list_mul F.fills_int_mul F.slot_int_rmul repeat_list F.slot_int_index.lookup
  (call_meets F.slot_int_rmul (typeIs_int s k t) F.entry_int_rmul (F.args_int_rmul_2 _ _) (int___rmul___int_list k t l its.toArray n)
   ⟨e,rfl,⟨_,e,rfl⟩,call_meets F.slot_list_mul ⟨_,e,rfl⟩ F.entry_list_mul (F.args_list_mul_2 _ _) (AutoListH.list___mul___list_int_3 l its.toArray n k t hfit hcap hlong) ⟨e,?_⟩⟩)
 rw [hnew]
 exact ⟨.ref _,_,I.lnew (t':=s.toks) (r.rep k.toNat) (by rw [Zmu,Nat.mul_comm];exact hz),rfl,q _ I.fresh⟩
end
section
variable{κ:Type}[DecidableEq κ]
noncomputable def valV(kvs:List (κ×V))(k:κ):Option V:=(kvs.find? fun kv=>decide (kv.1=k)).map (·.2)
noncomputable def putK(kvs:List (κ×V))(k:κ)(v:V):List (κ×V):=
 if (kvs.any fun kv=>decide (kv.1=k))=true then kvs.map (fun kv=>if kv.1=k then (kv.1,v) else kv) else kvs++[(k,v)]
def Zgj:valV ([]:List (κ×V)) k=none:=rfl
def Zdt{p:κ×V}{r:List (κ×V)}{k:κ}(e:p.1=k):valV (p::r) k=some p.2:=by simp [valV,find?_cons,e]
def Zdu{p:κ×V}{r:List (κ×V)}{k:κ}(e:¬ p.1=k):valV (p::r) k=valV r k:=by simp [valV,find?_cons,e]
theorem Zgk(k:κ):∀ kvs:List (κ×V),(kvs.any fun kv=>decide (kv.1=k))=(valV kvs k).isSome
 | []=>rfl
 | p::r=>by
  rw [any_cons]
  by_cases e:p.1=k
  . simp only [Zdt e,decide_eq_true e,Bool.true_or,isSome_some]
  . rw [Zdu e,decide_eq_false e,Bool.false_or];exact Zgk k r
def ZcV(kvs:List (κ×V))(k:κ)(v:V):(putK kvs k v).length<=kvs.length+1:=by
 unfold putK
 split
 . rw [length_map];omega
 . rw [List.length_append,length_cons,length_nil];omega
theorem RelO.isSome_eq(r:RelO o u):o.isSome=u.isSome:=by
 cases o with
 | none=>cases u with
  | none=>rfl
  | some _=>exact (show False from r).elim
 | some _=>cases u with
  | none=>exact (show False from r).elim
  | some _=>rfl
theorem KV.val(r:KV kvs vs)(k:κ):RelO (valV kvs k) (valueAt vs k):=by
 unfold KV at r
 induction r with
 | nil=>exact True.intro
 | @cons p q ps qs h t ih=>
  obtain ⟨h1,h2⟩:=h
  by_cases e:p.1=k
  . have e':q.1=k:=h1.symm.trans e
    have b:valueAt (q::qs) k=some q.2:=by simp [valueAt,find?_cons,e']
    rw [Zdt e,b];exact h2
  . have e':¬ q.1=k:=fun z=>e (h1.trans z)
    have b:valueAt (q::qs) k=valueAt qs k:=by simp [valueAt,find?_cons,e']
    rw [Zdu e,b];exact ih
theorem KV.any(r:KV kvs vs)(k:κ):(kvs.any fun kv=>decide (kv.1=k))=vs.any fun kv=>decide (kv.1=k):=by
 unfold KV at r
 induction r with
 | nil=>rfl
 | cons h t ih=>rw [any_cons,any_cons,ih,h.1]
theorem KV.repl(r:KV kvs vs)(k:κ)(ry:RelV y u):
 KV (kvs.map fun kv=>if kv.1=k then (kv.1,y) else kv) (vs.map fun kv=>if kv.1=k then (kv.1,u) else kv):=by
 unfold KV at r ⊢
 induction r with
 | nil=>exact .nil
 | @cons p q ps qs h t ih=>
  rw [map_cons,map_cons]
  refine .cons ?_ ih
  obtain ⟨h1,h2⟩:=h
  by_cases e:p.1=k
  . rw [if_pos e,if_pos (h1.symm.trans e)];exact ⟨h1,ry⟩
  . rw [if_neg e,if_neg (fun z=>e (h1.trans z))];exact ⟨h1,h2⟩
def KV.put(r:KV kvs vs)(k:κ)(ry:RelV y u):KV (putK kvs k y) (stored vs k u):=by
 unfold putK stored
 rw [r.any k]
 by_cases e:(vs.any fun kv=>decide (kv.1=k))=true
 . rw [if_pos e,if_pos e];exact r.repl k ry
 . rw [if_neg e,if_neg e];exact Paired.snoc r ⟨rfl,ry⟩
def KV.length(r:KV kvs vs):kvs.length=vs.length:=Paired.length r
end
theorem Zea(r:RelV (kV k) u):(ZT P w).is k u=true:=by
 cases k with
 | inl i=>obtain ⟨t,e⟩:=(show ∃ t,u=Value.int i t from r);subst e;exact ZgS P w i t
 | inr x=>obtain ⟨t,e⟩:=(show ∃ t,u=Value.str x t from r);subst e;exact ZgT P w x t
theorem ZfH:∀{ks:List Key}{us:List Value},Vals (ks.map kV) us->ItemsAre (ZT P w) ks us
 | [],_,r=>by rw [map_nil] at r;cases r;exact .nil
 | k::ks,_,r=>by
  rw [map_cons] at r
  cases r with
  | cons h t=>exact .cons (Zea h) (ZfH t)
abbrev KT(H:Hp):List (List Key×V)->List (List Key×Addr×Value)->Prop:=Paired fun p q=>p.1=q.1/\H q.2.1=some (.tup (p.1.map kV))/\RelV p.2 q.2.2
theorem KT.val(r:KT H kvs xs)(k:List Key):RelO (valV kvs k) ((atKey xs k).map (·.2)):=by
 induction r with
 | nil=>exact True.intro
 | @cons p q ps qs h t ih=>
  obtain ⟨h1,_,h2⟩:=h
  by_cases e:p.1=k
  . have e':q.1=k:=h1.symm.trans e
    have b:atKey (q::qs) k=some q.2:=by simp [atKey,find?_cons,e']
    rw [Zdt e,b];exact h2
  . have e':¬ q.1=k:=fun z=>e (h1.trans z)
    have b:atKey (q::qs) k=atKey qs k:=by simp [atKey,find?_cons,e']
    rw [Zdu e,b];exact ih
theorem KT.repl(r:KT H kvs xs)(k:List Key)(ry:RelV y u):
 KT H (kvs.map fun kv=>if kv.1=k then (kv.1,y) else kv) (xs.map (putAt k u)):=by
 induction r with
 | nil=>exact .nil
 | @cons p q ps qs h t ih=>
  rw [map_cons,map_cons]
  refine .cons ?_ ih
  obtain ⟨h1,h2,h3⟩:=h
  unfold putAt
  by_cases e:p.1=k
  . rw [if_pos e,if_pos (h1.symm.trans e)];exact ⟨h1,h2,ry⟩
  . rw [if_neg e,if_neg (fun z=>e (h1.trans z))];exact ⟨h1,h2,h3⟩
def KT.put(r:KT H kvs xs)(k:List Key)(hb:H b=some (.tup (k.map kV)))(ry:RelV y u):
 KT H (putK kvs k y) (storedH xs k b u):=by
 have e:(kvs.any fun kv=>decide (kv.1=k))=(atKey xs k).isSome:=by
  rw [Zgk,(r.val k).isSome_eq,isSome_map]
 unfold putK storedH
 rw [e]
 by_cases q:(atKey xs k).isSome=true
 . rw [if_pos q,if_pos q];exact r.repl k ry
 . rw [if_neg q,if_neg q];exact Paired.snoc r ⟨rfl,hb,ry⟩
def KT.keeps(r:KT H kvs xs)(ht:∀ b ys,H b=some (.tup ys)->H' b=some (.tup ys)):KT H' kvs xs:=
 Paired.mapP r fun _ _ z=>⟨z.1,ht _ _ z.2.1,z.2.2⟩
section
def Zl9(ok:HOk P w H h)(e:Rd H a u):ZE P w H h a u:=e.ok ok
def ZcC(ok:HOk P w H h)(e:Rd H a (.dK kvs)):kvs.length<=sizeLine/\(a == sysModules)=false/\∃ vs,KV kvs vs/\h.DictOf (ZT P w) a vs:=
 show ZE P w H h a (.dK kvs) from Zl9 ok e
def ZlA(ok:HOk P w H h)(e:H a=some (.dK kvs)):kvs.length<=sizeLine/\(a == sysModules)=false/\∃ vs,KV kvs vs/\h.DictOf (ZT P w) a vs:=ZcC ok (.inl e)
def ZdA(ok:HOk P w H h)(e:H a=some (.tup (ks.map kV))):(tupleKind (ZT P w)).is h ks a:=by
 obtain ⟨_,its,r,o,h1,h2,n,h3⟩:=(show ZE P w H h a (.tup (ks.map kV)) from ok a _ e)
 exact ⟨o,its.toArray,n,h1,h2,h3,by simpa using ZfH r⟩
def Zeb(ok:HOk P w H h)(e:Rd H a (.dT kvs)):kvs.length<=sizeLine/\(a == sysModules)=false/\
 ∃ xs,KT H kvs xs/\h.DictOfH (tupleKind (ZT P w)) a xs:=by
 obtain ⟨z,y,xs,r,o,es,ep,h1,h2,h3,h4,h5⟩:=(show ZE P w H h a (.dT kvs) from Zl9 ok e)
 refine ⟨z,y,xs,r,o,es,ep,h1,h2,h3,h4,fun x hx=>?_,h5⟩
 have all:∀{l:List (List Key×V)}{m:List (List Key×Addr×Value)},KT H l m->∀ x∈m,(tupleKind (ZT P w)).is h x.1 x.2.1:=by
  intro l m q
  induction q with
  | nil=>intro x hx;exact nomatch hx
  | @cons p q ps qs hq t ih=>
   intro x hx
   rcases List.mem_cons.mp hx with e|hx
   . subst e
     exact ZdA ok (by rw [<- hq.1];exact hq.2.1)
   . exact ih x hx
 exact all r x hx
def Zqp(ok:HOk P w H h)(e:H a=some (.dT kvs)):kvs.length<=sizeLine/\(a == sysModules)=false/\
 ∃ xs,KT H kvs xs/\h.DictOfH (tupleKind (ZT P w)) a xs:=Zeb ok (.inl e)
end
def DGet(H:Hp)(a:Addr)(y:V)(r:Option V):Prop:=
 (∃ kvs k,Rd H a (.dK kvs)/\y=kV k/\r=valV kvs k)\/∃ kvs k b,Rd H a (.dT kvs)/\y=.ref b/\H b=some (.tup (k.map kV))/\r=valV kvs k
def DPut(H:Hp)(a:Addr)(y v:V)(H':Hp):Prop:=
 (∃ kvs k,H a=some (.dK kvs)/\y=kV k/\kvs.length < sizeLine/\H'=upd H a (.dK (putK kvs k v)))\/
 ∃ kvs k b,H a=some (.dT kvs)/\y=.ref b/\H b=some (.tup (k.map kV))/\kvs.length < sizeLine/\H'=upd H a (.dT (putK kvs k v))
def DGet.k{a:Addr}{kvs:List (Key×V)}{k:Key}(e:H a=some (.dK kvs)):DGet H a (kV k) (valV kvs k):=.inl ⟨kvs,k,.inl e,rfl,rfl⟩
def DPut.k{a:Addr}{kvs:List (Key×V)}{k:Key}{v:V}(e:H a=some (.dK kvs))(hl:kvs.length < sizeLine):DPut H a (kV k) v (upd H a (.dK (putK kvs k v))):=.inl ⟨kvs,k,e,rfl,hl,rfl⟩
section
def Inv.big(I:Inv X pins σ H s):sysModules < s.heap.objs.size:=by
 have h:mainGlobals < s.heap.objs.size:=(I.mod.glob.keeps I.bk).lt
 exact Nat.lt_trans (by decide) h
def Zjd(hu:A.units+1 < cLine)(I:Inv X pins σ H s)(g:DGet H a y (some v))(ry:RelV y u)(h:∀ w' s',Inv X pins σ H s'->RelV v w'->Q w' s'):
 wpAny (model X.prog X.w) A (getItem (.ref a) u) Q E s:=by
 rcases g with ⟨kvs,k,e,ey,l⟩|⟨kvs,k,b,e,ey,eb,l⟩
 . subst ey
   obtain ⟨z,hd,vs,rel,dd⟩:=ZcC I.hok e
   obtain ⟨w',hw,rw'⟩:=RelO.some_of (v:=v) (o:=valueAt vs k) (by rw [l];exact rel.val k)
   exact wpAny_getItem_of (Zea ry) dd.mapOf hw (h w' _ (I.tok _) rw')
 . subst ey
   cases (show u=Value.ref b from ry)
   obtain ⟨z,hd,xs,rel,dd⟩:=Zeb I.hok e
   obtain ⟨w',hw,rw'⟩:=RelO.some_of (v:=v) (o:=(atKey xs k).map (·.2)) (by rw [l];exact rel.val k)
   obtain ⟨p,hp,hp2⟩:=Option.map_eq_some_iff.mp hw
   refine wpAny_getItem_heap (tupleKind_room_in1 hu) (ZdA I.hok eb) dd hp ?_
   rw [hp2]
   exact h w' _ (I.tok _) rw'
def d_in(hu:A.units+1 < cLine)(I:Inv X pins σ H s)(g:DGet H a y o)(ry:RelV y u)(h:∀ s',Inv X pins σ H s'->Q (.bool o.isSome) s'):
 wpAny (model X.prog X.w) A (compareOp .In u (.ref a)) Q E s:=by
 rcases g with ⟨kvs,k,e,ey,l⟩|⟨kvs,k,b,e,ey,eb,l⟩
 . subst ey
   obtain ⟨z,hd,vs,rel,dd⟩:=ZcC I.hok e
   refine wpAny_in_of (Zea ry) hd dd.mapOf ?_
   rw [<- (rel.val k).isSome_eq,<- l]
   exact h _ (I.tok _)
 . subst ey
   cases (show u=Value.ref b from ry)
   obtain ⟨z,hd,xs,rel,dd⟩:=Zeb I.hok e
   refine wpAny_in_heap (tupleKind_room_in1 hu) (ZdA I.hok eb) hd dd ?_
   have q:=(rel.val k).isSome_eq
   rw [isSome_map] at q
   rw [<- q,<- l]
   exact h _ (I.tok _)
def Zmv(hu:A.units+1 < cLine)(I:Inv X pins σ H s)(g:DGet H a y o)(ry:RelV y u)(h:∀ s',Inv X pins σ H s'->Q (.bool (!o.isSome)) s'):
 wpAny (model X.prog X.w) A (compareOp .NotIn u (.ref a)) Q E s:=by
 rcases g with ⟨kvs,k,e,ey,l⟩|⟨kvs,k,b,e,ey,eb,l⟩
 . subst ey
   obtain ⟨z,hd,vs,rel,dd⟩:=ZcC I.hok e
   refine wpAny_notIn_of (Zea ry) hd dd.mapOf ?_
   rw [<- (rel.val k).isSome_eq,<- l]
   exact h _ (I.tok _)
 . subst ey
   cases (show u=Value.ref b from ry)
   obtain ⟨z,hd,xs,rel,dd⟩:=Zeb I.hok e
   refine wpAny_notIn_heap (tupleKind_room_in1 hu) (ZdA I.hok eb) hd dd ?_
   have q:=(rel.val k).isSome_eq
   rw [isSome_map] at q
   rw [<- q,<- l]
   exact h _ (I.tok _)
def Zfp(I:Inv X pins σ H s)(mu:Mut (H a))(hs:Heap.SameBut a s.heap h')(he:∃ q,h'.get? a=some q)(new:ZE X.prog X.w (upd H a ob) h' a ob):
 Inv X pins σ (upd H a ob) { s with heap:=h',toks:=t' }:=
 I.write (x:=a) (e:=a) mu (.inl rfl) (fun b q hb z=>(hs.2 b hb).trans z) he new
def Zje(z:kvs.length<=sizeLine)(hd:(a == sysModules)=false)(rel:KV kvs vs)(dd:h'.DictOf (ZT P w) a vs):
 ZE P w H' h' a (.dK kvs):=⟨z,hd,vs,rel,dd⟩
def Zjf(hu:A.units+1 < cLine)(I:Inv X pins σ H s)(g:DPut H a y v H')(ry:RelV y u)(rv:RelV v r)(h:∀ s',Inv X pins σ H' s'->Q () s'):
 wpAny (model X.prog X.w) A (setItem (.ref a) u r) Q E s:=by
 rcases g with ⟨kvs,k,e,ey,l,eH⟩|⟨kvs,k,b,e,ey,eb,l,eH⟩
 . subst ey eH
   obtain ⟨z,hd,vs,rel,dd⟩:=ZlA I.hok e
   have hz:vs.length<=sizeLine:=by rw [<- rel.length];exact z
   have hl:(putK kvs k v).length<=sizeLine:=by have:=ZcV kvs k v;omega
   refine wpAny_setItem_pairs (hsz:=hz) (Zea ry) dd fun h' dd' hs=>h _ ?_
   have he:∃ q,h'.get? a=some q:=let ⟨q,_,_,hq,_⟩:=dd';⟨q,hq⟩
   exact Zfp I (by rw [e];exact True.intro) hs he (Zje hl hd (rel.put k rv) dd')
 . subst ey eH
   cases (show u=Value.ref b from ry)
   obtain ⟨z,hd,xs,rel,dd⟩:=Zqp I.hok e
   have hz:xs.length<=sizeLine:=by rw [<- Paired.length rel];exact z
   have hl:(putK kvs k v).length<=sizeLine:=by have:=ZcV kvs k v;omega
   refine wpAny_setItem_heap (hsz:=hz) (tupleKind_room_in1 hu) (ZdA I.hok eb) dd fun h' dd' hs=>h _ ?_
   obtain ⟨q,es,ep,hq,h2,h3,h4,_,h5⟩:=dd'
   refine Zfp I (by rw [e];exact True.intro) hs ⟨q,hq⟩ ⟨hl,hd,_,(rel.put k eb rv).keeps fun c ys ec=>?_,q,es,ep,hq,h2,h3,h4,h5⟩
   rw [Zn (ZpR ec e (fun z=>nomatch z))]
   exact ec
end
section
def Zqq(I:Inv X pins σ H s)(e:Rd H a (.dK kvs))(h:∀ t s',Inv X pins σ H s'->Q (.int kvs.length t) s'):wpAny (model X.prog X.w) A (call (.builtin "len") [.ref a]) Q E s:=by
 obtain ⟨z,hd,vs,rel,dd⟩:=ZcC I.hok e
 refine call_len_dict hd dd (by rw [<- rel.length];rw [sizeLine_eq] at z;omega) ?_
 rw [<- rel.length]
 exact h _ _ (I.tok _)
end
def NoSl(i:Expr):Prop:=∀ ov iv,subscripted i false ov iv=operate [ov,iv] (getItem ov iv)
def Zmw{prog:Program}{w:World}{A:Around}{E:VS}{env:Env}{value slice:Expr}{T id:String}{Q:VS}
 (hl:typeLookup (.type T) "__getitem__"=pure (some (.builtin id))) (hs:NoSl slice)
 (h:wpAny (model prog w) A (eval value env) (fun o s₁=>wpAny (model prog w) A (eval slice env) (fun i s₂=>s₂.TypeIs o T/\wpAny (model prog w) A (getItem o i) Q E s₂) E s₁) E s):
 wpAny (model prog w) A (eval (.Subscript value slice pos) env) Q E s:=by
 refine Subscript_ (wpAny_mono h (fun o s₁ h₁=>wpAny_mono h₁ (fun i s₂ h₂=>?_) fun _ _ x=>x) fun _ _ x=>x)
 obtain ⟨hT,h₂⟩:=h₂
 unfold subscriptTail
 refine wpAny_bind ?_
 rw [getitemInPython_of_ne hT.not_modules]
 refine wpAny_bind (wpAny_specialOf hT hl ?_)
 have fin:wpAny (model prog w) A (subscripted slice false o i) (fun r s₃=>wpAny (model prog w) A (letTemporaryGo value o r >>= fun _=>pure r) Q E s₃) E s₂:=by
  rw [hs o i]
  exact wpAny_operating (wpAny_mono h₂ (fun r s₃ h₃=>wpAny_bind (wpAny_letTemporaryGo (wpAny_pure h₃))) fun _ _ x=>x)
 first
  | exact wpAny_pure (wpAny_bind fin)
  | exact wpAny_bind (wpAny_pure (wpAny_bind fin))
  | exact wpAny_bind fin
def ZgV(I:Inv X pins σ H s)(g:DGet H a y o):s.TypeIs (.ref a) "dict":=by
 rcases g with ⟨kvs,k,e,_,_⟩|⟨kvs,k,b,e,_,_,_⟩
 . obtain ⟨_,_,vs,_,dd⟩:=ZcC I.hok e
   exact dd.typeIs
 . obtain ⟨_,_,xs,_,dd⟩:=Zeb I.hok e
   exact dd.typeIs
def Zqr(td ty:TE):TE:=fun σ H Q=>td σ H fun x H1=>ty σ H1 fun y H2=>∃ a v,x=.ref a/\DGet H2 a y (some v)/\Q v H2
section
def Zmx(hu:X.A.units+1 < cLine)(ho:PE X o td)(hi:PE X i ty)(hs:NoSl i):PE X (.Subscript o i pos) (Zqr td ty):=by
 intro pins s σ H Q I h
 refine Zmw PySem.F.slot_dict_getitem.lookup hs (thn (ho pins s σ H _ I h) fun u s1 ⟨x,H1,I1,rx,q1⟩=>thn (hi pins s1 σ H1 _ I1 q1) fun iv s2 z90=>?_)
 obtain ⟨y,H2,I2,ry,a,v,ex,g,q2⟩:=z90
 subst ex
 obtain rfl:u=Value.ref a:=rx
 exact ⟨ZgV I2 g,Zjd hu I2 g ry fun w' s3 I3 rw'=>⟨v,H2,I3,rw',q2⟩⟩
end
def Zkl(h:Heap)(hb:sysModules < h.objs.size):ZE P w H (h.push { cls:=.type "dict",data:=.dict #[] }) h.objs.size (.dK []):=
 ⟨zero_le _,beq_eq_false_iff_ne.mpr (Ne.symm (ne_of_lt hb)),[],.nil,Heap.DictOf.new h⟩
def Zoe:TE:=fun _ H Q=>∀ p,H p=none->Q (.ref p) (upd H p (.dK []))
section
def Zkm:PE X (.Dict [] [] pos) Zoe:=fun pins s σ H Q I h=>
 wpAny_Dict_empty ⟨.ref s.heap.objs.size,_,I.laid (a:=s.heap.objs.size) (o:=.dK []) (t':=s.toks) (fun _ _ q=>Heap.get?_push_of_some _ q) (le_refl _) (Zkl s.heap I.big),rfl,h _ (I.hok.fresh (le_refl _))⟩
end
structure M1(X:Cx)(o:Expr)(m:Str)(apos:Pos)(e:Expr)(cpos:Pos):Prop where
 base:attributeBase o m X.env (eval o X.env)=eval o X.env
 few:((backTo cpos (starEach [e] X.env)).all (fun x=>!x.1) && (backToKw cpos (keywordEach [] X.env)).all (fun x=>x.1.isSome)
  && decide (([e]:List Expr).length+([]:List Keyword).length+(if ([]:List Keyword).isEmpty then 0 else 1) < 30))=true
 line:(apos.endLine == cpos.line)=true
 trees:backTo cpos (starEach [e] X.env)=[(false,eval e X.env)]
structure M2(X:Cx)(o:Expr)(m:Str)(apos:Pos)(e f:Expr)(cpos:Pos):Prop where
 base:attributeBase o m X.env (eval o X.env)=eval o X.env
 few:((backTo cpos (starEach [e,f] X.env)).all (fun x=>!x.1) && (backToKw cpos (keywordEach [] X.env)).all (fun x=>x.1.isSome)
  && decide (([e,f]:List Expr).length+([]:List Keyword).length+(if ([]:List Keyword).isEmpty then 0 else 1) < 30))=true
 line:(apos.endLine == cpos.line)=true
 trees:backTo cpos (starEach [e,f] X.env)=[(false,eval e X.env),(false,eval f X.env)]
def IsD(H:Hp)(a:Addr):Prop:=(∃ kvs,Rd H a (.dK kvs))\/∃ kvs,Rd H a (.dT kvs)
def Zjg(I:Inv X pins σ H s)(d:IsD H a):
 s.TypeIs (.ref a) "dict"/\(∀ b,Value.ref a=.ref b->∃ ob,s.heap.get? b=some ob/\ob.dict=none)/\(a == sysModules)=false:=by
 rcases d with ⟨kvs,e⟩|⟨kvs,e⟩
 . obtain ⟨_,hd,vs,_,dd⟩:=ZcC I.hok e
   refine ⟨dd.typeIs,fun b q=>?_,hd⟩
   cases q
   obtain ⟨ob,_,_,h1,h2,_⟩:=dd
   exact ⟨ob,h1,h2.2.1⟩
 . obtain ⟨_,hd,xs,_,dd⟩:=Zeb I.hok e
   refine ⟨dd.typeIs,fun b q=>?_,hd⟩
   cases q
   obtain ⟨ob,_,_,h1,h2,_⟩:=dd
   exact ⟨ob,h1,h2.2.1⟩
end L2
namespace Att
open PySem PySem.W PySem.Calls PyProof.Rows
theorem ZeJ:∀(ns:List Int)(vs:List Value),WellAll P h vs (ns.map WData.int)->IntsAre vs ns:=by
 intro ns
 induction ns with
 | nil=>
  intro vs w
  rw [map_nil] at w
  cases w
  exact .nil
 | cons n ns ih=>
  intro vs w
  rw [map_cons] at w
  cases w with
  | cons a b=>
   cases a
   exact .cons _ _ (ih _ b)
theorem Zjh{l:OpenLaw}{n:Nat}(hn:l.most=some n){P:Params}{h:Heap}{args:List WData}{vals:List Value}
 (hpre:l.row.toRowW.claim.pre args=true) (hwl:WellAll P h vals args):
 ∃ a vs ns,vals=[Value.ref a]/\args=[WData.list (ns.map WData.int)]/\h.get? a=some { cls:=.type "list",data:=.seq vs.toArray }/\IntsAre vs ns/\ns.length<=n:=by
 have hsh:WShape.hasAll [] args [.list .int]=true:=(pre_splitW hpre).1
 have hc:l.pre.holds [] { args:=args }=true:=(pre_splitW hpre).2
 obtain ⟨d,r,rfl,h1,h2⟩:=hasAllW_cons hsh
 obtain rfl:=hasAllW_nil h2
 obtain ⟨xs,rfl,h3⟩:=hasW_list h1
 obtain ⟨ns,rfl⟩:=items_int h3
 have hlen:ns.length<=n:=by
  unfold OpenLaw.pre at hc
  have h4:(WTm.not (.lt (.lit (.int (n:Int))) (.len (.arg 0)))).holds [] { args:=[.list (ns.map .int)] }=true:=by
   have h4:=(holds_andW hc).1
   rw [hn] at h4
   exact h4
  have h5:=condW_of h4 (w_not (w_lt w_lit (w_len_list (w_arg rfl))))
  rw [length_map] at h5
  refine Nat.le_of_not_lt fun q=>?_
  have q':(n:Int) < ((ns.length:Nat):Int):=by omega
  first
   | (rw [decide_eq_true q'] at h5;exact absurd h5 (by decide))
   | (simp at h5;omega)
 cases hwl with
 | cons w1 w2=>
  cases w2
  cases w1 with
  | list ho hall=>exact ⟨_,_,ns,rfl,rfl,ho,ZeJ ns _ hall,hlen⟩
def Zji(l:OpenLaw)(args:List WData):l.row.toRowW.claim.post args (.bool true) args=true:=
 postW_of (r:=l.row.toRowW) (X:=(true == true))
  (show WShape.has [] (.bool true) .bool=true by first|rfl|decide|simp [WShape.has,WShape.arms,WShape.armsAll])
  (show (WTm.eq .res (.lit (.bool true))).value [] { args:=args,res:=some (.bool true),after:=args }=some (.bool (true == true)) from w_eq_bool (w_res rfl) w_lit) rfl
def ZgW{l:OpenLaw}{n:Nat}{q:Program}{loose:List Str}{XP:(Str->Option Value)->Heap->Prop}{YP:World->Heap->Prop}{d:DefRec}
 (hn:l.most=some n) (hdf:d.params.defaults=[])
 (call:∀(w:World)(s₀ s₁:Shared)(mg mb:SO)(fa:Addr)(o:Obj)(pm cd doc:Value)(a:Addr)(vs:List Value)(ns:List Int),
  Ground q loose [] XP w s₀ mg mb s₁.heap->YP w s₁.heap->
  s₁.heap.get? fa=some o->o.data=.func (docDef d.name d.params d.body d.scope pm cd doc)->s₁.heap.CodeRec cd d.name->mg d.name=some (.ref fa)->
  s₁.heap.get? a=some { cls:=.type "list",data:=.seq vs.toArray }->IntsAre vs ns->ns.length<=n->s₁.gens=#[]->
  codeAny (model l.prog w) callerA (.call (.ref fa) ⟨[.ref a],[]⟩) (fun r s'=>r=.ok (.ret (.bool true))/\OldK s₁.heap s'.heap/\s'.os=s₁.os/\AllBare s'.gens) s₁):
 WalkO q loose XP YP l.row.toRowW d [] (fun f vs=>PySem.call f vs):=by
 intro w s₀ s₁ mg mb G Y fa o pm cd doc dV kV ho hd hcd hD hmg hg args vals as hpre hlay hrd hwl hlo
 obtain rfl:dV=.none:=Dflts.none hD hdf
 obtain rfl:kV=.none:=Dflts.noKw hD
 obtain ⟨a,vs,ns,rfl,rfl,hobj,hints,hlen⟩:=Zjh hn hpre hwl
 refine enter_call (codeAny_mono (call w s₀ s₁ mg mb fa o pm cd doc a vs ns G Y ho (fd_plain hd) hcd hmg hobj hints hlen hg) fun r s' hq=>?_)
 obtain ⟨rfl,h2,h3,h4⟩:=hq
 exact ⟨.inl ⟨.bool true,.bool true,[],rfl,fun _=>rfl,.bool true,Zji l _,fun _=>⟨List.Pairwise.nil,fun _ hm=>(nomatch hm)⟩⟩,h2,h3,h4⟩
end Att
namespace L2
open PySem PySem.Spec PyProof.Rows
variable{H H':Hp}{pos np:Pos}{ea D':Addr}{X:Cx}{s:Shared}{qual name:Str}{h base:Heap}{oe:Obj}{body:List Stmt}{mg:SO}{fd:FuncData}{pins:Pn}{loose ps:List Str}{YP:World->Heap->Prop}{dV oc doc pm cdv ct:Value}{an:Option Addr}{scope:Scope}{prog:Program}{os:OsState}{expr:Bool}{b₀:Stmt}{hs:List ExceptHandler}{gs:List HS}
theorem ZfI:∀{vs:List Value}{ns:List Int},IntsAre vs ns->Vals (ns.map V.int) vs
 | _,_,.nil=>.nil
 | _,_,.cons n t h=>.cons ⟨t,rfl⟩ (ZfI h)
termination_by structural a=>a
def Only(H:Hp):Prop:=∀ b,H b=none\/∃ o xs,H b=some (.frz o (.lst xs))
theorem Zkn{P:Program}{w:World}{K:Fg}{mb:SO}{CX:CXT}{k:Nat}{fa a:Addr}{x:Str}{sp:Sp}{s₁:Shared}{vs:List Value}{ns:List Int}
 (KX:K.In s₁.heap) (hns:s₁.heap.Ns mainGlobals mg) (hb:s₁.heap.Ns builtinsNs mb) (hbb:∀ x:Str,x≠"__name__"->mb x=bootBuiltins x) (hlim:s₁.heap.NoLimit) (hg:s₁.gens=#[])
 (ha:s₁.heap.get? a=some { cls:=.type "list",data:=.seq vs.toArray }) (hi:IntsAre vs ns) (hl:ns.length<=sizeLine) (hr:Room k callerA)
 (F:∀ base:Heap,K.In base->base.Ns mainGlobals mg->FnOk P w K mg base CX k fa fd [x] sp) (hbind:∀(s:Shared)(u:Value),BindsTo s fd ⟨[u],[]⟩ [(x,u)])
 (hsp:∀ H:Hp,Only H->SqL K H a (ns.map V.int)->sp [.ref a] H (fun v _=>v=.bl true) fun _ _ _=>False)
 (hCX:∀ H e s',CX [] H s₁ (fun _ _ _=>False) e s'->False):
 codeAny (model P w) callerA (.call (.ref fa) ⟨[.ref a],[]⟩) (fun r s'=>r=.ok (.ret (.bool true))/\OldK s₁.heap s'.heap/\s'.os=s₁.os/\AllBare s'.gens) s₁:=by
 have rv:=ZfI hi
 have lenV:=hi.length
 have core:∀ H:Hp,Only H->SqL K H a (ns.map V.int)->HOk P w H s₁.heap->(∀ b,H b≠none->b=a)->(H a≠none->K.lookup a=none)->
  codeAny (model P w) callerA (.call (.ref fa) ⟨[.ref a],[]⟩) (fun r s'=>r=.ok (.ret (.bool true))/\OldK s₁.heap s'.heap/\s'.os=s₁.os/\AllBare s'.gens) s₁:=by
  intro H hO hS hok hA hK
  have base_of:∀{b:Addr}{o:Obj},s₁.heap.get? b=some o->H b=none->(hidT s₁.heap H).get? b=some o:=fun e n=>ZjZ e n
  have noA:∀{b:Addr}{o:Obj}{es:Array DictEntry}{ep:Nat},s₁.heap.get? b=some o->o.data=.dict es ep->H b=none:=fun{b o es ep} e d=>by
   cases q:H b with
   | none=>rfl
   | some u=>
    have e':b=a:=hA b (by rw [q];simp)
    subst e'
    rw [ha] at e;cases e
    have d':Data.seq vs.toArray _=Data.dict es ep:=d
    cases d'
  have nsK:∀{b:Addr}{m:SO},s₁.heap.Ns b m->(hidT s₁.heap H).Ns b m:=fun{b m} ⟨o,es,ep,e,d,r⟩=>⟨o,es,ep,base_of e (noA e d),d,r⟩
  have hKb:K.In (hidT s₁.heap H):=fun b o e=>base_of (KX b o e) (by
   cases q:H b with
   | none=>rfl
   | some u=>
    have e':b=a:=hA b (by rw [q];simp)
    subst e'
    rw [hK (by rw [q];simp)] at e;cases e)
  have hM:Mod K mg (hidT s₁.heap H):=⟨hKb,nsK hns,⟨mb,nsK hb,hbb⟩,let ⟨mc,h1,h2⟩:=hlim;⟨mc,nsK h1,h2⟩⟩
  have e0:Env0 P w K mg (hidT s₁.heap H) callerA [] s₁ H:=⟨rfl,hM,fun b o e=>ZlY e,Nat.le_of_eq (ZiJ _ _),trivial,fun b hb=>absurd (show b∈([]:List Addr) from hb) (by simp),hok,.of_eq hg⟩
  refine codeAny_mono ((F _ hKb (nsK hns)).run callerA [] s₁ H ⟨[.ref a],[]⟩ [.ref a] [.ref a] _ _ hr e0 (hbind s₁ (.ref a)) (.cons rfl .nil) (hsp H hO hS)) fun r s' h=>?_
  cases r with
  | error e=>exact (hCX H e s' h).elim
  | ok fl=>
   cases fl with
   | next=>exact False.elim h
   | brk=>exact False.elim h
   | cont=>exact False.elim h
   | ret u=>
    obtain ⟨v,H',os,bare,un,hok',r',q⟩:=h
    have q':v=.bl true:=q
    subst q'
    obtain rfl:u=Value.bool true:=r'
    refine ⟨rfl,OldK.of_keep fun b o e=>?_,os,bare⟩
    cases q:H b with
    | none=>exact un.keep b o e q (by intro z;exact absurd (show b∈([]:List Addr) from z) (by simp)) (by simp)
    | some u=>
     rcases hO b with z|⟨ob,xs,z⟩
     . rw [q] at z;cases z
     . have z2:=un.frzs b ob _ z
       obtain ⟨e1,_⟩:=hok b _ z
       obtain ⟨e2,_⟩:=hok' b _ z2
       rw [e] at e1;cases e1
       exact e2
 cases hk:K.lookup a with
 | some o=>
  have e:=KX a o hk
  rw [ha] at e
  cases e
  refine core (fun _=>none) (fun _=>.inl rfl) (.inr ⟨_,vs.toArray,_,hk,rfl,rfl,rfl,by rw [size_toArray,lenV];exact hl,by simpa using rv⟩) (fun b u z=>by have z':(none:Option HO)=some u:=z;cases z') (fun b z=>absurd rfl z) fun z=>absurd rfl z
 | none=>
  refine core (fun b=>if b=a then some (.frz { cls:=.type "list",data:=.seq vs.toArray } (.lst (ns.map V.int))) else none) (fun b=>?_) (.inl (.inr ⟨{ cls:=.type "list",data:=.seq vs.toArray },if_pos rfl⟩)) (fun b u z=>?_) (fun b z=>?_) fun _=>hk
  . by_cases hb:b=a
    . exact .inr ⟨_,_,if_pos hb⟩
    . exact .inl (if_neg hb)
  . by_cases hb:b=a
    . have z':=(if_pos hb).symm.trans z
      cases z'
      subst hb
      exact ⟨ha,by rw [length_map];exact hl,vs,_,rv,ha⟩
    . have z':=(if_neg hb).symm.trans z
      cases z'
  . by_cases hb:b=a
    . exact hb
    . exact absurd (if_neg hb) z
def Zmy{l:PySem.W.OpenLaw}{n k:Nat}{q:Program}{XP:(Str->Option Value)->Heap->Prop}{d:DefRec}{K:Params->Fg}{CX:World->CXT}{sp:World->Sp}{x:Str}
 (hn:l.most=some n) (hn2:n<=sizeLine) (hdf:d.params.defaults=[]) (hr:Room k callerA)
 (hY:∀(w:World)(h:Heap),YP w h->(K w.params).In h)
 (F:∀(w:World)(mg:SO)(fa:Addr)(h:Heap),(K w.params).In h->h.Ns mainGlobals mg->mg d.name=some (.ref fa)->
  ∃ fd:FuncData,(∀(s:Shared)(u:Value),BindsTo s fd ⟨[u],[]⟩ [(x,u)])/\
   ∀ base:Heap,(K w.params).In base->base.Ns mainGlobals mg->FnOk l.prog w (K w.params) mg base (CX w) k fa fd [x] (sp w))
 (hsp:∀(w:World)(H:Hp)(a:Addr)(ns:List Int),ns.length<=n->Only H->SqL (K w.params) H a (ns.map V.int)->sp w [.ref a] H (fun v _=>v=.bl true) fun _ _ _=>False)
 (hCX:∀(w:World)(H:Hp)(s:Shared)(e:Value)(s':Shared),CX w [] H s (fun _ _ _=>False) e s'->False):
 PySem.W.WalkO q loose XP YP l.row.toRowW d [] (fun f vs=>PySem.call f vs):=by
 refine Att.ZgW hn hdf fun w s₀ s₁ mg mb fa o pm cd doc a vs ns G Y ho hd hcd hmg hobj hints hlen hg=>?_
 have KX:=hY w _ Y
 obtain ⟨fd,hb,hF⟩:=F w mg fa _ KX G.T.g hmg
 exact Zkn KX G.T.g G.T.b G.T.builtins G.T.nolimit hg hobj hints (le_trans hlen hn2) hr hF hb (fun H hO hS=>hsp w H a ns hlen hO hS) fun H e s'=>hCX w H s₁ e s'
def Zko{l:PySem.W.OpenLaw}{n k:Nat}{q:Program}{XP:(Str->Option Value)->Heap->Prop}{d:DefRec}{K:Params->Fg}{CX:CXT}{sp:Fg->Sp}{x:Str}
 (hn:l.most=some n) (hn2:n<=sizeLine) (hdf:d.params.defaults=[]) (hr:Room k callerA)
 (hY:∀(w:World)(h:Heap),YP w h->(K w.params).In h)
 (F:∀(w:World)(mg:SO)(fa:Addr)(h:Heap),(K w.params).In h->h.Ns mainGlobals mg->mg d.name=some (.ref fa)->
  ∃ fd:FuncData,(∀(s:Shared)(u:Value),BindsTo s fd ⟨[u],[]⟩ [(x,u)])/\
   ∀ base:Heap,(K w.params).In base->base.Ns mainGlobals mg->FnOk l.prog w (K w.params) mg base CX k fa fd [x] (sp (K w.params)))
 (hsp:∀(K:Fg)(H:Hp)(a:Addr)(ns:List Int),ns.length<=n->Only H->SqL K H a (ns.map V.int)->sp K [.ref a] H (fun v _=>v=.bl true) fun _ _ _=>False)
 (hCX:∀(H:Hp)(s:Shared)(e:Value)(s':Shared),CX [] H s (fun _ _ _=>False) e s'->False):
 PySem.W.WalkO q loose XP YP l.row.toRowW d [] (fun f vs=>PySem.call f vs):=
 Zmy (K:=K) (CX:=fun _=>CX) (sp:=fun w=>sp (K w.params)) hn hn2 hdf hr hY F (fun w H a ns h1 h2 h3=>hsp (K w.params) H a ns h1 h2 h3) fun _ H s e s'=>hCX H s e s'
noncomputable def ZM(s:Stmt)(j:Nat):Stmt:=match s with
 | .ClassDef _ _ _ body _ _ _ _ _ _ _=>body.getD j (.Pass ⟨0,0,0,0⟩)
 | _=>.Pass ⟨0,0,0,0⟩
noncomputable def ZaY(s:Stmt):Arguments:=match s with
 | .FunctionDef _ a _ _ _ _ _ _ _ _=>a
 | _=>{ posonlyargs:=[],args:=[],vararg:=none,kwonlyargs:=[],kw_defaults:=[],kwarg:=none,defaults:=[] }
noncomputable def Zae(s:Stmt):List Stmt:=match s with
 | .FunctionDef _ _ b _ _ _ _ _ _ _=>b
 | _=>[]
noncomputable def Zp(s:Stmt):Scope:=match s with
 | .FunctionDef _ _ _ _ _ _ sc _ _ _=>sc
 | _=>{ kind:=.function,names:=[],isGenerator:=false,isCoroutine:=false }
noncomputable abbrev CX0:CXT:=fun _ _ _ _ _ _=>False
noncomputable abbrev E0:XK:=fun _ _ _=>False
def Zif:Passes CX0 X E0:=fun _ _ _ _ _ _ _ h=>h.elim
structure FunV(dV:Value)(K:Fg)(x qual:Str)(st:Stmt)(f:Addr)(fd:FuncData):Prop where
 ex:∃(oc:Value)(od:Option Addr)(kV doc pm:Value)(an:Option Addr)(cdv ct:Value)(osl:Array (Option Value)),
  fd=fnOf x qual (ZaY st) (Zae st) (Zp st) dV kV doc pm an cdv ct/\K.lookup f=some ⟨oc,od,.func fd,osl⟩/\codeIn K cdv qual=true
 kp:keepIn K (.ref f)=true
noncomputable abbrev Fun:=FunV .none
section
variable{P:Program}{w:World}{K:Fg}
def FunV.ok{x:Str}{st:Stmt}{f:Addr}{N:List Str}{k:Nat}{sp:Sp}(F:FunV dV K x qual st f fd)(S:FnScope N ps (Zp st))(len:∀ vs H Q E,sp vs H Q E->vs.length=ps.length)
 (hbody:∀(cdv:Value)(A:Around)(outer:List Env)(s:Shared)(H:Hp)(vs:List V)(Q:VK)(E:XK),Room k (A.deeper (envOfC qual (Zp st) s.heap.objs.size f cdv))->sp vs H Q E->
  ∃ t,PSs (cxOf CX0 P w K mg base N qual (Zp st) f cdv A outer s H E).nox (Zae st) t/\t { nx:=fun _ H'=>Q .non H',rt:=Q } (start N vs) H):FnOk P w K mg base CX0 (k+1) f fd ps sp:=by
 obtain ⟨oc,od,kV,doc,pm,an,cdv,ct,osl,rfl,lk,hcd⟩:=F.ex
 refine Zqm lk hcd S len fun A outer s H vs Q E hr hsp=>?_
 obtain ⟨t,h,q⟩:=hbody cdv A outer s H vs Q E hr hsp
 exact ⟨t,h.nox,q⟩
def FunV.binds{x:Str}{st:Stmt}{f:Addr}(F:Fun K x qual st f fd)
 (h:∀(kV doc pm:Value)(an:Option Addr)(cdv ct:Value)(us:List Value),us.length=ps.length->bindArgs (fnOf x qual (ZaY st) (Zae st) (Zp st) .none kV doc pm an cdv ct) ⟨us,[]⟩=pure (ps.zip us)):Binds K fd ps []:=by
 obtain ⟨oc,od,kV,doc,pm,an,cdv,ct,osl,rfl,lk,hcd⟩:=F.ex
 exact .all (h kV doc pm an cdv ct)
def Zgl{x:Str}{st:Stmt}{f:Addr}{od:Option Addr}{osl:Array (Option Value)}{kV:Value}(l:K.lookup f=some ⟨oc,od,.func (fnOf x qual (ZaY st) (Zae st) (Zp st) .none kV doc pm an cdv ct),osl⟩)
 (c:codeIn K cdv qual=true) (k:keepIn K (.ref f)=true):Fun K x qual st f (fnOf x qual (ZaY st) (Zae st) (Zp st) .none kV doc pm an cdv ct):=⟨⟨oc,od,kV,doc,pm,an,cdv,ct,osl,rfl,l,c⟩,k⟩
end
def Same(H H':Hp):Prop:=∀ b o,H b=some o->H' b=some o
def Same.refl(H:Hp):Same H H:=fun _ _ h=>h
def Same.trans(a:Same H H1)(b:Same H1 H2):Same H H2:=fun c o h=>b c o (a c o h)
def Same.seq{K:Fg}{a:Addr}{xs:List V}(e:Same H H')(h:SqL K H a xs):SqL K H' a xs:=by
 rcases h with (h|⟨o,h⟩)|h
 . exact .inl (.inl (e _ _ h))
 . exact .inl (.inr ⟨o,e _ _ h⟩)
 . exact .inr h
section
def Zjj:Zaj X (.builtin "len") (fun xs H Q=>∃ a kvs,xs=[V.ref a]/\H a=some (.dK kvs)/\Q (.int kvs.length) H):=by
 intro pins s σ H xs us Q I r h
 obtain ⟨a,kvs,rfl,ha,q⟩:=h
 obtain ⟨u,rfl,ru⟩:=ZhY r
 cases ru
 exact Zqq I (.inl ha) fun t s' I'=>⟨.int kvs.length,H,I',⟨t,rfl⟩,q⟩
end
noncomputable def TB(T:Addr):HO:=.ext fun h=>∃ o ts,h.get? T=some o/\o.data=.fields ts/\3 < ts.size
def ZlB(e:h.get? T=some o)(d:o.data=.fields ts)(z:3 < ts.size):ZE P w H h T (TB T):=
 ⟨⟨o,ts,e,d,z⟩,⟨o,e⟩,fun h1 h2 z90 k=>by obtain ⟨o,ts,e,d,z⟩:=z90;exact ⟨o,ts,k o e,d,z⟩⟩
structure FlyT(φ:Value->Prop)(H:Hp)(h:Heap)(ea:Addr):Prop where
 ex:∃(C:Addr)(dx:Option Addr)(fs:List (Str×V))(oe:Obj)(vs:Array Value)(T:Addr)(oT:Obj)(ts:Array Value)(fl:Value),H ea=some (.exc C dx false fs)/\h.get? ea=some oe/\oe.data=.fields vs/\vs.size=6/\vs[1]?=some (.ref T)/\
  H T=some (TB T)/\h.get? T=some oT/\oT.data=.fields ts/\ts[3]?=some fl/\φ fl
structure FlyN(H:Hp)(h:Heap)(ea:Addr):Prop where
 ex:∃(C:Addr)(dx:Option Addr)(fs:List (Str×V))(oe:Obj)(vs:Array Value),H ea=some (.exc C dx false fs)/\h.get? ea=some oe/\oe.data=.fields vs/\vs.size=6/\vs[1]?=some .none
def FlyT.mono(f:FlyT φ H h ea)(k:∀ v,φ v->ψ v):FlyT ψ H h ea:=by
 obtain ⟨C,dx,fs,oe,vs,T,oT,ts,fl,a1,a2,a3,a4,a5,a6,a7,a8,a9,a10⟩:=f.ex
 exact ⟨C,dx,fs,oe,vs,T,oT,ts,fl,a1,a2,a3,a4,a5,a6,a7,a8,a9,k _ a10⟩
def Fly(X:Cx)(H:Hp)(h:Heap)(ea:Addr):Prop:=FlyN H h ea\/FlyT (fun fl=>fl=.none\/fl=rawInt X.env.locals) H h ea
structure Fr0(X:Cx)(A:Around):Prop where
 stk:X.stack=X.env::X.outer
 frm:X.env.frame=some X.env.locals
 fms:A.frames=some X.stack
section
variable{A:Around}{M:Model}{E:VS}{σ:St}
def Zci{a:Addr}{o:Obj}{vs:Array Value}(f:Array Value->Array Value)(e:h.get? a=some o)(d:o.data=.fields vs):(h.update a (Obj.mapFields f)).get? a=some { o with data:=.fields (f vs) }:=by
 have q:Obj.mapFields f o={ o with data:=.fields (f vs) }:=by
  obtain ⟨c,di,da,sl⟩:=o
  cases d
  rfl
 rw [<- q]
 exact Heap.get?_update_self (Obj.mapFields f) e (Obj.isFreed_of_fields (vs:=f vs) (by rw [q]))
theorem Inv.excSet{C:Addr}{dx:Option Addr}{fr fr':Bool}{fs:List (Str×V)}{vs:Array Value}{f:Array Value->Array Value}(I:Inv X pins σ H s)(e1:H ea=some (.exc C dx fr fs))(e2:s.heap.get? ea=some oe)(e3:oe.data=.fields vs)(z:(f vs).size=6)
 (hf:fr'=true->(f vs)[1]?=some .none):Inv X pins σ (upd H ea (.exc C dx fr' fs)) { s with heap:=s.heap.update ea (Obj.mapFields f) }:=by
 have g:=Zci f e2 e3
 refine I.write (t':=s.toks) (x:=ea) (e:=ea) (by rw [e1];trivial) (.inl rfl) (fun b u hb q=>by rw [Heap.get?_update_other _ _ (Ne.symm hb)];exact q) ⟨_,g⟩ ?_
 obtain ⟨l,⟨o,vs',q1,q2,q3,q4,q5,q6⟩,r⟩:=(show ZE X.prog X.w H s.heap ea (.exc C dx fr fs) from I.hok ea _ e1)
 rw [e2] at q1
 cases q1
 refine ⟨l,⟨_,f vs,g,q2,q3,rfl,z,hf⟩,?_⟩
 cases dx with
 | none=>exact r
 | some d=>
  obtain ⟨r1,r2,mA,⟨od,es,ep,e4,c⟩,r3⟩:=r
  refine ⟨by rw [Zn r2];exact r1,r2,mA,⟨od,es,ep,by rw [Heap.get?_update_other _ _ (Ne.symm r2)];exact e4,c⟩,r3⟩
def Zgm(e:H a=some o):upd H a o=H:=by
 funext b
 unfold upd
 split
 . rename_i q;subst q;exact e.symm
 . rfl
def Inv.tbSet{T:Addr}{oT:Obj}{ts:Array Value}{f:Array Value->Array Value}(I:Inv X pins σ H s)(e1:H T=some (TB T))(e2:s.heap.get? T=some oT)(e3:oT.data=.fields ts)(z:3 < (f ts).size):
 Inv X pins σ H { s with heap:=s.heap.update T (Obj.mapFields f) }:=by
 have g:=Zci f e2 e3
 have J:Inv X pins σ (upd H T (TB T)) { s with heap:=s.heap.update T (Obj.mapFields f) }:=
  I.write (t':=s.toks) (x:=T) (e:=T) (by rw [e1];exact trivial) (.inl rfl) (fun b u hb q=>by rw [Heap.get?_update_other _ _ (Ne.symm hb)];exact q) ⟨_,g⟩ (ZlB g rfl z)
 rw [Zgm e1] at J
 exact J
def ZlC(e1:H ea=some (.exc C dx fr fs))(e2:H T=some (TB T)):T≠ea:=fun q=>by
 subst q
 rw [e1] at e2
 cases e2
def set6{vs:Array Value}{v:Value}{i:Nat}:(vs.setIfInBounds i v).size=vs.size:=Array.size_setIfInBounds
def Zgn{C:Addr}{dx:Option Addr}{fs:List (Str×V)}{vs:Array Value}{head:Value}{hadNext:Bool}(F:Fr0 X A)(I:Inv X pins σ H s)(e1:H ea=some (.exc C dx false fs))(e2:s.heap.get? ea=some oe)(e3:oe.data=.fields vs)(e4:vs.size=6):
 wpAny M A (do
  let a <- frameOf X.env
  let pl <- entryPlaceOf X.env.locals hadNext
  let b <- EntryCells.newEntry head a Value.none (rawInt ↑X.env.locals) Value.none pl
  setField (Value.ref ea) 1 b) (fun _ s'=>∃ H',Inv X pins σ H' s'/\Same H H'/\FlyT (fun fl=>fl=rawInt X.env.locals) H' s'.heap ea) E s:=by
 have hfr:A.frames=some (X.env::X.outer):=by rw [F.fms,F.stk]
 have hl:s.heap.FunFrames X.base (X.env::X.outer):=by rw [<- F.stk];exact I.stack
 refine wpAny_bind (wpAny_frameOf_fun hfr hl F.frm fun h₁ hs₁=>?_)
 have hfs:List.filterMap (fun x=>x.frame) (X.env::X.outer)=frs X.stack:=by rw [F.stk];rfl
 rw [hfs] at hs₁
 obtain ⟨_,k1,k2⟩:=hs₁
 have nfr:∀ b o,H b=some o->b∉frs X.stack:=fun b o e z=>by rw [I.stkFree b z] at e;cases e
 have un:Un (frs X.stack) [] H H s.heap h₁:=
  ⟨fun b o e n hb _=>by rw [k1 b hb];exact e,fun b o e n hb _=>k2 b o e,fun b o e n _=>n,fun b o e _=>let ⟨sl,q⟩:=k2 b o e;⟨_,q⟩,fun _ _ e=>e,fun _ _ _ e=>e,fun b ps e=>⟨#[],by rw [e];simp⟩⟩
 have hok1:HOk X.prog X.w H h₁:=fun a o e=>(I.hok a o e).stay (fun b u hb q=>by
  rw [k1 b]
  . exact q
  . rcases hb with z|z
    . rw [z];exact nfr a o e
    . exact nfr b _ z) (fun _ q=>q) fun _ _ q=>q
 have I1:Inv X pins σ H { s with heap:=h₁ }:=I.call (g':=s.gens) (d':=s.drawn) (t':=s.toks) un hok1 I.bare fun b z=>absurd z (by simp)
 have e2':h₁.get? ea=some oe:=by rw [k1 ea (nfr ea _ e1)];exact e2
 (refine wpAny_bind (wpAny_entryPlaceOf fun pl hpl=>?_))
 refine wpAny_bind ?_
 (unfold EntryCells.newEntry newFields)
 refine wpAny_newObj_type ?_ (IsPlace.sizeOk5 hpl _ _ _ _ _)
 have z4:3 < (([head,Value.ref X.env.locals,Value.none,rawInt ↑X.env.locals,Value.none]++if pl.isEmpty=true then replicate 6 Value.none else pl).toArray).size:=by simp
 have hg:=Heap.get?_push_size h₁ (o:={ cls:=Value.type "traceback",data:=.fields ([head,Value.ref X.env.locals,Value.none,rawInt ↑X.env.locals,Value.none]++if pl.isEmpty=true then replicate 6 Value.none else pl).toArray }) rfl
 have I2:=I1.laid (a:=h₁.objs.size) (o:=TB h₁.objs.size) (t':=s.toks) (h':=h₁.push { cls:=Value.type "traceback",data:=.fields ([head,Value.ref X.env.locals,Value.none,rawInt ↑X.env.locals,Value.none]++if pl.isEmpty=true then replicate 6 Value.none else pl).toArray })
  (fun b u q=>Heap.get?_push_of_some _ q) (le_refl _) (ZlB hg rfl z4)
 have hn:H h₁.objs.size=none:=I1.hok.fresh (le_refl _)
 have ne:ea≠h₁.objs.size:=Zai e1 hn
 have e1':upd H h₁.objs.size (TB h₁.objs.size) ea=some (.exc C dx false fs):=by rw [Zn ne];exact e1
 have e2'':=Heap.get?_push_of_some { cls:=Value.type "traceback",data:=.fields ([head,Value.ref X.env.locals,Value.none,rawInt ↑X.env.locals,Value.none]++if pl.isEmpty=true then replicate 6 Value.none else pl).toArray } e2'
 refine wpAny_setField e2'' e3 (by omega) ?_
 have I3:=Inv.excSet (fr':=false) (f:=fun x=>x.setIfInBounds 1 (Value.ref h₁.objs.size)) I2 e1' e2'' e3 (by rw [set6];exact e4) (by simp)
 rw [Zgm e1'] at I3
 refine ⟨_,I3,fun b o q=>by rw [Zn (Zai q hn)];exact q,⟨C,dx,fs,_,_,h₁.objs.size,_,_,rawInt X.env.locals,e1',Zci _ e2'' e3,rfl,by rw [set6];exact e4,?_,Zj,(Heap.get?_update_other _ _ ne).trans hg,rfl,?_,rfl⟩⟩
 . rw [Array.getElem?_setIfInBounds]
   simp [e4]
 . simp
def Zfq(F:Fr0 X A)(I:Inv X pins σ H s)(f:Fly X H s.heap ea):
 wpAny M A (noteFrame (.ref ea) X.env) (fun _ s'=>∃ H',Inv X pins σ H' s'/\Same H H'/\FlyT (fun fl=>fl=rawInt X.env.locals) H' s'.heap ea) E s:=by
 unfold noteFrame
 rw [F.frm]
 dsimp only
 rcases f with ⟨C,dx,fs,oe,vs,e1,e2,e3,e4,e5⟩|⟨C,dx,fs,oe,vs,T,oT,ts,fl,e1,e2,e3,e4,e5,e6,e7,e8,e9,e10⟩
 . refine wpAny_bind (wpAny_field e2 e3 e5 ?_)
   rw [if_neg (by decide)]
   exact Zgn F I e1 e2 e3 e4
 . refine wpAny_bind (wpAny_field e2 e3 e5 ?_)
   rw [if_pos (show (Value.ref T != Value.none)=true from rfl)]
   refine wpAny_bind (wpAny_field e7 e8 e9 ?_)
   have hz:3 < ts.size:=(Array.getElem?_eq_some_iff.mp e9).1
   rcases e10 with rfl|rfl
   . rw [if_neg (by simp [rawInt])]
     refine wpAny_bind (wpAny_setField e7 e8 hz ?_)
     have I1:=I.tbSet (f:=fun x=>x.setIfInBounds 3 Value.none) e6 e7 e8 (by rw [set6];exact hz)
     refine Zgn F I1 e1 ?_ e3 e4
     show (Heap.update _ _ _).get? _=_
     rw [Heap.get?_update_other _ _ (ZlC e1 e6)]
     exact e2
   . rw [if_pos (by simp)]
     exact wpAny_pure ⟨H,I,Same.refl _,C,dx,fs,oe,vs,T,oT,ts,_,e1,e2,e3,e4,e5,e6,e7,e8,e9,rfl⟩
def ZbV{φ:Value->Prop}{o:Option Addr}(I:Inv X pins σ H s)(f:FlyT φ H s.heap ea):
 wpAny M A (setFlight (.ref ea) o) (fun _ s'=>Inv X pins σ H s'/\FlyT (fun fl=>fl=o.elim Value.none fun f=>rawInt f) H s'.heap ea) E s:=by
 obtain ⟨C,dx,fs,oe,vs,T,oT,ts,fl,e1,e2,e3,e4,e5,e6,e7,e8,e9,e10⟩:=f.ex
 unfold setFlight
 have hz:3 < ts.size:=(Array.getElem?_eq_some_iff.mp e9).1
 refine wpAny_bind (wpAny_field e2 e3 e5 ?_)
 rw [if_pos (show (Value.ref T != Value.none)=true from rfl)]
 refine wpAny_setField e7 e8 hz ?_
 have I1:=I.tbSet (f:=fun x=>x.setIfInBounds 3 (o.elim Value.none fun f=>rawInt f)) e6 e7 e8 (by rw [set6];exact hz)
 refine ⟨I1,C,dx,fs,oe,vs,T,_,_,_,e1,?_,e3,e4,e5,e6,Zci _ e7 e8,rfl,?_,rfl⟩
 . show (Heap.update _ _ _).get? _=_
   rw [Heap.get?_update_other _ _ (ZlC e1 e6)]
   exact e2
 . rw [Array.getElem?_setIfInBounds]
   simp [hz]
def Zkp(F:Fr0 X A)(I:Inv X pins σ H s)(f:Fly X H s.heap ea):
 wpAny M A (leaving X.env (.ref ea)) (fun _ s'=>∃ H',Inv X pins σ H' s'/\Same H H'/\FlyT (fun fl=>fl=Value.none) H' s'.heap ea) E s:=by
 unfold leaving
 refine wpAny_bind (thn (Zfq F I f) fun _ s1 z0=>?_)
 obtain ⟨H1,I1,k1,f1⟩:=z0
 exact thn (ZbV (o:=none) I1 f1) fun _ s2 z90=>by obtain ⟨I2,f2⟩:=z90;exact ⟨H1,I2,k1,f2⟩
structure EndX extends Ends where
 xc:Addr->St->Hp->Prop
abbrev TX:=EndX->St->Hp->Prop
def XP(X:Cx)(pins:Pn)(xc:Addr->St->Hp->Prop)(e:Value)(s':Shared):Prop:=
 X.xe e s'\/∃ ea σ' H',e=.ref ea/\Inv X pins σ' H' s'/\Fly X H' s'.heap ea/\∀ H'',Same H' H''->xc ea σ' H''
def PX(X:Cx)(st:Stmt)(t:TX):Prop:=
 ∀(pins:Pn)(s:Shared)(σ:St)(H:Hp)(D:EndX),Inv X pins σ H s->t D σ H->wpAny (model X.prog X.w) X.A (exec st X.env) (SP X pins D.toEnds) (XP X pins D.xc) s
def PXs(X:Cx)(st:List Stmt)(t:TX):Prop:=
 ∀(pins:Pn)(s:Shared)(σ:St)(H:Hp)(D:EndX),Inv X pins σ H s->t D σ H->wpAny (model X.prog X.w) X.A (execs st X.env) (SP X pins D.toEnds) (XP X pins D.xc) s
def PX.imp{st:Stmt}{t u:TX}(h:PX X st t)(k:∀ D σ H,u D σ H->t D σ H):PX X st u:=fun pins s σ H D I w=>h pins s σ H D I (k D σ H w)
def PXs.imp{st:List Stmt}{t u:TX}(h:PXs X st t)(k:∀ D σ H,u D σ H->t D σ H):PXs X st u:=fun pins s σ H D I w=>h pins s σ H D I (k D σ H w)
def PS.x{st:Stmt}{t:TS}(h:PS X st t):PX X st fun D=>t D.toEnds:=fun pins s σ H D I w=>wpAny_mono (h pins s σ H D.toEnds I w) (fun _ _ q=>q) fun _ _ q=>.inl q
def Zof(F:Fr0 X A)(hx:∀ e s,¬ X.xe e s):PassesOwn (model P w) A X.env (XP X pins xc):=fun e s' h=>by
 rcases h with h|⟨ea,σ',H',rfl,I,f,q⟩
 . exact absurd h (hx _ _)
 . refine wpAny_mono (Zfq F I f) (fun _ s1 z90=>?_) fun _ _ z=>z
   obtain ⟨H1,I1,k1,f1⟩:=z90
   obtain ⟨C,dx,fs,oe,vs,T,oT,ts,fl,e1,e2,e3,e4,e5,e6,e7,e8,e9,e10⟩:=f1.ex
   show wpAny _ _ _ _ _ _
   refine wpAny_bind (wpAny_field e2 e3 e5 ?_)
   rw [if_neg (show ¬ (Value.ref T == Value.none)=true from Bool.false_ne_true)]
   refine thn (ZbV (o:=X.env.frame) I1 f1) fun _ s2 ⟨I2,f2⟩=>.inr ⟨ea,σ',H1,rfl,I2,.inr (f2.mono fun v hv=>.inr ?_),fun H2 k2=>q H2 (k1.trans k2)⟩
   rw [hv,F.frm]
   rfl
end
section
variable{A:Around}{σ:St}
def thnx(h:wpAny M A t Q X.xe s)(hQ:∀ a s,Q a s->Q' a s):wpAny M A t Q' (XP X pins xc) s:=wpAny_mono h hQ fun _ _ x=>.inl x
def Zqs(t u:TX):TX:=fun D σ H=>t { D with nx:=u D } σ H
def Zmz:PXs X [] fun D σ H=>D.nx σ H:=fun _ _ σ H _ I h=>wpAny_execs_nil ⟨σ,H,I,h⟩
theorem Zkq{st:Stmt}{rest:List Stmt}{t u:TX}(h1:PX X st t)(h2:PXs X rest u):PXs X (st::rest) (Zqs t u):=by
 intro pins s σ H D I h
 refine wpAny_execs_cons (thn (h1 pins s σ H { D with nx:=u D } I h) fun f s1 q=>?_)
 cases f with
 | next=>
  obtain ⟨σ',H',I',q⟩:=q
  exact h2 pins s1 σ' H' D I' q
 | ret v=>exact q
 | brk=>exact q
 | cont=>exact q
def tIfX(c:TT)(t u:TX):TX:=fun D σ H=>c σ H fun b H1=>if b=true then t D σ H1 else u D σ H1
theorem Zqt(hc:PT X c tc)(ha:PXs X a t)(hb:PXs X b u):PX X (.If c a b pos) (tIfX tc t u):=by
 intro pins s σ H D I h
 refine wpAny_If (thnx (hc pins s σ H _ I h) fun d s1 z0=>?_)
 obtain ⟨H1,I1,q1⟩:=z0
 cases d with
 | true=>exact ha pins s1 σ H1 D I1 q1
 | false=>exact hb pins s1 σ H1 D I1 q1
def XP.unpinned(h:XP X (pins++pl) xc e s):XP X pins xc e s:=by
 rcases h with h|⟨ea,σ',H',e,I,f,q⟩
 . exact .inl h
 . exact .inr ⟨ea,σ',H',e,I.unpinned,f,q⟩
def Zqu(wi:TI)(g:TG)(tb:TX):TX:=fun D σ H=>wi σ H fun J H1=>∃ W:Nat->Nat->St->Hp->Prop,(∃ m,W 0 m σ H1)/\∀ i m σ H,W i m σ H->
 (J.stop i H/\D.nx σ H)\/(J.go i H/\∃ N:St->Hp->Prop,(∀ σ' H',N σ' H'->∃ m',m' < m/\W (i+1) m' σ' H')/\∀ x H',J.yld i H x H'->g x σ H' fun σ2 H2=>tb { D with nx:=N,ct:=N,bk:=D.nx } σ2 H2)
def Zog(F:Fr0 X X.A)(hx:∀ e s,¬ X.xe e s)(hc:X.calm=true)(hi:PI X tg iter wi)(hg:PG X tg g)(hb:PXs X body tb)
 (hs:∀ x,foldedSetIterable iter X.env x=pure x:=by intro _;rfl):PX X (.For tg iter body [] pos) (Zqu wi g tb):=by
 intro pins s σ H D I h
 have hp:PassesOwn (model X.prog X.w) X.A X.env (XP X pins D.xc):=Zof F hx
 refine wpAny_For (thnx (hi pins s σ H _ I h) fun v s1 h1=>thnx h1 fun itv s2 h2=>?_) hs
 obtain ⟨it,fp,tn,J,H2,e,I2,T,st2,f2,W,⟨m0,w0⟩,turn⟩:=h2
 subst e
 have stat:∀{H':Hp},(∀ b∈fp,H' b=none)->∀ b∈fp,FpOk X pins H' b:=fun hn b hb=>⟨hn b hb,(f2 b hb).2⟩
 refine codeAny_forLoop_any (fun n s'=>∃ i σ' H',Inv X pins σ' H' s'/\tn i s'.heap/\(∀ b∈fp,H' b=none)/\W i n σ' H') ?_ m0 ⟨0,σ,H2,I2,st2,fun b hb=>(f2 b hb).1,w0⟩
 rintro n s3 ⟨i,σ3,H3,I3,st3,fr3,w3⟩
 rcases turn i n σ3 H3 w3 with ⟨stop,qn⟩|⟨go,N,hN,step⟩
 . refine wpAny_passesOwn hp (thnx (T.done X rfl rfl rfl hc i pins s3 σ3 H3 X.xe I3 (stat fr3) st3 stop) fun r s4 z0=>?_)
   obtain ⟨hr,I4⟩:=z0
   subst hr
   exact wpAny_execs_nil ⟨σ3,H3,I4,qn⟩
 . refine wpAny_passesOwn hp (thnx (T.item X rfl rfl rfl hc i pins s3 σ3 H3 X.xe I3 (stat fr3) st3 go) fun r s4 z0=>?_)
   obtain ⟨u,hr,h4⟩:=z0
   subst hr
   refine wpAny_passesOwn hp (thnx h4 fun _ s5 z0=>?_)
   obtain ⟨x,H5,I5,r5,y5,st5,fr5⟩:=z0
   have I5':=I5.pinned (stat fr5) (T.obj _ _ st5)
   refine wpAny_passesOwn hp (thnx (hg _ s5 σ3 H5 x u _ I5' r5 (step x H5 y5)) fun _ s6 z0=>?_)
   obtain ⟨σ6,H6,I6,q6⟩:=z0
   refine wpAny_passesOwn hp (wpAny_mono (hb _ s6 σ6 H6 { D with nx:=N,ct:=N,bk:=D.nx } I6 q6) (fun f s7 q7=>?_) fun _ _ z=>z.unpinned)
   have again:∀{σ7:St}{H7:Hp},Inv X (pins++Zda fp s5.heap) σ7 H7 s7->N σ7 H7->∃ m,m < n/\∃ i σ' H',Inv X pins σ' H' s7/\tn i s7.heap/\(∀ b∈fp,H' b=none)/\W i m σ' H':=fun{σ7 H7} I7 n7=>by
    obtain ⟨m',hm,w7⟩:=hN σ7 H7 n7
    refine ⟨m',hm,i+1,σ7,H7,I7.unpinned,T.keep _ _ _ st5 fun b hb o e=>(I7.pin (b,o) (mem_append_right _ (mem_append_right _ (ZaX hb e)))).1,fun b hb=>?_,w7⟩
    obtain ⟨o,e,d⟩:=T.obj _ _ st5 b hb
    exact (I7.pin (b,o) (mem_append_right _ (mem_append_right _ (ZaX hb e)))).2.1
   cases f with
   | next=>obtain ⟨σ7,H7,I7,n7⟩:=q7;exact again I7 n7
   | cont=>obtain ⟨σ7,H7,I7,n7⟩:=q7;exact again I7 n7
   | brk=>obtain ⟨σ7,H7,I7,q7⟩:=q7;exact ⟨σ7,H7,I7.unpinned,q7⟩
   | ret v=>obtain ⟨x7,σ7,H7,I7,r7,q7⟩:=q7;exact ⟨x7,σ7,H7,I7.unpinned,r7,q7⟩
noncomputable def CXx(P:Program)(w:World):CXT:=fun outer H s E e s'=>∃ ea H',e=.ref ea/\s'.os=s.os/\AllBare s'.gens/\Un (frs outer) [] H H' s.heap s'.heap/\HOk P w H' s'.heap/\FlyT (fun fl=>fl=Value.none) H' s'.heap ea/\
 ∀ H'',Same H' H''->E (.ref ea) none H''
def Zoh{P:Program}{w:World}{K:Fg}{k:Nat}{f:Addr}{params:Arguments}{kV:Value}{od:Option Addr}
 {osl:Array (Option Value)} {N ps:List Str} {sp:Sp} (lk:K.lookup f=some ⟨oc,od,.func (fnOf name qual params body scope dV kV doc pm an cdv ct),osl⟩) (hcd:codeIn K cdv qual=true) (S:FnScope N ps scope)
 (len:∀ vs H Q E,sp vs H Q E->vs.length=ps.length)
 (hbody:∀(A:Around)(outer:List Env)(s:Shared)(H:Hp)(vs:List V)(Q:VK)(E:XK),Room k (A.deeper (envOfC qual scope s.heap.objs.size f cdv))->sp vs H Q E->
  ∃ t,(A.frames=some outer->PXs (cxOf CX0 P w K mg base N qual scope f cdv A outer s H E).nox body t)/\t { nx:=fun _ H'=>Q .non H',rt:=Q,xc:=fun ea _ H'=>E (.ref ea) none H' } (start N vs) H):
 FnOk P w K mg base (CXx P w) (k+1) f (fnOf name qual params body scope dV kV doc pm an cdv ct) ps sp:=by
 refine ⟨len,fun A outer s H args us vs Q E hr e0 hb r hsp=>?_⟩
 have hl:=len _ _ _ _ hsp
 have KX:K.In s.heap:=e0.mod.kin.keeps fun b o e=>(e0.bs b o e).1
 have lim:s.heap.NoLimit:=e0.mod.nolimit.keeps fun b o e=>(e0.bs b o e).1
 have hkind:∀ y∈ps.zip us,scope.names.lookup y.1=some .local\/(scope.names.lookup y.1=some .cell/\((cellsFrom (s.heap.objs.size+1) scope.names []).lookup y.1).isSome=true):=fun z90 hy=>by
  obtain ⟨n,v⟩:=z90
  rcases S.par n (of_mem_zip hy).1 with q|q
  . exact .inl q
  . exact .inr ⟨q,cellsFrom_some _ _ _ (.inl q)⟩
 refine codeAny_call_function hr.depth (KX _ _ lk) rfl S.co S.gen rfl (PySem.W.codeRec_of KX hcd) (hb _ _ _ _ ?_)
 refine wpAny_newFunctionEnv_cells S.kind hkind fun env he s1 x=>?_
 subst he
 refine ⟨lim.keeps x.toInCall.keep,codeAny_func ?_⟩
 obtain ⟨t,ht,hq⟩:=hbody A outer s H vs Q E (hr.deeper _) hsp
 have I:Inv (cxOf CX0 P w K mg base N qual scope f cdv A outer s H E) [] (start N vs) H s1:=ZfD S hr.hd e0 hl r x
 refine wpAny_mono (ht e0.frames [] s1 (start N vs) H _ (I.wish _) hq) (fun fl s' hs=>?_) fun e s' hs=>?_
 . have fin:∀{σ':St}{H':Hp}{v:V}{u:Value},Inv (cxOf CX0 P w K mg base N qual scope f cdv A outer s H E).nox [] σ' H' s'->RelV v u->Q v H'->CE outer P w H s Q u s':=
    fun{σ' H' v u} J rv q=>⟨v,H',J.os,J.bare,J.base,J.hok,rv,q⟩
   cases fl with
   | ret u=>
    obtain ⟨v,σ',H',J,rv,q⟩:=hs
    exact fin J rv q
   | next=>
    obtain ⟨σ',H',J,q⟩:=hs
    exact fin (v:=V.non) (u:=Value.none) J rfl q
   | brk=>
    obtain ⟨_,_,_,q⟩:=hs
    exact False.elim q
   | cont=>
    obtain ⟨_,_,_,q⟩:=hs
    exact False.elim q
 . rcases hs with hs|⟨ea,σ',H',rfl,J,fl,q⟩
   . exact False.elim hs
   . have F:Fr0 (cxOf CX0 P w K mg base N qual scope f cdv A outer s H E).nox (A.deeper (envOfC qual scope s.heap.objs.size f cdv)):=⟨rfl,rfl,Around.frames_deeper e0.frames⟩
     refine wpAny_mono (Zkp (M:=model P w) (E:=fun _ _=>False) F J fl) (fun _ s2 z91=>?_) fun _ _ z=>z.elim
     obtain ⟨H2,J2,k2,f2⟩:=z91
     exact ⟨ea,H2,rfl,J2.os,J2.bare,J2.base,J2.hok,f2,fun H'' k3=>q H'' (k2.trans k3)⟩
def EXP(X:Cx)(pins:Pn)(σ:St)(Ex:Addr->Hp->Prop)(e:Value)(s':Shared):Prop:=
 X.xe e s'\/∃ ea H',e=.ref ea/\Inv X pins σ H' s'/\Fly X H' s'.heap ea/\∀ H'',Same H' H''->Ex ea H''
abbrev TEX:=St->Hp->VK->(Addr->Hp->Prop)->Prop
def PEx(X:Cx)(e:Expr)(t:TEX):Prop:=
 ∀(pins:Pn)(s:Shared)(σ:St)(H:Hp)(Q:VK)(Ex:Addr->Hp->Prop),Inv X pins σ H s->t σ H Q Ex->wpAny (model X.prog X.w) X.A (eval e X.env) (EP X pins σ Q) (EXP X pins σ Ex) s
def PEx.imp(h:PEx X e t)(k:∀ σ H Q Ex,u σ H Q Ex->t σ H Q Ex):PEx X e u:=fun pins s σ H Q Ex I w=>h pins s σ H Q Ex I (k σ H Q Ex w)
def thne(h:wpAny M A t Q X.xe s)(hQ:∀ a s,Q a s->Q' a s):wpAny M A t Q' (EXP X pins σ Ex) s:=wpAny_mono h hQ fun _ _ x=>.inl x
def EXP.xp(h:EXP X pins σ Ex e s)(k:∀ ea H',Ex ea H'->xc ea σ H'):XP X pins xc e s:=by
 rcases h with h|⟨ea,H',e,I,f,q⟩
 . exact .inl h
 . exact .inr ⟨ea,σ,H',e,I,f,fun H'' z=>k ea H'' (q H'' z)⟩
theorem Zm0(F:FnOk X.prog X.w X.K X.mg X.base (CXx X.prog X.w) k f fd ps sp)(hr:Room k X.A)(hb:Binds X.K fd ps ds)(hd:Vals dvs ds)
 (I:Inv X pins σ H s) (r:Vals vs us) (h:sp (vs++dvs) H Q (fun v _ H'=>∃ ea,v=.ref ea/\Ex ea H')):wpAny (model X.prog X.w) X.A (call (.ref f) us) (EP X pins σ Q) (EXP X pins σ Ex) s:=by
 have r2:Vals (vs++dvs) (us++ds):=r.append hd
 have hl:(us++ds).length=ps.length:=by rw [<- r2.length];exact F.len _ _ _ _ h
 refine wpAny_call (codeAny_mono (F.run X.A X.stack s H ⟨us,[]⟩ (us++ds) (vs++dvs) Q _ hr I.env0 (hb s us I.kIn hl) r2 h) fun r s' hq=>?_)
 cases r with
 | error e=>
  obtain ⟨ea,H',rfl,os,bare,un,hok,fl,q⟩:=hq
  refine .inr ⟨ea,H',rfl,I.call' (ch:=[]) os un hok bare fun b z=>absurd z (by simp),.inr (fl.mono fun v z=>.inl z),fun H'' z=>?_⟩
  obtain ⟨ea',e,q⟩:=q H'' z
  cases e
  exact q
 | ok fl=>
  cases fl with
  | ret u=>exact I.after hq
  | next=>exact False.elim hq
  | brk=>exact False.elim hq
  | cont=>exact False.elim hq
def Zoi(hN:X.N.Nodup)(hi:X.N[i]?=some x)(hx:Loc X.env.scope x)(he:PEx X e te)(hs:autoParam (swapsWith e (some (.Name x pos')) pos.line X.env=pure false) Q9)(hf:X.fn x=true\/X.env.scope.names.lookup x=some .local:=by first|exact .inl rfl|exact .inr rfl|assumption):
 PX X (.Assign [.Name x pos'] e pos) fun D σ H=>te σ H (fun v H1=>D.nx (σ.set i (some v)) H1) (fun ea H1=>D.xc ea σ H1):=by
 intro pins s σ H D I h
 refine wpAny_Assign_Name (wpAny_mono (he pins s σ H _ _ I h) (fun v s1 z90=>?_) fun _ _ z=>z.xp fun _ _ q=>q) hs
 obtain ⟨y,H1,I1,r1,q1⟩:=z90
 exact ZbB I1 hN hi hx r1 (fun s2 I2=>⟨_,H1,I2,q1⟩) hf
end
noncomputable def bmV:List Value:=[.type "ValueError",.type "Exception",.type "BaseException",.type "object"]
noncomputable def ZbM:List Value->Bool
 | .ref _::l=>ZbM l
 | l=>l == bmV
theorem ZdB(hv:bmV.contains v=true):∀{l:List Value},ZbM l=true->l.contains v=true
 | [],h=>by unfold ZbM at h;exact absurd h (by decide)
 | x::l,h=>by
  cases x with
  | ref a=>
   rw [List.contains_cons,ZdB (l:=l) hv h,Bool.or_true]
  | _=>rw [beq_iff_eq.mp (show (_::l == bmV)=true from h)];exact hv
theorem ZdC(self:Value):∀{l:List Value},ZbM l=true->refuseLoop self (Str.ofString "__setattr__") l=pure ()
 | [],h=>by unfold ZbM at h;exact absurd h (by decide)
 | x::l,h=>by
  cases x with
  | ref a=>rw [refuseLoop_ref];exact ZdC self (l:=l) h
  | _=>rw [beq_iff_eq.mp (show (_::l == bmV)=true from h)];exact F.store_ValueError.passes self
structure XC(K:Fg)(C:Addr):Prop where
 obj:∃(nm q:Str)(N:Addr)(bs bm:List Value)(sn:List Str)(sub:List Value)(ab:Bool)(col:Option Bool)(dd:Option Addr)(k0 k1 k2 k3 k5:Option Value),
  K.lookup C=some (excClassObj nm q C N bs bm true sn sub ab col dd k0 k1 k2 k3 k5 "ValueError.__new__")/\tailIn K bmV bm=true/\ZbM bm=true
 sa:findIn K (.ref C) (Str.ofString "__setattr__")=some (some (.builtin "object.__setattr__"))
 ga:findIn K (.ref C) (Str.ofString "__getattribute__")=some (some (.builtin "BaseException.__getattribute__"))
 kp:keepIn K (.ref C)=true
section
variable{w:World}{A:Around}{E:VS}{K:Fg}{C f x:Addr}{g:Array GenState}{d:Drawn}{t:Nat}{rest:List Value}
noncomputable abbrev Zbd(C t:Addr):Obj:={ cls:=.ref C,data:=.fields #[.ref t,.none,.none,.none,.bool false,.none] }
noncomputable abbrev ZaS(vs:List Value):Obj:={ cls:=.type "tuple",data:=.seq vs.toArray }
def Zjk(X:XC K C)(hK:K.In h)(hi:findIn K (.ref C) (Str.ofString "__init__")=some (some (.ref f)))(hf:typeIn K (.ref f)=some (.type "function"))(hr:rest.length<=sizeLine)
 (hq:wpAny (model prog w) (A.under (.builtin "type.__call__" ⟨.ref C::rest,[]⟩)) (call (.ref f) (.ref (h.objs.size+1)::rest)) (fun r s'=>r=.none/\Q (.ref (h.objs.size+1)) s') E ⟨(h.push (ZaS rest)).push (Zbd C h.objs.size),g,d,t,os⟩):wpAny (model prog w) A (call (.ref C) rest) Q E ⟨h,g,d,t,os⟩:=by
 obtain ⟨nm,q,N,bs,bm,sn,sub,ab,col,dd,k0,k1,k2,k3,k5,lk,tl,tv⟩:=X.obj
 have hC:h.get? C=some (excClassObj nm q C N bs bm true sn sub ab col dd k0 k1 k2 k3 k5 "ValueError.__new__"):=hK _ _ lk
 have T:OwnTail h bmV bm:=PySem.W.tail_of_in hK tl
 have f1:=tc_lookup
 have f2:=tc_bind (.ref C)
 have hT:Shared.TypeIs ⟨h,g,d,t,os⟩ (.ref C) "type":=⟨_,hC,rfl⟩
 (refine wpAny_call (codeAny_of_tree ?_))
 refine wpAny_bind (wpAny_load' hC ?_)
 refine wpAny_bind (wpAny_specialOf hT f1 (wpAny_bind (wpAny_of_eq f2 (wpAny_bind (wpAny_pure (wpAny_ite_true rfl (wpAny_pure ⟨rfl,?_⟩)))))))
 refine codeAny_call_builtin_at (Code.quiet_builtin _ (by decide +kernel)) entry_typeCall (wpAny_check_type_call_sub hC ?_)
 show wpAny _ _ (Builtin.«type.__call__» ⟨Value.ref C::rest,[]⟩) _ _ _
 (unfold Builtin.«type.__call__»)
 refine wpAny_ite_false rfl ?_
 refine wpAny_bind (wpAny_bind (wpAny_bind (wpAny_load' hC (wpAny_pure (wpAny_pure (wpAny_ite_false rfl (wpAny_bind (wpAny_madeBy_exc hC (wpAny_bind (wpAny_pure (wpAny_bind (wpAny_holding (wpAny_call ?_)))))))))))))
 have F:=F.excBase_ValueError
 have hB:bmV.contains (Value.type "ValueError")=true:=by decide +kernel
 refine codeAny_call_builtin_code (Code.quiet_builtin _ F.quiet) (wpAny_check_new_subU F hB T hC (codeAny_exc_new_subU F hB F T hC ?_ hr))
 have kk:∀ b o,h.get? b=some o->((h.push (ZaS rest)).push (Zbd C h.objs.size)).get? b=some o:=fun b o e=>Heap.get?_push_of_some _ (Heap.get?_push_of_some _ e)
 have hC₁:=kk _ _ hC
 have hget:((h.push (ZaS rest)).push (Zbd C h.objs.size)).get? (h.objs.size+1)=some (Zbd C h.objs.size):=Heap.get?_push_at (by simp) rfl
 have J:PySem.W.InstAt ((h.push (ZaS rest)).push (Zbd C h.objs.size)) (h.objs.size+1) (Zbd C h.objs.size) C none:=⟨hget,rfl,rfl,trivial⟩
 show wpAny _ _ _ _ _ _
 refine wpAny_bind (wpAny_bind (wpAny_bind (wpAny_loadPart_at hget (wpAny_pure (wpAny_isSubtype_exc hC₁ ?_)))))
 rw [show (Value.ref C::bm).contains (Value.ref C)=true by simp]
 refine wpAny_ite_false rfl (wpAny_bind (wpAny_holding (PySem.W.special_fn (hK.keeps kk) J hi hf (wpAny_mono hq (fun r s' z90=>?_) fun _ _ z=>z))))
 obtain ⟨e,q⟩:=z90
 subst e
 exact wpAny_ite_false rfl (wpAny_pure q)
def Zig(X:XC K C)(hK:K.In h)(he:h.get? e=some oe)(hc:oe.cls=.ref C)(hd:oe.data=.fields vs)(hz:vs.size=6)(hr:rest.length<=sizeLine)
 (hq:Q .none ⟨(h.push (ZaS rest)).update e (Obj.mapFields fun x=>x.setIfInBounds 0 (.ref h.objs.size)),g,d,t,os⟩):
 wpAny (model prog w) A (call (.builtin "ValueError.__init__") (.ref e::rest)) Q E ⟨h,g,d,t,os⟩:=by
 obtain ⟨nm,q,N,bs,bm,sn,sub,ab,col,dd,k0,k1,k2,k3,k5,lk,tl,tv⟩:=X.obj
 have hC:h.get? C=some (excClassObj nm q C N bs bm true sn sub ab col dd k0 k1 k2 k3 k5 "ValueError.__new__"):=hK _ _ lk
 have T:OwnTail h bmV bm:=PySem.W.tail_of_in hK tl
 have F:=F.excBase_ValueError
 have he':=Heap.get?_push_of_some (ZaS rest) he
 refine wpAny_call (codeAny_call_builtin F.init.plain F.initEntry (wpAny_check_init_subU F T hC he hc ?_))
 (unfold Builtin.«BaseException.__init__»)
 refine wpAny_ite_false rfl (wpAny_bind (wpAny_newTuple ?_ hr))
 refine wpAny_bind ?_
 unfold Builtin.BaseException.bexcPut
 obtain ⟨v0,h0⟩:∃ v0,vs[0]?=some v0:=⟨_,Array.getElem?_eq_getElem (by omega)⟩
 refine wpAny_bind (wpAny_field he' hd h0 (wpAny_bind (wpAny_setField he' hd (by omega) ?_)))
 cases v0<;>first
  | exact wpAny_letGo (wpAny_pure hq)
  | exact wpAny_pure (wpAny_pure hq)
def Zjl(hh:A.handled=none)
 (hx:wpAny M A y (fun v s₁=>∃(K:Fg)(C e:Addr)(oe:Obj)(vs:Array Value),XC K C/\K.In s₁.heap/\v=.ref e/\s₁.heap.get? e=some oe/\oe.cls=.ref C/\oe.data=.fields vs/\vs[1]?=some .none/\E (.ref e) s₁) E s):
 wpAny M A (raiseStmt env (some y) none) Q E s:=by
 unfold raiseStmt
 refine wpAny_bind (thn hx fun v s₁ z0=>?_)
 obtain ⟨K,C,e,oe,vs,X,hK,hv,he,hc,hd,h1,q⟩:=z0
 subst hv
 obtain ⟨nm,q',N,bs,bm,sn,sub,ab,col,dd,k0,k1,k2,k3,k5,lk,tl,tv⟩:=X.obj
 have hC:=hK _ _ lk
 have hbe:(Value.ref C::bm).contains (.type "BaseException")=true:=by rw [List.contains_cons,ZdB (by decide +kernel) tv,Bool.or_true]
 (obtain ⟨hp,g,d,tk,os⟩:=s₁)
 obtain ⟨oc,odx,oda,osl⟩:=oe
 have hc:oc=.ref C:=hc
 have hd:oda=.fields vs:=hd
 subst hc hd
 refine wpAny_bind (wpAny_pure (wpAny_bind (wpAny_holding ?_)))
 unfold excFromValue
 refine wpAny_bind ?_
 unfold isExcClass
 refine wpAny_bind ?_
 refine wpAny_bind (wpAny_loadPart_at he (wpAny_pure (wpAny_ite_false rfl (wpAny_pure (wpAny_ite_false rfl (wpAny_bind ?_))))))
 refine wpAny_bind (wpAny_bind (wpAny_loadPart_at he (wpAny_pure (wpAny_isSubtype_exc hC ?_))))
 rw [hbe]
 refine wpAny_ite_true rfl (wpAny_pure (wpAny_bind (wpAny_bind (wpAny_loadPart_at he (wpAny_pure (wpAny_ite_false rfl (wpAny_bind ?_)))))))
 unfold raisedInstance
 refine wpAny_bind (wpAny_bind (wpAny_loadPart_at he (wpAny_pure (wpAny_bind (wpAny_bind (wpAny_loadPart_at hC (wpAny_pure ?_)))))))
 refine wpAny_ite_true rfl (wpAny_pure (wpAny_bind ?_))
 unfold setFlight
 refine wpAny_bind (wpAny_field he rfl h1 (wpAny_ite_false rfl (wpAny_pure ?_)))
 exact wpAny_raiseNew_none hh q
end
section
variable{w:World}{A:Around}{E:VS}{K:Fg}{C f a:Addr}{g:Array GenState}{d:Drawn}{t:Nat}{rest:List Value}{od:Option Obj}{v:Value}
def Zfr:bmV.contains (.type "BaseException")=true:=by decide +kernel
def Zjm:bmV.contains (.type "object")=true:=by decide +kernel
def Zkr:builtinKind "BaseException.__getattribute__"=some Manifest.AttrKind.slot:=by decide +kernel
def Zjn:splitId "BaseException.__getattribute__"=some ("BaseException","__getattribute__"):=by decide +kernel
def ZfJ(sub:Looks M s.heap (isInstance (.ref a) (.type "BaseException")) true)(hq:Q () s):wpAny M A (checkBuiltinCall "BaseException.__getattribute__" ⟨[.ref a,nv],[]⟩) Q E s:=
 (@PySem.W.check_slot M A E s "BaseException.__getattribute__" "BaseException" "__getattribute__" (.ref a) [nv] [] Q Zkr Zjn sub) (F.args_bexc_ga (.ref a) nv) hq
def XC.cls(X:XC K C):∃ cd bm,clsIn K C=some cd/\cd.mro=.ref C::bm/\ZbM bm=true/\cd.hasDict=true:=by
 obtain ⟨nm,q,N,bs,bm,sn,sub,ab,col,dd,k0,k1,k2,k3,k5,lk,tl,tv⟩:=X.obj
 exact ⟨_,bm,by unfold clsIn;rw [lk],rfl,tv,rfl⟩
def XC.sub(X:XC K C)(hn:bmV.contains (.type n)=true):mroIn K C (.type n)=some true:=by
 obtain ⟨cd,bm,h1,h2,h3,_⟩:=X.cls
 unfold mroIn
 rw [h1]
 show (if cd.mro.isEmpty=true then none else some (cd.mro.contains (.type n)))=_
 rw [h2,if_neg (by simp),List.contains_cons,ZdB hn h3,Bool.or_true]
def Zoj(X:XC K C)(hK:K.In h)(J:PySem.W.InstAt h a oe C od)(hf:findObj K C od name=some (.value v))(hr:R (.ok (.ret v)) ⟨h,g,d,t,os⟩):
 codeAny (model prog w) A (.call (.builtin "BaseException.__getattribute__") ⟨[.ref a,.str name tk],[]⟩) R ⟨h,g,d,t,os⟩:=by
 have FA:=F.attrBase_ValueError
 have sub:Looks (model prog w) h (isInstance (.ref a) (.type "BaseException")) true:=andThen J.type (looks_mroIn hK (X.sub Zfr))
 refine codeAny_call_builtin FA.ga.plain F.entry_bexc_ga ?_
 refine ZfJ sub ?_
 (unfold Builtin.«object.__getattribute__»)
 refine wpAny_bind (wpAny_of_eq (a:=(Value.ref a,[Value.str name tk])) rfl ?_)
 refine wpAny_bind (wpAny_pure (wpAny_bind (PySem.W.Looks.at J.type (wpAny_bind (PySem.W.Looks.at (PySem.W.looks_find hK J hf) (wpAny_pure hr))))))
def Zok(X:XC K C)(hK:K.In h)(J:PySem.W.InstAt h a oe C od)(ha:findIn K (.ref C) "__class__"=some (some (.builtin "object.__class__")))
 (hn:specialIn K (.builtin "object.__class__") "__get__"=some (some (.builtin "getset_descriptor.__get__"))) (htk:takesIn K (.builtin "object.__class__")=some true) (hr:R (.ok (.ret (.ref C))) ⟨h,g,d,t,os⟩):
 codeAny (model prog w) A (.call (.builtin "BaseException.__getattribute__") ⟨[.ref a,.str (Str.ofString "__class__") tk],[]⟩) R ⟨h,g,d,t,os⟩:=by
 have FA:=F.attrBase_ValueError
 obtain ⟨cd,bm,h1,h2,h3,_⟩:=X.cls
 have hf:findObj K C od "__class__"=some (.bind (.builtin "getset_descriptor.__get__") (.builtin "object.__class__")):=by
  unfold findObj
  rw [h1,ha]
  simp only [bind_some]
  rw [hn]
  simp only [bind_some]
  rw [htk]
  rfl
 have sub:Looks (model prog w) h (isInstance (.ref a) (.type "BaseException")) true:=andThen J.type (looks_mroIn hK (X.sub Zfr))
 refine codeAny_call_builtin FA.ga.plain F.entry_bexc_ga ?_
 refine ZfJ sub ?_
 (unfold Builtin.«object.__getattribute__»)
 refine wpAny_bind (wpAny_of_eq (a:=(Value.ref a,[Value.str (Str.ofString "__class__") tk])) rfl ?_)
 refine wpAny_bind (wpAny_pure (wpAny_bind (PySem.W.Looks.at J.type (wpAny_bind (PySem.W.Looks.at (PySem.W.looks_find hK J hf) ?_)))))
 exact wpAny_bind (wpAny_holding (wpAny_call (PySem.W.class_get hK J (X.sub Zjm) (wpAny_pure hr))))
def ZlD{tk:Tok}{fill:Bool}{Q:VS}(X:XC K C)(hK:K.In h)(J:PySem.W.InstAt h a oe C od)(hg:findIn K (.ref C) (Str.ofString "__getattr__")=some none)(hv:handedIn v=true)
 (hr:∀ R:Result->Shared->Prop,R (.ok (.ret v)) ⟨h,g,d,t,os⟩->codeAny (model prog w) A (.call (.builtin "BaseException.__getattribute__") ⟨[.ref a,.str name tk],[]⟩) R ⟨h,g,d,t,os⟩) (hq:Q v ⟨h,g,d,t,os⟩):
 wpAny (model prog w) A (getAttrBy (.ref a) (.str name tk) fill expr) Q E ⟨h,g,d,t,os⟩:=by
 have FA:=F.attrBase_ValueError
 (have hx0:(expr && onTheHeap (Value.builtin "BaseException.__getattribute__"))=false:=by cases expr<;>rfl)
 unfold getAttrBy
 refine wpAny_holding (wpAny_bind (PySem.W.Looks.at J.type (wpAny_bind (PySem.W.Looks.at (looks_findIn hK X.ga) (wpAny_ite_false (by show decide ((true && (Value.builtin "BaseException.__getattribute__" == Value.builtin "object.__getattribute__"))=true)=false;decide +kernel) ?_)))))
 unfold getAttrByItsOwn
 refine wpAny_bind (?_:wpAny _ _ (hookBefore _) _ _ _)
 unfold hookBefore
 refine wpAny_ite_true rfl (PySem.W.Looks.at (looks_findIn hK hg) (wpAny_bind (wpAny_attempt (wpAny_holding ?_))))
 unfold callGetattribute
 rw [hx0]
 refine wpAny_ite_false rfl ?_
 unfold boundAndCalled
 refine wpAny_bind (wpAny_of_eq (FA.ga.bind _) (wpAny_call (hr _ ?_)))
 exact PySem.W.handed_on hv hq
def Zm1{Q:VS}(X:XC K C)(hK:K.In s.heap)(J:PySem.W.InstAt s.heap a oe C od)(hg:findIn K (.ref C) (Str.ofString "__getattr__")=some none)(hv:handedIn v=true)
 (hf:findObj K C od name=some (.value v)) (hq:Q v { s with toks:=s.toks+1 }):wpAny (model prog w) A (getAttr (.ref a) name expr) Q E s:=by
 obtain ⟨h,g,d,t,os⟩:=s
 unfold getAttr
 exact wpAny_bind (wpAny_mkText (ZlD X hK J hg hv (fun R hr=>Zoj X hK J hf hr) hq))
def Zks{Q:Option Value->Shared->Prop}(X:XC K C)(hK:K.In s.heap)(J:PySem.W.InstAt s.heap a oe C od)(hg:findIn K (.ref C) (Str.ofString "__getattr__")=some none)(ha:findIn K (.ref C) "__class__"=some (some (.builtin "object.__class__")))
 (hn:specialIn K (.builtin "object.__class__") "__get__"=some (some (.builtin "getset_descriptor.__get__"))) (htk:takesIn K (.builtin "object.__class__")=some true) (hq:Q (some (.ref C)) { s with toks:=s.toks+1 }):
 wpAny (model prog w) A (getAttr? (.ref a) (Str.ofString "__class__")) Q E s:=by
 obtain ⟨h,g,d,t,os⟩:=s
 unfold getAttr?
 (refine wpAny_bind (wpAny_mkText ?_))
 unfold getAttrBy?
 exact wpAny_bind (wpAny_attempt (ZlD (v:=.ref C) X hK J hg rfl (fun R hr=>Zok X hK J ha hn htk hr) (wpAny_pure hq)))
structure XD(K:Fg)(C:Addr):Prop extends XC K C where
 hk:findIn K (.ref C) (Str.ofString "__getattr__")=some none
 hc:findIn K (.ref C) "__class__"=some (some (.builtin "object.__class__"))
 hn:specialIn K (.builtin "object.__class__") "__get__"=some (some (.builtin "getset_descriptor.__get__"))
 ht:takesIn K (.builtin "object.__class__")=some true
def Zkt(X:XD K C):PySem.W.KitX K (.ref a) (.ref C) fun h=>PySem.W.InstAt h a oe C od where
 ty:=fun M h hK J=>J.type
 it:=fun M h hK J=>by
  obtain ⟨nm,q,N,bs,bm,sn,sub,ab,col,dd,k0,k1,k2,k3,k5,lk,tl,tv⟩:=X.obj
  exact fun A Q E s k hq=>wpAny_bind (wpAny_loadPart (k _ _ (hK _ _ lk)) (wpAny_pure hq))
 ne:=fun h tp dd its n sl hK e=>by
  obtain ⟨nm,q,N,bs,bm,sn,sub,ab,col,dd,k0,k1,k2,k3,k5,lk,tl,tv⟩:=X.obj
  refine Bool.eq_false_iff.mpr fun z=>?_
  have:=Value.ref.inj (beq_iff_eq.mp z)
  subst this
  have:=congrArg (fun o=>match o with|some (Obj.mk _ _ (.cls _) _)=>true|_=>false) ((hK _ _ lk).symm.trans e)
  exact absurd this (by simp)
 ca:=fun hK J hq=>Zks X.toXC hK J X.hk X.hc X.hn X.ht hq
def osaX(X:XC K C)(hK:K.In s.heap)(J:PySem.W.InstAt s.heap a oe C od)(ht:takerIn K C name=some none)
 (hs:∀ b:Bool,wpAny (model prog w) A.in1 (Builtin.ObjectAttr.storeInOwnDict (.ref a) (.ref C) (.str name tk) name v b) (fun fin s'=>match fin with
  | .done f=>R (.ok f) s'
  | .again c'=>c'.quiet=true/\codeAny (model prog w) A c' R s') (fun e s'=>R (.error e) s') s):
 codeAny (model prog w) A (.call (.builtin "object.__setattr__") ⟨[.ref a,.str name tk,v],[]⟩) R s:=by
 have SF:=F.store_object
 obtain ⟨cd,bm,h1,h2,h3,_⟩:=X.cls
 have sub:Looks (model prog w) s.heap (isInstance (.ref a) (.type "object")) true:=andThen J.type (looks_mroIn hK (X.sub Zjm))
 have hm:Looks (model prog w) s.heap (mroOf (.ref C)) cd.mro:=andThen (looks_clsIn hK h1) PySem.W.Looks.now
 refine codeAny_call_builtin SF.slot.plain SF.entry ?_
 refine (@PySem.W.check_slot (model prog w) A.in1 _ s "object.__setattr__" "object" "__setattr__" (.ref a) [.str name tk,v] [] _ SF.kind SF.split sub) (SF.args (.ref a) (.str name tk) v) ?_
 rw [PySem.W.osa_eq,refuse_eq]
 refine wpAny_bind (wpAny_bind (here J.type (wpAny_bind (here hm ?_))))
 rw [h2,refuseLoop_ref,ZdC _ h3]
 refine wpAny_pure (wpAny_bind (here J.type ?_))
 unfold takerIn at ht
 obtain ⟨attr,e1,e2⟩:=Option.bind_eq_some_iff.mp ht
 refine wpAny_bind (here (looks_findIn hK e1) ?_)
 have L3:Looks (model prog w) s.heap (Builtin.ObjectAttr.storeTaker? attr) none:=by
  cases attr with
  | none=>exact PySem.W.Looks.now
  | some x=>
   obtain ⟨b,hb,hz⟩:=Option.map_eq_some_iff.mp e2
   cases b with
   | true=>cases hz
   | false=>exact andThen (PySem.W.looks_takesIn hK hb) PySem.W.Looks.now
 exact wpAny_bind (here L3 (hs attr.isSome))
end
def GX(K:Fg)(n:Str)(C:Addr):Prop:=nsIn K mainGlobals n=some (some (.ref C))/\(clsIn K C).map (·.name)=some n
def bmOf(K:Fg):List Str->List Value->Prop
 | [],bm=>bm=bmV
 | n::ns,bm=>∃ L bm',bm=.ref L::bm'/\GX K n L/\bmOf K ns bm'
noncomputable def Zec:List Str:=["row","number","length","numbers"]
structure XN(K:Fg)(ns:List Str)(C:Addr):Prop extends XD K C where
 nms:∃ cd,clsIn K C=some cd/\bmOf K ns cd.mro
 nof:∀ f∈Zec,Zaa K C f
def GX.ne{K:Fg}{n c:Str}{C D:Addr}(h:GX K n C)(h':GX K c D):(Value.ref D == Value.ref C)=decide (c=n):=by
 by_cases e:c=n
 . subst e
   have:=h.1.symm.trans h'.1
   cases this
   simp
 . rw [decide_eq_false e]
   refine Bool.eq_false_iff.mpr fun z=>e ?_
   have z:=Value.ref.inj (beq_iff_eq.mp z)
   subst z
   have:=h'.2.symm.trans h.2
   exact Option.some.inj this
theorem bmOf.has{K:Fg}{c:Str}{D:Addr}(h':GX K c D):∀{ns:List Str}{bm:List Value},bmOf K ns bm->bm.contains (.ref D)=decide (c∈ns)
 | [],bm,h=>by
  rw [show bm=bmV from h]
  rfl
 | n::ns,bm,h=>by
  obtain ⟨L,bm',rfl,g,r⟩:=h
  rw [List.contains_cons,bmOf.has h' r,GX.ne g h']
  by_cases e:c=n
  . simp [e]
  . simp [e]
def XN.isa{K:Fg}{ns:List Str}{c:Str}{C D:Addr}(h:XN K ns C)(h':GX K c D)(ht:typeIn K (.ref D)=some (.type "type")):kitOne K (.ref C) (.ref D)=some (decide (c∈ns)):=by
 obtain ⟨cd,h1,h2⟩:=h.nms
 obtain ⟨cd',bm,q1,q2,q3,_⟩:=h.toXC.cls
 rw [h1] at q1
 cases q1
 have hm:mroIn K C (.ref D)=some (decide (c∈ns)):=by
  unfold mroIn
  rw [h1]
  show (if cd.mro.isEmpty=true then none else some (cd.mro.contains (.ref D)))=_
  rw [if_neg (by rw [q2];simp),bmOf.has h' h2]
 unfold kitOne
 have hs:(clsIn K D).isSome=true:=by
  cases e:clsIn K D with
  | none=>have:=h'.2;rw [e] at this;cases this
  | some x=>rfl
 split
 . rename_i e
   have:=Value.ref.inj (beq_iff_eq.mp e)
   subst this
   have:cd.mro.contains (.ref C)=true:=by rw [q2];simp
   rw [bmOf.has h' h2] at this
   rw [this]
 . unfold PySem.W.kitCls
   dsimp only
   rw [if_pos (by rw [hs,ht];simp)]
   exact hm
section
theorem Zcr(I:Inv X pins σ H s)(e:H a=some (.exc C dx fr fs)):∃(oe:Obj)(vs:Array Value)(od:Option Obj),s.heap.get? a=some oe/\oe.cls=.ref C/\oe.dict=dx/\oe.data=.fields vs/\vs.size=6/\(fr=true->vs[1]?=some .none)/\PySem.W.InstAt s.heap a oe C od/\
 ∃ mA:Str->Option Value,(∀ f,RelO (fs.lookup f) (mA f))/\PySem.Within mA (fs.map (·.1))/\(∀ name,(match od with|some o=>lookIn name o|none=>some none)=some (mA name))/\
  ∀ d,dx=some d->H d=some (.own a)/\d≠a/\s.heap.Ns1 d mA:=by
 obtain ⟨l,⟨oe,vs,e1,e2,e3,e4,e5,e6⟩,r⟩:=(show ZE X.prog X.w H s.heap a (.exc C dx fr fs) from I.hok a _ e)
 have nc:notCls oe=true:=by unfold notCls;rw [e4]
 cases dx with
 | none=>
  have r:fs=[]:=r
  subst r
  exact ⟨oe,vs,none,e1,e2,e3,e4,e5,e6,⟨e1,e2,nc,by rw [e3];trivial⟩,fun _=>none,fun _=>trivial,fun y h=>absurd rfl h,fun _=>rfl,fun d h=>nomatch h⟩
 | some d=>
  obtain ⟨r1,r2,mA,r3,r4,r5⟩:=r
  obtain ⟨od,ho,hl⟩:=Zf7 r3
  exact ⟨oe,vs,some od,e1,e2,e3,e4,e5,e6,⟨e1,e2,nc,by rw [e3];exact ho⟩,mA,r4,r5,hl,fun d' h=>by cases h;exact ⟨r1,r2,r3⟩⟩
def ZgX(I:Inv X pins σ H s)(e:H a=some (.exc C dx fr fs))(c:XD X.K C)(n:Zaa X.K C f)(l:fs.lookup f=some v)
 (h:∀ u s',Inv X pins σ H s'->RelV v u->Q u s'):wpAny (model X.prog X.w) A (getAttr (.ref a) f b) Q E s:=by
 obtain ⟨oe,vs,od,e1,e2,e3,e4,e5,e6,J,mA,r1,r2,r3,r4⟩:=Zcr I e
 obtain ⟨u,hu,ru⟩:=RelO.some_of (v:=v) (o:=mA f) (by rw [<- l];exact r1 f)
 refine Zm1 c.toXC I.kIn J c.hk (Zf8 ru) ?_ (h u _ (I.tok _) ru)
 obtain ⟨cd,bm,h1,h2,h3,h4⟩:=c.toXC.cls
 unfold findObj
 rw [h1,show findIn X.K (.ref C) f=some none from n]
 simp only [bind_some]
 have:PySem.W.ownOf cd od f=some (mA f):=by
  unfold PySem.W.ownOf
  rw [if_pos h4]
  have:=r3 f
  cases od with
  | none=>exact this
  | some o=>exact this
 rw [this,hu]
 rfl
def Zih(I:Inv X pins σ H s)(e:H a=some (.exc C dx fr fs))(x:XD X.K C)(k:kitOne X.K (.ref C) c=some b)(h:∀ tk,Q (.bool b) { s with toks:=tk }):
 wpAny (model X.prog X.w) A (call (.builtin "isinstance") [.ref a,c]) Q E s:=by
 obtain ⟨oe,vs,od,e1,e2,e3,e4,e5,e6,J,_⟩:=Zcr I e
 exact kia_one (Zkt x) I.kIn J k (fun z=>nomatch z) h
theorem ZgY(I:Inv X pins σ H s)(e:H a=some (.exc C dx fr fs))(c:XC X.K C)(n:Zaa X.K C f)(hl:fs.length < 1000)(ry:RelV y u)
 (h:∀ s' H' d',H' a=some (.exc C (some d') fr (putF f y fs))->(∀ b o,b≠a->H b=some o->H' b=some o)->Inv X pins σ H' s'->Q () s'):wpAny (model X.prog X.w) A (setAttr (.ref a) f u) Q E s:=by
 obtain ⟨oe,vs,od,e1,e2,e3,e4,e5,e6,J,mA,r1,r2,r3,r4⟩:=Zcr I e
 have hz:(fs.map (·.1)).length<=sizeLine:=by rw [length_map,sizeLine_eq];omega
 obtain ⟨cd,bm,h1,h2,h3,h4⟩:=c.cls
 refine PySem.W.set_plain I.kIn J c.sa (osaX (s:={ s with toks:=s.toks+1 }) c I.kIn J n.taker fun b=>?_)
 have rel:∀ g,RelO ((putF f y fs).lookup g) (if g=f then some u else mA g):=fun g=>by
  rw [ZcT]
  by_cases q:g=f
  . rw [if_pos q,if_pos q];exact ry
  . rw [if_neg q,if_neg q];exact r1 g
 have wi:PySem.Within (fun g=>if g=f then some u else mA g) ((putF f y fs).map (·.1)):=fun g hg=>by
  by_cases q:g=f
  . rw [q];exact (ZbU f y fs).1
  . refine (ZbU f y fs).2 g (r2 g fun z=>hg ?_)
    show (if g=f then some u else mA g)=none
    rw [if_neg q];exact z
 have le:(putF f y fs).length<=1000:=by have:=ZcU f y fs;omega
 refine wpAny_bind (wpAny_pure (wpAny_bind (wpAny_bind (wpAny_loadPart e1 ?_))))
 rw [e2]
 refine wpAny_bind (here (s:={ s with toks:=s.toks+1 }) (looks_clsIn I.kIn h1) ?_)
 rw [h4]
 cases dx with
 | some d=>
  obtain ⟨q1,q2,q3⟩:=r4 d rfl
  rw [e3]
  refine wpAny_pure (a:=some d) (wpAny_bind (wpAny_pure (wpAny_bind ?_)))
  refine wpAny_nsSet1 (s:={ s with toks:=s.toks+1 }) q3 fun h' hn2 hs2=>?_
  obtain ⟨oD,esD,epD,hoD,hdD,hcD⟩:=hn2.count (PySem.Within.cons f u r2)
  refine wpAny_bind (wpAny_lookBehind hoD (by rw [hdD];exact pastItsLine_dict (le_trans hcD (by rw [length_cons];omega))) ?_)
  refine wpAny_pure (h _ _ d Zj (fun b o hb q=>by rw [Zn hb];exact q) (I.write (t':=s.toks+2) (x:=a) (e:=d) (o:=.exc C (some d) fr (putF f y fs)) (h':=h') (by rw [e];exact True.intro) (.inr q1) (fun b q hb z=>(hs2.2 b hb).trans z) ⟨oD,hoD⟩ ?_))
  exact ⟨le,⟨oe,vs,(hs2.2 _ (Ne.symm q2)).trans e1,e2,e3,e4,e5,e6⟩,by rw [Zn q2];exact q1,q2,_,hn2,rel,wi⟩
 | none=>
  have hfs:fs=[]:=by
   have:ZE X.prog X.w H s.heap a (.exc C none fr fs):=I.hok a _ e
   exact this.2.2
  subst hfs
  rw [e3]
  refine wpAny_ite_false rfl ?_
  rw [e4]
  refine wpAny_bind (wpAny_alloc (wpAny_bind (wpAny_update (s:={ s with heap:=s.heap.push emptyDict,toks:=s.toks+1 }) (Heap.get?_push_of_some _ e1) ?_)))
  have nd:s.heap.objs.size≠a:=ne_of_gt (Heap.lt_size e1)
  have g1:((s.heap.push emptyDict).update a fun o=>{ o with dict:=some s.heap.objs.size }).get? a=some { oe with dict:=some s.heap.objs.size }:=Heap.get?_update_self _ (Heap.get?_push_of_some _ e1) (Obj.isFreed_of_fields (vs:=vs) e4)
  have g2:((s.heap.push emptyDict).update a fun o=>{ o with dict:=some s.heap.objs.size }).get? s.heap.objs.size=some emptyDict:=(Heap.get?_update_other _ _ (Ne.symm nd)).trans (Heap.get?_push_size _ rfl)
  have q3:Heap.Ns1 ((s.heap.push emptyDict).update a fun o=>{ o with dict:=some s.heap.objs.size }) s.heap.objs.size (fun _=>none):=⟨_,#[],_,g2,rfl,fun e he=>absurd he (by simp),by unfold UniqKeys;simp,fun _=>rfl⟩
  refine wpAny_pure (a:=some s.heap.objs.size) (wpAny_bind (wpAny_pure (wpAny_bind ?_)))
  refine wpAny_nsSet1 (s:=⟨_,s.gens,s.drawn,s.toks+1,s.os⟩) q3 fun h' hn2 hs2=>?_
  obtain ⟨oD,esD,epD,hoD,hdD,hcD⟩:=hn2.count (PySem.Within.cons (m:=fun _=>none) (ns:=[]) f u fun y h=>absurd rfl h)
  refine wpAny_bind (wpAny_lookBehind hoD (by rw [hdD];exact pastItsLine_dict (le_trans hcD (by rw [length_cons];decide))) ?_)
  have hn:H s.heap.objs.size=none:=I.hok.fresh (le_refl _)
  have g3:h'.get? a=some { oe with dict:=some s.heap.objs.size }:=(hs2.2 _ (Ne.symm nd)).trans g1
  have kk:∀ b o,b≠a->s.heap.get? b=some o->h'.get? b=some o:=fun b o hb q=>by
   have:b≠s.heap.objs.size:=ne_of_lt (Heap.lt_size q)
   exact (hs2.2 b this).trans ((Heap.get?_update_other _ _ (Ne.symm hb)).trans (Heap.get?_push_of_some _ q))
  have I1:=I.laid (a:=s.heap.objs.size) (o:=.own a) (t':=s.toks+1) (h':=s.heap.push emptyDict) (fun b u q=>Heap.get?_push_of_some _ q) (le_refl _) ⟨_,Heap.get?_push_size _ rfl⟩
  have e1':upd H s.heap.objs.size (.own a) a=some (.exc C none fr []):=by rw [Zn (Ne.symm nd)];exact e
  have I2:=I1.write (t':=s.toks+1) (x:=a) (e:=a) (o:=.exc C (some s.heap.objs.size) fr []) (h':=(s.heap.push emptyDict).update a fun o=>{ o with dict:=some s.heap.objs.size }) (by rw [e1'];exact True.intro) (.inl rfl)
   (fun b q hb z=>(Heap.get?_update_other _ _ (Ne.symm hb)).trans z) ⟨_,g1⟩ ⟨by simp,⟨_,vs,g1,e2,rfl,e4,e5,e6⟩,by rw [Zn nd];exact Zj,nd,_,q3,fun _=>trivial,fun y h=>absurd rfl h⟩
  have e2':upd (upd H s.heap.objs.size (.own a)) a (.exc C (some s.heap.objs.size) fr []) s.heap.objs.size=some (.own a):=by rw [Zn nd];exact Zj
  have I3:=I2.write (t':=s.toks+2) (x:=a) (e:=s.heap.objs.size) (o:=.exc C (some s.heap.objs.size) fr (putF f y [])) (h':=h') (by rw [Zj];exact True.intro) (.inr e2')
   (fun b q hb z=>(hs2.2 b hb).trans z) ⟨oD,hoD⟩ ⟨le,⟨_,vs,g3,e2,rfl,e4,e5,e6⟩,by rw [Zn nd];exact e2',nd,_,hn2,fun g=>?_,fun g hg=>?_⟩
  . exact wpAny_pure (h _ _ s.heap.objs.size Zj (fun b o hb q=>by rw [Zn hb,Zn hb,Zn (Zai q hn)];exact q) I3)
  . have:=rel g
    have hz:mA g=none:=by
     have:=r1 g
     cases q:mA g with
     | none=>rfl
     | some z=>rw [q] at this;exact this.elim
    rw [hz] at this
    exact this
  . refine wi g fun z=>hg ?_
    have z:(if g=f then some u else mA g)=none:=z
    show (if g=f then some u else none)=none
    by_cases q:g=f
    . rw [if_pos q] at z;cases z
    . rw [if_neg q]
end
section
def Inv.madeX(I:Inv X pins σ H s):Inv X pins σ (upd H (s.heap.objs.size+1) (.exc C none true [])) { s with heap:=(s.heap.push (ZaS us)).push (Zbd C s.heap.objs.size) }:=by
 have I1:Inv X pins σ H { s with heap:=s.heap.push (ZaS us) }:=I.kept (t':=s.toks) fun b u e=>Heap.get?_push_of_some _ e
 have hget:((s.heap.push (ZaS us)).push (Zbd C s.heap.objs.size)).get? (s.heap.objs.size+1)=some (Zbd C s.heap.objs.size):=Heap.get?_push_at (by simp) rfl
 exact I1.laid (a:=s.heap.objs.size+1) (o:=.exc C none true []) (t':=s.toks) (h':=(s.heap.push (ZaS us)).push (Zbd C s.heap.objs.size)) (fun b u e=>Heap.get?_push_of_some _ e) (by simp) ⟨by simp,⟨_,_,hget,rfl,rfl,rfl,rfl,fun _=>rfl⟩,rfl⟩
def Zqv(C:Addr)(sp:Sp)(dvs:List V)(t:TA):TE:=fun σ H Q=>t σ H fun vs H1=>vs.length<=sizeLine/\∀ x,H1 x=none->sp (.ref x::(vs++dvs)) (upd H1 x (.exc C none true [])) (fun v H2=>v=.non/\Q (.ref x) H2) E0
theorem Zku(M:XC X.K C)(hi:findIn X.K (.ref C) (Str.ofString "__init__")=some (some (.ref f)))(hf:typeIn X.K (.ref f)=some (.type "function"))(F:FnOk X.prog X.w X.K X.mg X.base CX0 k f fd ps sp)(hr:Room (k+1) X.A)
 (hb:Binds X.K fd ps ds) (hd:Vals dvs ds) (I:Inv X pins σ H s) (r:Vals vs us) (hl:vs.length<=sizeLine) (h:∀ x,H x=none->sp (.ref x::(vs++dvs)) (upd H x (.exc C none true [])) (fun v H2=>v=.non/\Q (.ref x) H2) E0):
 wpAny (model X.prog X.w) X.A (call (.ref C) us) (EP X pins σ Q) X.xe s:=by
 have hq:=h (s.heap.objs.size+1) (I.hok.fresh (le_succ _))
 have I2:=Inv.madeX (C:=C) (us:=us) I
 have r2:Vals (V.ref (s.heap.objs.size+1)::(vs++dvs)) (Value.ref (s.heap.objs.size+1)::(us++ds)):=.cons rfl (r.append hd)
 have hl2:(Value.ref (s.heap.objs.size+1)::us++ds).length=ps.length:=by
  have e:=r2.length
  rw [F.len _ _ _ _ hq] at e
  exact e.symm
 refine Zjk (h:=s.heap) (g:=s.gens) (d:=s.drawn) (t:=s.toks) (os:=s.os) M I.kIn hi hf (by rw [<- r.length];exact hl) (wpAny_call (codeAny_mono (F.run _ X.stack _ _ ⟨Value.ref (s.heap.objs.size+1)::us,[]⟩ (Value.ref (s.heap.objs.size+1)::(us++ds)) _ _ E0 (hr.make C us [])
  (I2.env0.make C us []) (hb _ (Value.ref (s.heap.objs.size+1)::us) I2.kIn hl2) r2 hq) fun r s' hq'=>?_))
 cases r with
 | error e=>exact False.elim hq'
 | ok fl=>
  cases fl with
  | ret u=>
   obtain ⟨v,H',I3,rv,ev,q3⟩:=I2.after hq'
   subst ev
   exact ⟨rv,⟨V.ref (s.heap.objs.size+1),H',I3,rfl,q3⟩⟩
  | next=>exact False.elim hq'
  | brk=>exact False.elim hq'
  | cont=>exact False.elim hq'
def Zm2(M:XC X.K C)(hi:findIn X.K (.ref C) (Str.ofString "__init__")=some (some (.ref f)))(hf:typeIn X.K (.ref f)=some (.type "function"))(F:FnOk X.prog X.w X.K X.mg X.base CX0 k f fd ps sp)(hr:Room (k+1) X.A)(hg:Gl X x)(hm:X.mg x=some (.ref C))
 (hb:Binds X.K fd ps ds) (hd:Vals dvs ds) (ha:PA X (e::es) t) (hdb:autoParam ((x == ("__debug__":Str))=false) Q7) (he:autoParam (SE X e es) Q9) (hpl:autoParam (SFx X pos es) Q9):
 PE X (.Call (.Name x p) (e::es) [] pos) (Zqv C sp dvs t):=by
 intro pins s σ H Q I h
 refine wpAny_Call_Name_kw (ZcZ I hg hm ?_ hdb)
 refine callWith_K (h₀:=X.base) I.ok.mod.kin M.kp (thn (ha pos pins s σ H _ I h) fun us s1 ⟨vs,H1,I1,r,l,q⟩=>⟨I1.kIn,?_⟩) he hpl
 exact Zku M hi hf F hr hb hd I1 r l q
structure XI(K:Fg)(L:Addr):Prop where
 sp:specialIn K (.ref L) (Str.ofString "__getattribute__")=some (some (.builtin "type.__getattribute__"))
 rd:PySem.W.readsIn K L (.type "type")=true
 fd:PySem.W.findCls K (.ref L) (.type "type") (Str.ofString "__init__")=some (.val (.builtin "ValueError.__init__"))
def Zol(K:Fg)(t:TA):TE:=fun σ H Q=>t σ H fun vs H1=>∃ a v C dx fr fs,vs=[.ref a,v]/\XC K C/\H1 a=some (.exc C dx fr fs)/\Q .non H1
def Zkv(M:XI X.K L)(hg:Gl X x)(hm:X.mg x=some (.ref L))(ha:PA X (e::es) t)(hdb:autoParam ((x == ("__debug__":Str))=false) Q7)
 (hst:autoParam (SE X e es) Q9) (hpl:autoParam (SFx X pos es) Q9)
 (ht:autoParam (eval (.Call (.Attribute (.Name x p) "__init__" apos) (e::es) [] pos) X.env=(do
  let ov <- eval (.Name x p) X.env
  standAt apos.atName
  let (f,first) <- holding [ov] (getMethod ov "__init__" pl)
  callWith pos f first (backTo pos (starEach (e::es) X.env)) (backToKw pos (keywordEach [] X.env)))) Q9):
 PE X (.Call (.Attribute (.Name x p) "__init__" apos) (e::es) [] pos) (Zol X.K t):=by
 intro pins s σ H Q I h
 refine methodCall_KW (pl:=pl) (ZcZ I hg hm ?_ hdb) ht
 refine PySem.W.method_cls I.kIn M.sp (PySem.W.cls_value I.kIn M.rd M.fd (by decide +kernel) ?_)
 refine PyProof.Rows.callWith_builtin1 (thn (ha pos pins _ σ H _ (I.tok _) h) fun us s1 z0=>?_) hst hpl
 obtain ⟨vs,H1,I1,r1,a,v,C,dx,fr,fs,ev,M1,ea,q⟩:=z0
 subst ev
 obtain ⟨u,rfl⟩:∃ u,us=[.ref a,u]:=by
  cases r1 with
  | cons r r1=>
   cases r1 with
   | cons r' r1=>
    cases r1
    exact ⟨_,by rw [show _=Value.ref a from r]⟩
 obtain ⟨oe,ws,od,e1,e2,e3,e4,e5,e6,J,_⟩:=Zcr I1 ea
 refine Zig (h:=s1.heap) (g:=s1.gens) (d:=s1.drawn) (t:=s1.toks) (os:=s1.os) M1 I1.kIn e1 e2 e4 e5 (show 1<=sizeLine by decide) ?_
 have I2:Inv X pins σ H1 { s1 with heap:=s1.heap.push (ZaS [u]) }:=I1.kept (t':=s1.toks) fun b u e=>Heap.get?_push_of_some _ e
 have I3:=I2.excSet (fr':=fr) (f:=fun x=>x.setIfInBounds 0 (.ref s1.heap.objs.size)) ea (Heap.get?_push_of_some _ e1) e4 (by rw [set6];exact e5) (fun hf=>by rw [Array.getElem?_setIfInBounds];simpa using e6 hf)
 rw [Zgm ea] at I3
 exact ⟨.non,H1,I3,rfl,q⟩
def Zkw(hc:X.calm=true)(he:PE X e te):PX X (.Raise (some e) none pos) fun D σ H=>te σ H fun v H1=>∃ a C dx fs,v=.ref a/\XC X.K C/\H1 a=some (.exc C dx true fs)/\∀ H'',Same (upd H1 a (.exc C dx false fs)) H''->D.xc a σ H'':=by
 intro pins s σ H D I h
 rw [arm_exec_Raise]
 refine wpAny_bind (wpAny_standAt (Zjl (I.ok.hd hc) (wpAny_bind (thnx (he pins s σ H _ I h) fun u s1 ⟨v,H1,I1,r1,a,C,dx,fs,ev,M,ea,q⟩=>wpAny_bind (wpAny_standAt (wpAny_pure ?_))))))
 subst ev
 obtain rfl:u=Value.ref a:=r1
 obtain ⟨oe,ws,od,e1,e2,e3,e4,e5,e6,J,mA,r2,r3,r4,r5⟩:=Zcr I1 ea
 have I2:Inv X pins σ (upd H1 a (.exc C dx false fs)) s1:=by
  have:=I1.write (t':=s1.toks) (x:=a) (e:=a) (o:=.exc C dx false fs) (h':=s1.heap) (by rw [ea];exact True.intro) (.inl rfl) (fun _ _ _ z=>z) ⟨_,e1⟩ (by
   obtain ⟨l,⟨o,vs',q1,q2,q3,q4,q5,q6⟩,r⟩:=(show ZE X.prog X.w H1 s1.heap a (.exc C dx true fs) from I1.hok a _ ea)
   refine ⟨l,⟨o,vs',q1,q2,q3,q4,q5,fun z=>nomatch z⟩,?_⟩
   cases dx with
   | none=>exact r
   | some d=>obtain ⟨t1,t2,t3⟩:=r;exact ⟨by rw [Zn t2];exact t1,t2,t3⟩)
  exact this
 exact ⟨X.K,C,a,oe,ws,M,I1.kIn,rfl,e1,e2,e4,e6 rfl,.inr ⟨a,σ,_,rfl,I2,.inl ⟨C,dx,fs,oe,ws,Zj,e1,e4,e5,e6 rfl⟩,q⟩⟩
end
section
variable{σ:St}{A:Around}{M:Model}{E:VS}{i:Nat}{x:Str}
def ZcD{v:V}{Q:Unit->Shared->Prop}(I:Inv X pins σ H s)(hN:X.N.Nodup)(hi:X.N[i]?=some x)(hx:X.env.scope.names.lookup x=some .local)
 (h:∀ s',Inv X pins (σ.set i none) H s'->Q () s'):wpAny M A (do bindName X.env x Value.none;unbindBehindTheSuite X.env x pos) Q E s:=by
 have hcls:(X.env.scope.kind == .class || (X.env.scope.kind == .module && X.env.locals != X.env.globals))=false:=by rw [I.ok.kind];rfl
 refine wpAny_bind (wpAny_bindName (ZbB (v:=V.non) I hN hi (.inl hx) rfl (fun s1 I1=>?_) (.inr hx)))
 have hiσ:i < σ.length:=by rw [I.len];exact (List.getElem?_eq_some_iff.mp hi).1
 obtain ⟨m,hn,hl⟩:=id I1.loc
 obtain ⟨u,hu,lk⟩:=hl i x V.non hi (by rw [getElem?_set_self hiσ]) (.inl hx)
 have hm:m x=some u:=by
  rcases lk with ⟨_,e⟩|⟨k,_⟩
  . exact e
  . rcases k with k|k
    . have:some NameKind.local=some NameKind.cell:=hx.symm.trans k
      cases this
    . have:some NameKind.local=some NameKind.free:=hx.symm.trans k
      cases this
 unfold unbindBehindTheSuite
 refine wpAny_onRaise (wpAny_unbindName_local hx hn hm hcls fun h' u' hn' hs=>h _ ?_)
 have tracked:HOk X.prog X.w H h':=fun b ob e=>by
  obtain ⟨oL,_,_,hoL,_⟩:=id hn
  refine (I1.hok b ob e).stay (fun c w' hc q=>(hs.2 c ?_).trans q) (fun _ q=>q) fun _ _ q=>q
  rintro rfl
  rcases hc with rfl|hc
  . rw [I1.free] at e;cases e
  . rw [I1.free] at hc;cases hc
 refine ⟨I1.ok,I1.os,I1.bare,⟨fun b o e n hb hx=>?_,fun b o e n hb hx=>?_,I1.base.free,fun b o e hx=>?_,I1.base.tups,I1.base.frzs,I1.base.tbls⟩,⟨_,hn',fun j y v' e1 e2 e3=>?_⟩,fun y c e=>?_,I1.free,I1.freeC,fun p hp=>?_,tracked,by simpa using I.len⟩
 . exact (hs.2 b (ne_of_lt (lt_of_lt_of_le (Heap.lt_size e) I1.ok.above))).trans (I1.base.keep b o e n hb hx)
 . obtain ⟨sl,e1⟩:=I1.base.slot b o e n hb hx
   exact ⟨sl,(hs.2 b (ne_of_lt (lt_of_lt_of_le (Heap.lt_size e) I1.ok.above))).trans e1⟩
 . obtain ⟨o',e1⟩:=I1.base.there b o e hx
   exact ⟨o',(hs.2 b (ne_of_lt (lt_of_lt_of_le (Heap.lt_size e) I1.ok.above))).trans e1⟩
 . by_cases hj:j=i
   . subst hj
     rw [getElem?_set_self hiσ] at e2
     cases e2
   . rw [getElem?_set_ne (Ne.symm hj)] at e2
     obtain ⟨u',r',q⟩:=hl j y v' e1 (by rw [getElem?_set_ne (Ne.symm hj)];exact e2) e3
     refine ⟨u',r',?_⟩
     rcases q with ⟨k,e⟩|⟨k,c,e,z⟩
     . refine .inl ⟨k,?_⟩
       have:y≠x:=fun e=>hj (Zey hN e1 (e ▸ hi))
       simp [this,e]
     . exact .inr ⟨k,c,e,z.sameBut hs (I1.cne y c e)⟩
 . obtain ⟨w',z⟩:=I1.cell y c e
   exact ⟨w',z.sameBut hs (I1.cne y c e)⟩
 . obtain ⟨e,n,ne,nf,d⟩:=I1.pin p hp
   exact ⟨(hs.2 p.1 ne).trans e,n,ne,nf,d⟩
theorem Zii{K:Fg}{ns:List Str}{c:Str}{C D:Addr}{od:Option Obj}{Q:Bool->Shared->Prop}(h:XN K ns C)(h':XC K D)(g:GX K c D)(hK:K.In s.heap)(J:PySem.W.InstAt s.heap ea oe C od)(hq:Q (decide (c∈ns)) s):wpAny M A (excMatches (.ref ea) (.ref D)) Q E s:=by
 obtain ⟨nm,q,N,bs,bm,sn,sub,ab,col,dd,k0,k1,k2,k3,k5,lk,tl,tv⟩:=h'.obj
 have hD:=hK _ _ lk
 obtain ⟨cd,h1,h2⟩:=h.nms
 obtain ⟨cd',bm',q1,q2,q3,_⟩:=h.toXC.cls
 rw [h1] at q1
 cases q1
 have hm:mroIn K C (.ref D)=some (decide (c∈ns)):=by
  unfold mroIn
  rw [h1]
  show (if cd.mro.isEmpty=true then none else some (cd.mro.contains (.ref D)))=_
  rw [if_neg (by rw [q2];simp),bmOf.has g h2]
 (obtain ⟨hp,gg,d,tk,os⟩:=s)
 unfold excMatches
 refine wpAny_bind (wpAny_bind (wpAny_bind (wpAny_loadPart_at hD (wpAny_pure (wpAny_of_eq tc_notTuple ?_)))))
 refine wpAny_ite_false rfl (wpAny_bind (wpAny_pure (wpAny_bind ?_)))
 (simp only [List.forIn_cons,List.forIn_nil])
 (refine wpAny_bind (wpAny_bind ?_))
 unfold isExcClass
 refine wpAny_bind (wpAny_bind (wpAny_loadPart_at hD (wpAny_pure (wpAny_ite_true rfl (PySem.W.Looks.at (looks_mroIn hK (h'.sub Zfr)) ?_)))))
 refine wpAny_ite_false rfl (wpAny_pure (wpAny_pure (wpAny_bind (PySem.W.Looks.at J.type (wpAny_bind (wpAny_bind (wpAny_bind (PySem.W.Looks.at (looks_mroIn hK hm) ?_))))))))
 cases e:decide (c∈ns) with
 | true=>rw [e] at hq;exact wpAny_ite_true rfl (wpAny_pure (wpAny_pure (wpAny_pure hq)))
 | false=>rw [e] at hq;exact wpAny_ite_false rfl (wpAny_pure (wpAny_pure (wpAny_pure hq)))
noncomputable abbrev Cx.inH(X:Cx)(v:Value):Cx:={ X with A:=X.A.mark (some v),calm:=false,xe:=fun _ _=>False }
def Inv.inH(I:Inv X pins σ H s)(v:Value):Inv (X.inH v) pins σ H s:=⟨⟨I.ok.mod,I.ok.kind,I.ok.glob,I.ok.blt,I.ok.above,I.ok.inj,I.ok.has,I.ok.cab,(fun z=>Bool.noConfusion z),I.ok.frames,I.ok.stk,I.ok.exf,I.ok.bs,I.ok.bsz,I.ok.noex,I.ok.exfs,I.ok.funs,I.ok.frf⟩,I.os,I.bare,I.base,I.loc,I.cell,I.free,I.freeC,I.pin,I.hok,I.len⟩
def Inv.outH{v:Value}(I:Inv (X.inH v) pins σ H s)(hh:X.calm=true->X.A.handled=none):Inv X pins σ H s:=⟨⟨I.ok.mod,I.ok.kind,I.ok.glob,I.ok.blt,I.ok.above,I.ok.inj,I.ok.has,I.ok.cab,hh,I.ok.frames,I.ok.stk,I.ok.exf,I.ok.bs,I.ok.bsz,I.ok.noex,I.ok.exfs,I.ok.funs,I.ok.frf⟩,I.os,I.bare,I.base,I.loc,I.cell,I.free,I.freeC,I.pin,I.hok,I.len⟩
structure HS where
 c:Str
 nm:Option Nat
 ts:TS
noncomputable def HS.ends(h:HS)(D:Ends):Ends:=match h.nm with
 | none=>D
 | some i=>{ nx:=fun σ H=>D.nx (σ.set i none) H,rt:=D.rt,bk:=fun σ H=>D.bk (σ.set i none) H,ct:=fun σ H=>D.ct (σ.set i none) H }
noncomputable def HS.put(h:HS)(ea:Addr)(σ:St):St:=match h.nm with
 | none=>σ
 | some i=>σ.set i (some (.ref ea))
inductive PH(X:Cx):ExceptHandler->HS->Prop
 | plain {c:Str} {D:Addr} {b₀:Stmt} {body:List Stmt} {pos np:Pos} {ts:TS} (hg:Gl X c) (hm:X.mg c=some (.ref D)) (xc:XC X.K D) (gx:GX X.K c D) (hdb:(c == ("__debug__":Str))=false) (hs:∀ v,PSs (X.inH v) (b₀::body) ts):
  PH X (.ExceptHandler (some (.Name c np)) none (b₀::body) pos) ⟨c,none,ts⟩
 | as_ {c n:Str} {D:Addr} {i:Nat} {b₀:Stmt} {body:List Stmt} {pos np:Pos} {ts:TS} (hg:Gl X c) (hm:X.mg c=some (.ref D)) (xc:XC X.K D) (gx:GX X.K c D) (hdb:(c == ("__debug__":Str))=false) (hN:X.N.Nodup) (hi:X.N[i]?=some n) (hl:X.env.scope.names.lookup n=some .local) (hs:∀ v,PSs (X.inH v) (b₀::body) ts):
  PH X (.ExceptHandler (some (.Name c np)) (some n) (b₀::body) pos) ⟨c,some i,ts⟩
inductive PHs(X:Cx):List ExceptHandler->List HS->Prop
 | nil:PHs X [] []
 | cons {h:ExceptHandler} {hs:List ExceptHandler} {g:HS} {gs:List HS}:PH X h g->PHs X hs gs->PHs X (h::hs) (g::gs)
def ZcE(ns:List Str)(D:Ends)(ea:Addr)(σ:St)(H:Hp):List HS->Prop
 | []=>False
 | h::hs=>if h.c∈ns then h.ts (h.ends D) (h.put ea σ) H else ZcE ns D ea σ H hs
theorem SP.inH{v:Value}{D:Ends}{f:Flow}{s':Shared}(hh:X.calm=true->X.A.handled=none)(h:SP (X.inH v) pins D f s'):SP X pins D f s':=by
 cases f with
 | next=>obtain ⟨σ',H',I,q⟩:=h;exact ⟨σ',H',I.outH hh,q⟩
 | brk=>obtain ⟨σ',H',I,q⟩:=h;exact ⟨σ',H',I.outH hh,q⟩
 | cont=>obtain ⟨σ',H',I,q⟩:=h;exact ⟨σ',H',I.outH hh,q⟩
 | ret u=>obtain ⟨v,σ',H',I,r,q⟩:=h;exact ⟨v,σ',H',I.outH hh,r,q⟩
def ZfK{ns:List Str}{C:Addr}{dx:Option Addr}{fs:List (Str×V)}{c:Str}{R:Result->Shared->Prop}(XNh:XN X.K ns C)(I:Inv X pins σ H s)(e:H ea=some (.exc C dx false fs))(hg:Gl X c)(hm:X.mg c=some (.ref D'))(xc:XC X.K D')(gx:GX X.K c D')(hdb:(c == ("__debug__":Str))=false)
 (hR:R (.ok (if decide (c∈ns)=true then Flow.brk else Flow.next)) s):codeAny (model X.prog X.w) (X.A.mark (some (.ref ea))) (.handlers (.ref ea) [.ExceptHandler (some (.Name c np)) none [] pos] X.env) R s:=by
 obtain ⟨oe,vs,od,e1,e2,e3,e4,e5,e6,J,_⟩:=Zcr I e
 exact codeAny_handlers_test (Calls.Name_function_global I.ok.kind hg (Calls.loadGlobal_global (by rw [I.ok.glob];exact I.mod.glob.keeps I.bk) hm (Zii XNh xc gx I.kIn J hR)) hdb)
def Zd4{a:Addr}:Value.ref a≠byPass:=fun z=>by cases z
def Zij{ns:List Str}{C:Addr}{dx:Option Addr}{fs:List (Str×V)}{D:Ends}{c:Str}{ts:TS}{rest:List ExceptHandler}(XNh:XN X.K ns C)(I:Inv X pins σ H s)(e:H ea=some (.exc C dx false fs))(f:FlyT (fun fl=>fl=Value.none) H s.heap ea)
 (hg:Gl X c) (hm:X.mg c=some (.ref D')) (xc:XC X.K D') (gx:GX X.K c D') (hdb:(c == ("__debug__":Str))=false) (hs:∀ v,PSs (X.inH v) (b₀::body) ts) (h1:c∈ns->ts D σ H) (h2:c∉ns->wpAny (model X.prog X.w) X.A (handleBy (.ref ea) X.env rest) (SP X pins D) E s):
 wpAny (model X.prog X.w) X.A (handleBy (.ref ea) X.env (.ExceptHandler (some (.Name c np)) none (b₀::body) pos::rest)) (SP X pins D) E s:=by
 refine wpAny_handleBy_cons (ZfK XNh I e hg hm xc gx hdb ?_) Zd4
 by_cases z:c∈ns
 . rw [decide_eq_true z,if_pos rfl]
   refine codeAny_handlers_suite (thn (ZbV (o:=none) I f) fun _ s1 z0=>?_)
   obtain ⟨I1,f1⟩:=z0
   exact wpAny_mono (hs (.ref ea) pins s1 σ H D (I1.inH _) (h1 z)) (fun fl s2 q=>q.inH I.ok.hd) fun _ _ z=>z.elim
 . rw [decide_eq_false z,if_neg Bool.false_ne_true]
   exact h2 z
def Zm3{ns:List Str}{C:Addr}{dx:Option Addr}{fs:List (Str×V)}{D:Ends}{c n:Str}{ts:TS}{rest:List ExceptHandler}(XNh:XN X.K ns C)(I:Inv X pins σ H s)(e:H ea=some (.exc C dx false fs))(f:FlyT (fun fl=>fl=Value.none) H s.heap ea)
 (hg:Gl X c) (hm:X.mg c=some (.ref D')) (xc:XC X.K D') (gx:GX X.K c D') (hdb:(c == ("__debug__":Str))=false) (hN:X.N.Nodup) (hi:X.N[i]?=some n) (hl:X.env.scope.names.lookup n=some .local) (hs:∀ v,PSs (X.inH v) (b₀::body) ts)
 (h1:c∈ns->ts { nx:=fun σ H=>D.nx (σ.set i none) H,rt:=D.rt,bk:=fun σ H=>D.bk (σ.set i none) H,ct:=fun σ H=>D.ct (σ.set i none) H } (σ.set i (some (.ref ea))) H) (h2:c∉ns->wpAny (model X.prog X.w) X.A (handleBy (.ref ea) X.env rest) (SP X pins D) E s):
 wpAny (model X.prog X.w) X.A (handleBy (.ref ea) X.env (.ExceptHandler (some (.Name c np)) (some n) (b₀::body) pos::rest)) (SP X pins D) E s:=by
 refine wpAny_handleBy_cons (ZfK XNh I e hg hm xc gx hdb ?_) Zd4
 by_cases z:c∈ns
 . rw [decide_eq_true z,if_pos rfl]
   refine codeAny_handlers_suite_as (thn (ZbV (o:=none) I f) fun _ s1 z0=>?_)
   obtain ⟨I1,f1⟩:=z0
   refine ZbB (v:=.ref ea) I1 hN hi (.inl hl) rfl (fun s2 I2=>?_) (.inr hl)
   refine wpAny_mono (hs (.ref ea) pins s2 _ H _ (I2.inH _) (h1 z)) (fun fl s3 q=>?_) fun _ _ z=>z.elim
   cases fl with
   | next=>obtain ⟨σ',H',I3,q⟩:=q;exact ZcD (v:=.non) (I3.outH I.ok.hd) hN hi hl fun s4 I4=>⟨_,_,I4,q⟩
   | brk=>obtain ⟨σ',H',I3,q⟩:=q;exact ZcD (v:=.non) (I3.outH I.ok.hd) hN hi hl fun s4 I4=>⟨_,_,I4,q⟩
   | cont=>obtain ⟨σ',H',I3,q⟩:=q;exact ZcD (v:=.non) (I3.outH I.ok.hd) hN hi hl fun s4 I4=>⟨_,_,I4,q⟩
   | ret u=>obtain ⟨v,σ',H',I3,r,q⟩:=q;exact ZcD (v:=.non) (I3.outH I.ok.hd) hN hi hl fun s4 I4=>⟨v,_,_,I4,r,q⟩
 . rw [decide_eq_false z,if_neg Bool.false_ne_true]
   exact h2 z
theorem Zm4{ns:List Str}{C:Addr}{dx:Option Addr}{fs:List (Str×V)}{D:Ends}(XNh:XN X.K ns C)(hh:PHs X hs gs)(I:Inv X pins σ H s)(e:H ea=some (.exc C dx false fs))(f:FlyT (fun fl=>fl=Value.none) H s.heap ea)(h:ZcE ns D ea σ H gs):
 wpAny (model X.prog X.w) X.A (handleBy (.ref ea) X.env hs) (SP X pins D) E s:=by
 induction hh with
 | nil=>exact h.elim
 | cons p ps ih=>
  cases p with
  | plain hg hm xc gx hdb hs'=>
   refine Zij XNh I e f hg hm xc gx hdb hs' (fun z=>?_) fun z=>ih ?_
   . unfold ZcE at h;rw [if_pos z] at h;exact h
   . unfold ZcE at h;rw [if_neg z] at h;exact h
  | as_ hg hm xc gx hdb hN hi hl hs'=>
   refine Zm3 XNh I e f hg hm xc gx hdb hN hi hl hs' (fun z=>?_) fun z=>ih ?_
   . unfold ZcE at h;rw [if_pos z] at h;exact h
   . unfold ZcE at h;rw [if_neg z] at h;exact h
def tTry(K:Fg)(tb:TX)(gs:List HS):TX:=fun D σ H=>tb { D with xc:=fun ea σ' H'=>∃ C dx fs ns,XN K ns C/\H' ea=some (.exc C dx false fs)/\ZcE ns D.toEnds ea σ' H' gs } σ H
def Zom{h₀:ExceptHandler}{tb:TX}(F:Fr0 X X.A)(hx:∀ e s,¬ X.xe e s)(hb:PXs X body tb)(hh:PHs X (h₀::hs) gs):PX X (.Try body (h₀::hs) [] [] pos) (tTry X.K tb gs):=by
 intro pins s σ H D I h
 refine wpAny_Try_except (wpAny_mono (hb pins s σ H _ I h) (fun fl s1 q=>?_) fun e s1 q=>?_)
 . cases fl with
   | next=>exact wpAny_execs_nil q
   | ret v=>exact q
   | brk=>exact q
   | cont=>exact q
 . rcases q with q|⟨ea,σ',H',rfl,I1,f1,q⟩
   . exact absurd q (hx _ _)
   . refine thn (Zfq F I1 f1) fun _ s2 ⟨H2,I2,k2,f2⟩=>thn (ZbV (o:=none) I2 f2) fun _ s3 ⟨I3,f3⟩=>?_
     obtain ⟨C,dx,fs,ns,xn,e,th⟩:=q H2 k2
     exact Zm4 xn hh I3 e f3 th
end
section
noncomputable def Zon(C:Addr)(m:Str)(sp:Sp)(dvs:List V)(ta:TE)(t:TA):TEX:=fun σ H Q Ex=>ta σ H fun x H1=>∃ a dx fs,x=.ref a/\H1 a=some (.ins C dx fs)/\fs.lookup m=none/\
 t σ H1 fun vs H2=>sp (x::(vs++dvs)) H2 Q (fun v _ H'=>∃ ea,v=.ref ea/\Ex ea H')
def Zkx(he:PE X o ta)(c:Cls X.K C)(hm:Meth X.K C m f)(F:FnOk X.prog X.w X.K X.mg X.base (CXx X.prog X.w) k f fd ps sp)(hr:Room k X.A)(hb:Binds X.K fd ps ds)(hd:Vals dvs ds)(ha:PA X (e::es) t)
 (hst:autoParam (SE X e es) Q9) (hpl:autoParam (SFx X pos es) Q9)
 (ht:autoParam (eval (.Call (.Attribute o m apos) (e::es) [] pos) X.env=(do
  let ov <- eval o X.env
  standAt apos.atName
  let (f,first) <- holding [ov] (getMethod ov m pl)
  callWith pos f first (backTo pos (starEach (e::es) X.env)) (backToKw pos (keywordEach [] X.env)))) Q9):
 PEx X (.Call (.Attribute o m apos) (e::es) [] pos) (Zon C m sp dvs ta t):=by
 intro pins s σ H Q Ex I h
 refine methodCall_KW (pl:=pl) (thne (he pins s σ H _ I h) fun u s1 z0=>?_) ht
 obtain ⟨x,H1,I1,rx,a,dx,fs,ex,ea,l,q⟩:=z0
 subst ex
 obtain rfl:u=Value.ref a:=rx
 refine ZeH I1 ea c hm l ?_
 refine callWith_K (first:=[.ref a]) (h₀:=X.base) I.ok.mod.kin hm.kp (thne (ha pos pins s1 σ H1 _ I1 q) fun us s2 ⟨vs,H2,I2,r,q2⟩=>⟨I2.kIn,?_⟩) hst hpl
 exact Zm0 (us:=.ref a::us) (vs:=.ref a::vs) F hr hb hd I2 (.cons rfl r) q2
end
noncomputable def Zoo(sc:Scope)(x:Str):Bool:=sc.names.lookup x == some .cell
theorem ZbW:∀(names:List (Str×NameKind))(n:Nat)(acc:List (Str×Addr)),cellsFrom n names acc=cellsFrom n names []++acc
 | [],_,_=>rfl
 | (x,k)::r,n,acc=>by
  unfold cellsFrom
  split
  . rw [ZbW r (n+1) ((x,n)::acc),ZbW r (n+1) [(x,n)],List.append_assoc];rfl
  . exact ZbW r n acc
theorem ZdD:∀(names:List (Str×NameKind))(n:Nat)(x:Str)(c:Addr),(x,c)∈cellsFrom n names []->(x,.cell)∈names
 | [],_,_,_,h=>by simp [cellsFrom] at h
 | (y,k)::r,n,x,c,h=>by
  unfold cellsFrom at h
  split at h
  . rename_i hk
    rw [ZbW] at h
    (rcases List.mem_append.mp h with h|h)
    . exact mem_cons_of_mem _ (ZdD r _ x c h)
    . have e:=List.mem_singleton.mp h
      cases e
      rw [eq_of_beq hk]
      exact mem_cons_self
  . exact mem_cons_of_mem _ (ZdD r _ x c h)
theorem ZeK:∀{names:List (Str×NameKind)}{x:Str}{k k':NameKind},(names.map (·.1)).Nodup->names.lookup x=some k->(x,k')∈names->k=k'
 | [],_,_,_,_,hn,_=>by simp at hn
 | (y,kd)::r,x,k,k',nd,h,hm=>by
  (obtain ⟨n1,n2⟩:=List.nodup_cons.mp nd)
  rw [lookup_cons] at h
  cases hb:x == y with
  | true=>
   rw [hb] at h
   have e:kd=k:=Option.some.inj h
   have hx:=eq_of_beq hb
   subst hx
   rcases List.mem_cons.mp hm with q|q
   . cases q;exact e.symm
   . exact absurd (List.mem_map.mpr ⟨_,q,rfl⟩) n1
  | false=>
   rw [hb] at h
   rcases List.mem_cons.mp hm with q|q
   . cases q;simp at hb
   . exact ZeK n2 h q
theorem Zby(x:Str):∀(l r:List (Str×α)),(l++r).lookup x=match l.lookup x with|some c=>some c|none=>r.lookup x
 | [],r=>rfl
 | (y,c)::l,r=>by
  rw [cons_append,lookup_cons,lookup_cons]
  cases x == y with
  | true=>rfl
  | false=>exact Zby x l r
noncomputable def cxC(X:Cx)(N':List Str)(scope:Scope)(cl:List (Str×Addr))(C:Addr)(s₀:Shared)(H₀:Hp)(ex:List Addr):Cx where
 prog:=X.prog
 w:=X.w
 K:=X.K
 mg:=X.mg
 base:=X.base
 A:=X.A
 N:=N'
 s₀:=s₀
 H₀:=H₀
 env:=compEnvC scope cl C X.env
 outer:=X.stack
 stack:=X.stack
 ex:=ex
 fn:=fun x=>Zoo scope x
 calm:=X.calm
 pn:=[]
 xe:=fun _ _=>False
def ZeL(h:∀ y∈scope.names,y.2=.free->∃ c,env.cells.lookup y.1=some c):
 ∃ cl,closureFor scope env=pure cl/\(∀ y c,cl.lookup y=some c->env.cells.lookup y=some c)/\∀ y∈scope.names,y.2=.free->∃ c,cl.lookup y.1=some c:=by
 have go:∀(names:List (Str×NameKind))(acc:List (Str×Addr)),(∀ y∈names,y.2=.free->∃ c,env.cells.lookup y.1=some c)->(∀ y c,acc.lookup y=some c->env.cells.lookup y=some c)->
  ∃ cl,(forIn names acc fun x r=>if (x.2 == NameKind.free)=true then do let c <- cellOf env x.1;pure (ForInStep.yield ((x.1,c)::r)) else pure (ForInStep.yield r):Sem _)=pure cl/\
   (∀ y c,cl.lookup y=some c->env.cells.lookup y=some c)/\(∀ y c,acc.lookup y=some c->∃ c,cl.lookup y=some c)/\∀ y∈names,y.2=.free->∃ c,cl.lookup y.1=some c:=by
  intro names
  induction names with
  | nil=>intro acc _ h2;exact ⟨acc,rfl,h2,fun y c e=>⟨c,e⟩,fun y hy=>nomatch hy⟩
  | cons z r ih=>
   intro acc h1 h2
   obtain ⟨n,k⟩:=z
   rw [List.forIn_cons]
   by_cases hk:k=.free
   . subst hk
     obtain ⟨c,hc⟩:=h1 (n,.free) mem_cons_self rfl
     obtain ⟨cl,e,a1,a2,a3⟩:=ih ((n,c)::acc) (fun y hy=>h1 y (mem_cons_of_mem _ hy)) (fun y d hd=>by
      rw [lookup_cons] at hd
      cases hb:y == n with
      | true=>rw [hb] at hd;simp only at hd;cases hd;rw [eq_of_beq hb];exact hc
      | false=>rw [hb] at hd;exact h2 y d hd)
     refine ⟨cl,?_,a1,fun y d hd=>?_,fun y hy hf=>?_⟩
     . rw [<- e]
       have e1:cellOf env n=pure c:=by
        unfold cellOf
        rw [hc]
       simp only [beq_self_eq_true,if_true,e1,pure_bind]
     . by_cases hyn:y=n
       . exact a2 y c (by rw [hyn,lookup_cons,beq_self_eq_true])
       . exact a2 y d (by rw [lookup_cons,show (y == n)=false by simpa using hyn];exact hd)
     . (rcases List.mem_cons.mp hy with rfl|hy)
       . exact a2 n c (by rw [lookup_cons,beq_self_eq_true])
       . exact a3 y hy hf
   . have hb:(k == NameKind.free)=false:=by simpa using hk
     obtain ⟨cl,e,a1,a2,a3⟩:=ih acc (fun y hy=>h1 y (mem_cons_of_mem _ hy)) h2
     refine ⟨cl,?_,a1,a2,fun y hy hf=>?_⟩
     . rw [<- e]
       simp only [hb,Bool.false_eq_true,if_false,pure_bind]
     . (rcases List.mem_cons.mp hy with rfl|hy)
       . exact absurd hf hk
       . exact a3 y hy hf
 obtain ⟨cl,e,a1,_,a3⟩:=go scope.names [] h (fun y c e=>nomatch e)
 refine ⟨cl,?_,a1,a3⟩
 unfold closureFor
 simp only [] at e ⊢
 rw [e]
 rfl
theorem ZdE{env:Env}:∀{names:List (Str×NameKind)}{x:Str},names.lookup x=some .free->
 (names.map fun(n,k)=>if (k == NameKind.free && env.scope.kind == .function && env.kindOf n == some .cell) then (n,NameKind.cell) else (n,k)).lookup x=some .cell\/
 (names.map fun(n,k)=>if (k == NameKind.free && env.scope.kind == .function && env.kindOf n == some .cell) then (n,NameKind.cell) else (n,k)).lookup x=some .free
 | [],_,h=>by simp at h
 | (n,k)::r,x,h=>by
  have ih:=@ZdE env r x
  show List.lookup x ((if (k == NameKind.free && env.scope.kind == .function && env.kindOf n == some .cell)=true then (n,NameKind.cell) else (n,k))::_)=_\/List.lookup x ((if (k == NameKind.free && env.scope.kind == .function && env.kindOf n == some .cell)=true then (n,NameKind.cell) else (n,k))::_)=_
  cases hx:x == n with
  | true=>
   (simp only [lookup_cons,hx] at h)
   cases h
   by_cases hc:(NameKind.free == NameKind.free && env.scope.kind == .function && env.kindOf n == some .cell)=true
   . rw [if_pos hc];left;simp only [lookup_cons,hx]
   . rw [if_neg hc];right;simp only [lookup_cons,hx]
  | false=>
   (simp only [lookup_cons,hx] at h)
   (by_cases hc:(k == NameKind.free && env.scope.kind == .function && env.kindOf n == some .cell)=true)
   . (rw [if_pos hc];simp only [lookup_cons,hx];exact ih h)
   . (rw [if_neg hc];simp only [lookup_cons,hx];exact ih h)
noncomputable def Zgo(osc:Scope)(oN:List Str)(k:Nat)(js:List Nat)(N':List Str)(scope:Scope):Bool:=
 scope.kind == .function && decide (scope.names.map (·.1)).Nodup && scope.names.all (fun y=>y.2 != .local || scope.names.lookup y.1 == some .local) &&
 scope.names.all (fun y=>y.2 != .free || osc.names.lookup y.1 == some .cell || osc.names.lookup y.1 == some .free) &&
 N'.length == k+js.length && decide N'.Nodup &&
 (List.range js.length).all fun i=>match js[i]? with
  | none=>false
  | some j=>match oN[j]? with
   | none=>false
   | some y=>N'[k+i]? == some y && scope.names.lookup y == some .free
structure CompScope(X:Cx)(k:Nat)(js:List Nat)(N':List Str)(scope:Scope):Prop where
 kind:scope.kind=.function
 ndn:(scope.names.map (·.1)).Nodup
 names:∀ y∈scope.names,y.2=.local->scope.names.lookup y.1=some .local
 free:∀ y∈scope.names,y.2=.free->X.env.kindOf y.1=some .cell\/X.env.kindOf y.1=some .free
 len:N'.length=k+js.length
 nd:N'.Nodup
 idx:∀ i j:Nat,js[i]?=some j->∃ y,X.N[j]?=some y/\N'[k+i]?=some y/\scope.names.lookup y=some .free
def CompScope.of(h:Zgo osc oN k js N' scope=true)(e:X.env.scope=osc)(eN:X.N=oN):CompScope X k js N' scope:=by
 subst e eN
 unfold Zgo at h
 (simp only [and_eq_true] at h)
 obtain ⟨⟨⟨⟨⟨⟨h1,h2⟩,h3⟩,h4⟩,h5⟩,h6⟩,h7⟩:=h
 refine ⟨eq_of_beq h1,of_decide_eq_true h2,fun y hy hl=>?_,fun y hy hf=>?_,eq_of_beq h5,of_decide_eq_true h6,fun i j hj=>?_⟩
 . have q:=List.all_eq_true.mp h3 y hy
   rw [hl] at q
   simpa using q
 . have q:=List.all_eq_true.mp h4 y hy
   rw [hf] at q
   simp at q
   exact q
 . have hi:i < js.length:=(List.getElem?_eq_some_iff.mp hj).1
   have q:=List.all_eq_true.mp h7 i (List.mem_range.mpr hi)
   rw [hj] at q
   simp only at q
   cases hN:X.N[j]? with
   | none=>rw [hN] at q;cases q
   | some y=>
    rw [hN] at q
    simp only [and_eq_true] at q
    exact ⟨y,rfl,eq_of_beq q.1,eq_of_beq q.2⟩
noncomputable def Zbz(js:List Nat)(σ:St):St:=js.map fun j=>(σ[j]?).join
noncomputable def Zbe(k:Nat)(js:List Nat)(σ:St):St:=replicate k none++Zbz js σ
section
def Zky
 (I:Inv X pins σ H s) (S:CompScope X k js N' scope) (hf:∀ b∈fp,FpOk X pins H b) (hfo:∀ b∈fp,b < s.heap.objs.size)
 (c1:∀ y c,cl.lookup y=some c->X.env.cells.lookup y=some c) (c2:∀ y∈scope.names,y.2=.free->∃ c,cl.lookup y.1=some c)
 (ns:∃ m,h1.Ns (s.heap.objs.size+1) m) (kp:∀ b o,s.heap.get? b=some o->h1.get? b=some o) (hD:h1.get? s.heap.objs.size=some { cls:=.type "list",data:=.seq #[] }) (ck:CellsOk h1 (s.heap.objs.size+2) (cellsFrom (s.heap.objs.size+2) scope.names [])):
 Inv (cxC X N' scope (cellsFrom (s.heap.objs.size+2) scope.names cl) (s.heap.objs.size+1) s H fp) [] (Zbe k js σ) (upd H s.heap.objs.size (.lst [])) { s with heap:=h1,toks:=tk }:=by
 have hfr:H s.heap.objs.size=none:=I.hok.fresh (le_refl _)
 have hfr1:H (s.heap.objs.size+1)=none:=I.hok.fresh (le_succ _)
 have cells:∀ y c,cl.lookup y=some c->c < s.heap.objs.size:=fun y c e=>by
  obtain ⟨v,q⟩:=I.cell y c (c1 y c e)
  exact q.lt
 have exb:∀ b∈fp,∀ o,X.base.get? b=some o->False:=fun b hb o e=>by
  rcases (hf b hb).2.2.2.1 with z|z
  . exact I.ok.noex b o e z
  . exact absurd (lt_of_lt_of_le (Heap.lt_size (I.ok.bs b o e).1) z) (lt_irrefl _)
 have exs:∀ b∈fp,b∉frs X.stack:=fun b hb z=>by
  rcases List.mem_cons.mp (I.stkSub b z) with q|q
  . exact (hf b hb).2.1 q
  . exact (hf b hb).2.2.1 q
 obtain ⟨m1,hn1⟩:=ns
 rw [ZbW]
 generalize hL:cellsFrom (s.heap.objs.size+2) scope.names []=L at ck
 have memL:∀ x c,(x,c)∈L->scope.names.lookup x≠some .free:=fun x c h q=>by
  have:=ZeK S.ndn q (ZdD _ _ _ _ (by rw [hL];exact h))
  cases this
 have cel:∀ x c,(L++cl).lookup x=some c->((x,c)∈L/\s.heap.objs.size+2<=c/\h1.IsCell c none)\/(cl.lookup x=some c/\L.lookup x=none):=fun x c e=>by
  rw [Zby] at e
  cases q:L.lookup x with
  | some c'=>
   rw [q] at e
   have e':c'=c:=Option.some.inj e
   subst e'
   have hm:=PySem.mem_of_lookup q
   exact .inl ⟨hm,(ck.empty _ _ hm).2,(ck.empty _ _ hm).1⟩
  | none=>rw [q] at e;exact .inr ⟨e,rfl⟩
 have freeL:∀ x,scope.names.lookup x=some .free->(L++cl).lookup x=cl.lookup x:=fun x hx=>by
  rw [Zby]
  cases q:L.lookup x with
  | some c=>exact absurd hx (memL x c (PySem.mem_of_lookup q))
  | none=>rfl
 have upk:∀ y,scope.names.lookup y=some .free->((cxC X N' scope (L++cl) (s.heap.objs.size+1) s H fp).env.kindOf y=some .cell\/(cxC X N' scope (L++cl) (s.heap.objs.size+1) s H fp).env.kindOf y=some .free):=fun y hy=>ZdE hy
 have memf:∀ y,scope.names.lookup y=some .free->∃ c,cl.lookup y=some c:=fun y hy=>c2 (y,.free) (PySem.mem_of_lookup hy) rfl
 have back:∀ y,((cxC X N' scope (L++cl) (s.heap.objs.size+1) s H fp).env.kindOf y=some .cell\/(cxC X N' scope (L++cl) (s.heap.objs.size+1) s H fp).env.kindOf y=some .free)->scope.names.lookup y=some .free\/scope.names.lookup y=some .cell:=by
  intro y hy
  have key:∀ names:List (Str×NameKind),
   ((names.map fun(n,k)=>if (k == NameKind.free && X.env.scope.kind == .function && X.env.kindOf n == some .cell) then (n,NameKind.cell) else (n,k)).lookup y=some .cell\/
   (names.map fun(n,k)=>if (k == NameKind.free && X.env.scope.kind == .function && X.env.kindOf n == some .cell) then (n,NameKind.cell) else (n,k)).lookup y=some .free)->names.lookup y=some .free\/names.lookup y=some .cell:=by
   intro names
   induction names with
   | nil=>intro h;simp at h
   | cons z r ih=>
    intro h
    obtain ⟨n,kd⟩:=z
    have h':List.lookup y ((if (kd == NameKind.free && X.env.scope.kind == .function && X.env.kindOf n == some .cell)=true then (n,NameKind.cell) else (n,kd))::r.map _)=_\/
     List.lookup y ((if (kd == NameKind.free && X.env.scope.kind == .function && X.env.kindOf n == some .cell)=true then (n,NameKind.cell) else (n,kd))::r.map _)=_:=h
    rw [lookup_cons]
    cases hx:y == n with
    | true=>
     by_cases hc:(kd == NameKind.free && X.env.scope.kind == .function && X.env.kindOf n == some .cell)=true
     . have:(kd == NameKind.free)=true:=by
        (simp only [and_eq_true] at hc)
        exact hc.1.1
       rw [eq_of_beq this]
       exact .inl rfl
     . rw [if_neg hc] at h'
       simp only [lookup_cons,hx] at h'
       rcases h' with q|q
       . exact .inr q
       . exact .inl q
    | false=>
     simp only
     by_cases hc:(kd == NameKind.free && X.env.scope.kind == .function && X.env.kindOf n == some .cell)=true
     . rw [if_pos hc] at h'
       simp only [lookup_cons,hx] at h'
       exact ih h'
     . rw [if_neg hc] at h'
       simp only [lookup_cons,hx] at h'
       exact ih h'
  exact key scope.names hy
 have hasL:∀ y,∀ c,cl.lookup y=some c->∃ c,(L++cl).lookup y=some c:=fun y c e=>by
  rw [Zby]
  cases q:L.lookup y with
  | some c'=>exact ⟨c',rfl⟩
  | none=>exact ⟨c,e⟩
 refine ⟨⟨I.mod,S.kind,I.ok.glob,I.ok.blt,le_succ _,fun x y c e1 e2=>?_,fun y hy=>?_,fun x c hx e=>?_,I.ok.hd,I.ok.frames,.inl rfl,
  fun b hb=>⟨ne_of_lt (Nat.lt_succ_of_lt (hfo b hb)),fun x c e=>?_⟩,I.bs,le_trans I.ok.bsz I.sz,fun b o e hb=>exb b hb o e,exs,I.stack,I.stkFree⟩,
  rfl,I.bare,Un.laid kp (le_refl _) hfr,⟨m1,hn1,fun i x v e1 e2 e3=>?_⟩,fun x c e=>?_,?_,fun x c e=>?_,fun p hp=>(nomatch hp),I.hok.laid kp (le_refl _) ⟨by simp,[],0,.nil,hD⟩,?_⟩
 . rcases cel x c e1 with ⟨h1',h2',_⟩|⟨h1',_⟩<;>rcases cel y c e2 with ⟨g1',g2',_⟩|⟨g1',_⟩
   . exact name_of_addr ck.apart h1' g1'
   . exact absurd (lt_of_lt_of_le (cells y c g1') (le_trans (le_add_right _ _) h2')) (lt_irrefl _)
   . exact absurd (lt_of_lt_of_le (cells x c h1') (le_trans (le_add_right _ _) g2')) (lt_irrefl _)
   . exact I.ok.inj x y c (c1 x c h1') (c1 y c g1')
 . rcases back y hy with q|q
   . obtain ⟨c,hc⟩:=memf y q
     exact hasL y c hc
   . obtain ⟨c,hc⟩:=Zds (sc:=scope) (n:=s.heap.objs.size+2) q
     rw [hL] at hc
     refine ⟨c,?_⟩
     show (L++cl).lookup y=some c
     rw [Zby,hc]
 . have q:scope.names.lookup x=some .cell:=eq_of_beq hx
   obtain ⟨c',hc⟩:=Zds (sc:=scope) (n:=s.heap.objs.size+2) q
   rw [hL] at hc
   rcases cel x c e with ⟨_,h2,_⟩|⟨_,h2⟩
   . exact le_trans (le_add_right _ _) h2
   . rw [hc] at h2;cases h2
 . rcases cel x c e with ⟨_,h2,_⟩|⟨h2,_⟩
   . exact fun z=>absurd (lt_of_lt_of_le (hfo b hb) (le_trans (le_add_right _ _) h2)) (by rw [z];exact lt_irrefl _)
   . exact (hf b hb).2.2.2.2.1 x c (c1 x c h2)
 . -- a name's value within the block
   have hi:¬ i < k:=fun hi=>by
    unfold Zbe at e2
    rw [List.getElem?_append_left (by simpa using hi),List.getElem?_replicate,if_pos hi] at e2
    cases e2
   have hik:k<=i:=Nat.le_of_not_lt hi
   have e2':(Zbz js σ)[i - k]?=some (some v):=by
    unfold Zbe at e2
    rw [List.getElem?_append_right (by simpa using hik),length_replicate] at e2
    exact e2
   unfold Zbz at e2'
   rw [getElem?_map] at e2'
   cases hj:js[i - k]? with
   | none=>rw [hj] at e2';cases e2'
   | some j=>
    rw [hj] at e2'
    have e4:(σ[j]?).join=some v:=Option.some.inj e2'
    obtain ⟨y,n1,n2,n3⟩:=S.idx (i - k) j hj
    rw [Nat.add_sub_cancel' hik] at n2
    have e1':N'[i]?=some x:=e1
    rw [e1'] at n2
    obtain rfl:x=y:=Option.some.inj n2
    have e5:σ[j]?=some (some v):=by
     cases q:σ[j]? with
     | none=>rw [q] at e4;cases e4
     | some o=>rw [q] at e4;exact congrArg some e4
    obtain ⟨m,hn,hl⟩:=I.loc
    have hk:=S.free (x,.free) (PySem.mem_of_lookup n3) rfl
    have hv:Vis X.env.scope x:=.inr hk
    obtain ⟨u,r,l⟩:=hl j x v n1 e5 hv
    refine ⟨u,r,.inr ⟨upk x n3,?_⟩⟩
    rcases l with ⟨q,_⟩|⟨_,c,hc,hcell⟩
    . rcases hk with z|z<;>(rw [show X.env.kindOf x=some NameKind.local from q] at z;cases z)
    . obtain ⟨c',hc'⟩:=memf x n3
      have:c'=c:=Option.some.inj ((c1 x c' hc').symm.trans hc)
      subst this
      obtain ⟨o,ho,hd⟩:=hcell
      exact ⟨c',(freeL x n3).trans hc',o,kp _ _ ho,hd⟩
 . rcases cel x c e with ⟨_,_,h3⟩|⟨h2,_⟩
   . exact ⟨_,h3⟩
   . obtain ⟨v,o,ho,hd⟩:=I.cell x c (c1 x c h2)
     exact ⟨v,o,kp _ _ ho,hd⟩
 . show upd H s.heap.objs.size (.lst []) (s.heap.objs.size+1)=none
   rw [Zn (Nat.succ_ne_self _)]
   exact hfr1
 . show upd H s.heap.objs.size (.lst []) c=none
   rcases cel x c e with ⟨_,h2,_⟩|⟨h2,_⟩
   . rw [Zn (fun z:c=s.heap.objs.size=>Nat.not_succ_le_self s.heap.objs.size (le_trans (le_succ _) (by rw [z] at h2;exact h2)))]
     exact I.hok.fresh (le_trans (le_add_right _ _) h2)
   . rw [Zn (ne_of_lt (cells x c h2))]
     exact I.freeC x c (c1 x c h2)
 . show (Zbe k js σ).length=N'.length
   unfold Zbe Zbz
   rw [List.length_append,length_replicate,length_map,S.len]
def PIf(X:Cx)(ifs:List Expr)(t:TT):Prop:=
 ∀(pins:Pn)(s:Shared)(σ:St)(H:Hp)(Q:Bool->Hp->Prop),Inv X pins σ H s->t σ H Q->
  wpAny (model X.prog X.w) X.A (forIn ifs true fun c r=>if r=true then do let ok <- isTrue c X.env (eval c X.env);pure (ForInStep.yield ok) else pure (ForInStep.yield r)) (TP X pins σ Q) X.xe s
def tIf0:TT:=fun _ H Q=>Q true H
def Zm5:PIf X [] tIf0:=fun _ _ _ H _ I h=>wpAny_tests_nil ⟨H,I,h⟩
def Zm6(h:PT X c t):PIf X [c] t:=fun pins s σ H Q I q=>wpAny_tests_one (h pins s σ H Q I q)
def Zik(J:It)(g:TG)(tif:TT)(te:TE)(D:Addr)(Q:VK)(W:Nat->Nat->St->List V->Hp->Prop):Prop:=
 ∀ i m σ ys H,W i m σ ys H->H D=some (.lst ys)->(J.stop i H/\Q (.ref D) H)\/(J.go i H/\∀ x H',J.yld i H x H'->g x σ H' fun σ2 H2=>tif σ2 H2 fun b H3=>
  if b=true then te σ2 H3 fun y H4=>H4 D=some (.lst ys)/\ys.length < sizeLine/\∃ m',m' < m/\W (i+1) m' σ2 (ys++[y]) (upd H4 D (.lst (ys++[y])))
  else H3 D=some (.lst ys)/\∃ m',m' < m/\W (i+1) m' σ2 ys H3)
def Zjo
 (hx:∀ e s',X.xe e s'->False) (hc:X.calm=true) (T:Turn X.prog X.w X.K tg J fp it tn) (hg:PG X tg g) (hif:PIf X ifs tif) (he:PE X elt te)
 (stat:∀{H':Hp},(∀ b∈fp,H' b=none)->∀ b∈fp,FpOk X [] H' b)
 (turn:Zik J g tif te D Q W)
 (hR:∀ σ' H' s',Inv X [] σ' H' s'->Q (.ref D) H'->R (.ok .next) s')
 (I:Inv X [] σ H s) (st:tn 0 s.heap) (fr:∀ b∈fp,H b=none) (hD:H D=some (.lst [])) (w0:W 0 m σ [] H):
 codeAny (model X.prog X.w) X.A (.compLoop (.ListComp elt [⟨tg,iter,ifs,0⟩] scope pos) 0 (.ref it) (.ref D) X.env) R s:=by
 refine codeAny_loop rfl (fun n s'=>∃ i ys σ' H',Inv X [] σ' H' s'/\tn i s'.heap/\(∀ b∈fp,H' b=none)/\H' D=some (.lst ys)/\W i n σ' ys H') (fun n s3 hI=>?_) m ⟨0,[],σ,H,I,st,fr,hD,w0⟩
 obtain ⟨i,ys,σ3,H3,I3,st3,fr3,d3,w3⟩:=hI
 show wpAny _ X.A ((compTurn (.ListComp elt [⟨tg,iter,ifs,0⟩] scope pos) 0 (.ref it) (.ref D) X.env).onRaise (fun x=>do noteFrame x X.env;theTreesLotGoes x)) _ _ s3
 refine wpAny_noted ?_
 rw [compTurn_list]
 (refine wpAny_bind (wpAny_standAt (wpAny_bind ?_)))
 have sub:∀{α:Type}{t:Sem α}{P:α->Shared->Prop}{E':VS}{s:Shared},wpAny (model X.prog X.w) X.A t P X.xe s->wpAny (model X.prog X.w) X.A t P E' s:=fun h=>wpAny_mono h (fun _ _ q=>q) fun e s' q=>(hx e s' q).elim
 rcases turn i n σ3 ys H3 w3 d3 with ⟨stop,q⟩|⟨go,step⟩
 . refine sub (thn (T.done X rfl rfl rfl hc i [] s3 σ3 H3 X.xe I3 (stat fr3) st3 stop) fun r s4 z0=>?_)
   obtain ⟨hr,I4⟩:=z0
   subst hr
   exact wpAny_pure (hR σ3 H3 s4 I4 q)
 . refine sub (thn (T.item X rfl rfl rfl hc i [] s3 σ3 H3 X.xe I3 (stat fr3) st3 go) fun r s4 z0=>?_)
   obtain ⟨u,hr,h4⟩:=z0
   subst hr
   refine wpAny_bind (sub (thn h4 fun _ s5 z0=>?_))
   obtain ⟨x,H5,I5,r5,y5,st5,fr5⟩:=z0
   have I5':=I5.pinned (stat fr5) (T.obj _ _ st5)
   refine wpAny_bind (sub (thn (hg _ s5 σ3 H5 x u _ I5' r5 (step x H5 y5)) fun _ s6 z0=>?_))
   obtain ⟨σ6,H6,I6,q6⟩:=z0
   have again:∀{s7:Shared}{H7:Hp}{ys7:List V},Inv X ([]++Zda fp s5.heap) σ6 H7 s7->H7 D=some (.lst ys7)->(∃ m',m' < n/\W (i+1) m' σ6 ys7 H7)->
    ∃ m,m < n/\∃ i ys σ' H',Inv X [] σ' H' s7/\tn i s7.heap/\(∀ b∈fp,H' b=none)/\H' D=some (.lst ys)/\W i m σ' ys H':=fun{s7 H7 ys7} I7 d7 w7=>by
    obtain ⟨m',hm,w7⟩:=w7
    refine ⟨m',hm,i+1,ys7,σ6,H7,I7.unpinned,T.keep _ _ _ st5 fun b hb o e=>(I7.pin (b,o) (mem_append_right _ (mem_append_right _ (ZaX hb e)))).1,fun b hb=>?_,d7,w7⟩
    obtain ⟨o,e,d⟩:=T.obj _ _ st5 b hb
    exact (I7.pin (b,o) (mem_append_right _ (mem_append_right _ (ZaX hb e)))).2.1
   refine wpAny_bind (sub (thn (hif _ s6 σ6 H6 _ I6 q6) fun ok s7 z0=>?_))
   obtain ⟨H7,I7,q7⟩:=z0
   cases ok with
   | false=>
    rw [if_neg Bool.false_ne_true] at q7
    exact wpAny_pure ⟨rfl,again I7 q7.1 q7.2⟩
   | true=>
    rw [if_pos rfl] at q7
    refine wpAny_bind (wpAny_bind (sub (thn (he _ s7 σ6 H7 _ I7 q7) fun y s8 z0=>?_)))
    obtain ⟨v,H8,I8,r8,d8,z8,w8⟩:=z0
    have ap:=ZfG (X:=X) _ s8 σ6 H8 (.ref D) [v] (.ref D) [y] (fun _ H9=>H9=upd H8 D (.lst (ys++[v]))) I8 rfl (.cons r8 .nil) ⟨D,ys,v,rfl,rfl,d8,z8,rfl⟩
    refine wpAny_bind (sub (thn ap fun _ s9 z0=>?_))
    obtain ⟨_,H9,I9,_,e9⟩:=z0
    subst e9
    exact wpAny_pure (wpAny_pure ⟨rfl,again I9 Zj w8⟩)
def Zgb(k:Nat)(js:List Nat)(wi:TI)(g:TG)(tif:TT)(te:TE):TE:=fun σ H Q=>wi σ H fun J H1=>∀ D,H1 D=none->∃ W:Nat->Nat->St->List V->Hp->Prop,
 (∃ m,W 0 m (Zbe k js σ) [] (upd H1 D (.lst [])))/\Zik J g tif te D Q W
def ZgZ
 (h:∀ h',(∃ m,h'.Ns s.heap.objs.size m)->(∀ b o,s.heap.get? b=some o->h'.get? b=some o)->CellsOk h' (s.heap.objs.size+1) (cellsFrom (s.heap.objs.size+1) scope.names [])->
  Q (newEnv scope s.heap.objs.size globals (cellsFrom (s.heap.objs.size+1) scope.names cl) qual none .none (some outer) builtinsNs) { s with heap:=h' }):
 wpAny M A (newFunctionEnv scope globals cl [] qual none .none (some outer)) Q E s:=by
 (simp only [newFunctionEnv,isSome_some,if_true])
 (refine wpAny_bind (wpAny_alloc ?_))
 (refine wpAny_bind (wpAny_layCells _ (fun name kind cells=>by cases hkc:kind == NameKind.cell<;>simp [hkc]) _ _ _ _ ?_))
 have ok:=cellsFrom_ok scope.names (s.heap.push { cls:=.type "dict",data:=.dict #[] }) (s.heap.objs.size+1) [] ⟨fun _ _ hm=>(nomatch hm),List.Pairwise.nil⟩ (by rw [Heap.size_push];exact le_refl _)
 rw [Heap.size_push] at ok
 rw [show ({ s with heap:=s.heap.push { cls:=.type "dict",data:=.dict #[] } }:Shared).heap.objs.size=s.heap.objs.size+1 from Heap.size_push ..]
 refine wpAny_bind ?_
 rw [List.forIn_nil]
 exact wpAny_pure (wpAny_pure (h _ ⟨_,(Heap.Ns.new s.heap (.type "dict")).keeps (pushCells_keeps _ _)⟩ (fun b o e=>pushCells_keeps _ _ b o (Heap.get?_push_of_some _ e)) ok))
def ZeM{elt tg iter:Expr}{ifs:List Expr}{k:Nat}{js:List Nat}{N':List Str}{J:It}{fp:List Addr}{tn:Nat->Heap->Prop}{it:Addr}{g:TG}{tif:TT}{te:TE}{Q:VK}{E:VS}
 {pins:Pn} {s:Shared} {σ:St} {H:Hp} {cl:List (Str×Addr)} {RR:Value->Addr->Result->Shared->Prop}
 (hc:X.calm=true) (S:CompScope X k js N' scope) (T:Turn X.prog X.w X.K tg J fp it tn) (st:tn 0 s.heap) (hf:∀ b∈fp,FpOk X pins H b)
 (c1:∀ y c,cl.lookup y=some c->X.env.cells.lookup y=some c) (c2:∀ y∈scope.names,y.2=.free->∃ c,cl.lookup y.1=some c)
 (hin:∀(cl:List (Str×Addr))(C:Addr)(s₀:Shared)(H₀:Hp)(ex:List Addr),PG (cxC X N' scope cl C s₀ H₀ ex) tg g/\PIf (cxC X N' scope cl C s₀ H₀ ex) ifs tif/\PE (cxC X N' scope cl C s₀ H₀ ex) elt te)
 (I:Inv X pins σ H s) (q:∀ D,H D=none->∃ W:Nat->Nat->St->List V->Hp->Prop,(∃ m,W 0 m (Zbe k js σ) [] (upd H D (.lst [])))/\Zik J g tif te D Q W)
 (hRR:∀(D C:Addr)(s':Shared)(H':Hp),s.heap.get? C=none->(∃ m,s'.heap.Ns C m)->Inv X pins σ H' s'->FpOk X pins H' C->Q (.ref D) H'->RR (.ref D) C (.ok .next) s'):
 wpAny (model X.prog X.w) X.A (newList []) (fun acc s₃=>wpAny (model X.prog X.w) X.A (newFunctionEnv scope X.env.globals cl [] X.env.qual none .none (some X.env)) (fun cenv s₄=>
  codeAny (model X.prog X.w) X.A (.compStart (.ListComp elt [⟨tg,iter,ifs,0⟩] scope pos) 0 (.ref it) acc { cenv with scope:=relabel scope X.env }) (RR acc cenv.locals) s₄) E s₃) E s:=by
 refine wpAny_newObj_type (ZgZ fun h₁ hns₁ hkp₁ hck₁=>?_)
 dsimp only at hns₁ hkp₁ hck₁ ⊢
 generalize hH2:s.heap.push { cls:=.type "list",dict:=none,data:=.seq ([]:List Value).toArray }=H2 at hns₁ hkp₁ hck₁ ⊢
 have hC:H2.objs.size=s.heap.objs.size+1:=by rw [<- hH2,Heap.size_push]
 rw [hC] at hns₁ hck₁ ⊢
 have kp:∀ b o,s.heap.get? b=some o->h₁.get? b=some o:=fun b o e=>hkp₁ b o (hH2 ▸ Heap.get?_push_of_some _ e)
 have hD:h₁.get? s.heap.objs.size=some { cls:=.type "list",data:=.seq #[] }:=hkp₁ _ _ (hH2 ▸ Heap.get?_push_size _ rfl)
 have hfo:∀ b∈fp,b < s.heap.objs.size:=fun b hb=>by obtain ⟨o,e,_⟩:=T.obj _ _ st b hb;exact Heap.lt_size e
 obtain ⟨W,⟨m0,w0⟩,turn⟩:=q s.heap.objs.size (I.hok.fresh (le_refl _))
 obtain ⟨gG,gI,gE⟩:=hin (cellsFrom (s.heap.objs.size+2) scope.names cl) (s.heap.objs.size+1) s H fp
 have fresh1:s.heap.get? (s.heap.objs.size+1)=none:=by
  cases e:s.heap.get? (s.heap.objs.size+1) with
  | none=>rfl
  | some o=>exact absurd (Heap.lt_size e) (Nat.not_lt.mpr (le_succ _))
 have I1:∀ tk,Inv (cxC X N' scope (cellsFrom (s.heap.objs.size+2) scope.names cl) (s.heap.objs.size+1) s H fp) [] (Zbe k js σ) (upd H s.heap.objs.size (.lst [])) { s with heap:=h₁,toks:=tk }:=fun tk=>Zky I S hf hfo c1 c2 hns₁ kp hD hck₁
 have ffr:∀ b∈fp,upd H s.heap.objs.size (.lst []) b=none:=fun b hb=>by
  rw [Zn (ne_of_lt (hfo b hb))]
  exact (hf b hb).1
 have exs:∀ b∈fp,b∉frs X.stack:=(I1 0).ok.exfs
 have stat:∀{H':Hp},(∀ b∈fp,H' b=none)->∀ b∈fp,FpOk (cxC X N' scope (cellsFrom (s.heap.objs.size+2) scope.names cl) (s.heap.objs.size+1) s H fp) [] H' b:=fun hn b hb=>
  ⟨hn b hb,((I1 0).ok.exf b hb).1,exs b hb,.inl hb,((I1 0).ok.exf b hb).2,fun p hp=>(nomatch hp)⟩
 have st1:tn 0 h₁:=T.keep _ _ _ st fun b _ o e=>kp b o e
 have loop:∀ tk,codeAny (model X.prog X.w) X.A (.compLoop (.ListComp elt [⟨tg,iter,ifs,0⟩] scope pos) 0 (.ref it) (.ref s.heap.objs.size) (compEnvC scope (cellsFrom (s.heap.objs.size+2) scope.names cl) (s.heap.objs.size+1) X.env))
  (RR (.ref s.heap.objs.size) (s.heap.objs.size+1)) { s with heap:=h₁,toks:=tk }:=fun tk=>by
  refine Zjo (X:=cxC X N' scope (cellsFrom (s.heap.objs.size+2) scope.names cl) (s.heap.objs.size+1) s H fp) (fun _ _ z=>z) hc T gG gI gE stat turn (fun σ' H' s' J q'=>?_) (I1 tk) st1 ffr Zj w0
  have u:Un (frs X.stack) fp H H' s.heap s'.heap:=J.base
  have J1:Inv X pins σ H' s':=I.call' J.os u J.hok J.bare fun b hb=>⟨(hf b hb).2.2.2.1,(hf b hb).2.1,(hf b hb).2.2.2.2.1,(hf b hb).2.2.2.2.2⟩
  obtain ⟨m',hn',_⟩:=J.loc
  refine hRR _ _ s' H' fresh1 ⟨m',hn'⟩ J1 ⟨J.free,ne_of_gt (Nat.lt_succ_of_lt I.lt),I.nofs (le_succ _),.inr (le_trans I.sz (le_succ _)),fun x c e z=>?_,fun p hp z=>?_⟩ q'
  . obtain ⟨v,qc⟩:=I.cell x c e
    have h1:=qc.lt
    rw [z] at h1
    exact absurd h1 (Nat.not_lt.mpr (le_succ _))
  . have h1:=Heap.lt_size (I.pin p hp).1
    rw [z] at h1
    exact absurd h1 (Nat.not_lt.mpr (le_succ _))
 exact codeAny_compStart_list (loop _) (T.self X.A 0 _ _ _ st1 (loop _))
def Zm7
 (hc:X.calm=true) (S:CompScope X k js N' scope) (hi:PI X tg iter wi)
 (hin:∀(cl:List (Str×Addr))(C:Addr)(s₀:Shared)(H₀:Hp)(ex:List Addr),PG (cxC X N' scope cl C s₀ H₀ ex) tg g/\PIf (cxC X N' scope cl C s₀ H₀ ex) ifs tif/\PE (cxC X N' scope cl C s₀ H₀ ex) elt te)
 (hs:∀ x,foldedSetIterable iter X.env x=pure x:=by intro _;rfl):PE X (.ListComp elt [⟨tg,iter,ifs,0⟩] scope pos) (Zgb k js wi g tif te):=by
 intro pins s σ H Q I h
 obtain ⟨cl,ec,c1,c2⟩:=ZeL (scope:=scope) (env:=X.env) fun y hy hf=>I.ok.has y.1 (S.free y hy hf)
 rw [eval_ListComp]
 refine wpAny_comprehension_free (use:=none) rfl hs ec S.kind S.names (thn (hi pins s σ H _ I h) fun xv s1 h1=>thn h1 fun itv s2 h2=>?_)
 obtain ⟨it,fp,tn,J,H2,e,I2,T,st2,f2,q⟩:=h2
 subst e
 refine ZeM (RR:=fun acc C=>compPost (model X.prog X.w) X.A X.xe none (EP X pins σ Q) acc C) hc S T st2 f2 c1 c2 hin I2 q ?_
 intro D C s' H' _ hn J1 fC q'
 obtain ⟨m',hn⟩:=hn
 obtain ⟨f0,f1,f2,f3,f4,f5⟩:=fC
 exact ⟨m',hn,fun h' hs'=>⟨.ref D,H',J1.turned (t':=s'.toks) (fun b o hb e=>hs'.extBut b o hb e) f0 f1 f3 f4 f5,rfl,q'⟩⟩
def Zm8
 (hN:X.N.Nodup) (hi:X.N[i]?=some x) (hx:Loc X.env.scope x)
 (hc:X.calm=true) (S:CompScope X k js N' scope) (hit:PI X tg iter wi)
 (hin:∀(cl:List (Str×Addr))(C:Addr)(s₀:Shared)(H₀:Hp)(ex:List Addr),PG (cxC X N' scope cl C s₀ H₀ ex) tg g/\PIf (cxC X N' scope cl C s₀ H₀ ex) ifs tif/\PE (cxC X N' scope cl C s₀ H₀ ex) elt te)
 (hsw:autoParam (swapsWith (.ListComp elt [⟨tg,iter,ifs,0⟩] scope pos) (some (.Name x pos')) spos.line X.env=pure true) Q9)
 (hf:X.fn x=true\/X.env.scope.names.lookup x=some .local:=by first|exact .inl rfl|exact .inr rfl|assumption)
 (hs:∀ x,foldedSetIterable iter X.env x=pure x:=by intro _;rfl):PS X (.Assign [.Name x pos'] (.ListComp elt [⟨tg,iter,ifs,0⟩] scope pos) spos) (tAsg (Zgb k js wi g tif te) (ZcB i)):=by
 intro pins s σ H D I h
 obtain ⟨cl,ec,c1,c2⟩:=ZeL (scope:=scope) (env:=X.env) fun y hy hf=>I.ok.has y.1 (S.free y hy hf)
 (rw [exec_Assign_Name_used _ _ _ _ hsw])
 (refine wpAny_bind (wpAny_standAt (wpAny_bind ?_)))
 show wpAny _ X.A (do let _ <- comprehension (.ListComp elt [⟨tg,iter,ifs,0⟩] scope pos) scope X.env _ (newList []) false (eval iter X.env) (some (assign (.Name x pos') X.env))) _ _ s
 refine wpAny_bind (wpAny_mono (wpAny_comprehension_free (use:=some (assign (.Name x pos') X.env)) (Q:=fun _ s'=>SP X pins D .next s') rfl hs ec S.kind S.names
  (thn (hit pins s σ H _ I h) fun xv s1 h1=>thn h1 fun itv s2 h2=>?_)) (fun _ s' hq=>wpAny_pure (wpAny_pure hq)) fun _ _ e=>e)
 obtain ⟨it,fp,tn,J,H2,e,I2,T,st2,f2,q⟩:=h2
 subst e
 refine ZeM (Q:=fun v H'=>ZcB i v σ H' D.nx) (RR:=fun acc C=>compPost (model X.prog X.w) X.A X.xe (some (assign (.Name x pos') X.env)) (fun _ s'=>SP X pins D .next s') acc C) hc S T st2 f2 c1 c2 hin I2 q ?_
 intro Da C s' H' fr hn J1 fC q'
 obtain ⟨m',hn⟩:=hn
 obtain ⟨f0,f1,f2,f3,f4,f5⟩:=fC
 obtain ⟨oC,es,ep,hoC,hdC,hkC,hmC⟩:=id hn
 show wpAny _ X.A (assign (.Name x pos') X.env (.ref Da)) _ _ _
 have J2:Inv X (pins++[(C,oC)]) σ H' s':=J1.pins_of fun p hp=>by
  (rcases List.mem_append.mp hp with z|z)
  . exact J1.pin p (mem_append_right _ z)
  . have z':p=(C,oC):=by simpa using z
    subst z'
    exact ⟨hoC,f0,f1,f2,fun v e=>by rw [hdC] at e;cases e⟩
 refine wpAny_assign_Name (ZbB J2 hN hi hx (v:=.ref Da) rfl (fun s'' I''=>?_) hf)
 have hC'':=(I''.pin (C,oC) (mem_append_right _ (mem_append_right _ (by simp)))).1
 refine ⟨m',⟨oC,es,ep,hC'',hdC,hkC,hmC⟩,fun h' hs'=>?_⟩
 have I3:Inv X pins (σ.set i (some (.ref Da))) H' s'':=I''.unpinned
 exact ⟨_,H',I3.turned (t':=s''.toks) (fun b o hb e=>hs'.extBut b o hb e) f0 f1 f3 f4 f5,q'⟩
end
mutual
inductive Den(K:Fg)(H:Hp):V->PyData->Prop
 | non:Den K H .non .none
 | bl (b:Bool):Den K H (.bl b) (.bool b)
 | int (i:Int):Den K H (.int i) (.int i)
 | str (x:Str):Den K H (.str x) (.str x)
 | lst {a:Addr} {vs:List V} {ds:List PyData}:SqL K H a vs->DenL K H vs ds->Den K H (.ref a) (.list ds)
 | tup {a:Addr} {vs:List V} {ds:List PyData}:SqT K H a vs->DenL K H vs ds->Den K H (.ref a) (.tuple ds)
inductive DenL(K:Fg)(H:Hp):List V->List PyData->Prop
 | nil:DenL K H [] []
 | cons {v:V} {d:PyData} {vs:List V} {ds:List PyData}:Den K H v d->DenL K H vs ds->DenL K H (v::vs) (d::ds)
end
def Same.tupq{K:Fg}{a:Addr}{xs:List V}(e:Same H H')(h:SqT K H a xs):SqT K H' a xs:=by
 rcases h with (h|⟨o,h⟩)|h
 . exact .inl (.inl (e _ _ h))
 . exact .inl (.inr ⟨o,e _ _ h⟩)
 . exact .inr h
mutual
theorem Den.same{K:Fg}(e:Same H H'):∀{v:V}{d:PyData},Den K H v d->Den K H' v d
 | _,_,.non=>.non
 | _,_,.bl b=>.bl b
 | _,_,.int i=>.int i
 | _,_,.str x=>.str x
 | _,_,.lst h r=>.lst (e.seq h) (DenL.same e r)
 | _,_,.tup h r=>.tup (e.tupq h) (DenL.same e r)
termination_by structural _ a=>a
theorem DenL.same{K:Fg}(e:Same H H'):∀{vs:List V}{ds:List PyData},DenL K H vs ds->DenL K H' vs ds
 | _,_,.nil=>.nil
 | _,_,.cons h r=>.cons (Den.same e h) (DenL.same e r)
termination_by structural _ a=>a
end
section
mutual
theorem Den.reads(I:Inv X pins σ H s):∀{v:V}{d:PyData}{u:Value},Den X.K H v d->RelV v u->∃ as,Reads s.heap u d as
 | _,_,_,.non,r=>by cases (show _=Value.none from r);exact ⟨_,.none⟩
 | _,_,_,.bl b,r=>by cases (show _=Value.bool b from r);exact ⟨_,.bool b⟩
 | _,_,_,.int i,r=>by obtain ⟨t,q⟩:=(show ∃ t,_=Value.int i t from r);cases q;exact ⟨_,.int i t⟩
 | _,_,_,.str x,r=>by obtain ⟨t,q⟩:=(show ∃ t,_=Value.str x t from r);cases q;exact ⟨_,.str x t⟩
 | _,_,_,.lst (a:=a) h q,r=>by
  cases (show _=Value.ref a from r)
  obtain ⟨its,rv,p,hz⟩:=I.list h
  obtain ⟨as,ra⟩:=DenL.reads I q rv
  obtain ⟨o,ho,hc,n,hd⟩:=p.isList
  exact ⟨_,.list ho hc hd (by simpa using ra)⟩
 | _,_,_,.tup (a:=a) h q,r=>by
  cases (show _=Value.ref a from r)
  obtain ⟨its,rv,p,hz⟩:=I.tuple h
  obtain ⟨as,ra⟩:=DenL.reads I q rv
  obtain ⟨o,ho,hc,n,hd⟩:=(show s.heap.IsTuple a its.toArray from p)
  exact ⟨_,.tuple ho hc hd (by simpa using ra)⟩
termination_by structural _ a=>a
theorem DenL.reads(I:Inv X pins σ H s):∀{vs:List V}{ds:List PyData}{us:List Value},DenL X.K H vs ds->Vals vs us->∃ as,ReadsAll s.heap us ds as
 | _,_,_,.nil,r=>by cases r;exact ⟨_,.nil⟩
 | _,_,_,.cons h q,r=>by
  cases r with
  | cons r1 r2=>
   obtain ⟨as,ra⟩:=Den.reads I h r1
   obtain ⟨bs,rb⟩:=DenL.reads I q r2
   exact ⟨_,.cons ra rb⟩
termination_by structural _ a=>a
end
end
section
def rEqD(K:Fg):R2:=fun x y H Q=>∃ d e,Den K H x d/\Den K H y e/\SeqAt.shaped d=true/\SeqAt.shaped e=true/\Q (.bl (PyData.eqv d e)) H
def rNeD(K:Fg):R2:=fun x y H Q=>∃ d e,Den K H x d/\Den K H y e/\SeqAt.shaped d=true/\SeqAt.shaped e=true/\Q (.bl (!PyData.eqv d e)) H
def Zop(hu:X.A.units+64 < cLine):OpR X (compareOp .Eq) (rEqD X.K):=by
 intro pins s σ H x y v u Q I rx ry h
 obtain ⟨d,e,hd,he,s1,s2,q⟩:=h
 obtain ⟨as,ra⟩:=hd.reads I rx
 obtain ⟨bs,rb⟩:=he.reads I ry
 exact eq_dataH ra rb s1 s2 hu ⟨.bl _,H,I,rfl,q⟩
def Zoq(hu:X.A.units+64 < cLine):OpR X (compareOp .NotEq) (rNeD X.K):=by
 intro pins s σ H x y v u Q I rx ry h
 obtain ⟨d,e,hd,he,s1,s2,q⟩:=h
 obtain ⟨as,ra⟩:=hd.reads I rx
 obtain ⟨bs,rb⟩:=he.reads I ry
 exact ne_dataH ra rb s1 s2 hu ⟨.bl _,H,I,rfl,q⟩
def Zkz(c:V)(cu:Value)(rc:RelV c cu)(huniq:∀ u,RelV c u->u=cu):Zaj X (.builtin "isinstance") (fun xs H Q=>∃ x t b,xs=[x,c]/\TyOf X.K H x t/\kitOne X.K t cu=some b/\Q (.bl b) H):=by
 intro pins s σ H xs us Q I r h
 obtain ⟨x,t,b,rfl,ty,e,q⟩:=h
 obtain ⟨u,w',rfl,ru,rw'⟩:=r.two
 obtain rfl:=huniq w' rw'
 exact ZiW I ru ty e fun tk=>⟨.bl b,H,I.tok tk,rfl,q⟩
theorem Zdv:∀(bs:List Bool)(us:List Value),Vals (bs.map V.bl) us->us=bs.map Value.bool
 | [],us,r=>by cases r;rfl
 | b::bs,us,r=>by
  cases r with
  | cons r1 r2=>rw [Zdv bs _ r2,show _=Value.bool b from r1];rfl
def Zil(bs:List Bool):((List.range bs.length).all fun i=>(bs[i]?).getD true)=bs.all id:=by
 (rw [Bool.eq_iff_iff,List.all_eq_true,List.all_eq_true])
 constructor
 . intro h b hb
   obtain ⟨i,hi,e⟩:=List.mem_iff_getElem.mp hb
   have q:=h i (List.mem_range.mpr hi)
   rw [List.getElem?_eq_getElem hi,getD_some,e] at q
   exact q
 . intro h i hi
   (have hi':=List.mem_range.mp hi)
   rw [List.getElem?_eq_getElem hi',getD_some]
   (exact h _ (getElem_mem hi'))
def Zim(bs:List Bool):((List.range bs.length).any fun i=>(bs[i]?).getD false)=bs.any id:=by
 (rw [Bool.eq_iff_iff,any_eq_true,any_eq_true])
 constructor
 . rintro ⟨i,hi,q⟩
   (have hi':=List.mem_range.mp hi)
   rw [List.getElem?_eq_getElem hi',getD_some] at q
   exact ⟨_,getElem_mem hi',q⟩
 . rintro ⟨b,hb,q⟩
   obtain ⟨i,hi,e⟩:=List.mem_iff_getElem.mp hb
   refine ⟨i,List.mem_range.mpr hi,?_⟩
   rw [List.getElem?_eq_getElem hi,getD_some,e]
   exact q
def Zfs{h':Heap}{o:Obj}(hk:∀ b x,b∉[h.objs.size]->(h.push o).get? b=some x->h'.get? b=some x):∀ b x,h.get? b=some x->h'.get? b=some x:=
 fun c o e=>hk c o (fun hm=>by rw [List.mem_singleton.mp hm] at e;exact lt_irrefl _ (Heap.lt_size e)) (Heap.get?_push_of_some _ e)
def Zk0(hc:X.calm=true):Zaj X (.builtin "all") (fun xs H Q=>∃(l:Addr)(bs:List Bool),xs=[.ref l]/\SqL X.K H l (bs.map V.bl)/\Q (.bl (bs.all id)) H):=by
 intro pins s σ H xs us Q I r h
 obtain ⟨l,bs,rfl,hl,q⟩:=h
 obtain ⟨u,rfl,ru⟩:=r.one
 cases (show u=Value.ref l from ru)
 obtain ⟨its,rv,p,hz⟩:=I.list hl
 have ei:=Zdv bs its rv
 have hlt:l < s.heap.objs.size:=by obtain ⟨_,e,_⟩:=p.isList;exact Heap.lt_size e
 refine call_all_walk (wpAny_pyIter_list p.isList ?_)
 refine ⟨s.heap.objs.size,[s.heap.objs.size,l],[s.heap.objs.size],its.toArray.size,_,_,fun i=>(bs[i]?).getD true,rfl,Walks.list (A:=X.A.in1) (I.ok.hd hc) _ l (ne_of_lt hlt) its.toArray,
  ⟨⟨_,Heap.get?_push_size _ rfl,rfl,rfl⟩,p.isList.push _⟩,fun i v s' Q' E' hP hQ=>?_,fun h' tk hk=>?_⟩
 . have hP':its[i]?=some v:=by simpa using hP
   rw [ei,getElem?_map] at hP'
   cases e:bs[i]? with
   | none=>rw [e] at hP';cases hP'
   | some b=>
    rw [e] at hP'
    cases hP'
    (simp only [e,getD_some] at hQ)
    exact wpAny_truthy_bool hQ
 . have e:((List.range its.toArray.size).all fun i=>(bs[i]?).getD true)=bs.all id:=by
    rw [size_toArray,<- rv.length,length_map]
    exact Zil bs
   rw [e]
   exact ⟨.bl _,H,I.kept (t':=tk) (Zfs hk),rfl,q⟩
def Zk1(hc:X.calm=true):Zaj X (.builtin "any") (fun xs H Q=>∃(l:Addr)(bs:List Bool),xs=[.ref l]/\SqL X.K H l (bs.map V.bl)/\Q (.bl (bs.any id)) H):=by
 intro pins s σ H xs us Q I r h
 obtain ⟨l,bs,rfl,hl,q⟩:=h
 obtain ⟨u,rfl,ru⟩:=r.one
 cases (show u=Value.ref l from ru)
 obtain ⟨its,rv,p,hz⟩:=I.list hl
 have ei:=Zdv bs its rv
 have hlt:l < s.heap.objs.size:=by obtain ⟨_,e,_⟩:=p.isList;exact Heap.lt_size e
 refine call_any_walk (wpAny_pyIter_list p.isList ?_)
 refine ⟨s.heap.objs.size,[s.heap.objs.size,l],[s.heap.objs.size],its.toArray.size,_,_,fun i=>(bs[i]?).getD false,rfl,Walks.list (A:=X.A.in1) (I.ok.hd hc) _ l (ne_of_lt hlt) its.toArray,
  ⟨⟨_,Heap.get?_push_size _ rfl,rfl,rfl⟩,p.isList.push _⟩,fun i v s' Q' E' hP hQ=>?_,fun h' tk hk=>?_⟩
 . have hP':its[i]?=some v:=by simpa using hP
   rw [ei,getElem?_map] at hP'
   cases e:bs[i]? with
   | none=>rw [e] at hP';cases hP'
   | some b=>
    rw [e] at hP'
    cases hP'
    (simp only [e,getD_some] at hQ)
    exact wpAny_truthy_bool hQ
 . have e:((List.range its.toArray.size).any fun i=>(bs[i]?).getD false)=bs.any id:=by
    rw [size_toArray,<- rv.length,length_map]
    exact Zim bs
   rw [e]
   exact ⟨.bl _,H,I.kept (t':=tk) (Zfs hk),rfl,q⟩
noncomputable def fmtV:V->Option Str
 | .int i=>if i.natAbs.log2 < 1920 then some (toString i:String) else none
 | .str x=>some x
 | .non=>some ("None":String)
 | _=>none
def tFmt(te:TE):TE:=fun σ H Q=>te σ H fun x H1=>∃ z,fmtV x=some z/\z.length<=sizeLine/\Q (.str z) H1
theorem Zor(h:PE X e te):PE X (.FormattedValue e (-1) none pos) (tFmt te):=by
 intro pins s σ H Q I hw
 refine PyProof.Rows.FormattedValue_plain (thn (h pins s σ H _ I hw) fun v s1 z0=>?_)
 obtain ⟨x,H1,I1,r1,z,e1,hz,q⟩:=z0
 have fin:∀ t' k,EP X pins σ Q (.str z t') { s1 with toks:=k }:=fun t' k=>⟨.str _,H1,I1.tok k,⟨t',rfl⟩,q⟩
 cases x with
 | int i=>
  obtain ⟨t,rfl⟩:=r1
  unfold fmtV at e1
  simp only at e1
  split at e1
  . rename_i hl
    cases e1
    exact PyProof.Rows.formatField_int_small hl (fin _ _)
  . cases e1
 | str y=>
  obtain ⟨t,rfl⟩:=r1
  cases e1
  exact PyProof.Rows.formatField_str (fun t' k=>fin t' k) hz
 | non=>
  cases (show v=Value.none from r1)
  cases e1
  exact wpAny_formatField_none (fin _ _)
 | _=>cases e1
noncomputable def Zgc:List TE->Str->TE
 | [],acc=>fun _ H Q=>Q (.str acc) H
 | t::r,acc=>fun σ H Q=>t σ H fun x H1=>∃ z,x=.str z/\(acc++z).length<=sizeLine/\Zgc r (acc++z) σ H1 Q
def PEs(X:Cx):List Expr->List TE->Prop:=Paired (PE X)
theorem ZeN:∀{es:List Expr}{ts:List TE}(acc:Str)(pins:Pn)(s:Shared)(σ:St)(H:Hp)(Q:VK),PEs X es ts->acc.length<=sizeLine->Inv X pins σ H s->Zgc ts acc σ H Q->
 wpAny (model X.prog X.w) X.A (joinParts acc (es.map fun e=>eval e X.env)) (EP X pins σ Q) X.xe s
 | _,_,acc,pins,s,σ,H,Q,.nil,hz,I,h=>PyProof.Rows.joinParts_nil ⟨.str acc,H,I.tok _,⟨_,rfl⟩,h⟩ hz
 | _,_,acc,pins,s,σ,H,Q,.cons h1 h2,hz,I,h=>by
  refine PyProof.Rows.joinParts_cons (thn (h1 pins s σ H _ I h) fun v s1 z0=>?_)
  obtain ⟨x,H1,I1,r1,z,e,hl,q⟩:=z0
  subst e
  obtain ⟨t,rfl⟩:=r1
  exact ⟨hl,ZeN (acc++z) pins s1 σ H1 Q h2 hl I1 q⟩
termination_by structural a=>a
theorem ZdF(env:Env):∀ es:List Expr,evalEach es env=es.map fun e=>eval e env
 | []=>rfl
 | e::es=>by
  have ih:=ZdF env es
  show eval e env::evalEach es env=_
  rw [ih,map_cons]
def Zhu(h:PEs X (a::b::es) ts):PE X (.JoinedStr (a::b::es) pos) (Zgc ts Str.empty):=by
 intro pins s σ H Q I hw
 have q:=ZeN (X:=X) Str.empty pins s σ H Q h (by decide) I hw
 refine PyProof.Rows.JoinedStr_many ?_
 rw [ZdF]
 exact q
end
structure FnAt(P:Program)(w:World)(K:Fg)(mg:SO)(base:Heap)(x:Str)(k:Nat)(ps:List Str)(sp:Sp):Prop where
 ex:∃(f:Addr)(fd:FuncData),FnOk P w K mg base CX0 k f fd ps sp/\mg x=some (.ref f)/\keepIn K (.ref f)=true/\Binds K fd ps []
structure MeAt(P:Program)(w:World)(K:Fg)(mg:SO)(base:Heap)(C:Addr)(m:Str)(k:Nat)(ps:List Str)(sp:Sp):Prop where
 ex:∃(f:Addr)(fd:FuncData),FnOk P w K mg base CX0 k f fd ps sp/\Meth K C m f/\Binds K fd ps []
 cl:Cls K C
structure MkAt(P:Program)(w:World)(K:Fg)(mg:SO)(base:Heap)(x:Str)(C:Addr)(k:Nat)(ps:List Str)(sp:Sp):Prop where
 ex:∃(f:Addr)(fd:FuncData),FnOk P w K mg base CX0 k f fd ps sp/\Mk K C f/\mg x=some (.ref C)/\Binds K fd ps []
section
def Zqw(G:FnAt X.prog X.w X.K X.mg X.base x j ps sp)(hr:Room n X.A)(ha:PA X (e::es) t)(hj:autoParam (j<=n) Q7)(hg:autoParam (Gl X x) Q9)(hdb:autoParam ((x == ("__debug__":Str))=false) Q7)
 (he:autoParam (SE X e es) Q9) (hpl:autoParam (SFx X pos es) Q9):PE X (.Call (.Name x p) (e::es) [] pos) (Zl5 sp [] E0 t):=by
 obtain ⟨f,fd,F,hm,hk,hb⟩:=G.ex
 exact Zml F (hr.mono hj) hg hm hk hb .nil Zif ha hdb he hpl
def Zqx(G:MeAt X.prog X.w X.K X.mg X.base C m j ps sp)(hr:Room n X.A)(ho:PE X o ta)(ha:PA X (e::es) t)(hj:autoParam (j<=n) Q7)
 (hst:autoParam (SE X e es) Q9) (hpl:autoParam (SFx X pos es) Q9)
 (ht:autoParam (eval (.Call (.Attribute o m apos) (e::es) [] pos) X.env=(do
  let ov <- eval o X.env
  standAt apos.atName
  let (f,first) <- holding [ov] (getMethod ov m pl)
  callWith pos f first (backTo pos (starEach (e::es) X.env)) (backToKw pos (keywordEach [] X.env)))) Q9):PE X (.Call (.Attribute o m apos) (e::es) [] pos) (Zl6 C m sp [] E0 ta t):=by
 obtain ⟨f,fd,F,hm,hb⟩:=G.ex
 exact Zmm ho G.cl hm F (hr.mono hj) hb .nil Zif ha hst hpl ht
def Zqy(G:MkAt X.prog X.w X.K X.mg X.base x C j ps sp)(hr:Room n X.A)(ha:PA X (e::es) t)(hj:autoParam (j+1<=n) Q7)(hg:autoParam (Gl X x) Q9)(hdb:autoParam ((x == ("__debug__":Str))=false) Q7)
 (he:autoParam (SE X e es) Q9) (hpl:autoParam (SFx X pos es) Q9):PE X (.Call (.Name x p) (e::es) [] pos) (Zl7 C sp [] E0 t):=by
 obtain ⟨f,fd,F,M,hm,hb⟩:=G.ex
 exact Zmn M F (hr.mono hj) hg hm hb .nil Zif ha hdb he hpl
end
def Zes(j:Nat)(js:List Nat)(σ:St):Zbz (j::js) σ=(σ[j]?).join::Zbz js σ:=rfl
def ZdG:bootBuiltins "isinstance"=some (.builtin "isinstance"):=by decide +kernel
def ZlE:bootBuiltins "int"=some (.type "int"):=by decide +kernel
def Zjp:bootBuiltins "bool"=some (.type "bool"):=by decide +kernel
def Zgp:bootBuiltins "list"=some (.type "list"):=by decide +kernel
noncomputable def Zt(sc:Scope)(N:List Str)(i:Nat)(x:Str)(b:Bool):Bool:=N[i]? == some x && sc.names.lookup x == some (if b then .cell else .local) && !(x == ("__debug__":Str)) && !(x == ("__classdict__":Str))
noncomputable def Zgq(sc:Scope)(N:List Str)(i:Nat)(x:Str):Bool:=N[i]? == some x && (sc.names.lookup x == some .cell || sc.names.lookup x == some .free) && !(x == ("__debug__":Str)) && !(x == ("__classdict__":Str))
noncomputable def glOk(sc:Scope)(x:Str):Bool:=sc.names.lookup x == some .globalImplicit && !(x == ("__debug__":Str)) && !(x == ("__name__":Str))
section
def Zt.at(h:Zt sc N i x b=true):N[i]?=some x/\sc.names.lookup x=some (if b then .cell else .local)/\(x == ("__debug__":Str))=false/\(x == ("__classdict__":Str))=false:=by
 unfold Zt at h
 (simp only [and_eq_true,not_eq_true'] at h)
 exact ⟨eq_of_beq h.1.1.1,eq_of_beq h.1.1.2,h.1.2,h.2⟩
def Zt.loc(h:Zt sc N i x b=true):Loc sc x:=by
 have q:=(Zt.at h).2.1
 cases b
 . exact .inl q
 . exact .inr q
def pvs(h:Zt sc N i x b=true)(e1:autoParam (X.env.scope=sc) Q9)(e2:autoParam (X.N=N) Q9):PE X (.Name x pos) (tVar i):=by
 obtain ⟨h1,h2,h3,h4⟩:=Zt.at h
 have l:=Zt.loc h
 subst e1 e2
 refine ZiL h1 ?_ h3 h4
 rcases l with l|l
 . exact .inl l
 . exact .inr (.inl l)
def pvf(h:Zgq sc N i x=true)(e1:autoParam (X.env.scope=sc) Q9)(e2:autoParam (X.N=N) Q9):PE X (.Name x pos) (tVar i):=by
 unfold Zgq at h
 simp only [and_eq_true,not_eq_true',or_eq_true] at h
 subst e1 e2
 refine ZiL (eq_of_beq h.1.1.1) ?_ h.1.2 h.2
 rcases h.1.1.2 with l|l
 . exact .inr (.inl (eq_of_beq l))
 . exact .inr (.inr (eq_of_beq l))
def glk(h:glOk sc x=true)(e1:autoParam (X.env.scope=sc) Q9):Gl X x:=by
 unfold glOk at h
 (simp only [and_eq_true] at h)
 subst e1
 exact eq_of_beq h.1.1
def dbk(h:glOk sc x=true):(x == ("__debug__":Str))=false:=by
 unfold glOk at h
 (simp only [and_eq_true,not_eq_true'] at h)
 exact h.1.2
def nmk(h:glOk sc x=true):x≠"__name__":=by
 unfold glOk at h
 (simp only [and_eq_true,not_eq_true'] at h)
 intro e
 have:=h.2
 rw [e,beq_self_eq_true] at this
 cases this
def Zk2(h:Zt sc N i x b=true)(nd:N.Nodup)(e1:autoParam (X.env.scope=sc) Q9)(e2:autoParam (X.N=N) Q9)(hf:X.fn x=true\/b=false:=by first|exact .inl rfl|exact .inr rfl):PG X (.Name x pos) (ZcB i):=by
 obtain ⟨h1,h2,h3,h4⟩:=Zt.at h
 have l:=Zt.loc h
 subst e1 e2
 refine Zhi nd h1 l ?_
 rcases hf with q|q
 . exact .inl q
 . subst q
   exact .inr h2
noncomputable def ZdH(osc scope:Scope)(x:Str):Bool:=osc.kind == .function && osc.names.lookup x == some .local && !(scope.names.any fun(n,k)=>n == x && (k == .local || k == .cell))
def Zin(h:ZdH osc scope x=true)(hl:(pos'.line == pos.line)=true)(e:env.scope=osc):
 swapsWith (.ListComp elt gens scope pos) (some (.Name x pos')) line env=pure true:=by
 subst e
 unfold ZdH at h
 (simp only [and_eq_true,not_eq_true'] at h)
 obtain ⟨⟨h1,h2⟩,h3⟩:=h
 show (pure (env.blockKind == .function && env.kindOf x == some .local && pos'.line == pos.line && !(scope.names.any fun(n,k)=>n == x && (k == .local || k == .cell))):Sem Bool)=pure true
 have hb:(env.blockKind == ScopeKind.function)=true:=by
  unfold Env.blockKind
  rw [eq_of_beq h1]
  rfl
 have hk:(env.kindOf x == some NameKind.local)=true:=h2
 rw [hb,hk,hl,h3]
 rfl
def Zio(h:(osc.names.lookup x == some .cell)=true)(e:env.scope=osc):
 swapsWith (.ListComp elt gens scope pos) (some (.Name x pos')) line env=pure false:=by
 subst e
 show (pure (env.blockKind == .function && env.kindOf x == some .local && pos'.line == pos.line && !(scope.names.any fun(n,k)=>n == x && (k == .local || k == .cell))):Sem Bool)=pure false
 have hk:(env.kindOf x == some NameKind.local)=false:=by
  have q:env.kindOf x=some .cell:=eq_of_beq h
  rw [q]
  rfl
 rw [hk,Bool.and_false,Bool.false_and,Bool.false_and]
def Zk3
 (h:Zt sc N i x false=true) (nd:N.Nodup) (hw:ZdH sc scope x=true)
 (hc:X.calm=true) (S:CompScope X k js N' scope) (hit:PI X tg iter wi)
 (hin:∀(cl:List (Str×Addr))(C:Addr)(s₀:Shared)(H₀:Hp)(ex:List Addr),PG (cxC X N' scope cl C s₀ H₀ ex) tg g/\PIf (cxC X N' scope cl C s₀ H₀ ex) ifs tif/\PE (cxC X N' scope cl C s₀ H₀ ex) elt te)
 (hl:autoParam ((pos'.line == pos.line)=true) Q9) (e1:autoParam (X.env.scope=sc) Q9) (e2:autoParam (X.N=N) Q9)
 (hs:∀ x,foldedSetIterable iter X.env x=pure x:=by intro _;rfl):PS X (.Assign [.Name x pos'] (.ListComp elt [⟨tg,iter,ifs,0⟩] scope pos) spos) (tAsg (Zgb k js wi g tif te) (ZcB i)):=by
 obtain ⟨h1,h2,h3,h4⟩:=Zt.at h
 have l:=Zt.loc h
 have w:=fun(e:X.env.scope=sc)=>Zin (elt:=elt) (gens:=[⟨tg,iter,ifs,0⟩]) (pos:=pos) (line:=spos.line) hw hl e
 have w1:=w e1
 subst e1 e2
 exact Zm8 nd h1 l hc S hit hin w1 (.inr h2) hs
end
end L2
namespace L2
open PySem
variable{s:Shared}{k1 t':Nat}{pos:Pos}{X:Cx}{fp:List Addr}
section
def Zip(h1:xs.any (·.1)=false)(h2:ks.any (·.1.isNone)=false)
 (h:wpAny M A (evalArgs (.type T) true xs ks) (fun a s1=>wpAny M A (call (.type T) a.pos a.kw) Q E s1) E s):wpAny M A (callWith q (.type T) [] xs ks) Q E s:=by
 unfold callWith
 refine wpAny_bind (wpAny_holding (wpAny_mono h (fun a s1 z=>wpAny_bind (wpAny_standAt ?_)) fun _ _ y=>y))
 simp only [h1,h2,Bool.or_false]
 exact wpAny_bind (wpAny_pure (wpAny_bind (wpAny_mono z (fun r s2 y=>wpAny_bind (wpAny_holding (wpAny_point (wpAny_pure y)))) fun _ _ y=>y)))
end
section
variable{prog:Program}{w:World}{A:Around}{E:VS}
theorem Zm9(hl:typeLookup (.type T) "__init__"=pure (some (.builtin "object.__init__")))(hm:Bind.madeBy (.type T)=pure (some newId))(hne:(some newId != some "object.__new__")=true)(hx:xs≠[]):
 Meets (Builtin.«object.__init__» ⟨o::xs,kw⟩) (fun _ R s=>s.TypeIs o T/\R (.ok (.ret .none)) s):=by
 refine Meets.of_wp fun prog w A R s z90=>?_
 obtain ⟨hT,hq⟩:=z90
 cases xs with
 | nil=>exact absurd rfl hx
 | cons a xs=>
  (repeat (any_goals (first|assumption|wp_step)))
  exact ⟨.none,rfl,hq⟩
theorem ZmA(ft:TypeCalled T newId "object.__init__")(hne:(some newId != some "object.__new__")=true)
 (c1:checkTypeCall T ⟨xs,kw⟩=pure ()) (c2:checkBuiltinCall newId ⟨.type T::xs,kw⟩=pure ()) (c3:∀ o,argsOk "object.__init__" ⟨o::xs,kw⟩) (hx:xs≠[]) (en:entryFor table newId=some Bn) (g:Meets (Bn ⟨.type T::xs,kw⟩) S)
 (h:S A.in1 (wants (fun o s1=>s1.TypeIs o T/\Q o s1) E) s):wpAny (model prog w) A (call (.type T) xs kw) Q E s:=by
 obtain ⟨c,tl,hm⟩:=ft.mro
 have hmd:=ft.made
 have hsb:=ft.sub
 refine wpAny_call (codeAny_of_tree (show wpAny _ _ (callAny (.type T) _) _ _ _ from ?_))
 refine wpAny_pure (And.intro (Code.quiet_builtin _ (by decide +kernel)) (codeAny_builtin F.entry_type_call ?_))
 rw [Around.under_plain (weight_type_call_type T xs kw) (units_type_call_type T xs kw)]
 have n1:=ft.notType
 have n2:=ft.canCreate
 (repeat (any_goals (first|assumption|wp_step)))
 refine codeAny_mono (codeAny_call_builtin ft.plain en (wpAny_of_eq c2 (g prog w A.in1 _ s h))) fun r s1 hr=>?_
 cases r with
 | error e=>exact hr
 | ok fl=>
  cases fl with
  | ret o=>
   obtain ⟨hT,hQ⟩:=hr
   have b1:=ft.init.lookup
   have b2:=ft.init.bind o
   (repeat (any_goals (first|assumption|wp_step)))
   refine codeAny_mono (codeAny_call_builtin ft.init.plain F.entry_object_init (ft.init.check _ _ _ _ _ _ _ _ hT (c3 o) (Zm9 b1 hmd hne hx prog w A.in1 (wants (fun r s2=>r=.none/\Q o s2) E) s1 ⟨hT,rfl,hQ⟩))) fun r2 s2 hr2=>?_
   cases r2 with
   | error e=>exact hr2
   | ok fl2=>
    cases fl2 with
    | ret r=>
     obtain ⟨rfl,hq⟩:=hr2
     (repeat (any_goals (first|assumption|wp_step)))
    | _=>exact hr2.elim
  | _=>exact hr.elim
def Zos{α β:Type}{M:Model}{A:Around}{E:VS}{Q:β->Shared->Prop}{f:α->Sem β}{x:α}(h:∀ a,wpAny M A (f a) Q E s):wpAny M A (f x) Q E s:=h x
def Zjq(a:Value)(c:Int)(t:Tok):checkTypeCall "enumerate" ⟨[a],[("start",.int c t)]⟩=pure ():=by kernel_rfl
def Zjr(a:Value)(c:Int)(t:Tok):checkBuiltinCall "enumerate.__new__" ⟨[.type "enumerate",a],[("start",.int c t)]⟩=pure ():=by kernel_rfl
def Zjs(o a:Value)(c:Int)(t:Tok):argsOk "object.__init__" ⟨[o,a],[("start",.int c t)]⟩:=by
 unfold argsOk;rw [signature?_of (id:="object.__init__") (n:=['_','_','t','i','n','i','_','_']) (o:=['t','c','e','j','b','o']) (by kernel_rfl) F.owner_object];kernel_rfl
def Zot(l:Addr)(its:Array Value)(c:Int)(t:Tok)(hc:Builtin.SmallTypes.fitsIndex c=true):
 Meets (Builtin.«enumerate.__new__» ⟨[.type "enumerate",.ref l],[("start",.int c t)]⟩) (fun _ R s=>s.heap.IsList l its/\R (.ok (.ret (.ref (s.heap.push { cls:=.type "list_iterator",data:=.fields #[.ref l,.int 0 0] }).objs.size)))
  { s with heap:=(s.heap.push { cls:=.type "list_iterator",data:=.fields #[.ref l,.int 0 0] }).push { cls:=.type "enumerate",data:=.fields #[.none,.bool false,.ref s.heap.objs.size,rawInt c,.none,.none] } }):=
 .of_wp fun prog w A R s h=>by
  obtain ⟨hp,gs,dr,tk,os⟩:=s
  obtain ⟨hL,h⟩:=h
  obtain ⟨⟨cl,dct,dt,sl⟩,hl,e1,n,e2⟩:=id hL
  replace e1:cl=.type "list":=e1
  replace e2:dt=.seq its n:=e2
  subst e1 e2
  have hsub:=sub_enumerate
  wp_walk using AutoSeq1.wpAny_loadPart' hl
  (refine wpAny_stack_any fun st=>wpAny_pure ?_)
  refine Zos fun short=>?_
  have hf:(!Builtin.SmallTypes.fitsIndex c)=false:=by rw [hc];rfl
  cases short
  . refine wpAny_bind (wpAny_of_eq (a:=(Value.ref l,some (Value.int c t))) (by kernel_rfl) ?_)
    wp_walk using wpAny_pyIter_list hL
    exact ⟨_,rfl,h⟩
  . refine wpAny_bind (wpAny_of_eq (a:=(Value.ref l,some (Value.int c t))) (by kernel_rfl) ?_)
    wp_walk using wpAny_pyIter_list hL
    exact ⟨_,rfl,h⟩
def ZmB(he:IsEnum s.heap e it c old)(hi:s.heap.IsListIter it l i)(hl:s.heap.IsList l its)(hx:its[i]?=some x)(ne:e≠it)
 (hQ:∀ h',IsEnumOut h' e it (c+1) x s.heap.objs.size->h'.IsListIter it l (i+1)->h'.get? s.heap.objs.size=some { cls:=.type "tuple",data:=.seq #[.int c s.toks,x] }->
  (∀ b o,b≠e->b≠it->s.heap.get? b=some o->h'.get? b=some o)->Q (some (.ref s.heap.objs.size)) { s with heap:=h',toks:=s.toks+1 }):wpAny (model prog w) A (pyNext (.ref e)) Q E s:=by
 (have hT:s.TypeIs (.ref e) "enumerate":=⟨_,he,rfl⟩)
 unfold pyNext
 refine wpAny_bind (wpAny_attempt (wpAny_callSpecial?_slot (name:=Str.ofString "__next__") hT F.slot_enumerate_next (wpAny_call_entry F.slot_enumerate_next hT F.entry_enumerate_next ?_ (F.args_enumerate_next_1 _))))
 obtain ⟨hp,gs,dr,tk,os⟩:=s
 (have hel:e < hp.objs.size:=Heap.lt_size he)
 show wpAny (model prog w) A.in1 (field (.ref e) 2 >>= _) _ _ _
 refine wpAny_bind (wpAny_field he rfl (x:=.ref it) rfl (wpAny_bind (wpAny_nextOf_list_item hi hl hx fun g1 i1 k1=>?_)))
 replace k1:Heap.SameBut it hp g1:=k1
 have e1:IsEnum g1 e it c old:=(k1.2 e ne).trans he
 show wpAny (model prog w) A.in1 (field (.ref e) 3 >>= _) _ _ ⟨g1,gs,dr,tk,os⟩
 refine wpAny_bind (wpAny_field e1 rfl (x:=rawInt c) rfl ?_)
 show wpAny (model prog w) A.in1 (field (.ref e) 4 >>= _) _ _ ⟨g1,gs,dr,tk,os⟩
 refine wpAny_bind (wpAny_field e1 rfl (x:=.none) rfl ?_)
 show wpAny (model prog w) A.in1 (mkInt c >>= _) _ _ ⟨g1,gs,dr,tk,os⟩
 (refine wpAny_bind (wpAny_mkInt ?_))
 show wpAny (model prog w) A.in1 (setField (.ref e) 3 (rawInt (c+1)) >>= _) _ _ ⟨g1,gs,dr,tk+1,os⟩
 refine wpAny_bind (wpAny_setField_rec e1 (by simp) fun g2 e2 k2=>?_)
 replace k2:Heap.SameBut e g1 g2:=k2
 replace e2:IsEnum g2 e it (c+1) old:=e2
 show wpAny (model prog w) A.in1 (setField (.ref e) 4 .none >>= _) _ _ ⟨g2,gs,dr,tk+1,os⟩
 refine wpAny_bind (wpAny_setField_rec e2 (by simp) fun g3 e3 k3=>?_)
 replace k3:Heap.SameBut e g2 g3:=k3
 replace e3:IsEnum g3 e it (c+1) old:=e3
 have z3:g3.objs.size=hp.objs.size:=by rw [k3.1,k2.1,k1.1]
 show wpAny (model prog w) A.in1 (newTuple [.int c tk,x] >>= _) _ _ ⟨g3,gs,dr,tk+1,os⟩
 (refine wpAny_bind (wpAny_newTuple ?_))
 have e4:IsEnum (g3.push { cls:=.type "tuple",data:=.seq #[.int c tk,x] }) e it (c+1) old:=Heap.get?_push_of_some _ e3
 have t4:(g3.push { cls:=.type "tuple",data:=.seq #[.int c tk,x] }).get? hp.objs.size=some { cls:=.type "tuple",data:=.seq #[.int c tk,x] }:=by rw [<- z3];exact Heap.get?_push_size _ rfl
 have i4:(g3.push { cls:=.type "tuple",data:=.seq #[.int c tk,x] }).IsListIter it l (i+1):=by
  obtain ⟨o,ho,r⟩:=(i1.extBut k2.extBut (Ne.symm ne)).extBut k3.extBut (Ne.symm ne)
  exact ⟨o,Heap.get?_push_of_some _ ho,r⟩
 have b4:∀ b o,b≠e->b≠it->hp.get? b=some o->(g3.push { cls:=.type "tuple",data:=.seq #[.int c tk,x] }).get? b=some o:=fun b o n1 n2 y=>Heap.get?_push_of_some _ (k3.extBut b o n1 (k2.extBut b o n1 (k1.extBut b o n2 y)))
 generalize g3.push { cls:=.type "tuple",data:=.seq #[.int c tk,x] }=g4 at e4 t4 i4 b4 ⊢
 rw [z3]
 show wpAny (model prog w) A.in1 (Builtin.SmallTypes.ownedTupleIsFree (.ref e) >>= _) _ _ ⟨g4,gs,dr,tk+1,os⟩
 clear e3 k3 e2 k2 e1 k1 i1 z3 g3 g2 g1
 refine wpAny_bind ?_
 (unfold Builtin.SmallTypes.ownedTupleIsFree)
 refine wpAny_bind (wpAny_field e4 rfl (x:=.none) rfl (wpAny_pure ?_))
 simp only [if_true]
 refine wpAny_bind (wpAny_rule (wpAny_bind (wpAny_field e4 rfl (x:=old) rfl (wpAny_bind (wpAny_setField_rec e4 (by simp) fun g5 e5 k5=>?_)))))
 replace k5:Heap.SameBut e g4 g5:=k5
 replace e5:IsEnum g5 e it (c+1) x:=e5
 show wpAny (model prog w) A.in1 (Builtin.SmallTypes.ownedTupleHandOut (.ref e) (.ref hp.objs.size) >>= _) _ _ ⟨g5,gs,dr,tk+1,os⟩
 refine wpAny_bind ?_
 (unfold Builtin.SmallTypes.ownedTupleHandOut)
 refine wpAny_bind (wpAny_setField_rec e5 (by simp) fun g6 e6 k6=>?_)
 replace k6:Heap.SameBut e g5 g6:=k6
 replace e6:IsEnumOut g6 e it (c+1) x hp.objs.size:=e6
 refine wpAny_setField_rec e6 (by simp) fun g7 e7 k7=>?_
 replace k7:Heap.SameBut e g6 g7:=k7
 replace e7:IsEnumOut g7 e it (c+1) x hp.objs.size:=e7
 have up:∀ b o,b≠e->g4.get? b=some o->g7.get? b=some o:=fun b o n y=>k7.extBut b o n (k6.extBut b o n (k5.extBut b o n y))
 refine wpAny_bind (wpAny_letGo (wpAny_pure ⟨_,rfl,wpAny_pure (hQ g7 e7 ?_ (up _ _ (ne_of_gt hel) t4) fun b o n1 n2 y=>up b o n1 (b4 b o n1 n2 y))⟩))
 exact ((i4.extBut k5.extBut (Ne.symm ne)).extBut k6.extBut (Ne.symm ne)).extBut k7.extBut (Ne.symm ne)
def Zou(hh:A.handled=none)(he:IsEnum s.heap e it c old)(hi:s.heap.IsListIter it l i)(hl:s.heap.IsList l its)(hx:its[i]?=none)
 (hQ:∀ g,Heap.ExtBut it s.heap g->Q none { s with heap:=g }):wpAny (model prog w) A (pyNext (.ref e)) Q E s:=by
 (have hT:s.TypeIs (.ref e) "enumerate":=⟨_,he,rfl⟩)
 unfold pyNext
 refine wpAny_bind (wpAny_attempt (wpAny_callSpecial?_slot (name:=Str.ofString "__next__") hT F.slot_enumerate_next (wpAny_call_entry F.slot_enumerate_next hT F.entry_enumerate_next ?_ (F.args_enumerate_next_1 _))))
 show wpAny (model prog w) A.in1 (field (.ref e) 2 >>= _) _ _ _
 refine wpAny_bind (wpAny_field he rfl (x:=.ref it) rfl (wpAny_bind (wpAny_nextOf_list_end hh hi hl hx fun h' y b1 z0=>?_)))
 obtain ⟨o,b2,b3⟩:=z0
 exact wpAny_bind (wpAny_isInstance (T:="StopIteration") (b:=true) ⟨o,b2,b3⟩ isSubtype_stop (wpAny_pure (hQ _ b1)))
def ZmC(hL:s.heap.IsList l its)(hc:Builtin.SmallTypes.fitsIndex c=true)
 (h:∀ h',IsEnum h' (s.heap.objs.size+1) s.heap.objs.size c .none->h'.IsListIter s.heap.objs.size l 0->(∀ b o,s.heap.get? b=some o->h'.get? b=some o)->Q (.ref (s.heap.objs.size+1)) { s with heap:=h' }):
 wpAny (model prog w) A (call (.type "enumerate") [.ref l] [("start",.int c t)]) Q E s:=by
 refine ZmA F.called_enumerate (by decide) (Zjq _ _ _) (Zjr _ _ _) (fun o=>Zjs o _ _ _) (by simp) F.entry_enumerate_new (Zot l its c t hc) ⟨hL,?_⟩
 have hz:=Heap.size_push s.heap { cls:=.type "list_iterator",data:=.fields #[.ref l,.int 0 0] }
 show _/\Q (.ref _) _
 rw [hz]
 have y:=Heap.get?_push_size (s.heap.push { cls:=.type "list_iterator",data:=.fields #[.ref l,.int 0 0] }) (o:={ cls:=.type "enumerate",data:=.fields #[.none,.bool false,.ref s.heap.objs.size,rawInt c,.none,.none] }) rfl
 rw [hz] at y
 exact ⟨⟨_,y,rfl⟩,h _ y ⟨_,Heap.get?_push_of_some _ (Heap.get?_push_size _ rfl),rfl,rfl⟩ fun b o x=>Heap.get?_push_of_some _ (Heap.get?_push_of_some _ x)⟩
end
open PySem.Spec
section
variable{pins:Pn}{σ:St}{H:Hp}{h':Heap}
def Inv.turnedL(I:Inv X pins σ H s)(k:∀ b o,b∉fp->s.heap.get? b=some o->h'.get? b=some o)(hf:∀ b∈fp,FpOk X pins H b):Inv X pins σ H { s with heap:=h',toks:=t' }:=by
 have nf:∀ b u,H b=some u->b∉fp:=fun b u e z=>by rw [(hf b z).1] at e;cases e
 have hL:X.env.locals∉fp:=fun z=>(hf _ z).2.1 rfl
 refine I.step (g':=s.gens) (d':=s.drawn) (ch:=fp) (fun b hb=>?_) (fun b o _ _ hc e _=>k b o hc e) (fun b o _ _ hc e _=>⟨o.slots,k b o hc e⟩) (fun _ _ _ _ n=>n) (fun b o hc e=>⟨o,k b o hc e⟩)
  (fun _ _ e=>e) (fun _ _ _ e=>e) (fun b ps e=>⟨#[],by rw [e];simp⟩) (fun m hm=>?_) (fun b u e=>?_) I.bare
 . obtain ⟨f0,f1,f2,f3,f4,f5⟩:=hf b hb
   exact ⟨f3,f1,f4,f5⟩
 . obtain ⟨o,es,ep,ho,r⟩:=hm
   exact ⟨o,es,ep,k _ o hL ho,r⟩
 . refine (I.hok b u e).stay (fun c v hc q=>k c v ?_ q) (fun _ q=>q) fun _ _ q=>q
   exact hc.elim (fun z=>by rw [z];exact nf b u e) fun z=>nf c _ z
def Zha{h:Heap}{o o':Obj}{b:Addr}(hb:b < h.objs.size)(e:(h.push o).get? b=some o'):h.get? b=some o':=by
 (obtain ⟨e1,e2⟩:=Heap.get?_some_iff.mp e)
 refine Heap.get?_some_iff.mpr ⟨?_,e2⟩
 cases h
 simpa [Heap.push,Array.getElem?_push,ne_of_lt hb] using e1
def Inv.laidT{xs:List V}{us:List Value}(I:Inv X pins σ H s)(r:Vals xs us)(hz:xs.length<=sizeLine)(ht:h'.get? s.heap.objs.size=some { cls:=.type "tuple",data:=.seq us.toArray })
 (k:∀ b o,b∉fp->s.heap.get? b=some o->h'.get? b=some o) (hf:∀ b∈fp,FpOk X pins H b) (hlt:∀ b∈fp,b < s.heap.objs.size):Inv X pins σ (upd H s.heap.objs.size (.tup xs)) { s with heap:=h',toks:=t' }:=by
 have I1:Inv X pins σ (upd H s.heap.objs.size (.tup xs)) { s with heap:=s.heap.push { cls:=.type "tuple",data:=.seq us.toArray },toks:=t' }:=
  I.laid (fun b u e=>Heap.get?_push_of_some _ e) (le_refl _) ⟨hz,us,r,⟨_,Heap.get?_push_size _ rfl,rfl,_,rfl⟩⟩
 refine (fun(go:∀ b o,b∉fp->(s.heap.push { cls:=.type "tuple",data:=.seq us.toArray }).get? b=some o->h'.get? b=some o)=>?_) fun b o hb e=>?_
 . exact Inv.turnedL (s:={ s with heap:=s.heap.push { cls:=.type "tuple",data:=.seq us.toArray },toks:=t' }) (fp:=fp) (t':=t') (h':=h') I1 go fun b hb=>⟨by rw [Zn (ne_of_lt (hlt b hb))];exact (hf b hb).1,(hf b hb).2⟩
 . by_cases hq:b=s.heap.objs.size
   . subst hq
     rw [Heap.get?_push_size _ rfl] at e
     rw [<- e]
     exact ht
   . have:b < s.heap.objs.size:=by
      have:=Heap.lt_size e
      rw [Heap.size_push] at this
      exact Nat.lt_of_le_of_ne (Nat.le_of_lt_succ this) hq
     exact k b o hb (Zha this e)
end
noncomputable def Ite(K:Fg)(a:Addr)(c:Int):It where
 go i H:=∃ xs x,SqL K H a xs/\xs[i]?=some x
 yld i H x H':=∃ A y,x=.ref A/\H A=none/\H'=upd H A (.tup [.int (c+i),y])/\∀ xs,SqL K H a xs->xs[i]?=some y
 stop i H:=∃ xs,SqL K H a xs/\xs.length<=i
def Zjt{P:Program}{w:World}{K:Fg}{es:List Expr}(a e it:Addr)(c:Int)(ne:e≠it):Turn P w K (.Tuple es k1 pos) (Ite K a c) [e,it] e (fun i h=>(∃ old,IsEnum h e it (c+(i:Nat)) old)/\h.IsListIter it a i) where
 mem:=by simp
 obj:=fun i h st b hb=>by
  obtain ⟨⟨old,he⟩,o,e1,e2,e3⟩:=st
  (rcases List.mem_cons.mp hb with rfl|hb)
  . exact ⟨_,he,fun v z=>by
     have z':Data.fields _=Data.cell v:=z
     cases z'⟩
  . have:b=it:=by simpa using hb
    subst this
    exact ⟨o,e1,fun v z=>by rw [e3] at z;cases z⟩
 keep:=fun i h h' st k=>⟨st.1.imp fun old he=>k e (by simp) _ he,st.2.at fun o y=>k it (by simp) o y⟩
 item:=by
  intro X hP hw hK hc i pins s σ H E I hf st hg
  subst hP hw hK
  obtain ⟨xs,x,hq,hx⟩:=hg
  obtain ⟨its,rv,p,hz⟩:=I.list hq
  obtain ⟨u,hu,ru⟩:=rv.get hx
  obtain ⟨⟨old,he⟩,hi⟩:=st
  have le:e < s.heap.objs.size:=Heap.lt_size he
  have li:it < s.heap.objs.size:=by obtain ⟨_,y,_⟩:=hi;exact Heap.lt_size y
  have lt:∀ b∈[e,it],b < s.heap.objs.size:=fun b hb=>by
   (rcases List.mem_cons.mp hb with rfl|hb)
   . exact le
   . rw [List.mem_singleton.mp hb];exact li
  refine ZmB he hi p.isList (x:=u) (by simpa using hu) ne fun h' ho hi' ht hk=>⟨_,rfl,?_⟩
  refine wpAny_letOwnedTupleGo_enum ho fun h2 he2 hs2=>?_
  have up:∀ b o,b≠e->h'.get? b=some o->h2.get? b=some o:=fun b o n y=>hs2.extBut b o n y
  have I2:=I.laidT (fp:=[e,it]) (h':=h2) (t':=s.toks+1) (xs:=[.int (c+i),x]) (us:=[.int (c+i) s.toks,u]) (.cons ⟨_,rfl⟩ (.cons ru .nil)) (by simp [sizeLine])
   (up _ _ (ne_of_gt le) ht) (fun b o hb y=>up b o (fun z=>hb (by simp [z])) (hk b o (fun z=>hb (by simp [z])) (fun z=>hb (by simp [z])) y)) hf lt
  refine ⟨.ref s.heap.objs.size,_,I2,rfl,⟨_,x,rfl,I.hok.fresh (le_refl _),rfl,fun ys hy=>by rw [I.list_inj hy hq];exact hx⟩,⟨⟨u,?_⟩,hi'.at fun o y=>up it o (Ne.symm ne) y⟩,fun b hb=>?_⟩
  . have z:c+((i+1:Nat):Int)=c+i+1:=by omega
    rw [z]
    exact he2
  . rw [Zn (ne_of_lt (lt b hb))]
    exact (hf b hb).1
 done:=by
  intro X hP hw hK hc i pins s σ H E I hf st hg
  subst hP hw hK
  obtain ⟨xs,hq,hx⟩:=hg
  obtain ⟨its,rv,p,hz⟩:=I.list hq
  obtain ⟨⟨old,he⟩,hi⟩:=st
  have hl:=rv.length
  exact Zou (I.ok.hd hc) he hi p.isList (by simp;omega) fun h' eb=>⟨rfl,I.turnedL (t':=s.toks) (fun b o hb y=>eb b o (fun z=>hb (by simp [z])) y) hf⟩
 self:=fun _ _ _ _ _ st h=>by
  obtain ⟨⟨old,he⟩,_⟩:=st
  exact wpAny_pyIter_enum he h
section
noncomputable def Ziq(K:Fg)(c:Int)(t:TA):TI:=fun σ H R=>t σ H fun vs H1=>∃ a,vs=[.ref a]/\(∃ xs,SqL K H1 a xs)/\R (Ite K a c) H1
def ZlF(I:Inv X pins σ H s)(he:IsEnum h' (s.heap.objs.size+1) s.heap.objs.size c .none)(hi:h'.IsListIter s.heap.objs.size a 0)
 (hk:∀ b o,s.heap.get? b=some o->h'.get? b=some o) (z:R (Ite X.K a c) H):wpAny (model X.prog X.w) X.A (pyIter (.ref (s.heap.objs.size+1))) (PIE X pins σ (.Tuple es k1 q) R) E { s with heap:=h' }:=by
 refine wpAny_pyIter_enum he ⟨_,[s.heap.objs.size+1,s.heap.objs.size],_,_,H,rfl,I.kept (t':=s.toks) hk,Zjt a _ _ c (Nat.succ_ne_self _),⟨⟨_,by simpa using he⟩,hi⟩,fun b hb=>?_,z⟩
 have:s.heap.objs.size<=b:=by
  (rcases List.mem_cons.mp hb with rfl|hb)
  . omega
  . rw [List.mem_singleton.mp hb];exact le_refl _
 exact I.fpOk this (I.hok.fresh this)
theorem ZmD(hg:Gl X "enumerate")(hm:X.mg "enumerate"=none)(ha:PA X [l] t)(hs:autoParam (starEach [l] X.env=[(false,eval l X.env)]) Q9):PI X (.Tuple es k1 q) (.Call (.Name "enumerate" p) [l] [] pos) (Ziq X.K 0 t):=by
 intro pins s σ H R I h
 refine PyProof.Rows.Call_ (Zbv I hg hm boot_enumerate (PyProof.Rows.callWith_type1 (thn (ha pos pins s σ H _ I h) fun us s1 z0=>?_) hs rfl))
 obtain ⟨vs,H1,I1,r1,q1⟩:=z0
 obtain ⟨a,e,⟨xs,hq⟩,z⟩:=q1
 subst e
 cases r1 with
 | cons r rr=>
  cases rr
  cases r
  obtain ⟨its,rv,pl,hz⟩:=I1.list hq
  exact call_enumerate_list pl.isList fun h' he hi _ hk=>ZlF I1 he hi hk z
theorem Zk4(hg:Gl X "enumerate")(hm:X.mg "enumerate"=none)(ha:PA X [l] t)(hke:PE X ke (tC (.int c)))(hc:Builtin.SmallTypes.fitsIndex c=true)(hs:autoParam (starEach [l] X.env=[(false,eval l X.env)]) Q9):PI X (.Tuple es k1 q) (.Call (.Name "enumerate" p) [l] [⟨some "start",ke,kp⟩] pos) (Ziq X.K c t):=by
 intro pins s σ H R I h
 refine wpAny_Call_Name_kw (Zbv I hg hm boot_enumerate (Zip (by show _=_;rw [hs];rfl) rfl ?_))
 rw [hs]
 refine PyProof.Rows.evalArgs_kwB rfl ?_
 have ha':=ha pos pins s σ H _ I h
 rw [hs] at ha'
 refine thn ha' fun us s1 z0=>?_
 obtain ⟨vs,H1,I1,r1,q1⟩:=z0
 obtain ⟨a,e,⟨xs,hq⟩,z⟩:=q1
 subst e
 cases r1 with
 | cons r rr=>
  cases rr
  cases r
  refine thn (Zmo (nm:=some "start") (kpos:=kp) hke ZnY pos pins s1 σ H1 (fun vs H2=>vs=[.int c]/\H2=H1) I1 ⟨rfl,rfl⟩) fun ws s2 z0=>?_
  obtain ⟨zs,H2,I2,r2,e1,e2⟩:=z0
  subst e1 e2
  cases r2 with
  | cons r rr=>
   cases rr
   obtain ⟨tt,rfl⟩:=r
   obtain ⟨its,rv,pl,hz⟩:=I2.list hq
   exact ZmC pl.isList hc fun h' he hi hk=>ZlF I2 he hi hk z
end
noncomputable def Itz(K:Fg)(a b:Addr):It where
 go i H:=∃ xs ys x y,SqL K H a xs/\SqL K H b ys/\xs[i]?=some x/\ys[i]?=some y
 yld i H x H':=∃ A u v,x=.ref A/\H A=none/\H'=upd H A (.tup [u,v])/\(∀ xs,SqL K H a xs->xs[i]?=some u)/\∀ ys,SqL K H b ys->ys[i]?=some v
 stop i H:=∃ xs ys,SqL K H a xs/\SqL K H b ys/\(xs.length<=i\/ys.length<=i)
def mem5{P:Addr->Prop}{z t u v w:Addr}(h1:P z)(h2:P t)(h3:P u)(h4:P v)(h5:P w):∀ b∈[z,t,u,v,w],P b:=fun b hb=>by
 (simp only [mem_cons,not_mem_nil,or_false] at hb)
 rcases hb with rfl|rfl|rfl|rfl|rfl<;>assumption
def Zk5{P:Program}{w:World}{K:Fg}{es:List Expr}(a b z TI TO i1 i2:Addr)(ap:ZipApart z TI TO i1 i2 a b):Turn P w K (.Tuple es k1 pos) (Itz K a b) [z,TI,TO,i1,i2] z
 (fun i h=>IsZip h z TI TO .none/\IsPair h TI (.ref i1) (.ref i2)/\(∃ u v,IsPair h TO u v)/\h.IsListIter i1 a i/\h.IsListIter i2 b i) where
 mem:=by simp
 obj:=fun i h st=>by
  obtain ⟨hz,hI,⟨u,v,hO⟩,⟨o1,e1,c1,d1⟩,⟨o2,e2,c2,d2⟩⟩:=st
  refine mem5 (P:=fun b=>∃ o,h.get? b=some o/\∀ v,o.data≠.cell v) ⟨_,hz,fun v q=>?_⟩ ⟨_,hI,fun v q=>?_⟩ ⟨_,hO,fun v q=>?_⟩ ⟨o1,e1,fun v q=>by rw [d1] at q;cases q⟩ ⟨o2,e2,fun v q=>by rw [d2] at q;cases q⟩
  . have q':Data.fields _=Data.cell v:=q
    cases q'
  . have q':Data.seq _ _=Data.cell v:=q
    cases q'
  . have q':Data.seq _ _=Data.cell _:=q
    cases q'
 keep:=fun i h h' st k=>⟨k z (by simp) _ st.1,k TI (by simp) _ st.2.1,st.2.2.1.imp fun u hu=>hu.imp fun v hv=>k TO (by simp) _ hv,st.2.2.2.1.at fun o y=>k i1 (by simp) o y,st.2.2.2.2.at fun o y=>k i2 (by simp) o y⟩
 item:=by
  intro X hP hw hK hc i pins s σ H E I hf st hg
  subst hP hw hK
  obtain ⟨xs,ys,x,y,hqx,hqy,hx,hy⟩:=hg
  obtain ⟨its,rv,p,_⟩:=I.list hqx
  obtain ⟨jts,rw',p',_⟩:=I.list hqy
  obtain ⟨u,hu,ru⟩:=rv.get hx
  obtain ⟨v,hv,rv'⟩:=rw'.get hy
  obtain ⟨hz,hI,⟨u0,v0,hO⟩,hi1,hi2⟩:=st
  have lt:∀ b∈[z,TI,TO,i1,i2],b < s.heap.objs.size:=mem5 (P:=fun b=>b < s.heap.objs.size) (Heap.lt_size hz) (Heap.lt_size hI) (Heap.lt_size hO) (by obtain ⟨_,q,_⟩:=hi1;exact Heap.lt_size q) (by obtain ⟨_,q,_⟩:=hi2;exact Heap.lt_size q)
  refine wpAny_pyNext_zip_item ap hz hI hO hi1 hi2 p.isList p'.isList (x:=u) (y:=v) (by simpa using hu) (by simpa using hv) fun h' ho hO' hi1' hi2' hT _ hk=>⟨_,rfl,?_⟩
  refine wpAny_letOwnedTupleGo_zip ho fun h2 hz2 hs2=>?_
  have up:∀ b o,b≠z->h'.get? b=some o->h2.get? b=some o:=fun b o n q=>hs2.extBut b o n q
  have zlt:=lt z (by simp)
  have I2:=I.laidT (fp:=[z,TI,TO,i1,i2]) (h':=h2) (t':=s.toks) (xs:=[x,y]) (us:=[u,v]) (.cons ru (.cons rv' .nil)) (by simp [sizeLine])
   (up _ _ (ne_of_gt zlt) hT) (fun b o hb q=>up b o (fun e=>hb (by simp [e])) (hk b o (fun e=>hb (by simp [e])) (fun e=>hb (by simp [e])) (fun e=>hb (by simp [e])) (fun e=>hb (by simp [e])) q)) hf lt
  have hI':IsPair h' TI (.ref i1) (.ref i2):=hk TI _ ap.TIz ap.TITO ap.TIi1 ap.TIi2 hI
  refine ⟨.ref s.heap.objs.size,_,I2,rfl,⟨_,x,y,rfl,I.hok.fresh (le_refl _),rfl,fun zs q=>by rw [I.list_inj q hqx];exact hx,fun zs q=>by rw [I.list_inj q hqy];exact hy⟩,
   ⟨hz2,up _ _ ap.TIz hI',⟨u,v,up _ _ ap.TOz hO'⟩,hi1'.at fun o q=>up i1 o ap.i1z q,hi2'.at fun o q=>up i2 o ap.i2z q⟩,fun b hb=>?_⟩
  rw [Zn (ne_of_lt (lt b hb))]
  exact (hf b hb).1
 done:=by
  intro X hP hw hK hc i pins s σ H E I hf st hg
  subst hP hw hK
  obtain ⟨xs,ys,hqx,hqy,hend⟩:=hg
  obtain ⟨its,rv,p,_⟩:=I.list hqx
  obtain ⟨jts,rw',p',_⟩:=I.list hqy
  obtain ⟨hz,hI,⟨u0,v0,hO⟩,hi1,hi2⟩:=st
  have l1:=rv.length
  have l2:=rw'.length
  refine wpAny_pyNext_zip_end (I.ok.hd hc) ap hz hI hO hi1 hi2 p.isList p'.isList ?_ fun h' hk=>⟨rfl,I.turnedL (t':=s.toks) (fun b o hb q=>hk b o (fun e=>hb (by simp [e])) (fun e=>hb (by simp [e])) (fun e=>hb (by simp [e])) (fun e=>hb (by simp [e])) q) hf⟩
  rcases hend with h|h
  . exact .inl (by simp;omega)
  . exact .inr (by simp;omega)
 self:=fun _ _ _ _ _ st h=>wpAny_pyIter_zip st.1 h
section
variable{es:List Expr}{l r:Expr}{t:TA}{p q:Pos}
noncomputable def iZip(K:Fg)(t:TA):TI:=fun σ H R=>t σ H fun vs H1=>∃ a b,vs=[.ref a,.ref b]/\(∃ xs,SqL K H1 a xs)/\(∃ ys,SqL K H1 b ys)/\R (Itz K a b) H1
theorem Zov(hg:Gl X "zip")(hm:X.mg "zip"=none)(ha:PA X [l,r] t)(hs:autoParam (starEach [l,r] X.env=[(false,eval l X.env),(false,eval r X.env)]) Q9)(hs2:autoParam (starEach [r] X.env=[(false,eval r X.env)]) Q9):PI X (.Tuple es k1 q) (.Call (.Name "zip" p) [l,r] [] pos) (iZip X.K t):=by
 intro pins s σ H R I h
 refine PyProof.Rows.Call_ (Zbv I hg hm PyProof.Rows.boot_zip (PyProof.Rows.callWith_type1 (thn (ha pos pins s σ H _ I h) fun us s1 z0=>?_) (by show _=_;rw [hs,hs2]) (by show _=_;rw [hs2];rfl)))
 obtain ⟨vs,H1,I1,r1,q1⟩:=z0
 obtain ⟨a,b,e,⟨xs,hq⟩,⟨ys,hq'⟩,y⟩:=q1
 subst e
 cases r1 with
 | cons u uu=>
  cases uu with
  | cons u' uu=>
   cases uu
   cases u
   cases u'
   obtain ⟨its,rv,pl,_⟩:=I1.list hq
   obtain ⟨jts,rw',pl',_⟩:=I1.list hq'
   have la:@LT.lt Nat _ a s1.heap.objs.size:=by obtain ⟨o,n,e,_⟩:=pl;exact Heap.lt_size e
   have lb:@LT.lt Nat _ b s1.heap.objs.size:=by obtain ⟨o,n,e,_⟩:=pl';exact Heap.lt_size e
   refine call_zip_2 pl.isList pl'.isList fun h' hz hI hO hi1 hi2 _ hk=>wpAny_pyIter_zip hz ?_
   generalize hn:s1.heap.objs.size=n at *
   have ap:ZipApart (n+4) (n+2) (n+3) n (n+1) a b:=by
    have c1:@LT.lt Nat _ a n:=la
    have c2:@LT.lt Nat _ b n:=lb
    constructor<;>(first|exact ne_of_lt (by omega)|exact ne_of_gt (by omega))
   refine ⟨_,[n+4,n+2,n+3,n,n+1],_,_,H1,rfl,I1.kept (t':=s1.toks) hk,Zk5 a b _ _ _ _ _ ap,⟨hz,hI,⟨_,_,hO⟩,hi1,hi2⟩,?_,y⟩
   refine mem5 (P:=fun b=>FpOk X pins H1 b) ?_ ?_ ?_ ?_ ?_<;>exact I1.fpOk (by rw [hn];omega) (I1.hok.fresh (by rw [hn];omega))
end
end L2
namespace T
open PySem L2
variable{H Hs H' H1 Hs1 Hs' H2 Hs2:Hp}{σ:St}{δ δ' ds δ1 δ2:List D}{X:Cx}{pos:Pos}{m1 m2 M' m':Bud}{fi:FI}{α:Type}{w1 w2:W}{j:Nat}{lend:Bool}
inductive Kd where
 | lst|frl|tup|ftp|dic (ks:List Key)|ins (C:Addr) (fs:List Str)|exc (ns:List Str) (fr:Bool) (fs:List Str)
 deriving DecidableEq
inductive D where
 | sc (v:V)|hole|node (k:Kd) (o:Bool) (ds:List D)
mutual
noncomputable def shr:D->D
 | .sc v=>.sc v
 | .hole=>.hole
 | .node k _ ds=>.node k false (shrL ds)
noncomputable def shrL:List D->List D
 | []=>[]
 | d::ds=>shr d::shrL ds
end
theorem Zdw:∀ ds:List D,shrL ds=ds.map shr
 | []=>rfl
 | d::ds=>by rw [shrL,Zdw ds];rfl
def Zdx(K:Fg)(H:Hp)(a:Addr)(vs:List V):Kd->Prop
 | .lst=>H a=some (.lst vs)
 | .frl=>SqL K H a vs
 | .tup=>H a=some (.tup vs)
 | .ftp=>SqT K H a vs
 | .dic ks=>ks.length=vs.length/\H a=some (.dK (ks.zip vs))
 | .ins C fs=>fs.length=vs.length/\∃ dx,H a=some (.ins C dx (fs.zip vs))
 | .exc ns fr fs=>fs.length=vs.length/\∃ C dx,XN K ns C/\H a=some (.exc C dx fr (fs.zip vs))
def ZaO(K:Fg)(H:Hp)(a:Addr)(vs:List V):Kd->Prop
 | .lst=>H a=some (.lst vs)
 | .frl=>False
 | .tup=>H a=some (.tup vs)
 | .ftp=>False
 | .dic ks=>ks.length=vs.length/\H a=some (.dK (ks.zip vs))
 | .ins C fs=>fs.length=vs.length/\∃ dx,H a=some (.ins C dx (fs.zip vs))
 | .exc ns fr fs=>fs.length=vs.length/\∃ C dx,XN K ns C/\H a=some (.exc C dx fr (fs.zip vs))
theorem ZaO.r{K:Fg}{a:Addr}{vs:List V}{k:Kd}(h:ZaO K H a vs k):Zdx K H a vs k:=by
 cases k with
 | lst=>exact h
 | frl=>exact h.elim
 | tup=>exact h
 | ftp=>exact h.elim
 | dic ks=>exact h
 | ins C fs=>exact h
 | exc ns fr fs=>exact h
theorem ZaO.at{K:Fg}{a:Addr}{vs:List V}{k:Kd}(h:ZaO K H a vs k):H a≠none:=by
 cases k with
 | lst=>rw [show H a=_ from h];simp
 | frl=>exact h.elim
 | tup=>rw [show H a=_ from h];simp
 | ftp=>exact h.elim
 | dic ks=>rw [h.2];simp
 | ins C fs=>obtain ⟨_,dx,e⟩:=h;rw [e];simp
 | exc ns fr fs=>obtain ⟨_,C,dx,_,e⟩:=h;rw [e];simp
theorem ZaO.eq{K:Fg}{a:Addr}{vs:List V}{k:Kd}(h:ZaO K H a vs k)(e:H' a=H a):ZaO K H' a vs k:=by
 cases k with
 | lst=>exact e.trans h
 | frl=>exact h.elim
 | tup=>exact e.trans h
 | ftp=>exact h.elim
 | dic ks=>exact ⟨h.1,e.trans h.2⟩
 | ins C fs=>obtain ⟨l,dx,q⟩:=h;exact ⟨l,dx,e.trans q⟩
 | exc ns fr fs=>obtain ⟨l,C,dx,x,q⟩:=h;exact ⟨l,C,dx,x,e.trans q⟩
def Same.tupq'{K:Fg}{a:Addr}{xs:List V}(e:Same H H')(h:SqT K H a xs):SqT K H' a xs:=by
 rcases h with (h|⟨o,h⟩)|h
 . exact .inl (.inl (e _ _ h))
 . exact .inl (.inr ⟨o,e _ _ h⟩)
 . exact .inr h
theorem Zdx.same{K:Fg}{a:Addr}{vs:List V}{k:Kd}(e:Same H H')(h:Zdx K H a vs k):Zdx K H' a vs k:=by
 cases k with
 | lst=>exact e _ _ h
 | frl=>exact e.seq h
 | tup=>exact e _ _ h
 | ftp=>exact Same.tupq' e h
 | dic ks=>exact ⟨h.1,e _ _ h.2⟩
 | ins C fs=>obtain ⟨l,dx,q⟩:=h;exact ⟨l,dx,e _ _ q⟩
 | exc ns fr fs=>obtain ⟨l,C,dx,x,q⟩:=h;exact ⟨l,C,dx,x,e _ _ q⟩
abbrev Bud:=Addr->Nat
noncomputable def one(a:Addr):Bud:=fun b=>if b=a then 1 else 0
mutual
inductive Rep(K:Fg)(H Hs:Hp):V->D->Bud->Prop
 | sc (v:V) (m:Bud):Rep K H Hs v (.sc v) m
 | hole (v:V) (m:Bud):Rep K H Hs v .hole m
 | own {a:Addr} {k:Kd} {vs:List V} {ds:List D} {m m':Bud}:ZaO K H a vs k->RepL K H Hs vs ds m'->(∀ b,one a b+m' b<=m b)->Rep K H Hs (.ref a) (.node k true ds) m
 | shd {a:Addr} {k:Kd} {vs:List V} {ds:List D} {m:Bud}:Zdx K Hs a vs k->RepL K H Hs vs ds (fun _=>0)->Rep K H Hs (.ref a) (.node k false ds) m
inductive RepL(K:Fg)(H Hs:Hp):List V->List D->Bud->Prop
 | nil (m:Bud):RepL K H Hs [] [] m
 | cons {v:V} {d:D} {vs:List V} {ds:List D} {m1 m2 m:Bud}:Rep K H Hs v d m1->RepL K H Hs vs ds m2->(∀ b,m1 b+m2 b<=m b)->RepL K H Hs (v::vs) (d::ds) m
end
structure Good(H Hs:Hp)(M:Bud):Prop where
 sub:Same Hs H
 le:∀ b,M b<=1
 ne:∀ b,M b=1->Hs b=none
 has:∀ b,M b=1->H b≠none
structure Stp(H Hs:Hp)(M:Bud)(H' Hs':Hp)(M':Bud):Prop where
 keep:∀ b o,H b=some o->M b=0->H' b=some o
 own:∀ b,M' b=1->M b=1\/H b=none
 grow:Same Hs Hs'
 shr:∀ b,Hs b=none->Hs' b≠none->M b=1\/H b=none
 stay:∀ b,H b≠none->H' b≠none
section
variable{K:Fg}{M M1 M2 m:Bud}
mutual
theorem Rep.mono:∀{v:V}{d:D}{m m':Bud},Rep K H Hs v d m->(∀ b,m b<=m' b)->Rep K H Hs v d m'
 | _,_,_,_,.sc v _,_=>.sc v _
 | _,_,_,_,.hole v _,_=>.hole v _
 | _,_,_,_,.own n r h,l=>.own n r fun b=>le_trans (h b) (l b)
 | _,_,_,_,.shd n r,_=>.shd n r
end
theorem RepL.mono{vs:List V}{m:Bud}(h:RepL K H Hs vs ds m)(l:∀ b,m b<=m' b):RepL K H Hs vs ds m':=by
 cases h with
 | nil=>exact .nil _
 | cons a b c=>exact .cons a b fun x=>le_trans (c x) (l x)
mutual
theorem Rep.frame(g:Same Hs Hs'):∀{v:V}{d:D}{m:Bud},(∀ b,m b≥1->H b≠none->H' b=H b)->Rep K H Hs v d m->Rep K H' Hs' v d m
 | _,_,_,_,.sc v _=>.sc v _
 | _,_,_,_,.hole v _=>.hole v _
 | _,_,m,k,.own (a:=a) (m':=m') n r h=>by
  have h1:m a≥1:=by have:=h a;simp only [one,if_pos] at this;omega
  refine .own (n.eq (k a h1 n.at)) (RepL.frame g (fun b hb hn=>k b ?_ hn) r) h
  have:=h b
  omega
 | _,_,_,k,.shd n r=>.shd (n.same g) (RepL.frame g (fun b hb=>absurd hb (by simp)) r)
termination_by structural _ a=>a
theorem RepL.frame(g:Same Hs Hs'):∀{vs:List V}{ds:List D}{m:Bud},(∀ b,m b≥1->H b≠none->H' b=H b)->RepL K H Hs vs ds m->RepL K H' Hs' vs ds m
 | _,_,_,_,.nil _=>.nil _
 | _,_,m,k,.cons (m1:=m1) (m2:=m2) x y h=>by
  refine .cons (Rep.frame g (fun b hb=>k b ?_) x) (RepL.frame g (fun b hb=>k b ?_) y) h
  . have:=h b;omega
  . have:=h b;omega
termination_by structural _ a=>a
end
def Good.drop(g:Good H Hs M)(l:∀ b,M' b<=M b):Good H Hs M':=
 ⟨g.sub,fun b=>le_trans (l b) (g.le b),fun b h=>g.ne b (by have:=l b;have:=g.le b;omega),fun b h=>g.has b (by have:=l b;have:=g.le b;omega)⟩
def Stp.drop(s:Stp H Hs M H' Hs' M1)(l:∀ b,M2 b<=M1 b)(le:∀ b,M1 b<=1):Stp H Hs M H' Hs' M2:=
 ⟨s.keep,fun b h=>s.own b (by have:=l b;have:=le b;omega),s.grow,s.shr,s.stay⟩
def Stp.refl(H Hs:Hp)(M:Bud):Stp H Hs M H Hs M:=⟨fun _ _ h _=>h,fun _ h=>.inl h,Same.refl _,fun _ h h'=>absurd h h',fun _ h=>h⟩
def Zo(g:Good H Hs M)(g1:Good H1 Hs1 (fun b=>m1 b+M1 b))(s1:Stp H Hs M H1 Hs1 (fun b=>m1 b+M1 b))(g2:Good H2 Hs2 M2)(s2:Stp H1 Hs1 M1 H2 Hs2 M2):
 Good H2 Hs2 (fun b=>m1 b+M2 b)/\Stp H Hs M H2 Hs2 (fun b=>m1 b+M2 b)/\(∀ b,m1 b≥1->H1 b≠none->H2 b=H1 b):=by
 have d:∀ b,m1 b=1->M2 b=0:=fun b h=>by
  have l1:m1 b+M1 b<=1:=g1.le b
  have l2:=g2.le b
  have:M2 b≠1:=fun e=>by
   rcases s2.own b e with q|q
   . omega
   . exact g1.has b (by show m1 b+M1 b=1;omega) q
  omega
 have k1:∀ b,m1 b≥1->H1 b≠none->H2 b=H1 b:=fun b h n=>by
  have l1:m1 b+M1 b<=1:=g1.le b
  cases q:H1 b with
  | none=>exact absurd q n
  | some o=>exact s2.keep b o q (by omega)
 refine ⟨⟨g2.sub,fun b=>?_,fun b h=>?_,fun b h=>?_⟩,⟨fun b o e z=>?_,fun b h=>?_,s1.grow.trans s2.grow,fun b n n'=>?_,fun b n=>s2.stay b (s1.stay b n)⟩,k1⟩
 . have l1:m1 b+M1 b<=1:=g1.le b
   have l2:=g2.le b
   show m1 b+M2 b<=1
   by_cases h:m1 b=1
   . have:=d b h;omega
   . omega
 . have h:m1 b+M2 b=1:=h
   have l1:m1 b+M1 b<=1:=g1.le b
   by_cases h1:m1 b=1
   . cases q:Hs2 b with
     | none=>rfl
     | some o=>
      have n1:Hs1 b=none:=g1.ne b (by show m1 b+M1 b=1;omega)
      rcases s2.shr b n1 (by rw [q];simp) with z|z
      . omega
      . exact absurd z (g1.has b (by show m1 b+M1 b=1;omega))
   . exact g2.ne b (by omega)
 . have h:m1 b+M2 b=1:=h
   have l1:m1 b+M1 b<=1:=g1.le b
   by_cases h1:m1 b=1
   . have n:=g1.has b (by show m1 b+M1 b=1;omega)
     rw [k1 b (by omega) n];exact n
   . exact g2.has b (by omega)
 . have e1:=s1.keep b o e z
   have:¬ (m1 b+M1 b=1):=fun q=>by
    rcases s1.own b q with w|w
    . omega
    . rw [e] at w;cases w
   have l1:m1 b+M1 b<=1:=g1.le b
   exact s2.keep b o e1 (by omega)
 . have h:m1 b+M2 b=1:=h
   have l1:m1 b+M1 b<=1:=g1.le b
   by_cases h1:m1 b=1
   . exact s1.own b (by show m1 b+M1 b=1;omega)
   . rcases s2.own b (by omega) with q|q
     . exact s1.own b (by show m1 b+M1 b=1;omega)
     . cases w:H b with
       | none=>exact .inr rfl
       | some o=>exact absurd q (s1.stay b (by rw [w];simp))
 . cases q:Hs1 b with
   | some o=>exact s1.shr b n (by rw [q];simp)
   | none=>
    rcases s2.shr b q n' with z|z
    . have l1:m1 b+M1 b<=1:=g1.le b
      exact s1.own b (by show m1 b+M1 b=1;omega)
    . cases w:H b with
      | none=>exact .inr rfl
      | some o=>exact absurd z (s1.stay b (by rw [w];simp))
end
inductive Rs(α:Type) where
 | ok (a:α)|exc (x:D) (δ:List D)|stuck
abbrev M(α:Type):=List D->Rs (α×List D)
noncomputable def M.ret{α:Type}(a:α):M α:=fun δ=>.ok (a,δ)
noncomputable def M.bnd{α β:Type}(c:M α)(f:α->M β):M β:=fun δ=>match c δ with
 | .ok (a,δ')=>f a δ'
 | .exc x δ'=>.exc x δ'
 | .stuck=>.stuck
noncomputable def lift{α:Type}:Option α->M α
 | some a=>M.ret a
 | none=>fun _=>.stuck
noncomputable def stk{α:Type}:M α:=fun _=>.stuck
inductive Ty where
 | int|bool|str|list|tuple|dict|own (C:Addr)
 deriving DecidableEq
inductive BF where
 | len|str|int|sum|min|list|all|any|sorted|isi (t:Ty)|isiX (c:Str)|isiV|xinit|xfld (f:Str)|minL
 deriving DecidableEq
inductive BM where
 | split|join
 deriving DecidableEq
inductive MM where
 | append|extend|pop|popAt|reverse|clear|insert|update|popKey|remove
 deriving DecidableEq
inductive IK where
 | rng1|rng2|rng3|val|valS|enum|zip|rev|items|values
 deriving DecidableEq
inductive Tg where
 | name (i:Nat)|tup (is:List Nat)
structure FI where
 lend:Bool
 run:List D->Rs (D×List D)
inductive E where
 | k (v:V)
 | g (d:D)
 | v (i:Nat)
 | bin (op:Operator) (a b:E)
 | neg (a:E)
 | cmp (op:CmpOp) (a b:E)
 | chain (op op':CmpOp) (a b c:E)
 | isN (p:Bool) (a:E)
 | nt (a:E)
 | and (a b:E)
 | or (a b:E)
 | ix (a i:E)
 | sl (a lo hi:E)
 | fld (a:E) (f:Str)
 | lst (es:List E)
 | tup (es:List E)
 | kl (vs:List V)
 | dct0
 | call (f:FI) (es:List E)
 | bf (f:BF) (es:List E)
 | mut (m:MM) (i:Nat) (ps:List E) (es:List E)
 | meth (A:Addr) (m:Str) (f:FI) (o:E) (es:List E)
 | new (A:Addr) (f:FI) (es:List E)
 | comp (k:Nat) (js:List Nat) (tg:Tg) (ik:IK) (ies:List E) (cond:List E) (elt:E)
 | fs (es:List E)
 | bor (e:E)
 | sdef (i:Nat) (k v:E)
 | dvals (i:Nat)
 | fsL (z:Str) (e:E)
inductive YE where
 | meth (A:Addr) (m:Str) (f:FI) (o:E) (es:List E)
inductive S where
 | asg (i:Nat) (e:E)
 | unp (is:List Nat) (e:E)
 | sub (i:Nat) (ps:List E) (ix:E) (e:E)
 | attr (i:Nat) (f:Str) (e:E)
 | ex (e:E)
 | ret (e:E)
 | iff (c:E) (a b:List S)
 | for_ (tg:Tg) (ik:IK) (ies:List E) (body:List S)
 | pass|brk|cnt
 | raise (e:E)
 | asgY (i:Nat) (y:YE)
 | raiseI (ns:List Str) (f:FI) (es:List E)
 | attrX (i:Nat) (f:Str) (e:E)
 | forX (tg:Tg) (ik:IK) (ies:List E) (body:List S)
 | lf (s:S)
 | ifX (c:E) (a b:List S)
 | try_ (body:List S) (c:Str) (nm:Option Nat) (suite:List S)
 | forY (tg:Tg) (ies:List E) (y:YE) (body:List S)
inductive Op where
 | late (i:Nat)|tmp (d:D)
inductive W where
 | sc (v:V)|nd (k:Kd) (ds:List D)
noncomputable def ZV(i:Nat):M Op:=fun δ=>match δ[i]? with
 | some (.sc _)=>.ok (.late i,δ)
 | some (.node _ _ _)=>.ok (.late i,δ)
 | _=>.stuck
noncomputable def Zl(e:E)(c:M D):M Op:=match e with
 | .v i=>ZV i
 | _=>c.bnd fun d=>M.ret (.tmp d)
noncomputable def view:Op->M W
 | .tmp (.sc v)=>M.ret (.sc v)
 | .tmp (.node k _ ds)=>M.ret (.nd k ds)
 | .tmp .hole=>stk
 | .late i=>fun δ=>match δ[i]? with
  | some (.sc v)=>.ok (.sc v,δ)
  | some (.node k false ds)=>.ok (.nd k ds,δ)
  | some (.node k true ds)=>.ok (.nd k (shrL ds),δ.set i (.node k true (shrL ds)))
  | _=>.stuck
noncomputable def views:List Op->M (List W)
 | []=>M.ret []
 | p::ps=>(view p).bnd fun w=>(views ps).bnd fun ws=>M.ret (w::ws)
noncomputable def valV(i:Nat):M D:=fun δ=>match δ[i]? with
 | some (.sc v)=>.ok (.sc v,δ)
 | some (.node k false ds)=>.ok (.node k false ds,δ)
 | some (.node k true ds)=>.ok (.node k false (shrL ds),δ.set i (.node k false (shrL ds)))
 | _=>.stuck
noncomputable def newL(ds:List D):Option D:=if ds.length<=sizeLine then some (.node .lst true ds) else none
noncomputable def newT(ds:List D):Option D:=if ds.length<=sizeLine then some (.node .tup true ds) else none
noncomputable def Zal:List D->Option (List Int)
 | []=>some []
 | .sc (.int i)::r=>(Zal r).map (i::·)
 | _=>none
noncomputable def binW(o:Operator)(x y:W):Option D:=match x,y with
 | .sc (.int i),.sc (.int j)=>match o with
  | .Add=>some (.sc (.int (i+j)))
  | .Sub=>some (.sc (.int (i - j)))
  | .Mult=>if (-(2 ^ 64) < i/\i < 2 ^ 64)\/(-(2 ^ 64) < j/\j < 2 ^ 64) then some (.sc (.int (i * j))) else none
  | .FloorDiv=>if 0 < j/\j < 18446744073709551616 then some (.sc (.int (i / j))) else none
  | .Mod=>if 0 < j then some (.sc (.int (i % j))) else none
  | .Pow=>if 0<=j/\j<=1000000/\i.natAbs < 2 ^ 64 then some (.sc (.int (i ^ j.toNat))) else none
  | _=>none
 | .nd .lst xs,.nd .lst ys=>match o with
  | .Add=>newL (xs++ys)
  | _=>none
 | .nd .lst xs,.sc (.int n)=>match o with
  | .Mult=>if -(2 ^ 63)<=n/\n < 2 ^ 63/\xs.length * n.toNat<=sizeLine then (Zal xs).map fun is=>.node .lst true ((replicate n.toNat is).flatten.map fun i=>.sc (.int i)) else none
  | _=>none
 | _,_=>none
noncomputable def cmpI(op:CmpOp)(i j:Int):Option Bool:=match op with
 | .Lt=>some (decide (i < j))|.LtE=>some (decide (i<=j))|.Gt=>some (decide (j < i))|.GtE=>some (decide (j<=i))
 | _=>none
mutual
noncomputable def py:D->Option PyData
 | .sc .non=>some .none
 | .sc (.bl b)=>some (.bool b)
 | .sc (.int i)=>some (.int i)
 | .sc (.str x)=>some (.str x)
 | .node .lst _ ds=>(pyL ds).map .list
 | .node .frl _ ds=>(pyL ds).map .list
 | .node .tup _ ds=>(pyL ds).map .tuple
 | .node .ftp _ ds=>(pyL ds).map .tuple
 | _=>none
noncomputable def pyL:List D->Option (List PyData)
 | []=>some []
 | d::ds=>(py d).bind fun a=>(pyL ds).map (a::·)
end
noncomputable def toD:W->D
 | .sc v=>.sc v
 | .nd k ds=>.node k false ds
noncomputable def eqPy(a b:PyData):Option Bool:=if SeqAt.shaped a=true/\SeqAt.shaped b=true then some (PyData.eqv a b) else none
noncomputable def eqW:W->W->Option Bool
 | .sc u,.sc v=>if scal u v=true then some (decide (u=v)) else (py (.sc u)).bind fun a=>(py (.sc v)).bind fun b=>eqPy a b
 | x,y=>(py (toD x)).bind fun a=>(py (toD y)).bind fun b=>eqPy a b
noncomputable def cmpW(op:CmpOp)(x y:W):Option Bool:=match op with
 | .Eq=>eqW x y
 | .NotEq=>(eqW x y).map (!·)
 | op=>match x,y with
  | .sc (.int i),.sc (.int j)=>cmpI op i j
  | .sc (.int i),.nd .ftp ds=>match op with
   | .NotIn=>(Zal ds).map fun is=>!decide (i∈is)
   | _=>none
  | .sc (.int i),.nd .lst ds=>match op with
   | .NotIn=>(Zal ds).map fun is=>!decide (i∈is)
   | _=>none
  | _,_=>none
noncomputable def ixN'(n:Nat)(i:Int):Option Nat:=if 0<=i then (if i < n then some i.toNat else none) else if -(n:Int)<=i then some (i+n).toNat else none
noncomputable def ixW(x y:W):Option D:=match y with
 | .sc (.int i)=>match x with
  | .nd k ds=>match k with
   | .lst=>(ixN' ds.length i).bind fun j=>ds[j]?
   | .frl=>(ixN' ds.length i).bind fun j=>ds[j]?
   | .tup=>(ixN' ds.length i).bind fun j=>ds[j]?
   | .ftp=>(ixN' ds.length i).bind fun j=>ds[j]?
   | _=>none
  | _=>none
 | _=>none
noncomputable def keyD:V->Option Key
 | .int i=>some (.inl i)
 | .str x=>some (.inr x)
 | _=>none
noncomputable def ZW{α:Type}(k:Key):List Key->List α->Option α
 | j::ks,d::ds=>if j=k then some d else ZW k ks ds
 | _,_=>none
noncomputable def Zcj{α:Type}(k:Key)(d:α):List Key->List α->Option (List Key×List α)
 | [],[]=>some ([k],[d])
 | j::ks,x::ds=>if j=k then (if (ks.any fun j=>decide (j=k))=true then none else some (j::ks,d::ds)) else (Zcj k d ks ds).map fun r=>(j::r.1,x::r.2)
 | _,_=>none
noncomputable def ixD:W->W->Option D
 | .nd (.dic ks) ds,.sc v=>(keyD v).bind fun k=>ZW k ks ds
 | _,_=>none
noncomputable def ixW2:W->W->Option D
 | .nd (.dic ks) ds,y=>ixD (.nd (.dic ks) ds) y
 | x,y=>ixW x y
noncomputable def inD(p:Bool):W->W->Option Bool
 | .sc v,.nd (.dic ks) ds=>(keyD v).map fun k=>(ZW k ks ds).isSome == p
 | _,_=>none
noncomputable def Za3:CmpOp->W->W->Option Bool
 | .In,x,y=>inD true x y
 | .NotIn,x,.nd (.dic ks) ds=>inD false x (.nd (.dic ks) ds)
 | op,x,y=>cmpW op x y
noncomputable def ZcF(f:Str):List Str->List D->Option D
 | g::fs,d::ds=>if g=f then some d else ZcF f fs ds
 | _,_=>none
noncomputable def fldW(ok:Addr->Str->Bool)(f:Str):W->Option D
 | .nd (.ins C fs) ds=>if ok C f then ZcF f fs ds else none
 | _=>none
noncomputable def truW:W->Option Bool
 | .sc (.bl b)=>some b
 | .sc (.int i)=>some (decide (i≠0))
 | .sc (.str x)=>if x.length<=sizeLine then some (decide (x.length≠0)) else none
 | .sc .non=>some false
 | .nd .lst ds=>some (!ds.isEmpty)
 | .nd .frl ds=>some (!ds.isEmpty)
 | .nd .tup ds=>some (!ds.isEmpty)
 | .nd .ftp ds=>some (!ds.isEmpty)
 | .nd (.dic _) ds=>some (!ds.isEmpty)
 | _=>none
noncomputable def tyW:Ty->W->Option Bool
 | .int,.sc (.int _)=>some true|.int,.sc (.bl _)=>some true|.int,.sc (.str _)=>some false|.int,.sc .non=>some false
 | .int,.nd .lst _=>some false|.int,.nd .tup _=>some false
 | .bool,.sc (.bl _)=>some true|.bool,.sc (.int _)=>some false|.bool,.sc (.str _)=>some false|.bool,.sc .non=>some false
 | .bool,.nd .lst _=>some false|.bool,.nd .tup _=>some false
 | .str,.sc (.str _)=>some true|.str,.sc (.int _)=>some false|.str,.sc (.bl _)=>some false|.str,.sc .non=>some false
 | .str,.nd .lst _=>some false|.str,.nd .tup _=>some false
 | .list,.nd .lst _=>some true|.list,.nd .tup _=>some false|.list,.sc (.int _)=>some false|.list,.sc (.bl _)=>some false|.list,.sc (.str _)=>some false|.list,.sc .non=>some false
 | .tuple,.nd .tup _=>some true|.tuple,.nd .lst _=>some false|.tuple,.sc (.int _)=>some false|.tuple,.sc (.bl _)=>some false|.tuple,.sc (.str _)=>some false|.tuple,.sc .non=>some false
 | _,_=>none
noncomputable def Zaz:List D->Option (List Bool)
 | []=>some []
 | .sc (.bl b)::r=>(Zaz r).map (b::·)
 | _=>none
noncomputable def cutD(xs:List D)(lo hi:Option Int):List D:=(xs.drop (HT.sIx xs.length 0 lo)).take (HT.sIx xs.length xs.length hi - HT.sIx xs.length 0 lo)
noncomputable def slD:W->Option Int->Option Int->Option D
 | .nd .lst ds,lo,hi=>some (.node .lst true (cutD ds lo hi))
 | .nd .frl ds,lo,hi=>some (.node .lst true (cutD ds lo hi))
 | _,_,_=>none
noncomputable def intP:W->Option (Option Int)
 | .sc (.int i)=>some (some i)
 | _=>none
noncomputable def Zck(e:E)(c:M Op):M (Option Int):=match e with
 | .k .non=>M.ret none
 | _=>(c.bnd view).bnd fun w=>lift (intP w)
noncomputable def lenB(ws:List W):Option D:=match ws with
 | [w]=>match w with
  | .nd k ds=>match k with
   | .lst=>some (.sc (.int ds.length))
   | .frl=>some (.sc (.int ds.length))
   | .tup=>some (.sc (.int ds.length))
   | .ftp=>some (.sc (.int ds.length))
   | _=>none
  | _=>none
 | _=>none
noncomputable def strB:List W->Option D
 | [.sc (.int i)]=>if i.natAbs.log2 < 1920 then some (.sc (.str (Str.ofString (toString i)))) else none
 | _=>none
noncomputable def intB:List W->Option D
 | [.sc (.int i)]=>some (.sc (.int i))
 | [.sc (.bl b)]=>some (.sc (.int (if b then 1 else 0)))
 | [.sc (.str z)]=>match intText? z with
  | some n=>if z.length<=640 then some (.sc (.int n)) else none
  | none=>none
 | _=>none
noncomputable def Zir(ws:List W):Option D:=match ws with
 | [w]=>match w with
  | .nd k ds=>match k with
   | .lst=>some (.node .lst true ds)
   | .frl=>some (.node .lst true ds)
   | .tup=>some (.node .lst true ds)
   | .ftp=>some (.node .lst true ds)
   | _=>none
  | _=>none
 | _=>none
noncomputable def isiB(t:Ty):List W->Option D
 | [w]=>(tyW t w).map fun b=>.sc (.bl b)
 | _=>none
noncomputable def allB:List W->Option D
 | [.nd .lst ds]=>(Zaz ds).map fun bs=>.sc (.bl (bs.all id))
 | _=>none
noncomputable def anyB:List W->Option D
 | [.nd .lst ds]=>(Zaz ds).map fun bs=>.sc (.bl (bs.any id))
 | _=>none
noncomputable def sumB:List W->Option D
 | [.nd .lst ds]=>(Zal ds).map fun is=>.sc (.int is.sum)
 | _=>none
noncomputable def minB:List W->Option D
 | [.sc (.int i),.sc (.int j)]=>some (.sc (.int (if j < i then j else i)))
 | _=>none
noncomputable def Zis(c:Str):List W->Option D
 | [.nd (.exc ns _ _) _]=>some (.sc (.bl (decide (c∈ns))))
 | _=>none
noncomputable def Zqz:List W->Option D
 | [.nd (.exc _ _ _) _]=>some (.sc (.bl true))
 | _=>none
noncomputable def Zgr:List W->Option D
 | [.nd (.exc _ _ _) _,.sc _]=>some (.sc .non)
 | _=>none
noncomputable def Zit(f:Str):List W->Option D
 | [.nd (.exc _ _ fs) ds]=>if f∈Zec then ZcF f fs ds else none
 | _=>none
noncomputable def Zq0:List W->Option D
 | [.nd .lst ds]=>(Zal ds).bind fun is=>match is with
  | []=>none
  | i::is=>some (.sc (.int (is.foldl (fun a b=>if b < a then b else a) i)))
 | _=>none
noncomputable def ZeO:List W->Option D
 | [.nd .lst ds]=>(Zal ds).bind fun is=>if is.length < 64 then some (.node .lst true ((is.mergeSort fun a b=>decide (a<=b)).map fun i=>.sc (.int i))) else none
 | _=>none
noncomputable def bfW:BF->List W->Option D
 | .len,ws=>lenB ws
 | .str,ws=>strB ws
 | .int,ws=>intB ws
 | .list,ws=>Zir ws
 | .isi t,ws=>isiB t ws
 | .all,ws=>allB ws
 | .any,ws=>anyB ws
 | .sum,ws=>sumB ws
 | .min,ws=>minB ws
 | .isiX c,ws=>Zis c ws
 | .isiV,ws=>Zqz ws
 | .xinit,ws=>Zgr ws
 | .xfld f,ws=>Zit f ws
 | .minL,ws=>Zq0 ws
 | .sorted,ws=>ZeO ws
noncomputable def rng(a b:Int):List D:=(List.range (b - a).toNat).map fun(k:Nat)=>.sc (.int (a+k))
noncomputable def okR(i:Int):Bool:=decide (-(2 ^ 62)<=i) && decide (i < 2 ^ 62)
noncomputable def Zap:Int->List D->List D
 | _,[]=>[]
 | c,d::ds=>.node .tup false [.sc (.int c),d]::Zap (c+1) ds
noncomputable def zipD:List D->List D->List D
 | d::ds,e::es=>.node .tup false [d,e]::zipD ds es
 | _,_=>[]
noncomputable def zipI:List W->Option (List D)
 | [.nd k ds,.nd k' es]=>if (k=.lst\/k=.frl)/\(k'=.lst\/k'=.frl) then some (zipD ds es) else none
 | _=>none
noncomputable def ZlG:List W->Option (List D)
 | [.nd k ds,.sc (.int c)]=>if (k=.lst\/k=.frl)/\okR c=true then some (Zap c ds) else none
 | _=>none
noncomputable def Ziu:List W->Option (List D)
 | [.sc (.int n)]=>if okR n then some (rng 0 n) else none
 | _=>none
noncomputable def Ziv:List W->Option (List D)
 | [.sc (.int a),.sc (.int b)]=>if okR a && okR b then some (rng a b) else none
 | _=>none
noncomputable def rngS(a b c:Int):List Int:=(List.range (Builtin.Range.rangeSize a b c).toNat).map fun(k:Nat)=>a+k * c
noncomputable def Zq1:List W->Option (List D)
 | [.sc (.int a),.sc (.int b),.sc (.int c)]=>if okR a && okR b && (decide (c≠0) && decide (-1000000<=c) && decide (c<=1000000)) then some ((rngS a b c).map fun i=>.sc (.int i)) else none
 | _=>none
noncomputable def valI:List W->Option (List D)
 | [.nd .lst ds]=>some ds
 | [.nd .frl ds]=>some ds
 | [.nd .tup ds]=>some ds
 | [.nd .ftp ds]=>some ds
 | _=>none
noncomputable def itW:IK->List W->Option (List D)
 | .zip,ws=>zipI ws
 | .enum,ws=>ZlG ws
 | .rng1,ws=>Ziu ws
 | .rng2,ws=>Ziv ws
 | .rng3,ws=>Zq1 ws
 | .val,ws=>valI ws
 | _,_=>none
noncomputable def holdV:Op->M (W×Option (Nat×D))
 | .tmp (.sc v)=>M.ret (.sc v,none)
 | .tmp (.node k _ ds)=>M.ret (.nd k (shrL ds),none)
 | .tmp .hole=>stk
 | .late i=>fun δ=>match δ[i]? with
  | some (.sc v)=>.ok ((.sc v,none),δ)
  | some (.node k false ds)=>.ok ((.nd k ds,none),δ)
  | some (.node k true ds)=>.ok ((.nd k (shrL ds),some (i,.node k true (shrL ds))),δ.set i .hole)
  | _=>.stuck
noncomputable def Zu:List Op->M (List W×List (Nat×D))
 | []=>M.ret ([],[])
 | p::ps=>(holdV p).bnd fun w=>(Zu ps).bnd fun ws=>M.ret (w.1::ws.1,w.2.toList++ws.2)
noncomputable def ZN:List (Nat×D)->M Unit
 | []=>M.ret ()
 | (i,d)::r=>fun δ=>ZN r (δ.set i d)
noncomputable def walked:List E->Nat->Bool
 | [],_=>false
 | .v i::r,j=>i == j || walked r j
 | _::r,j=>walked r j
noncomputable def takeA(lend:Bool):Op->M D
 | .tmp d=>M.ret d
 | .late i=>fun δ=>match δ[i]? with
  | some (.sc v)=>.ok (.sc v,δ)
  | some (.node k false ds)=>.ok (.node k false ds,δ)
  | some (.node k true ds)=>if lend then .ok (.node k true ds,δ.set i .hole) else .ok (.node k false (shrL ds),δ.set i (.node k false (shrL ds)))
  | _=>.stuck
noncomputable def Zar(lend:Bool):List Op->M (List D)
 | []=>M.ret []
 | p::ps=>(takeA lend p).bnd fun d=>(Zar lend ps).bnd fun ds=>M.ret (d::ds)
noncomputable def ZaB:Op->D->M Unit
 | .tmp _,_=>M.ret ()
 | .late i,d=>fun δ=>match δ[i]? with
  | some .hole=>.ok ((),δ.set i d)
  | _=>.ok ((),δ)
noncomputable def ZC:List Op->List D->M Unit
 | p::ps,d::ds=>(ZaB p d).bnd fun _=>ZC ps ds
 | _,_=>M.ret ()
noncomputable def Zbk(fi:FI)(ps:List Op):M D:=(Zar fi.lend ps).bnd fun ds=>match fi.run ds with
 | .ok (d,ds')=>(ZC ps ds').bnd fun _=>M.ret d
 | .exc _ _=>stk
 | .stuck=>stk
noncomputable def Zdy(fi:FI)(ps:List Op):M D:=(Zar fi.lend ps).bnd fun ds=>match fi.run ds with
 | .ok (d,ds')=>(ZC ps ds').bnd fun _=>M.ret d
 | .exc x ds'=>fun δ=>match ZC ps ds' δ with
  | .ok (_,δ')=>.exc x δ'
  | _=>.stuck
 | .stuck=>stk
noncomputable def chkI(A:Addr)(m:Str):Op->M Unit
 | .late i=>fun δ=>match δ[i]? with
  | some (.node (.ins B fs) _ _)=>if B=A/\m∉fs then .ok ((),δ) else .stuck
  | _=>.stuck
 | .tmp (.node (.ins B fs) _ _)=>fun δ=>if B=A/\m∉fs then .ok ((),δ) else .stuck
 | _=>stk
noncomputable def newF(C:Addr)(fi:FI)(ps:List Op):M D:=(Zar fi.lend ps).bnd fun ds=>match fi.run (.node (.ins C []) true []::ds) with
 | .ok (.sc .non,d::ds')=>(ZC ps ds').bnd fun _=>M.ret d
 | .ok _=>stk
 | .exc _ _=>stk
 | .stuck=>stk
noncomputable def newX(ns:List Str)(fi:FI)(ps:List Op):M D:=if 1000 < ps.length then stk else (Zar fi.lend ps).bnd fun ds=>match fi.run (.node (.exc ns true []) true []::ds) with
 | .ok (.sc .non,d::ds')=>(ZC ps ds').bnd fun _=>M.ret d
 | .ok _=>stk
 | .exc _ _=>stk
 | .stuck=>stk
noncomputable def Zcx{α:Type}:D->M α
 | .node (.exc ns true fs) true ds=>fun δ=>.exc (.node (.exc ns false fs) true ds) δ
 | _=>stk
noncomputable def asgN(lock:Nat->Bool)(i:Nat)(d:D):M Unit:=fun δ=>if i < δ.length && !lock i then .ok ((),δ.set i d) else .stuck
noncomputable def Zbl(lock:Nat->Bool):List Nat->List D->M Unit
 | [],[]=>M.ret ()
 | i::is,d::ds=>(asgN lock i d).bnd fun _=>Zbl lock is ds
 | _,_=>stk
noncomputable def asgT(lock:Nat->Bool):Tg->D->M Unit
 | .name i,d=>asgN lock i d
 | .tup is,.node .tup _ ds=>Zbl lock is ds
 | .tup _,_=>stk
noncomputable def modS(i:Nat)(f:Kd->List D->Option (D×Kd×List D)):M D:=fun δ=>match δ[i]? with
 | some (.node k true ds)=>match f k ds with
  | some (r,k',ds')=>.ok (r,δ.set i (.node k' true ds'))
  | none=>.stuck
 | _=>.stuck
noncomputable def mutE(ws:List W)(ds:List D):Option (D×Kd×List D):=match ws with
 | [.nd .lst es]=>if ds.length+es.length<=sizeLine then some (.sc .non,.lst,ds++es) else none
 | _=>none
noncomputable def mutP(ws:List W)(ds:List D):Option (D×Kd×List D):=match ws with
 | [.sc (.int i)]=>if -(2 ^ 63)<=i/\i < 2 ^ 63 then (ixN' ds.length i).bind fun j=>ds[j]?.map fun d=>(d,.lst,ds.eraseIdx j) else none
 | _=>none
noncomputable def mut0(ws:List W)(r:Option (D×Kd×List D)):Option (D×Kd×List D):=match ws with
 | []=>r
 | _=>none
noncomputable def mutD(m:MM)(ws:List W)(k:Kd)(ds:List D):Option (D×Kd×List D):=match k with
 | .lst=>match m with
  | .extend=>mutE ws ds
  | .pop=>mut0 ws (ds.getLast?.map fun d=>(d,.lst,ds.dropLast))
  | .popAt=>mutP ws ds
  | .reverse=>mut0 ws (some (.sc .non,.lst,ds.reverse))
  | .clear=>mut0 ws (some (.sc .non,.lst,[]))
  | _=>none
 | _=>none
noncomputable def appD(d:D):Kd->List D->Option (D×Kd×List D)
 | .lst,ds=>if ds.length < sizeLine then some (.sc .non,.lst,ds++[d]) else none
 | _,_=>none
noncomputable def appM(i:Nat):List D->M D
 | [d]=>modS i (appD d)
 | _=>stk
noncomputable def chkL(i:Nat):M Unit:=fun δ=>match δ[i]? with
 | some (.node .lst _ _)=>.ok ((),δ)
 | _=>.stuck
noncomputable def setD(w:W)(d:D):Kd->List D->Option (D×Kd×List D)
 | .lst,ds=>match w with
  | .sc (.int i)=>(ixN' ds.length i).map fun j=>(.sc .non,.lst,ds.set j d)
  | _=>none
 | _,_=>none
noncomputable def Zbm(w:W)(d:D):Kd->List D->Option (D×Kd×List D)
 | .dic ks,ds=>match w with
  | .sc v=>if ds.length < sizeLine then (keyD v).bind fun k=>(Zcj k d ks ds).map fun r=>(.sc .non,.dic r.1,r.2) else none
  | _=>none
 | k,ds=>setD w d k ds
noncomputable def putN(f:Str):List Str->List Str
 | []=>[f]
 | g::r=>if g=f then g::r else g::putN f r
noncomputable def putV{α:Type}(f:Str)(d:α):List Str->List α->List α
 | g::r,x::ds=>if g=f then d::ds else x::putV f d r ds
 | _,_=>[d]
noncomputable def putD(ok:Addr->Str->Bool)(f:Str)(d:D):Kd->List D->Option (D×Kd×List D)
 | .ins C fs,ds=>if fs.length < 1000/\ok C f=true then some (.sc .non,.ins C (putN f fs),putV f d fs ds) else none
 | _,_=>none
noncomputable def putX(f:Str)(d:D):Kd->List D->Option (D×Kd×List D)
 | .exc ns fr fs,ds=>if fs.length < 1000/\f∈Zec then some (.sc .non,.exc ns fr (putN f fs),putV f d fs ds) else none
 | _,_=>none
structure Ctx where
 lock:Nat->Bool
 fok:Addr->Str->Bool
 fuel:Nat
noncomputable def Zdb:List Nat->M (List D)
 | []=>M.ret []
 | j::js=>fun δ=>match δ[j]? with
  | some d=>((Zdb js).bnd fun ds=>M.ret (d::ds)) (δ.set j .hole)
  | none=>.stuck
noncomputable def Zbr:List Nat->List D->M Unit
 | j::js,d::ds=>fun δ=>Zbr js ds (δ.set j d)
 | _,_=>M.ret ()
noncomputable def ZH(asg:D->M Unit)(cond:M Bool)(elt:M D):List D->List D->M (List D)
 | [],acc=>M.ret acc
 | d::ds,acc=>(asg d).bnd fun _=>cond.bnd fun b=>if b then elt.bnd fun x=>ZH asg cond elt ds (acc++[x]) else ZH asg cond elt ds acc
noncomputable def ZR(k:Nat)(js:List Nat)(loop:M (List D)):M D:=(Zdb js).bnd fun caps δ=>match loop (replicate k .hole++caps) with
 | .ok (acc,δ')=>((Zbr js (δ'.drop k)).bnd fun _=>lift (newL acc)) δ
 | .exc _ _=>.stuck
 | .stuck=>.stuck
noncomputable def fmtD:V->Option Str
 | .int i=>if i.natAbs.log2 < 1920 then some (Str.ofString (toString i)) else none
 | .str x=>some x
 | .non=>some (Str.ofString "None")
 | _=>none
noncomputable def fmtW(acc:Str):W->Option Str
 | .sc v=>(fmtD v).bind fun z=>if z.length<=sizeLine/\(acc++z).length<=sizeLine then some (acc++z) else none
 | _=>none
noncomputable def isNW(p:Bool):W->D
 | .sc v=>.sc (.bl (decide (v=.non) == p))
 | .nd _ _=>.sc (.bl (!p))
noncomputable def negW:W->Option D
 | .sc (.int i)=>some (.sc (.int (-i)))
 | _=>none
noncomputable def notW:W->Option D
 | .sc (.bl t)=>some (.sc (.bl (!t)))
 | _=>none
noncomputable def andM(b:M D):W->M D
 | .sc (.bl true)=>b
 | .sc (.bl false)=>M.ret (.sc (.bl false))
 | _=>stk
noncomputable def orM(b:M D):W->M D
 | .sc (.bl false)=>b
 | .sc (.bl true)=>M.ret (.sc (.bl true))
 | _=>stk
noncomputable def ZcG(c:M D):M Bool:=c.bnd fun d=>lift (match d with|.sc (.bl b)=>some b|_=>none)
noncomputable def tdef(e:E)(c:M D):M Bool:=(Zl e c).bnd fun p=>(view p).bnd fun w=>lift (truW w)
noncomputable def vdef(e:E)(c:M D):M W:=(Zl e c).bnd view
noncomputable def borV(c:M D):M D:=fun δ=>match c (shrL δ) with
 | .ok (.sc v,_)=>.ok (.sc v,δ)
 | _=>.stuck
noncomputable def chkD(i:Nat):M Unit:=fun δ=>match δ[i]? with
 | some (.node k _ _)=>match k with
  | .dic _=>.ok ((),δ)
  | _=>.stuck
 | _=>.stuck
noncomputable def ZeP:D->Bool
 | .sc _=>true
 | .node _ o _=>!o
 | .hole=>false
noncomputable def ZeQ(dk dv:D)(kd:Kd)(ds:List D):Option (D×Kd×List D):=match kd with
 | .dic ks=>match dk with
  | .sc v=>match keyD v with
   | some k=>match ZW k ks ds with
    | some x=>if ZeP x then some (x,.dic ks,ds) else none
    | none=>if ZeP dv && decide (ds.length < sizeLine) then (Zcj k dv ks ds).map fun r=>(dv,.dic r.1,r.2) else none
   | none=>none
  | _=>none
 | _=>none
noncomputable def Zgd(i:Nat)(ck cv:M D):M D:=(chkD i).bnd fun _=>ck.bnd fun dk=>cv.bnd fun dv=>modS i (ZeQ dk dv)
noncomputable def Ziw(w:W):Option D:=match w with
 | .nd k ds=>match k with
  | .dic _=>some (.node .lst true ds)
  | _=>none
 | _=>none
noncomputable def ZeR(i:Nat):M D:=(view (.late i)).bnd fun w=>lift (Ziw w)
noncomputable def ZdI(is:List Int):Str:=(PyData.list (is.map PyData.int)).shown
noncomputable def ZbN(z:Str)(w:W):Option D:=match w with
 | .nd k ds=>match k with
  | .lst=>(Zal ds).bind fun is=>if (ZdI is).length<=1000/\z.length<=1000/\(PyData.list (is.map PyData.int)).showable=true then some (.sc (.str (z++ZdI is))) else none
  | _=>none
 | _=>none
mutual
noncomputable def evb(C:Ctx):E->M D×M Bool
 | .k v=>let c:M D:=M.ret (.sc v);(c,tdef (.k v) c)
 | .g d=>let c:M D:=M.ret d;(c,tdef (.g d) c)
 | .v i=>(valV i,tdef (.v i) (valV i))
 | .bin op a b=>
  let c:M D:=(Zl a (evb C a).1).bnd fun p=>(Zl b (evb C b).1).bnd fun q=>(view p).bnd fun x=>(view q).bnd fun y=>lift (binW op x y)
  (c,tdef (.bin op a b) c)
 | .neg a=>
  let c:M D:=(vdef a (evb C a).1).bnd fun x=>lift (negW x)
  (c,tdef (.neg a) c)
 | .cmp op a b=>
  let c:M D:=(Zl a (evb C a).1).bnd fun p=>(Zl b (evb C b).1).bnd fun q=>(view p).bnd fun x=>(view q).bnd fun y=>lift ((Za3 op x y).map fun t=>.sc (.bl t))
  (c,ZcG c)
 | .chain op op' a b e=>
  let c:M D:=(Zl a (evb C a).1).bnd fun p=>(Zl b (evb C b).1).bnd fun q=>(view p).bnd fun x=>(view q).bnd fun y=>(lift (cmpW op x y)).bnd fun t=>if t then (Zl e (evb C e).1).bnd fun r=>(view q).bnd fun y=>(view r).bnd fun z=>lift ((cmpW op' y z).map fun t=>.sc (.bl t)) else M.ret (.sc (.bl false))
  (c,ZcG c)
 | .isN p a=>
  let c:M D:=(vdef a (evb C a).1).bnd fun x=>M.ret (isNW p x)
  (c,tdef (.isN p a) c)
 | .nt a=>((vdef a (evb C a).1).bnd fun w=>lift (notW w),(evb C a).2.bnd fun b=>M.ret (!b))
 | .and a b=>((vdef a (evb C a).1).bnd (andM (evb C b).1),(evb C a).2.bnd fun t=>if t then (evb C b).2 else M.ret false)
 | .or a b=>((vdef a (evb C a).1).bnd (orM (evb C b).1),(evb C a).2.bnd fun t=>if t then M.ret true else (evb C b).2)
 | .ix a i=>
  let c:M D:=(Zl a (evb C a).1).bnd fun p=>(Zl i (evb C i).1).bnd fun q=>(view p).bnd fun x=>(view q).bnd fun y=>lift (ixW2 x y)
  (c,tdef (.ix a i) c)
 | .sl a lo hi=>
  let c:M D:=(Zl a (evb C a).1).bnd fun p=>(Zck lo (Zl lo (evb C lo).1)).bnd fun l=>(Zck hi (Zl hi (evb C hi).1)).bnd fun h=>(view p).bnd fun x=>lift (slD x l h)
  (c,tdef (.sl a lo hi) c)
 | .fld a f=>
  let c:M D:=(vdef a (evb C a).1).bnd fun x=>lift (fldW C.fok f x)
  (c,tdef (.fld a f) c)
 | .lst es=>
  let c:M D:=(evs C es).bnd fun ds=>lift (newL ds)
  (c,tdef (.lst es) c)
 | .tup es=>
  let c:M D:=(evs C es).bnd fun ds=>lift (newT ds)
  (c,tdef (.tup es) c)
 | .kl vs=>
  let c:M D:=lift (newL (vs.map D.sc))
  (c,tdef (.kl vs) c)
 | .dct0=>
  let c:M D:=M.ret (.node (.dic []) true [])
  (c,tdef .dct0 c)
 | .call f es=>
  let c:M D:=(opds C es).bnd fun ps=>Zbk f ps
  (c,tdef (.call f es) c)
 | .bf f es=>
  let c:M D:=(opds C es).bnd fun ps=>(views ps).bnd fun ws=>lift (bfW f ws)
  (c,tdef (.bf f es) c)
 | .mut m i ps es=>
  let c:M D:=match m,ps with
   | .append,[]=>(chkL i).bnd fun _=>(evs C es).bnd fun ds=>appM i ds
   | m,[]=>(chkL i).bnd fun _=>(opds C es).bnd fun ps=>(views ps).bnd fun ws=>modS i (mutD m ws)
   | _,_=>stk
  (c,tdef (.mut m i ps es) c)
 | .meth A m f o es=>
  let c:M D:=(Zl o (evb C o).1).bnd fun p=>(chkI A m p).bnd fun _=>(opds C es).bnd fun ps=>Zbk f (p::ps)
  (c,tdef (.meth A m f o es) c)
 | .new A f es=>
  let c:M D:=(opds C es).bnd fun ps=>newF A f ps
  (c,tdef (.new A f es) c)
 | .comp k js tg ik ies cond elt=>
  let C':Ctx:={ C with lock:=fun i=>decide (k<=i) }
  let loop (items:List D):M (List D):=ZH (asgT C'.lock tg) (tsts C' cond) (evb C' elt).1 items []
  let c:M D:=(opds C ies).bnd fun ps=>(Zu ps).bnd fun h=>(lift (itW ik h.1)).bnd fun items=>(ZR k js (loop items)).bnd fun d=>(ZN h.2).bnd fun _=>M.ret d
  (c,tdef (.comp k js tg ik ies cond elt) c)
 | .fs es=>
  let c:M D:=fss C es Str.empty
  (c,tdef (.fs es) c)
 | .bor e=>
  let c:M D:=borV (evb C e).1
  (c,tdef (.bor e) c)
 | .sdef i k v=>
  let c:M D:=Zgd i (evb C k).1 (evb C v).1
  (c,tdef (.sdef i k v) c)
 | .dvals i=>(ZeR i,tdef (.dvals i) (ZeR i))
 | .fsL z e=>
  let c:M D:=(vdef e (evb C e).1).bnd fun w=>lift (ZbN z w)
  (c,tdef (.fsL z e) c)
noncomputable def fss(C:Ctx):List E->Str->M D
 | [],acc=>M.ret (.sc (.str acc))
 | e::es,acc=>(vdef e (evb C e).1).bnd fun w=>(lift (fmtW acc w)).bnd fun acc'=>fss C es acc'
noncomputable def opds(C:Ctx):List E->M (List Op)
 | []=>M.ret []
 | e::es=>(Zl e (evb C e).1).bnd fun p=>(opds C es).bnd fun ps=>M.ret (p::ps)
noncomputable def evs(C:Ctx):List E->M (List D)
 | []=>M.ret []
 | e::es=>(evb C e).1.bnd fun p=>(evs C es).bnd fun ps=>M.ret (p::ps)
noncomputable def tsts(C:Ctx):List E->M Bool
 | []=>M.ret true
 | e::es=>(evb C e).2.bnd fun b=>if b then tsts C es else M.ret false
end
noncomputable abbrev ev(C:Ctx)(e:E):M D:=(evb C e).1
noncomputable abbrev tst(C:Ctx)(e:E):M Bool:=(evb C e).2
noncomputable def clmR{α:Type}:Rs (α×List D)->Rs (α×List D)
 | .ok r=>.ok r
 | _=>.stuck
noncomputable def clm{α:Type}(c:M α):M α:=fun δ=>clmR (c δ)
noncomputable def yev(C:Ctx):YE->M D
 | .meth A m f o es=>(clm (Zl o (evb C o).1)).bnd fun p=>(chkI A m p).bnd fun _=>(clm (opds C es)).bnd fun ps=>Zdy f (p::ps)
inductive Fl where
 | nx|rt (d:D)|bk|ct
noncomputable def forL(asg:D->M Unit)(body:M Fl):List D->M Fl
 | []=>M.ret .nx
 | d::ds=>(asg d).bnd fun _=>body.bnd fun f=>match f with
  | .nx=>forL asg body ds
  | .ct=>forL asg body ds
  | .bk=>M.ret .nx
  | .rt x=>M.ret (.rt x)
noncomputable def movV(i:Nat):M D:=fun δ=>match δ[i]? with
 | some (.sc v)=>.ok (.sc v,δ)
 | some (.node k o ds)=>.ok (.node k o ds,δ.set i .hole)
 | _=>.stuck
noncomputable def retV(C:Ctx)(e:E):M D:=match e with
 | .v i=>if C.lock i then valV i else movV i
 | e=>ev C e
noncomputable def seqL(c:M Fl)(r:M Fl):M Fl:=c.bnd fun f=>match f with
 | .nx=>r
 | f=>M.ret f
noncomputable def unpM(lock:Nat->Bool)(is:List Nat):W->M Unit
 | .nd .tup ds=>Zbl lock is ds
 | .nd .lst ds=>Zbl lock is ds
 | _=>stk
noncomputable def finB(h:List (Nat×D)):Rs (Fl×List D)->Rs (Fl×List D)
 | .ok (f,δ)=>((ZN h).bnd fun _=>M.ret f) δ
 | .exc x δ=>(match ZN h δ with
  | .ok (_,δ')=>.exc x δ'
  | _=>.stuck)
 | .stuck=>.stuck
noncomputable def hits(c:Str):D->Bool
 | .node (.exc ns false _) true _=>decide (c∈ns)
 | _=>false
noncomputable def Zix(i:Nat):Rs (Fl×List D)->Rs (Fl×List D)
 | .ok (f,δ)=>.ok (f,δ.set i .hole)
 | .exc _ _=>.stuck
 | .stuck=>.stuck
noncomputable def tryM(lock:Nat->Bool)(body:M Fl)(c:Str)(nm:Option Nat)(suite:M Fl):M Fl:=fun δ=>match body δ with
 | .ok r=>.ok r
 | .stuck=>.stuck
 | .exc x δ'=>if hits c x then (match nm with
  | none=>(match suite δ' with
   | .exc _ _=>.stuck
   | r=>r)
  | some i=>if i < δ'.length && !lock i then Zix i (suite (δ'.set i x)) else .stuck) else .stuck
noncomputable def excR(k:M Fl)(δ:List D):Rs (D×List D)->Rs (Fl×List D)
 | .exc x δ'=>.exc x δ'
 | _=>k δ
noncomputable def Ziy(c:M D)(k:M Fl):M Fl:=fun δ=>excR k δ (c δ)
mutual
noncomputable def ex(C:Ctx):S->M Fl
 | .asg i e=>(ev C e).bnd fun d=>(asgN C.lock i d).bnd fun _=>M.ret .nx
 | .unp is e=>(vdef e (ev C e)).bnd fun w=>(unpM C.lock is w).bnd fun _=>M.ret .nx
 | .sub i ps ix e=>match ps with
  | []=>(ev C e).bnd fun d=>(ZV i).bnd fun _=>(vdef ix (ev C ix)).bnd fun w=>(modS i (Zbm w d)).bnd fun _=>M.ret .nx
  | _=>stk
 | .attr i f e=>(ev C e).bnd fun d=>(ZV i).bnd fun _=>(modS i (putD C.fok f d)).bnd fun _=>M.ret .nx
 | .ex e=>(ev C e).bnd fun _=>M.ret .nx
 | .ret e=>(retV C e).bnd fun d=>M.ret (.rt d)
 | .iff c a b=>(tst C c).bnd fun t=>if t then exs C a else exs C b
 | .for_ tg ik ies body=>
  let lk:Nat->Bool:=fun j=>C.lock j || walked ies j
  (opds C ies).bnd fun ps=>(Zu ps).bnd fun h=>(lift (itW ik h.1)).bnd fun items=>(forL (asgT lk tg) (exs { C with lock:=lk } body) items).bnd fun f=>(ZN h.2).bnd fun _=>M.ret f
 | .pass=>M.ret .nx
 | .brk=>M.ret .bk
 | .cnt=>M.ret .ct
 | .raise _=>stk
 | .asgY i y=>(yev C y).bnd fun d=>(asgN C.lock i d).bnd fun _=>M.ret .nx
 | .raiseI ns f es=>((clm (opds C es)).bnd fun ps=>newX ns f ps).bnd Zcx
 | .attrX i f e=>(ev C e).bnd fun d=>(ZV i).bnd fun _=>(modS i (putX f d)).bnd fun _=>M.ret .nx
 | .forX tg ik ies body=>
  let lk:Nat->Bool:=fun j=>C.lock j || walked ies j
  (clm (opds C ies)).bnd fun ps=>(Zu ps).bnd fun h=>(lift (itW ik h.1)).bnd fun items δ=>finB h.2 (forL (asgT lk tg) (exs { C with lock:=lk } body) items δ)
 | .try_ body c nm suite=>tryM C.lock (exs C body) c nm (exs C suite)
 | .lf s=>clm (ex C s)
 | .forY tg ies y body=>
  let lk:Nat->Bool:=fun j=>C.lock j || walked ies j
  Ziy (yev C y) ((clm (opds C ies)).bnd fun ps=>(Zu ps).bnd fun h=>(lift (itW .val h.1)).bnd fun items δ=>finB h.2 (forL (asgT lk tg) (exs { C with lock:=lk } body) items δ))
 | .ifX c a b=>(clm (tst C c)).bnd fun t=>if t then exs C a else exs C b
noncomputable def exs(C:Ctx):List S->M Fl
 | []=>M.ret .nx
 | s::r=>seqL (ex C s) (exs C r)
end
noncomputable def ZaN(n:Nat):Rs (Fl×List D)->Rs (D×List D)
 | .ok (.rt d,δ)=>.ok (d,δ.take n)
 | .ok (.nx,δ)=>.ok (.sc .non,δ.take n)
 | .ok _=>.stuck
 | .exc x δ=>.exc x (δ.take n)
 | .stuck=>.stuck
noncomputable def Zi(C:Ctx)(n N:Nat)(body:List S)(ds:List D):Rs (D×List D):=
 if ds.length=n then ZaN n (exs { C with lock:=fun i=>decide (i < n) } body (ds++replicate (N - n) .hole)) else .stuck
inductive Sep{α:Type}(R:α->D->Bud->Prop):List α->List D->Bud->Prop
 | nil (m:Bud):Sep R [] [] m
 | cons {a:α} {d:D} {as:List α} {ds:List D} {m1 m2 m:Bud}:R a d m1->Sep R as ds m2->(∀ b,m1 b+m2 b<=m b)->Sep R (a::as) (d::ds) m
theorem RepL.sep:∀{vs:List V}{ds:List D}{m:Bud},RepL K H Hs vs ds m->Sep (Rep K H Hs) vs ds m
 | _,_,_,.nil _=>.nil _
 | _,_,_,.cons a b c=>.cons a b.sep c
termination_by structural a=>a
theorem Sep.repL:∀{vs:List V}{ds:List D}{m:Bud},Sep (Rep K H Hs) vs ds m->RepL K H Hs vs ds m
 | _,_,_,.nil _=>.nil _
 | _,_,_,.cons a b c=>.cons a b.repL c
termination_by structural a=>a
section
variable{β:Type}{R R':α->D->Bud->Prop}
theorem Sep.length:∀{as:List α}{ds:List D}{m:Bud},Sep R as ds m->as.length=ds.length
 | _,_,_,.nil _=>rfl
 | _,_,_,.cons _ b _=>by rw [length_cons,length_cons,b.length]
termination_by structural a=>a
theorem Sep.mono(h:Sep R as ds m)(l:∀ b,m b<=m' b):Sep R as ds m':=by
 cases h with
 | nil=>exact .nil _
 | cons a b c=>exact .cons a b fun x=>le_trans (c x) (l x)
theorem Sep.imp:∀{as:List α}{ds:List D}{m:Bud},(∀ a d m',(∀ b,m' b<=m b)->R a d m'->R' a d m')->Sep R as ds m->Sep R' as ds m
 | _,_,_,_,.nil _=>.nil _
 | _,_,m,f,.cons (m1:=m1) (m2:=m2) x y c=>.cons (f _ _ _ (fun b=>by have:=c b;omega) x) (y.imp fun a d m' l=>f a d m' fun b=>by have:=c b;have:=l b;(try dsimp only at *);omega) c
termination_by structural a=>a
theorem Sep.focus:∀{as:List α}{ds:List D}{m:Bud}{i:Nat}{d:D},Sep R as ds m->ds[i]?=some d->∃(a:α)(m1 m2:Bud),as[i]?=some a/\R a d m1/\(∀ b,m1 b+m2 b<=m b)/\
 ∀(R':α->D->Bud->Prop)(a':α)(d':D)(m':Bud),(∀ a d m',(∀ b,m' b<=m2 b)->R a d m'->R' a d m')->R' a' d' m'->Sep R' (as.set i a') (ds.set i d') (fun b=>m' b+m2 b)
 | _,_,_,_,_,.nil _,h=>by simp at h
 | _,_,m,0,_,.cons (a:=a) (m1:=m1) (m2:=m2) x y c,h=>by
  (simp only [List.getElem?_cons_zero,Option.some.injEq] at h)
  subst h
  exact ⟨a,m1,m2,rfl,x,c,fun R' a' d' m' f x'=>.cons x' (y.imp f) fun b=>le_refl _⟩
 | _,_,m,i+1,d,.cons (a:=a) (m1:=m1) (m2:=m2) x y c,h=>by
  obtain ⟨a',n1,n2,e,r,l,f⟩:=Sep.focus (i:=i) y (by simpa using h)
  refine ⟨a',n1,fun b=>m1 b+n2 b,by simpa using e,r,fun b=>by have:=c b;have:=l b;(try dsimp only at *);omega,fun R' a'' d'' m' g x'=>?_⟩
  have q:=f R' a'' d'' m' (fun a d m' l'=>g a d m' fun b=>by have:=l' b;(try dsimp only at *);omega) x'
  exact .cons (m2:=fun b=>m' b+n2 b) (g _ _ _ (fun b=>by (try dsimp only at *);omega) x) q fun b=>by (try dsimp only at *);omega
theorem Sep.append:∀{as bs:List α}{ds es:List D}{m1 m2:Bud},Sep R as ds m1->Sep R bs es m2->Sep R (as++bs) (ds++es) (fun b=>m1 b+m2 b)
 | _,_,_,_,_,_,.nil _,y=>y.mono fun b=>by (try dsimp only at *);omega
 | _,_,_,_,_,m2,.cons (m2:=n2) x y c,z=>.cons (m2:=fun b=>n2 b+m2 b) x (y.append z) fun b=>by have:=c b;omega
termination_by structural a=>a
def Sep.get{as:List α}{m:Bud}{i:Nat}{d:D}(h:Sep R as ds m)(e:ds[i]?=some d):∃(a:α)(m1:Bud),as[i]?=some a/\R a d m1/\∀ b,m1 b<=m b:=by
 obtain ⟨a,m1,m2,e,r,l,_⟩:=h.focus e
 exact ⟨a,m1,e,r,fun b=>by have:=l b;omega⟩
theorem Sep.split:∀{as:List α}{ds es:List D}{m:Bud},Sep R as (ds++es) m->∃(a1 a2:List α)(m1 m2:Bud),as=a1++a2/\Sep R a1 ds m1/\Sep R a2 es m2/\∀ b,m1 b+m2 b<=m b
 | as,[],es,m,h=>⟨[],as,fun _=>0,m,rfl,.nil _,h,fun b=>by (try dsimp only at *);omega⟩
 | _,d::ds,es,m,.cons (a:=a) (m1:=m1) x y c=>by
  obtain ⟨a1,a2,n1,n2,e,p,q,l⟩:=Sep.split (ds:=ds) (es:=es) y
  subst e
  exact ⟨a::a1,a2,fun b=>m1 b+n1 b,n2,rfl,.cons x p fun b=>le_refl _,q,fun b=>by have:=c b;have:=l b;(try dsimp only at *);omega⟩
def Sep.take(h:Sep R as ds m)(n:Nat):Sep R (as.take n) (ds.take n) m:=by
 have e:ds.take n++ds.drop n=ds:=List.take_append_drop n ds
 rw [<- e] at h
 obtain ⟨a1,a2,m1,m2,q,p,p',l⟩:=h.split
 have hl:=p.length
 have hd:=h.length
 subst q
 have:(a1++a2).take n=a1:=by
  by_cases hn:n<=ds.length
  . rw [List.take_left' (by rw [hl,length_take];omega)]
  . have e2:a2=[]:=by
     have:=p'.length
     rw [length_drop] at this
     exact List.length_eq_zero_iff.mp (by (try dsimp only at *);omega)
    rw [e2,append_nil]
    exact List.take_of_length_le (by rw [hl,length_take];omega)
 rw [this]
 exact p.mono fun b=>by have:=l b;omega
def Sep.drop(h:Sep R as ds m)(n:Nat):Sep R (as.drop n) (ds.drop n) m:=by
 have e:ds.take n++ds.drop n=ds:=List.take_append_drop n ds
 rw [<- e] at h
 obtain ⟨a1,a2,m1,m2,q,p,p',l⟩:=h.split
 have hl:=p.length
 subst q
 have:(a1++a2).drop n=a2:=by
  by_cases hn:n<=ds.length
  . rw [List.drop_left' (by rw [hl,length_take];omega)]
  . have e2:a2=[]:=by
     have:=p'.length
     rw [length_drop] at this
     exact List.length_eq_zero_iff.mp (by (try dsimp only at *);omega)
    rw [e2,append_nil]
    exact drop_of_length_le (by rw [hl,length_take];omega)
 rw [this]
 exact p'.mono fun b=>by have:=l b;omega
end
section
mutual
theorem Rep.share(g:Same Hs Hs'):∀{v:V}{d:D}{m:Bud},(∀ b,m b≥1->H b≠none->Hs' b=H b)->Rep K H Hs v d m->Rep K H Hs' v (shr d) (fun _=>0)
 | _,_,_,_,.sc v _=>.sc v _
 | _,_,_,_,.hole v _=>.hole v _
 | _,_,m,k,.own (a:=a) (m':=m') n r h=>by
  have h1:m a≥1:=by have:=h a;simp only [one,if_pos] at this;omega
  refine .shd (ZaO.r (n.eq (k a h1 n.at))) (RepL.share g (fun b hb=>k b ?_) r)
  have:=h b
  omega
 | _,_,_,_,.shd n r=>.shd (n.same g) (RepL.share g (fun b hb=>absurd hb (by simp)) r)
termination_by structural _ a=>a
theorem RepL.share(g:Same Hs Hs'):∀{vs:List V}{ds:List D}{m:Bud},(∀ b,m b≥1->H b≠none->Hs' b=H b)->RepL K H Hs vs ds m->RepL K H Hs' vs (shrL ds) (fun _=>0)
 | _,_,_,_,.nil _=>.nil _
 | _,_,m,k,.cons x y h=>by
  refine .cons (Rep.share g (fun b hb=>k b ?_) x) (RepL.share g (fun b hb=>k b ?_) y) fun b=>le_refl _
  . have:=h b;omega
  . have:=h b;omega
termination_by structural _ a=>a
end
noncomputable def shH(H Hs:Hp)(m:Bud):Hp:=fun b=>if m b≥1 then H b else Hs b
def Zbp{M:Bud}{m:Bud}(g:Good H Hs M)(l:∀ b,m b<=M b):Same Hs (shH H Hs m):=fun b o e=>by
 unfold shH
 split
 . exact g.sub b o e
 . exact e
def Zdc:∀ b,m b≥1->H b≠none->shH H Hs m b=H b:=fun b h _=>if_pos h
def Good.share{m M:Bud}(g:Good H Hs (fun b=>m b+M b)):Good H (shH H Hs m) M where
 sub:=fun b o e=>by
  unfold shH at e
  split at e
  . exact e
  . exact g.sub b o e
 le:=fun b=>by have:m b+M b<=1:=g.le b;omega
 ne:=fun b h=>by
  have:m b+M b<=1:=g.le b
  unfold shH
  rw [if_neg (by (try dsimp only at *);omega)]
  exact g.ne b (by show m b+M b=1;omega)
 has:=fun b h=>by
  have:m b+M b<=1:=g.le b
  exact g.has b (by show m b+M b=1;omega)
def Stp.share{m M:Bud}(g:Good H Hs (fun b=>m b+M b)):Stp H Hs (fun b=>m b+M b) H (shH H Hs m) M where
 keep:=fun _ _ h _=>h
 own:=fun b h=>.inl (by have:m b+M b<=1:=g.le b;show m b+M b=1;omega)
 grow:=Zbp g fun b=>by (try dsimp only at *);omega
 shr:=fun b h h'=>by
  unfold shH at h'
  split at h'
  . have:m b+M b<=1:=g.le b
    exact .inl (by show m b+M b=1;omega)
  . exact absurd h h'
 stay:=fun _ h=>h
end
def RepO(K:Fg)(H Hs:Hp)(o:Option V)(d:D)(m:Bud):Prop:=d=.hole\/∃ v,o=some v/\Rep K H Hs v d m
abbrev RepS(K:Fg)(H Hs:Hp)(σ:St)(δ:List D)(m:Bud):Prop:=Sep (RepO K H Hs) σ δ m
section
def RepO.frame(g:Same Hs Hs')(k:∀ b,m b≥1->H b≠none->H' b=H b)(h:RepO K H Hs o d m):RepO K H' Hs' o d m:=by
 rcases h with h|⟨v,e,r⟩
 . exact .inl h
 . exact .inr ⟨v,e,r.frame g k⟩
def RepS.frame(g:Same Hs Hs')(k:∀ b,m b≥1->H b≠none->H' b=H b)(h:RepS K H Hs σ δ m):RepS K H' Hs' σ δ m:=
 h.imp fun a d m' l r=>RepO.frame g (fun b hb=>k b (le_trans hb (l b))) r
theorem RepL.slots:∀{vs:List V}{ds:List D}{m:Bud},RepL K H Hs vs ds m->RepS K H Hs (vs.map some) ds m
 | _,_,_,.nil _=>.nil _
 | _,_,_,.cons x y c=>.cons (.inr ⟨_,rfl,x⟩) (RepL.slots y) c
theorem holes(o:Nat->Option V):∀(n:Nat)(m:Bud)(σ:St),σ.length=n->RepS K H Hs σ (replicate n .hole) m
 | 0,m,[],_=>.nil _
 | n+1,m,o::σ,h=>.cons (m1:=fun _=>0) (.inl rfl) (holes (fun _=>none) n m σ (by simpa using h)) fun b=>by (try dsimp only at *);omega
inductive SlotI(K:Fg)(H Hs:Hp)(σ:St)(δ:List D)(m:Bud)(i:Nat)(d:D):Prop
 | mk (v:V) (m1 m2:Bud) (h0:σ[i]?=some (some v)) (h1:Rep K H Hs v d m1) (h2:∀ b,m1 b+m2 b<=m b) (h3:∀(H' Hs':Hp)(o:Option V)(d':D)(m':Bud),Same Hs Hs'->(∀ b,m2 b≥1->H b≠none->H' b=H b)->RepO K H' Hs' o d' m'->RepS K H' Hs' (σ.set i o) (δ.set i d') (fun b=>m' b+m2 b)):SlotI K H Hs σ δ m i d
def RepS.slot(h:RepS K H Hs σ δ m)(e:δ[i]?=some d)(hd:d≠.hole):SlotI K H Hs σ δ m i d:=by
 obtain ⟨o,m1,m2,e1,r,l,f⟩:=h.focus e
 rcases r with r|⟨v,rfl,r⟩
 . exact absurd r hd
 . exact ⟨v,m1,m2,e1,r,l,fun H' Hs' o d' m' g k x=>f _ o d' m' (fun a d m'' l' q=>RepO.frame g (fun b hb=>k b (le_trans hb (l' b))) q) x⟩
theorem Zaf:∀{l:List α}{i:Nat}{a:α},l[i]?=some a->l.set i a=l
 | [],_,_,h=>by simp at h
 | b::l,0,a,h=>by simp at h;subst h;rfl
 | b::l,i+1,a,h=>by rw [List.set_cons_succ,Zaf (by simpa using h)]
end
open PySem.Spec
inductive BO{α β:Type}(c:M α)(f:α->M β)(δ:List D)(r:β×List D):Prop
 | mk (a:α) (δ':List D) (h:c δ=.ok (a,δ')) (k:f a δ'=.ok r):BO c f δ r
def Zb(h:c.bnd f δ=.ok r):BO c f δ r:=by
 unfold M.bnd at h
 split at h
 . rename_i a δ' e
   exact ⟨a,δ',e,h⟩
 . cases h
 . cases h
def Ze(h:M.ret a δ=.ok r):r=(a,δ):=by
 unfold M.ret at h
 injection h with h
 exact h.symm
theorem ZO(h:lift o δ=.ok (a,δ')):o=some a/\δ'=δ:=by
 cases o with
 | none=>cases h
 | some x=>
  have:=Ze h
  cases this
  exact ⟨rfl,rfl⟩
def RepP(K:Fg)(H Hs:Hp)(σ:St)(v:V):Op->Bud->Prop
 | .late i,_=>σ[i]?=some (some v)
 | .tmp d,m=>Rep K H Hs v d m
theorem RepP.frame(g:Same Hs Hs')(k:∀ b,m b≥1->H b≠none->H' b=H b)(h:RepP K H Hs σ v p m):RepP K H' Hs' σ v p m:=by
 cases p with
 | late i=>exact h
 | tmp d=>exact Rep.frame g k h
inductive View(K:Fg)(H Hs:Hp):V->W->Bud->Prop
 | sc (v:V) (m:Bud):View K H Hs v (.sc v) m
 | nd {a:Addr} {k:Kd} {vs:List V} {ds:List D} {m:Bud}:Zdx K H a vs k->RepL K H Hs vs ds m->View K H Hs (.ref a) (.nd k ds) m
theorem View.frame(g:Same Hs Hs')(h:View K H Hs v w m):View K H Hs' v w m:=by
 cases h with
 | sc v m=>exact .sc v m
 | nd n r=>exact .nd n (r.frame g fun _ _ _=>rfl)
section
variable{K:Fg}{M B m:Bud}
def Good.re(g:Good H Hs M)(l:∀ b,M' b<=M b:=by intro b;(try dsimp only);omega):Good H Hs M':=g.drop l
theorem Za0(g:Good H Hs (fun b=>B b+M b))(s:RepS K H Hs σ δ M)(r:RepP K H Hs σ v p m)(e:view p δ=.ok (w,δ')):
 ∃ Hs' M',Good H Hs' (fun b=>B b+M' b)/\Stp H Hs (fun b=>B b+M b) H Hs' (fun b=>B b+M' b)/\View K H Hs' v w m/\RepS K H Hs' σ δ' M':=by
 cases p with
 | tmp d=>
  cases d with
  | sc u=>
   have:=Ze e
   cases this
   cases r
   exact ⟨Hs,M,g,Stp.refl _ _ _,.sc _ _,s⟩
  | hole=>cases e
  | node k o ds=>
   have:=Ze e
   cases this
   refine ⟨Hs,M,g,Stp.refl _ _ _,?_,s⟩
   cases r with
   | own n q l=>exact .nd n.r (q.mono fun b=>by have:=l b;omega)
   | shd n q=>exact .nd (n.same g.sub) (q.mono fun b=>zero_le _)
 | late i=>
  have r:σ[i]?=some (some v):=r
  unfold view at e
  dsimp only at e
  split at e
  . rename_i u hi
    cases e
    obtain ⟨v',m1,m2,e1,q,l,f⟩:=s.slot hi (by simp)
    rw [r] at e1
    cases e1
    cases q
    exact ⟨Hs,M,g,Stp.refl _ _ _,.sc _ _,s⟩
  . rename_i k ds hi
    cases e
    obtain ⟨v',m1,m2,e1,q,l,f⟩:=s.slot hi (by simp)
    rw [r] at e1
    cases e1
    cases q with
    | shd n q=>exact ⟨Hs,M,g,Stp.refl _ _ _,.nd (n.same g.sub) (q.mono fun b=>zero_le _),s⟩
  . rename_i k ds hi
    cases e
    obtain ⟨v',m1,m2,e1,q,l,f⟩:=s.slot hi (by simp)
    rw [r] at e1
    cases e1
    cases q with
    | @own a _ vs _ _ m' n q l'=>
     have g2:Good H Hs (fun b=>m' b+(B b+(one a b+m2 b))):=g.re fun b=>by have:=l b;have:=l' b;omega
     have hsame:=Zbp g2 (m:=m') fun b=>by omega
     have q2:=RepL.share hsame (Zdc (H:=H) (Hs:=Hs) (m:=m')) q
     refine ⟨shH H Hs m',fun b=>one a b+m2 b,g2.share,?_,.nd n.r (q2.mono fun b=>zero_le _),?_⟩
     . have s1:=Stp.share g2
       exact ⟨fun b o h z=>h,fun b h=>by
        rcases s1.own b h with q|q
        . left
          have:B b+M b<=1:=g.le b
          have h1:=l b
          have h2:=l' b
          have h3:m' b+(B b+(one a b+m2 b))=1:=q
          show B b+M b=1
          omega
        . exact .inr q,s1.grow,fun b h h'=>by
        rcases s1.shr b h h' with q|q
        . left
          have:B b+M b<=1:=g.le b
          have h1:=l b
          have h2:=l' b
          have h3:m' b+(B b+(one a b+m2 b))=1:=q
          show B b+M b=1
          omega
        . exact .inr q,fun b h=>h⟩
     . have z:=f H (shH H Hs m') (some (.ref a)) (.node k true (shrL ds)) (one a) hsame (fun _ _ _=>rfl) (.inr ⟨_,rfl,.own n q2 fun b=>by simp⟩)
       rw [Zaf r] at z
       exact z
  . cases e
def Outs(K:Fg)(H Hs:Hp)(m:Bud)(d:D)(Q:VK):Prop:=∀(v:V)(H':Hp)(m':Bud),Same H H'->(∀ b,m' b<=1)->(∀ b,m' b=1->H' b≠none)->(∀ b,H b≠none->m' b<=m b)->Rep K H' Hs v d m'->Q v H'
def Outs.sc(h:Outs K H Hs m (.sc u) Q):Q u H:=h u H (fun _=>0) (Same.refl _) (fun _=>zero_le _) (fun _ h=>by simp at h) (fun _ _=>zero_le _) (.sc u _)
def Zgs(h:H p=none):Same H (upd H p o):=fun b u e=>by
 rw [Zn (Zai e h)]
 exact e
def Outs.new(h:Outs K H Hs m (.node k true ds) Q)(hm:∀ b,m b<=1)(hh:∀ b,m b=1->H b≠none)(hp:H p=none)(n:ZaO K (upd H p o) p vs k)(r:RepL K H Hs vs ds m):Q (.ref p) (upd H p o):=by
 have hs:=Zgs (o:=o) hp
 have mp:m p=0:=by
  have:=hm p
  by_cases q:m p=1
  . exact absurd hp (hh p q)
  . omega
 refine h (.ref p) (upd H p o) (fun b=>one p b+m b) hs (fun b=>?_) (fun b q=>?_) (fun b q=>?_) (.own n (r.frame (Same.refl _) fun b hb hn=>?_) fun b=>le_refl _)
 . unfold one
   have:=hm b
   split
   . rename_i e;subst e;omega
   . omega
 . by_cases e:b=p
   . subst e;rw [Zj];simp
   . rw [Zn e]
     exact hh b (by simp only [one,if_neg e] at q;omega)
 . have e:b≠p:=fun e=>by subst e;exact q hp
   simp only [one,if_neg e]
   omega
 . have e:b≠p:=fun e=>by subst e;exact hn hp
   rw [Zn e]
def Zbs(st:Stp H0 Hs0 M0 H Hs (fun b=>B b+M b))(g:Good H Hs (fun b=>B b+M b))(s:RepS K H Hs σ δ M)
 (q:∀(v:V)(H' Hs':Hp)(m M':Bud),Good H' Hs' (fun b=>m b+M' b)->Stp H0 Hs0 M0 H' Hs' (fun b=>m b+M' b)->Rep K H' Hs' v d m->RepS K H' Hs' σ δ M'->Q v H'):Outs K H Hs B d Q:=by
 intro v H' m' hs h1 h2 h3 r
 have hz:∀ b,H b=none->M b=0/\B b=0:=fun b hb=>by
  have:=g.has b
  have l:B b+M b<=1:=g.le b
  by_cases e:B b+M b=1
  . exact absurd hb (this e)
  . omega
 have hst:∀ b,H b≠none->H' b≠none:=fun b hb=>by
  cases e:H b with
  | none=>exact absurd e hb
  | some o=>rw [hs b o e];simp
 refine q v H' Hs m' M ⟨fun b o e=>hs b o (g.sub b o e),fun b=>?_,fun b h=>?_,fun b h=>?_⟩ ⟨fun b o e z=>hs b o (st.keep b o e z),fun b h=>?_,st.grow,st.shr,fun b h=>hst b (st.stay b h)⟩ r (s.frame (Same.refl _) fun b hb hn=>?_)
 . have l:B b+M b<=1:=g.le b
   have:=h1 b
   by_cases e:H b=none
   . have:=hz b e;show m' b+M b<=1;omega
   . have:=h3 b e;show m' b+M b<=1;omega
 . have h:m' b+M b=1:=h
   have l:B b+M b<=1:=g.le b
   by_cases e:H b=none
   . cases q:Hs b with
     | none=>rfl
     | some o=>rw [g.sub b o q] at e;cases e
   . have:=h3 b e
     exact g.ne b (by show B b+M b=1;omega)
 . have h:m' b+M b=1:=h
   have l:B b+M b<=1:=g.le b
   by_cases e:m' b=1
   . exact h2 b e
   . exact hst b (g.has b (by show B b+M b=1;omega))
 . have h:m' b+M b=1:=h
   have l:B b+M b<=1:=g.le b
   by_cases e:H b=none
   . right
     cases w:H0 b with
     | none=>rfl
     | some o=>exact absurd e (st.stay b (by rw [w];simp))
   . have:=h3 b e
     exact st.own b (by show B b+M b=1;omega)
 . cases e:H b with
   | none=>exact absurd e hn
   | some o=>exact hs b o e
def RepL.app(a:RepL K H Hs vs ds m1)(b:RepL K H Hs ws es m2):RepL K H Hs (vs++ws) (ds++es) (fun b=>m1 b+m2 b):=(a.sep.append b.sep).repL
def RepL.len(a:RepL K H Hs vs ds m):vs.length=ds.length:=a.sep.length
end
inductive tG{α:Type}(K:Fg)(c:M α)(R:Hp->Hp->St->α->V->Bud->Prop)(σ:St)(H:Hp)(Q:VK):Prop
 | mk (δ:List D) (Hs:Hp) (M:Bud) (a:α) (δ':List D) (h0:Good H Hs M) (h1:RepS K H Hs σ δ M) (h2:c δ=.ok (a,δ')) (h3:∀(v:V)(H' Hs':Hp)(m M':Bud),Good H' Hs' (fun b=>m b+M' b)->Stp H Hs M H' Hs' (fun b=>m b+M' b)->R H' Hs' σ a v m->RepS K H' Hs' σ δ' M'->Q v H'):tG K c R σ H Q
def tM(K:Fg)(c:M D):TE:=tG K c fun H Hs _ d v m=>Rep K H Hs v d m
def tP(K:Fg)(c:M Op):TE:=tG K c fun H Hs σ p v m=>RepP K H Hs σ v p m
inductive tT(K:Fg)(c:M Bool)(σ:St)(H:Hp)(Q:Bool->Hp->Prop):Prop
 | mk (δ:List D) (Hs:Hp) (M:Bud) (b:Bool) (δ':List D) (h0:Good H Hs M) (h1:RepS K H Hs σ δ M) (h2:c δ=.ok (b,δ')) (h3:∀(H' Hs':Hp)(M':Bud),Good H' Hs' M'->Stp H Hs M H' Hs' M'->RepS K H' Hs' σ δ' M'->Q b H'):tT K c σ H Q
def ZaP(K:Fg)(H Hs:Hp)(σ:St):List V->List Op->Bud->Prop
 | [],[],_=>True
 | v::vs,p::ps,m=>∃ m1 m2:Bud,RepP K H Hs σ v p m1/\ZaP K H Hs σ vs ps m2/\∀ b,m1 b+m2 b<=m b
 | _,_,_=>False
theorem ZaP.frame(g:Same Hs Hs'):∀{vs:List V}{ps:List Op}{m:Bud},(∀ b,m b≥1->H b≠none->H' b=H b)->ZaP K H Hs σ vs ps m->ZaP K H' Hs' σ vs ps m
 | [],[],_,_,h=>h
 | v::vs,p::ps,m,k,⟨m1,m2,a,b,l⟩=>⟨m1,m2,a.frame g fun c hc=>k c (by have:=l c;omega),b.frame g fun c hc=>k c (by have:=l c;omega),l⟩
 | [],_::_,_,_,h=>h.elim
 | _::_,[],_,_,h=>h.elim
inductive tPs(K:Fg)(c:M (List Op))(σ:St)(H:Hp)(Q:List V->Hp->Prop):Prop
 | mk (δ:List D) (Hs:Hp) (M:Bud) (a:List Op) (δ':List D) (h0:Good H Hs M) (h1:RepS K H Hs σ δ M) (h2:c δ=.ok (a,δ')) (h3:∀(vs:List V)(H' Hs':Hp)(m M':Bud),Good H' Hs' (fun b=>m b+M' b)->Stp H Hs M H' Hs' (fun b=>m b+M' b)->ZaP K H' Hs' σ vs a m->RepS K H' Hs' σ δ' M'->Q vs H'):tPs K c σ H Q
inductive tDs(K:Fg)(c:M (List D))(σ:St)(H:Hp)(Q:List V->Hp->Prop):Prop
 | mk (δ:List D) (Hs:Hp) (M:Bud) (a:List D) (δ':List D) (h0:Good H Hs M) (h1:RepS K H Hs σ δ M) (h2:c δ=.ok (a,δ')) (h3:∀(vs:List V)(H' Hs':Hp)(m M':Bud),Good H' Hs' (fun b=>m b+M' b)->Stp H Hs M H' Hs' (fun b=>m b+M' b)->RepL K H' Hs' vs a m->RepS K H' Hs' σ δ' M'->Q vs H'):tDs K c σ H Q
section
variable{e a b:Expr}{es:List Expr}
def PE.imp(h:PE X e t)(w:∀ σ H Q,t' σ H Q->t σ H Q):PE X e t':=fun pins s σ H Q I q=>h pins s σ H Q I (w σ H Q q)
def PT.imp(h:PT X e t)(w:∀ σ H Q,t' σ H Q->t σ H Q):PT X e t':=fun pins s σ H Q I q=>h pins s σ H Q I (w σ H Q q)
def PA.imp(h:PA X es t)(w:∀ σ H Q,t' σ H Q->t σ H Q):PA X es t':=fun pos pins s σ H Q I q=>h pos pins s σ H Q I (w σ H Q q)
def Za4{M:Bud}(g:Good H Hs M):Good H Hs (fun b=>(fun _=>0) b+M b):=g.drop fun b=>by simp
def stp0(H Hs:Hp)(M:Bud):Stp H Hs M H Hs (fun b=>(fun _=>0) b+M b):=by
 have e:(fun b=>(fun _=>0) b+M b)=M:=by funext b;simp
 rw [e]
 exact Stp.refl H Hs M
def ok_k{v:V}(h:PE X e (tC v)):PE X e (tM X.K (M.ret (.sc v))):=PE.imp h fun σ H Q z0=>by
 obtain ⟨δ,Hs,M,d,δ',g,r,e,q⟩:=z0
 have:=Ze e
 cases this
 exact q v H Hs (fun _=>0) M (Za4 g) (stp0 H Hs M) (.sc v _) r
def Zhv{i:Nat}(h:PE X e (tVar i)):PE X e (tP X.K (ZV i)):=PE.imp h fun σ H Q z0=>by
 obtain ⟨δ,Hs,M,p,δ',g,r,e,q⟩:=z0
 have fin:∀{d:D},δ[i]?=some d->d≠.hole->p=.late i->δ'=δ->tVar i σ H Q:=fun hd hn e1 e2=>by
  subst e1 e2
  obtain ⟨v,m1,m2,e3,_⟩:=r.slot hd hn
  exact ⟨v,e3,q v H Hs (fun _=>0) M (Za4 g) (stp0 H Hs M) e3 r⟩
 unfold ZV at e
 split at e
 . rename_i hd
   injection e with e
   cases e
   exact fin hd (by simp) rfl rfl
 . rename_i hd
   injection e with e
   cases e
   exact fin hd (by simp) rfl rfl
 . cases e
def ok_v{i:Nat}(h:PE X e (tVar i)):PE X e (tM X.K (valV i)):=PE.imp h fun σ H Q z0=>by
 obtain ⟨δ,Hs,M,d,δ',g,s,e,q⟩:=z0
 unfold valV at e
 split at e
 . rename_i u hd
   injection e with e
   cases e
   obtain ⟨v,m1,m2,e3,r,_⟩:=s.slot hd (by simp)
   cases r
   exact ⟨u,e3,q u H Hs (fun _=>0) M (Za4 g) (stp0 H Hs M) (.sc _ _) s⟩
 . rename_i k ds hd
   injection e with e
   cases e
   obtain ⟨v,m1,m2,e3,r,_⟩:=s.slot hd (by simp)
   cases r with
   | shd n r=>exact ⟨_,e3,q _ H Hs (fun _=>0) M (Za4 g) (stp0 H Hs M) (.shd n r) s⟩
 . rename_i k ds hd
   injection e with e
   cases e
   obtain ⟨v,m1,m2,e3,r,l,f⟩:=s.slot hd (by simp)
   refine ⟨v,e3,?_⟩
   have g2:Good H Hs (fun b=>m1 b+m2 b):=g.re fun b=>by have:=l b;omega
   have hsame:=Zbp g2 (m:=m1) fun b=>by omega
   have r2:=Rep.share hsame (Zdc (H:=H) (Hs:=Hs) (m:=m1)) r
   have st:=Stp.share g2
   refine q v H (shH H Hs m1) (fun _=>0) m2 (Za4 g2.share) ⟨fun b o h _=>h,fun b h=>?_,st.grow,fun b h h'=>?_,fun b h=>h⟩ r2 ?_
   . have h:(fun _=>0) b+m2 b=1:=h
     have:=l b
     have:=g.le b
     left;simp at h;omega
   . rcases st.shr b h h' with z|z
     . have z:m1 b+m2 b=1:=z
       have:=l b
       have:=g.le b
       left;omega
     . exact .inr z
   . have z:=f H (shH H Hs m1) (some v) (.node k false (shrL ds)) (fun _=>0) hsame (fun _ _ _=>rfl) (.inr ⟨v,rfl,r2⟩)
     rw [Zaf e3] at z
     exact z.mono fun b=>by simp
 . cases e
def Za(h:PE X e (tM X.K c)):PE X e (tP X.K (c.bnd fun d=>M.ret (.tmp d))):=PE.imp h fun σ H Q z0=>by
 obtain ⟨δ,Hs,M,p,δ',g,s,e,q⟩:=z0
 obtain ⟨d,δ1,e1,e2⟩:=Zb e
 have:=Ze e2
 cases this
 exact ⟨δ,Hs,M,d,_,g,s,e1,fun v H' Hs' m M' g' st r s'=>q v H' Hs' m M' g' st r s'⟩
def seq2{K:Fg}{ca cb:M Op}{M:Bud}{p q:Op}{R:V->V->Hp->Prop}(g:Good H Hs M)(s:RepS K H Hs σ δ M)(e1:ca δ=.ok (p,δ1))(e2:cb δ1=.ok (q,δ2))
 (h:∀(x y:V)(H2 Hs2:Hp)(m1 m2 M2:Bud),Good H2 Hs2 (fun b=>(m1 b+m2 b)+M2 b)->Stp H Hs M H2 Hs2 (fun b=>(m1 b+m2 b)+M2 b)->RepP K H2 Hs2 σ x p m1->RepP K H2 Hs2 σ y q m2->RepS K H2 Hs2 σ δ2 M2->R x y H2):
 tP K ca σ H fun x H1=>tP K cb σ H1 fun y H2=>R x y H2:=by
 refine ⟨δ,Hs,M,p,δ1,g,s,e1,fun x H1 Hs1 m1 M1 g1 st1 r1 s1=>⟨δ1,Hs1,M1,q,δ2,g1.re,s1,e2,fun y H2 Hs2 m2 M2 g2 st2 r2 s2=>?_⟩⟩
 obtain ⟨G,S,k⟩:=Zo g g1 st1 g2 st2
 have le:∀ b,m1 b+(m2 b+M2 b)<=1:=G.le
 exact h x y H2 Hs2 m1 m2 M2 G.re (S.drop (fun b=>by omega) le) (r1.frame st2.grow k) r2 s2
def Ziz{K:Fg}{M:Bud}{p q:Op}{x y:V}(g:Good H Hs (fun b=>(m1 b+m2 b)+M b))(s:RepS K H Hs σ δ M)(r1:RepP K H Hs σ x p m1)(r2:RepP K H Hs σ y q m2)
 (e1:view p δ=.ok (w1,δ1)) (e2:view q δ1=.ok (w2,δ2)):∃ Hs' M',Good H Hs' (fun b=>(m1 b+m2 b)+M' b)/\Stp H Hs (fun b=>(m1 b+m2 b)+M b) H Hs' (fun b=>(m1 b+m2 b)+M' b)/\View K H Hs' x w1 m1/\View K H Hs' y w2 m2/\RepS K H Hs' σ δ2 M':=by
 obtain ⟨Hs1,M1,g1,st1,v1,s1⟩:=Za0 (B:=fun b=>m1 b+m2 b) g s r1 e1
 obtain ⟨Hs2,M2,g2,st2,v2,s2⟩:=Za0 (B:=fun b=>m1 b+m2 b) g1 s1 (r2.frame st1.grow fun _ _ _=>rfl) e2
 refine ⟨Hs2,M2,g2,?_,v1.frame st2.grow,v2,s2⟩
 have z:=Zo (m1:=fun _=>0) g (g1.re fun b=>by simp) (st1.drop (fun b=>by simp) g1.le) g2 st2
 exact z.2.1.drop (fun b=>by simp) z.1.le
inductive r2W(K:Fg)(f:W->W->Option D)(x y:V)(H:Hp)(Q:VK):Prop
 | mk (Hs:Hp) (w1 w2:W) (m1 m2:Bud) (d:D) (h0:Same Hs H) (h1:(∀ b,m1 b+m2 b<=1)) (h2:(∀ b,m1 b+m2 b=1->H b≠none)) (h3:View K H Hs x w1 m1) (h4:View K H Hs y w2 m2) (h5:f w1 w2=some d) (h6:Outs K H Hs (fun b=>m1 b+m2 b) d Q):r2W K f x y H Q
def op2(h:tM K (ca.bnd fun p=>cb.bnd fun q=>(view p).bnd fun x=>(view q).bnd fun y=>lift (f x y)) σ H Q):tOp (r2W K f) (tP K ca) (tP K cb) σ H Q:=by
 obtain ⟨δ,Hs,M,d,δ',g,s,e,q⟩:=h
 obtain ⟨p,δ1,e1,e⟩:=Zb e
 obtain ⟨p2,δ2,e2,e⟩:=Zb e
 obtain ⟨w1,δ3,e3,e⟩:=Zb e
 obtain ⟨w2,δ4,e4,e⟩:=Zb e
 obtain ⟨e5,rfl⟩:=ZO e
 refine seq2 g s e1 e2 fun x y H2 Hs2 m1 m2 M2 g2 st2 r1 r2 s2=>?_
 obtain ⟨Hs3,M3,g3,st3,v1,v2,s3⟩:=Ziz g2 s2 r1 r2 e3 e4
 have z:=Zo (m1:=fun _=>0) g (g2.re fun b=>by simp) (st2.drop (fun b=>by simp) g2.le) g3 st3
 have st:Stp H Hs M H2 Hs3 (fun b=>(m1 b+m2 b)+M3 b):=z.2.1.drop (fun b=>by simp) z.1.le
 exact ⟨Hs3,w1,w2,m1,m2,d,g3.sub,fun b=>by have:(m1 b+m2 b)+M3 b<=1:=g3.le b;omega,fun b hb=>g3.has b (by have:(m1 b+m2 b)+M3 b<=1:=g3.le b;show (m1 b+m2 b)+M3 b=1;omega),v1,v2,e5,Zbs st g3 s3 q⟩
def Zow(ho:OpR X (binaryOp op) (r2W X.K (binW op)))(ha:PE X a (tP X.K ca))(hb:PE X b (tP X.K cb)):
 PE X (.BinOp a op b pos) (tM X.K (ca.bnd fun p=>cb.bnd fun q=>(view p).bnd fun x=>(view q).bnd fun y=>lift (binW op x y))):=PE.imp (Zqc ho ha hb) fun σ H Q h=>op2 h
def Zk6:OpR X (binaryOp .FloorDiv) (rI (fun _ j=>0 < j/\j < 18446744073709551616) fun i j=>.int (i / j)):=opI fun i j _ _ _ _ _ hc q=>by
 have h1:(0:Int) < j:=hc.1
 have h2:j < 18446744073709551616:=hc.2
 refine PyProof.Rows.floordiv_int (by omega) (by rw [Int.fdiv_eq_ediv_of_nonneg i (by omega)];exact q) (.inl (PyProof.noPylong_of_log2 ?_))
 by_cases h0:j.natAbs=0
 . rw [h0];decide +kernel
 . have:j.natAbs.log2 < 64:=(Nat.log2_lt h0).mpr (by omega)
   omega
theorem ZbC:∀{ds:List D}{vs:List V}{m:Bud}{is:List Int},RepL K H Hs vs ds m->Zal ds=some is->vs=is.map V.int
 | [],_,_,is,.nil _,h=>by simp only [Zal,Option.some.injEq] at h;subst h;rfl
 | d::ds,_,_,is,.cons x y _,h=>by
  unfold Zal at h
  split at h
  . rename_i hh;cases hh
  . rename_i i r hh
    injection hh with h1 h2
    subst h1 h2
    (simp only [map_eq_some_iff] at h)
    obtain ⟨js,h,rfl⟩:=h
    cases x
    rw [ZbC y h]
    rfl
  . cases h
termination_by structural a=>a
theorem ZeS:∀(l:List Int),RepL K H Hs (l.map V.int) (l.map fun i=>D.sc (.int i)) (fun _=>0)
 | []=>.nil _
 | i::l=>.cons (m1:=fun _=>0) (m2:=fun _=>0) (.sc _ _) (ZeS l) fun b=>by simp
def Zk7(k:Nat)(is:List Int):RepL K H Hs (replicate k (is.map V.int)).flatten ((replicate k is).flatten.map fun i=>D.sc (.int i)) (fun _=>0):=by
 have z:=ZeS (K:=K) (H:=H) (Hs:=Hs) (replicate k is).flatten
 rw [List.map_flatten,List.map_replicate] at z
 exact z
def Zox (op:Operator):OpR X (binaryOp op) (r2W X.K (binW op)):=by
 intro pins s σ H x y v u Q I rx ry h
 obtain ⟨Hs,w1,w2,m1,m2,d,hs,h1,h2,v1,v2,e,o⟩:=h
 unfold binW at e
 split at e
 . split at e
   . cases e;cases v1;cases v2;exact ZnO pins s σ H _ _ v u Q I rx ry ⟨_,_,rfl,rfl,o.sc⟩
   . cases e;cases v1;cases v2;exact ZnP pins s σ H _ _ v u Q I rx ry ⟨_,_,rfl,rfl,o.sc⟩
   . split at e
     . rename_i hc;cases e;cases v1;cases v2;exact ZnQ pins s σ H _ _ v u Q I rx ry ⟨_,_,rfl,rfl,hc,o.sc⟩
     . cases e
   . split at e
     . rename_i hc;cases e;cases v1;cases v2;exact Zk6 pins s σ H _ _ v u Q I rx ry ⟨_,_,rfl,rfl,hc,o.sc⟩
     . cases e
   . split at e
     . rename_i hc;cases e;cases v1;cases v2;exact ZnR pins s σ H _ _ v u Q I rx ry ⟨_,_,rfl,rfl,hc,o.sc⟩
     . cases e
   . split at e
     . rename_i hc;cases e;cases v1;cases v2;exact ZnS pins s σ H _ _ v u Q I rx ry ⟨_,_,rfl,rfl,hc,o.sc⟩
     . cases e
   . cases e
 . split at e
   . unfold newL at e
     split at e
     . rename_i hc
       cases e
       cases v1 with
       | nd n1 r1=>cases v2 with
        | nd n2 r2=>
         have l1:=r1.len
         have l2:=r2.len
         rw [List.length_append] at hc
         exact Zoc pins s σ H _ _ v u Q I rx ry ⟨_,_,_,_,rfl,rfl,n1,n2,by omega,fun p hp=>o.new h1 h2 hp (show upd H p _ p=_ from Zj) (r1.app r2)⟩
     . cases e
   . cases e
 . split at e
   . split at e
     . rename_i hc
       simp only [map_eq_some_iff] at e
       obtain ⟨is,ei,rfl⟩:=e
       cases v1 with
       | nd n1 r1=>
        cases v2
        have hl:=r1.len
        have ex:=ZbC r1 ei
        subst ex
        refine Zod pins s σ H _ _ v u Q I rx ry ⟨_,_,_,rfl,rfl,n1,hc.1,hc.2.1,by rw [hl];exact hc.2.2,fun p hp=>o.new h1 h2 hp (show upd H p _ p=_ from Zj) ?_⟩
        exact (Zk7 _ is).mono fun b=>zero_le _
     . cases e
   . cases e
 . cases e
end
mutual
theorem Rep.den(g:Same Hs H):∀{v:V}{d:D}{m:Bud}{a:PyData},Rep K H Hs v d m->py d=some a->Den K H v a
 | _,_,_,_,.sc .non _,h=>by cases h;exact .non
 | _,_,_,_,.sc (.bl b) _,h=>by cases h;exact .bl b
 | _,_,_,_,.sc (.int b) _,h=>by cases h;exact .int b
 | _,_,_,_,.sc (.str b) _,h=>by cases h;exact .str b
 | _,_,_,_,.sc (.byt b) _,h=>by cases h
 | _,_,_,_,.sc (.flt b) _,h=>by cases h
 | _,_,_,_,.sc (.ref b) _,h=>by cases h
 | _,_,_,_,.sc (.ty b) _,h=>by cases h
 | _,_,_,_,.hole v _,h=>by cases h
 | _,_,_,_,.own (k:=.lst) n r _,h=>by
  replace h:=Option.map_eq_some_iff.mp h
  obtain ⟨x,h,rfl⟩:=h
  exact .lst (.inl (.inl n)) (RepL.den g r h)
 | _,_,_,_,.own (k:=.frl) n r _,h=>n.elim
 | _,_,_,_,.own (k:=.tup) n r _,h=>by
  replace h:=Option.map_eq_some_iff.mp h
  obtain ⟨x,h,rfl⟩:=h
  exact .tup (.inl (.inl n)) (RepL.den g r h)
 | _,_,_,_,.own (k:=.ftp) n r _,h=>n.elim
 | _,_,_,_,.own (k:=.dic _) n r _,h=>by cases h
 | _,_,_,_,.own (k:=.ins _ _) n r _,h=>by cases h
 | _,_,_,_,.own (k:=.exc _ _ _) n r _,h=>by cases h
 | _,_,_,_,.shd (k:=.lst) n r,h=>by
  replace h:=Option.map_eq_some_iff.mp h
  obtain ⟨x,h,rfl⟩:=h
  exact .lst (.inl (.inl (g _ _ n))) (RepL.den g r h)
 | _,_,_,_,.shd (k:=.frl) n r,h=>by
  replace h:=Option.map_eq_some_iff.mp h
  obtain ⟨x,h,rfl⟩:=h
  exact .lst (g.seq n) (RepL.den g r h)
 | _,_,_,_,.shd (k:=.tup) n r,h=>by
  replace h:=Option.map_eq_some_iff.mp h
  obtain ⟨x,h,rfl⟩:=h
  exact .tup (.inl (.inl (g _ _ n))) (RepL.den g r h)
 | _,_,_,_,.shd (k:=.ftp) n r,h=>by
  replace h:=Option.map_eq_some_iff.mp h
  obtain ⟨x,h,rfl⟩:=h
  exact .tup (Same.tupq' g n) (RepL.den g r h)
 | _,_,_,_,.shd (k:=.dic _) n r,h=>by cases h
 | _,_,_,_,.shd (k:=.ins _ _) n r,h=>by cases h
 | _,_,_,_,.shd (k:=.exc _ _ _) n r,h=>by cases h
termination_by structural _ a=>a
theorem RepL.den(g:Same Hs H):∀{vs:List V}{ds:List D}{m:Bud}{as:List PyData},RepL K H Hs vs ds m->pyL ds=some as->DenL K H vs as
 | _,_,_,_,.nil _,h=>by cases h;exact .nil
 | _,_,_,_,.cons x y _,h=>by
  obtain ⟨a,h1,h⟩:=Option.bind_eq_some_iff.mp h
  obtain ⟨as,h2,rfl⟩:=Option.map_eq_some_iff.mp h
  exact .cons (Rep.den g x h1) (RepL.den g y h2)
termination_by structural _ a=>a
end
theorem View.den(g:Same Hs H)(h:View K H Hs v w m)(e:py (toD w)=some a):Den K H v a:=by
 cases h with
 | sc v m=>exact Rep.den g (.sc v m) e
 | @nd ad k vs ds m n r=>
  cases k with
  | lst=>
   simp only [toD,py,map_eq_some_iff] at e
   obtain ⟨x,e,rfl⟩:=e
   exact .lst (.inl (.inl n)) (r.den g e)
  | frl=>
   simp only [toD,py,map_eq_some_iff] at e
   obtain ⟨x,e,rfl⟩:=e
   exact .lst n (r.den g e)
  | tup=>
   simp only [toD,py,map_eq_some_iff] at e
   obtain ⟨x,e,rfl⟩:=e
   exact .tup (.inl (.inl n)) (r.den g e)
  | ftp=>
   simp only [toD,py,map_eq_some_iff] at e
   obtain ⟨x,e,rfl⟩:=e
   exact .tup n (r.den g e)
  | dic ks=>simp [toD,py] at e
  | ins C fs=>simp [toD,py] at e
  | exc ns fr fs=>simp [toD,py] at e
section
variable{e a b c:Expr}{es rest:List Expr}
def ZmE{a b:PyData}{t:Bool}(h:eqPy a b=some t):SeqAt.shaped a=true/\SeqAt.shaped b=true/\PyData.eqv a b=t:=by
 unfold eqPy at h
 split at h
 . rename_i q
   exact ⟨q.1,q.2,Option.some.inj h⟩
 . cases h
theorem Zju{K:Fg}(g:Same Hs H){x y:V}{t:Bool}(v1:View K H Hs x w1 m1)(v2:View K H Hs y w2 m2)(h:eqW w1 w2=some t):
 (scal x y=true/\decide (x=y)=t)\/∃ d e,Den K H x d/\Den K H y e/\SeqAt.shaped d=true/\SeqAt.shaped e=true/\PyData.eqv d e=t:=by
 have go:((py (toD w1)).bind fun a=>(py (toD w2)).bind fun b=>eqPy a b)=some t->∃ d e,Den K H x d/\Den K H y e/\SeqAt.shaped d=true/\SeqAt.shaped e=true/\PyData.eqv d e=t:=fun q=>by
  simp only [bind_eq_some_iff] at q
  obtain ⟨d,q1,e,q2,q3⟩:=q
  obtain ⟨s1,s2,s3⟩:=ZmE q3
  exact ⟨d,e,v1.den g q1,v2.den g q2,s1,s2,s3⟩
 cases v1 with
 | sc u _=>cases v2 with
  | sc v _=>
   have h:(if scal x y=true then some (decide (x=y)) else (py (.sc x)).bind fun a=>(py (.sc y)).bind fun b=>eqPy a b)=some t:=h
   by_cases q:scal x y=true
   . rw [if_pos q] at h
     exact .inl ⟨q,Option.some.inj h⟩
   . rw [if_neg q] at h
     exact .inr (go h)
  | nd n r=>exact .inr (go h)
 | nd n r=>exact .inr (go h)
theorem Ze1(i:Int):∀ is:List Int,inV (.int i) (is.map V.int)=decide (i∈is)
 | []=>rfl
 | j::is=>by
  have h:=Ze1 i is
  unfold inV at h ⊢
  rw [map_cons,any_cons,h,show eqV (V.int j) (V.int i)=decide (j=i) from rfl]
  by_cases e:j=i
  . subst e;simp
  . have e':¬ i=j:=fun q=>e q.symm
    simp [e,e']
theorem ZdJ:∀ is:List Int,(is.map V.int).all Zch=true
 | []=>rfl
 | j::is=>by rw [map_cons,List.all_cons,ZdJ is];rfl
theorem Zk8{c:M D}{r:Bool×List D}(h:ZcG c δ=.ok r):c δ=.ok (.sc (.bl r.1),r.2):=by
 obtain ⟨d,δ1,e1,e2⟩:=Zb h
 obtain ⟨b,δ2⟩:=r
 obtain ⟨e3,rfl⟩:=ZO e2
 cases d with
 | sc v=>cases v with
  | bl t=>cases e3;exact e1
  | _=>cases e3
 | _=>cases e3
def Zhw{c:M D}{Q:Bool->Hp->Prop}{K:Fg}(h:tT K (ZcG c) σ H Q):tM K c σ H fun x H'=>∃ k,x=.bl k/\Q k H':=by
 obtain ⟨δ,Hs,M,b,δ',g,s,e,q⟩:=h
 refine ⟨δ,Hs,M,.sc (.bl b),δ',g,s,Zk8 e,fun v H' Hs' m M' g' st r s'=>?_⟩
 cases r
 exact ⟨b,rfl,q H' Hs' M' g'.re (st.drop (fun b=>by omega) g'.le) s'⟩
def op1{K:Fg}{ca:M Op}{f:W->Option D}{Q:VK}{r:V->Hp->VK->Prop}(h:tM K ((ca.bnd view).bnd fun x=>lift (f x)) σ H Q)
 (hr:∀(x:V)(H Hs:Hp)(w:W)(m:Bud)(d:D),Same Hs H->(∀ b,m b<=1)->(∀ b,m b=1->H b≠none)->View K H Hs x w m->f w=some d->Outs K H Hs m d Q->r x H Q):tUn r (tP K ca) σ H Q:=by
 obtain ⟨δ,Hs,M,d,δ',g,s,e,q⟩:=h
 obtain ⟨w,δ2,e,e5⟩:=Zb e
 obtain ⟨p,δ1,e1,e3⟩:=Zb e
 obtain ⟨e6,rfl⟩:=ZO e5
 refine ⟨δ,Hs,M,p,δ1,g,s,e1,fun x H2 Hs2 m1 M2 g2 st2 r1 s2=>?_⟩
 obtain ⟨Hs3,M3,g3,st3,v1,s3⟩:=Za0 (B:=m1) g2 s2 r1 e3
 have z:=Zo (m1:=fun _=>0) g (g2.re fun b=>by simp) (st2.drop (fun b=>by simp) g2.le) g3 st3
 have st:Stp H Hs M H2 Hs3 (fun b=>m1 b+M3 b):=z.2.1.drop (fun b=>by simp) z.1.le
 exact hr x H2 Hs3 w m1 d g3.sub (fun b=>by have:m1 b+M3 b<=1:=g3.le b;omega) (fun b hb=>g3.has b (by have:m1 b+M3 b<=1:=g3.le b;show m1 b+M3 b=1;omega)) v1 e6 (Zbs st g3 s3 q)
def Zdd(ha:PE X a (tP X.K ca)):PE X (.UnaryOp .USub a pos) (tM X.K ((ca.bnd view).bnd fun x=>lift (negW x))):=
 PE.imp (Zqd ZnT ha) fun σ H Q h=>op1 h fun x H Hs w m d g h1 h2 v e o=>by
  unfold negW at e
  split at e
  . cases e;cases v;exact ⟨_,rfl,o.sc⟩
  . cases e
theorem Zoy(h:View K H Hs v w m)(e:truW w=some t):TruV K v H t:=by
 cases h with
 | sc v m=>
  cases v with
  | bl b=>cases e;rfl
  | int i=>cases e;show decide (i≠0)=(i != 0);rw [Bool.eq_iff_iff];simp
  | str x=>
   have e:(if x.length<=sizeLine then some (decide (x.length≠0)) else none)=some t:=e
   split at e
   . rename_i q
     cases e
     exact ⟨q,by rw [Bool.eq_iff_iff];simp⟩
   . cases e
  | non=>cases e;rfl
  | _=>cases e
 | @nd a k vs ds m n r=>
  have l:(!vs.isEmpty)=!ds.isEmpty:=by
   have:=r.len
   cases vs<;>cases ds<;>simp at this ⊢
  cases k with
  | lst=>cases e;exact .inl ⟨vs,.inl (.inl n),by rw [l]⟩
  | frl=>cases e;exact .inl ⟨vs,n,by rw [l]⟩
  | tup=>cases e;exact .inr (.inl ⟨vs,.inl (.inl n),by rw [l]⟩)
  | ftp=>cases e;exact .inr (.inl ⟨vs,n,by rw [l]⟩)
  | dic ks=>
   cases e
   obtain ⟨hl,n⟩:=n
   refine .inr (.inr ⟨_,n,?_⟩)
   rw [<- l]
   cases ks<;>cases vs<;>simp at hl ⊢
  | ins C fs=>cases e
  | exc ns fr fs=>cases e
def ZX(ha:PE X e (tP X.K ca))(he:∀ whole,isTrue e X.env whole=(do let v <- whole;standAt e.pos;holding [v] (truthy v)):=by intro _;rfl):
 PT X e (tT X.K (ca.bnd fun p=>(view p).bnd fun w=>lift (truW w))):=PT.imp (Zke ha he) fun σ H Q h=>by
 obtain ⟨δ,Hs,M,t,δ',g,s,e,q⟩:=h
 obtain ⟨p,δ1,e1,e⟩:=Zb e
 obtain ⟨w,δ2,e3,e5⟩:=Zb e
 obtain ⟨e6,rfl⟩:=ZO e5
 refine ⟨δ,Hs,M,p,δ1,g,s,e1,fun x H2 Hs2 m1 M2 g2 st2 r1 s2=>?_⟩
 obtain ⟨Hs3,M3,g3,st3,v1,s3⟩:=Za0 (B:=m1) g2 s2 r1 e3
 have z:=Zo (m1:=fun _=>0) g (g2.re fun b=>by simp) (st2.drop (fun b=>by simp) g2.le) g3 st3
 exact ⟨t,Zoy v1 e6,q H2 Hs3 M3 g3.re (z.2.1.drop (fun b=>by simp) z.1.le) s3⟩
end
section
variable{e a b c:Expr}{es rest:List Expr}
def PW.imp(h:PW X e t)(w:∀ σ H Q,t' σ H Q->t σ H Q):PW X e t':=fun wh pins s σ H Q I q=>h wh pins s σ H Q I (w σ H Q q)
def Zgt(h:tT K (ca.bnd f) σ H Q):tT K ca σ H fun t H1=>tT K (f t) σ H1 Q:=by
 obtain ⟨δ,Hs,M,b,δ',g,s,e,q⟩:=h
 obtain ⟨t,δ1,e1,e2⟩:=Zb e
 refine ⟨δ,Hs,M,t,δ1,g,s,e1,fun H1 Hs1 M1 g1 st1 s1=>⟨δ1,Hs1,M1,b,δ',g1,s1,e2,fun H2 Hs2 M2 g2 st2 s2=>?_⟩⟩
 have z:=Zo (m1:=fun _=>0) g (g1.re fun b=>by simp) (st1.drop (fun b=>by simp) g1.le) g2 st2
 exact q H2 Hs2 M2 g2 (z.2.1.drop (fun b=>by simp) z.1.le) s2
def ZeT(h:tT K (M.ret t) σ H Q):Q t H:=by
 obtain ⟨δ,Hs,M,b,δ',g,s,e,q⟩:=h
 have:=Ze e
 cases this
 exact q H Hs M g (Stp.refl _ _ _) s
def Zcs(ha:PT X a (tT X.K ca)):PW X (.BoolOp .And [a] pos) (tT X.K ca):=Zmc ha
def ZdK(ha:PT X a (tT X.K ca)):PW X (.BoolOp .Or [a] pos) (tT X.K ca):=ZnD ha
def ZbD(ha:PT X a (tT X.K ca))(hb:PW X (.BoolOp .And (b::rest) pos) (tT X.K cb)):PW X (.BoolOp .And (a::b::rest) pos) (tT X.K (ca.bnd fun t=>if t then cb else M.ret false)):=
 PW.imp (ZnE ha hb) fun σ H Q h=>by
  obtain ⟨δ,Hs,M,t,δ',g,s,e,q⟩:=Zgt h
  refine ⟨δ,Hs,M,t,δ',g,s,e,fun H' Hs' M' g' st s'=>?_⟩
  have z:=q H' Hs' M' g' st s'
  cases t with
  | true=>exact z
  | false=>exact ZeT z
def ZdL(ha:PT X a (tT X.K ca))(hb:PW X (.BoolOp .Or (b::rest) pos) (tT X.K cb)):PW X (.BoolOp .Or (a::b::rest) pos) (tT X.K (ca.bnd fun t=>if t then M.ret true else cb)):=
 PW.imp (ZpT ha hb) fun σ H Q h=>by
  obtain ⟨δ,Hs,M,t,δ',g,s,e,q⟩:=Zgt h
  refine ⟨δ,Hs,M,t,δ',g,s,e,fun H' Hs' M' g' st s'=>?_⟩
  have z:=q H' Hs' M' g' st s'
  cases t with
  | false=>exact z
  | true=>exact ZeT z
def Zav(ha:PT X a (tT X.K ca)):PT X (.UnaryOp .Not a pos) (tT X.K (ca.bnd fun t=>M.ret (!t))):=
 PT.imp (ZnF ha) fun σ H Q h=>by
  obtain ⟨δ,Hs,M,t,δ',g,s,e,q⟩:=Zgt h
  exact ⟨δ,Hs,M,t,δ',g,s,e,fun H' Hs' M' g' st s'=>ZeT (q H' Hs' M' g' st s')⟩
def Zjv(h:tM K ((ca.bnd view).bnd f) σ H Q):tP K ca σ H fun x H1=>∃(Hs:Hp)(w:W)(m:Bud),View K H1 Hs x w m/\tM K (f w) σ H1 Q:=by
 obtain ⟨δ,Hs,M,d,δ',g,s,e,q⟩:=h
 obtain ⟨w,δ2,e,e5⟩:=Zb e
 obtain ⟨p,δ1,e1,e3⟩:=Zb e
 refine ⟨δ,Hs,M,p,δ1,g,s,e1,fun x H2 Hs2 m1 M2 g2 st2 r1 s2=>?_⟩
 obtain ⟨Hs3,M3,g3,st3,v1,s3⟩:=Za0 (B:=m1) g2 s2 r1 e3
 refine ⟨Hs3,w,m1,v1,δ2,Hs3,M3,d,δ',g3.re,s3,e5,fun v H4 Hs4 m4 M4 g4 st4 r4 s4=>?_⟩
 have z:=Zo (m1:=fun _=>0) g (g2.re fun b=>by simp) (st2.drop (fun b=>by simp) g2.le) g3 st3
 have st:Stp H Hs M H2 Hs3 (fun b=>m1 b+M3 b):=z.2.1.drop (fun b=>by simp) z.1.le
 have z:=Zo (m1:=m1) (M1:=M3) g g3 st g4 st4
 exact q v H4 Hs4 m4 M4 g4 (z.2.1.drop (fun b=>by omega) z.1.le) r4 s4
def Zjw(h:tM K (M.ret (.sc v)) σ H Q):Q v H:=by
 obtain ⟨δ,Hs,M,b,δ',g,s,e,q⟩:=h
 have:=Ze e
 cases this
 exact q v H Hs (fun _=>0) M (Za4 g) (stp0 _ _ _) (.sc v _) s
def ZeU(h:tM K stk σ H Q):False:=by
 obtain ⟨δ,Hs,M,b,δ',g,s,e,q⟩:=h
 cases e
def Zde{op}(ha:PE X a (tM X.K ca)):PE X (.BoolOp op [a] pos) (tM X.K ca):=ZnG ha
def ZbE(ha:PE X a (tP X.K ca))(hb:PE X (.BoolOp .And (b::rest) pos) (tM X.K cb)):PE X (.BoolOp .And (a::b::rest) pos) (tM X.K ((ca.bnd view).bnd (andM cb))):=
 PE.imp (ZnH ha hb) fun σ H Q h=>by
  obtain ⟨δ,Hs,M,t,δ',g,s,e,q⟩:=Zjv h
  refine ⟨δ,Hs,M,t,δ',g,s,e,fun v H' Hs' m M' g' st r s'=>?_⟩
  obtain ⟨Hs2,w,m2,v2,z⟩:=q v H' Hs' m M' g' st r s'
  cases v2 with
  | sc u _=>cases v with
   | bl t=>cases t with
    | true=>exact ⟨true,rfl,z⟩
    | false=>exact ⟨false,rfl,Zjw z⟩
   | _=>exact (ZeU z).elim
  | nd n r=>exact (ZeU z).elim
def Zhx(ha:PE X a (tP X.K ca)):PE X (.UnaryOp .Not a pos) (tM X.K ((ca.bnd view).bnd fun w=>lift (notW w))):=
 PE.imp (ZnI ha) fun σ H Q h=>by
  obtain ⟨δ,Hs,M,t,δ',g,s,e,q⟩:=Zjv h
  refine ⟨δ,Hs,M,t,δ',g,s,e,fun v H' Hs' m M' g' st r s'=>?_⟩
  obtain ⟨Hs2,w,m2,v2,z⟩:=q v H' Hs' m M' g' st r s'
  cases v2 with
  | sc u _=>cases v with
   | bl t=>exact ⟨t,rfl,Zjw z⟩
   | _=>exact (ZeU z).elim
  | nd n r=>exact (ZeU z).elim
def RepL.at{K:Fg}{vs:List V}{m:Bud}{d:D}(r:RepL K H Hs vs ds m)(e:ds[j]?=some d):∃(v:V)(m1:Bud),vs[j]?=some v/\Rep K H Hs v d m1/\∀ b,m1 b<=m b:=r.sep.get e
def Outs.part(h:Outs K H Hs m d Q)(hm:∀ b,m b<=1)(hh:∀ b,m b=1->H b≠none)(l:∀ b,m1 b<=m b)(r:Rep K H Hs v d m1):Q v H:=
 h v H m1 (Same.refl _) (fun b=>le_trans (l b) (hm b)) (fun b e=>hh b (by have:=l b;have:=hm b;omega)) (fun b _=>l b) r
def Zoz(n:Nat)(i:Int):ixN' n i=ixN n i:=rfl
def Zq2:IxR X (r2W X.K ixW):=by
 intro value slice pins s σ H x y v u Q I rx ry h hsl
 obtain ⟨Hs,w1,w2,m1,m2,d,hs,h1,h2,v1,v2,e,o⟩:=h
 have fin:∀{ds:List D}{vs:List V}{i:Int},RepL X.K H Hs vs ds m1->((ixN' ds.length i).bind fun j=>ds[j]?)=some d->∃ z,atI vs i=some z/\Q z H:=fun{ds vs i} r e=>by
  simp only [bind_eq_some_iff] at e
  obtain ⟨j,e1,e2⟩:=e
  obtain ⟨z,m3,e3,rz,l⟩:=r.at e2
  refine ⟨z,?_,o.part h1 h2 (fun b=>by have:=l b;omega) rz⟩
  unfold atI
  rw [r.len,<- Zoz,e1]
  exact e3
 unfold ixW at e
 split at e
 . split at e
   . split at e
     . cases v1 with
       | nd n r=>cases v2;obtain ⟨z,e1,q⟩:=fin r e;exact Zhs value slice pins s σ H _ _ v u Q I rx ry ⟨_,_,_,z,rfl,rfl,.inl (.inl n),e1,q⟩ hsl
     . cases v1 with
       | nd n r=>cases v2;obtain ⟨z,e1,q⟩:=fin r e;exact Zhs value slice pins s σ H _ _ v u Q I rx ry ⟨_,_,_,z,rfl,rfl,n,e1,q⟩ hsl
     . cases v1 with
       | nd n r=>cases v2;obtain ⟨z,e1,q⟩:=fin r e;exact Zja value slice pins s σ H _ _ v u Q I rx ry ⟨_,_,_,z,rfl,rfl,.inl (.inl n),e1,q⟩ hsl
     . cases v1 with
       | nd n r=>cases v2;obtain ⟨z,e1,q⟩:=fin r e;exact Zja value slice pins s σ H _ _ v u Q I rx ry ⟨_,_,_,z,rfl,rfl,n,e1,q⟩ hsl
     . cases e
   all_goals cases e
 all_goals cases e
end
section
variable{e a b c:Expr}{es rest:List Expr}
def tG.mono{K:Fg}{c:M α}{R:Hp->Hp->St->α->V->Bud->Prop}{Q Q':VK}(h:tG K c R σ H Q)(w:∀ v H',Q v H'->Q' v H'):tG K c R σ H Q':=by
 obtain ⟨δ,Hs,M,a,δ',g,s,e,q⟩:=h
 exact ⟨δ,Hs,M,a,δ',g,s,e,fun v H' Hs' m M' g' st r s'=>w v H' (q v H' Hs' m M' g' st r s')⟩
def RepL.take(r:RepL K H Hs vs ds m)(n:Nat):RepL K H Hs (vs.take n) (ds.take n) m:=(r.sep.take n).repL
def RepL.drop(r:RepL K H Hs vs ds m)(n:Nat):RepL K H Hs (vs.drop n) (ds.drop n) m:=(r.sep.drop n).repL
def rSlW(K:Fg):V->Option Int->Option Int->Hp->VK->Prop:=fun x lo hi H Q=>∃(Hs:Hp)(w:W)(m:Bud)(d:D),Same Hs H/\(∀ b,m b<=1)/\(∀ b,m b=1->H b≠none)/\View K H Hs x w m/\slD w lo hi=some d/\Outs K H Hs m d Q
def Zq3:SlR X (rSlW X.K):=by
 intro pins s σ H x v vl vu lo hi sl Q I rx hsl pl pu h
 obtain ⟨Hs,w,m,d,hs,h1,h2,v1,e,o⟩:=h
 have go:∀{a:Addr}{vs:List V}{ds:List D},RepL X.K H Hs vs ds m->d=.node .lst true (cutD ds lo hi)->∀ p,H p=none->Q (.ref p) (upd H p (.lst (cutV vs lo hi))):=fun{a vs ds} r e p hp=>by
  subst e
  refine o.new h1 h2 hp (vs:=cutV vs lo hi) Zj ?_
  unfold cutV cutD
  rw [r.len]
  exact (r.drop _).take _
 unfold slD at e
 split at e
 . cases v1 with
   | nd n r=>exact Zht pins s σ H _ v vl vu lo hi sl Q I rx hsl pl pu ⟨_,_,rfl,.inl (.inl n),go (a:=0) r (Option.some.inj e).symm⟩
 . cases v1 with
   | nd n r=>exact Zht pins s σ H _ v vl vu lo hi sl Q I rx hsl pl pu ⟨_,_,rfl,n,go (a:=0) r (Option.some.inj e).symm⟩
 all_goals cases e
inductive tW(K:Fg)(c:M (Option Int))(σ:St)(H:Hp)(Q:Option Int->Hp->Prop):Prop
 | mk (δ:List D) (Hs:Hp) (M:Bud) (l:Option Int) (δ':List D) (h0:Good H Hs M) (h1:RepS K H Hs σ δ M) (h2:c δ=.ok (l,δ')) (h3:∀(H' Hs':Hp)(M':Bud),Good H' Hs' M'->Stp H Hs M H' Hs' M'->RepS K H' Hs' σ δ' M'->Q l H'):tW K c σ H Q
def PO.imp(h:PO X o t)(w:∀ σ H Q,t' σ H Q->t σ H Q):PO X o t':=fun pins s σ H Q I q=>h pins s σ H Q I (w σ H Q q)
def Zed:PO X none (tW X.K (M.ret none)):=PO.imp Zmq fun σ H Q h=>by
 obtain ⟨δ,Hs,M,b,δ',g,s,e,q⟩:=h
 have:=Ze e
 cases this
 exact q H Hs M g (Stp.refl _ _ _) s
theorem Za1(ha:PE X a (tP X.K ca)):PO X (some a) (tW X.K ((ca.bnd view).bnd fun w=>lift (intP w))):=PO.imp (Zmr ha) fun σ H Q h=>by
 obtain ⟨δ,Hs,M,l,δ',g,s,e,q⟩:=h
 obtain ⟨w,δ2,e,e5⟩:=Zb e
 obtain ⟨p,δ1,e1,e3⟩:=Zb e
 obtain ⟨e6,rfl⟩:=ZO e5
 refine ⟨δ,Hs,M,p,δ1,g,s,e1,fun x H2 Hs2 m1 M2 g2 st2 r1 s2=>?_⟩
 obtain ⟨Hs3,M3,g3,st3,v1,s3⟩:=Za0 (B:=m1) g2 s2 r1 e3
 have z:=Zo (m1:=fun _=>0) g (g2.re fun b=>by simp) (st2.drop (fun b=>by simp) g2.le) g3 st3
 have fin:=q H2 Hs3 M3 g3.re (z.2.1.drop (fun b=>by simp) z.1.le) s3
 cases v1 with
 | sc u _=>cases x with
  | int i=>cases e6;exact ⟨i,rfl,fin⟩
  | _=>cases e6
 | nd n r=>cases e6
variable{lo hi:Option Expr}{ca:M Op}{cl ch:M (Option Int)}{p2:Pos}
def Zcl(ha:PE X a (tP X.K ca))(hl:PO X lo (tW X.K cl))(hh:PO X hi (tW X.K ch)):
 PE X (.Subscript a (.Slice lo hi none p2) pos) (tM X.K (ca.bnd fun p=>cl.bnd fun l=>ch.bnd fun h=>(view p).bnd fun x=>lift (slD x l h))):=
 PE.imp (Zki Zq3 ha hl hh) fun σ H Q h=>by
  obtain ⟨δ,Hs,M,d,δ',g,s,e,q⟩:=h
  obtain ⟨p,δ1,e1,e⟩:=Zb e
  obtain ⟨l,δ2,e2,e⟩:=Zb e
  obtain ⟨u,δ3,e3,e⟩:=Zb e
  obtain ⟨w,δ4,e4,e⟩:=Zb e
  obtain ⟨e7,rfl⟩:=ZO e
  refine ⟨δ,Hs,M,p,δ1,g,s,e1,fun x H1 Hs1 m1 M1 g1 st1 r1 s1=>⟨δ1,Hs1,M1,l,δ2,g1.re,s1,e2,fun H2 Hs2 M2 g2 st2 s2=>⟨δ2,Hs2,M2,u,δ3,g2,s2,e3,fun H3 Hs3 M3 g3 st3 s3=>?_⟩⟩⟩
  obtain ⟨G2,S2,k2⟩:=Zo g g1 st1 g2 st2
  obtain ⟨G3,S3,k3⟩:=Zo g G2 S2 g3 st3
  have r2:=RepP.frame st2.grow k2 r1
  have r3:=RepP.frame st3.grow (fun b hb hn=>k3 b hb hn) r2
  obtain ⟨Hs4,M4,g4,st4,v4,s4⟩:=Za0 (B:=m1) G3 s3 r3 e4
  have z:=Zo (m1:=fun _=>0) g (G3.re fun b=>by simp) (S3.drop (fun b=>by simp) G3.le) g4 st4
  have S4:Stp H Hs M H3 Hs4 (fun b=>m1 b+M4 b):=z.2.1.drop (fun b=>by simp) z.1.le
  have le:∀ b,m1 b+M4 b<=1:=g4.le
  exact ⟨Hs4,w,m1,d,g4.sub,fun b=>by have:=le b;omega,fun b hb=>g4.has b (by have:=le b;show m1 b+M4 b=1;omega),v4,e7,Zbs S4 g4 s4 q⟩
theorem Zft:∀{fs:List Str}{vs:List V}{ds:List D}{m:Bud}{d:D},RepL K H Hs vs ds m->fs.length=vs.length->ZcF f fs ds=some d->∃(v:V)(m1:Bud),(fs.zip vs).lookup f=some v/\Rep K H Hs v d m1/\∀ b,m1 b<=m b
 | [],_,_,_,_,_,_,h=>by simp [ZcF] at h
 | _::_,_,_,_,_,.nil _,hl,h=>by simp at hl
 | g::fs,v::vs,d'::ds,m,d,.cons (m1:=m1) (m2:=m2) x y c,hl,h=>by
  simp only [ZcF] at h
  by_cases e:g=f
  . rw [if_pos e] at h
    cases h
    refine ⟨v,m1,?_,x,fun b=>by have:=c b;omega⟩
    subst e
    simp [List.lookup]
  . rw [if_neg e] at h
    obtain ⟨v',m',h1,h2,h3⟩:=Zft y (by simpa using hl) h
    refine ⟨v',m',?_,h2,fun b=>by have:=c b;have:=h3 b;omega⟩
    rw [zip_cons_cons]
    have hb:(f == g)=false:=beq_eq_false_iff_ne.mpr (fun q=>e q.symm)
    simp only [List.lookup,hb]
    exact h1
def Zcy(hf:∀ C f,ok C f=true->Cls X.K C/\Zaa X.K C f)(ha:PE X a (tP X.K ca))(hb:autoParam (attributeBase a f X.env (eval a X.env)=eval a X.env) Q9):
 PE X (.Attribute a f pos) (tM X.K ((ca.bnd view).bnd fun x=>lift (fldW ok f x))):=
 PE.imp (ZnV ha hb) fun σ H Q h=>op1 (r:=fun x H1 Q=>∃ a C dx fs v,x=.ref a/\H1 a=some (.ins C dx fs)/\Cls X.K C/\Zaa X.K C f/\fs.lookup f=some v/\Q v H1) h fun x H Hs w m d g h1 h2 v e o=>by
  unfold fldW at e
  split at e
  . split at e
    . rename_i C fs ds hok
      cases v with
      | nd n r=>
       obtain ⟨hl,dx,n⟩:=n
       obtain ⟨z,m1,e1,rz,l⟩:=Zft r hl e
       exact ⟨_,C,dx,_,z,rfl,n,(hf C f hok).1,(hf C f hok).2,e1,o.part h1 h2 l rz⟩
    . cases e
  . cases e
def Zg:PA X [] (tPs X.K (M.ret [])):=PA.imp Zbc fun σ H Q h=>by
 obtain ⟨δ,Hs,M,b,δ',g,s,e,q⟩:=h
 have:=Ze e
 cases this
 exact q [] H Hs (fun _=>0) M (Za4 g) (stp0 _ _ _) trivial s
def Zd(ha:PE X e (tP X.K ca))(hr:PA X es (tPs X.K cs))(hs:autoParam (SE X e es) Q9):
 PA X (e::es) (tPs X.K (ca.bnd fun p=>cs.bnd fun ps=>M.ret (p::ps))):=PA.imp (Zao ha hr hs) fun σ H Q h=>by
 obtain ⟨δ,Hs,M,b,δ',g,s,e,q⟩:=h
 obtain ⟨p,δ1,e1,e⟩:=Zb e
 obtain ⟨ps,δ2,e2,e⟩:=Zb e
 have:=Ze e
 cases this
 refine ⟨δ,Hs,M,p,δ1,g,s,e1,fun x H1 Hs1 m1 M1 g1 st1 r1 s1=>⟨δ1,Hs1,M1,ps,_,g1.re,s1,e2,fun xs H2 Hs2 m2 M2 g2 st2 r2 s2=>?_⟩⟩
 obtain ⟨G2,S2,k2⟩:=Zo g g1 st1 g2 st2
 exact q (x::xs) H2 Hs2 (fun b=>m1 b+m2 b) M2 (G2.re fun b=>by omega) (S2.drop (fun b=>by omega) G2.le) ⟨m1,m2,r1.frame st2.grow k2,r2,fun b=>le_refl _⟩ s2
def Zz:PA X [] (tDs X.K (M.ret [])):=PA.imp Zbc fun σ H Q h=>by
 obtain ⟨δ,Hs,M,b,δ',g,s,e,q⟩:=h
 have:=Ze e
 cases this
 exact q [] H Hs (fun _=>0) M (Za4 g) (stp0 _ _ _) (.nil _) s
def Zv{c:M D}{cs:M (List D)}(ha:PE X e (tM X.K c))(hr:PA X es (tDs X.K cs))(hs:autoParam (SE X e es) Q9):
 PA X (e::es) (tDs X.K (c.bnd fun p=>cs.bnd fun ps=>M.ret (p::ps))):=PA.imp (Zao ha hr hs) fun σ H Q h=>by
 obtain ⟨δ,Hs,M,b,δ',g,s,e,q⟩:=h
 obtain ⟨p,δ1,e1,e⟩:=Zb e
 obtain ⟨ps,δ2,e2,e⟩:=Zb e
 have:=Ze e
 cases this
 refine ⟨δ,Hs,M,p,δ1,g,s,e1,fun x H1 Hs1 m1 M1 g1 st1 r1 s1=>⟨δ1,Hs1,M1,ps,_,g1.re,s1,e2,fun xs H2 Hs2 m2 M2 g2 st2 r2 s2=>?_⟩⟩
 obtain ⟨G2,S2,k2⟩:=Zo g g1 st1 g2 st2
 exact q (x::xs) H2 Hs2 (fun b=>m1 b+m2 b) M2 (G2.re fun b=>by omega) (S2.drop (fun b=>by omega) G2.le) (.cons (r1.frame st2.grow k2) r2 fun b=>le_refl _) s2
def Zhy{K:Fg}{cs:M (List D)}{f:List D->Option D}{Q:VK}(h:tM K (cs.bnd fun ds=>lift (f ds)) σ H Q):tDs K cs σ H fun vs H1=>∃(Hs:Hp)(m:Bud)(ds:List D)(d:D),(∀ b,m b<=1)/\(∀ b,m b=1->H1 b≠none)/\RepL K H1 Hs vs ds m/\f ds=some d/\Outs K H1 Hs m d Q:=by
 obtain ⟨δ,Hs,M,b,δ',g,s,e,q⟩:=h
 obtain ⟨ds,δ1,e1,e⟩:=Zb e
 obtain ⟨e2,rfl⟩:=ZO e
 refine ⟨δ,Hs,M,ds,_,g,s,e1,fun vs H1 Hs1 m1 M1 g1 st1 r1 s1=>⟨Hs1,m1,ds,b,fun b=>by have:m1 b+M1 b<=1:=g1.le b;omega,fun b hb=>g1.has b (by have:m1 b+M1 b<=1:=g1.le b;show m1 b+M1 b=1;omega),r1,e2,Zbs st1 g1 s1 q⟩⟩
def Zab(h:PA X es (tDs X.K cs)):PE X (.List es pos) (tM X.K (cs.bnd fun ds=>lift (newL ds))):=PE.imp (ZiX h) fun σ H Q hq=>by
 obtain ⟨δ,Hs,M,ds,δ',g,s,e,q⟩:=Zhy hq
 refine ⟨δ,Hs,M,ds,δ',g,s,e,fun vs H1 Hs1 m1 M1 g1 st1 r1 s1=>?_⟩
 obtain ⟨Hs2,m,ds,d,h1,h2,r,e,o⟩:=q vs H1 Hs1 m1 M1 g1 st1 r1 s1
 unfold newL at e
 split at e
 . rename_i hl
   cases e
   exact ⟨by rw [r.len];exact hl,fun p hp=>o.new h1 h2 hp (vs:=vs) Zj r⟩
 . cases e
def ZbX(h:PA X es (tDs X.K cs)):PE X (.Tuple es k pos) (tM X.K (cs.bnd fun ds=>lift (newT ds))):=PE.imp (ZnX h) fun σ H Q hq=>by
 obtain ⟨δ,Hs,M,ds,δ',g,s,e,q⟩:=Zhy hq
 refine ⟨δ,Hs,M,ds,δ',g,s,e,fun vs H1 Hs1 m1 M1 g1 st1 r1 s1=>?_⟩
 obtain ⟨Hs2,m,ds,d,h1,h2,r,e,o⟩:=q vs H1 Hs1 m1 M1 g1 st1 r1 s1
 unfold newT at e
 split at e
 . rename_i hl
   cases e
   exact ⟨by rw [r.len];exact hl,fun p hp=>o.new h1 h2 hp (vs:=vs) Zj r⟩
 . cases e
end
def Views(K:Fg)(H Hs:Hp):List V->List W->Bud->Prop
 | [],[],_=>True
 | v::vs,w::ws,m=>∃ m1 m2:Bud,View K H Hs v w m1/\Views K H Hs vs ws m2/\∀ b,m1 b+m2 b<=m b
 | _,_,_=>False
theorem Ze2{K:Fg}{B:Bud}:∀{ps:List Op}{vs:List V}{Hs:Hp}{δ δ':List D}{M m:Bud}{ws:List W},Good H Hs (fun b=>B b+M b)->RepS K H Hs σ δ M->ZaP K H Hs σ vs ps m->views ps δ=.ok (ws,δ')->
 ∃ Hs' M',Good H Hs' (fun b=>B b+M' b)/\Stp H Hs (fun b=>B b+M b) H Hs' (fun b=>B b+M' b)/\Views K H Hs' vs ws m/\RepS K H Hs' σ δ' M'
 | [],[],Hs,δ,δ',M,m,ws,g,s,r,e=>by
  have:=Ze e
  cases this
  exact ⟨Hs,M,g,Stp.refl _ _ _,trivial,s⟩
 | [],_::_,_,_,_,_,_,_,_,_,r,_=>r.elim
 | _::_,[],_,_,_,_,_,_,_,_,r,_=>r.elim
 | p::ps,v::vs,Hs,δ,δ',M,m,ws,g,s,⟨m1,m2,r1,r2,l⟩,e=>by
  obtain ⟨w,δ1,e1,e⟩:=Zb e
  obtain ⟨ws',δ2,e2,e⟩:=Zb e
  have:=Ze e
  cases this
  obtain ⟨Hs1,M1,g1,st1,v1,s1⟩:=Za0 g s r1 e1
  obtain ⟨Hs2,M2,g2,st2,v2,s2⟩:=Ze2 g1 s1 (r2.frame st1.grow fun _ _ _=>rfl) e2
  have z:=Zo (m1:=fun _=>0) g (g1.re fun b=>by simp) (st1.drop (fun b=>by simp) g1.le) g2 st2
  exact ⟨Hs2,M2,g2,z.2.1.drop (fun b=>by simp) z.1.le,⟨m1,m2,v1.frame st2.grow,v2,l⟩,s2⟩
inductive rNW(K:Fg)(f:List W->Option D)(vs:List V)(H:Hp)(Q:VK):Prop
 | mk (Hs:Hp) (ws:List W) (m:Bud) (d:D) (h0:Same Hs H) (h1:(∀ b,m b<=1)) (h2:(∀ b,m b=1->H b≠none)) (h3:Views K H Hs vs ws m) (h4:f ws=some d) (h5:Outs K H Hs m d Q):rNW K f vs H Q
def opN(h:tM K (cs.bnd fun ps=>(views ps).bnd fun ws=>lift (f ws)) σ H Q):tPs K cs σ H fun vs H1=>rNW K f vs H1 Q:=by
 obtain ⟨δ,Hs,M,d,δ',g,s,e,q⟩:=h
 obtain ⟨ps,δ1,e1,e⟩:=Zb e
 obtain ⟨ws,δ2,e2,e⟩:=Zb e
 obtain ⟨e3,rfl⟩:=ZO e
 refine ⟨δ,Hs,M,ps,δ1,g,s,e1,fun vs H1 Hs1 m1 M1 g1 st1 r1 s1=>?_⟩
 obtain ⟨Hs2,M2,g2,st2,v2,s2⟩:=Ze2 (B:=m1) g1 s1 r1 e2
 have z:=Zo (m1:=fun _=>0) g (g1.re fun b=>by simp) (st1.drop (fun b=>by simp) g1.le) g2 st2
 have S:Stp H Hs M H1 Hs2 (fun b=>m1 b+M2 b):=z.2.1.drop (fun b=>by simp) z.1.le
 have le:∀ b,m1 b+M2 b<=1:=g2.le
 exact ⟨Hs2,ws,m1,d,g2.sub,fun b=>by have:=le b;omega,fun b hb=>g2.has b (by have:=le b;show m1 b+M2 b=1;omega),v2,e3,Zbs S g2 s2 q⟩
theorem Views.one(h:Views K H Hs vs [w] m):∃(v:V)(m1:Bud),vs=[v]/\View K H Hs v w m1/\∀ b,m1 b<=m b:=by
 cases vs with
 | nil=>exact h.elim
 | cons v vs=>
  obtain ⟨m1,m2,h1,h2,l⟩:=h
  cases vs with
  | nil=>exact ⟨v,m1,rfl,h1,fun b=>by have:=l b;omega⟩
  | cons _ _=>exact h2.elim
theorem Views.two(h:Views K H Hs vs [w,w'] m):∃(v v':V)(m1 m2:Bud),vs=[v,v']/\View K H Hs v w m1/\View K H Hs v' w' m2/\∀ b,m1 b+m2 b<=m b:=by
 cases vs with
 | nil=>exact h.elim
 | cons v vs=>
  obtain ⟨m1,m2,h1,h2,l⟩:=h
  obtain ⟨v',m3,rfl,h3,l'⟩:=Views.one h2
  exact ⟨v,v',m1,m3,rfl,h1,h3,fun b=>by have:=l b;have:=l' b;omega⟩
section
variable{e:Expr}{es:List Expr}{p:Pos}{x:Str}{id ty:String}{f:BF}{cs:M (List Op)}
def ZK(hc:Zaj X (.builtin id) (rNW X.K (bfW f)))(hm:X.mg x=none)(hv:bootBuiltins x=some (.builtin id))(ha:PA X (e::es) (tPs X.K cs))(hz:autoParam (glOk X.env.scope x=true) Q8)(he:autoParam (SE X e es) Q9)(hpl:autoParam (SFx X pos es) Q9):
 PE X (.Call (.Name x p) (e::es) [] pos) (tM X.K (cs.bnd fun ps=>(views ps).bnd fun ws=>lift (bfW f ws))):=PE.imp (Zez hc (glk hz) hm hv ha (nmk hz) (dbk hz) he hpl) fun σ H Q h=>opN h
def ZeV(hc:Zaj X (.type ty) (rNW X.K (bfW f)))(hm:X.mg x=none)(hv:bootBuiltins x=some (.type ty))(ha:PA X (e::es) (tPs X.K cs))(hz:autoParam (glOk X.env.scope x=true) Q8)(he:autoParam (SE X e es) Q9)(hpl:autoParam (SFx X pos es) Q9):
 PE X (.Call (.Name x p) (e::es) [] pos) (tM X.K (cs.bnd fun ps=>(views ps).bnd fun ws=>lift (bfW f ws))):=PE.imp (ZiZ hc (glk hz) hm hv ha (nmk hz) (dbk hz) he hpl) fun σ H Q h=>opN h
def Zbf:Zaj X (.builtin "len") (rNW X.K (bfW .len)):=by
 intro pins s σ H xs us Q I r h
 obtain ⟨Hs,ws,m,d,hs,h1,h2,v,e,o⟩:=h
 replace e:lenB _=_:=e
 unfold lenB at e
 split at e
 . obtain ⟨y,m1,rfl,v,l⟩:=v.one
   split at e
   . split at e
     all_goals first
      | (cases e;done)
      | (cases v with
      | nd n r'=>
       have hl:=r'.len
       cases e
       first
       | exact Zbw pins s σ H _ us Q I r ⟨_,_,rfl,.inl (.inl (.inl n)),by rw [hl];exact o.sc⟩
       | exact Zbw pins s σ H _ us Q I r ⟨_,_,rfl,.inl n,by rw [hl];exact o.sc⟩
       | exact Zbw pins s σ H _ us Q I r ⟨_,_,rfl,.inr n,by rw [hl];exact o.sc⟩
       | exact Zbw pins s σ H _ us Q I r ⟨_,_,rfl,.inr (.inl (.inl n)),by rw [hl];exact o.sc⟩
       | (obtain ⟨n1,n2⟩:=n
          exact Zjj pins s σ H _ us Q I r ⟨_,_,rfl,n2,by rw [length_zip,n1,Nat.min_self,hl];exact o.sc⟩))
   all_goals cases e
 all_goals cases e
def Zee:Zaj X (.type "list") (rNW X.K (bfW .list)):=by
 intro pins s σ H xs us Q I r h
 obtain ⟨Hs,ws,m,d,hs,h1,h2,v,e,o⟩:=h
 replace e:Zir _=_:=e
 unfold Zir at e
 split at e
 . obtain ⟨y,m1,rfl,v,l⟩:=v.one
   split at e
   . split at e
     all_goals first
      | (cases e;done)
      | (cases v with
      | nd n r'=>
       cases e
       have go:∀ p,H p=none->Q (.ref p) (upd H p (.lst _)):=fun p hp=>o.new h1 h2 hp Zj (r'.mono l)
       first
       | exact Zbx pins s σ H _ us Q I r ⟨_,_,rfl,.inl (.inl (.inl n)),go⟩
       | exact Zbx pins s σ H _ us Q I r ⟨_,_,rfl,.inl n,go⟩
       | exact Zbx pins s σ H _ us Q I r ⟨_,_,rfl,.inr n,go⟩
       | exact Zbx pins s σ H _ us Q I r ⟨_,_,rfl,.inr (.inl (.inl n)),go⟩)
   . cases e
 . cases e
theorem ZdM:∀{ds:List D}{vs:List V}{m:Bud}{is:List Bool},RepL K H Hs vs ds m->Zaz ds=some is->vs=is.map V.bl
 | [],_,_,is,.nil _,h=>by simp only [Zaz,Option.some.injEq] at h;subst h;rfl
 | d::ds,_,_,is,.cons x y _,h=>by
  unfold Zaz at h
  split at h
  . rename_i hh;cases hh
  . rename_i i r hh
    injection hh with h1 h2
    subst h1 h2
    (simp only [map_eq_some_iff] at h)
    obtain ⟨js,h,rfl⟩:=h
    cases x
    rw [ZdM y h]
    rfl
  . cases h
termination_by structural a=>a
theorem ZfL:∀(is:List Int)(us:List Value),Vals (is.map V.int) us->∀(i:Nat)(v:Value),us[i]?=some v->∃ t,v=.int (is.getD i 0) t
 | [],us,r,i,v,h=>by cases r;simp at h
 | n::is,us,r,i,v,h=>by
  cases r with
  | cons r rr=>
   cases i with
   | zero=>
    simp at h
    subst h
    obtain ⟨t,rfl⟩:=r
    exact ⟨t,rfl⟩
   | succ i=>exact ZfL is _ rr i v (by simpa using h)
def Zhb:∀(is:List Int),preSum (fun i=>is.getD i 0) is.length=is.sum:=by
 intro is
 have h:∀ n,n<=is.length->preSum (fun i=>is.getD i 0) n=(is.take n).sum:=by
  intro n
  induction n with
  | zero=>intro _;simp [preSum]
  | succ n ih=>
   intro hn
   have:=ih (by omega)
   show preSum (fun i=>is.getD i 0) n+is.getD n 0=_
   rw [this,PyProof.Rows.take_sum_succ is n (by omega)]
 have:=h is.length (le_refl _)
 rw [List.take_length] at this
 exact this
def ZfX(hc:X.calm=true):Zaj X (.builtin "sum") (fun xs H Q=>∃(l:Addr)(is:List Int),xs=[.ref l]/\SqL X.K H l (is.map V.int)/\Q (.int is.sum) H):=by
 intro pins s σ H xs us Q I r h
 obtain ⟨l,is,rfl,hl,q⟩:=h
 obtain ⟨u,rfl,ru⟩:=r.one
 cases (show u=Value.ref l from ru)
 obtain ⟨its,rv,p,hz⟩:=I.list hl
 have hlt:l < s.heap.objs.size:=by obtain ⟨_,e,_⟩:=p.isList;exact Heap.lt_size e
 refine call_sum_walkG (wpAny_pyIter_list p.isList ?_)
 refine ⟨s.heap.objs.size,[s.heap.objs.size,l],[s.heap.objs.size],its.toArray.size,_,_,fun i=>is.getD i 0,rfl,Walks.list (A:=X.A.in1) (I.ok.hd hc) _ l (ne_of_lt hlt) its.toArray,
  ⟨⟨_,Heap.get?_push_size _ rfl,rfl,rfl⟩,p.isList.push _⟩,fun b hb=>?_,fun i v hP=>?_,fun h' tk t' hk=>?_⟩
 . have e:∀ o,(s.heap.push o).objs.size=s.heap.objs.size+1:=fun o=>by simp [Heap.push]
   rw [e]
   rcases List.mem_cons.mp hb with q|q
   . rw [q]
     exact Nat.lt_succ_self _
   . rw [List.mem_singleton.mp q]
     exact Nat.lt_succ_of_lt hlt
 . exact ZfL is its rv i v (by simpa using hP)
 . have e:preSum (fun i=>is.getD i 0) its.toArray.size=is.sum:=by
    rw [size_toArray,<- rv.length,length_map]
    exact Zhb is
   rw [e]
   exact ⟨.int _,H,I.kept (t':=tk) (Zfs hk),⟨_,rfl⟩,q⟩
def Zcz(hc:X.calm=true):Zaj X (.builtin "sum") (rNW X.K (bfW .sum)):=by
 intro pins s σ H xs us Q I r h
 obtain ⟨Hs,ws,m,d,hs,h1,h2,v,e,o⟩:=h
 replace e:sumB _=_:=e
 unfold sumB at e
 split at e<;>first|(rename_i z;cases z;done)|skip
 all_goals first
  | (obtain ⟨y,m1,rfl,v,l⟩:=v.one
     cases v with
     | nd n r'=>
      simp only [map_eq_some_iff] at e
      obtain ⟨is,e,rfl⟩:=e
      have ei:=ZbC r' e
      subst ei
      exact ZfX hc pins s σ H _ us Q I r ⟨_,_,rfl,.inl (.inl n),o.sc⟩)
  | cases e
def Zjx(hc:X.calm=true):Zaj X (.builtin "all") (rNW X.K (bfW .all)):=by
 intro pins s σ H xs us Q I r h
 obtain ⟨Hs,ws,m,d,hs,h1,h2,v,e,o⟩:=h
 replace e:allB _=_:=e
 unfold allB at e
 split at e<;>first|(rename_i z;cases z;done)|skip
 all_goals first
  | (obtain ⟨y,m1,rfl,v,l⟩:=v.one
     cases v with
     | nd n r'=>
      simp only [map_eq_some_iff] at e
      obtain ⟨is,e,rfl⟩:=e
      have ei:=ZdM r' e
      subst ei
      exact Zk0 hc pins s σ H _ us Q I r ⟨_,_,rfl,.inl (.inl n),o.sc⟩)
  | cases e
def Zjy(hc:X.calm=true):Zaj X (.builtin "any") (rNW X.K (bfW .any)):=by
 intro pins s σ H xs us Q I r h
 obtain ⟨Hs,ws,m,d,hs,h1,h2,v,e,o⟩:=h
 replace e:anyB _=_:=e
 unfold anyB at e
 split at e<;>first|(rename_i z;cases z;done)|skip
 all_goals first
  | (obtain ⟨y,m1,rfl,v,l⟩:=v.one
     cases v with
     | nd n r'=>
      simp only [map_eq_some_iff] at e
      obtain ⟨is,e,rfl⟩:=e
      have ei:=ZdM r' e
      subst ei
      exact Zk1 hc pins s σ H _ us Q I r ⟨_,_,rfl,.inl (.inl n),o.sc⟩)
  | cases e
def Zo0(hc:X.calm=true):Zaj X (.builtin "min") (rNW X.K (bfW .min)):=by
 intro pins s σ H xs us Q I r h
 obtain ⟨Hs,ws,m,d,hs,h1,h2,v,e,o⟩:=h
 replace e:minB _=_:=e
 unfold minB at e
 split at e<;>first|(rename_i z;cases z;done)|skip
 all_goals first
  | (obtain ⟨y,y',m1,m2,rfl,v,v',l⟩:=v.two
     cases v
     cases v'
     cases e
     exact ZiV hc pins s σ H _ us Q I r ⟨_,_,rfl,o.sc⟩)
  | cases e
end
noncomputable def kitB(a b:String):Option Bool:=if (Value.type a == Value.type b)=true then some true else if PySem.W.kitMeta b=true then (PySem.fastBuiltinMro a).map (·.contains (.type b)) else none
def Zct(K:Fg)(a b:String):kitOne K (.type a) (.type b)=kitB a b:=rfl
noncomputable def tyS:Ty->Option String
 | .int=>some "int"|.bool=>some "bool"|.str=>some "str"|.list=>some "list"|.tuple=>some "tuple"|.dict=>some "dict"|.own _=>none
def Zq4:kitB "int" "int"=some true:=by decide +kernel
def Zq5:kitB "bool" "int"=some true:=by decide +kernel
def Zq6:kitB "str" "int"=some false:=by decide +kernel
def Zq7:kitB "NoneType" "int"=some false:=by decide +kernel
def Zq8:kitB "list" "int"=some false:=by decide +kernel
def Zq9:kitB "tuple" "int"=some false:=by decide +kernel
def ZqA:kitB "bool" "bool"=some true:=by decide +kernel
def ZqB:kitB "int" "bool"=some false:=by decide +kernel
def ZqC:kitB "str" "bool"=some false:=by decide +kernel
def ZqD:kitB "NoneType" "bool"=some false:=by decide +kernel
def ZqE:kitB "list" "bool"=some false:=by decide +kernel
def ZqF:kitB "tuple" "bool"=some false:=by decide +kernel
def ZqG:kitB "str" "str"=some true:=by decide +kernel
def ZqH:kitB "int" "str"=some false:=by decide +kernel
def ZqI:kitB "bool" "str"=some false:=by decide +kernel
def ZqJ:kitB "NoneType" "str"=some false:=by decide +kernel
def ZqK:kitB "list" "str"=some false:=by decide +kernel
def ZqL:kitB "tuple" "str"=some false:=by decide +kernel
def ZqM:kitB "list" "list"=some true:=by decide +kernel
def ZqN:kitB "tuple" "list"=some false:=by decide +kernel
def ZqO:kitB "int" "list"=some false:=by decide +kernel
def ZqP:kitB "bool" "list"=some false:=by decide +kernel
def ZqQ:kitB "str" "list"=some false:=by decide +kernel
def ZqR:kitB "NoneType" "list"=some false:=by decide +kernel
def ZqS:kitB "tuple" "tuple"=some true:=by decide +kernel
def ZqT:kitB "list" "tuple"=some false:=by decide +kernel
def ZqU:kitB "int" "tuple"=some false:=by decide +kernel
def ZqV:kitB "bool" "tuple"=some false:=by decide +kernel
def ZqW:kitB "str" "tuple"=some false:=by decide +kernel
def ZqX:kitB "NoneType" "tuple"=some false:=by decide +kernel
theorem ZqY(hn:tyS t=some n)(hv:View K H Hs v w m)(h:tyW t w=some b):∃ tv,TyOf K H v tv/\kitOne K tv (.type n)=some b:=by
 cases hv with
 | sc v _=>
  cases t<;>cases hn<;>cases v<;>cases h<;>first
   | exact ⟨_,.int _,by rw [Zct];first|exact Zq4|exact ZqB|exact ZqH|exact ZqO|exact ZqU⟩
   | exact ⟨_,.bl _,by rw [Zct];first|exact Zq5|exact ZqA|exact ZqI|exact ZqP|exact ZqV⟩
   | exact ⟨_,.str _,by rw [Zct];first|exact Zq6|exact ZqC|exact ZqG|exact ZqQ|exact ZqW⟩
   | exact ⟨_,.non,by rw [Zct];first|exact Zq7|exact ZqD|exact ZqJ|exact ZqR|exact ZqX⟩
 | @nd a k vs ds m n r=>
  cases t<;>cases hn<;>cases k<;>cases h<;>first
   | exact ⟨_,.lst n,by rw [Zct];first|exact Zq8|exact ZqE|exact ZqK|exact ZqM|exact ZqT⟩
   | exact ⟨_,.tup n,by rw [Zct];first|exact Zq9|exact ZqF|exact ZqL|exact ZqN|exact ZqS⟩
section
def Zo1(hn:tyS t=some n)(hg:Gl X "isinstance")(hm:X.mg "isinstance"=none)(ha:PE X a (tP X.K ca))(hc:PE X c (tC (.ty n)))(hs:autoParam (starEach [a,c] X.env=[(false,eval a X.env),(false,eval c X.env)]) Q9)
 (hs1:autoParam (starEach [c] X.env=[(false,eval c X.env)]) Q9):
 PE X (.Call (.Name "isinstance" p) [a,c] [] pos) (tM X.K ((ca.bnd fun p=>(M.ret ([]:List Op)).bnd fun ps=>M.ret (p::ps)).bnd fun ps=>(views ps).bnd fun ws=>lift (bfW (.isi t) ws))):=
 PE.imp (Zez (Zkz (.ty n) (.type n) rfl fun u h=>h) hg hm ZdG (Zao ha (Zao hc Zbc (by show _=_;rw [hs1];rfl)) (by show _=_;rw [hs,hs1])) (by decide) (by decide) (by show _=_;rw [hs,hs1]) (by show _=_;rw [hs1];rfl)) fun σ H Q h=>by
  have h2:tM X.K ((ca.bnd view).bnd fun w=>lift (bfW (.isi t) [w])) σ H Q:=by
   obtain ⟨δ,Hs,M,d,δ',g,s,e,q⟩:=h
   refine ⟨δ,Hs,M,d,δ',g,s,?_,q⟩
   obtain ⟨ps,δ1,e1,e⟩:=Zb e
   obtain ⟨pp,δ2,e2,e3⟩:=Zb e1
   obtain ⟨z,δ3,e4,e5⟩:=Zb e3
   have:=Ze e4
   cases this
   have:=Ze e5
   cases this
   obtain ⟨ws,δ4,e6,e⟩:=Zb e
   obtain ⟨w,δ5,e7,e8⟩:=Zb e6
   obtain ⟨z,δ6,e9,e10⟩:=Zb e8
   have:=Ze e9
   cases this
   have:=Ze e10
   cases this
   show T.M.bnd (ca.bnd view) _ δ=_
   unfold T.M.bnd
   rw [e2]
   dsimp only
   rw [e7]
   exact e
  refine op1 (r:=fun x H1 Q=>∃ x' t' b,[x,V.ty n]=[x',V.ty n]/\TyOf X.K H1 x' t'/\kitOne X.K t' (.type n)=some b/\Q (.bl b) H1) h2 fun x H Hs w m d g h1 h2 v e o=>?_
  replace e:=Option.map_eq_some_iff.mp (show Option.map _ (tyW _ _)=_ from e)
  obtain ⟨b,e,rfl⟩:=e
  obtain ⟨tv,h3,h4⟩:=ZqY hn v e
  exact ⟨x,tv,b,rfl,h3,h4,o.sc⟩
end
inductive spF(K:Fg)(F:List D->Rs (D×List D))(vs:List V)(H:Hp)(Q:VK)(E:XK):Prop
 | mk (ds:List D) (Hs:Hp) (m:Bud) (d:D) (ds':List D) (h0:Good H Hs m) (h1:RepL K H Hs vs ds m) (h2:F ds=.ok (d,ds')) (h3:∀(v:V)(H' Hs':Hp)(m1 m':Bud),Good H' Hs' (fun b=>m1 b+m' b)->Stp H Hs m H' Hs' (fun b=>m1 b+m' b)->Rep K H' Hs' v d m1->RepL K H' Hs' vs ds' m'->Q v H'):spF K F vs H Q E
theorem ZmF{K:Fg}{B m M:Bud}{p:Op}{v:V}{d:D}(g:Good H Hs (fun b=>B b+(m b+M b)))(s:RepS K H Hs σ δ M)(r:RepP K H Hs σ v p m)(e:takeA lend p δ=.ok (d,δ')):
 ∃ Hs' m' M',Good H Hs' (fun b=>B b+(m' b+M' b))/\Stp H Hs (fun b=>B b+(m b+M b)) H Hs' (fun b=>B b+(m' b+M' b))/\Rep K H Hs' v d m'/\RepS K H Hs' σ δ' M'/\∀ b,m' b+M' b<=m b+M b:=by
 cases p with
 | tmp d'=>
  have:=Ze e
  cases this
  exact ⟨Hs,m,M,g,Stp.refl _ _ _,r,s,fun b=>le_refl _⟩
 | late i=>
  have r:σ[i]?=some (some v):=r
  have same:∀{d:D},δ[i]?=some d->d≠.hole->(∀ m1,Rep K H Hs v d m1->Rep K H Hs v d (fun _=>0))->∃ Hs' m' M',Good H Hs' (fun b=>B b+(m' b+M' b))/\Stp H Hs (fun b=>B b+(m b+M b)) H Hs' (fun b=>B b+(m' b+M' b))/\Rep K H Hs' v d m'/\RepS K H Hs' σ δ M'/\∀ b,m' b+M' b<=m b+M b:=fun{d} hi hn hz=>by
   obtain ⟨v',m1,m2,e1,q,l,f⟩:=s.slot hi hn
   rw [r] at e1
   cases e1
   exact ⟨Hs,fun _=>0,M,g.re fun b=>by (try simp);(try omega),(Stp.refl H Hs _).drop (fun b=>by (try simp);(try omega)) g.le,hz _ q,s,fun b=>by (try simp);(try omega)⟩
  unfold takeA at e
  dsimp only at e
  split at e
  . rename_i u hi
    cases e
    exact same hi (by simp) fun m1 q=>by cases q;exact .sc _ _
  . rename_i k ds hi
    cases e
    exact same hi (by simp) fun m1 q=>by cases q with|shd n q=>exact .shd n q
  . rename_i k ds hi
    obtain ⟨v',m1,m2,e1,q,l,f⟩:=s.slot hi (by simp)
    rw [r] at e1
    cases e1
    split at e
    . cases e
      refine ⟨Hs,m1,m2,g.re fun b=>by have:=l b;omega,(Stp.refl H Hs _).drop (fun b=>by have:=l b;omega) g.le,q,?_,fun b=>by have:=l b;omega⟩
      have z:=f H Hs (some v) .hole (fun _=>0) (Same.refl _) (fun _ _ _=>rfl) (.inl rfl)
      rw [Zaf r] at z
      exact z.mono fun b=>by simp
    . cases e
      have g2:Good H Hs (fun b=>m1 b+(B b+m2 b)):=g.re fun b=>by have:=l b;omega
      have hsame:=Zbp g2 (m:=m1) fun b=>by omega
      have r2:=Rep.share hsame (Zdc (H:=H) (Hs:=Hs) (m:=m1)) q
      have st:=Stp.share g2
      refine ⟨shH H Hs m1,fun _=>0,m2,g2.share.re fun b=>by simp,⟨fun b o h _=>h,fun b h=>?_,st.grow,fun b h h'=>?_,fun b h=>h⟩,r2,?_,fun b=>by have:=l b;simp;omega⟩
      . have h:B b+(0+m2 b)=1:=h
        have l0:B b+(m b+M b)<=1:=g.le b
        have:=l b
        left
        show B b+(m b+M b)=1
        omega
      . rcases st.shr b h h' with z|z
        . have z:m1 b+(B b+m2 b)=1:=z
          have l0:B b+(m b+M b)<=1:=g.le b
          have:=l b
          left
          show B b+(m b+M b)=1
          omega
        . exact .inr z
      . have z:=f H (shH H Hs m1) (some v) (.node k false (shrL ds)) (fun _=>0) hsame (fun _ _ _=>rfl) (.inr ⟨v,rfl,r2⟩)
        rw [Zaf r] at z
        exact z.mono fun b=>by simp
  . cases e
theorem Zc0{K:Fg}:∀{ps:List Op}{vs:List V}{Hs:Hp}{δ δ':List D}{B M m:Bud}{ds:List D},Good H Hs (fun b=>B b+(m b+M b))->RepS K H Hs σ δ M->ZaP K H Hs σ vs ps m->Zar lend ps δ=.ok (ds,δ')->
 ∃ Hs' m' M',Good H Hs' (fun b=>B b+(m' b+M' b))/\Stp H Hs (fun b=>B b+(m b+M b)) H Hs' (fun b=>B b+(m' b+M' b))/\RepL K H Hs' vs ds m'/\RepS K H Hs' σ δ' M'
 | [],[],Hs,δ,δ',B,M,m,ds,g,s,r,e=>by
  have:=Ze e
  cases this
  exact ⟨Hs,m,M,g,Stp.refl _ _ _,.nil _,s⟩
 | [],_::_,_,_,_,_,_,_,_,_,_,r,_=>r.elim
 | _::_,[],_,_,_,_,_,_,_,_,_,r,_=>r.elim
 | p::ps,v::vs,Hs,δ,δ',B,M,m,ds,g,s,⟨n1,n2,r1,r2,l⟩,e=>by
  obtain ⟨d,δ1,e1,e⟩:=Zb e
  obtain ⟨ds',δ2,e2,e⟩:=Zb e
  have:=Ze e
  cases this
  have g0:Good H Hs (fun b=>(B b+n2 b)+(n1 b+M b)):=g.re fun b=>by have:=l b;omega
  obtain ⟨Hs1,m1,M1,g1,st1,q1,s1,l1⟩:=ZmF g0 s r1 e1
  have g1':Good H Hs1 (fun b=>(B b+m1 b)+(n2 b+M1 b)):=g1.re fun b=>by omega
  obtain ⟨Hs2,m2,M2,g2,st2,q2,s2⟩:=Zc0 g1' s1 (r2.frame st1.grow fun _ _ _=>rfl) e2
  have S0:Stp H Hs (fun b=>B b+(m b+M b)) H Hs1 (fun b=>(B b+m1 b)+(n2 b+M1 b)):=by
   refine ⟨fun b o h _=>h,fun b h=>?_,st1.grow,fun b h h'=>?_,fun b h=>h⟩
   . have h:(B b+m1 b)+(n2 b+M1 b)=1:=h
     rcases st1.own b (show (B b+n2 b)+(m1 b+M1 b)=1 by omega) with z|z
     . have z:(B b+n2 b)+(n1 b+M b)=1:=z
       have l0:B b+(m b+M b)<=1:=g.le b
       have:=l b
       left
       show B b+(m b+M b)=1
       omega
     . exact .inr z
   . rcases st1.shr b h h' with z|z
     . have z:(B b+n2 b)+(n1 b+M b)=1:=z
       have l0:B b+(m b+M b)<=1:=g.le b
       have:=l b
       left
       show B b+(m b+M b)=1
       omega
     . exact .inr z
  have z:=Zo (m1:=fun _=>0) g (g1'.re fun b=>by simp) (S0.drop (fun b=>by simp) g1'.le) g2 st2
  have S:Stp H Hs (fun b=>B b+(m b+M b)) H Hs2 (fun b=>(B b+m1 b)+(m2 b+M2 b)):=z.2.1.drop (fun b=>by simp) z.1.le
  exact ⟨Hs2,fun b=>m1 b+m2 b,M2,g2.re fun b=>by dsimp only;omega,S.drop (fun b=>by dsimp only;omega) g2.le,.cons (q1.frame st2.grow fun _ _ _=>rfl) q2 fun b=>le_refl _,s2⟩
theorem ZbF:∀{ps:List Op}{vs:List V}{δ δ':List D}{M m:Bud}{ds:List D}{u:Unit},RepS K H Hs σ δ M->RepL K H Hs vs ds m->(∀ i v,(.late i,v)∈ps.zip vs->σ[i]?=some (some v))->ZC ps ds δ=.ok (u,δ')->RepS K H Hs σ δ' (fun b=>m b+M b)
 | [],vs,δ,δ',M,m,ds,u,s,r,hl,e=>by
  have:=Ze (show T.M.ret () δ=Rs.ok (u,δ') by unfold ZC at e;exact e)
  cases this
  exact s.mono fun b=>by omega
 | p::ps,[],δ,δ',M,m,ds,u,s,r,hl,e=>by
  cases r
  have:=Ze (show T.M.ret () δ=Rs.ok (u,δ') by unfold ZC at e;exact e)
  cases this
  exact s.mono fun b=>by omega
 | p::ps,v::vs,δ,δ',M,m,ds,u,s,r,hl,e=>by
  cases r with
  | @cons _ d _ ds' m1 m2 _ x y l=>
   unfold ZC at e
   obtain ⟨_,δ1,e1,e2⟩:=Zb e
   have hl':∀ i v,(.late i,v)∈ps.zip vs->σ[i]?=some (some v):=fun i v h=>hl i v (by rw [zip_cons_cons];exact mem_cons_of_mem _ h)
   have go:∀{M1:Bud},RepS K H Hs σ δ1 M1->(∀ b,M1 b<=m1 b+M b)->RepS K H Hs σ δ' (fun b=>m b+M b):=fun{M1} s1 l1=>
    (ZbF s1 y hl' e2).mono fun b=>by have:=l b;have:=l1 b;omega
   cases p with
   | tmp d'=>
    have:=Ze e1
    cases this
    exact go s fun b=>by omega
   | late i=>
    have hi:=hl i v (by rw [zip_cons_cons];exact mem_cons_self)
    unfold ZaB at e1
    dsimp only at e1
    split at e1
    . rename_i hh
      cases e1
      obtain ⟨o,n1,n2,q1,q2,q3,f⟩:=s.focus hh
      have z:=f (RepO K H Hs) (some v) d m1 (fun a d m' _ q=>q) (.inr ⟨v,rfl,x⟩)
      rw [Zaf hi] at z
      exact go z fun b=>by have:=q3 b;omega
    . cases e1
      exact go s fun b=>by omega
theorem lates:∀{ps:List Op}{vs:List V}{m:Bud},ZaP K H Hs σ vs ps m->∀ i v,(.late i,v)∈ps.zip vs->σ[i]?=some (some v)
 | [],[],_,_,i,v,h=>by simp at h
 | [],_::_,_,r,_,_,_=>r.elim
 | _::_,[],_,r,_,_,_=>r.elim
 | p::ps,w::vs,_,⟨m1,m2,r1,r2,_⟩,i,v,h=>by
  rw [zip_cons_cons] at h
  rcases List.mem_cons.mp h with e|e
  . injection e with e1 e2
    subst e1 e2
    exact r1
  . exact lates r2 i v e
theorem Zgu{K:Fg}{M M1:Bud}{d:D}{ps:List Op}{vs:List V}{Q:VK}{E:XK}(g:Good H Hs M)(g1:Good H1 Hs1 (fun b=>m1 b+M1 b))(st1:Stp H Hs M H1 Hs1 (fun b=>m1 b+M1 b))
 (r1:ZaP K H1 Hs1 σ vs ps m1) (s1:RepS K H1 Hs1 σ δ1 M1) (e:Zbk fi ps δ1=.ok (d,δ'))
 (q:∀(v:V)(H' Hs':Hp)(m M':Bud),Good H' Hs' (fun b=>m b+M' b)->Stp H Hs M H' Hs' (fun b=>m b+M' b)->Rep K H' Hs' v d m->RepS K H' Hs' σ δ' M'->Q v H'):spF K fi.run vs H1 Q E:=by
 unfold Zbk at e
 obtain ⟨ds,δ2,e2,e⟩:=Zb e
 cases hF:fi.run ds with
 | ok r=>
  obtain ⟨d',ds'⟩:=r
  rw [hF] at e
  dsimp only at e
  obtain ⟨u,δ3,e3,e⟩:=Zb e
  have:=Ze e
  cases this
  obtain ⟨Hs2,m2,M2,g2,st2,q2,s2⟩:=Zc0 (B:=fun _=>0) (g1.re fun b=>by simp) s1 r1 e2
  have z0:=Zo (m1:=fun _=>0) g (g1.re fun b=>by simp) (st1.drop (fun b=>by simp) g1.le) (g2.re fun b=>by simp) (M1:=fun b=>m1 b+M1 b) (M2:=fun b=>m2 b+M2 b) (by
   have:=st2
   exact ⟨fun b o h z=>this.keep b o h (by simpa using z),fun b h=>by have:=this.own b (by simpa using h);simpa using this,this.grow,fun b h h'=>by have:=this.shr b h h';simpa using this,this.stay⟩)
  have G2:Good H1 Hs2 (fun b=>M2 b+m2 b):=g2.re fun b=>by simp;omega
  have S2:Stp H Hs M H1 Hs2 (fun b=>M2 b+m2 b):=z0.2.1.drop (fun b=>by simp;omega) z0.1.le
  refine ⟨ds,Hs2,m2,_,ds',G2.re fun b=>by omega,q2,hF,fun v H3 Hs3 n1 n2 g3 st3 r3 r4=>?_⟩
  obtain ⟨G,S,k⟩:=Zo g G2 S2 g3 st3
  have s3:=RepS.frame st3.grow k s2
  have fin:=ZbF s3 r4 (lates r1) e3
  exact q v H3 Hs3 n1 (fun b=>n2 b+M2 b) (G.re fun b=>by (try dsimp only);omega) (S.drop (fun b=>by (try dsimp only);omega) G.le) r3 fin
 | exc x y=>rw [hF] at e;cases e
 | stuck=>rw [hF] at e;cases e
def ZmG{K:Fg}{cs:M (List Op)}{Q:VK}{E:XK}(h:tM K (cs.bnd fun ps=>Zbk fi ps) σ H Q):tPs K cs σ H fun vs H1=>spF K fi.run vs H1 Q E:=by
 obtain ⟨δ,Hs,M,d,δ',g,s,e,q⟩:=h
 obtain ⟨ps,δ1,e1,e⟩:=Zb e
 exact ⟨δ,Hs,M,ps,δ1,g,s,e1,fun vs H1 Hs1 m1 M1 g1 st1 r1 s1=>Zgu g g1 st1 r1 s1 e q⟩
section
variable{a e c:Expr}{es:List Expr}{p:Pos}{x:Str}{n:Nat}{ps:List Str}{cs:M (List Op)}
def Z8(G:FnAt X.prog X.w X.K X.mg X.base x j ps (spF X.K fi.run))(hr:Room n X.A)(ha:PA X (e::es) (tPs X.K cs))(hj:autoParam (j<=n) Q7)(hz:autoParam (glOk X.env.scope x=true) Q8)(he:autoParam (SE X e es) Q9)(hpl:autoParam (SFx X pos es) Q9):
 PE X (.Call (.Name x p) (e::es) [] pos) (tM X.K (cs.bnd fun ps=>Zbk fi ps)):=PE.imp (Zqw G hr ha hj (glk hz) (dbk hz) he hpl) fun σ H Q h=>by
 obtain ⟨δ,Hs,M,a,δ',g,s,e,q⟩:=ZmG (E:=E0) h
 refine ⟨δ,Hs,M,a,δ',g,s,e,fun vs H' Hs' m M' g' st r s'=>?_⟩
 show spF X.K fi.run (vs++[]) H' Q E0
 rw [append_nil]
 exact q vs H' Hs' m M' g' st r s'
end
theorem modL{K:Fg}{B M:Bud}{i:Nat}{k:Kd}(g:Good H Hs (fun b=>B b+M b))(s:RepS K H Hs σ δ M)(hi:δ[i]?=some (.node k true ds)):
 ∃(p:Addr)(vs:List V)(m' m2:Bud),σ[i]?=some (some (.ref p))/\ZaO K H p vs k/\RepL K H Hs vs ds m'/\(∀ b,one p b+m' b+m2 b<=M b)/\
  ∀(o':HO)(k':Kd)(vs':List V)(ds':List D)(n' nr:Bud)(rv:V)(r:D),(∀ b,n' b+nr b<=m' b+B b)->ZaO K (upd H p o') p vs' k'->RepL K H Hs vs' ds' n'->Rep K H Hs rv r nr->
   Good (upd H p o') Hs (fun b=>nr b+(one p b+n' b+m2 b))/\Stp H Hs (fun b=>B b+M b) (upd H p o') Hs (fun b=>nr b+(one p b+n' b+m2 b))/\Rep K (upd H p o') Hs rv r nr/\
   RepS K (upd H p o') Hs σ (δ.set i (.node k' true ds')) (fun b=>one p b+n' b+m2 b):=by
 obtain ⟨v,m1,m2,e1,q,l,f⟩:=s.slot hi (by simp)
 cases q with
 | @own p _ vs _ _ m' n r l'=>
  have le:∀ b,one p b+m' b+m2 b<=M b:=fun b=>by have:=l b;have:=l' b;omega
  refine ⟨p,vs,m',m2,e1,n,r,le,fun o' k' vs' ds' n' nr rv rd h1 hn hr hq=>?_⟩
  have one_p:one p p=1:=by simp [one]
  have tot:∀ b,nr b+(one p b+n' b+m2 b)<=B b+M b:=fun b=>by have:=le b;have:=h1 b;omega
  have zp:m' p=0/\B p=0/\m2 p=0:=by
   have:=le p
   have:=g.le p
   try dsimp only at this
   omega
  have zp2:n' p=0/\nr p=0:=by have:=h1 p;omega
  have Hp:H p≠none:=n.at
  have eqH:∀ b,b≠p->upd H p o' b=H b:=fun b hb=>Zn hb
  have hs2:Hs p=none:=g.ne p (by have:=le p;have:=g.le p;(try dsimp only at this ⊢);omega)
  refine ⟨⟨fun b o e=>?_,fun b=>?_,fun b h=>?_,fun b h=>?_⟩,⟨fun b o e z=>?_,fun b h=>?_,Same.refl _,fun b h h'=>absurd h h',fun b h=>?_⟩,?_,?_⟩
  . have hb:b≠p:=fun q=>by subst q;rw [hs2] at e;cases e
    rw [eqH b hb]
    exact g.sub b o e
  . have:=g.le b
    have:=tot b
    (try dsimp only at *)
    omega
  . have:=g.le b
    have:=tot b
    exact g.ne b (by (try dsimp only at *);omega)
  . by_cases hb:b=p
    . subst hb;rw [Zj];simp
    . rw [eqH b hb]
      have:=g.le b
      have:=tot b
      exact g.has b (by (try dsimp only at *);omega)
  . have hb:b≠p:=fun q=>by
     subst q
     have:=le b
     have:=g.le b
     (try dsimp only at *)
     omega
    rw [eqH b hb]
    exact e
  . have:=g.le b
    have:=tot b
    left
    (try dsimp only at *)
    omega
  . by_cases hb:b=p
    . subst hb;rw [Zj];simp
    . rw [eqH b hb];exact h
  . exact hq.frame (Same.refl _) fun b hb hn'=>eqH b fun q=>by subst q;omega
  . have r':RepL K (upd H p o') Hs vs' ds' n':=hr.frame (Same.refl _) fun b hb hn'=>eqH b fun q=>by subst q;omega
    have z:=f (upd H p o') Hs (some (.ref p)) (.node k' true ds') (fun b=>one p b+n' b) (Same.refl _) (fun b hb hn'=>eqH b fun q=>by subst q;omega) (.inr ⟨_,rfl,.own hn r' fun b=>le_refl _⟩)
    rw [Zaf e1] at z
    exact z.mono fun b=>by (try dsimp only);omega
def Zcu(h:modS i f δ=.ok (d,δ')):∃ k ds k' ds',δ[i]?=some (.node k true ds)/\f k ds=some (d,k',ds')/\δ'=δ.set i (.node k' true ds'):=by
 unfold modS at h
 split at h
 . rename_i k ds hi
   split at h
   . rename_i r k' ds' hf
     cases h
     exact ⟨k,ds,k',ds',hi,hf,rfl⟩
   . cases h
 . cases h
section
variable{o e:Expr}{es:List Expr}{cpos apos:Pos}{i:Nat}{name:Str}{id:String}
def Zjz{K:Fg}{M:Bud}{u:Unit}(g:Good H Hs M)(s:RepS K H Hs σ δ M)(h:chkL i δ=.ok (u,δ')):δ'=δ/\∃ p,σ[i]?=some (some (.ref p))/\tyV K "list" (.ref p) H:=by
 unfold chkL at h
 split at h
 . rename_i oo ds hi
   cases h
   obtain ⟨v,m1,m2,e1,q,l,f⟩:=s.slot hi (by simp)
   refine ⟨rfl,?_⟩
   cases q with
   | own n r _=>exact ⟨_,e1,.inl ⟨rfl,_,.inl (.inl n)⟩⟩
   | shd n r=>exact ⟨_,e1,.inl ⟨rfl,_,.inl (.inl (g.sub _ _ n))⟩⟩
 . cases h
def ZcH (ho:PE X o (tVar i)) (ha:PA X [e] (tDs X.K cs))
 (hbase:autoParam (attributeBase o "append" X.env (eval o X.env)=eval o X.env) Q9)
 (hfew:autoParam (((backTo cpos (starEach [e] X.env)).all (fun x=>!x.1) && (backToKw cpos (keywordEach [] X.env)).all (fun x=>x.1.isSome)
  && decide ([e].length+([]:List Keyword).length+(if ([]:List Keyword).isEmpty then 0 else 1) < 30))=true) Q9)
 (hline:autoParam ((apos.endLine == cpos.line)=true) Q9) (hs:autoParam (starEach [e] X.env=(false,eval e X.env)::starEach [] X.env) Q9) (hplain:autoParam ((backTo cpos (starEach [] X.env)).any (·.1)=false) Q9):
 PE X (.Call (.Attribute o "append" apos) [e] [] cpos) (tM X.K ((chkL i).bnd fun _=>cs.bnd fun ds=>appM i ds)):=
 PE.imp (Zie plainAttrs_list PySem.F.slot_list_append PySem.F.type_list_append ZfG ho ha hbase hfew hline hs hplain) fun σ H Q h=>by
  obtain ⟨δ,Hs,M,d,δ',g,s,ea,q⟩:=h
  obtain ⟨u,δ0,e0,eb⟩:=Zb ea
  obtain ⟨ds,δ1,e1,ec⟩:=Zb eb
  obtain ⟨rfl,p0,h1,h2⟩:=Zjz g s e0
  refine ⟨_,h1,h2,δ0,Hs,M,ds,δ1,g,s,e1,fun vs H1 Hs1 m1 M1 g1 st1 r1 s1=>?_⟩
  unfold appM at ec
  split at ec
  . rename_i x
    obtain ⟨k,ds0,k',ds',hi,hf,rfl⟩:=Zcu ec
    unfold appD at hf
    split at hf
    . split at hf
      . rename_i hl
        cases hf
        cases r1 with
        | @cons y _ _ _ a1 a2 _ rx r2 la=>
         cases r2
         obtain ⟨p,ws,m',m2,e2,n,rl,le,fin⟩:=modL g1 s1 hi
         have e3:some (some (V.ref p))=some (some (V.ref p0)):=by rw [<- e2,h1]
         cases e3
         obtain ⟨G,S,R,SS⟩:=fin (.lst (ws++[y])) .lst (ws++[y]) (ds0++[x]) (fun b=>m' b+a1 b) (fun _=>0) .non (.sc .non) (fun b=>by have:=la b;(try dsimp only);omega) Zj (rl.app (.cons rx (.nil (fun _=>0)) fun b=>by simp)) (.sc _ _)
         have z:=Zo (m1:=fun _=>0) g (g1.re fun b=>by simp) (st1.drop (fun b=>by simp) g1.le) G S
         exact ⟨_,ws,y,rfl,rfl,n,by rw [rl.len];exact hl,q _ _ Hs1 _ _ G (z.2.1.drop (fun b=>by simp) z.1.le) R SS⟩
      . cases hf
    . cases hf
  . cases ec
def ZmH{K:Fg}{m:MM}{M M1:Bud}{d:D}{ps:List Op}{vs:List V}{p0:Addr}{Q:VK}{rr:V->List V->Hp->VK->Prop}
 (g:Good H Hs M) (g1:Good H1 Hs1 (fun b=>m1 b+M1 b)) (st1:Stp H Hs M H1 Hs1 (fun b=>m1 b+M1 b)) (r1:ZaP K H1 Hs1 σ vs ps m1) (s1:RepS K H1 Hs1 σ δ1 M1) (h1:σ[i]?=some (some (.ref p0)))
 (e:((views ps).bnd fun ws=>modS i (mutD m ws)) δ1=.ok (d,δ'))
 (q:∀(v:V)(H' Hs':Hp)(m M':Bud),Good H' Hs' (fun b=>m b+M' b)->Stp H Hs M H' Hs' (fun b=>m b+M' b)->Rep K H' Hs' v d m->RepS K H' Hs' σ δ' M'->Q v H')
 (hr:∀(ws:List W)(Hs2:Hp)(ds ds':List D)(us:List V)(m2 m':Bud),mutD m ws .lst ds=some (d,.lst,ds')->Views K H1 Hs2 vs ws m2->H1 p0=some (.lst us)->RepL K H1 Hs2 us ds m'->
  (∀(us':List V)(n' nr:Bud)(rv:V),(∀ b,n' b+nr b<=m' b+m2 b)->RepL K H1 Hs2 us' ds' n'->Rep K H1 Hs2 rv d nr->Q rv (upd H1 p0 (.lst us')))->rr (.ref p0) vs H1 Q):rr (.ref p0) vs H1 Q:=by
 obtain ⟨ws,δ2,e2,e⟩:=Zb e
 obtain ⟨k,ds0,k',ds',hi,hf,rfl⟩:=Zcu e
 obtain ⟨Hs2,M2,g2,st2,v2,s2⟩:=Ze2 (B:=m1) g1 s1 r1 e2
 obtain ⟨p,us,m',m2,e3,n,rl,le,fin⟩:=modL g2 s2 hi
 have e4:some (some (V.ref p))=some (some (V.ref p0)):=by rw [<- e3,h1]
 cases e4
 have hk:k=.lst/\k'=.lst:=by
  unfold mutD at hf
  split at hf<;>try (cases hf;done)
  split at hf<;>try (cases hf;done)
  . unfold mutE at hf
    split at hf
    . split at hf
      . cases hf;exact ⟨rfl,rfl⟩
      . cases hf
    . cases hf
  . cases ws with
    | nil=>
     obtain ⟨_,_,hf⟩:=Option.map_eq_some_iff.mp (show Option.map _ _=_ from hf)
     cases hf
     exact ⟨rfl,rfl⟩
    | cons=>cases hf
  . unfold mutP at hf
    split at hf
    . split at hf
      . simp only [bind_eq_some_iff,map_eq_some_iff] at hf
        obtain ⟨_,_,_,_,hf⟩:=hf
        cases hf
        exact ⟨rfl,rfl⟩
      . cases hf
    . cases hf
  all_goals (cases ws<;>cases hf;exact ⟨rfl,rfl⟩)
 obtain ⟨rfl,rfl⟩:=hk
 refine hr ws Hs2 ds0 ds' us m1 m' hf v2 n rl fun us' n' nr rv hle rn rd=>?_
 obtain ⟨G,S,R,SS⟩:=fin (.lst us') .lst us' ds' n' nr rv d hle Zj rn rd
 have z1:=Zo (m1:=fun _=>0) g (g1.re fun b=>by simp) (st1.drop (fun b=>by simp) g1.le) g2 st2
 have S2:Stp H Hs M H1 Hs2 (fun b=>m1 b+M2 b):=z1.2.1.drop (fun b=>by simp) z1.1.le
 have z:=Zo (m1:=fun _=>0) g (g2.re fun b=>by simp) (S2.drop (fun b=>by simp) g2.le) G S
 exact q _ _ Hs2 _ _ G (z.2.1.drop (fun b=>by simp) z.1.le) R SS
end
end T
namespace L2
open PySem PySem.Spec PyProof.Rows
section
theorem ZlH(ne:a≠it):∀(m j:Nat)(s:Shared)(Q:List Value->Shared->Prop),s.heap.IsListIter it a j->s.heap.IsList a us->j+m<=us.size->
 (∀ g,Heap.IsListIter g it a (j+m)->Heap.SameBut it s.heap g->Q ((us.toList.drop j).take m) { s with heap:=g })->wpAny (model prog w) A (draw (.ref it) m) Q E s
 | 0,j,s,Q,st,_,_,q=>wpAny_pure (by simpa using q s.heap st (Heap.SameBut.refl ..))
 | m+1,j,s,Q,st,hl,le,q=>by
  have lt:j < us.size:=by omega
  refine wpAny_bind (wpAny_pyNext_list_item st hl (x:=us[j]) (by simp [lt]) fun g1 st1 k1=>?_)
  refine wpAny_bind (wpAny_holding (ZlH ne m (j+1) _ _ st1 (hl.extBut k1.extBut ne) (by omega) fun g2 st2 k2=>wpAny_pure ?_))
  have z:=q g2 (by rw [show j+(m+1)=j+1+m by omega];exact st2) (k1.trans k2)
  rw [show us.toList.drop j=us[j]::us.toList.drop (j+1) by simp [drop_eq_getElem_cons,lt],take_succ_cons] at z
  exact z
def ZmI(hh:A.handled=none)(hl:s.heap.IsList a us)
 (q:∀ g,Heap.ExtBut s.heap.objs.size s.heap g->Q us.toList { s with heap:=g }):wpAny (model prog w) A (unpackItems (.ref a) us.size none) Q E s:=by
 have ne:a≠s.heap.objs.size:=ne_of_lt (by obtain ⟨o,e,_⟩:=hl;exact Heap.lt_size e)
 unfold unpackItems
 refine wpAny_bind (?_:wpAny _ _ _ _ _ _)
 unfold notIterableAtAll
 refine wpAny_bind (wpAny_specialOf hl.typeIs slot_list_iter.lookup (wpAny_pure ?_))
 simp only [if_false,Bool.false_eq_true]
 refine wpAny_bind (wpAny_holding (wpAny_pyIter_list hl (wpAny_bind (wpAny_holding (ZlH ne us.size 0 _ _ ⟨_,Heap.get?_push_size _ rfl,rfl,rfl⟩ (hl.push _) (by omega) fun g1 st1 k1=>?_)))))
 rw [show List.take us.size (List.drop 0 us.toList)=us.toList from by rw [drop_zero,List.take_of_length_le (by simp)],if_neg (by simp)]
 refine wpAny_bind (wpAny_holding (wpAny_pyNext_list_end hh st1 ((hl.push _).extBut k1.extBut ne) (by simp) fun g2 k2=>?_))
 simp only [if_false,Bool.false_eq_true,Option.isSome_none]
 exact wpAny_pure (q g2 fun b o hb e=>k2 b o hb (k1.extBut b o hb (Heap.get?_push_of_some _ e)))
def ZmJ(hh:A.handled=none)(hl:s.heap.IsList a us)(hn:(assignEach es env).length=us.size)(hst:(assignEach es env).findIdx? (·.1)=none)
 (q:∀ g,Heap.ExtBut s.heap.objs.size s.heap g->wpAny (model prog w) A (assignInOrder ((assignEach es env).map (·.2)) us.toList) Q E { s with heap:=g }):wpAny (model prog w) A (assign (.Tuple es k p) env (.ref a)) Q E s:=by
 rw [assign_Tuple]
 refine wpAny_bind (wpAny_standAt ?_)
 unfold unpack
 rw [hn,hst]
 exact wpAny_bind (wpAny_holding (ZmI hh hl q))
end
noncomputable def gSeq(K:Fg)(n:Nat)(t:TGs):TG:=fun v σ H Q=>∃ a xs,v=.ref a/\(SqT K H a xs\/SqL K H a xs)/\xs.length=n/\t xs σ H Q
def Zj0(hc:X.calm=true)(h:PGs X es t)
 (hn:autoParam ((assignEach es X.env).length=n) Q9) (hst:autoParam ((assignEach es X.env).findIdx? (·.1)=none) Q9):PG X (.Tuple es k pos) (gSeq X.K n t):=by
 intro pins s σ H v u Q I r hw
 obtain ⟨a,xs,e1,hq,hl,hw⟩:=hw
 rcases hq with hq|hq
 . exact ZnK hc h hn hst pins s σ H v u Q I r ⟨a,xs,e1,hq,hl,hw⟩
 . subst e1
   cases r
   obtain ⟨its,rv,ht,hz⟩:=I.list hq
   refine ZmJ (I.ok.hd hc) ht.isList (by simp [hn,<- hl,rv.length]) hst fun h' hx=>?_
   have I1:Inv X pins σ H { s with heap:=h' }:=I.kept (t':=s.toks) fun b o e=>hx b o (ne_of_lt (Heap.lt_size e)) e
   exact h pins _ σ H xs _ Q I1 (by simpa using rv) hw
end L2
namespace T
open PySem PySem.Spec L2
variable{H Hs H' Hs' H0 Hs0:Hp}{σ:St}{δ' δ:List D}{lk:Nat->Bool}{X:Cx}{pos pos':Pos}{j:Nat}{M0:Bud}
def Keeps(lk:Nat->Bool)(σ σ':St):Prop:=∀ i,lk i=true->σ'[i]?=σ[i]?
def Keeps.refl(lk:Nat->Bool)(σ:St):Keeps lk σ σ:=fun _ _=>rfl
def Keeps.trans(a:Keeps lk σ σ1)(b:Keeps lk σ1 σ2):Keeps lk σ σ2:=fun i h=>(b i h).trans (a i h)
def Post(K:Fg)(lk:Nat->Bool)(E:Ends)(σ:St)(H Hs:Hp)(M:Bud)(f:Fl)(δ':List D):Prop:=match f with
 | .nx=>∀(σ':St)(H' Hs':Hp)(M':Bud),Keeps lk σ σ'->Good H' Hs' M'->Stp H Hs M H' Hs' M'->RepS K H' Hs' σ' δ' M'->E.nx σ' H'
 | .bk=>∀(σ':St)(H' Hs':Hp)(M':Bud),Keeps lk σ σ'->Good H' Hs' M'->Stp H Hs M H' Hs' M'->RepS K H' Hs' σ' δ' M'->E.bk σ' H'
 | .ct=>∀(σ':St)(H' Hs':Hp)(M':Bud),Keeps lk σ σ'->Good H' Hs' M'->Stp H Hs M H' Hs' M'->RepS K H' Hs' σ' δ' M'->E.ct σ' H'
 | .rt d=>∀(v:V)(σ':St)(H' Hs':Hp)(m M':Bud),Keeps lk σ σ'->Good H' Hs' (fun b=>m b+M' b)->Stp H Hs M H' Hs' (fun b=>m b+M' b)->Rep K H' Hs' v d m->RepS K H' Hs' σ' δ' M'->E.rt v H'
inductive tS(K:Fg)(lk:Nat->Bool)(c:M Fl)(E:Ends)(σ:St)(H:Hp):Prop
 | mk (δ:List D) (Hs:Hp) (M:Bud) (f:Fl) (δ':List D) (h0:Good H Hs M) (h1:RepS K H Hs σ δ M) (h2:c δ=.ok (f,δ')) (h3:Post K lk E σ H Hs M f δ'):tS K lk c E σ H
theorem Post.ahead{K:Fg}{E:Ends}{σ1:St}{H1 Hs1:Hp}{M M1:Bud}{f:Fl}(k:Keeps lk σ σ1)(g:Good H Hs M)(g1:Good H1 Hs1 M1)(st:Stp H Hs M H1 Hs1 M1)(h:Post K lk E σ H Hs M f δ'):Post K lk E σ1 H1 Hs1 M1 f δ':=by
 have tr:∀{H' Hs':Hp}{M':Bud},Good H' Hs' M'->Stp H1 Hs1 M1 H' Hs' M'->Stp H Hs M H' Hs' M':=fun{H' Hs' M'} g' st'=>by
  have z:=Zo (m1:=fun _=>0) g (g1.re fun b=>by simp) (st.drop (fun b=>by simp) g1.le) g' st'
  exact z.2.1.drop (fun b=>by simp) z.1.le
 cases f with
 | nx=>exact fun σ' H' Hs' M' k' g' st' r=>h σ' H' Hs' M' (k.trans k') g' (tr g' st') r
 | bk=>exact fun σ' H' Hs' M' k' g' st' r=>h σ' H' Hs' M' (k.trans k') g' (tr g' st') r
 | ct=>exact fun σ' H' Hs' M' k' g' st' r=>h σ' H' Hs' M' (k.trans k') g' (tr g' st') r
 | rt d=>exact fun v σ' H' Hs' m M' k' g' st' rv r=>h v σ' H' Hs' m M' (k.trans k') g' (tr g' st') rv r
section
variable{e a b c o:Expr}{st:Stmt}{rest:List Stmt}{i:Nat}{x:Str}
def PS.imp(h:PS X st t)(w:∀ E σ H,t' E σ H->t E σ H):PS X st t':=fun pins s σ H E I q=>h pins s σ H E I (w E σ H q)
def PSs.imp(h:PSs X rest t)(w:∀ E σ H,t' E σ H->t E σ H):PSs X rest t':=fun pins s σ H E I q=>h pins s σ H E I (w E σ H q)
def Zh:PSs X [] (tS X.K lk (M.ret .nx)):=PSs.imp Zmd fun E σ H h=>by
 obtain ⟨δ,Hs,M,f,δ',g,s,e,q⟩:=h
 have:=Ze e
 cases this
 exact q σ H Hs M (Keeps.refl _ _) g (Stp.refl _ _ _) s
theorem Zc{c r:M Fl}(h1:PS X st (tS X.K lk c))(h2:PSs X rest (tS X.K lk r)):PSs X (st::rest) (tS X.K lk (seqL c r)):=PSs.imp (Zkb h1 h2) fun E σ H h=>by
 obtain ⟨δ,Hs,M,f,δ',g,s,e,q⟩:=h
 obtain ⟨f1,δ1,e1,e2⟩:=Zb e
 refine ⟨δ,Hs,M,f1,δ1,g,s,e1,?_⟩
 cases f1 with
 | nx=>exact fun σ' H' Hs' M' k g' st' r=>⟨δ1,Hs',M',f,δ',g',r,e2,q.ahead k g g' st'⟩
 | bk=>have:=Ze e2;cases this;exact q
 | ct=>have:=Ze e2;cases this;exact q
 | rt d=>have:=Ze e2;cases this;exact q
def Zc1:PS X st (tS X.K lk stk):=fun pins s σ H E I z0=>by obtain ⟨δ,Hs,M,f,δ',g,_,e,q⟩:=z0;cases e
def ZaZ{c:M D}(he:PE X e (tM X.K c))(hs:autoParam (swapsWith e none pos.line X.env=pure false) Q9):PS X (.Expr e pos) (tS X.K lk (c.bnd fun _=>M.ret .nx)):=PS.imp (Zme he hs) fun E σ H h=>by
 obtain ⟨δ,Hs,M,f,δ',g,s,e,q⟩:=h
 obtain ⟨d,δ1,e1,e2⟩:=Zb e
 have:=Ze e2
 cases this
 exact ⟨δ,Hs,M,d,_,g,s,e1,fun v H' Hs' m M' g' st' r s'=>q σ H' Hs' M' (Keeps.refl _ _) g'.re (st'.drop (fun b=>by omega) g'.le) s'⟩
def Zs{c:M D}(he:PE X e (tM X.K c)):PS X (.Return (some e) pos) (tS X.K lk (c.bnd fun d=>M.ret (.rt d))):=PS.imp (ZnJ he) fun E σ H h=>by
 obtain ⟨δ,Hs,M,f,δ',g,s,e,q⟩:=h
 obtain ⟨d,δ1,e1,e2⟩:=Zb e
 have:=Ze e2
 cases this
 exact ⟨δ,Hs,M,d,_,g,s,e1,fun v H' Hs' m M' g' st' r s'=>q v σ H' Hs' m M' (Keeps.refl _ _) g' st' r s'⟩
def Zdf(h:PE X e (tVar i)):PE X e (tM X.K (movV i)):=PE.imp h fun σ H Q z0=>by
 obtain ⟨δ,Hs,M,d,δ',g,s,e,q⟩:=z0
 unfold movV at e
 split at e
 . rename_i u hd
   cases e
   obtain ⟨v,m1,m2,e3,r,_⟩:=s.slot hd (by simp)
   cases r
   exact ⟨u,e3,q u H Hs (fun _=>0) M (Za4 g) (stp0 H Hs M) (.sc _ _) s⟩
 . rename_i k oo ds hd
   cases e
   obtain ⟨v,m1,m2,e3,r,l,f⟩:=s.slot hd (by simp)
   have z:=f H Hs (some v) .hole (fun _=>0) (Same.refl _) (fun _ _ _=>rfl) (.inl rfl)
   rw [Zaf e3] at z
   exact ⟨v,e3,q v H Hs m1 m2 (g.re fun b=>by have:=l b;omega) ((Stp.refl H Hs M).drop (fun b=>by have:=l b;omega) g.le) r (z.mono fun b=>by simp)⟩
 . cases e
theorem Zaq(hc:PT X c (tT X.K cc))(ha:PSs X A (tS X.K lk ca))(hb:PSs X B (tS X.K lk cb)):PS X (.If c A B pos) (tS X.K lk (cc.bnd fun t=>if t then ca else cb)):=PS.imp (ZpY hc ha hb) fun E σ H h=>by
 obtain ⟨δ,Hs,M,f,δ',g,s,e,q⟩:=h
 obtain ⟨t,δ1,e1,e2⟩:=Zb e
 refine ⟨δ,Hs,M,t,δ1,g,s,e1,fun H' Hs' M' g' st' s'=>?_⟩
 cases t with
 | true=>exact ⟨δ1,Hs',M',f,δ',g',s',e2,q.ahead (Keeps.refl _ _) g g' st'⟩
 | false=>exact ⟨δ1,Hs',M',f,δ',g',s',e2,q.ahead (Keeps.refl _ _) g g' st'⟩
def Zbq{K:Fg}{m M:Bud}{v:V}{d:D}(s:RepS K H Hs σ δ M)(hi:i < δ.length)(r:Rep K H Hs v d m):RepS K H Hs (σ.set i (some v)) (δ.set i d) (fun b=>m b+M b):=by
 obtain ⟨o,m1,m2,e1,q,l,f⟩:=s.focus (List.getElem?_eq_getElem hi)
 exact (f (RepO K H Hs) (some v) d m (fun a d m' _ q=>q) (.inr ⟨v,rfl,r⟩)).mono fun b=>by have:=l b;(try dsimp only);omega
def Zdg(h:asgN lk i d δ=.ok (u,δ')):i < δ.length/\lk i=false/\δ'=δ.set i d:=by
 unfold asgN at h
 split at h
 . rename_i hc
   simp only [and_eq_true,decide_eq_true_eq,not_eq_true'] at hc
   cases h
   exact ⟨hc.1,hc.2,rfl⟩
 . cases h
def ZaT(h:lk i=false):Keeps lk σ (σ.set i v):=fun j hj=>by
 have:i≠j:=fun q=>by subst q;rw [h] at hj;cases hj
 rw [getElem?_set_ne this]
def Zo2{c:M D}(hN:X.N.Nodup)(hi:X.N[i]?=some x)(hx:Loc X.env.scope x)(he:PE X e (tM X.K c))(hs:autoParam (swapsWith e (some (.Name x pos')) pos.line X.env=pure false) Q9)
 (hf:X.fn x=true\/X.env.scope.names.lookup x=some .local:=by first|exact .inl rfl|exact .inr rfl|assumption):
 PS X (.Assign [.Name x pos'] e pos) (tS X.K lk (c.bnd fun d=>(asgN lk i d).bnd fun _=>M.ret .nx)):=PS.imp (ZnM hN hi hx he hs hf) fun E σ H h=>by
 obtain ⟨δ,Hs,M,f,δ',g,s,e,q⟩:=h
 obtain ⟨d,δ1,e1,e2⟩:=Zb e
 obtain ⟨u,δ2,e3,e4⟩:=Zb e2
 have:=Ze e4
 cases this
 obtain ⟨h1,h2,rfl⟩:=Zdg e3
 exact ⟨δ,Hs,M,d,δ1,g,s,e1,fun v H' Hs' m M' g' st' r s'=>q _ H' Hs' _ (ZaT h2) g' st' (Zbq s' h1 r)⟩
end
noncomputable def gNs:List Nat->TGs
 | []=>gNil
 | i::is=>Zl4 (ZcB i) (gNs is)
theorem Zef:∀{is:List Nat}{ds:List D}{vs:List V}{σ:St}{δ δ':List D}{m M:Bud}{u:Unit}{Q:St->Hp->Prop},Zbl lk is ds δ=.ok (u,δ')->RepL K H Hs vs ds m->RepS K H Hs σ δ M->
 (∀ σ',Keeps lk σ σ'->RepS K H Hs σ' δ' (fun b=>m b+M b)->Q σ' H)->vs.length=is.length/\gNs is vs σ H Q
 | [],[],_,σ,δ,δ',m,M,u,Q,e,.nil _,s,q=>by
  have:=Ze e
  cases this
  exact ⟨rfl,rfl,q σ (Keeps.refl _ _) (s.mono fun b=>by omega)⟩
 | [],_::_,_,_,_,_,_,_,_,_,e,_,_,_=>by cases e
 | _::_,[],_,_,_,_,_,_,_,_,e,_,_,_=>by cases e
 | i::is,d::ds,_,σ,δ,δ',m,M,u,Q,e,.cons (v:=v) (vs:=vs) (m1:=m1) (m2:=m2) x y l,s,q=>by
  obtain ⟨u1,δ1,e1,e2⟩:=Zb e
  obtain ⟨h1,h2,rfl⟩:=Zdg e1
  obtain ⟨hl,hq⟩:=Zef (Q:=Q) e2 y (Zbq s h1 x) fun σ' k r=>q σ' ((ZaT h2).trans k) (r.mono fun b=>by have:=l b;(try dsimp only);omega)
  exact ⟨by rw [length_cons,length_cons,hl],v,vs,rfl,hq⟩
section
variable{e o k:Expr}{es:List Expr}{i:Nat}{is:List Nat}{x:Str}
def Zdz:PGs X [] (gNs []):=Zmf
def ok_g(hN:X.N.Nodup)(hi:X.N[i]?=some x)(hx:Loc X.env.scope x)(hr:PGs X es (gNs is))(hf:X.fn x=true\/X.env.scope.names.lookup x=some .local:=by first|exact .inl rfl|exact .inr rfl|assumption)
 (hs:autoParam ((assignEach (.Name x pos::es) X.env).map (·.2)=assign (.Name x pos) X.env::(assignEach es X.env).map (·.2)) Q9):PGs X (.Name x pos::es) (gNs (i::is)):=Zkc (Zhi hN hi hx hf) hr hs
def ZmK{K:Fg}{m M:Bud}{x:V}{w:W}{u:Unit}{Q:St->Hp->Prop}(v:View K H Hs x w m)(s:RepS K H Hs σ δ M)(e:unpM lk is w δ=.ok (u,δ'))
 (q:∀ σ',Keeps lk σ σ'->RepS K H Hs σ' δ' (fun b=>m b+M b)->Q σ' H):gSeq K is.length (gNs is) x σ H Q:=by
 unfold unpM at e
 split at e
 . cases v with
   | nd n r=>
    obtain ⟨hl,hq⟩:=Zef e r s q
    exact ⟨_,_,rfl,.inl (.inl (.inl n)),hl,hq⟩
 . cases v with
   | nd n r=>
    obtain ⟨hl,hq⟩:=Zef e r s q
    exact ⟨_,_,rfl,.inr (.inl (.inl n)),hl,hq⟩
 . cases e
def Zj1(hc:X.calm=true)(he:PE X e (tP X.K ca))(hg:PGs X es (gNs is))(hn:autoParam ((assignEach es X.env).length=is.length) Q9)(hst:autoParam ((assignEach es X.env).findIdx? (·.1)=none) Q9)
 (hs:autoParam (swapsWithSole [.Tuple es j pos'] e pos.line X.env=pure false) Q9) (hw:autoParam (swappedStores [.Tuple es j pos'] e X.env=pure none) Q9)
 (h1:autoParam ((assignEach [.Tuple es j pos'] X.env).map (·.2)=[assign (.Tuple es j pos') X.env]) Q9):
 PS X (.Assign [.Tuple es j pos'] e pos) (tS X.K lk ((ca.bnd view).bnd fun w=>(unpM lk is w).bnd fun _=>M.ret .nx)):=PS.imp (ZiN he (Zj0 hc hg hn hst) hs hw h1) fun E σ H h=>by
 obtain ⟨δ,Hs,M,f,δ',g,s,ea,q⟩:=h
 obtain ⟨w,δ2,eb,ec⟩:=Zb ea
 obtain ⟨p,δ1,e1,e2⟩:=Zb eb
 obtain ⟨u,δ3,e3,e4⟩:=Zb ec
 have:=Ze e4
 cases this
 refine ⟨δ,Hs,M,p,δ1,g,s,e1,fun x H2 Hs2 m1 M2 g2 st2 r1 s2=>?_⟩
 obtain ⟨Hs3,M3,g3,st3,v1,s3⟩:=Za0 (B:=m1) g2 s2 r1 e2
 have z:=Zo (m1:=fun _=>0) g (g2.re fun b=>by simp) (st2.drop (fun b=>by simp) g2.le) g3 st3
 exact ZmK v1 s3 e3 fun σ' kk r=>q σ' H2 Hs3 _ kk g3 (z.2.1.drop (fun b=>by simp) z.1.le) r
def RepL.set(r:RepL K H Hs vs ds m)(hn:ds[n]?=some d0)(x:Rep K H Hs v d m1):RepL K H Hs (vs.set n v) (ds.set n d) (fun b=>m b+m1 b):=by
 obtain ⟨a,n1,n2,e1,q,l,f⟩:=r.sep.focus hn
 exact ((f (Rep K H Hs) v d m1 (fun a d m' _ q=>q) x).mono fun b=>by have:=l b;(try dsimp only);omega).repL
def Zfu{K:Fg}{M:Bud}{p:Op}(s:RepS K H Hs σ δ M)(h:ZV i δ=.ok (p,δ')):δ'=δ/\∃ v,σ[i]?=some (some v):=by
 unfold ZV at h
 split at h
 . rename_i hd
   cases h
   obtain ⟨v,_,_,e,_⟩:=s.slot hd (by simp)
   exact ⟨rfl,v,e⟩
 . rename_i hd
   cases h
   obtain ⟨v,_,_,e,_⟩:=s.slot hd (by simp)
   exact ⟨rfl,v,e⟩
 . cases h
end
structure WalkV(J:It)(vs:List V)(B:Bud)(Pp:Hp->Hp->Prop):Prop where
 stay:∀{H Hs H' Hs':Hp},Pp H Hs->Same Hs Hs'->(∀ b,B b≥1->H b≠none->H' b=H b)->Pp H' Hs'
 go:∀{H Hs:Hp}{i:Nat}{v:V},Same Hs H->Pp H Hs->vs[i]?=some v->J.go i H
 yld:∀{H Hs H':Hp}{i:Nat}{x v:V},Same Hs H->Pp H Hs->vs[i]?=some v->J.yld i H x H'->H'=H/\x=v
 stop:∀{H Hs:Hp}{i:Nat},Same Hs H->Pp H Hs->vs.length<=i->J.stop i H
def Grow(H Hs H' Hs':Hp):Prop:=(H'=H/\Hs'=Hs)\/∃ A o,H A=none/\H'=upd H A o/\Hs'=upd Hs A o
def Grow.same(w:Grow H Hs H' Hs')(g:Same Hs H):Same Hs Hs'/\(∀ b,H b≠none->H' b=H b)/\Same Hs' H':=by
 rcases w with ⟨rfl,rfl⟩|⟨A,o,h,rfl,rfl⟩
 . exact ⟨Same.refl _,fun _ _=>rfl,g⟩
 . have hs:Hs A=none:=by
    cases q:Hs A with
    | none=>rfl
    | some u=>rw [g A u q] at h;cases h
   have ne:∀ b u,Hs b=some u->b≠A:=fun b u e z=>by subst z;rw [hs] at e;cases e
   refine ⟨fun b u e=>?_,fun b n=>Zn fun z=>n (by rw [z];exact h),fun b u e=>?_⟩
   . rw [Zn (ne b u e)];exact e
   . by_cases z:b=A
     . subst z;rw [Zj] at e ⊢;exact e
     . rw [Zn z] at e ⊢;exact g b u e
def Grow.good{M:Bud}(w:Grow H Hs H' Hs')(g:Good H Hs M):Good H' Hs' M:=by
 obtain ⟨s1,s2,s3⟩:=w.same g.sub
 refine ⟨s3,g.le,fun b h=>?_,fun b h=>?_⟩
 . rcases w with ⟨rfl,rfl⟩|⟨A,o,n,rfl,rfl⟩
   . exact g.ne b h
   . rw [Zn fun z=>g.has b h (by rw [z];exact n)];exact g.ne b h
 . rw [s2 b (g.has b h)];exact g.has b h
def Grow.stp{M:Bud}(w:Grow H Hs H' Hs')(g:Good H Hs M)(t:Stp H0 Hs0 M0 H Hs M):Stp H0 Hs0 M0 H' Hs' M:=by
 obtain ⟨s1,s2,s3⟩:=w.same g.sub
 refine ⟨fun b o e z=>?_,t.own,t.grow.trans s1,fun b n n'=>?_,fun b n=>?_⟩
 . have e1:=t.keep b o e z
   rw [s2 b (by rw [e1];simp)];exact e1
 . by_cases q:Hs b=none
   . rcases w with ⟨rfl,rfl⟩|⟨A,o,h,rfl,rfl⟩
     . exact absurd q n'
     . by_cases z:b=A
       . subst z
         cases y:H0 b with
         | none=>exact .inr rfl
         | some u=>exact absurd h (t.stay b (by rw [y];simp))
       . rw [Zn z] at n';exact absurd q n'
   . exact t.shr b n q
 . have:=t.stay b n
   rw [s2 b this];exact this
structure Walk(K:Fg)(J:It)(items:List D)(B:Bud)(Pp:Hp->Hp->Prop):Prop where
 stay:∀{H Hs H' Hs':Hp},Pp H Hs->Same Hs Hs'->(∀ b,B b≥1->H b≠none->H' b=H b)->Pp H' Hs'
 go:∀{H Hs:Hp}{i:Nat},Same Hs H->Pp H Hs->i < items.length->J.go i H
 yld:∀{H Hs H':Hp}{i:Nat}{x:V}{d:D},Same Hs H->Pp H Hs->items[i]?=some d->J.yld i H x H'->∃ Hs',Grow H Hs H' Hs'/\Rep K H' Hs' x d (fun _=>0)
 stop:∀{H Hs:Hp}{i:Nat},Same Hs H->Pp H Hs->items.length<=i->J.stop i H
def WalkV.w(w:WalkV J vs B Pp):Walk K J items B (fun H Hs=>Pp H Hs/\RepL K H Hs vs items (fun _=>0)) where
 stay:=fun h g k=>⟨w.stay h.1 g k,h.2.frame g fun b hb=>absurd hb (by simp)⟩
 go:=fun{H Hs i} g h l=>by
  have e:=h.2.len
  exact w.go g h.1 (List.getElem?_eq_getElem (show i < vs.length by omega))
 yld:=fun{H Hs H' i x d} g h e y=>by
  obtain ⟨v,m1,ev,rv,lv⟩:=h.2.at e
  obtain ⟨rfl,rfl⟩:=w.yld g h.1 ev y
  exact ⟨Hs,.inl ⟨rfl,rfl⟩,rv.mono lv⟩
 stop:=fun{H Hs i} g h l=>w.stop g h.1 (by have:=h.2.len;omega)
def Held(K:Fg)(H Hs:Hp)(σ:St):List (Nat×D)->Bud->Prop
 | [],_=>True
 | (i,d)::r,m=>∃(v:V)(m1 m2:Bud),σ[i]?=some (some v)/\Rep K H Hs v d m1/\Held K H Hs σ r m2/\∀ b,m1 b+m2 b<=m b
theorem Held.frame(g:Same Hs Hs'):∀{hs:List (Nat×D)}{m:Bud},(∀ b,m b≥1->H b≠none->H' b=H b)->Held K H Hs σ hs m->Held K H' Hs' σ hs m
 | [],_,_,h=>h
 | (i,d)::r,m,k,⟨v,m1,m2,e,x,y,l⟩=>⟨v,m1,m2,e,x.frame g fun b hb=>k b (by have:=l b;omega),y.frame g fun b hb=>k b (by have:=l b;omega),l⟩
theorem Held.keeps(k:Keeps lk σ σ'):∀{hs:List (Nat×D)}{m:Bud},(∀ p∈hs,lk p.1=true)->Held K H Hs σ hs m->Held K H Hs σ' hs m
 | [],_,_,h=>h
 | (i,d)::r,m,hl,⟨v,m1,m2,e,x,y,l⟩=>⟨v,m1,m2,(k i (hl (i,d) mem_cons_self)).trans e,x,y.keeps k fun p hp=>hl p (mem_cons_of_mem _ hp),l⟩
theorem ZaU:∀{hs:List (Nat×D)}{m M:Bud}{δ δ':List D}{u:Unit},ZN hs δ=.ok (u,δ')->Held K H Hs σ hs m->RepS K H Hs σ δ M->RepS K H Hs σ δ' (fun b=>m b+M b)
 | [],m,M,δ,δ',u,e,h,s=>by
  have:=Ze e
  cases this
  exact s.mono fun b=>by omega
 | (i,d)::r,m,M,δ,δ',u,e,⟨v,m1,m2,e1,x,y,l⟩,s=>by
  have hi:i < δ.length:=by
   have:=s.length
   have:=(List.getElem?_eq_some_iff.mp e1).1
   omega
  have z:=Zbq s hi x
  rw [Zaf e1] at z
  exact (ZaU (show ZN r (δ.set i d)=_ from e) y z).mono fun b=>by have:=l b;(try dsimp only);omega
inductive tI(K:Fg)(ik:IK)(cs:M (List Op))(σ:St)(H:Hp)(R:It->Hp->Prop):Prop
 | mk (δ:List D) (Hs:Hp) (M:Bud) (h:List W×List (Nat×D)) (items:List D) (δ':List D) (h0:Good H Hs M) (h1:RepS K H Hs σ δ M) (h2:(cs.bnd Zu) δ=.ok (h,δ')) (h3:itW ik h.1=some items) (h4:∀(J:It)(Pp:Hp->Hp->Prop)(H' Hs':Hp)(B M':Bud),Good H' Hs' (fun b=>B b+M' b)->Stp H Hs M H' Hs' (fun b=>B b+M' b)->RepS K H' Hs' σ δ' M'->Held K H' Hs' σ h.2 B->Walk K J items B Pp->Pp H' Hs'->R J H'):tI K ik cs σ H R
def PI.imp(h:PI X tg it w)(q:∀ σ H R,w' σ H R->w σ H R):PI X tg it w':=fun pins s σ H R I z=>h pins s σ H R I (q σ H R z)
def HW(K:Fg)(H Hs:Hp)(B:Bud)(v:V):W->Prop
 | .sc u=>v=u
 | .nd k ds=>∃ a vs,v=.ref a/\RepL K H Hs vs ds (fun _=>0)/\(Zdx K Hs a vs k\/(ZaO K H a vs k/\B a≥1))
theorem ZbG{K:Fg}{m M:Bud}{p:Op}{v:V}{w:W×Option (Nat×D)}(g:Good H Hs (fun b=>m b+M b))(s:RepS K H Hs σ δ M)(r:RepP K H Hs σ v p m)(e:holdV p δ=.ok (w,δ')):
 ∃ Hs' B M',Good H Hs' (fun b=>B b+M' b)/\Stp H Hs (fun b=>m b+M b) H Hs' (fun b=>B b+M' b)/\RepS K H Hs' σ δ' M'/\Held K H Hs' σ w.2.toList B/\HW K H Hs' B v w.1:=by
 have dropM:∀{Hs':Hp}{M':Bud},Good H Hs' M'->Good H Hs' (fun b=>(fun _=>0) b+M' b):=fun g=>g.re fun b=>by simp
 cases p with
 | tmp d=>
  cases d with
  | hole=>cases e
  | sc u=>
   have:=Ze e
   cases this
   cases r
   exact ⟨Hs,fun _=>0,M,g.re fun b=>by simp,(Stp.refl H Hs _).drop (fun b=>by simp) g.le,s,trivial,rfl⟩
  | node k o ds=>
   have:=Ze e
   cases this
   have hsame:=Zbp g (m:=m) fun b=>by omega
   have r2:=Rep.share hsame (Zdc (H:=H) (Hs:=Hs) (m:=m)) r
   refine ⟨shH H Hs m,fun _=>0,M,dropM g.share,(Stp.share g).drop (fun b=>by simp) g.share.le,s.frame hsame fun _ _ _=>rfl,trivial,?_⟩
   simp only [shr] at r2
   cases r2 with
   | shd n r3=>exact ⟨_,_,rfl,r3,.inl n⟩
 | late i=>
  have r:σ[i]?=some (some v):=r
  unfold holdV at e
  dsimp only at e
  split at e
  . rename_i u hi
    cases e
    obtain ⟨v',m1,m2,e1,q,l,f⟩:=s.slot hi (by simp)
    rw [r] at e1
    cases e1
    cases q
    exact ⟨Hs,fun _=>0,M,g.re fun b=>by simp,(Stp.refl H Hs _).drop (fun b=>by simp) g.le,s,trivial,rfl⟩
  . rename_i k ds hi
    cases e
    obtain ⟨v',m1,m2,e1,q,l,f⟩:=s.slot hi (by simp)
    rw [r] at e1
    cases e1
    cases q with
    | shd n q=>exact ⟨Hs,fun _=>0,M,g.re fun b=>by simp,(Stp.refl H Hs _).drop (fun b=>by simp) g.le,s,trivial,_,_,rfl,q,.inl n⟩
  . rename_i k ds hi
    cases e
    obtain ⟨v',m1,m2,e1,q,l,f⟩:=s.slot hi (by simp)
    rw [r] at e1
    cases e1
    cases q with
    | @own a _ vs _ _ m' n q l'=>
     have g2:Good H Hs (fun b=>m' b+(one a b+m2 b)):=g.re fun b=>by have:=l b;have:=l' b;omega
     have hsame:=Zbp g2 (m:=m') fun b=>by omega
     have q2:=RepL.share hsame (Zdc (H:=H) (Hs:=Hs) (m:=m')) q
     have st:=Stp.share g2
     have z:=f H (shH H Hs m') (some (.ref a)) .hole (fun _=>0) hsame (fun _ _ _=>rfl) (.inl rfl)
     rw [Zaf r] at z
     refine ⟨shH H Hs m',one a,m2,g2.share,⟨fun b o h _=>h,fun b h=>?_,st.grow,fun b h h'=>?_,fun b h=>h⟩,z.mono fun b=>by simp,⟨_,one a,fun _=>0,r,.own n q2 fun b=>by simp,trivial,fun b=>by simp⟩,_,_,rfl,q2,.inr ⟨n,by simp [one]⟩⟩
     . have h:one a b+m2 b=1:=h
       have l0:m b+M b<=1:=g.le b
       have:=l b
       have:=l' b
       left
       show m b+M b=1
       omega
     . rcases st.shr b h h' with z|z
       . have z:m' b+(one a b+m2 b)=1:=z
         have l0:m b+M b<=1:=g.le b
         have:=l b
         have:=l' b
         left
         show m b+M b=1
         omega
       . exact .inr z
  . cases e
def ZeW(lo:Int)(n:Nat)(B:Bud):WalkV (Itr lo n) ((List.range n).map fun(k:Nat)=>V.int (lo+k)) B (fun _ _=>True) where
 stay:=fun _ _ _=>trivial
 go:=fun{H Hs i v} _ _ h=>by
  have:=(List.getElem?_eq_some_iff.mp h).1
  simp only [length_map,List.length_range] at this
  exact this
 yld:=fun{H Hs H' i x v} _ _ h y=>by
  obtain ⟨e,y⟩:=y
  have:=(List.getElem?_eq_some_iff.mp h).1
  simp only [length_map,List.length_range] at this
  rw [getElem?_map,List.getElem?_range this] at h
  simp only [Option.map_some,Option.some.injEq] at h
  exact ⟨e,y.trans h⟩
 stop:=fun{H Hs i} _ _ h=>by
  simp only [length_map,List.length_range] at h
  exact h
def ZfM:WalkV (Itl K a) vs B (fun H Hs=>SqL K Hs a vs\/(H a=some (.lst vs)/\B a≥1)):=by
 have sq:∀{H Hs:Hp},Same Hs H->(SqL K Hs a vs\/(H a=some (.lst vs)/\B a≥1))->SqL K H a vs:=fun g h=>by
  rcases h with h|h
  . exact g.seq h
  . exact .inl (.inl h.1)
 refine ⟨fun h g k=>?_,fun g h e=>⟨vs,_,sq g h,e⟩,fun g h e y=>?_,fun g h e=>⟨vs,sq g h,e⟩⟩
 . rcases h with h|⟨h,hb⟩
   . exact .inl (g.seq h)
   . exact .inr ⟨(k a hb (by rw [h];simp)).trans h,hb⟩
 . obtain ⟨e1,y⟩:=y
   have:=y vs (sq g h)
   rw [e] at this
   exact ⟨e1,(Option.some.inj this).symm⟩
def Zgv:WalkV (Itt K a) vs B (fun H Hs=>SqT K Hs a vs\/(H a=some (.tup vs)/\B a≥1)):=by
 have sq:∀{H Hs:Hp},Same Hs H->(SqT K Hs a vs\/(H a=some (.tup vs)/\B a≥1))->SqT K H a vs:=fun g h=>by
  rcases h with h|h
  . exact Same.tupq' g h
  . exact .inl (.inl h.1)
 refine ⟨fun h g k=>?_,fun g h e=>⟨vs,_,sq g h,e⟩,fun g h e y=>?_,fun g h e=>⟨vs,sq g h,e⟩⟩
 . rcases h with h|⟨h,hb⟩
   . exact .inl (Same.tupq' g h)
   . exact .inr ⟨(k a hb (by rw [h];simp)).trans h,hb⟩
 . obtain ⟨e1,y⟩:=y
   have:=y vs (sq g h)
   rw [e] at this
   exact ⟨e1,(Option.some.inj this).symm⟩
section
variable{tg a b l:Expr}{ca cb:M Op}{p:Pos}
def Zi0{c:M Op}{h:List W×List (Nat×D)}(e:((c.bnd fun p=>(M.ret ([]:List Op)).bnd fun ps=>M.ret (p::ps)).bnd Zu) δ=.ok (h,δ')):∃ p δ1 w,c δ=.ok (p,δ1)/\holdV p δ1=.ok (w,δ')/\h=([w.1],w.2.toList):=by
 obtain ⟨ps,δ1,e1,e2⟩:=Zb e
 obtain ⟨p,δ2,e3,e4⟩:=Zb e1
 obtain ⟨z,δ3,e5,e6⟩:=Zb e4
 have:=Ze e5
 cases this
 have:=Ze e6
 cases this
 obtain ⟨w,δ4,e7,e8⟩:=Zb e2
 obtain ⟨z,δ5,e9,e10⟩:=Zb e8
 have:=Ze e9
 cases this
 have:=Ze e10
 cases this
 exact ⟨p,δ1,w,e3,e7,by simp⟩
theorem ZdN:∀(l:List Int),RepL K H Hs (l.map V.int) (l.map fun i=>D.sc (.int i)) (fun _=>0)
 | []=>.nil _
 | i::l=>.cons (m1:=fun _=>0) (m2:=fun _=>0) (.sc _ _) (ZdN l) fun b=>by simp
def Zhz(lo hi:Int):RepL K H Hs ((List.range (hi - lo).toNat).map fun(k:Nat)=>V.int (lo+k)) (rng lo hi) (fun _=>0):=by
 have z:=ZdN (K:=K) (H:=H) (Hs:=Hs) ((List.range (hi - lo).toNat).map fun(k:Nat)=>lo+k)
 rw [map_map,map_map] at z
 exact z
def ZaD(hm:X.mg "range"=none)(ha:PE X a (tP X.K ca))(hz:autoParam (glOk X.env.scope "range"=true) Q8)(hs:autoParam (starEach [a] X.env=[(false,eval a X.env)]) Q9):
 PI X tg (.Call (.Name "range" p) [a] [] pos) (tI X.K .rng1 (ca.bnd fun p=>(M.ret ([]:List Op)).bnd fun ps=>M.ret (p::ps))):=PI.imp (ZiQ (glk hz) hm (Zao ha Zbc (by show _=_;rw [hs];rfl)) hs) fun σ H R h=>by
 obtain ⟨δ,Hs,M,h,items,δ',g,s,e,ei,q⟩:=h
 obtain ⟨p,δ1,w,e1,e2,rfl⟩:=Zi0 e
 refine ⟨δ,Hs,M,p,δ1,g,s,e1,fun x H2 Hs2 m1 M2 g2 st2 r1 s2=>?_⟩
 obtain ⟨Hs3,B,M3,g3,st3,s3,hh,hw⟩:=ZbG g2 s2 r1 e2
 have z:=Zo (m1:=fun _=>0) g (g2.re fun b=>by simp) (st2.drop (fun b=>by simp) g2.le) g3 st3
 obtain ⟨w1,w2⟩:=w
 replace ei:Ziu _=_:=ei
 unfold Ziu at ei
 split at ei
 rotate_left
 . cases ei
 rename_i n hx
 cases hx
 split at ei
 . rename_i hok
   cases ei
   obtain rfl:=hw
   simp only [okR,and_eq_true,decide_eq_true_eq] at hok
   have hz:(n - 0).toNat=n.toNat:=by omega
   refine ⟨n,rfl,hok.1,hok.2,?_⟩
   have:=Zhz (K:=X.K) (H:=H2) (Hs:=Hs3) 0 n
   rw [hz] at this
   exact q _ _ H2 Hs3 B M3 g3 (z.2.1.drop (fun b=>by simp) z.1.le) s3 hh (ZeW 0 n.toNat B).w ⟨trivial,this⟩
 . cases ei
def ZmL(hm:X.mg "range"=none)(ha:PE X a (tP X.K ca))(hb:PE X b (tP X.K cb))(hz:autoParam (glOk X.env.scope "range"=true) Q8)(hs:autoParam (starEach [a,b] X.env=[(false,eval a X.env),(false,eval b X.env)]) Q9)(hs2:autoParam (starEach [b] X.env=[(false,eval b X.env)]) Q9):
 PI X tg (.Call (.Name "range" p) [a,b] [] pos) (tI X.K .rng2 (ca.bnd fun p=>(cb.bnd fun p=>(M.ret ([]:List Op)).bnd fun ps=>M.ret (p::ps)).bnd fun ps=>M.ret (p::ps))):=PI.imp (ZiR (glk hz) hm (Zao ha (Zao hb Zbc (by show _=_;rw [hs2];rfl)) (by show _=_;rw [hs,hs2])) hs hs2) fun σ H R h=>by
 obtain ⟨δ,Hs,M,h,items,δ',g,s,e,ei,q⟩:=h
 obtain ⟨ps,δ1,e1,e2⟩:=Zb e
 obtain ⟨p1,δ2,e3,e4⟩:=Zb e1
 obtain ⟨qs,δ3,e5,e6⟩:=Zb e4
 obtain ⟨p2,δ4,e7,e8⟩:=Zb e5
 obtain ⟨z,δ5,e9,e10⟩:=Zb e8
 have:=Ze e9
 cases this
 have:=Ze e10
 cases this
 have:=Ze e6
 cases this
 obtain ⟨w1,δ6,e11,e12⟩:=Zb e2
 obtain ⟨ws,δ7,e13,e14⟩:=Zb e12
 obtain ⟨w2,δ8,e15,e16⟩:=Zb e13
 obtain ⟨z,δ9,e17,e18⟩:=Zb e16
 have:=Ze e17
 cases this
 have:=Ze e18
 cases this
 have:=Ze e14
 cases this
 obtain ⟨w1,h1⟩:=w1
 obtain ⟨w2,h2⟩:=w2
 replace ei:Ziv _=_:=ei
 unfold Ziv at ei
 split at ei
 rotate_left
 . cases ei
 rename_i lo hi hx
 cases hx
 split at ei
 . rename_i hok
   cases ei
   simp only [okR,and_eq_true,decide_eq_true_eq] at hok
   refine ⟨δ,Hs,M,p1,δ2,g,s,e3,fun x H1 Hs1 m1 M1 g1 st1 r1 s1=>⟨δ2,Hs1,M1,p2,_,g1.re,s1,e7,fun y H2 Hs2 m2 M2 g2 st2 r2 s2=>?_⟩⟩
   obtain ⟨G2,S2,k2⟩:=Zo g g1 st1 g2 st2
   have r1':=RepP.frame st2.grow k2 r1
   have r2b:RepP X.K H2 Hs2 σ x p1 (fun b=>m1 b+m2 b):=by
    cases p1 with
    | late i=>exact r1'
    | tmp d=>exact Rep.mono r1' fun b=>by omega
   obtain ⟨Hs3,B3,M3,g3,st3,s3,hh3,hw3⟩:=ZbG (m:=fun b=>m1 b+m2 b) (G2.re fun b=>by (try dsimp only);omega) s2 r2b e11
   obtain rfl:=hw3
   have r2':RepP X.K H2 Hs3 σ y p2 (fun _=>0):=by
    cases p2 with
    | late i=>exact r2
    | tmp d=>
     cases d with
     | sc u=>cases r2;exact .sc _ _
     | hole=>cases e15
     | node k o ds=>cases e15
   have nh1:h1=none:=by
    cases p1 with
    | tmp d=>cases d with
     | sc u=>cases e11;rfl
     | hole=>cases e11
     | node k o ds=>cases e11
    | late i=>
     unfold holdV at e11
     dsimp only at e11
     split at e11<;>cases e11
     rfl
   have nh2:h2=none:=by
    cases p2 with
    | tmp d=>cases d with
     | sc u=>cases e15;rfl
     | hole=>cases e15
     | node k o ds=>cases e15
    | late i=>
     unfold holdV at e15
     dsimp only at e15
     split at e15<;>cases e15
     rfl
   subst nh1 nh2
   obtain ⟨Hs4,B4,M4,g4,st4,s4,hh4,hw4⟩:=ZbG (m:=fun _=>0) (g3.re fun b=>by simp) s3 r2' e15
   obtain rfl:=hw4
   have S2':Stp H Hs M H2 Hs2 (fun b=>m1 b+m2 b+M2 b):=S2.drop (fun b=>by omega) G2.le
   have G2':Good H2 Hs2 (fun b=>m1 b+m2 b+M2 b):=G2.re fun b=>by omega
   have z3:=Zo (m1:=fun _=>0) g (G2'.re fun b=>by simp) (S2'.drop (fun b=>by simp) G2'.le) g3 st3
   have S3:Stp H Hs M H2 Hs3 (fun b=>B3 b+M3 b):=z3.2.1.drop (fun b=>by simp) z3.1.le
   have st4':Stp H2 Hs3 (fun b=>B3 b+M3 b) H2 Hs4 (fun b=>B4 b+M4 b):=⟨fun b o h _=>h,fun b h=>by
    rcases st4.own b h with z|z
    . have z:0+M3 b=1:=z
      have:B3 b+M3 b<=1:=g3.le b
      left;show B3 b+M3 b=1;omega
    . exact .inr z,st4.grow,fun b h h'=>by
    rcases st4.shr b h h' with z|z
    . have z:0+M3 b=1:=z
      have:B3 b+M3 b<=1:=g3.le b
      left;show B3 b+M3 b=1;omega
    . exact .inr z,fun b h=>h⟩
   have z4:=Zo (m1:=fun _=>0) g (g3.re fun b=>by simp) (S3.drop (fun b=>by simp) g3.le) g4 st4'
   exact ⟨lo,hi,rfl,⟨hok.1.1,hok.1.2,hok.2.1,hok.2.2⟩,q _ _ H2 Hs4 B4 M4 g4 (z4.2.1.drop (fun b=>by simp) z4.1.le) s4 trivial (ZeW lo _ B4).w ⟨trivial,Zhz lo hi⟩⟩
 . cases ei
theorem ZaV(hl:PE X l (tP X.K ca)):PI X tg l (tI X.K .val (ca.bnd fun p=>(M.ret ([]:List Op)).bnd fun ps=>M.ret (p::ps))):=by
 intro pins st0 σ H R I hh0
 obtain ⟨δ,Hs,M,h,items,δ',g,s,e,ei,q⟩:=hh0
 obtain ⟨p,δ1,w,e1,e2,rfl⟩:=Zi0 e
 obtain ⟨w1,w2⟩:=w
 have core:∀(x:V)(H2 Hs2:Hp)(m1 M2:Bud),Good H2 Hs2 (fun b=>m1 b+M2 b)->Stp H Hs M H2 Hs2 (fun b=>m1 b+M2 b)->RepP X.K H2 Hs2 σ x p m1->RepS X.K H2 Hs2 σ δ1 M2->
  ∃ Hs3 B M3,Good H2 Hs3 (fun b=>B b+M3 b)/\Stp H Hs M H2 Hs3 (fun b=>B b+M3 b)/\RepS X.K H2 Hs3 σ δ' M3/\Held X.K H2 Hs3 σ w2.toList B/\HW X.K H2 Hs3 B x w1:=fun x H2 Hs2 m1 M2 g2 st2 r1 s2=>by
  obtain ⟨Hs3,B,M3,g3,st3,s3,hh,hw⟩:=ZbG g2 s2 r1 e2
  have z:=Zo (m1:=fun _=>0) g (g2.re fun b=>by simp) (st2.drop (fun b=>by simp) g2.le) g3 st3
  exact ⟨Hs3,B,M3,g3,z.2.1.drop (fun b=>by simp) z.1.le,s3,hh,hw⟩
 cases w1 with
 | sc u=>
  cases ei
 | nd k ds=>
  cases k with
  | lst=>
   cases ei
   refine Zhj hl pins st0 σ H R I ⟨δ,Hs,M,p,δ1,g,s,e1,fun x H2 Hs2 m1 M2 g2 st2 r1 s2=>?_⟩
   obtain ⟨Hs3,B,M3,g3,st3,s3,hh,a,vs,hx,hr,hn⟩:=core x H2 Hs2 m1 M2 g2 st2 r1 s2
   have hp:SqL X.K Hs3 a vs\/(H2 a=some (.lst vs)/\B a≥1):=hn.elim (fun n=>.inl (.inl (.inl n))) fun n=>.inr n
   refine ⟨a,hx,⟨vs,?_⟩,q _ _ H2 Hs3 B M3 g3 st3 s3 hh ZfM.w ⟨hp,hr⟩⟩
   rcases hp with hp|hp
   . exact g3.sub.seq hp
   . exact .inl (.inl hp.1)
  | frl=>
   cases ei
   refine Zhj hl pins st0 σ H R I ⟨δ,Hs,M,p,δ1,g,s,e1,fun x H2 Hs2 m1 M2 g2 st2 r1 s2=>?_⟩
   obtain ⟨Hs3,B,M3,g3,st3,s3,hh,a,vs,hx,hr,hn⟩:=core x H2 Hs2 m1 M2 g2 st2 r1 s2
   have hp:SqL X.K Hs3 a vs\/(H2 a=some (.lst vs)/\B a≥1):=hn.elim (fun n=>.inl n) fun n=>n.1.elim
   refine ⟨a,hx,⟨vs,?_⟩,q _ _ H2 Hs3 B M3 g3 st3 s3 hh ZfM.w ⟨hp,hr⟩⟩
   rcases hp with hp|hp
   . exact g3.sub.seq hp
   . exact .inl (.inl hp.1)
  | tup=>
   cases ei
   refine ZiP hl pins st0 σ H R I ⟨δ,Hs,M,p,δ1,g,s,e1,fun x H2 Hs2 m1 M2 g2 st2 r1 s2=>?_⟩
   obtain ⟨Hs3,B,M3,g3,st3,s3,hh,a,vs,hx,hr,hn⟩:=core x H2 Hs2 m1 M2 g2 st2 r1 s2
   have hp:SqT X.K Hs3 a vs\/(H2 a=some (.tup vs)/\B a≥1):=hn.elim (fun n=>.inl (.inl (.inl n))) fun n=>.inr n
   refine ⟨a,hx,⟨vs,?_⟩,q _ _ H2 Hs3 B M3 g3 st3 s3 hh Zgv.w ⟨hp,hr⟩⟩
   rcases hp with hp|hp
   . exact Same.tupq' g3.sub hp
   . exact .inl (.inl hp.1)
  | ftp=>
   cases ei
   refine ZiP hl pins st0 σ H R I ⟨δ,Hs,M,p,δ1,g,s,e1,fun x H2 Hs2 m1 M2 g2 st2 r1 s2=>?_⟩
   obtain ⟨Hs3,B,M3,g3,st3,s3,hh,a,vs,hx,hr,hn⟩:=core x H2 Hs2 m1 M2 g2 st2 r1 s2
   have hp:SqT X.K Hs3 a vs\/(H2 a=some (.tup vs)/\B a≥1):=hn.elim (fun n=>.inl n) fun n=>n.1.elim
   refine ⟨a,hx,⟨vs,?_⟩,q _ _ H2 Hs3 B M3 g3 st3 s3 hh Zgv.w ⟨hp,hr⟩⟩
   rcases hp with hp|hp
   . exact Same.tupq' g3.sub hp
   . exact .inl (.inl hp.1)
  | dic ks=>cases ei
  | ins C fs=>cases ei
  | exc ns fr fs=>cases ei
end
noncomputable def gT(K:Fg):Tg->TG
 | .name i=>ZcB i
 | .tup is=>gSeq K is.length (gNs is)
theorem Zfv{K:Fg}{tg:Tg}{d:D}{v:V}{M:Bud}{u:Unit}{Q:St->Hp->Prop}(hs:Same Hs H)(e:asgT lk tg d δ=.ok (u,δ'))(r:Rep K H Hs v d (fun _=>0))(s:RepS K H Hs σ δ M)
 (q:∀ σ',Keeps lk σ σ'->RepS K H Hs σ' δ' M->Q σ' H):gT K tg v σ H Q:=by
 cases tg with
 | name i=>
  obtain ⟨h1,h2,rfl⟩:=Zdg e
  exact q _ (ZaT h2) ((Zbq s h1 r).mono fun b=>by simp)
 | tup is=>
  cases d with
  | sc v=>cases e
  | hole=>cases e
  | node k o ds=>
   cases k with
   | tup=>
    have e:Zbl lk is ds δ=.ok (u,δ'):=e
    cases r with
    | own n r l=>
     rename_i a _ _
     have:=l a
     simp [one] at this
    | shd n r=>
     obtain ⟨hl,hq⟩:=Zef (Q:=Q) e r s fun σ' k z=>q σ' k (z.mono fun b=>by simp)
     exact ⟨_,_,rfl,.inl (.inl (.inl (hs _ _ n))),hl,hq⟩
   | _=>cases e
def ZmM(h:∀ j,a≠.v j):Zl a c=c.bnd fun d=>M.ret (.tmp d):=by
 cases a<;>first|rfl|exact absurd rfl (h _)
theorem Zet:∀{ps:List Op}{δ δ':List D}{h:List W×List (Nat×D)},Zu ps δ=.ok (h,δ')->∀ q∈h.2,.late q.1∈ps
 | [],δ,δ',h,e,q,hq=>by
  have:=Ze (show T.M.ret (([]:List W),([]:List (Nat×D))) δ=.ok (h,δ') from e)
  cases this
  simp at hq
 | p::ps,δ,δ',h,e,q,hq=>by
  obtain ⟨w,δ1,e1,e2⟩:=Zb e
  obtain ⟨ws,δ2,e3,e4⟩:=Zb e2
  have:=Ze e4
  cases this
  rcases List.mem_append.mp hq with h|h
  . have:p=.late q.1:=by
     cases p with
     | tmp d=>cases d<;>cases e1<;>simp at h
     | late i=>
      unfold holdV at e1
      dsimp only at e1
      split at e1<;>cases e1<;>simp at h
      subst h
      rfl
    rw [this]
    exact mem_cons_self
  . exact mem_cons_of_mem _ (Zet e3 q h)
def HWs(cs:M (List Op))(lk:Nat->Bool):Prop:=∀ δ h δ',(cs.bnd Zu) δ=.ok (h,δ')->∀ q∈h.2,lk q.1=true
def LkLe(lk lk':Nat->Bool):Prop:=∀ i,lk i=true->lk' i=true
def Zb0(lk f:Nat->Bool):LkLe lk (fun j=>lk j || f j):=fun i h=>by
 show (lk i || f i)=true
 rw [h]
 rfl
section
def Zbg(hp:PassesOwn (model X.prog X.w) X.A X.env X.xe)(hc:X.calm=true)(hl:LkLe lk lk')(hw:HWs cs lk')
 (hi:PI X tg iter (tI X.K ik cs)) (hg:PG X tg (gT X.K tgt)) (hb:PSs X body (tS X.K lk' cb)) (hs:∀ x,foldedSetIterable iter X.env x=pure x:=by intro _;rfl):
 PS X (.For tg iter body [] pos) (tS X.K lk (cs.bnd fun ps=>(Zu ps).bnd fun h=>(lift (itW ik h.1)).bnd fun items=>(forL (asgT lk' tgt) cb items).bnd fun f=>(ZN h.2).bnd fun _=>M.ret f)):=
 PS.imp (ZnN hp hc hi hg hb hs) fun E σ H h=>by
 obtain ⟨δ,Hs,M,f,δ',g,s,ea,q⟩:=h
 obtain ⟨ps,δ1,e1,eb⟩:=Zb ea
 obtain ⟨hh,δ2,e2,ec⟩:=Zb eb
 obtain ⟨items,δ3,e3,ed⟩:=Zb ec
 obtain ⟨e3',rfl⟩:=ZO e3
 obtain ⟨f1,δ4,e4,ee⟩:=Zb ed
 obtain ⟨u,δ5,e5,e6⟩:=Zb ee
 have:=Ze e6
 cases this
 have e12:(cs.bnd Zu) δ=.ok (hh,δ3):=by
  show T.M.bnd cs Zu δ=_
  unfold T.M.bnd
  rw [e1]
  exact e2
 have locked:=hw _ _ _ e12
 refine ⟨δ,Hs,M,hh,items,δ3,g,s,e12,e3',fun J Pp H1 Hs1 B M1 g1 st1 s1 held wk pp=>?_⟩
 have kl:∀{σ1 σ2:St},Keeps lk' σ1 σ2->Keeps lk σ1 σ2:=fun k i h=>k i (hl i h)
 refine ⟨fun i m σ2 H2=>m=items.length - i/\i<=items.length/\Keeps lk' σ σ2/\∃(δ2:List D)(Hs2:Hp)(M2:Bud),Good H2 Hs2 (fun b=>B b+M2 b)/\Stp H Hs M H2 Hs2 (fun b=>B b+M2 b)/\RepS X.K H2 Hs2 σ2 δ2 M2/\Held X.K H2 Hs2 σ2 hh.2 B/\Pp H2 Hs2/\forL (asgT lk' tgt) cb (items.drop i) δ2=.ok (f,δ4),
  ⟨items.length,by simp,zero_le _,Keeps.refl _ _,δ3,Hs1,M1,g1,st1,s1,held,pp,by rw [drop_zero];exact e4⟩,?_⟩
 rintro i m σ2 H2 ⟨rfl,hle,k2,δ2,Hs2,M2,g2,st2,s2,held2,pp2,e7⟩
 have fin_nx:∀{σ3:St}{H3 Hs3:Hp}{M3:Bud},f=.nx->Keeps lk' σ σ3->Good H3 Hs3 (fun b=>B b+M3 b)->Stp H Hs M H3 Hs3 (fun b=>B b+M3 b)->RepS X.K H3 Hs3 σ3 δ4 M3->Held X.K H3 Hs3 σ3 hh.2 B->E.nx σ3 H3:=fun{σ3 H3 Hs3 M3} ef k3 g3 st3 s3 held3=>by
  subst ef
  exact q σ3 H3 Hs3 _ (kl k3) g3 st3 (ZaU e5 held3 s3)
 by_cases hlt:i < items.length
 . right
   have hd:items[i]?=some (items[i]'(by omega)):=List.getElem?_eq_getElem (by omega)
   have hdrop:items.drop i=items[i]'(by omega)::items.drop (i+1):=drop_eq_getElem_cons (by omega)
   rw [hdrop] at e7
   obtain ⟨u1,δ5',e8,e9⟩:=Zb e7
   obtain ⟨fl,δ6,e10,e11⟩:=Zb e9
   refine ⟨wk.go g2.sub pp2 hlt,fun σ3 H3=>Keeps lk' σ σ3/\∃(δ2:List D)(Hs2:Hp)(M2:Bud),Good H3 Hs2 (fun b=>B b+M2 b)/\Stp H Hs M H3 Hs2 (fun b=>B b+M2 b)/\RepS X.K H3 Hs2 σ3 δ2 M2/\Held X.K H3 Hs2 σ3 hh.2 B/\Pp H3 Hs2/\forL (asgT lk' tgt) cb (items.drop (i+1)) δ2=.ok (f,δ4),
    fun σ3 H3 z90=>by obtain ⟨k3,z⟩:=z90;exact ⟨items.length - (i+1),by omega,rfl,hlt,k3,z⟩,fun x H' y=>?_⟩
   obtain ⟨Hs3,gr,rv⟩:=wk.yld g2.sub pp2 hd y
   obtain ⟨sm,fr,_⟩:=gr.same g2.sub
   have pp2:=wk.stay pp2 sm fun b _ n=>fr b n
   have s2:=RepS.frame sm (fun b _ n=>fr b n) s2
   have held2:=held2.frame sm fun b _ n=>fr b n
   have st2:=gr.stp g2 st2
   have g2:=gr.good g2
   clear gr sm fr y
   generalize Hs3=Hs2 at *
   refine Zfv (Hs:=Hs2) g2.sub e8 rv s2 fun σ3 k3 s3=>?_
   refine ⟨δ5',Hs2,M2,fl,δ6,g2.re,s3,e10,?_⟩
   have held3:Held X.K H' Hs2 σ3 hh.2 B:=held2.keeps k3 locked
   have nxt:∀{σ4:St}{H4 Hs4:Hp}{M4:Bud},Keeps lk' σ3 σ4->Good H4 Hs4 M4->Stp H' Hs2 M2 H4 Hs4 M4->
    Keeps lk' σ σ4/\Good H4 Hs4 (fun b=>B b+M4 b)/\Stp H Hs M H4 Hs4 (fun b=>B b+M4 b)/\Held X.K H4 Hs4 σ4 hh.2 B/\Pp H4 Hs4:=fun{σ4 H4 Hs4 M4} k4 g4 st4=>by
    obtain ⟨G,S,kk⟩:=Zo g g2 st2 g4 st4
    exact ⟨k2.trans (k3.trans k4),G,S,(held3.keeps k4 locked).frame st4.grow kk,wk.stay pp2 st4.grow kk⟩
   cases fl with
   | nx=>
    refine fun σ4 H4 Hs4 M4 k4 g4 st4 s4=>?_
    obtain ⟨a1,a2,a3,a4,a6⟩:=nxt k4 g4 st4
    exact ⟨a1,δ6,Hs4,M4,a2,a3,s4,a4,a6,e11⟩
   | ct=>
    refine fun σ4 H4 Hs4 M4 k4 g4 st4 s4=>?_
    obtain ⟨a1,a2,a3,a4,a6⟩:=nxt k4 g4 st4
    exact ⟨a1,δ6,Hs4,M4,a2,a3,s4,a4,a6,e11⟩
   | bk=>
    refine fun σ4 H4 Hs4 M4 k4 g4 st4 s4=>?_
    obtain ⟨a1,a2,a3,a4,a6⟩:=nxt k4 g4 st4
    have:=Ze e11
    cases this
    exact fin_nx rfl a1 a2 a3 s4 a4
   | rt d=>
    refine fun v σ4 H4 Hs4 m4 M4 k4 g4 st4 rd s4=>?_
    obtain ⟨a1,a2,a3,a4,a6⟩:=nxt k4 g4 st4
    have:=Ze e11
    cases this
    exact q v σ4 H4 Hs4 m4 (fun b=>B b+M4 b) (kl a1) (a2.re fun b=>by (try dsimp only);omega) (a3.drop (fun b=>by (try dsimp only);omega) a2.le) rd (ZaU e5 a4 s4)
 . left
   have e0:items.drop i=[]:=drop_of_length_le (by omega)
   rw [e0] at e7
   have:=Ze e7
   cases this
   exact ⟨wk.stop g2.sub pp2 (by omega),fin_nx rfl k2 g2 st2 s2 held2⟩
end
theorem RepS.toL:∀{vs:List V}{ds:List D}{m:Bud},RepS K H Hs (vs.map some) ds m->RepL K H Hs vs ds m
 | [],_,_,h=>by cases h;exact .nil _
 | v::vs,_,_,h=>by
  cases h with
  | cons x y l=>
   refine .cons ?_ (RepS.toL y) l
   rcases x with rfl|⟨w,e,r⟩
   . exact .hole _ _
   . cases e
     exact r
section
def ZeX(hn:vs.length=n)(k:Keeps (fun i=>decide (i < n)) (L2.start N vs) σ'):σ'.take n=vs.map some:=by
 apply List.ext_getElem?
 intro i
 by_cases hi:i < n
 . rw [List.getElem?_take_of_lt hi,k i (by simpa using hi)]
   unfold L2.start
   rw [List.getElem?_append_left (by rw [length_map];omega)]
 . rw [List.getElem?_eq_none (by rw [length_take];omega),List.getElem?_eq_none (by rw [length_map];omega)]
def ZfN(r:RepL K H Hs vs ds m):RepS K H Hs (L2.start N vs) (ds++replicate (N.length - ds.length) .hole) m:=by
 unfold L2.start
 rw [r.len]
 have z:=Sep.append (RepL.slots r) (holes (K:=K) (H:=H) (Hs:=Hs) (fun _=>none) (N.length - ds.length) (fun _=>0) (replicate (N.length - ds.length) none) (by simp))
 exact z.mono fun b=>by simp
def Zo3(F:FunV dV K x qual st f fd)(Sc:FnScope N ps (Zp st))
 (hb:∀(cdv:Value)(A:Around)(outer:List Env)(s:Shared)(H:Hp)(E:XK),Room k (A.deeper (PyProof.Rows.envOfC qual (Zp st) s.heap.objs.size f cdv))->
  PSs (cxOf CX0 P w K mg base N qual (Zp st) f cdv A outer s H E).nox (Zae st) (tS K (fun i=>decide (i < ps.length)) (exs { C with lock:=fun i=>decide (i < ps.length) } body))):
 FnOk P w K mg base CX0 (k+1) f fd ps (spF K (Zi C ps.length N.length body)):=by
 refine F.ok Sc (fun vs H Q E h=>?_) (fun cdv A outer s H vs Q E hr h=>⟨_,hb cdv A outer s H E hr,?_⟩)
 . obtain ⟨ds,Hs,m,d,ds',g,r,e,q⟩:=h
   unfold Zi at e
   split at e
   . rename_i hl
     rw [r.len]
     exact hl
   . cases e
 . obtain ⟨ds,Hs,m,d,ds',g,r,e,q⟩:=h
   unfold Zi at e
   split at e
   . rename_i hl
     have hv:vs.length=ps.length:=by rw [r.len];exact hl
     have hr0:=ZfN (N:=N) r
     rw [hl] at hr0
     cases he:exs { C with lock:=fun i=>decide (i < ps.length) } body (ds++replicate (N.length - ps.length) .hole) with
     | ok z=>
      obtain ⟨fl,δ'⟩:=z
      rw [he] at e
      refine ⟨_,Hs,m,fl,δ',g,hr0,he,?_⟩
      have back:∀{σ':St}{H' Hs':Hp}{M':Bud},Keeps (fun i=>decide (i < ps.length)) (L2.start N vs) σ'->RepS K H' Hs' σ' δ' M'->RepL K H' Hs' vs (δ'.take ps.length) M':=fun k' s'=>by
       have z:=s'.take ps.length
       rw [ZeX hv k'] at z
       exact RepS.toL z
      cases fl with
      | nx=>
       cases e
       exact fun σ' H' Hs' M' k' g' st' s'=>q .non H' Hs' (fun _=>0) M' (Za4 g') (st'.drop (fun b=>by simp) g'.le) (.sc _ _) (back k' s')
      | rt dd=>
       cases e
       exact fun v σ' H' Hs' m1 M' k' g' st' rv s'=>q v H' Hs' m1 M' g' st' rv (back k' s')
      | bk=>cases e
      | ct=>cases e
     | exc x y=>rw [he] at e;cases e
     | stuck=>rw [he] at e;cases e
   . cases e
def Zdh(F:FunV dV K x qual st f fd)(Sc:FnScope N ps (Zp st))(hn:ps.length=n)(hN:N.length=nN)
 (hb:∀(cdv:Value)(A:Around)(outer:List Env)(s:Shared)(H:Hp)(E:XK),Room k (A.deeper (PyProof.Rows.envOfC qual (Zp st) s.heap.objs.size f cdv))->
  PSs (cxOf CX0 P w K mg base N qual (Zp st) f cdv A outer s H E).nox (Zae st) (tS K (fun i=>decide (i < n)) (exs { C with lock:=fun i=>decide (i < n) } body))):
 FnOk P w K mg base CX0 (k+1) f fd ps (spF K (Zi C n nN body)):=by
 subst hn hN
 exact Zo3 F Sc hb
end
theorem ZeY:∀{js:List Nat}{δ δ':List D}{caps:List D}{M:Bud},Zdb js δ=.ok (caps,δ')->RepS K H Hs σ δ M->∃ mc M',RepS K H Hs (Zbz js σ) caps mc/\RepS K H Hs σ δ' M'/\(∀ b,mc b+M' b<=M b)/\∀ j∈js,j < σ.length
 | [],δ,δ',caps,M,e,s=>by
  have:=Ze e
  cases this
  exact ⟨fun _=>0,M,.nil _,s,fun b=>by simp,fun j hj=>by simp at hj⟩
 | j::js,δ,δ',caps,M,e,s=>by
  unfold Zdb at e
  split at e
  . rename_i d hd
    obtain ⟨ds,δ1,e1,e2⟩:=Zb e
    have:=Ze e2
    cases this
    obtain ⟨o,m1,m2,q1,q2,l,f⟩:=s.focus hd
    have z:=f (RepO K H Hs) o .hole (fun _=>0) (fun a d m' _ q=>q) (.inl rfl)
    rw [Zaf q1] at z
    obtain ⟨mc,M',h1,h2,h3,h4⟩:=ZeY e1 z
    refine ⟨fun b=>m1 b+mc b,M',?_,h2,fun b=>by have:=l b;have:=h3 b;dsimp only at *;omega,fun i hi=>?_⟩
    . rw [Zes]
      have ho:(σ[j]?).join=o:=by rw [q1];rfl
      rw [ho]
      exact .cons q2 h1 fun b=>le_refl _
    . rcases List.mem_cons.mp hi with rfl|hi
      . exact (List.getElem?_eq_some_iff.mp q1).1
      . exact h4 i hi
  . cases e
def Zbh(caps:List D):Zbr [] caps=M.ret ():=by cases caps<;>rfl
def Zgw(j:Nat)(js:List Nat)(d:D)(ds δ:List D):Zbr (j::js) (d::ds) δ=Zbr js ds (δ.set j d):=rfl
theorem Zi1(js:List Nat):∀(caps δ δ':List D)(mc M:Bud)(u:Unit),(∀ j∈js,j < σ.length)->Zbr js caps δ=.ok (u,δ')->RepS K H Hs (Zbz js σ) caps mc->RepS K H Hs σ δ M->RepS K H Hs σ δ' (fun b=>mc b+M b):=by
 induction js with
 | nil=>
  intro caps δ δ' mc M u hj e c s
  rw [Zbh] at e
  have:=Ze e
  cases this
  exact s.mono fun b=>by omega
 | cons j js ih=>
  intro caps δ δ' mc M u hj e c s
  rw [Zes] at c
  cases c with
  | @cons _ d _ ds m1 m2 _ x y l=>
   rw [Zgw] at e
   have hlt:=hj j mem_cons_self
   have hlt2:j < δ.length:=by rw [<- s.length];exact hlt
   obtain ⟨o,n1,n2,q1,q2,l2,f⟩:=s.focus (List.getElem?_eq_getElem hlt2)
   have ho:(σ[j]?).join=o:=by rw [q1];rfl
   rw [ho] at x
   have z:=f (RepO K H Hs) o d m1 (fun a d m' _ q=>q) x
   rw [Zaf q1] at z
   have fin:=ih ds (δ.set j d) δ' m2 _ u (fun i hi=>hj i (mem_cons_of_mem _ hi)) e y z
   exact fin.mono fun b=>by have:=l b;have:=l2 b;(try dsimp only);omega
def Zk9{N:Bud}{A:Addr}{o:HO}(hA0:H0 A=none)(hA:Hs A=none)(g:Good H Hs (fun b=>one A b+N b))(st:Stp H0 Hs0 M0 H Hs (fun b=>one A b+N b)):Good (upd H A o) Hs (fun b=>one A b+N b)/\Stp H0 Hs0 M0 (upd H A o) Hs (fun b=>one A b+N b)/\∀ b,N b≥1->upd H A o b=H b:=by
 have hn:N A=0:=by have:one A A+N A<=1:=g.le A;simp [one] at this;omega
 have ne:∀ b,b≠A->upd H A o b=H b:=fun b hb=>Zn hb
 refine ⟨⟨fun b u e=>?_,g.le,g.ne,fun b h=>?_⟩,⟨fun b u e z=>?_,st.own,st.grow,st.shr,fun b h=>?_⟩,fun b hb=>ne b fun q=>by subst q;omega⟩
 . have hb:b≠A:=fun q=>by subst q;rw [hA] at e;cases e
   rw [ne b hb]
   exact g.sub b u e
 . by_cases hb:b=A
   . subst hb;rw [Zj];simp
   . rw [ne b hb];exact g.has b h
 . have hb:b≠A:=fun q=>by subst q;rw [hA0] at e;cases e
   rw [ne b hb]
   exact st.keep b u e z
 . by_cases hb:b=A
   . subst hb;rw [Zj];simp
   . rw [ne b hb];exact st.stay b h
theorem Zh0
 (h:tM K (cs.bnd fun ps=>(Zu ps).bnd fun h=>(lift (itW ik h.1)).bnd fun items=>(ZR k js (ZH (asgT (fun i=>decide (k<=i)) tgt) cc celt items [])).bnd fun d=>(ZN h.2).bnd fun _=>M.ret d) σ H Q):
 Zgb k js (tI K ik cs) (gT K tgt) (tT K cc) (tM K celt) σ H Q:=by
 obtain ⟨δ,Hs,M,d,δ',g,s,ea,q⟩:=h
 obtain ⟨ps,δ1,e1,eb⟩:=Zb ea
 obtain ⟨hh,δ2,e2,ec⟩:=Zb eb
 obtain ⟨items,δ3,e3,ed⟩:=Zb ec
 obtain ⟨e3',rfl⟩:=ZO e3
 obtain ⟨dd,δ4,e4,ee⟩:=Zb ed
 obtain ⟨u,δ5,e5,e6⟩:=Zb ee
 have:=Ze e6
 cases this
 have e12:(cs.bnd Zu) δ=.ok (hh,δ3):=by
  show T.M.bnd cs Zu δ=_
  unfold T.M.bnd
  rw [e1]
  exact e2
 refine ⟨δ,Hs,M,hh,items,δ3,g,s,e12,e3',fun J Pp H1 Hs1 B M1 g1 st1 s1 held wk pp A hA=>?_⟩
 unfold ZR at e4
 obtain ⟨caps,δ6,e7,e8⟩:=Zb e4
 obtain ⟨mc,M2,c1,c2,c3,c4⟩:=ZeY e7 s1
 have hA0:H A=none:=by
  cases q:H A with
  | none=>rfl
  | some o=>exact absurd hA (st1.stay A (by rw [q];simp))
 cases hL:ZH (asgT (fun i=>decide (k<=i)) tgt) cc celt items [] (replicate k .hole++caps) with
 | exc x y=>rw [hL] at e8;cases e8
 | stuck=>rw [hL] at e8;cases e8
 | ok r=>
 obtain ⟨accF,δF⟩:=r
 rw [hL] at e8
 obtain ⟨u2,δ7,e9,e10⟩:=Zb e8
 obtain ⟨e11,rfl⟩:=ZO e10
 have hs1A:Hs1 A=none:=by
  cases q:Hs1 A with
  | none=>rfl
  | some o=>rw [g1.sub A o q] at hA;cases hA
 have zA:B A=0/\M1 A=0:=by
  have l:B A+M1 A<=1:=g1.le A
  have:B A+M1 A≠1:=fun e=>g1.has A e hA
  omega
 have z2:mc A=0/\M2 A=0:=by have:=c3 A;omega
 have fr:∀ b,b≠A->upd H1 A (.lst []) b=H1 b:=fun b hb=>Zn hb
 have g2:Good (upd H1 A (.lst [])) Hs1 (fun b=>(one A b+(B b+M2 b))+mc b):=by
  refine ⟨fun b o e=>?_,fun b=>?_,fun b hb=>?_,fun b hb=>?_⟩
  . have hb:b≠A:=fun q=>by subst q;rw [hs1A] at e;cases e
    rw [fr b hb];exact g1.sub b o e
  . have l:B b+M1 b<=1:=g1.le b
    have:=c3 b
    unfold one
    (try dsimp only)
    split
    . rename_i e;subst e;omega
    . omega
  . by_cases e:b=A
    . subst e;exact hs1A
    . have hb:(one A b+(B b+M2 b))+mc b=1:=hb
      simp only [one,if_neg e] at hb
      have l:B b+M1 b<=1:=g1.le b
      have:=c3 b
      exact g1.ne b (by show B b+M1 b=1;omega)
  . by_cases e:b=A
    . subst e;rw [Zj];simp
    . rw [fr b e]
      have hb:(one A b+(B b+M2 b))+mc b=1:=hb
      simp only [one,if_neg e] at hb
      have l:B b+M1 b<=1:=g1.le b
      have:=c3 b
      exact g1.has b (by show B b+M1 b=1;omega)
 have st2:Stp H Hs M (upd H1 A (.lst [])) Hs1 (fun b=>(one A b+(B b+M2 b))+mc b):=by
  refine ⟨fun b o e z=>?_,fun b hb=>?_,st1.grow,st1.shr,fun b hb=>?_⟩
  . have hb:b≠A:=fun q=>by subst q;rw [hA0] at e;cases e
    rw [fr b hb];exact st1.keep b o e z
  . by_cases e:b=A
    . subst e;exact .inr hA0
    . have hb:(one A b+(B b+M2 b))+mc b=1:=hb
      simp only [one,if_neg e] at hb
      have l:B b+M1 b<=1:=g1.le b
      have:=c3 b
      exact st1.own b (by show B b+M1 b=1;omega)
  . by_cases e:b=A
    . subst e;rw [Zj];simp
    . rw [fr b e];exact st1.stay b hb
 have keepA:∀(N:Bud),N A=0->∀ b,N b≥1->H1 b≠none->upd H1 A (.lst []) b=H1 b:=fun N hN b hb _=>fr b fun q=>by subst q;omega
 refine ⟨fun i m σ2 ys H2=>m=items.length - i/\i<=items.length/\Keeps (fun i=>decide (k<=i)) (Zbe k js σ) σ2/\∃(δ2:List D)(Hs2:Hp)(N ma:Bud)(acc:List D),Good H2 Hs2 (fun b=>(one A b+(B b+M2 b+ma b))+N b)/\Stp H Hs M H2 Hs2 (fun b=>(one A b+(B b+M2 b+ma b))+N b)/\RepS K H2 Hs2 σ2 δ2 N/\
  RepL K H2 Hs2 ys acc ma/\RepS K H2 Hs2 σ δ6 M2/\Held K H2 Hs2 σ hh.2 B/\Pp H2 Hs2/\ZH (asgT (fun i=>decide (k<=i)) tgt) cc celt (items.drop i) acc δ2=.ok (accF,δF),
  ⟨items.length,by simp,zero_le _,Keeps.refl _ _,replicate k .hole++caps,Hs1,mc,fun _=>0,[],g2.re fun b=>by (try dsimp only);omega,st2.drop (fun b=>by (try dsimp only);omega) g2.le,?_,.nil _,c2.frame (Same.refl _) (keepA M2 z2.2),held.frame (Same.refl _) (keepA B zA.1),wk.stay pp (Same.refl _) (keepA B zA.1),by rw [drop_zero];exact hL⟩,?_⟩
 . have z:=Sep.append (holes (K:=K) (H:=H1) (Hs:=Hs1) (fun _=>none) k (fun _=>0) (replicate k none) (by simp)) c1
   exact RepS.frame (Same.refl _) (keepA mc z2.1) (z.mono fun b=>by simp)
 rintro i m σ2 ys H2 ⟨rfl,hle,k2,δ2,Hs2,N,ma,acc,g3,st3,s3,ra,so,held2,pp2,e13⟩ hD
 have hsA:Hs2 A=none:=g3.ne A (by have:=g3.le A;(try dsimp only at this ⊢);simp only [one,if_pos] at this ⊢;omega)
 by_cases hlt:i < items.length
 . right
   have hd:items[i]?=some (items[i]'(by omega)):=List.getElem?_eq_getElem (by omega)
   have hdrop:items.drop i=items[i]'(by omega)::items.drop (i+1):=drop_eq_getElem_cons (by omega)
   rw [hdrop] at e13
   obtain ⟨u3,δ8,e14,e15⟩:=Zb e13
   obtain ⟨t,δ9,e16,e17⟩:=Zb e15
   refine ⟨wk.go g3.sub pp2 hlt,fun x H' y=>?_⟩
   obtain ⟨Hs3,gr,rv⟩:=wk.yld g3.sub pp2 hd y
   obtain ⟨sm,fr,_⟩:=gr.same g3.sub
   have pp2:=wk.stay pp2 sm fun b _ n=>fr b n
   have s3:=RepS.frame sm (fun b _ n=>fr b n) s3
   have so:=RepS.frame sm (fun b _ n=>fr b n) so
   have ra:=ra.frame sm fun b _ n=>fr b n
   have held2:=held2.frame sm fun b _ n=>fr b n
   have hD:H' A=some (.lst ys):=(fr A (by rw [hD];simp)).trans hD
   have st3:=gr.stp g3 st3
   have g3:=gr.good g3
   clear gr sm fr y hsA
   generalize Hs3=Hs2 at *
   generalize H'=H2 at *
   refine Zfv (Hs:=Hs2) g3.sub e14 rv s3 fun σ3 k3 s4=>?_
   refine ⟨δ8,Hs2,N,t,δ9,g3.re fun b=>by (try dsimp only);omega,s4,e16,fun H4 Hs4 M4 g4 st4 s5=>?_⟩
   obtain ⟨G,S,kk⟩:=Zo (m1:=fun b=>one A b+(B b+M2 b+ma b)) g g3 st3 g4 st4
   have kA:H4 A=some (.lst ys):=by rw [<- hD];exact kk A (by simp [one]) (by rw [hD];simp)
   have ra4:=ra.frame st4.grow fun b hb=>kk b (by (try dsimp only);omega)
   have so4:=RepS.frame st4.grow (fun b hb=>kk b (by (try dsimp only);omega)) so
   have held4:=held2.frame st4.grow fun b hb=>kk b (by (try dsimp only);omega)
   have pp4:=wk.stay pp2 st4.grow fun b hb=>kk b (by (try dsimp only);omega)
   have lmeas:items.length - (i+1) < items.length - i:=by omega
   cases t with
   | false=>
    dsimp only
    rw [if_neg Bool.false_ne_true]
    exact ⟨kA,_,lmeas,rfl,hlt,k2.trans k3,δ9,Hs4,M4,ma,acc,G,S,s5,ra4,so4,held4,pp4,e17⟩
   | true=>
    dsimp only
    rw [if_pos rfl]
    rw [if_pos rfl] at e17
    obtain ⟨xd,δ10,e18,e19⟩:=Zb e17
    refine ⟨δ9,Hs4,M4,xd,δ10,g4,s5,e18,fun yv H5 Hs5 m5 M5 g5 st5 r5 s6=>?_⟩
    obtain ⟨G5,S5,kk5⟩:=Zo (m1:=fun b=>one A b+(B b+M2 b+ma b)) g G S g5 st5
    have kA5:H5 A=some (.lst ys):=by rw [<- kA];exact kk5 A (by simp [one]) (by rw [kA];simp)
    have hsz:ys.length < sizeLine:=by
     have e20:accF.length<=sizeLine:=by
      unfold newL at e11
      split at e11
      . rename_i hz;exact hz
      . cases e11
     have grow:∀(its acc:List D)(δ:List D)(r:List D×List D),ZH (asgT (fun i=>decide (k<=i)) tgt) cc celt its acc δ=.ok r->acc.length<=r.1.length:=by
      intro its
      induction its with
      | nil=>intro acc δ r e;have:=Ze e;subst this;exact le_refl _
      | cons a its ih=>
       intro acc δ r e
       obtain ⟨_,_,_,f1⟩:=Zb e
       obtain ⟨tt,_,_,f2⟩:=Zb f1
       cases tt with
       | false=>exact ih _ _ _ f2
       | true=>
        rw [if_pos rfl] at f2
        obtain ⟨_,_,_,f3⟩:=Zb f2
        have:=ih _ _ _ f3
        rw [List.length_append,length_singleton] at this
        omega
     have:=grow _ _ _ _ e19
     dsimp only at this
     rw [List.length_append,length_singleton] at this
     have:=ra.len
     omega
    have hsA5:Hs5 A=none:=G5.ne A (by have:=G5.le A;(try dsimp only at this ⊢);simp only [one,if_pos] at this ⊢;omega)
    have G5':Good H5 Hs5 (fun b=>one A b+(B b+M2 b+ma b+(m5 b+M5 b))):=G5.re fun b=>by (try dsimp only);omega
    obtain ⟨G6,S6,k6⟩:=Zk9 (o:=.lst (ys++[yv])) hA0 hsA5 G5' (S5.drop (fun b=>by (try dsimp only);omega) G5.le)
    have fr6:∀(R:Bud),(∀ b,R b<=B b+M2 b+ma b+(m5 b+M5 b))->∀ b,R b≥1->H5 b≠none->upd H5 A (.lst (ys++[yv])) b=H5 b:=fun R hR b hb _=>k6 b (by have:=hR b;omega)
    refine ⟨kA5,hsz,_,lmeas,rfl,hlt,k2.trans k3,δ10,Hs5,M5,fun b=>ma b+m5 b,acc++[xd],G6.re fun b=>by (try dsimp only);omega,S6.drop (fun b=>by (try dsimp only);omega) G6.le,RepS.frame (Same.refl _) (fr6 M5 fun b=>by omega) s6,?_,?_,?_,?_,e19⟩
    . exact RepL.frame (Same.refl _) (fr6 _ fun b=>by (try dsimp only);omega) ((ra4.frame st5.grow fun b hb=>kk5 b (by (try dsimp only);omega)).app (.cons r5 (.nil (fun _=>0)) fun b=>by simp))
    . exact RepS.frame (Same.refl _) (fr6 M2 fun b=>by omega) (RepS.frame st5.grow (fun b hb=>kk5 b (by (try dsimp only);omega)) so4)
    . exact (held4.frame st5.grow fun b hb=>kk5 b (by (try dsimp only);omega)).frame (Same.refl _) (fr6 B fun b=>by omega)
    . exact wk.stay (wk.stay pp4 st5.grow fun b hb=>kk5 b (by (try dsimp only);omega)) (Same.refl _) (fr6 B fun b=>by omega)
 . left
   have e0:items.drop i=[]:=drop_of_length_le (by omega)
   rw [e0] at e13
   have:=Ze e13
   cases this
   refine ⟨wk.stop g3.sub pp2 (by omega),?_⟩
   have hdrop:σ2.drop k=Zbz js σ:=by
    have hl2:σ2.length=δF.length:=s3.length
    apply List.ext_getElem?
    intro j
    rw [List.getElem?_drop,k2 (k+j) (by simp)]
    unfold Zbe
    rw [List.getElem?_append_right (by simp)]
    simp
   have sd:=s3.drop k
   rw [hdrop] at sd
   have so':=Zi1 js _ _ _ _ _ _ c4 e9 sd so
   unfold newL at e11
   split at e11
   . cases e11
     have rD:Rep K H2 Hs2 (.ref A) (.node .lst true accF) (fun b=>one A b+ma b):=.own hD ra fun b=>le_refl _
     exact q _ H2 Hs2 (fun b=>one A b+ma b) (fun b=>B b+(N b+M2 b)) (g3.re fun b=>by (try dsimp only);omega) (st3.drop (fun b=>by (try dsimp only);omega) g3.le) rD (ZaU e5 held2 so')
   . cases e11
section
def PIf.imp(h:PIf X ifs t)(w:∀ σ H Q,t' σ H Q->t σ H Q):PIf X ifs t':=fun pins s σ H Q I q=>h pins s σ H Q I (w σ H Q q)
def Za5:PIf X [] (tT X.K (M.ret true)):=PIf.imp Zm5 fun σ H Q h=>ZeT h
theorem Zgx(h:PT X c (tT X.K ct)):PIf X [c] (tT X.K (ct.bnd fun b=>if b then M.ret true else M.ret false)):=PIf.imp (Zm6 h) fun σ H Q h=>by
 obtain ⟨δ,Hs,M,b,δ',g,s,e,q⟩:=h
 obtain ⟨t,δ1,e1,e2⟩:=Zb e
 refine ⟨δ,Hs,M,t,δ1,g,s,e1,fun H' Hs' M' g' st s'=>?_⟩
 cases t with
 | true=>have:=Ze e2;cases this;exact q H' Hs' M' g' st s'
 | false=>have:=Ze e2;cases this;exact q H' Hs' M' g' st s'
def Zag(hc:X.calm=true)(S:CompScope X k js N' scope)(hi:PI X tg iter (tI X.K ik cs))
 (hin:∀(cl:List (Str×Addr))(C:Addr)(s₀:Shared)(H₀:Hp)(ex:List Addr),PG (cxC X N' scope cl C s₀ H₀ ex) tg (gT X.K tgt)/\PIf (cxC X N' scope cl C s₀ H₀ ex) ifs (tT X.K cc)/\PE (cxC X N' scope cl C s₀ H₀ ex) elt (tM X.K celt))
 (hs:∀ x,foldedSetIterable iter X.env x=pure x:=by intro _;rfl):
 PE X (.ListComp elt [⟨tg,iter,ifs,0⟩] scope pos) (tM X.K (cs.bnd fun ps=>(Zu ps).bnd fun h=>(lift (itW ik h.1)).bnd fun items=>(ZR k js (ZH (asgT (fun i=>decide (k<=i)) tgt) cc celt items [])).bnd fun d=>(ZN h.2).bnd fun _=>M.ret d)):=
 PE.imp (Zm7 hc S hi hin hs) fun σ H Q h=>Zh0 h
def ZmN(h:Zt sc N i x false=true)(nd:N.Nodup)(hw:ZdH sc scope x=true)(hc:X.calm=true)(S:CompScope X k js N' scope)(hi:PI X tg iter (tI X.K ik cs))
 (hin:∀(cl:List (Str×Addr))(C:Addr)(s₀:Shared)(H₀:Hp)(ex:List Addr),PG (cxC X N' scope cl C s₀ H₀ ex) tg (gT X.K tgt)/\PIf (cxC X N' scope cl C s₀ H₀ ex) ifs (tT X.K cc)/\PE (cxC X N' scope cl C s₀ H₀ ex) elt (tM X.K celt))
 (hl:autoParam ((pos'.line == pos.line)=true) Q9) (e1:autoParam (X.env.scope=sc) Q9) (e2:autoParam (X.N=N) Q9) (hs:∀ x,foldedSetIterable iter X.env x=pure x:=by intro _;rfl):
 PS X (.Assign [.Name x pos'] (.ListComp elt [⟨tg,iter,ifs,0⟩] scope pos) spos) (tS X.K lk ((cs.bnd fun ps=>(Zu ps).bnd fun h=>(lift (itW ik h.1)).bnd fun items=>(ZR k js (ZH (asgT (fun i=>decide (k<=i)) tgt) cc celt items [])).bnd fun d=>(ZN h.2).bnd fun _=>M.ret d).bnd fun d=>(asgN lk i d).bnd fun _=>M.ret .nx)):=
 PS.imp (Zk3 h nd hw hc S hi hin hl e1 e2 hs) fun E σ H hh=>by
 obtain ⟨δ,Hs,M,f,δ',g,s,e,q⟩:=hh
 obtain ⟨d,δ1,e1,e2⟩:=Zb e
 obtain ⟨u,δ2,e3,e4⟩:=Zb e2
 have:=Ze e4
 cases this
 obtain ⟨h1,h2,rfl⟩:=Zdg e3
 exact Zh0 ⟨δ,Hs,M,d,δ1,g,s,e1,fun v H' Hs' m M' g' st' r s'=>q _ H' Hs' _ (ZaT h2) g' st' (Zbq s' h1 r)⟩
def ZmO(h:Zt sc N i x b=true)(nd:N.Nodup)(he:PE X e (tM X.K c))(hs:autoParam (swapsWith e (some (.Name x pos')) pos.line X.env=pure false) Q9)(e1:autoParam (X.env.scope=sc) Q9)(e2:autoParam (X.N=N) Q9)
 (hf:X.fn x=true\/b=false:=by first|exact .inl rfl|exact .inr rfl):PS X (.Assign [.Name x pos'] e pos) (tS X.K lk (c.bnd fun d=>(asgN lk i d).bnd fun _=>M.ret .nx)):=by
 obtain ⟨h1,h2,h3,h4⟩:=Zt.at h
 have l:=Zt.loc h
 subst e1 e2
 refine Zo2 nd h1 l he hs ?_
 rcases hf with q|q
 . exact .inl q
 . subst q
   exact .inr h2
def ZqZ(h:Zt sc N i x b=true)(nd:N.Nodup)(hr:PGs X es (gNs is))(e1:autoParam (X.env.scope=sc) Q9)(e2:autoParam (X.N=N) Q9)(hf:X.fn x=true\/b=false:=by first|exact .inl rfl|exact .inr rfl)
 (hs:autoParam ((assignEach (.Name x pos::es) X.env).map (·.2)=assign (.Name x pos) X.env::(assignEach es X.env).map (·.2)) Q9):PGs X (.Name x pos::es) (gNs (i::is)):=by
 obtain ⟨h1,h2,h3,h4⟩:=Zt.at h
 have l:=Zt.loc h
 subst e1 e2
 refine ok_g nd h1 l hr ?_ hs
 rcases hf with q|q
 . exact .inl q
 . subst q
   exact .inr h2
def Zra(h:Zt sc N i x b=true)(nd:N.Nodup)(e1:autoParam (X.env.scope=sc) Q9)(e2:autoParam (X.N=N) Q9)(hf:X.fn x=true\/b=false:=by first|exact .inl rfl|exact .inr rfl):PG X (.Name x pos) (gT X.K (.name i)):=Zk2 h nd e1 e2 hf
end
def Zcv(ca:M Op)(lk:Nat->Bool):Prop:=∀ δ p δ',ca δ=.ok (p,δ')->∀ i,p=.late i->lk i=true
def Zeg(h:lk i=true):Zcv (ZV i) lk:=fun δ p δ' e j hj=>by
 unfold ZV at e
 split at e<;>cases e<;>cases hj<;>exact h
def Zo4{c:M D}:Zcv (c.bnd fun d=>M.ret (.tmp d)) lk:=fun δ p δ' e j hj=>by
 obtain ⟨d,δ1,e1,e2⟩:=Zb e
 have:=Ze e2
 cases this
 cases hj
theorem Zj2(e:holdV p δ=.ok (w,δ')):∀ q∈w.2.toList,p=.late q.1:=fun q hq=>by
 cases p with
 | tmp d=>cases d<;>cases e<;>simp at hq
 | late i=>
  unfold holdV at e
  dsimp only at e
  split at e<;>cases e<;>simp at hq
  subst hq
  rfl
def hw_1(h:Zcv ca lk):HWs (ca.bnd fun p=>(M.ret ([]:List Op)).bnd fun ps=>M.ret (p::ps)) lk:=fun δ w δ' e q hq=>by
 obtain ⟨p,δ1,w1,e1,e2,rfl⟩:=Zi0 e
 exact h _ _ _ e1 _ (Zj2 e2 q hq)
def hw_2(h1:Zcv ca lk)(h2:Zcv cb lk):HWs (ca.bnd fun p=>(cb.bnd fun p=>(M.ret ([]:List Op)).bnd fun ps=>M.ret (p::ps)).bnd fun ps=>M.ret (p::ps)) lk:=fun δ w δ' e q hq=>by
 obtain ⟨ps,δ1,e1,e2⟩:=Zb e
 obtain ⟨p1,δ2,e3,e4⟩:=Zb e1
 obtain ⟨qs,δ3,e5,e6⟩:=Zb e4
 obtain ⟨p2,δ4,e7,e8⟩:=Zb e5
 obtain ⟨z,δ5,e9,e10⟩:=Zb e8
 have:=Ze e9
 cases this
 have:=Ze e10
 cases this
 have:=Ze e6
 cases this
 have:=Zet e2 q hq
 rcases List.mem_cons.mp this with z|z
 . exact h1 _ _ _ e3 _ z.symm
 . exact h2 _ _ _ e7 _ (List.mem_singleton.mp z).symm
section
def Zrb(h:PE X e (tC v))(hr:∀ H Hs m,Rep X.K H Hs v d m):PE X e (tM X.K (M.ret d)):=PE.imp h fun σ H Q z0=>by
 obtain ⟨δ,Hs,M,d',δ',g,r,e,q⟩:=z0
 have:=Ze e
 cases this
 exact q v H Hs (fun _=>0) M (Za4 g) (stp0 H Hs M) (hr H Hs _) r
theorem Zh1(h:View K H Hs x w m):isNW true w=.sc (.bl (decide (x=.non)))/\isNW false w=.sc (.bl (!decide (x=.non))):=by
 cases h with
 | sc v m=>constructor<;>simp only [isNW]<;>cases decide (x=V.non)<;>rfl
 | nd n r=>constructor<;>simp [isNW]
end
noncomputable def Zfw:Expr->Option V
 | .Constant (.int n) _ _=>some (.int n)
 | .Constant (.str z) _ _=>some (.str z)
 | .Constant (.bool b) _ _=>some (.bl b)
 | .Constant .none _ _=>some .non
 | _=>none
noncomputable def Zc2:List Expr->Option (List V)
 | []=>some []
 | e::es=>(Zfw e).bind fun v=>(Zc2 es).map (v::·)
def ZkA(h:Zfw e=some v):PE X e (tC v)/\∀ es:List Expr,starEach (e::es) X.env=(false,eval e X.env)::starEach es X.env:=by
 unfold Zfw at h
 split at h
 . cases h;exact ⟨Zbu,fun es=>rfl⟩
 . cases h;exact ⟨ZaC,fun es=>rfl⟩
 . cases h;exact ⟨ZbL,fun es=>rfl⟩
 . cases h;exact ⟨ZcY,fun es=>rfl⟩
 . cases h
theorem ZfO:∀{es:List Expr}{vs:List V},Zc2 es=some vs->PA X es (fun _ H Q=>Q vs H)
 | [],vs,h=>by
  simp only [Zc2,Option.some.injEq] at h
  subst h
  exact Zbc
 | e::es,vs,h=>by
  simp only [Zc2,bind_eq_some_iff,map_eq_some_iff] at h
  obtain ⟨v,h1,ws,h2,rfl⟩:=h
  obtain ⟨c1,c2⟩:=ZkA (X:=X) h1
  exact Zao c1 (ZfO h2) (c2 es)
theorem Zeh:∀(vs:List V),RepL K H Hs vs (vs.map D.sc) (fun _=>0)
 | []=>.nil _
 | v::vs=>.cons (m1:=fun _=>0) (m2:=fun _=>0) (.sc v _) (Zeh vs) fun b=>by simp
def Zrc(h:Zc2 es=some vs):PE X (.List es pos) (tM X.K (lift (newL (vs.map D.sc)))):=PE.imp (ZiX (ZfO h)) fun σ H Q hq=>by
 obtain ⟨δ,Hs,M,d,δ',g,s,e,q⟩:=hq
 obtain ⟨e1,rfl⟩:=ZO e
 unfold newL at e1
 split at e1
 . rename_i hl
   cases e1
   have o:Outs X.K H Hs (fun _=>0) _ Q:=Zbs (B:=fun _=>0) (M:=M) (stp0 H Hs M) (Za4 g) s q
   exact ⟨by simpa using hl,fun p hp=>o.new (fun b=>by simp) (fun b hb=>by simp at hb) hp (vs:=vs) Zj (Zeh vs)⟩
 . cases e1
def Zbi:bootBuiltins "len"=some (.builtin "len"):=by decide +kernel
def Zc3:bootBuiltins "sum"=some (.builtin "sum"):=by decide +kernel
def Zj3:bootBuiltins "all"=some (.builtin "all"):=by decide +kernel
def Zj4:bootBuiltins "any"=some (.builtin "any"):=by decide +kernel
def Zo5:bootBuiltins "min"=some (.builtin "min"):=by decide +kernel
def Zei:bootBuiltins "list"=some (.type "list"):=by decide +kernel
noncomputable def C0:Ctx:={ lock:=fun _=>false,fok:=fun _ _=>false,fuel:=0 }
section
variable{o e a:Expr}{es:List Expr}{cpos apos p:Pos}{ca:M Op}{cs:M (List Op)}{i:Nat}{name m x f:Str}{A:Addr}{fi:FI}{n:Nat}{ps:List Str}
theorem Zh2{K:Fg}{m0 M:Bud}{p:Op}{v:V}{u:Unit}(g:Good H Hs (fun b=>m0 b+M b))(s:RepS K H Hs σ δ M)(r:RepP K H Hs σ v p m0)(h:chkI A m p δ=.ok (u,δ')):
 δ'=δ/\∃ a dx fs,v=.ref a/\H a=some (.ins A dx fs)/\fs.lookup m=none:=by
 have fin:∀{B:Addr}{fs:List Str}{o:Bool}{ds:List D}{m1:Bud},Rep K H Hs v (.node (.ins B fs) o ds) m1->B=A->m∉fs->∃ a dx fs,v=.ref a/\H a=some (.ins A dx fs)/\fs.lookup m=none:=fun{B fs o ds m1} q hB hm=>by
  subst hB
  have nl:∀{vs:List V},fs.length=vs.length->(fs.zip vs).lookup m=none:=fun{vs} hl=>by
   rw [List.lookup_eq_none_iff]
   intro p hp
   have:=(of_mem_zip (a:=p.1) (b:=p.2) hp).1
   have hne:m≠p.1:=fun q=>hm (by rw [q];exact this)
   simpa using hne
  cases q with
  | own n q _=>obtain ⟨hl,dx,e⟩:=n;exact ⟨_,dx,_,rfl,e,nl hl⟩
  | shd n q=>obtain ⟨hl,dx,e⟩:=n;exact ⟨_,dx,_,rfl,g.sub _ _ e,nl hl⟩
 cases p with
 | late i=>
  unfold chkI at h
  dsimp only at h
  split at h
  . rename_i B fs oo ds hi
    split at h
    . rename_i hc
      cases h
      obtain ⟨v',m1,m2,e1,q,l,f⟩:=s.slot hi (by simp)
      rw [show σ[i]?=some (some v) from r] at e1
      cases e1
      exact ⟨rfl,fin q hc.1 hc.2⟩
    . cases h
  . cases h
 | tmp d=>
  cases d with
  | sc u=>cases h
  | hole=>cases h
  | node k oo ds=>
   cases k with
   | ins B fs=>
    unfold chkI at h
    dsimp only at h
    split at h
    . rename_i hc
      cases h
      exact ⟨rfl,fin r hc.1 hc.2⟩
    . cases h
   | _=>cases h
def ZmP{K:Fg}{Q:VK}{E:XK}(h:tM K (ca.bnd fun p=>(chkI A m p).bnd fun _=>cs.bnd fun ps=>Zbk fi (p::ps)) σ H Q):
 tP K ca σ H fun x H1=>∃ a dx fs,x=.ref a/\H1 a=some (.ins A dx fs)/\fs.lookup m=none/\tPs K cs σ H1 fun vs H2=>spF K fi.run (x::vs) H2 Q E:=by
 obtain ⟨δ,Hs,M,d,δ',g,s,ea,q⟩:=h
 obtain ⟨p,δ1,e1,eb⟩:=Zb ea
 obtain ⟨u,δ2,e2,ec⟩:=Zb eb
 obtain ⟨ps,δ3,e3,ed⟩:=Zb ec
 refine ⟨δ,Hs,M,p,δ1,g,s,e1,fun x H1 Hs1 m1 M1 g1 st1 r1 s1=>?_⟩
 obtain ⟨rfl,a,dx,fs,hx,ha,hl⟩:=Zh2 g1 s1 r1 e2
 refine ⟨a,dx,fs,hx,ha,hl,δ2,Hs1,M1,ps,δ3,g1.re,s1,e3,fun vs H2 Hs2 m2 M2 g2 st2 r2 s2=>?_⟩
 obtain ⟨G2,S2,k2⟩:=Zo g g1 st1 g2 st2
 have r1':=RepP.frame st2.grow k2 r1
 exact Zgu (m1:=fun b=>m1 b+m2 b) g (G2.re fun b=>by (try dsimp only);omega) (S2.drop (fun b=>by (try dsimp only);omega) G2.le) (show ZaP K H2 Hs2 σ (x::vs) (p::ps) (fun b=>m1 b+m2 b) from ⟨m1,m2,r1',r2,fun b=>le_refl _⟩) s2 ed q
def Zej{pl:Sem Bool}(G:MeAt X.prog X.w X.K X.mg X.base A m j ps (spF X.K fi.run))(hr:Room n X.A)(ho:PE X o (tP X.K ca))(ha:PA X (e::es) (tPs X.K cs))(hj:autoParam (j<=n) Q7)
 (hst:autoParam (SE X e es) Q9) (hpl:autoParam (SFx X pos es) Q9)
 (ht:autoParam (eval (.Call (.Attribute o m apos) (e::es) [] pos) X.env=(do
  let ov <- eval o X.env
  standAt apos.atName
  let (f,first) <- holding [ov] (getMethod ov m pl)
  callWith pos f first (backTo pos (starEach (e::es) X.env)) (backToKw pos (keywordEach [] X.env)))) Q9):
 PE X (.Call (.Attribute o m apos) (e::es) [] pos) (tM X.K (ca.bnd fun p=>(chkI A m p).bnd fun _=>cs.bnd fun ps=>Zbk fi (p::ps))):=PE.imp (Zqx G hr ho ha hj hst hpl ht) fun σ H Q h=>by
 refine tG.mono (ZmP (E:=E0) h) fun x H1 ⟨a,dx,fs,hx,hh,hl,z⟩=>⟨a,dx,fs,hx,hh,hl,?_⟩
 obtain ⟨δ,Hs,M,aa,δ',g,s,e,q⟩:=z
 refine ⟨δ,Hs,M,aa,δ',g,s,e,fun vs H' Hs' m M' g' st r s'=>?_⟩
 show spF X.K fi.run (x::(vs++[])) H' Q E0
 rw [append_nil]
 exact q vs H' Hs' m M' g' st r s'
theorem Zo6{K:Fg}{Q:VK}{E:XK}(h:tM K (cs.bnd fun ps=>newF A fi ps) σ H Q):
 tPs K cs σ H fun vs H1=>∀ x dx,H1 x=none->H1 dx=none->dx≠x->spF K fi.run (.ref x::vs) (upd (upd H1 dx (.own x)) x (.ins A dx [])) (fun v H2=>v=.non/\Q (.ref x) H2) E:=by
 obtain ⟨δ,Hs,M,d,δ',g,s,e,q⟩:=h
 obtain ⟨ps,δ1,e1,e⟩:=Zb e
 refine ⟨δ,Hs,M,ps,δ1,g,s,e1,fun vs H1 Hs1 m1 M1 g1 st1 r1 s1 x dx hx hdx hne=>?_⟩
 unfold newF at e
 obtain ⟨ds,δ2,e2,e⟩:=Zb e
 cases hF:fi.run (.node (.ins A []) true []::ds) with
 | exc x y=>rw [hF] at e;cases e
 | stuck=>rw [hF] at e;cases e
 | ok r=>
  obtain ⟨d',ds'⟩:=r
  rw [hF] at e
  match d',ds',e,hF with
  | .sc .non,dI::ds',e,hF=>
   dsimp only at e
   obtain ⟨u,δ3,e3,e⟩:=Zb e
   have:=Ze e
   cases this
   obtain ⟨Hs2,m2,M2,g2,st2,q2,s2⟩:=Zc0 (B:=fun _=>0) (g1.re fun b=>by simp) s1 r1 e2
   have z0:=Zo (m1:=fun _=>0) g (g1.re fun b=>by simp) (st1.drop (fun b=>by simp) g1.le) (g2.re fun b=>by simp) (M1:=fun b=>m1 b+M1 b) (M2:=fun b=>m2 b+M2 b) (by
    have:=st2
    exact ⟨fun b o h z=>this.keep b o h (by simpa using z),fun b h=>by have:=this.own b (by simpa using h);simpa using this,this.grow,fun b h h'=>by have:=this.shr b h h';simpa using this,this.stay⟩)
   have G2:Good H1 Hs2 (fun b=>M2 b+m2 b):=g2.re fun b=>by simp;omega
   have S2:Stp H Hs M H1 Hs2 (fun b=>M2 b+m2 b):=z0.2.1.drop (fun b=>by simp;omega) z0.1.le
   have hsx:Hs2 x=none:=by
    cases w:Hs2 x with
    | none=>rfl
    | some o=>rw [G2.sub x o w] at hx;cases hx
   have hsd:Hs2 dx=none:=by
    cases w:Hs2 dx with
    | none=>rfl
    | some o=>rw [G2.sub dx o w] at hdx;cases hdx
   have zz:∀ b,H1 b=none->M2 b=0/\m2 b=0:=fun b hb=>by
    have l:M2 b+m2 b<=1:=G2.le b
    have:M2 b+m2 b≠1:=fun e=>G2.has b e hb
    omega
   have nw:∀ b,b≠x->b≠dx->upd (upd H1 dx (.own x)) x (.ins A dx []) b=H1 b:=fun b h1 h2=>by rw [Zn h1,Zn h2]
   have atx:upd (upd H1 dx (.own x)) x (.ins A dx []) x=some (.ins A dx []):=Zj
   have atd:upd (upd H1 dx (.own x)) x (.ins A dx []) dx=some (.own x):=by rw [Zn hne];exact Zj
   have old:∀ b,H1 b≠none->b≠x/\b≠dx:=fun b hb=>⟨fun e=>hb (by rw [e];exact hx),fun e=>hb (by rw [e];exact hdx)⟩
   have same:Same H1 (upd (upd H1 dx (.own x)) x (.ins A dx [])):=fun b o e=>by
    obtain ⟨h1,h2⟩:=old b (by rw [e];simp)
    rw [nw b h1 h2];exact e
   have G3:Good (upd (upd H1 dx (.own x)) x (.ins A dx [])) Hs2 (fun b=>M2 b+(one x b+m2 b)):=by
    refine ⟨fun b o e=>same b o (G2.sub b o e),fun b=>?_,fun b hb=>?_,fun b hb=>?_⟩
    . have l:M2 b+m2 b<=1:=G2.le b
      unfold one
      (try dsimp only)
      split
      . rename_i e;subst e;have:=zz b hx;omega
      . omega
    . by_cases e:b=x
      . subst e;exact hsx
      . have hb:M2 b+(one x b+m2 b)=1:=hb
        simp only [one,if_neg e] at hb
        exact G2.ne b (by show M2 b+m2 b=1;omega)
    . by_cases e:b=x
      . subst e;rw [atx];simp
      . have hb:M2 b+(one x b+m2 b)=1:=hb
        simp only [one,if_neg e] at hb
        have:=G2.has b (by show M2 b+m2 b=1;omega)
        obtain ⟨h1,h2⟩:=old b this
        rw [nw b h1 h2];exact this
   have S3:Stp H Hs M (upd (upd H1 dx (.own x)) x (.ins A dx [])) Hs2 (fun b=>M2 b+(one x b+m2 b)):=by
    refine ⟨fun b o e z=>same b o (S2.keep b o e z),fun b hb=>?_,S2.grow,S2.shr,fun b hb=>?_⟩
    . by_cases e:b=x
      . subst e
        right
        cases w:H b with
        | none=>rfl
        | some o=>exact absurd hx (S2.stay b (by rw [w];simp))
      . have hb:M2 b+(one x b+m2 b)=1:=hb
        simp only [one,if_neg e] at hb
        exact S2.own b (by show M2 b+m2 b=1;omega)
    . have:=S2.stay b hb
      obtain ⟨h1,h2⟩:=old b this
      rw [nw b h1 h2];exact this
   have fr:∀ b,H1 b≠none->upd (upd H1 dx (.own x)) x (.ins A dx []) b=H1 b:=fun b hb=>nw b (old b hb).1 (old b hb).2
   have q3:RepL K (upd (upd H1 dx (.own x)) x (.ins A dx [])) Hs2 vs ds m2:=q2.frame (Same.refl _) fun b _ hb=>fr b hb
   have s3:RepS K (upd (upd H1 dx (.own x)) x (.ins A dx [])) Hs2 σ δ2 M2:=RepS.frame (Same.refl _) (fun b _ hb=>fr b hb) s2
   have rx:Rep K (upd (upd H1 dx (.own x)) x (.ins A dx [])) Hs2 (.ref x) (.node (.ins A []) true []) (one x):=.own (vs:=[]) (m':=fun _=>0) ⟨rfl,dx,atx⟩ (.nil _) fun b=>by simp
   refine ⟨_,Hs2,fun b=>one x b+m2 b,_,_,G3.re fun b=>by (try dsimp only);omega,.cons rx q3 fun b=>le_refl _,hF,fun v H4 Hs4 n1 n2 g4 st4 r4 rl4=>?_⟩
   cases r4
   refine ⟨rfl,?_⟩
   cases rl4 with
   | @cons _ _ _ _ k1 k2 _ ra rb lk=>
    obtain ⟨G,S,k⟩:=Zo g G3 S3 g4 st4
    have s4:=RepS.frame st4.grow k s3
    have fin:=ZbF s4 rb (lates r1) e3
    exact q _ H4 Hs4 k1 (fun b=>k2 b+M2 b) (G.re fun b=>by have:=lk b;(try dsimp only);omega) (S.drop (fun b=>by have:=lk b;(try dsimp only);omega) G.le) ra fin
def Zo7(G:MkAt X.prog X.w X.K X.mg X.base x A j ps (spF X.K fi.run))(hr:Room n X.A)(ha:PA X (e::es) (tPs X.K cs))(hj:autoParam (j+1<=n) Q7)(hz:autoParam (glOk X.env.scope x=true) Q8)(he:autoParam (SE X e es) Q9)(hpl:autoParam (SFx X pos es) Q9):
 PE X (.Call (.Name x p) (e::es) [] pos) (tM X.K (cs.bnd fun ps=>newF A fi ps)):=PE.imp (Zqy G hr ha hj (glk hz) (dbk hz) he hpl) fun σ H Q h=>by
 obtain ⟨δ,Hs,M,aa,δ',g,s,e,q⟩:=Zo6 (E:=E0) h
 refine ⟨δ,Hs,M,aa,δ',g,s,e,fun vs H' Hs' m M' g' st r s' x dx h1 h2 h3=>?_⟩
 show spF X.K fi.run (.ref x::(vs++[])) _ _ E0
 rw [append_nil]
 exact q vs H' Hs' m M' g' st r s' x dx h1 h2 h3
theorem Ze3(f:Str)(v:V):∀(fs:List Str)(vs:List V),fs.length=vs.length->putF f v (fs.zip vs)=(putN f fs).zip (putV f v fs vs)/\(putN f fs).length=(putV f v fs vs).length
 | [],[],_=>⟨rfl,rfl⟩
 | g::fs,x::vs,h=>by
  obtain ⟨i1,i2⟩:=Ze3 f v fs vs (by simpa using h)
  rw [zip_cons_cons]
  show (if g=f then (g,v)::fs.zip vs else (g,x)::putF f v (fs.zip vs))=_/\_
  simp only [putN,putV]
  split
  . exact ⟨rfl,by simpa using h⟩
  . rw [i1]
    exact ⟨rfl,by rw [length_cons,length_cons,i2]⟩
 | [],_::_,h=>by simp at h
 | _::_,[],h=>by simp at h
theorem RepL.putV(f:Str)(x:Rep K H Hs v d m1):∀{fs:List Str}{vs:List V}{ds:List D}{m:Bud},fs.length=vs.length->RepL K H Hs vs ds m->RepL K H Hs (T.putV f v fs vs) (T.putV f d fs ds) (fun b=>m b+m1 b)
 | [],_,_,m,h,.nil _=>.cons x (.nil (fun _=>0)) fun b=>by (try dsimp only);omega
 | [],_,_,m,h,.cons _ _ _=>by simp at h
 | _::_,_,_,m,h,.nil _=>by simp at h
 | g::fs,_,_,m,h,.cons (m1:=a1) (m2:=a2) y z l=>by
  simp only [T.putV]
  split
  . exact .cons x z fun b=>by have:=l b;(try dsimp only);omega
  . exact .cons y (RepL.putV f x (by simpa using h) z) fun b=>by have:=l b;(try dsimp only);omega
def Zh3(hf:∀ C f,ok C f=true->Cls X.K C/\Zaa X.K C f)(ho:PE X o (tVar i))(hv:PE X value (tM X.K c))(hs:autoParam (swapsWith value (some (.Attribute o f pos')) pos.line X.env=pure false) Q9):
 PS X (.Assign [.Attribute o f pos'] value pos) (tS X.K lk (c.bnd fun d=>(ZV i).bnd fun _=>(modS i (putD ok f d)).bnd fun _=>M.ret .nx)):=PS.imp (ZnW ho hv hs) fun E σ H h=>by
 obtain ⟨δ,Hs,M,fl,δ',g,s,ea,q⟩:=h
 obtain ⟨d,δ1,e1,eb⟩:=Zb ea
 obtain ⟨p0,δ2,e2,ec⟩:=Zb eb
 obtain ⟨r0,δ3,e3,ed⟩:=Zb ec
 have:=Ze ed
 cases this
 obtain ⟨kk,ds0,k',ds',hi,hff,rfl⟩:=Zcu e3
 refine ⟨δ,Hs,M,d,δ1,g,s,e1,fun v H1 Hs1 m1 M1 g1 st1 r1 s1=>?_⟩
 obtain ⟨rfl,vo,hvo⟩:=Zfu s1 e2
 obtain ⟨p1,us,m',n2,e8,nn,rl,le,fin⟩:=modL g1 s1 hi
 rw [hvo] at e8
 cases e8
 refine ⟨_,hvo,?_⟩
 unfold putD at hff
 split at hff
 . rename_i ds C fs
   split at hff
   . rename_i hc
     cases hff
     obtain ⟨hl,dx,hH⟩:=nn
     obtain ⟨z1,z2⟩:=Ze3 f v fs us hl
     obtain ⟨G,S,R,SS⟩:=fin (.ins C dx (putF f v (fs.zip us))) (.ins C (putN f fs)) (T.putV f v fs us) (T.putV f d fs ds0) (fun b=>m' b+m1 b) (fun _=>0) .non (.sc .non) (fun b=>by (try dsimp only);omega) ⟨z2,dx,by rw [Zj,z1]⟩ (rl.putV f r1 hl) (.sc _ _)
     have z:=Zo (m1:=fun _=>0) g (g1.re fun b=>by simp) (st1.drop (fun b=>by simp) g1.le) G S
     refine ⟨p1,C,dx,fs.zip us,rfl,hH,(hf C f hc.2).1,(hf C f hc.2).2,?_,?_⟩
     . rw [length_zip,hl,Nat.min_self]
       rw [<- hl]
       exact hc.1
     . exact q σ _ Hs1 _ (Keeps.refl _ _) (G.re fun b=>by (try dsimp only);omega) ((z.2.1.drop (fun b=>by simp) z.1.le).drop (fun b=>by (try dsimp only);omega) G.le) SS
   . cases hff
 . cases hff
end
open PySem.W
noncomputable def scr(ns:List Int):D:=.node .frl false (ns.map fun i=>.sc (.int i))
def Zo8{K:Fg}{a:Addr}{ns:List Int}{F:List D->Rs (D×List D)}{E:XK}(hS:SqL K H a (ns.map V.int))(e:∃ ds',F [scr ns]=.ok (.sc (.bl true),ds')):spF K F [.ref a] H (fun v _=>v=.bl true) E:=by
 obtain ⟨ds',e⟩:=e
 refine ⟨[scr ns],H,fun _=>0,_,ds',⟨Same.refl _,fun b=>zero_le _,fun b h=>by simp at h,fun b h=>by simp at h⟩,.cons (m1:=fun _=>0) (m2:=fun _=>0) (.shd (vs:=ns.map V.int) hS (ZdN ns)) (.nil _) fun b=>by simp,e,fun v H' Hs' m1 m' g st r _=>?_⟩
 cases r
 rfl
def ZkB{l:PySem.W.OpenLaw}{q:Program}{loose:List Str}{XP:(Str->Option Value)->Heap->Prop}{YP:World->Heap->Prop}{d:DefRec}{K:Params->Fg}{k:Nat}{x:Str}{R:Fg->List D->Rs (D×List D)}(hn:l.most=some 63)(hdf:d.params.defaults=[])(hr:Room k callerA)
 (hY:∀(w:World)(h:Heap),YP w h->(K w.params).In h)
 (F:∀(w:World)(mg:SO)(fa:Addr)(h:Heap),(K w.params).In h->h.Ns mainGlobals mg->mg d.name=some (.ref fa)->
  ∃ fd:FuncData,(∀(s:Shared)(u:Value),BindsTo s fd ⟨[u],[]⟩ [(x,u)])/\∀ base:Heap,(K w.params).In base->base.Ns mainGlobals mg->FnOk l.prog w (K w.params) mg base CX0 k fa fd [x] (spF (K w.params) (R (K w.params))))
 (hL:∀(K:Fg)(ns:List Int),ns.length<=63->∃ ds',R K [scr ns]=.ok (.sc (.bl true),ds')):
 PySem.W.WalkO q loose XP YP l.row.toRowW d [] (fun f vs=>PySem.call f vs):=
 L2.Zko (n:=63) (k:=k) (x:=x) (CX:=CX0) (sp:=fun K=>spF K (R K)) hn (by decide) hdf hr hY F (fun K H a ns hl _ hS=>Zo8 hS (hL K ns hl)) fun _ _ _ _ z=>z
def Zgy{α β:Type}{c:M α}{f:α->M β}{a:α}(h:c δ=.ok (a,δ')):c.bnd f δ=f a δ':=by
 unfold M.bnd
 rw [h]
def runA(h:ds.length=n):Zi C n N body ds=ZaN n (exs { C with lock:=fun i=>decide (i < n) } body (ds++replicate (N - n) .hole)):=if_pos h
def szl:sizeLine=16777216:=by rw [sizeLine_eq]
section
noncomputable def bndR(f:α->M β):Rs (α×List D)->Rs (β×List D)
 | .ok (a,δ)=>f a δ
 | .exc x δ=>.exc x δ
 | .stuck=>.stuck
def bndA(c:M α)(f:α->M β)(δ:List D):c.bnd f δ=bndR f (c δ):=by
 unfold M.bnd bndR
 cases c δ<;>rfl
def ZmQ(f:α->M β):bndR f (.ok (a,δ))=f a δ:=(rfl)
def retA:M.ret a δ=.ok (a,δ):=(rfl)
def Zrd:lift (some a) δ=.ok (a,δ):=(rfl)
def ZmR(c:Prop)[Decidable c](f g:M α)(δ:List D):(if c then f else g) δ=if c then f δ else g δ:=by split<;>rfl
def Zre(c:M D):Zl (.v i) c=ZV i:=(rfl)
noncomputable def atR(i:Nat)(δ:List D):Option D->Rs (Op×List D)
 | some (.sc _)=>.ok (.late i,δ)
 | some (.node _ _ _)=>.ok (.late i,δ)
 | _=>.stuck
def Zrf:ZV i δ=atR i δ δ[i]?:=by unfold ZV atR;cases δ[i]? with|none=>rfl|some d=>cases d<;>rfl
def Zo9:atR i δ (some (.sc v))=.ok (.late i,δ):=(rfl)
def ZoA:atR i δ (some (.node k o ds))=.ok (.late i,δ):=(rfl)
noncomputable def vwR(i:Nat)(δ:List D):Option D->Rs (W×List D)
 | some (.sc v)=>.ok (.sc v,δ)
 | some (.node k false ds)=>.ok (.nd k ds,δ)
 | some (.node k true ds)=>.ok (.nd k (shrL ds),δ.set i (.node k true (shrL ds)))
 | _=>.stuck
def Zrg:view (.late i) δ=vwR i δ δ[i]?:=by
 unfold view vwR
 (try dsimp only)
 all_goals
  cases δ[i]? with
  | none=>rfl
  | some d=>cases d with
   | node k o ds=>cases o<;>rfl
   | _=>rfl
def ZoB:vwR i δ (some (.sc v))=.ok (.sc v,δ):=(rfl)
def Zrh:vwR i δ (some (.node k false ds))=.ok (.nd k ds,δ):=(rfl)
def Zri:vwR i δ (some (.node k true ds))=.ok (.nd k (shrL ds),δ.set i (.node k true (shrL ds))):=(rfl)
def ZmS:view (.tmp (.sc v))=M.ret (.sc v):=(rfl)
def ZmT:view (.tmp (.node k o ds))=M.ret (.nd k ds):=(rfl)
noncomputable def vlR(i:Nat)(δ:List D):Option D->Rs (D×List D)
 | some (.sc v)=>.ok (.sc v,δ)
 | some (.node k false ds)=>.ok (.node k false ds,δ)
 | some (.node k true ds)=>.ok (.node k false (shrL ds),δ.set i (.node k false (shrL ds)))
 | _=>.stuck
theorem valA:T.valV i δ=vlR i δ δ[i]?:=by
 unfold T.valV vlR
 cases δ[i]? with
 | none=>rfl
 | some d=>cases d with
  | node k o ds=>cases o<;>rfl
  | _=>rfl
def ZoC:vlR i δ (some (.sc v))=.ok (.sc v,δ):=(rfl)
def Zrj:vlR i δ (some (.node k false ds))=.ok (.node k false ds,δ):=(rfl)
def Zrk:vlR i δ (some (.node k true ds))=.ok (.node k false (shrL ds),δ.set i (.node k false (shrL ds))):=(rfl)
noncomputable def mvR(i:Nat)(δ:List D):Option D->Rs (D×List D)
 | some (.sc v)=>.ok (.sc v,δ)
 | some (.node k o ds)=>.ok (.node k o ds,δ.set i .hole)
 | _=>.stuck
def movA:movV i δ=mvR i δ δ[i]?:=by unfold movV mvR;cases δ[i]? with|none=>rfl|some d=>cases d<;>rfl
def ZoD:mvR i δ (some (.node k o ds))=.ok (.node k o ds,δ.set i .hole):=(rfl)
noncomputable def tkR(lend:Bool)(i:Nat)(δ:List D):Option D->Rs (D×List D)
 | some (.sc v)=>.ok (.sc v,δ)
 | some (.node k false ds)=>.ok (.node k false ds,δ)
 | some (.node k true ds)=>if lend then .ok (.node k true ds,δ.set i .hole) else .ok (.node k false (shrL ds),δ.set i (.node k false (shrL ds)))
 | _=>.stuck
def Zrl:takeA lend (.late i) δ=tkR lend i δ δ[i]?:=by
 unfold takeA tkR
 (try dsimp only)
 all_goals
  cases δ[i]? with
  | none=>rfl
  | some d=>cases d with
   | node k o ds=>cases o<;>rfl
   | _=>rfl
def Zrm:takeA lend (.tmp d)=M.ret d:=(rfl)
def ZoE:tkR lend i δ (some (.sc v))=.ok (.sc v,δ):=(rfl)
def Zrn:tkR lend i δ (some (.node k false ds))=.ok (.node k false ds,δ):=(rfl)
def Zro:tkR true i δ (some (.node k true ds))=.ok (.node k true ds,δ.set i .hole):=(rfl)
def Zrp:tkR false i δ (some (.node k true ds))=.ok (.node k false (shrL ds),δ.set i (.node k false (shrL ds))):=(rfl)
def ZoF:Zar lend []=M.ret []:=(rfl)
def ZoG:Zar lend (p::ps)=(takeA lend p).bnd fun d=>(Zar lend ps).bnd fun ds=>M.ret (d::ds):=(rfl)
noncomputable def gvR(i:Nat)(δ:List D)(d:D):Option D->Rs (Unit×List D)
 | some .hole=>.ok ((),δ.set i d)
 | _=>.ok ((),δ)
def Zrq:ZaB (.late i) d δ=gvR i δ d δ[i]?:=by unfold ZaB gvR;(try dsimp only);all_goals (cases δ[i]? with|none=>rfl|some d=>cases d<;>rfl)
def Zrr:ZaB (.tmp d') d=M.ret ():=(rfl)
def ZoH:gvR i δ d (some (.sc v))=.ok ((),δ):=(rfl)
def ZoI:gvR i δ d (some (.node k o ds))=.ok ((),δ):=(rfl)
def Zrs:gvR i δ d (some .hole)=.ok ((),δ.set i d):=(rfl)
def ZoJ:ZC [] ds=M.ret ():=by cases ds<;>rfl
def ZoK:ZC (p::ps) (d::ds)=(ZaB p d).bnd fun _=>ZC ps ds:=(rfl)
def ZoL:views []=M.ret []:=(rfl)
def ZoM:views (p::ps)=(view p).bnd fun w=>(views ps).bnd fun ws=>M.ret (w::ws):=(rfl)
noncomputable def cfR(ps:List Op)(δ:List D):Rs (D×List D)->Rs (D×List D)
 | .ok (d,ds')=>((ZC ps ds').bnd fun _=>M.ret d) δ
 | .exc _ _=>.stuck
 | .stuck=>.stuck
theorem Zrt:Zbk fi ps=(Zar fi.lend ps).bnd fun ds δ=>cfR ps δ (fi.run ds):=by
 unfold Zbk cfR
 congr 1
 funext ds δ
 cases fi.run ds with
 | ok r=>obtain ⟨d,ds'⟩:=r;rfl
 | exc x y=>rfl
 | stuck=>rfl
def ZoN:cfR ps δ (.ok (d,ds'))=((ZC ps ds').bnd fun _=>M.ret d) δ:=(rfl)
noncomputable def seqR(r:M Fl):Rs (Fl×List D)->Rs (Fl×List D)
 | .ok (.nx,δ)=>r δ
 | .ok (f,δ)=>.ok (f,δ)
 | .exc x δ=>.exc x δ
 | .stuck=>.stuck
theorem exs1:exs C (s::r) δ=seqR (exs C r) (ex C s δ):=by
 show seqL (ex C s) (exs C r) δ=_
 unfold seqL M.bnd seqR
 cases ex C s δ with
 | ok z=>obtain ⟨f,δ1⟩:=z;cases f<;>rfl
 | exc x y=>rfl
 | stuck=>rfl
noncomputable def forR(asg:D->M Unit)(body:M Fl)(ds:List D):Rs (Fl×List D)->Rs (Fl×List D)
 | .ok (.nx,δ)=>forL asg body ds δ
 | .ok (.ct,δ)=>forL asg body ds δ
 | .ok (.bk,δ)=>.ok (.nx,δ)
 | .ok (.rt x,δ)=>.ok (.rt x,δ)
 | .exc x δ=>.exc x δ
 | .stuck=>.stuck
theorem ZaH:forL asg body (d::ds) δ=forR asg body ds (((asg d).bnd fun _=>body) δ):=by
 show ((asg d).bnd fun _=>body.bnd fun f=>match f with|.nx=>forL asg body ds|.ct=>forL asg body ds|.bk=>M.ret .nx|.rt x=>M.ret (.rt x)) δ=_
 unfold forR M.bnd
 cases asg d δ with
 | ok r=>
  dsimp only
  cases body r.2 with
  | ok z=>obtain ⟨f,δ1⟩:=z;cases f<;>rfl
  | exc x y=>rfl
  | stuck=>rfl
 | exc x y=>rfl
 | stuck=>rfl
def Zru:forL asg body [] δ=.ok (.nx,δ):=(rfl)
def Zfx:forR asg body ds (.ok (.nx,δ))=forL asg body ds δ:=(rfl)
def exs0:exs C [] δ=.ok (.nx,δ):=(rfl)
def Zdi(r:M Fl):seqR r (.ok (.nx,δ))=r δ:=(rfl)
def ZmU(r:M Fl):seqR r (.ok (.rt d,δ))=.ok (.rt d,δ):=(rfl)
end
def e_k(C:Ctx)(v:V):(evb C (.k v)).1=(M.ret (.sc v)):=(rfl)
def o_k(v:V)(z:M D):Zl (.k v) z=z.bnd fun d=>M.ret (.tmp d):=(rfl)
def e_g(C:Ctx)(d:D):(evb C (.g d)).1=(M.ret d):=(rfl)
def o_g(d:D)(z:M D):Zl (.g d) z=z.bnd fun d=>M.ret (.tmp d):=(rfl)
def Zrv(C:Ctx)(op:Operator)(a:E)(b:E):(evb C (.bin op a b)).1=((Zl a (evb C a).1).bnd fun p=>(Zl b (evb C b).1).bnd fun q=>(view p).bnd fun x=>(view q).bnd fun y=>lift (binW op x y)):=(rfl)
def Zrw(op:Operator)(a:E)(b:E)(z:M D):Zl (.bin op a b) z=z.bnd fun d=>M.ret (.tmp d):=(rfl)
def Zrx(C:Ctx)(a:E):(evb C (.neg a)).1=(((Zl a (evb C a).1).bnd view).bnd fun x=>lift (negW x)):=(rfl)
def Zry(a:E)(z:M D):Zl (.neg a) z=z.bnd fun d=>M.ret (.tmp d):=(rfl)
def Zrz(C:Ctx)(op:CmpOp)(a:E)(b:E):(evb C (.cmp op a b)).1=((Zl a (evb C a).1).bnd fun p=>(Zl b (evb C b).1).bnd fun q=>(view p).bnd fun x=>(view q).bnd fun y=>lift ((Za3 op x y).map fun t=>.sc (.bl t))):=(rfl)
def Zr0(C:Ctx)(op:CmpOp)(a:E)(b:E):(evb C (.cmp op a b)).2=ZcG (evb C (.cmp op a b)).1:=(rfl)
def Zr1(op:CmpOp)(a:E)(b:E)(z:M D):Zl (.cmp op a b) z=z.bnd fun d=>M.ret (.tmp d):=(rfl)
def Zr2(C:Ctx)(p:Bool)(a:E):(evb C (.isN p a)).1=(((Zl a (evb C a).1).bnd view).bnd fun x=>M.ret (isNW p x)):=(rfl)
def Zr3(C:Ctx)(p:Bool)(a:E):(evb C (.isN p a)).2=((Zl (.isN p a) (evb C (.isN p a)).1).bnd fun p=>(view p).bnd fun w=>lift (truW w)):=(rfl)
def Zr4(p:Bool)(a:E)(z:M D):Zl (.isN p a) z=z.bnd fun d=>M.ret (.tmp d):=(rfl)
def e_nt(C:Ctx)(a:E):(evb C (.nt a)).1=(((Zl a (evb C a).1).bnd view).bnd fun w=>lift (notW w)):=(rfl)
def t_nt(C:Ctx)(a:E):(evb C (.nt a)).2=((evb C a).2.bnd fun b=>M.ret (!b)):=(rfl)
def o_nt(a:E)(z:M D):Zl (.nt a) z=z.bnd fun d=>M.ret (.tmp d):=(rfl)
def Zr5(C:Ctx)(a:E)(b:E):(evb C (.and a b)).1=(((Zl a (evb C a).1).bnd view).bnd (andM (evb C b).1)):=(rfl)
def Zr6(C:Ctx)(a:E)(b:E):(evb C (.and a b)).2=((evb C a).2.bnd fun t=>if t then (evb C b).2 else M.ret false):=(rfl)
def t_or(C:Ctx)(a:E)(b:E):(evb C (.or a b)).2=((evb C a).2.bnd fun t=>if t then M.ret true else (evb C b).2):=(rfl)
def e_ix(C:Ctx)(a:E)(b:E):(evb C (.ix a b)).1=((Zl a (evb C a).1).bnd fun p=>(Zl b (evb C b).1).bnd fun q=>(view p).bnd fun x=>(view q).bnd fun y=>lift (ixW2 x y)):=(rfl)
def o_ix(a:E)(b:E)(z:M D):Zl (.ix a b) z=z.bnd fun d=>M.ret (.tmp d):=(rfl)
def e_sl(C:Ctx)(a:E)(b:E)(c:E):(evb C (.sl a b c)).1=((Zl a (evb C a).1).bnd fun p=>(Zck b (Zl b (evb C b).1)).bnd fun l=>(Zck c (Zl c (evb C c).1)).bnd fun h=>(view p).bnd fun x=>lift (slD x l h)):=(rfl)
def o_sl(a:E)(b:E)(c:E)(z:M D):Zl (.sl a b c) z=z.bnd fun d=>M.ret (.tmp d):=(rfl)
def Zr7(C:Ctx)(a:E)(f:Str):(evb C (.fld a f)).1=(((Zl a (evb C a).1).bnd view).bnd fun x=>lift (fldW C.fok f x)):=(rfl)
def Zr8(a:E)(f:Str)(z:M D):Zl (.fld a f) z=z.bnd fun d=>M.ret (.tmp d):=(rfl)
def Zr9(C:Ctx)(es:List E):(evb C (.lst es)).1=((evs C es).bnd fun ds=>lift (newL ds)):=(rfl)
def ZrA(es:List E)(z:M D):Zl (.lst es) z=z.bnd fun d=>M.ret (.tmp d):=(rfl)
def ZrB(C:Ctx)(es:List E):(evb C (.tup es)).1=((evs C es).bnd fun ds=>lift (newT ds)):=(rfl)
def e_kl(C:Ctx)(vs:List V):(evb C (.kl vs)).1=(lift (newL (vs.map D.sc))):=(rfl)
def o_kl(vs:List V)(z:M D):Zl (.kl vs) z=z.bnd fun d=>M.ret (.tmp d):=(rfl)
def ZoO(C:Ctx)(fi:FI)(es:List E):(evb C (.call fi es)).1=((opds C es).bnd fun ps=>Zbk fi ps):=(rfl)
def ZoP(C:Ctx)(fi:FI)(es:List E):(evb C (.call fi es)).2=((Zl (.call fi es) (evb C (.call fi es)).1).bnd fun p=>(view p).bnd fun w=>lift (truW w)):=(rfl)
def ZoQ(fi:FI)(es:List E)(z:M D):Zl (.call fi es) z=z.bnd fun d=>M.ret (.tmp d):=(rfl)
def e_bf(C:Ctx)(f:BF)(es:List E):(evb C (.bf f es)).1=((opds C es).bnd fun ps=>(views ps).bnd fun ws=>lift (bfW f ws)):=(rfl)
def t_bf(C:Ctx)(f:BF)(es:List E):(evb C (.bf f es)).2=((Zl (.bf f es) (evb C (.bf f es)).1).bnd fun p=>(view p).bnd fun w=>lift (truW w)):=(rfl)
def o_bf(f:BF)(es:List E)(z:M D):Zl (.bf f es) z=z.bnd fun d=>M.ret (.tmp d):=(rfl)
def ZoR(C:Ctx)(A:Addr)(f:Str)(fi:FI)(a:E)(es:List E):(evb C (.meth A f fi a es)).1=((Zl a (evb C a).1).bnd fun p=>(chkI A f p).bnd fun _=>(opds C es).bnd fun ps=>Zbk fi (p::ps)):=(rfl)
def ZoS(C:Ctx)(A:Addr)(f:Str)(fi:FI)(a:E)(es:List E):(evb C (.meth A f fi a es)).2=((Zl (.meth A f fi a es) (evb C (.meth A f fi a es)).1).bnd fun p=>(view p).bnd fun w=>lift (truW w)):=(rfl)
def ZoT(A:Addr)(f:Str)(fi:FI)(a:E)(es:List E)(z:M D):Zl (.meth A f fi a es) z=z.bnd fun d=>M.ret (.tmp d):=(rfl)
def ZrC(C:Ctx)(A:Addr)(fi:FI)(es:List E):(evb C (.new A fi es)).1=((opds C es).bnd fun ps=>newF A fi ps):=(rfl)
def ZrD(A:Addr)(fi:FI)(es:List E)(z:M D):Zl (.new A fi es) z=z.bnd fun d=>M.ret (.tmp d):=(rfl)
def ZoU(k:Nat)(js:List Nat)(tg:Tg)(ik:IK)(es:List E)(es':List E)(a:E)(z:M D):Zl (.comp k js tg ik es es' a) z=z.bnd fun d=>M.ret (.tmp d):=(rfl)
def ZoV(C:Ctx):(evb C .dct0).1=M.ret (.node (.dic []) true []):=(rfl)
def ix_d(ks:List Key)(ds:List D)(v:V):ixW2 (.nd (.dic ks) ds) (.sc v)=(keyD v).bind fun k=>ZW k ks ds:=(rfl)
def ZrE(i:Int):keyD (.int i)=some (.inl i):=(rfl)
def ZrF(v:V)(ks:List Key)(ds:List D):Za3 .NotIn (.sc v) (.nd (.dic ks) ds)=((keyD v).map fun k=>(ZW k ks ds).isSome == false):=(rfl)
def ZrG(C:Ctx)(e:E):(evb C (.bor e)).1=borV (evb C e).1:=(rfl)
def ZrH(e:E)(z:M D):Zl (.bor e) z=z.bnd fun d=>M.ret (.tmp d):=(rfl)
noncomputable def bvR(δ:List D):Rs (D×List D)->Rs (D×List D)
 | .ok (.sc v,_)=>.ok (.sc v,δ)
 | _=>.stuck
def ZrI(c:M D)(δ:List D):borV c δ=bvR δ (c (shrL δ)):=(rfl)
def ZoW(δ δ':List D)(v:V):bvR δ (.ok (.sc v,δ'))=.ok (.sc v,δ):=(rfl)
def e_v(C:Ctx)(i:Nat):(evb C (.v i)).1=T.valV i:=(rfl)
def t_v(C:Ctx)(i:Nat):(evb C (.v i)).2=((ZV i).bnd fun p=>(view p).bnd fun w=>lift (truW w)):=(rfl)
def ZkC(C:Ctx)(i:Nat)(es:List E):(evb C (.mut .append i [] es)).1=((chkL i).bnd fun _=>(evs C es).bnd fun ds=>appM i ds):=(rfl)
def ZrJ(m:MM)(i:Nat)(es es':List E)(z:M D):Zl (.mut m i es es') z=z.bnd fun d=>M.ret (.tmp d):=(rfl)
def ZrK(C:Ctx):opds C []=M.ret []:=(rfl)
def ZrL(C:Ctx)(e:E)(es:List E):opds C (e::es)=((Zl e (evb C e).1).bnd fun p=>(opds C es).bnd fun ps=>M.ret (p::ps)):=(rfl)
def evs0(C:Ctx):evs C []=M.ret []:=(rfl)
def evs1(C:Ctx)(e:E)(es:List E):evs C (e::es)=((evb C e).1.bnd fun p=>(evs C es).bnd fun ps=>M.ret (p::ps)):=(rfl)
def ZrM(C:Ctx):tsts C []=M.ret true:=(rfl)
def ZrN(C:Ctx)(e:E)(es:List E):tsts C (e::es)=((evb C e).2.bnd fun b=>if b then tsts C es else M.ret false):=(rfl)
def ZrO(C:Ctx)(i:Nat)(e:E):ex C (.asg i e)=((evb C e).1.bnd fun d=>(asgN C.lock i d).bnd fun _=>M.ret .nx):=(rfl)
def ZrP(C:Ctx)(is:List Nat)(e:E):ex C (.unp is e)=(((Zl e (evb C e).1).bnd view).bnd fun w=>(unpM C.lock is w).bnd fun _=>M.ret .nx):=(rfl)
def ZrQ(C:Ctx)(i:Nat)(x e:E):ex C (.sub i [] x e)=((evb C e).1.bnd fun d=>(ZV i).bnd fun _=>((Zl x (evb C x).1).bnd view).bnd fun w=>(modS i (Zbm w d)).bnd fun _=>M.ret .nx):=(rfl)
def ZoX(C:Ctx)(i:Nat)(f:Str)(e:E):ex C (.attr i f e)=((evb C e).1.bnd fun d=>(ZV i).bnd fun _=>(modS i (putD C.fok f d)).bnd fun _=>M.ret .nx):=(rfl)
def x_ex(C:Ctx)(e:E):ex C (.ex e)=((evb C e).1.bnd fun _=>M.ret .nx):=(rfl)
def ZrR(C:Ctx)(e:E):ex C (.ret e)=((retV C e).bnd fun d=>M.ret (.rt d)):=(rfl)
def ZrS(C:Ctx)(c:E)(a b:List S):ex C (.iff c a b)=((evb C c).2.bnd fun t=>if t then exs C a else exs C b):=(rfl)
def ZoY(C:Ctx)(tg:Tg)(ik:IK)(ies:List E)(body:List S):ex C (.for_ tg ik ies body)=((opds C ies).bnd fun ps=>(Zu ps).bnd fun h=>(lift (itW ik h.1)).bnd fun items=>(forL (asgT (fun j=>C.lock j || walked ies j) tg) (exs { C with lock:=fun j=>C.lock j || walked ies j } body) items).bnd fun f=>(ZN h.2).bnd fun _=>M.ret f):=(rfl)
def ZrT(C:Ctx)(i:Nat):retV C (.v i)=if C.lock i then T.valV i else movV i:=(rfl)
def r_k(C:Ctx)(v:V):retV C (.k v)=(evb C (.k v)).1:=(rfl)
def ZrU(C:Ctx)(op:Operator)(a:E)(b:E):retV C (.bin op a b)=(evb C (.bin op a b)).1:=(rfl)
def ZrV(C:Ctx)(a:E)(b:E):retV C (.and a b)=(evb C (.and a b)).1:=(rfl)
def r_ix(C:Ctx)(a:E)(b:E):retV C (.ix a b)=(evb C (.ix a b)).1:=(rfl)
def ZrW(C:Ctx)(es:List E):retV C (.tup es)=(evb C (.tup es)).1:=(rfl)
def ZoZ(C:Ctx)(fi:FI)(es:List E):retV C (.call fi es)=(evb C (.call fi es)).1:=(rfl)
def r_bf(C:Ctx)(f:BF)(es:List E):retV C (.bf f es)=(evb C (.bf f es)).1:=(rfl)
def Zpa(C:Ctx)(k:Nat)(js:List Nat)(tg:Tg)(ik:IK)(es:List E)(es':List E)(a:E):retV C (.comp k js tg ik es es' a)=(evb C (.comp k js tg ik es es' a)).1:=(rfl)
def ZrX(i j:Int):binW .Add (.sc (.int i)) (.sc (.int j))=some (.sc (.int (i+j))):=(rfl)
def ZrY(i j:Int):binW .Sub (.sc (.int i)) (.sc (.int j))=some (.sc (.int (i - j))):=(rfl)
def ZcI(i j:Int)(h:(-(2 ^ 64) < i/\i < 2 ^ 64)\/(-(2 ^ 64) < j/\j < 2 ^ 64)):binW .Mult (.sc (.int i)) (.sc (.int j))=some (.sc (.int (i * j))):=if_pos h
def Zi2(i j:Int)(h:0 < j/\j < 18446744073709551616):binW .FloorDiv (.sc (.int i)) (.sc (.int j))=some (.sc (.int (i / j))):=if_pos h
def ZJ(i j:Int)(h:0 < j):binW .Mod (.sc (.int i)) (.sc (.int j))=some (.sc (.int (i % j))):=if_pos h
def Zek(xs ys:List D)(h:(xs++ys).length<=sizeLine):binW .Add (.nd .lst xs) (.nd .lst ys)=some (.node .lst true (xs++ys)):=if_pos h
def ZI(ds:List D)(h:ds.length<=sizeLine):newL ds=some (.node .lst true ds):=if_pos h
def Zdj(ds:List D)(h:ds.length<=sizeLine):newT ds=some (.node .tup true ds):=if_pos h
def c_lt(i j:Int):cmpW .Lt (.sc (.int i)) (.sc (.int j))=some (decide (i < j)):=(rfl)
def c_le(i j:Int):cmpW .LtE (.sc (.int i)) (.sc (.int j))=some (decide (i<=j)):=(rfl)
def ZrZ(i j:Int):Za3 .LtE (.sc (.int i)) (.sc (.int j))=some (decide (i<=j)):=(rfl)
def Zsa(i j:Int):Za3 .Gt (.sc (.int i)) (.sc (.int j))=some (decide (j < i)):=(rfl)
def Zpb(i j:Int):Za3 .Eq (.sc (.int i)) (.sc (.int j))=some (decide (V.int i=V.int j)):=(rfl)
def Zpc(i j:Int):Za3 .NotEq (.sc (.int i)) (.sc (.int j))=some (!decide (V.int i=V.int j)):=(rfl)
def Zpd(i j:Str):Za3 .Eq (.sc (.str i)) (.sc (.str j))=some (decide (V.str i=V.str j)):=(rfl)
def Zsb(c:M D)(δ:List D):ZcG c δ=bndR (fun d=>lift (match d with|.sc (.bl b)=>some b|_=>none)) (c δ):=bndA _ _ _
def Zsc(b:M D):andM b (.sc (.bl true))=b:=(rfl)
def Zsd(b:M D):andM b (.sc (.bl false))=M.ret (.sc (.bl false)):=(rfl)
def Zse(b:Bool):notW (.sc (.bl b))=some (.sc (.bl (!b))):=(rfl)
def Zsf(i:Int):negW (.sc (.int i))=some (.sc (.int (-i))):=(rfl)
def Zsg(b:Bool):truW (.sc (.bl b))=some b:=(rfl)
def Zsh(ds:List D):bfW .len [.nd .lst ds]=some (.sc (.int ds.length)):=(rfl)
def Zpe(ds:List D):bfW .list [.nd .lst ds]=some (.node .lst true ds):=(rfl)
def Zpf(c:M Op):Zck (.k .non) c=M.ret none:=(rfl)
def Zpg(i:Int)(c:M Op):Zck (.k (.int i)) c=((c.bnd view).bnd fun w=>lift (intP w)):=(rfl)
def Zph(i:Nat)(c:M Op):Zck (.v i) c=((c.bnd view).bnd fun w=>lift (intP w)):=(rfl)
def Zpi(op:Operator)(a b:E)(c:M Op):Zck (.bin op a b) c=((c.bnd view).bnd fun w=>lift (intP w)):=(rfl)
def Zpj(a:E)(c:M Op):Zck (.neg a) c=((c.bnd view).bnd fun w=>lift (intP w)):=(rfl)
def intp(i:Int):intP (.sc (.int i))=some (some i):=(rfl)
def sl_l(ds:List D)(l h:Option Int):slD (.nd .lst ds) l h=some (.node .lst true (cutD ds l h)):=(rfl)
def sl_f(ds:List D)(l h:Option Int):slD (.nd .frl ds) l h=some (.node .lst true (cutD ds l h)):=(rfl)
def Zsi(lk:Nat->Bool)(is:List Nat)(ds:List D):unpM lk is (.nd .tup ds)=Zbl lk is ds:=(rfl)
def Zsj(lk:Nat->Bool):Zbl lk [] []=M.ret ():=(rfl)
def Zsk(lk:Nat->Bool)(i:Nat)(is:List Nat)(d:D)(ds:List D):Zbl lk (i::is) (d::ds)=((asgN lk i d).bnd fun _=>Zbl lk is ds):=(rfl)
def Zpk(lk:Nat->Bool)(i:Nat)(d:D):asgT lk (.name i) d=asgN lk i d:=(rfl)
def asgn(lk:Nat->Bool)(i:Nat)(d:D)(δ:List D):asgN lk i d δ=if (decide (i < δ.length) && !lk i)=true then .ok ((),δ.set i d) else .stuck:=(rfl)
def Zpl:Zu []=M.ret ([],[]):=(rfl)
def Zpm(p:Op)(ps:List Op):Zu (p::ps)=((holdV p).bnd fun w=>(Zu ps).bnd fun ws=>M.ret (w.1::ws.1,w.2.toList++ws.2)):=(rfl)
noncomputable def hdR(i:Nat)(δ:List D):Option D->Rs ((W×Option (Nat×D))×List D)
 | some (.sc v)=>.ok ((.sc v,none),δ)
 | some (.node k false ds)=>.ok ((.nd k ds,none),δ)
 | some (.node k true ds)=>.ok ((.nd k (shrL ds),some (i,.node k true (shrL ds))),δ.set i .hole)
 | _=>.stuck
def Zpn(i:Nat)(δ:List D):holdV (.late i) δ=hdR i δ δ[i]?:=by
 unfold holdV hdR
 (try dsimp only)
 all_goals
  cases δ[i]? with
  | none=>rfl
  | some d=>cases d with
   | node k o ds=>cases o<;>rfl
   | _=>rfl
def Zpo(i:Nat)(δ:List D)(v:V):hdR i δ (some (.sc v))=.ok ((.sc v,none),δ):=(rfl)
def Zsl(i:Nat)(δ:List D)(k:Kd)(ds:List D):hdR i δ (some (.node k false ds))=.ok ((.nd k ds,none),δ):=(rfl)
def Zsm(i:Nat)(δ:List D)(k:Kd)(ds:List D):hdR i δ (some (.node k true ds))=.ok ((.nd k (shrL ds),some (i,.node k true (shrL ds))),δ.set i .hole):=(rfl)
def Zpp(v:V):holdV (.tmp (.sc v))=M.ret (.sc v,none):=(rfl)
def Zpq(k:Kd)(o:Bool)(ds:List D):holdV (.tmp (.node k o ds))=M.ret (.nd k (shrL ds),none):=(rfl)
def Zpr:ZN []=M.ret ():=(rfl)
def Zps(i:Nat)(d:D)(r:List (Nat×D))(δ:List D):ZN ((i,d)::r) δ=ZN r (δ.set i d):=(rfl)
def it_l(ds:List D):itW .val [.nd .lst ds]=some ds:=(rfl)
def it_1(n:Int)(h:okR n=true):itW .rng1 [.sc (.int n)]=some (rng 0 n):=if_pos h
def it_2(a b:Int)(h:(okR a && okR b)=true):itW .rng2 [.sc (.int a),.sc (.int b)]=some (rng a b):=if_pos h
noncomputable def mdR(i:Nat)(δ:List D)(f:Kd->List D->Option (D×Kd×List D)):Option D->Rs (D×List D)
 | some (.node k true ds)=>match f k ds with
  | some (r,k',ds')=>.ok (r,δ.set i (.node k' true ds'))
  | none=>.stuck
 | _=>.stuck
theorem modA(i:Nat)(f:Kd->List D->Option (D×Kd×List D))(δ:List D):modS i f δ=mdR i δ f δ[i]?:=by
 unfold modS mdR
 cases δ[i]? with
 | none=>rfl
 | some d=>cases d with
  | node k o ds=>cases o<;>rfl
  | _=>rfl
def ZeZ(i:Nat)(δ:List D)(d:D)(ds:List D)(h:ds.length < sizeLine):mdR i δ (appD d) (some (.node .lst true ds))=.ok (.sc .non,δ.set i (.node .lst true (ds++[d]))):=by
 show (match (if ds.length < sizeLine then some (D.sc .non,Kd.lst,ds++[d]) else none) with|some (r,k',ds')=>Rs.ok (r,δ.set i (.node k' true ds'))|none=>.stuck)=_
 rw [if_pos h]
def Zdk(i:Nat)(δ:List D)(d:D)(ds:List D)(n:Int)(j:Nat)(h:ixN' ds.length n=some j):mdR i δ (Zbm (.sc (.int n)) d) (some (.node .lst true ds))=.ok (.sc .non,δ.set i (.node .lst true (ds.set j d))):=by
 show (match ((ixN' ds.length n).map fun j=>(D.sc .non,Kd.lst,ds.set j d)) with|some (r,k',ds')=>Rs.ok (r,δ.set i (.node k' true ds'))|none=>.stuck)=_
 rw [h]
 rfl
def Zsn(i:Nat)(d:D):appM i [d]=modS i (appD d):=(rfl)
noncomputable def ckR(δ:List D):Option D->Rs (Unit×List D)
 | some (.node .lst _ _)=>.ok ((),δ)
 | _=>.stuck
theorem chkA(i:Nat)(δ:List D):chkL i δ=ckR δ δ[i]?:=by
 unfold chkL ckR
 cases δ[i]? with
 | none=>rfl
 | some d=>cases d with
  | node k o ds=>cases k<;>rfl
  | _=>rfl
def Zso(δ:List D)(o:Bool)(ds:List D):ckR δ (some (.node .lst o ds))=.ok ((),δ):=(rfl)
def ix_l(ds:List D)(i:Int):ixW2 (.nd .lst ds) (.sc (.int i))=(ixN' ds.length i).bind fun j=>ds[j]?:=(rfl)
def ix_t(ds:List D)(i:Int):ixW2 (.nd .tup ds) (.sc (.int i))=(ixN' ds.length i).bind fun j=>ds[j]?:=(rfl)
def Zdl(n j:Nat)(h:j < n):ixN' n (j:Int)=some j:=by
 unfold ixN'
 rw [if_pos (Int.natCast_nonneg j),if_pos (by omega)]
 simp
end T
namespace T
open PySem PySem.Spec L2
variable{X:Cx}{δ δ':List D}{pos:Pos}
section
def r2C(K:Fg)(f:W->W->Option Bool):R2:=fun x y H Q=>∃(Hs:Hp)(w1 w2:W)(m1 m2:Bud)(t:Bool),Same Hs H/\View K H Hs x w1 m1/\View K H Hs y w2 m2/\f w1 w2=some t/\Q (.bl t) H
def Zfy(op:CmpOp)(hu:X.A.units+64 < cLine):OpR X (compareOp op) (r2C X.K (cmpW op)):=by
 intro pins s σ H x y v u Q I rx ry h
 obtain ⟨Hs,w1,w2,m1,m2,t,hs,v1,v2,e,q⟩:=h
 unfold cmpW at e
 split at e
 . rcases Zju hs v1 v2 e with ⟨h3,rfl⟩|⟨d,f,h3,h4,h5,h6,rfl⟩
   . exact Zqe pins s σ H _ _ v u Q I rx ry ⟨h3,q⟩
   . exact Zop hu pins s σ H _ _ v u Q I rx ry ⟨d,f,h3,h4,h5,h6,q⟩
 . simp only [map_eq_some_iff] at e
   obtain ⟨t,e,rfl⟩:=e
   rcases Zju hs v1 v2 e with ⟨h3,rfl⟩|⟨d,f,h3,h4,h5,h6,rfl⟩
   . exact Zqf pins s σ H _ _ v u Q I rx ry ⟨h3,q⟩
   . exact Zoq hu pins s σ H _ _ v u Q I rx ry ⟨d,f,h3,h4,h5,h6,q⟩
 . split at e
   . cases v1;cases v2
     cases op with
     | Lt=>cases e;exact Zqg pins s σ H _ _ v u Q I rx ry ⟨_,_,rfl,rfl,q⟩
     | LtE=>cases e;exact Zqh pins s σ H _ _ v u Q I rx ry ⟨_,_,rfl,rfl,q⟩
     | Gt=>cases e;exact Zqi pins s σ H _ _ v u Q I rx ry ⟨_,_,rfl,rfl,q⟩
     | GtE=>cases e;exact Zqj pins s σ H _ _ v u Q I rx ry ⟨_,_,rfl,rfl,q⟩
     | _=>cases e
   . split at e
     . simp only [map_eq_some_iff] at e
       obtain ⟨is,e,rfl⟩:=e
       cases v1
       cases v2 with
       | nd n r=>
        have ei:=ZbC r e
        subst ei
        exact Zd9 pins s σ H _ _ v u Q I rx ry ⟨_,_,rfl,.inr n,rfl,ZdJ _,by rw [if_pos rfl,Ze1];exact q⟩
     . cases e
   . split at e
     . simp only [map_eq_some_iff] at e
       obtain ⟨is,e,rfl⟩:=e
       cases v1
       cases v2 with
       | nd n r=>
        have ei:=ZbC r e
        subst ei
        exact Zd9 pins s σ H _ _ v u Q I rx ry ⟨_,_,rfl,.inl (.inl (.inl n)),rfl,ZdJ _,by rw [if_pos rfl,Ze1];exact q⟩
     . cases e
   . cases e
noncomputable def Zj5(op op':CmpOp)(ca cb cc:M Op):M D:=ca.bnd fun p=>cb.bnd fun q=>(view p).bnd fun x=>(view q).bnd fun y=>(lift (cmpW op x y)).bnd fun t=>if t then cc.bnd fun r=>(view q).bnd fun y=>(view r).bnd fun z=>lift ((cmpW op' y z).map fun t=>.sc (.bl t)) else M.ret (.sc (.bl false))
theorem Zj6(h:tM K (Zj5 op op' ca cb cc) σ H Q):
 ZiU (r2C K (cmpW op)) (r2C K (cmpW op')) (tP K ca) (tP K cb) (tP K cc) σ H Q:=by
 obtain ⟨δ,Hs,M,d,δ',g,s,e,q⟩:=h
 obtain ⟨p,δ1,e1,e⟩:=Zb e
 obtain ⟨p2,δ2,e2,e⟩:=Zb e
 obtain ⟨w1,δ3,e3,e⟩:=Zb e
 obtain ⟨w2,δ4,e4,e⟩:=Zb e
 obtain ⟨t,δ5,e5,e⟩:=Zb e
 obtain ⟨e5',rfl⟩:=ZO e5
 refine seq2 g s e1 e2 fun x y H2 Hs2 m1 m2 M2 g2 st2 r1 r2 s2=>?_
 obtain ⟨Hs3,M3,g3,st3,v1,v2,s3⟩:=Ziz g2 s2 r1 r2 e3 e4
 have z:=Zo (m1:=fun _=>0) g (g2.re fun b=>by simp) (st2.drop (fun b=>by simp) g2.le) g3 st3
 have st:Stp H Hs M H2 Hs3 (fun b=>(m1 b+m2 b)+M3 b):=z.2.1.drop (fun b=>by simp) z.1.le
 refine ⟨Hs3,w1,w2,m1,m2,t,g3.sub,v1,v2,e5',t,rfl,?_⟩
 cases t with
 | false=>
  rw [if_neg (by simp)]
  have:=Ze (show T.M.ret (D.sc (.bl false)) _=_ from e)
  cases this
  have G:Good H2 Hs3 (fun b=>(fun _=>0) b+M3 b):=g3.re fun b=>by simp
  exact q _ _ Hs3 (fun _=>0) M3 G (st.drop (fun b=>by simp) g3.le) (.sc _ _) s3
 | true=>
  rw [if_pos rfl]
  rw [if_pos rfl] at e
  obtain ⟨p3,δ6,e6,e⟩:=Zb e
  obtain ⟨y2,δ7,e7,e⟩:=Zb e
  obtain ⟨z3,δ8,e8,e⟩:=Zb e
  obtain ⟨e9,rfl⟩:=ZO e
  simp only [map_eq_some_iff] at e9
  obtain ⟨t2,e9,rfl⟩:=e9
  have G2:Good H2 Hs3 (fun b=>m2 b+M3 b):=g3.re fun b=>by omega
  have st2':Stp H Hs M H2 Hs3 (fun b=>m2 b+M3 b):=st.drop (fun b=>by omega) g3.le
  refine ⟨_,Hs3,M3,p3,δ6,G2.re (fun b=>by omega),s3,e6,fun z' H4 Hs4 m3 M4 g4 st4 r4 s4=>?_⟩
  obtain ⟨G,S,k⟩:=Zo g G2 st2' g4 st4
  have ry:RepP K H4 Hs4 σ y p2 m2:=(r2.frame st3.grow fun _ _ _=>rfl).frame st4.grow k
  have G':Good H4 Hs4 (fun b=>(m2 b+m3 b)+M4 b):=G.re fun b=>by omega
  have S':Stp H Hs M H4 Hs4 (fun b=>(m2 b+m3 b)+M4 b):=S.drop (fun b=>by omega) G.le
  obtain ⟨Hs5,M5,g5,st5,v5,v6,s5⟩:=Ziz G' s4 ry r4 e7 e8
  have z5:=Zo (m1:=fun _=>0) g (G'.re fun b=>by simp) (S'.drop (fun b=>by simp) G'.le) g5 st5
  have S5:Stp H Hs M H4 Hs5 (fun b=>(m2 b+m3 b)+M5 b):=z5.2.1.drop (fun b=>by simp) z5.1.le
  refine ⟨Hs5,y2,z3,m2,m3,t2,g5.sub,v5,v6,e9,?_⟩
  have G6:Good H4 Hs5 (fun b=>(fun _=>0) b+M5 b):=g5.re fun b=>by simp
  exact q _ _ Hs5 (fun _=>0) M5 G6 (S5.drop (fun b=>by simp) g5.le) (.sc _ _) s5
def Zgz(hu:X.A.units+64 < cLine)(ha:PE X a (tP X.K ca))(hb:PE X b (tP X.K cb))(hc:PE X c (tP X.K cc))(hm:lastMarks [op,op'] [b,c]=false:=by with_unfolding_all rfl):
 PE X (.Compare a [op,op'] [b,c] pos) (tM X.K (Zj5 op op' ca cb cc)):=PE.imp (Zkd (Zfy op hu) (Zfy op' hu) ha hb hc hm) fun σ H Q h=>Zj6 h
end
section
theorem RepL.erase:∀{vs:List V}{ds:List D}{m:Bud}{j:Nat}{d:D},RepL K H Hs vs ds m->ds[j]?=some d->∃(v:V)(n1 n2:Bud),vs[j]?=some v/\Rep K H Hs v d n1/\RepL K H Hs (vs.eraseIdx j) (ds.eraseIdx j) n2/\∀ b,n2 b+n1 b<=m b
 | _,_,_,j,d,.nil _,e=>by simp at e
 | _,_,_,0,d,.cons (m1:=m1) (m2:=m2) x r l,e=>by
  (simp only [List.getElem?_cons_zero,Option.some.injEq] at e)
  subst e
  exact ⟨_,m1,m2,rfl,x,r,fun b=>by have:=l b;omega⟩
 | _,_,_,j+1,d,.cons (m1:=m1) (m2:=m2) x r l,e=>by
  simp only [getElem?_cons_succ] at e
  obtain ⟨v,n1,n2,h1,h2,h3,h4⟩:=RepL.erase r e
  refine ⟨v,n1,fun b=>m1 b+n2 b,by simpa using h1,h2,.cons x h3 fun b=>le_refl _,fun b=>?_⟩
  have:=l b
  have:=h4 b
  (try dsimp only)
  omega
end
def Zsp(hj:ixN' n i=some j):seqIndex? i n=some j:=by
 unfold ixN' at hj
 unfold seqIndex?
 split at hj
 . rename_i h0
   split at hj
   . cases hj
     have h1:¬ i < 0:=by omega
     simp only [if_neg h1]
     simp [*]
   . cases hj
 . rename_i h0
   split at hj
   . cases hj
     have h1:i < 0:=by omega
     simp only [if_pos h1]
     have h2:0<=i+(n:Int):=by omega
     have h3:i+(n:Int) < n:=by omega
     simp [h1,h2,h3]
   . cases hj
section
variable{o e:Expr}{es:List Expr}{cpos apos:Pos}{i:Nat}
noncomputable def mutM(m:MM)(i:Nat)(cs:M (List Op)):M D:=(chkL i).bnd fun _=>cs.bnd fun ps=>(views ps).bnd fun ws=>modS i (mutD m ws)
def ZlI(h:tM X.K (mutM m i cs) σ H Q)
 (hr:∀(vs:List V)(H1:Hp)(p0:Addr)(d:D)(ws:List W)(Hs2:Hp)(ds ds':List D)(us:List V)(m2 m':Bud),mutD m ws .lst ds=some (d,.lst,ds')->Views X.K H1 Hs2 vs ws m2->H1 p0=some (.lst us)->RepL X.K H1 Hs2 us ds m'->
  (∀(us':List V)(n' nr:Bud)(rv:V),(∀ b,n' b+nr b<=m' b+m2 b)->RepL X.K H1 Hs2 us' ds' n'->Rep X.K H1 Hs2 rv d nr->Q rv (upd H1 p0 (.lst us')))->rr (.ref p0) vs H1 Q):
 tBM X.K "list" rr (tVar i) (tPs X.K cs) σ H Q:=by
 obtain ⟨δ,Hs,M,d,δ',g,s,ea,q⟩:=h
 obtain ⟨u,δ0,e0,eb⟩:=Zb ea
 obtain ⟨ps,δ1,e1,ec⟩:=Zb eb
 obtain ⟨rfl,p0,h1,h2⟩:=Zjz g s e0
 refine ⟨_,h1,h2,δ0,Hs,M,ps,δ1,g,s,e1,fun vs H1 Hs1 m1 M1 g1 st1 r1 s1=>?_⟩
 exact ZmH (m:=m) g g1 st1 r1 s1 h1 ec q fun ws Hs2 ds ds' us m2 m' a b c d' f=>hr vs H1 p0 d ws Hs2 ds ds' us m2 m' a b c d' f
def Zj7(ho:PE X o (tVar i))(ha:PA X [e] (tPs X.K cs))
 (hbase:autoParam (attributeBase o "extend" X.env (eval o X.env)=eval o X.env) Q9)
 (hfew:autoParam (((backTo cpos (starEach [e] X.env)).all (fun x=>!x.1) && (backToKw cpos (keywordEach [] X.env)).all (fun x=>x.1.isSome)
  && decide ([e].length+([]:List Keyword).length+(if ([]:List Keyword).isEmpty then 0 else 1) < 30))=true) Q9)
 (hline:autoParam ((apos.endLine == cpos.line)=true) Q9) (hs:autoParam (starEach [e] X.env=(false,eval e X.env)::starEach [] X.env) Q9) (hplain:autoParam ((backTo cpos (starEach [] X.env)).any (·.1)=false) Q9):
 PE X (.Call (.Attribute o "extend" apos) [e] [] cpos) (tM X.K (mutM .extend i cs)):=
 PE.imp (Zie plainAttrs_list PySem.F.slot_list_extend PySem.F.type_list_extend Zjc ho ha hbase hfew hline hs hplain) fun σ H Q h=>ZlI h fun vs H1 p0 d ws Hs2 ds ds' us m2 m' hm hv n rl fin=>by
  replace hm:mutE ws ds=_:=hm
  unfold mutE at hm
  split at hm
  . split at hm
    . rename_i hl
      cases hm
      obtain ⟨v,m1,rfl,hv,l⟩:=hv.one
      cases hv with
      | nd nn rr=>
       have l1:=rl.len
       have l2:=rr.len
       exact ⟨p0,_,us,_,rfl,rfl,n,nn,by omega,fin _ (fun b=>m' b+m1 b) (fun _=>0) .non (fun b=>by have:=l b;(try dsimp only);omega) (rl.app rr) (.sc _ _)⟩
    . cases hm
  . cases hm
def ZkD(ho:PE X o (tVar i))(ha:PA X [e] (tPs X.K cs))
 (hbase:autoParam (attributeBase o "pop" X.env (eval o X.env)=eval o X.env) Q9)
 (hfew:autoParam (((backTo cpos (starEach [e] X.env)).all (fun x=>!x.1) && (backToKw cpos (keywordEach [] X.env)).all (fun x=>x.1.isSome)
  && decide ([e].length+([]:List Keyword).length+(if ([]:List Keyword).isEmpty then 0 else 1) < 30))=true) Q9)
 (hline:autoParam ((apos.endLine == cpos.line)=true) Q9) (hs:autoParam (starEach [e] X.env=(false,eval e X.env)::starEach [] X.env) Q9) (hplain:autoParam ((backTo cpos (starEach [] X.env)).any (·.1)=false) Q9):
 PE X (.Call (.Attribute o "pop" apos) [e] [] cpos) (tM X.K (mutM .popAt i cs)):=
 PE.imp (Zie plainAttrs_list PySem.F.slot_list_pop PySem.F.type_list_pop Zkk ho ha hbase hfew hline hs hplain) fun σ H Q h=>ZlI h fun vs H1 p0 d ws Hs2 ds ds' us m2 m' hm hv n rl fin=>by
  replace hm:mutP ws ds=_:=hm
  unfold mutP at hm
  split at hm
  . split at hm
    . rename_i hl
      simp only [bind_eq_some_iff,map_eq_some_iff] at hm
      obtain ⟨j,hj,x,hx,hm⟩:=hm
      cases hm
      obtain ⟨v,m1,rfl,hv,l⟩:=hv.one
      cases hv
      obtain ⟨z,n1,n2,a1,a2,a3,a4⟩:=rl.erase hx
      refine ⟨p0,us,_,j,z,rfl,rfl,n,hl.1,hl.2,?_,a1,fin _ n2 n1 z (fun b=>by have:=a4 b;omega) a3 a2⟩
      rw [rl.len]
      exact Zsp hj
    . cases hm
  . cases hm
end
section
def Zsq(h:tM K ((c.bnd view).bnd f) σ H Q):tP K c σ H fun x H1=>∃(Hs:Hp)(w:W)(m:Bud),View K H1 Hs x w m/\tM K (f w) σ H1 Q:=by
 obtain ⟨δ,Hs,M,d,δ',g,s,e,q⟩:=h
 obtain ⟨w,δ2,e,e5⟩:=Zb e
 obtain ⟨p,δ1,e1,e3⟩:=Zb e
 refine ⟨δ,Hs,M,p,δ1,g,s,e1,fun x H2 Hs2 m1 M2 g2 st2 r1 s2=>?_⟩
 obtain ⟨Hs3,M3,g3,st3,v1,s3⟩:=Za0 (B:=m1) g2 s2 r1 e3
 have z:=Zo (m1:=fun _=>0) g (g2.re fun b=>by simp) (st2.drop (fun b=>by simp) g2.le) g3 st3
 have st:Stp H Hs M H2 Hs3 (fun b=>m1 b+M3 b):=z.2.1.drop (fun b=>by simp) z.1.le
 have G:Good H2 Hs3 (fun b=>(fun _=>0) b+M3 b):=g3.re fun b=>by simp
 have st':Stp H Hs M H2 Hs3 (fun b=>(fun _=>0) b+M3 b):=st.drop (fun b=>by simp) g3.le
 refine ⟨Hs3,w,m1,v1,δ2,Hs3,M3,d,δ',g3.re,s3,e5,fun v H' Hs' m M' g' sx r s'=>q v H' Hs' m M' g' ?_ r s'⟩
 have z2:=Zo (m1:=fun _=>0) g G st' g' sx
 exact z2.2.1.drop (fun b=>by simp) z2.1.le
def PF(X:Cx)(es:List Expr)(f:Str->M D):Prop:=∃ ts,PEs X es ts/\∀ acc σ H Q,tM X.K (f acc) σ H Q->Zgc ts acc σ H Q
def Zsr:PF X [] fun acc=>M.ret (.sc (.str acc)):=⟨[],.nil,fun acc σ H Q z0=>by
 obtain ⟨δ,Hs,M,d,δ',g,s,e,q⟩:=z0
 have:=Ze e
 cases this
 exact q _ H Hs (fun _=>0) M (Za4 g) (stp0 H Hs M) (.sc _ _) s⟩
def Zg0(h:tM K ((lift o).bnd f) σ H Q):∃ a,o=some a/\tM K (f a) σ H Q:=by
 obtain ⟨δ,Hs,M,d,δ',g,s,e,q⟩:=h
 obtain ⟨a,δ1,e1,e2⟩:=Zb e
 obtain ⟨e3,rfl⟩:=ZO e1
 exact ⟨a,e3,δ1,Hs,M,d,δ',g,s,e2,q⟩
theorem Zh4(v:View K H Hs x w m)(h:fmtW acc w=some z):∃ y,fmtV x=some y/\y.length<=sizeLine/\(acc++y).length<=sizeLine/\z=acc++y:=by
 cases v with
 | sc v m=>
  have h:((fmtD x).bind fun z=>if z.length<=sizeLine/\(acc++z).length<=sizeLine then some (acc++z) else none)=some z:=h
  simp only [bind_eq_some_iff] at h
  obtain ⟨y,h1,h2⟩:=h
  split at h2
  . rename_i hl
    cases h2
    exact ⟨y,h1,hl.1,hl.2,rfl⟩
  . cases h2
 | nd n r=>cases h
def Zss(ha:PE X e (tP X.K ca))(hr:PF X es f):PF X (.FormattedValue e (-1) none pos::es) fun acc=>(ca.bnd view).bnd fun w=>(lift (fmtW acc w)).bnd f:=by
 obtain ⟨ts,h1,h2⟩:=hr
 refine ⟨_::ts,.cons (Zor ha) h1,fun acc σ H Q h=>?_⟩
 obtain ⟨δ,Hs,M,p,δ1,g,s,e1,q⟩:=Zsq h
 refine ⟨δ,Hs,M,p,δ1,g,s,e1,fun x H1 Hs1 m M1 g1 st1 r1 s1=>?_⟩
 obtain ⟨Hs2,w,m2,v,h3⟩:=q x H1 Hs1 m M1 g1 st1 r1 s1
 obtain ⟨z,h4,h5⟩:=Zg0 h3
 obtain ⟨y,a1,a2,a3,rfl⟩:=Zh4 v h4
 exact ⟨y,a1,a2,y,rfl,a3,h2 _ _ _ _ h5⟩
def Zst{j pos'}(hr:PF X es f):PF X (.Constant (.str z) j pos'::es) fun acc=>(((M.ret (D.sc (.str z))).bnd fun d=>M.ret (Op.tmp d)).bnd view).bnd fun w=>(lift (fmtW acc w)).bnd f:=by
 obtain ⟨ts,h1,h2⟩:=hr
 refine ⟨_::ts,.cons ZaC h1,fun acc σ H Q h=>?_⟩
 have h':tM X.K ((lift (fmtW acc (.sc (.str z)))).bnd f) σ H Q:=h
 obtain ⟨y,h4,h5⟩:=Zg0 h'
 obtain ⟨y,a1,a2,a3,rfl⟩:=Zh4 (K:=X.K) (H:=H) (Hs:=H) (View.sc (V.str z) (fun _=>0)) h4
 cases a1
 exact ⟨_,rfl,a3,h2 _ _ _ _ h5⟩
def Zsu(h:PF X (a::b::es) f):PE X (.JoinedStr (a::b::es) pos) (tM X.K (f Str.empty)):=by
 obtain ⟨ts,h1,h2⟩:=h
 exact PE.imp (Zhu h1) fun σ H Q h=>h2 _ _ _ _ h
end
def Zel(h:keyD v=some k):v=kV k:=by
 unfold keyD at h
 split at h<;>cases h<;>rfl
theorem ZbH:∀{ks:List Key}{vs:List V},L2.valV (ks.zip vs) k=ZW k ks vs
 | [],_=>by simp [ZW,L2.Zgj]
 | _::_,[]=>by simp [ZW,L2.Zgj]
 | j::ks,v::vs=>by
  rw [zip_cons_cons]
  unfold ZW
  by_cases e:j=k
  . rw [if_pos e,L2.Zdt (p:=(j,v)) e]
  . rw [if_neg e,L2.Zdu (p:=(j,v)) e]
    exact ZbH
section
variable{K:Fg}{H Hs:Hp}
theorem RepL.look:∀{ks:List Key}{vs:List V}{ds:List D}{m:Bud},RepL K H Hs vs ds m->ZW k ks ds=some d->∃(v:V)(m1:Bud),ZW k ks vs=some v/\Rep K H Hs v d m1/\∀ b,m1 b<=m b
 | [],_,_,_,.nil _,e=>by cases e
 | _::_,_,_,_,.nil _,e=>by cases e
 | [],_,_,_,.cons x r l,e=>by cases e
 | j::ks,_,_,_,.cons (m1:=m1) (m2:=m2) x r l,e=>by
  unfold ZW at e ⊢
  by_cases h:j=k
  . rw [if_pos h] at e ⊢
    cases e
    exact ⟨_,m1,rfl,x,fun b=>by have:=l b;omega⟩
  . rw [if_neg h] at e ⊢
    obtain ⟨v,n1,h1,h2,h3⟩:=RepL.look r e
    exact ⟨v,n1,h1,h2,fun b=>by have:=l b;have:=h3 b;omega⟩
theorem RepL.lookS:∀{ks:List Key}{vs:List V}{ds:List D}{m:Bud},RepL K H Hs vs ds m->(ZW k ks vs).isSome=(ZW k ks ds).isSome
 | [],_,_,_,.nil _=>rfl
 | _::_,_,_,_,.nil _=>rfl
 | [],_,_,_,.cons x r l=>rfl
 | j::ks,_,_,_,.cons x r l=>by
  unfold ZW
  by_cases h:j=k
  . rw [if_pos h,if_pos h];rfl
  . rw [if_neg h,if_neg h];exact RepL.lookS r
def ZkE{p:Key×V}{r:List (Key×V)}{k:Key}{v:V}(e:¬ p.1=k):putK (p::r) k v=p::putK r k v:=by
 unfold putK
 rw [any_cons,decide_eq_false e,Bool.false_or]
 split
 . rw [map_cons,if_neg e]
 . rfl
theorem Zg1:∀{ks:List Key}{vs:List V},k∉ks->(ks.zip vs).map (fun kv=>if kv.1=k then (kv.1,v) else kv)=ks.zip vs
 | [],_,_=>rfl
 | _::_,[],_=>rfl
 | j::ks,x::vs,h=>by
  rw [zip_cons_cons,map_cons,if_neg (fun e:j=k=>h (e ▸ mem_cons_self)),Zg1 fun q=>h (mem_cons_of_mem _ q)]
theorem RepL.stor{k:Key}{d:D}{v:V}{n:Bud}(x:Rep K H Hs v d n):∀{ks ks':List Key}{vs:List V}{ds ds':List D}{m:Bud},ks.length=vs.length->RepL K H Hs vs ds m->Zcj k d ks ds=some (ks',ds')->
 ∃ vs',ks'.length=vs'.length/\RepL K H Hs vs' ds' (fun b=>m b+n b)/\putK (ks.zip vs) k v=ks'.zip vs'
 | [],_,_,_,_,_,hl,.nil m,e=>by
  cases e
  exact ⟨[v],rfl,.cons x (.nil m) fun b=>by omega,rfl⟩
 | _::_,_,_,_,_,_,hl,.nil m,e=>by cases e
 | [],_,_,_,_,_,hl,.cons y r l,e=>by cases e
 | j::ks,ks',y0::vs,x0::ds,ds',m,hl,.cons (m1:=m1) (m2:=m2) y r l,e=>by
  have hl:ks.length=vs.length:=Nat.succ.inj hl
  unfold Zcj at e
  by_cases h:j=k
  . rw [if_pos h] at e
    split at e
    . cases e
    . rename_i hk
      have hk:k∉ks:=fun hm=>hk (List.any_eq_true.mpr ⟨k,hm,decide_eq_true rfl⟩)
      cases e
      refine ⟨v::vs,by simp [hl],.cons x r fun b=>by have:=l b;(try dsimp only);omega,?_⟩
      rw [zip_cons_cons,zip_cons_cons]
      unfold putK
      rw [any_cons,decide_eq_true (show (j,y0).1=k from h),Bool.true_or,if_pos rfl,map_cons,if_pos h,Zg1 hk]
  . rw [if_neg h] at e
    simp only [map_eq_some_iff] at e
    obtain ⟨⟨ks2,ds2⟩,e2,e3⟩:=e
    cases e3
    obtain ⟨vs2,h1,h2,h3⟩:=RepL.stor x hl r e2
    refine ⟨y0::vs2,by simp [h1],.cons y h2 fun b=>by have:=l b;(try dsimp only);omega,?_⟩
    rw [zip_cons_cons,ZkE (show ¬ (j,y0).1=k from h),h3]
    rfl
end
section
variable{a b o e k:Expr}{pos':Pos}{i:Nat}{lk:Nat->Bool}
def Zem(h:tP K c σ H R)(w:∀ v H',R v H'->R' v H'):tP K c σ H R':=by
 obtain ⟨δ,Hs,M,a,δ',g,s,e,q⟩:=h
 exact ⟨δ,Hs,M,a,δ',g,s,e,fun v H' Hs' m M' g' st r s'=>w v H' (q v H' Hs' m M' g' st r s')⟩
def ZaE{α β:Type}{c:M α}{f:α->M β}{x:α}(h:c δ=.ok (x,δ')):c.bnd f δ=f x δ':=by
 unfold M.bnd
 rw [h]
def PE.or(h:PE X e t)(h':PE X e t'):PE X e fun σ H Q=>t σ H Q\/t' σ H Q:=fun pins s σ H Q I q=>q.elim (h pins s σ H Q I) (h' pins s σ H Q I)
def Zq{ca cb:M Op}(hu:X.A.units+64 < cLine)(ha:PE X a (tP X.K ca))(hb:PE X b (tP X.K cb))(hs:Zhr b:=by intro _ _;rfl):
 PE X (.Subscript a b pos) (tM X.K (ca.bnd fun p=>cb.bnd fun q=>(view p).bnd fun x=>(view q).bnd fun y=>lift (ixW2 x y))):=
 PE.imp (PE.or (Zqo Zq2 ha hb hs) (Zmx (by omega) ha hb hs)) fun σ H Q h=>by
  obtain ⟨δ,Hs,M,d,δ',g,s,e,q⟩:=h
  obtain ⟨p,δ1,e1,e⟩:=Zb e
  obtain ⟨p2,δ2,e2,e⟩:=Zb e
  obtain ⟨w1,δ3,e3,e⟩:=Zb e
  obtain ⟨w2,δ4,e4,e⟩:=Zb e
  obtain ⟨e5,rfl⟩:=ZO e
  have back:∀ f:W->W->Option D,f w1 w2=some d->tM X.K (ca.bnd fun p=>cb.bnd fun q=>(view p).bnd fun x=>(view q).bnd fun y=>lift (f x y)) σ H Q:=fun f hf=>by
   refine ⟨δ,Hs,M,d,_,g,s,?_,q⟩
   rw [ZaE e1,ZaE e2,ZaE e3,ZaE e4,hf]
   rfl
  unfold ixW2 at e5
  split at e5
  . right
    refine Zem (op2 (back ixD e5)) fun x H1 h1=>Zem h1 fun y H2 h2=>?_
    obtain ⟨Hs2,w1',w2',m1,m2,d2,hs2,l1,l2,v1,v2,e6,oo⟩:=h2
    unfold ixD at e6
    split at e6
    . simp only [bind_eq_some_iff] at e6
      obtain ⟨kk,hk,hl⟩:=e6
      cases v1 with
      | nd n r=>
       cases v2
       obtain ⟨z,n1,h3,h4,h5⟩:=r.look hl
       have hy:=Zel hk
       subst hy
       have g:=DGet.k (k:=kk) n.2
       rw [ZbH,h3] at g
       exact ⟨_,z,rfl,g,oo.part l1 l2 (fun b=>by have:=h5 b;omega) h4⟩
    . cases e6
  . exact .inl (op2 (back ixW e5))
def ZlJ(p:Bool)(op:CmpOp)(hop:op=if p then .In else .NotIn)(hu:X.A.units+64 < cLine):OpR X (compareOp op) (r2C X.K (inD p)):=by
 intro pins s σ H x y v u Q I rx ry h
 obtain ⟨Hs,w1,w2,m1,m2,t,hs,v1,v2,e,q⟩:=h
 unfold inD at e
 split at e
 . simp only [map_eq_some_iff] at e
   obtain ⟨kk,hk,rfl⟩:=e
   cases v2 with
   | @nd a _ vs _ _ n r=>
    cases v1
    have hy:=Zel hk
    subst hy
    obtain rfl:u=Value.ref a:=ry
    have g:=DGet.k (k:=kk) n.2
    rw [ZbH] at g
    have es:=fun ks=>r.lookS (k:=kk) (ks:=ks)
    cases p with
    | true=>
     subst hop
     refine d_in (by omega) I g rx fun s' I'=>⟨.bl _,H,I',rfl,?_⟩
     rw [es]
     simpa using q
    | false=>
     subst hop
     refine Zmv (by omega) I g rx fun s' I'=>⟨.bl _,H,I',rfl,?_⟩
     rw [es]
     have z:∀ c:Bool,(c == false)=!c:=by decide
     rw [z] at q
     exact q
 . cases e
def Zh5(op:CmpOp)(hu:X.A.units+64 < cLine):OpR X (compareOp op) (r2C X.K (Za3 op)):=by
 intro pins s σ H x y v u Q I rx ry h
 obtain ⟨Hs,w1,w2,m1,m2,t,hs,v1,v2,e,q⟩:=h
 unfold Za3 at e
 split at e
 . exact ZlJ true .In rfl hu pins s σ H x y v u Q I rx ry ⟨Hs,w1,w2,m1,m2,t,hs,v1,v2,e,q⟩
 . exact ZlJ false .NotIn rfl hu pins s σ H x y v u Q I rx ry ⟨Hs,w1,_,m1,m2,t,hs,v1,v2,e,q⟩
 . exact Zfy op hu pins s σ H x y v u Q I rx ry ⟨Hs,w1,w2,m1,m2,t,hs,v1,v2,e,q⟩
def op2C(h:tM K (ca.bnd fun p=>cb.bnd fun q=>(view p).bnd fun x=>(view q).bnd fun y=>lift ((f x y).map fun t=>.sc (.bl t))) σ H Q):tOp (r2C K f) (tP K ca) (tP K cb) σ H Q:=
 Zem (op2 (f:=fun x y=>(f x y).map fun t=>.sc (.bl t)) h) fun x H1 h1=>Zem h1 fun y H2 h2=>by
  obtain ⟨Hs2,w1,w2,m1,m2,d2,hs2,l1,l2,v1,v2,e,oo⟩:=h2
  simp only [map_eq_some_iff] at e
  obtain ⟨t,e,rfl⟩:=e
  exact ⟨Hs2,w1,w2,m1,m2,t,hs2,v1,v2,e,oo.sc⟩
def ZbI(hu:X.A.units+64 < cLine)(ha:PE X a (tP X.K ca))(hb:PE X b (tP X.K cb))(hm:behindInMarks op b=false:=by first|exact nomark _|with_unfolding_all rfl):
 PE X (.Compare a [op] [b] pos) (tM X.K (ca.bnd fun p=>cb.bnd fun q=>(view p).bnd fun x=>(view q).bnd fun y=>lift ((Za3 op x y).map fun t=>.sc (.bl t)))):=PE.imp (Zmg (Zh5 op hu) ha hb hm) fun σ H Q h=>op2C h
def Z3(hu:X.A.units+64 < cLine)(ha:PE X a (tP X.K ca))(hb:PE X b (tP X.K cb))(hm:behindInMarks op b=false:=by first|exact nomark _|with_unfolding_all rfl):
 PT X (.Compare a [op] [b] pos) (tT X.K (ZcG (ca.bnd fun p=>cb.bnd fun q=>(view p).bnd fun x=>(view q).bnd fun y=>lift ((Za3 op x y).map fun t=>.sc (.bl t))))):=PT.imp (Zmh (Zh5 op hu) ha hb hm) fun σ H Q h=>op2C (Zhw h)
def Zsv:PE X (.Dict [] [] pos) (tM X.K (M.ret (.node (.dic []) true []))):=PE.imp Zkm fun σ H Q h=>by
 obtain ⟨δ,Hs,M,d,δ',g,s,e,q⟩:=h
 have:=Ze e
 cases this
 have oo:Outs X.K H Hs (fun _=>0) _ Q:=Zbs (B:=fun _=>0) (M:=M) (stp0 H Hs M) (Za4 g) s q
 exact fun p hp=>oo.new (fun b=>by simp) (fun b hb=>by simp at hb) hp (vs:=[]) ⟨rfl,Zj⟩ (.nil _)
def Zsw:V->V->V->Hp->(Hp->Prop)->Prop:=fun o i v H Q=>Zl8 o i v H Q\/∃ a H',o=.ref a/\DPut H a i v H'/\Q H'
def Zsx(hu:X.A.units+64 < cLine):PSet X Zsw:=by
 intro pins s σ H o i v ov iv u Q I ro ri rv h
 rcases h with h|⟨a,H',rfl,g,q⟩
 . exact Zkj pins s σ H o i v ov iv u Q I ro ri rv h
 . obtain rfl:ov=Value.ref a:=ro
   exact Zjf (by omega) I g ri rv fun s' I'=>⟨H',I',q⟩
def Zcw(hu:X.A.units+64 < cLine)(ho:PE X o (tVar i))(hk:PE X k (tP X.K ck))(he:PE X e (tM X.K c))
 (ha:∀ v,assign (.Subscript o k pos') X.env v=(do
  let ov <- holding [v] (eval o X.env)
  let iv <- holding [v,ov] (eval k X.env)
  standAt pos'
  holding [v,ov,iv] (setItem ov iv v)
  release [v,ov,iv] []):=by intro _;rfl)
 (hs:autoParam (swapsWithSole [.Subscript o k pos'] e pos.line X.env=pure false) Q9) (hw:autoParam (swappedStores [.Subscript o k pos'] e X.env=pure none) Q9)
 (h1:autoParam ((assignEach [.Subscript o k pos'] X.env).map (·.2)=[assign (.Subscript o k pos') X.env]) Q9):
 PS X (.Assign [.Subscript o k pos'] e pos) (tS X.K lk (c.bnd fun d=>(ZV i).bnd fun _=>(ck.bnd view).bnd fun w=>(modS i (Zbm w d)).bnd fun _=>M.ret .nx)):=
 PS.imp (ZiN he (ZnL ho hk (Zsx hu) ha) hs hw h1) fun E σ H h=>by
 obtain ⟨δ,Hs,M,f,δ',g,s,ea,q⟩:=h
 obtain ⟨d,δ1,e1,eb⟩:=Zb ea
 obtain ⟨p0,δ2,e2,ec⟩:=Zb eb
 obtain ⟨w,δ3,e3,ed⟩:=Zb ec
 obtain ⟨p,δ4,e4,e5⟩:=Zb e3
 obtain ⟨r0,δ5,e6,e7⟩:=Zb ed
 have:=Ze e7
 cases this
 obtain ⟨kk,ds0,k',ds',hi,hf,rfl⟩:=Zcu e6
 refine ⟨δ,Hs,M,d,δ1,g,s,e1,fun v H1 Hs1 m1 M1 g1 st1 r1 s1=>?_⟩
 obtain ⟨rfl,vo,ho⟩:=Zfu s1 e2
 refine ⟨vo,ho,δ2,Hs1,M1,p,δ4,g1.re,s1,e4,fun y H2 Hs2 m2 M2 g2 st2 r2 s2=>?_⟩
 obtain ⟨G2,S2,k2⟩:=Zo g g1 st1 g2 st2
 have r1':=r1.frame st2.grow k2
 obtain ⟨Hs3,M3,g3,st3,v3,s3⟩:=Za0 (B:=fun b=>m1 b+m2 b) (G2.re fun b=>by (try dsimp only);omega) s2 r2 e5
 have r1'':=r1'.frame (H':=H2) st3.grow fun _ _ _=>rfl
 obtain ⟨p1,us,m',n2,e8,n,rl,le,fin⟩:=modL g3 s3 hi
 rw [ho] at e8
 cases e8
 have S2':Stp H Hs M H2 Hs2 (fun b=>m1 b+m2 b+M2 b):=S2.drop (fun b=>by omega) G2.le
 have G2':Good H2 Hs2 (fun b=>m1 b+m2 b+M2 b):=G2.re fun b=>by omega
 have z3:=Zo (m1:=fun _=>0) g (G2'.re fun b=>by simp) (S2'.drop (fun b=>by simp) G2'.le) g3 st3
 have S3:Stp H Hs M H2 Hs3 (fun b=>m1 b+m2 b+M3 b):=z3.2.1.drop (fun b=>by simp) z3.1.le
 have last:∀(ob:HO)(us':List V)(n':Bud),(∀ b,n' b<=m' b+m1 b)->ZaO X.K (upd H2 p1 ob) p1 us' k'->RepL X.K H2 Hs3 us' ds' n'->E.nx σ (upd H2 p1 ob):=fun ob us' n' hn no rn=>by
  obtain ⟨G,S,R,SS⟩:=fin ob k' us' ds' n' (fun _=>0) .non (.sc .non) (fun b=>by have:=hn b;(try dsimp only);omega) no rn (.sc _ _)
  have z:=Zo (m1:=fun _=>0) g (g3.re fun b=>by simp) (S3.drop (fun b=>by simp) g3.le) G S
  exact q σ _ Hs3 _ (Keeps.refl _ _) (G.re fun b=>by (try dsimp only);omega) ((z.2.1.drop (fun b=>by simp) z.1.le).drop (fun b=>by (try dsimp only);omega) G.le) SS
 unfold Zbm at hf
 split at hf
 . split at hf
   . split at hf
     . rename_i hz
       simp only [bind_eq_some_iff,map_eq_some_iff] at hf
       obtain ⟨kk,hk,rr,hst,hf⟩:=hf
       cases hf
       cases v3
       have hy:=Zel hk
       subst hy
       obtain ⟨us',h1,h2,h3⟩:=RepL.stor r1'' n.1 rl hst
       right
       have hl:=rl.len
       have hp:=DPut.k (k:=kk) (v:=v) n.2 (by rw [length_zip,n.1];omega)
       rw [h3] at hp
       exact ⟨p1,_,rfl,hp,last _ us' _ (fun b=>le_refl _) ⟨h1,Zj⟩ h2⟩
     . cases hf
   . cases hf
 . unfold setD at hf
   split at hf
   . split at hf
     . rename_i nn
       simp only [map_eq_some_iff] at hf
       obtain ⟨jj,hj,hf⟩:=hf
       cases hf
       cases v3
       have hl:=rl.len
       have hjj:ixN us.length nn=some jj:=by rw [hl];exact hj
       have hlt:jj < ds0.length:=by
        unfold ixN' at hj
        split at hj
        . split at hj
          . cases hj;omega
          . cases hj
        . split at hj
          . cases hj;omega
          . cases hj
       exact .inl ⟨p1,us,nn,jj,rfl,rfl,n,hjj,last (.lst (us.set jj v)) (us.set jj v) _ (fun b=>le_refl _) Zj (rl.set (List.getElem?_eq_getElem hlt) r1'')⟩
     . cases hf
   . cases hf
end
theorem ZdO:∀(c:Int)(ds:List D),(Zap c ds).length=ds.length
 | _,[]=>rfl
 | c,d::ds=>by rw [Zap,length_cons,length_cons,ZdO]
theorem Zg2:∀(c:Int)(ds:List D)(i:Nat){d:D},(Zap c ds)[i]?=some d->∃ x,ds[i]?=some x/\d=.node .tup false [.sc (.int (c+i)),x]
 | _,[],i,_,h=>by simp [Zap] at h
 | c,x::ds,0,d,h=>by
  rw [Zap,List.getElem?_cons_zero] at h
  cases h
  exact ⟨x,rfl,by simp⟩
 | c,x::ds,i+1,d,h=>by
  rw [Zap,getElem?_cons_succ] at h
  obtain ⟨y,e1,e2⟩:=Zg2 (c+1) ds i h
  refine ⟨y,by rw [getElem?_cons_succ];exact e1,?_⟩
  have z:c+1+(i:Int)=c+((i+1:Nat):Int):=by omega
  rw [e2,z]
def Zj8:Walk K (Ite K a c) (Zap c ds) B (fun H Hs=>(SqL K Hs a vs\/(H a=some (.lst vs)/\B a≥1))/\RepL K H Hs vs ds (fun _=>0)):=by
 have sq:∀{H Hs:Hp},Same Hs H->(SqL K Hs a vs\/(H a=some (.lst vs)/\B a≥1))->SqL K H a vs:=fun g h=>h.elim (fun h=>g.seq h) fun h=>.inl (.inl h.1)
 refine ⟨fun h g k=>⟨?_,h.2.frame g fun b hb=>absurd hb (by simp)⟩,fun{H Hs i} g h l=>?_,fun{H Hs H' i x d} g h e y=>?_,fun{H Hs i} g h l=>?_⟩
 . rcases h.1 with h|⟨h,hb⟩
   . exact .inl (g.seq h)
   . exact .inr ⟨(k a hb (by rw [h];simp)).trans h,hb⟩
 . have e:=h.2.len
   rw [ZdO] at l
   exact ⟨vs,_,sq g h.1,List.getElem?_eq_getElem (show i < vs.length by omega)⟩
 . obtain ⟨x1,e1,e2⟩:=Zg2 c ds i e
   subst e2
   obtain ⟨A,y1,rfl,hA,rfl,hy⟩:=y
   obtain ⟨v,m1,ev,rv,lv⟩:=h.2.at e1
   have hv:=hy vs (sq g h.1)
   rw [ev] at hv
   cases hv
   have gr:Grow H Hs (upd H A (.tup [.int (c+i),y1])) (upd Hs A (.tup [.int (c+i),y1])):=.inr ⟨A,_,hA,rfl,rfl⟩
   obtain ⟨sm,fr,_⟩:=gr.same g
   refine ⟨_,gr,.shd (k:=.tup) (vs:=[.int (c+i),y1]) (show _=some _ from Zj) (.cons (m1:=fun _=>0) (m2:=fun _=>0) (.sc _ _) (.cons (m1:=fun _=>0) (m2:=fun _=>0) ((rv.mono lv).frame sm fun b _ n=>fr b n) (.nil _) fun b=>by simp) fun b=>by simp)⟩
 . have e:=h.2.len
   rw [ZdO] at l
   exact ⟨vs,sq g h.1,by omega⟩
def Zpt{c cb:M Op}{n:Int}{h:List W×List (Nat×D)}(hcb:∀ δ,cb δ=.ok (.tmp (.sc (.int n)),δ))(e:((c.bnd fun p=>(cb.bnd fun p=>(M.ret ([]:List Op)).bnd fun ps=>M.ret (p::ps)).bnd fun ps=>M.ret (p::ps)).bnd Zu) δ=.ok (h,δ')):
 ∃ p δ1 w,c δ=.ok (p,δ1)/\holdV p δ1=.ok (w,δ')/\h=([w.1,.sc (.int n)],w.2.toList):=by
 obtain ⟨ps,δ1,e1,e2⟩:=Zb e
 obtain ⟨p,δ2,e3,e4⟩:=Zb e1
 obtain ⟨qs,δ3,e5,e6⟩:=Zb e4
 obtain ⟨p2,δ4,e7,e8⟩:=Zb e5
 rw [hcb] at e7
 cases e7
 obtain ⟨z,δ5,e9,e10⟩:=Zb e8
 have:=Ze e9
 cases this
 have:=Ze e10
 cases this
 have:=Ze e6
 cases this
 obtain ⟨w,δ6,e11,e12⟩:=Zb e2
 obtain ⟨ws,δ7,e13,e14⟩:=Zb e12
 obtain ⟨w2,δ8,e15,e16⟩:=Zb e13
 have:=Ze e15
 cases this
 obtain ⟨z,δ9,e17,e18⟩:=Zb e16
 have:=Ze e17
 cases this
 have:=Ze e18
 cases this
 have:=Ze e14
 cases this
 exact ⟨p,_,w,e3,e11,by simp⟩
def Zsy(hg:Gl X x)(h:∃ t,X.mg x=some (.int i t))(hd:(x == ("__debug__":Str))=false):PE X (.Name x p) (tM X.K (M.ret (.sc (.int i)))):=by
 obtain ⟨t,h⟩:=h
 exact ok_k (Zfn hg h ⟨t,rfl⟩ hd)
def Zfa(hc:X.calm=true)(hg:PGs X es (gNs is))(hn:autoParam ((assignEach es X.env).length=is.length) Q9)(hst:autoParam ((assignEach es X.env).findIdx? (·.1)=none) Q9):PG X (.Tuple es k1 q) (gT X.K (.tup is)):=Zj0 hc hg hn hst
section
variable{es:List Expr}{k1:Nat}{l ke:Expr}{ca cb:M Op}{p q kp:Pos}{c:Int}
theorem Zh6(hl:PE X l (tP X.K ca))(hcb:∀ δ,cb δ=.ok (.tmp (.sc (.int c)),δ))(σ:St)(H:Hp)(R:It->Hp->Prop)(h:tI X.K .enum (ca.bnd fun p=>(cb.bnd fun p=>(M.ret ([]:List Op)).bnd fun ps=>M.ret (p::ps)).bnd fun ps=>M.ret (p::ps)) σ H R):Ziq X.K c (ZeI (tP X.K ca) tNil) σ H R/\Builtin.SmallTypes.fitsIndex c=true:=by
 obtain ⟨δ,Hs,M,h,items,δ',g,s,e,ei,z⟩:=h
 obtain ⟨p,δ1,w,e1,e2,rfl⟩:=Zpt hcb e
 obtain ⟨w1,w2⟩:=w
 have core:∀(x:V)(H2 Hs2:Hp)(m1 M2:Bud),Good H2 Hs2 (fun b=>m1 b+M2 b)->Stp H Hs M H2 Hs2 (fun b=>m1 b+M2 b)->RepP X.K H2 Hs2 σ x p m1->RepS X.K H2 Hs2 σ δ1 M2->
  ∃ Hs3 B M3,Good H2 Hs3 (fun b=>B b+M3 b)/\Stp H Hs M H2 Hs3 (fun b=>B b+M3 b)/\RepS X.K H2 Hs3 σ δ' M3/\Held X.K H2 Hs3 σ w2.toList B/\HW X.K H2 Hs3 B x w1:=fun x H2 Hs2 m1 M2 g2 st2 r1 s2=>by
  obtain ⟨Hs3,B,M3,g3,st3,s3,hh,hw⟩:=ZbG g2 s2 r1 e2
  have z:=Zo (m1:=fun _=>0) g (g2.re fun b=>by simp) (st2.drop (fun b=>by simp) g2.le) g3 st3
  exact ⟨Hs3,B,M3,g3,z.2.1.drop (fun b=>by simp) z.1.le,s3,hh,hw⟩
 have fit:okR c=true->Builtin.SmallTypes.fitsIndex c=true:=fun h=>by
  simp only [okR,and_eq_true,decide_eq_true_eq] at h
  simp only [Builtin.SmallTypes.fitsIndex,and_eq_true,decide_eq_true_eq]
  omega
 cases w1 with
 | sc u=>cases ei
 | nd k ds=>
  have hkk:(k=.lst\/k=.frl)/\okR c=true/\items=Zap c ds:=by
   simp only [itW,ZlG] at ei
   split at ei
   . rename_i hk;cases ei;exact ⟨hk.1,hk.2,rfl⟩
   . cases ei
  obtain ⟨hk,hc,rfl⟩:=hkk
  refine ⟨⟨δ,Hs,M,p,δ1,g,s,e1,fun x H2 Hs2 m1 M2 g2 st2 r1 s2=>?_⟩,fit hc⟩
  obtain ⟨Hs3,B,M3,g3,st3,s3,hh,a,vs,hx,hr,hn⟩:=core x H2 Hs2 m1 M2 g2 st2 r1 s2
  have hp:SqL X.K Hs3 a vs\/(H2 a=some (.lst vs)/\B a≥1):=by
   rcases hk with rfl|rfl
   . exact hn.elim (fun n=>.inl (.inl (.inl n))) fun n=>.inr n
   . exact hn.elim (fun n=>.inl n) fun n=>n.1.elim
  refine ⟨a,by rw [hx],⟨vs,?_⟩,z _ _ H2 Hs3 B M3 g3 st3 s3 hh Zj8 ⟨hp,hr⟩⟩
  rcases hp with hp|hp
  . exact g3.sub.seq hp
  . exact .inl (.inl hp.1)
def Ze4(hg:Gl X "enumerate")(hm:X.mg "enumerate"=none)(hl:PE X l (tP X.K ca))(hcb:∀ δ,cb δ=.ok (.tmp (.sc (.int 0)),δ):=by intro _;rfl)(hs:autoParam (starEach [l] X.env=[(false,eval l X.env)]) Q9):
 PI X (.Tuple es k1 q) (.Call (.Name "enumerate" p) [l] [] pos) (tI X.K .enum (ca.bnd fun p=>(cb.bnd fun p=>(M.ret ([]:List Op)).bnd fun ps=>M.ret (p::ps)).bnd fun ps=>M.ret (p::ps))):=PI.imp (ZmD hg hm (Zao hl Zbc (by show _=_;rw [hs];rfl)) hs) fun σ H R h=>(Zh6 hl hcb σ H R h).1
def ZkF(hg:Gl X "enumerate")(hm:X.mg "enumerate"=none)(hl:PE X l (tP X.K ca))(hke:PE X ke (tC (.int c)))(hcb:∀ δ,cb δ=.ok (.tmp (.sc (.int c)),δ):=by intro _;rfl)(hs:autoParam (starEach [l] X.env=[(false,eval l X.env)]) Q9):
 PI X (.Tuple es k1 q) (.Call (.Name "enumerate" p) [l] [⟨some "start",ke,kp⟩] pos) (tI X.K .enum (ca.bnd fun p=>(cb.bnd fun p=>(M.ret ([]:List Op)).bnd fun ps=>M.ret (p::ps)).bnd fun ps=>M.ret (p::ps))):=fun pins s σ H R I h=>by
 obtain ⟨h1,h2⟩:=Zh6 hl hcb σ H R h
 exact Zk4 hg hm (Zao hl Zbc (by show _=_;rw [hs];rfl)) hke h2 hs pins s σ H R I h1
end
open PySem.W
noncomputable abbrev dI(xs:List Int):List D:=xs.map fun i=>D.sc (.int i)
def ZF(x:Int)(xs:List Int):dI (x::xs)=.sc (.int x)::dI xs:=(rfl)
def ZbY:dI []=[]:=(rfl)
def Zac(xs ys:List Int):dI (xs++ys)=dI xs++dI ys:=map_append
def Z0(xs:List Int):(dI xs).length=xs.length:=length_map _
theorem Zk(xs:List Int):shrL (dI xs)=dI xs:=by
 induction xs with
 | nil=>rfl
 | cons x xs ih=>simp only [map_cons,shrL,shr] at ih ⊢;rw [ih]
theorem ZbO(xs:List Int):Zal (dI xs)=some xs:=by
 induction xs with
 | nil=>rfl
 | cons x xs ih=>simp only [map_cons,Zal] at ih ⊢;rw [ih];rfl
def Zsz(ds:List D):bfW .sum [.nd .lst ds]=(Zal ds).map fun is=>.sc (.int is.sum):=(rfl)
def ZaI(xs:List Int):bfW .sum [.nd .lst (dI xs)]=some (.sc (.int xs.sum)):=by rw [Zsz,ZbO];rfl
def ZlK(w:W):bfW (.isi .bool) [w]=(tyW .bool w).map fun b=>.sc (.bl b):=(rfl)
theorem Zg3(xs:List Int):pyL (dI xs)=some (xs.map PyData.int):=by
 induction xs with
 | nil=>rfl
 | cons x xs ih=>show (pyL (dI xs)).map (PyData.int x::·)=_;rw [ih];rfl
theorem ZkG(xs:List Int):PyData.canLayAll0 (xs.map PyData.int)=true:=by
 induction xs with
 | nil=>rfl
 | cons x xs ih=>simp only [map_cons,PyData.canLayAll0,PyData.canLay0,ih,Bool.and_self]
theorem Zj9(xs:List Int):PyData.depthAll (xs.map PyData.int)=0:=by
 induction xs with
 | nil=>rfl
 | cons x xs ih=>simp only [map_cons,PyData.depthAll,PyData.depth,ih,Nat.max_self]
def Zeu(xs:List Int):SeqAt.shaped (.list (xs.map PyData.int))=true:=by
 simp only [SeqAt.shaped,PyData.canLay0,PyData.depth,ZkG,Zj9]
 decide
theorem Zg4:∀ xs ys:List Int,PyData.eqvAll (xs.map PyData.int) (ys.map PyData.int)=decide (xs=ys)
 | [],[]=>by simp only [map_nil,PyData.eqvAll,decide_true]
 | [],y::ys=>by simp [PyData.eqvAll]
 | x::xs,[]=>by simp [PyData.eqvAll]
 | x::xs,y::ys=>by
  simp only [map_cons,PyData.eqvAll,PyData.eqv,Zg4 xs ys]
  (by_cases h1:x=y<;>by_cases h2:xs=ys<;>simp [h1,h2])
def Zs0(xs ys:List Int):Za3 .Eq (.nd .lst (dI xs)) (.nd .lst (dI ys))=some (decide (xs=ys)):=by
 show (py (.node .lst false (dI xs))).bind (fun a=>(py (.node .lst false (dI ys))).bind fun b=>eqPy a b)=_
 rw [show py (.node .lst false (dI xs))=(pyL (dI xs)).map .list from rfl,show py (.node .lst false (dI ys))=(pyL (dI ys)).map .list from rfl,Zg3,Zg3]
 show eqPy _ _=_
 unfold eqPy
 rw [if_pos ⟨Zeu xs,Zeu ys⟩]
 simp only [PyData.eqv,Zg4]
noncomputable def cutI(xs:List Int)(lo hi:Option Int):List Int:=(xs.drop (HT.sIx xs.length 0 lo)).take (HT.sIx xs.length xs.length hi - HT.sIx xs.length 0 lo)
def ZbJ(xs:List Int)(lo hi:Option Int):cutD (dI xs) lo hi=dI (cutI xs lo hi):=by
 unfold cutD cutI
 simp only [length_map,List.map_take,List.map_drop]
def Zfz(xs:List Int)(lo hi:Option Int):(cutI xs lo hi).length<=xs.length:=by
 unfold cutI
 rw [length_take,length_drop]
 omega
noncomputable def rngI:Int->Nat->List Int
 | _,0=>[]
 | a,n+1=>a::rngI (a+1) n
theorem ZmV(a:Int):∀(n:Nat)(f:Nat->Int),(∀ k,f k=a+k)->(List.range n).map (fun k=>D.sc (.int (f k)))=dI (rngI a n):=by
 intro n
 induction n generalizing a with
 | zero=>intro f _;rfl
 | succ n ih=>
  intro f hf
  (rw [List.range_succ_eq_map,map_cons,map_map])
  show _=D.sc (.int a)::dI (rngI (a+1) n)
  have h0:f 0=a:=by rw [hf];simp
  rw [h0]
  congr 1
  exact ih (a+1) (fun k=>f (k+1)) fun k=>by rw [hf];omega
def Zg5(a b:Int):rng a b=dI (rngI a (b - a).toNat):=ZmV a _ (fun k=>a+k) fun k=>rfl
theorem ZY(a:Int):∀ n,(rngI a n).length=n:=by
 intro n
 induction n generalizing a with
 | zero=>rfl
 | succ n ih=>rw [rngI,length_cons,ih]
theorem ZS(a:Int):∀ n x,x∈rngI a n↔a<=x/\x < a+n:=by
 intro n
 induction n generalizing a with
 | zero=>intro x;simp only [rngI,not_mem_nil,false_iff];omega
 | succ n ih=>intro x;rw [rngI,mem_cons,ih];omega
def Zb1(n:Int)(h:-(2 ^ 62)<=n/\n < 2 ^ 62):itW .rng1 [.sc (.int n)]=some (dI (rngI 0 n.toNat)):=by
 rw [it_1 n (by simp only [okR,and_eq_true,decide_eq_true_eq];exact h),Zg5]
 have:n - 0=n:=by omega
 rw [this]
def Zs1(a b:Int)(h:-(2 ^ 62)<=a/\a < 2 ^ 62/\-(2 ^ 62)<=b/\b < 2 ^ 62):itW .rng2 [.sc (.int a),.sc (.int b)]=some (dI (rngI a (b - a).toNat)):=by
 rw [it_2 a b (by simp only [okR,and_eq_true,decide_eq_true_eq];exact ⟨⟨h.1,h.2.1⟩,h.2.2⟩),Zg5]
def it_e(ds:List D)(c:Int)(h:-(2 ^ 62)<=c/\c < 2 ^ 62):itW .enum [.nd .lst ds,.sc (.int c)]=some (Zap c ds):=by
 show (if _ then _ else _)=_
 rw [if_pos ⟨.inl rfl,by simp only [okR,and_eq_true,decide_eq_true_eq];exact h⟩]
def Zdm(lk:Nat->Bool)(is:List Nat)(o:Bool)(ds:List D):asgT lk (.tup is) (.node .tup o ds)=Zbl lk is ds:=(rfl)
def ixI(xs:List Int)(k:Int)(h0:0<=k)(h:k < xs.length):((ixN' (dI xs).length k).bind fun j=>(dI xs)[j]?)=some (.sc (.int (xs.getD k.toNat 0))):=by
 rw [length_map]
 unfold ixN'
 rw [if_pos h0,if_pos h]
 (have hk:k.toNat < xs.length:=by omega)
 show (dI xs)[k.toNat]?=_
 rw [getElem?_map,List.getElem?_eq_getElem hk,getD_eq_getElem?_getD,List.getElem?_eq_getElem hk]
 rfl
noncomputable def notV:E->Bool
 | .v _=>false
 | _=>true
def ZaW(h:notV e=true):Zcv (Zl e c) lk:=by
 rw [ZmM fun j z=>by subst z;cases h]
 exact Zo4
section
variable{asg:D->M Unit}{cond:M Bool}{elt:M D}{d:D}{ds acc δ1 caps:List D}{k:Nat}{js:List Nat}{loop:M (List D)}
def Zax:ZH asg cond elt (d::ds) acc δ=((asg d).bnd fun _=>cond.bnd fun b=>if b then elt.bnd fun x=>ZH asg cond elt ds (acc++[x]) else ZH asg cond elt ds acc) δ:=(rfl)
noncomputable def Z9(fok:Addr->Str->Bool)(fuel k:Nat)(tg:Tg)(cond:List E)(elt:E)(items acc:List D):M (List D):=ZH (asgT (fun i=>decide (k<=i)) tg) (tsts ⟨fun i=>decide (k<=i),fok,fuel⟩ cond) (evb ⟨fun i=>decide (k<=i),fok,fuel⟩ elt).1 items acc
def ZmW(C:Ctx)(k:Nat)(js:List Nat)(tg:Tg)(ik:IK)(es es':List E)(a:E):(evb C (.comp k js tg ik es es' a)).1=((opds C es).bnd fun ps=>(Zu ps).bnd fun h=>(lift (itW ik h.1)).bnd fun items=>(ZR k js (Z9 C.fok C.fuel k tg es' a items [])).bnd fun d=>(ZN h.2).bnd fun _=>M.ret d):=(rfl)
def ZG(h1:Zdb js δ=.ok (caps,δ1))(h2:loop (replicate k .hole++caps)=.ok (acc,δ'))(h3:acc.length<=sizeLine):ZR k js loop δ=((Zbr js (δ'.drop k)).bnd fun _=>M.ret (.node .lst true acc)) δ1:=by
 unfold ZR
 rw [Zgy h1,h2]
 show ((Zbr js (δ'.drop k)).bnd fun _=>lift (newL acc)) δ1=_
 rw [ZI _ h3]
 rfl
end
end T
namespace T
open PySem PySem.Spec L2
variable{σ σ1:St}{H Hs H1 Hs1:Hp}{lk:Nat->Bool}{X:Cx}{pos pos':Pos}{fi:FI}
def Zh7{K:Fg}{ca:M Op}{p:Bool}{Q:Bool->Hp->Prop}(h:tT K ((((ca.bnd view).bnd fun x=>M.ret (isNW p x)).bnd fun d=>M.ret (.tmp d)).bnd fun q=>(view q).bnd fun w=>lift (truW w)) σ H Q):
 tM K ((ca.bnd view).bnd fun x=>M.ret (isNW p x)) σ H (fun x H'=>∃ k,x=.bl k/\Q k H'):=by
 obtain ⟨δ,Hs,M,b,δ',g,s,e,q⟩:=h
 obtain ⟨op,δ1,e1,e2⟩:=Zb e
 obtain ⟨d,δ2,e3,e4⟩:=Zb e1
 have:=Ze e4
 cases this
 have hb:∃ t,d=.sc (.bl t):=by
  obtain ⟨x,δ3,e5,e6⟩:=Zb e3
  have:=Ze e6
  cases this
  cases x<;>exact ⟨_,rfl⟩
 obtain ⟨t,rfl⟩:=hb
 obtain ⟨w,δ4,e7,e8⟩:=Zb e2
 have:=Ze (show T.M.ret (W.sc (.bl t)) δ1=.ok (w,δ4) from e7)
 cases this
 obtain ⟨e9,rfl⟩:=ZO e8
 cases e9
 refine Zhw (c:=(ca.bnd view).bnd fun x=>T.M.ret (isNW p x)) ⟨δ,Hs,M,_,_,g,s,?_,q⟩
 unfold ZcG
 rw [Zgy e3]
 rfl
def Zf0(C:T.Ctx)(op op':CmpOp)(a b e:E):(evb C (.chain op op' a b e)).1=((Zl a (evb C a).1).bnd fun p=>(Zl b (evb C b).1).bnd fun q=>(view p).bnd fun x=>(view q).bnd fun y=>(lift (cmpW op x y)).bnd fun t=>if t then (Zl e (evb C e).1).bnd fun r=>(view q).bnd fun y=>(view r).bnd fun z=>lift ((cmpW op' y z).map fun t=>.sc (.bl t)) else M.ret (.sc (.bl false))):=(rfl)
section
def ZmX(ha:PE X a (tP X.K ca)){j}:PT X (.Compare a [.Is] [.Constant .none j pos'] pos) (tT X.K ((((ca.bnd view).bnd fun x=>M.ret (isNW true x)).bnd fun d=>M.ret (.tmp d)).bnd fun q=>(view q).bnd fun w=>lift (truW w))):=PT.imp (ZiM (ZnC ha)) fun σ H Q h=>by
 have h2:tM X.K ((ca.bnd view).bnd fun x=>lift (some (isNW true x))) σ H _:=Zh7 h
 exact op1 (r:=fun x H1 Q=>Q (.bl (decide (x=.non))) H1) h2 fun x H Hs w m d g h1 h2 v e o=>by
  cases e
  rw [(Zh1 v).1] at o
  exact o.sc
def ZkH(ha:PE X a (tP X.K ca)){j}:PT X (.Compare a [.IsNot] [.Constant .none j pos'] pos) (tT X.K ((((ca.bnd view).bnd fun x=>M.ret (isNW false x)).bnd fun d=>M.ret (.tmp d)).bnd fun q=>(view q).bnd fun w=>lift (truW w))):=PT.imp (ZiM (Zmb ha)) fun σ H Q h=>by
 have h2:tM X.K ((ca.bnd view).bnd fun x=>lift (some (isNW false x))) σ H _:=Zh7 h
 exact op1 (r:=fun x H1 Q=>Q (.bl (!decide (x=.non))) H1) h2 fun x H Hs w m d g h1 h2 v e o=>by
  cases e
  rw [(Zh1 v).2] at o
  exact o.sc
end
theorem Zh8:∀(ds es:List D)(i:Nat){d:D},(zipD ds es)[i]?=some d->∃ x y,ds[i]?=some x/\es[i]?=some y/\d=.node .tup false [x,y]
 | [],es,i,d,h=>by simp [zipD] at h
 | x::ds,[],i,d,h=>by simp [zipD] at h
 | x::ds,y::es,0,d,h=>by
  rw [zipD,List.getElem?_cons_zero] at h
  cases h
  exact ⟨x,y,rfl,rfl,rfl⟩
 | x::ds,y::es,i+1,d,h=>by
  rw [zipD,getElem?_cons_succ] at h
  obtain ⟨u,v,e1,e2,e3⟩:=Zh8 ds es i h
  exact ⟨u,v,by rw [getElem?_cons_succ];exact e1,by rw [getElem?_cons_succ];exact e2,e3⟩
theorem Ze5:∀ ds es:List D,(zipD ds es).length=min ds.length es.length
 | [],es=>by simp [zipD]
 | x::ds,[]=>by simp [zipD]
 | x::ds,y::es=>by rw [zipD,length_cons,length_cons,length_cons,Ze5 ds es];omega
def Stays(K:Fg)(B:Bud)(a:Addr)(vs:List V)(H Hs:Hp):Prop:=SqL K Hs a vs\/(H a=some (.lst vs)/\B a≥1)
def Stays.sq(g:Same Hs H)(h:Stays K B a vs H Hs):SqL K H a vs:=h.elim (fun h=>g.seq h) fun h=>.inl (.inl h.1)
def Stays.frame(h:Stays K B a vs H Hs)(g:Same Hs Hs')(k:∀ b,B b≥1->H b≠none->H' b=H b):Stays K B a vs H' Hs':=by
 rcases h with h|⟨h,hb⟩
 . exact .inl (g.seq h)
 . exact .inr ⟨(k a hb (by rw [h];simp)).trans h,hb⟩
def ZkI:Walk K (Itz K a b) (zipD ds es) B (fun H Hs=>(Stays K B a vs H Hs/\Stays K B b ws H Hs)/\RepL K H Hs vs ds (fun _=>0)/\RepL K H Hs ws es (fun _=>0)):=by
 refine ⟨fun h g k=>⟨⟨h.1.1.frame g k,h.1.2.frame g k⟩,h.2.1.frame g fun b hb=>absurd hb (by simp),h.2.2.frame g fun b hb=>absurd hb (by simp)⟩,fun{H Hs i} g h l=>?_,fun{H Hs H' i x d} g h e y=>?_,fun{H Hs i} g h l=>?_⟩
 . have e1:=h.2.1.len
   have e2:=h.2.2.len
   rw [Ze5] at l
   exact ⟨vs,ws,_,_,h.1.1.sq g,h.1.2.sq g,List.getElem?_eq_getElem (show i < vs.length by omega),List.getElem?_eq_getElem (show i < ws.length by omega)⟩
 . obtain ⟨x1,y1,e1,e2,rfl⟩:=Zh8 ds es i e
   obtain ⟨A,u,v,rfl,hA,rfl,hu,hv⟩:=y
   obtain ⟨u',m1,eu,ru,lu⟩:=h.2.1.at e1
   obtain ⟨v',m2,ev,rv,lv⟩:=h.2.2.at e2
   have qu:=hu vs (h.1.1.sq g)
   have qv:=hv ws (h.1.2.sq g)
   rw [eu] at qu
   rw [ev] at qv
   cases qu
   cases qv
   have gr:Grow H Hs (upd H A (.tup [u,v])) (upd Hs A (.tup [u,v])):=.inr ⟨A,_,hA,rfl,rfl⟩
   obtain ⟨sm,fr,_⟩:=gr.same g
   refine ⟨_,gr,.shd (k:=.tup) (vs:=[u,v]) (show _=some _ from Zj) (.cons (m1:=fun _=>0) (m2:=fun _=>0) ((ru.mono lu).frame sm fun b _ n=>fr b n) (.cons (m1:=fun _=>0) (m2:=fun _=>0) ((rv.mono lv).frame sm fun b _ n=>fr b n) (.nil _) fun b=>by simp) fun b=>by simp)⟩
 . have e1:=h.2.1.len
   have e2:=h.2.2.len
   rw [Ze5] at l
   exact ⟨vs,ws,h.1.1.sq g,h.1.2.sq g,by omega⟩
theorem Held.app:∀{l r:List (Nat×D)}{m n:Bud},Held K H Hs σ l m->Held K H Hs σ r n->Held K H Hs σ (l++r) (fun b=>m b+n b)
 | [],r,m,n,_,h=>Held.more h fun b=>by omega
 | (i,d)::l,r,m,n,⟨v,m1,m2,e,x,y,q⟩,h=>⟨v,m1,fun b=>m2 b+n b,e,x,Held.app y h,fun b=>by have:=q b;(try dsimp only);omega⟩
where
 Held.more {K:Fg} {H Hs:Hp} {σ:St}:∀{l:List (Nat×D)}{m n:Bud},Held K H Hs σ l m->(∀ b,m b<=n b)->Held K H Hs σ l n
  | [],_,_,h,_=>h
  | (i,d)::l,m,n,⟨v,m1,m2,e,x,y,q⟩,k=>⟨v,m1,m2,e,x,y,fun b=>le_trans (q b) (k b)⟩
def HW.nd_stays(hk:k=.lst\/k=.frl)(g:Same Hs Hs')(l:∀ b,B b<=B' b)(h:HW K H Hs B x (.nd k ds)):∃ a vs,x=.ref a/\Stays K B' a vs H Hs'/\RepL K H Hs' vs ds (fun _=>0):=by
 obtain ⟨a,vs,e,r,n⟩:=h
 refine ⟨a,vs,e,?_,r.frame g fun b hb=>absurd hb (by simp)⟩
 rcases hk with rfl|rfl
 . rcases n with n|n
   . exact .inl (.inl (.inl (g _ _ n)))
   . exact .inr ⟨n.1,le_trans n.2 (l a)⟩
 . rcases n with n|n
   . exact .inl (g.seq n)
   . exact n.1.elim
section
variable{es:List Expr}{k1:Nat}{l r:Expr}{ca cb:M Op}{p q:Pos}
theorem Zpu(σ:St)(H:Hp)(R:It->Hp->Prop)(h:tI X.K .zip (ca.bnd fun p=>(cb.bnd fun p=>(M.ret ([]:List Op)).bnd fun ps=>M.ret (p::ps)).bnd fun ps=>M.ret (p::ps)) σ H R):iZip X.K (ZeI (tP X.K ca) (ZeI (tP X.K cb) tNil)) σ H R:=by
 obtain ⟨δ,Hs,M,h,items,δ',g,s,e,ei,z⟩:=h
 obtain ⟨ps,δ1,e1,e2⟩:=Zb e
 obtain ⟨p1,δ2,e3,e4⟩:=Zb e1
 obtain ⟨qs,δ3,e5,e6⟩:=Zb e4
 obtain ⟨p2,δ4,e7,e8⟩:=Zb e5
 obtain ⟨y0,δ5,e9,e10⟩:=Zb e8
 have:=Ze e9
 cases this
 have:=Ze e10
 cases this
 have:=Ze e6
 cases this
 obtain ⟨w1,δ6,e11,e12⟩:=Zb e2
 obtain ⟨ws,δ7,e13,e14⟩:=Zb e12
 obtain ⟨w2,δ8,e15,e16⟩:=Zb e13
 obtain ⟨y1,δ9,e17,e18⟩:=Zb e16
 have:=Ze e17
 cases this
 have:=Ze e18
 cases this
 have:=Ze e14
 cases this
 obtain ⟨w1,h1⟩:=w1
 obtain ⟨w2,h2⟩:=w2
 refine ⟨δ,Hs,M,p1,δ2,g,s,e3,fun x H1 Hs1 m1 M1 g1 st1 r1 s1=>⟨δ2,Hs1,M1,p2,_,g1.re,s1,e7,fun y H2 Hs2 m2 M2 g2 st2 r2 s2=>?_⟩⟩
 obtain ⟨G2,S2,k2⟩:=Zo g g1 st1 g2 st2
 have r1':=RepP.frame st2.grow k2 r1
 obtain ⟨Hs3,B3,M3,g3,st3,s3,hh3,hw3⟩:=ZbG (m:=m1) (M:=M2) (G2.re fun b=>by (try dsimp only);omega) s2 r1' e11
 have G2':Good H2 Hs2 (fun b=>m2 b+(m1 b+M2 b)):=G2.re fun b=>by (try dsimp only);omega
 have S2':Stp H Hs M H2 Hs2 (fun b=>m2 b+(m1 b+M2 b)):=S2.drop (fun b=>by (try dsimp only);omega) G2.le
 obtain ⟨G3,S3,k3⟩:=Zo (m1:=m2) g G2' S2' g3 st3
 have r2':RepP X.K H2 Hs3 σ y p2 m2:=RepP.frame st3.grow k3 r2
 obtain ⟨Hs4,B4,M4,g4,st4,s4,hh4,hw4⟩:=ZbG (m:=m2) (M:=M3) (G3.re fun b=>by (try dsimp only);omega) s3 r2' e15
 have G3':Good H2 Hs3 (fun b=>B3 b+(m2 b+M3 b)):=G3.re fun b=>by (try dsimp only);omega
 have S3':Stp H Hs M H2 Hs3 (fun b=>B3 b+(m2 b+M3 b)):=S3.drop (fun b=>by (try dsimp only);omega) G3.le
 obtain ⟨G4,S4,k4⟩:=Zo (m1:=B3) g G3' S3' g4 st4
 cases w1 with
 | sc u=>cases ei
 | nd k ds=>
  cases w2 with
  | sc u=>cases ei
  | nd k' ds'=>
   have hkk:((k=.lst\/k=.frl)/\(k'=.lst\/k'=.frl))/\items=zipD ds ds':=by
    simp only [itW,zipI] at ei
    split at ei
    . rename_i hk;cases ei;exact ⟨hk,rfl⟩
    . cases ei
   obtain ⟨⟨hk,hk'⟩,rfl⟩:=hkk
   obtain ⟨a,vs,rfl,sa,ra⟩:=HW.nd_stays (B':=fun b=>B3 b+B4 b) hk st4.grow (fun b=>by omega) hw3
   obtain ⟨b,us,rfl,sb,rb⟩:=HW.nd_stays (B':=fun b=>B3 b+B4 b) hk' (Same.refl _) (fun b=>by omega) hw4
   have gg:Good H2 Hs4 (fun b=>(fun b=>B3 b+B4 b) b+M4 b):=G4.re fun b=>by (try dsimp only);omega
   have hh:=Held.app (hh3.frame st4.grow fun b _ _=>rfl) hh4
   exact ⟨a,b,rfl,⟨vs,sa.sq gg.sub⟩,⟨us,sb.sq gg.sub⟩,z _ _ H2 Hs4 (fun b=>B3 b+B4 b) M4 gg (S4.drop (fun b=>by (try dsimp only);omega) G4.le) s4 (by simpa using hh) ZkI ⟨⟨sa,sb⟩,ra,rb⟩⟩
def Zpv(hg:Gl X "zip")(hm:X.mg "zip"=none)(hl:PE X l (tP X.K ca))(hr:PE X r (tP X.K cb))(hs:autoParam (starEach [l,r] X.env=[(false,eval l X.env),(false,eval r X.env)]) Q9)(hs2:autoParam (starEach [r] X.env=[(false,eval r X.env)]) Q9):
 PI X (.Tuple es k1 q) (.Call (.Name "zip" p) [l,r] [] pos) (tI X.K .zip (ca.bnd fun p=>(cb.bnd fun p=>(M.ret ([]:List Op)).bnd fun ps=>M.ret (p::ps)).bnd fun ps=>M.ret (p::ps))):=
 PI.imp (Zov hg hm (Zao hl (Zao hr Zbc (by show _=_;rw [hs2];rfl)) (by show _=_;rw [hs,hs2])) hs hs2) fun σ H R h=>Zpu σ H R h
end
def NX{α:Type}(c:M α):Prop:=∀ δ x δ',c δ≠.exc x δ'
section
def Zc4(a:α):NX (M.ret a):=fun δ x δ' h=>by cases h
def Zc5:NX (stk (α:=α)):=fun δ x δ' h=>by cases h
def Zdn(h:NX c)(k:∀ a,NX (f a)):NX (c.bnd f):=fun δ x δ' e=>by
 unfold M.bnd at e
 split at e
 . exact k _ _ _ _ e
 . rename_i y z q;exact h _ _ _ q
 . cases e
end
theorem ZkJ(l:Bool)(p:Op):NX (takeA l p):=by
 cases p with
 | tmp d=>exact Zc4 _
 | late i=>intro δ x δ' h;unfold takeA at h;dsimp only at h;split at h<;>(first|cases h|(split at h<;>cases h))
theorem ZdP(l:Bool):∀ ps,NX (Zar l ps)
 | []=>Zc4 _
 | p::ps=>Zdn (ZkJ l p) fun _=>Zdn (ZdP l ps) fun _=>Zc4 _
theorem ZmY(A:Addr)(m:Str)(p:Op):NX (chkI A m p):=by
 cases p with
 | late i=>intro δ x δ' h;unfold chkI at h;dsimp only at h;split at h<;>(first|cases h|(split at h<;>cases h))
 | tmp d=>
  cases d with
  | node k o ds=>
   cases k with
   | ins B fs=>intro δ x δ' h;unfold chkI at h;dsimp only at h;split at h<;>cases h
   | _=>exact Zc5
  | _=>exact Zc5
def Zf1(lk:Nat->Bool)(i:Nat)(d:D):NX (asgN lk i d):=fun δ x δ' h=>by unfold asgN at h;split at h<;>cases h
theorem Zg6(lk:Nat->Bool):∀ is ds,NX (Zbl lk is ds)
 | [],[]=>Zc4 _
 | i::is,d::ds=>Zdn (Zf1 lk i d) fun _=>Zg6 lk is ds
 | [],_::_=>Zc5
 | _::_,[]=>Zc5
theorem ZmZ(lk:Nat->Bool)(t:Tg)(d:D):NX (asgT lk t d):=by
 cases t with
 | name i=>exact Zf1 _ _ _
 | tup is=>
  cases d with
  | node k o ds=>cases k<;>first|exact Zg6 _ _ _|exact Zc5
  | _=>exact Zc5
theorem ZkK(p:Op):NX (holdV p):=by
 cases p with
 | tmp d=>cases d<;>first|exact Zc4 _|exact Zc5
 | late i=>intro δ x δ' h;unfold holdV at h;dsimp only at h;split at h<;>cases h
theorem ZfP:∀ ps,NX (Zu ps)
 | []=>Zc4 _
 | p::ps=>Zdn (ZkK p) fun _=>Zdn (ZfP ps) fun _=>Zc4 _
def Zdo(c:M α):NX (clm c):=fun δ x δ' h=>by
 replace h:clmR (c δ)=_:=h
 cases e:c δ<;>rw [e] at h<;>cases h
def ZdQ(h:clm c δ=.ok z):c δ=.ok z:=by
 replace h:clmR (c δ)=_:=h
 cases e:c δ<;>rw [e] at h<;>cases h
 rfl
def ZjA(h:PA X es (tPs X.K c)):PA X es (tPs X.K (clm c)):=PA.imp h fun σ H Q z=>by
 obtain ⟨δ,Hs,M,a,δ',g,s,e,q⟩:=z
 exact ⟨δ,Hs,M,a,δ',g,s,ZdQ e,q⟩
def Zpw(h:PE X o (tP X.K c)):PE X o (tP X.K (clm c)):=PE.imp h fun σ H Q z=>by
 obtain ⟨δ,Hs,M,a,δ',g,s,e,q⟩:=z
 exact ⟨δ,Hs,M,a,δ',g,s,ZdQ e,q⟩
def Zpx(h:PT X o (tT X.K c)):PT X o (tT X.K (clm c)):=PT.imp h fun σ H Q z=>by
 obtain ⟨δ,Hs,M,a,δ',g,s,e,q⟩:=z
 exact ⟨δ,Hs,M,a,δ',g,s,ZdQ e,q⟩
def Zpy(h:PS X st (tS X.K lk c)):PS X st (tS X.K lk (clm c)):=PS.imp h fun E σ H z=>by
 obtain ⟨δ,Hs,M,a,δ',g,s,e,q⟩:=z
 exact ⟨δ,Hs,M,a,δ',g,s,ZdQ e,q⟩
def Zh9(h:(clm c).bnd f δ=.ok z):c.bnd f δ=.ok z:=by
 obtain ⟨a,δ1,e1,e2⟩:=Zb h
 rw [Zgy (ZdQ e1)]
 exact e2
def Zpz(h:PI X tg it (tI X.K ik c)):PI X tg it (tI X.K ik (clm c)):=PI.imp h fun σ H R z=>by
 obtain ⟨δ,Hs,M,a,is,δ',g,s,e,f,q⟩:=z
 exact ⟨δ,Hs,M,a,is,δ',g,s,Zh9 e,f,q⟩
def Zp0(h:HWs c lk):HWs (clm c) lk:=fun δ w δ' e=>h δ w δ' (Zh9 e)
def Zen(K:Fg)(lk:Nat->Bool)(xc:Addr->St->Hp->Prop)(σ:St)(H Hs:Hp)(M:Bud)(x:D)(δ':List D):Prop:=
 ∀(ea:Addr)(σ':St)(H' Hs':Hp)(m M':Bud),Keeps lk σ σ'->Good H' Hs' (fun b=>m b+M' b)->Stp H Hs M H' Hs' (fun b=>m b+M' b)->Rep K H' Hs' (.ref ea) x m->RepS K H' Hs' σ' δ' M'->xc ea σ' H'
def Za6(K:Fg)(lk:Nat->Bool)(E:EndX)(σ:St)(H Hs:Hp)(M:Bud):Rs (Fl×List D)->Prop
 | .ok (f,δ')=>Post K lk E.toEnds σ H Hs M f δ'
 | .exc x δ'=>Zen K lk E.xc σ H Hs M x δ'
 | .stuck=>False
def tX(K:Fg)(lk:Nat->Bool)(c:M Fl):TX:=fun E σ H=>∃(δ:List D)(Hs:Hp)(M:Bud),Good H Hs M/\RepS K H Hs σ δ M/\Za6 K lk E σ H Hs M (c δ)
section
variable{K:Fg}{H' H0 Hs0:Hp}{M M0:Bud}
theorem Good.up(g:Good H Hs M)(k:Same H H'):Good H' Hs M:=⟨fun b o e=>k b o (g.sub b o e),g.le,g.ne,fun b h=>by
 have:=g.has b h
 cases e:H b with
 | none=>exact absurd e this
 | some o=>rw [k b o e];simp⟩
theorem Stp.up(s:Stp H0 Hs0 M0 H Hs M)(k:Same H H'):Stp H0 Hs0 M0 H' Hs M:=⟨fun b o e z=>k b o (s.keep b o e z),s.own,s.grow,s.shr,fun b h=>by
 have:=s.stay b h
 cases e:H b with
 | none=>exact absurd e this
 | some o=>rw [k b o e];simp⟩
theorem ZbK(k:Same H H'):∀ b,H b≠none->H' b=H b:=fun b h=>by
 cases e:H b with
 | none=>exact absurd e h
 | some o=>exact k b o e
def Zen.ahead{xc:Addr->St->Hp->Prop}{M1:Bud}{x:D}{δ':List D}(k:Keeps lk σ σ1)(g:Good H Hs M)(g1:Good H1 Hs1 M1)(st:Stp H Hs M H1 Hs1 M1)(h:Zen K lk xc σ H Hs M x δ'):Zen K lk xc σ1 H1 Hs1 M1 x δ':=
 fun ea σ' H' Hs' m M' k' g' st' rv r=>h ea σ' H' Hs' m M' (k.trans k') g' (by
  have z:=Zo (m1:=fun _=>0) g (g1.re fun b=>by simp) (st.drop (fun b=>by simp) g1.le) g' st'
  exact z.2.1.drop (fun b=>by simp) z.1.le) rv r
theorem Za6.ahead{E:EndX}{M1:Bud}{r:Rs (Fl×List D)}(k:Keeps lk σ σ1)(g:Good H Hs M)(g1:Good H1 Hs1 M1)(st:Stp H Hs M H1 Hs1 M1)(h:Za6 K lk E σ H Hs M r):Za6 K lk E σ1 H1 Hs1 M1 r:=by
 cases r with
 | ok z=>exact Post.ahead k g g1 st h
 | exc x δ'=>exact Zen.ahead k g g1 st h
 | stuck=>exact h
end
section
variable{e a b c o:Expr}{st:Stmt}{rest:List Stmt}{i:Nat}{x:Str}
theorem ZjB{c:M Fl}(h:PS X st (tS X.K lk c))(n:NX c):PX X st (tX X.K lk c):=PX.imp (PS.x h) fun E σ H z0=>by
 obtain ⟨δ,Hs,M,g,s,q⟩:=z0
 cases e:c δ with
 | ok z=>rw [e] at q;exact ⟨δ,Hs,M,z.1,z.2,g,s,e,q⟩
 | exc x δ'=>exact absurd e (n _ _ _)
 | stuck=>rw [e] at q;exact q.elim
def ZP{C:Ctx}{s:S}(h:PS X st (tS X.K lk (ex C s))):PX X st (tX X.K lk (ex C (.lf s))):=ZjB (Zpy h) (Zdo _)
def ZjC:PX X st (tX X.K lk stk):=fun pins s σ H E I z90=>by obtain ⟨δ,Hs,M,g,_,q⟩:=z90;exact q.elim
def ZD:PXs X [] (tX X.K lk (M.ret .nx)):=PXs.imp Zmz fun E σ H z90=>by obtain ⟨δ,Hs,M,g,s,q⟩:=z90;exact q σ H Hs M (Keeps.refl _ _) g (Stp.refl _ _ _) s
theorem Zr{c r:M Fl}(h1:PX X st (tX X.K lk c))(h2:PXs X rest (tX X.K lk r)):PXs X (st::rest) (tX X.K lk (seqL c r)):=PXs.imp (Zkq h1 h2) fun E σ H z0=>by
 obtain ⟨δ,Hs,M,g,s,q⟩:=z0
 refine ⟨δ,Hs,M,g,s,?_⟩
 unfold seqL T.M.bnd at q
 cases e:c δ with
 | ok z=>
  obtain ⟨f,δ1⟩:=z
  rw [e] at q
  cases f with
  | nx=>exact fun σ' H' Hs' M' k g' st' r=>⟨δ1,Hs',M',g',r,Za6.ahead k g g' st' q⟩
  | bk=>exact q
  | ct=>exact q
  | rt d=>exact q
 | exc x δ'=>rw [e] at q;exact q
 | stuck=>rw [e] at q;exact q
theorem Zna(n:NX cc)(hc:PT X c (tT X.K cc))(ha:PXs X A (tX X.K lk ca))(hb:PXs X B (tX X.K lk cb)):PX X (.If c A B pos) (tX X.K lk (cc.bnd fun t=>if t then ca else cb)):=PX.imp (Zqt hc ha hb) fun E σ H z0=>by
 obtain ⟨δ,Hs,M,g,s,q⟩:=z0
 unfold T.M.bnd at q
 cases e:cc δ with
 | ok z=>
  obtain ⟨t,δ1⟩:=z
  rw [e] at q
  refine ⟨δ,Hs,M,t,δ1,g,s,e,fun H' Hs' M' g' st' s'=>?_⟩
  cases t with
  | true=>exact ⟨δ1,Hs',M',g',s',Za6.ahead (Keeps.refl _ _) g g' st' q⟩
  | false=>exact ⟨δ1,Hs',M',g',s',Za6.ahead (Keeps.refl _ _) g g' st' q⟩
 | exc x δ'=>exact absurd e (n _ _ _)
 | stuck=>rw [e] at q;exact q.elim
def ZbZ(hc:PT X c (tT X.K (evb C ce).2))(ha:PXs X A (tX X.K lk (exs C sa)))(hb:PXs X B (tX X.K lk (exs C sb))):PX X (.If c A B pos) (tX X.K lk (ex C (.ifX ce sa sb))):=Zna (Zdo _) (Zpx hc) ha hb
end
section
theorem Zca:∀(h:List (Nat×D))(δ:List D),∃ δ',ZN h δ=.ok ((),δ')
 | [],δ=>⟨δ,rfl⟩
 | (i,d)::r,δ=>Zca r (δ.set i d)
theorem ZkL(F:Fr0 X X.A)(hx:∀ e s,¬ X.xe e s)(hc:X.calm=true)(hl:LkLe lk lk')(hw:HWs cs lk')
 (hi:PI X tg iter (tI X.K ik cs)) (hg:PG X tg (gT X.K tgt)) (hb:PXs X body (tX X.K lk' cb)) (hs:∀ x,foldedSetIterable iter X.env x=pure x:=by intro _;rfl):
 PX X (.For tg iter body [] pos) (tX X.K lk ((clm cs).bnd fun ps=>(Zu ps).bnd fun h=>(lift (itW ik h.1)).bnd fun items δ=>finB h.2 (forL (asgT lk' tgt) cb items δ))):=by
 have nx:=Zdo cs
 replace hw:=Zp0 hw
 replace hi:=Zpz hi
 generalize clm cs=cs at nx hw hi ⊢
 refine PX.imp (Zog F hx hc hi hg hb hs) fun E σ H z0=>?_
 obtain ⟨δ,Hs,M,g,s,q⟩:=z0
 have nx2:NX (cs.bnd Zu):=Zdn nx fun p=>ZfP p
 have hbb:(cs.bnd fun ps=>(Zu ps).bnd fun h=>(lift (itW ik h.1)).bnd fun items δ=>finB h.2 (forL (asgT lk' tgt) cb items δ)) δ=((cs.bnd Zu).bnd fun h=>(lift (itW ik h.1)).bnd fun items δ=>finB h.2 (forL (asgT lk' tgt) cb items δ)) δ:=by
  unfold T.M.bnd
  cases cs δ<;>rfl
 rw [hbb] at q
 cases e12:(cs.bnd Zu) δ with
 | exc x δ'=>exact absurd e12 (nx2 _ _ _)
 | stuck=>unfold T.M.bnd at e12 q;rw [e12] at q;exact q.elim
 | ok z=>
  obtain ⟨hh,δ3⟩:=z
  have q:Za6 X.K lk E σ H Hs M (((lift (itW ik hh.1)).bnd fun items δ=>finB hh.2 (forL (asgT lk' tgt) cb items δ)) δ3):=by
   have:((cs.bnd Zu).bnd fun h=>(lift (itW ik h.1)).bnd fun items δ=>finB h.2 (forL (asgT lk' tgt) cb items δ)) δ=((lift (itW ik hh.1)).bnd fun items δ=>finB hh.2 (forL (asgT lk' tgt) cb items δ)) δ3:=by
    show T.M.bnd (cs.bnd Zu) _ δ=_
    unfold T.M.bnd at e12 ⊢
    rw [e12]
   rw [this] at q
   exact q
  cases e3':itW ik hh.1 with
  | none=>rw [e3'] at q;exact q.elim
  | some items=>
   rw [e3'] at q
   have q:Za6 X.K lk E σ H Hs M (finB hh.2 (forL (asgT lk' tgt) cb items δ3)):=q
   have locked:=hw _ _ _ e12
   refine ⟨δ,Hs,M,hh,items,δ3,g,s,e12,e3',fun J Pp H1 Hs1 B M1 g1 st1 s1 held wk pp=>?_⟩
   have kl:∀{σ1 σ2:St},Keeps lk' σ1 σ2->Keeps lk σ1 σ2:=fun k i h=>k i (hl i h)
   refine ⟨fun i m σ2 H2=>m=items.length - i/\i<=items.length/\Keeps lk' σ σ2/\∃(δ2:List D)(Hs2:Hp)(M2:Bud),Good H2 Hs2 (fun b=>B b+M2 b)/\Stp H Hs M H2 Hs2 (fun b=>B b+M2 b)/\RepS X.K H2 Hs2 σ2 δ2 M2/\Held X.K H2 Hs2 σ2 hh.2 B/\Pp H2 Hs2/\Za6 X.K lk E σ H Hs M (finB hh.2 (forL (asgT lk' tgt) cb (items.drop i) δ2)),
    ⟨items.length,by simp,zero_le _,Keeps.refl _ _,δ3,Hs1,M1,g1,st1,s1,held,pp,by rw [drop_zero];exact q⟩,?_⟩
   rintro i m σ2 H2 ⟨rfl,hle,k2,δ2,Hs2,M2,g2,st2,s2,held2,pp2,q7⟩
   by_cases hlt:i < items.length
   . right
     have hd:items[i]?=some (items[i]'(by omega)):=List.getElem?_eq_getElem (by omega)
     have hdrop:items.drop i=items[i]'(by omega)::items.drop (i+1):=drop_eq_getElem_cons (by omega)
     rw [hdrop,ZaH] at q7
     refine ⟨wk.go g2.sub pp2 hlt,fun σ3 H3=>Keeps lk' σ σ3/\∃(δ2:List D)(Hs2:Hp)(M2:Bud),Good H3 Hs2 (fun b=>B b+M2 b)/\Stp H Hs M H3 Hs2 (fun b=>B b+M2 b)/\RepS X.K H3 Hs2 σ3 δ2 M2/\Held X.K H3 Hs2 σ3 hh.2 B/\Pp H3 Hs2/\Za6 X.K lk E σ H Hs M (finB hh.2 (forL (asgT lk' tgt) cb (items.drop (i+1)) δ2)),
      fun σ3 H3 z90=>by obtain ⟨k3,z⟩:=z90;exact ⟨items.length - (i+1),by omega,rfl,hlt,k3,z⟩,fun x H' y=>?_⟩
     obtain ⟨Hs3,gr,rv⟩:=wk.yld g2.sub pp2 hd y
     obtain ⟨sm,fr,_⟩:=gr.same g2.sub
     have pp2:=wk.stay pp2 sm fun b _ n=>fr b n
     have s2:=RepS.frame sm (fun b _ n=>fr b n) s2
     have held2:=held2.frame sm fun b _ n=>fr b n
     have st2:=gr.stp g2 st2
     have g2:=gr.good g2
     clear gr sm fr y
     generalize Hs3=Hs2 at *
     cases e8:asgT lk' tgt (items[i]'(by omega)) δ2 with
     | exc x δ'=>exact absurd e8 (ZmZ _ _ _ _ _ _)
     | stuck=>rw [show ((asgT lk' tgt (items[i]'(by omega))).bnd fun _=>cb) δ2=.stuck by show T.M.bnd _ _ δ2=_;unfold T.M.bnd;rw [e8]] at q7;exact q7.elim
     | ok z=>
      obtain ⟨u1,δ5'⟩:=z
      rw [show ((asgT lk' tgt (items[i]'(by omega))).bnd fun _=>cb) δ2=cb δ5' by show T.M.bnd _ _ δ2=_;unfold T.M.bnd;rw [e8]] at q7
      refine Zfv (Hs:=Hs2) g2.sub e8 rv s2 fun σ3 k3 s3=>?_
      refine ⟨δ5',Hs2,M2,g2.re,s3,?_⟩
      have held3:Held X.K H' Hs2 σ3 hh.2 B:=held2.keeps k3 locked
      have nxt:∀{σ4:St}{H4 Hs4:Hp}{M4:Bud},Keeps lk' σ3 σ4->Good H4 Hs4 M4->Stp H' Hs2 M2 H4 Hs4 M4->
       Keeps lk' σ σ4/\Good H4 Hs4 (fun b=>B b+M4 b)/\Stp H Hs M H4 Hs4 (fun b=>B b+M4 b)/\Held X.K H4 Hs4 σ4 hh.2 B/\Pp H4 Hs4:=fun{σ4 H4 Hs4 M4} k4 g4 st4=>by
       obtain ⟨G,S,kk⟩:=Zo g g2 st2 g4 st4
       exact ⟨k2.trans (k3.trans k4),G,S,(held3.keeps k4 locked).frame st4.grow kk,wk.stay pp2 st4.grow kk⟩
      cases e10:cb δ5' with
      | stuck=>rw [e10] at q7;exact q7.elim
      | exc x δ6=>
       rw [e10] at q7
       obtain ⟨δ7,e11⟩:=Zca hh.2 δ6
       have q8:Zen X.K lk E.xc σ H Hs M x δ7:=by
        have:Za6 X.K lk E σ H Hs M (match ZN hh.2 δ6 with|.ok (_,δ')=>.exc x δ'|_=>.stuck):=q7
        rw [e11] at this
        exact this
       refine fun ea σ4 H4 Hs4 m4 M4 k4 g4 st4 rd s4=>?_
       obtain ⟨a1,a2,a3,a4,a6⟩:=nxt k4 g4 st4
       exact q8 ea σ4 H4 Hs4 m4 (fun b=>B b+M4 b) (kl a1) (a2.re fun b=>by (try dsimp only);omega) (a3.drop (fun b=>by (try dsimp only);omega) a2.le) rd (ZaU e11 a4 s4)
      | ok z=>
       obtain ⟨fl,δ6⟩:=z
       rw [e10] at q7
       cases fl with
       | nx=>
        refine fun σ4 H4 Hs4 M4 k4 g4 st4 s4=>?_
        obtain ⟨a1,a2,a3,a4,a6⟩:=nxt k4 g4 st4
        exact ⟨a1,δ6,Hs4,M4,a2,a3,s4,a4,a6,q7⟩
       | ct=>
        refine fun σ4 H4 Hs4 M4 k4 g4 st4 s4=>?_
        obtain ⟨a1,a2,a3,a4,a6⟩:=nxt k4 g4 st4
        exact ⟨a1,δ6,Hs4,M4,a2,a3,s4,a4,a6,q7⟩
       | bk=>
        obtain ⟨δ7,e11⟩:=Zca hh.2 δ6
        have q8:Post X.K lk E.toEnds σ H Hs M .nx δ7:=by
         have:Za6 X.K lk E σ H Hs M (((ZN hh.2).bnd fun _=>T.M.ret Fl.nx) δ6):=q7
         rw [show ((ZN hh.2).bnd fun _=>T.M.ret Fl.nx) δ6=.ok (.nx,δ7) by show T.M.bnd _ _ δ6=_;unfold T.M.bnd;rw [e11];rfl] at this
         exact this
        refine fun σ4 H4 Hs4 M4 k4 g4 st4 s4=>?_
        obtain ⟨a1,a2,a3,a4,a6⟩:=nxt k4 g4 st4
        exact q8 σ4 H4 Hs4 _ (kl a1) a2 a3 (ZaU e11 a4 s4)
       | rt d=>
        obtain ⟨δ7,e11⟩:=Zca hh.2 δ6
        have q8:Post X.K lk E.toEnds σ H Hs M (.rt d) δ7:=by
         have:Za6 X.K lk E σ H Hs M (((ZN hh.2).bnd fun _=>T.M.ret (Fl.rt d)) δ6):=q7
         rw [show ((ZN hh.2).bnd fun _=>T.M.ret (Fl.rt d)) δ6=.ok (.rt d,δ7) by show T.M.bnd _ _ δ6=_;unfold T.M.bnd;rw [e11];rfl] at this
         exact this
        refine fun v σ4 H4 Hs4 m4 M4 k4 g4 st4 rd s4=>?_
        obtain ⟨a1,a2,a3,a4,a6⟩:=nxt k4 g4 st4
        exact q8 v σ4 H4 Hs4 m4 (fun b=>B b+M4 b) (kl a1) (a2.re fun b=>by (try dsimp only);omega) (a3.drop (fun b=>by (try dsimp only);omega) a2.le) rd (ZaU e11 a4 s4)
   . left
     have hi:i=items.length:=by omega
     have hd0:items.drop i=[]:=by rw [hi];simp
     rw [hd0,Zru] at q7
     obtain ⟨δ7,e11⟩:=Zca hh.2 δ2
     have q8:Post X.K lk E.toEnds σ H Hs M .nx δ7:=by
      have:Za6 X.K lk E σ H Hs M (((ZN hh.2).bnd fun _=>T.M.ret Fl.nx) δ2):=q7
      rw [show ((ZN hh.2).bnd fun _=>T.M.ret Fl.nx) δ2=.ok (.nx,δ7) by show T.M.bnd _ _ δ2=_;unfold T.M.bnd;rw [e11];rfl] at this
      exact this
     exact ⟨wk.stop g2.sub pp2 (by omega),q8 σ2 H2 Hs2 _ (kl k2) g2 st2 (ZaU e11 held2 s2)⟩
end
def spX(K:Fg)(F:List D->Rs (D×List D)):Sp:=fun vs H Q E=>∃(ds:List D)(Hs:Hp)(m:Bud),Good H Hs m/\RepL K H Hs vs ds m/\match F ds with
 | .ok (d,ds')=>∀(v:V)(H' Hs':Hp)(m1 m':Bud),Good H' Hs' (fun b=>m1 b+m' b)->Stp H Hs m H' Hs' (fun b=>m1 b+m' b)->Rep K H' Hs' v d m1->RepL K H' Hs' vs ds' m'->Q v H'
 | .exc x ds'=>∀(ea:Addr)(H' Hs':Hp)(m1 m':Bud),Good H' Hs' (fun b=>m1 b+m' b)->Stp H Hs m H' Hs' (fun b=>m1 b+m' b)->Rep K H' Hs' (.ref ea) x m1->RepL K H' Hs' vs ds' m'->E (.ref ea) none H'
 | .stuck=>False
section
def ZhA(F:Fun K x qual st f fd)(Sc:FnScope N ps (Zp st))(hn:ps.length=n)(hN:N.length=nN)
 (hb:∀(cdv:Value)(A:Around)(outer:List Env)(s:Shared)(H:Hp)(E:XK),Fr0 (cxOf CX0 P w K mg base N qual (Zp st) f cdv A outer s H E).nox (A.deeper (PyProof.Rows.envOfC qual (Zp st) s.heap.objs.size f cdv))->Room k (A.deeper (PyProof.Rows.envOfC qual (Zp st) s.heap.objs.size f cdv))->
  PXs (cxOf CX0 P w K mg base N qual (Zp st) f cdv A outer s H E).nox (Zae st) (tX K (fun i=>decide (i < n)) (exs { C with lock:=fun i=>decide (i < n) } body))):
 FnOk P w K mg base (CXx P w) (k+1) f fd ps (spX K (Zi C n nN body)):=by
 subst hn hN
 obtain ⟨oc,od,kV,doc,pm,an,cdv,ct,osl,rfl,lk,hcd⟩:=F.ex
 refine Zoh lk hcd Sc (fun vs H Q E h=>?_) fun A outer s H vs Q E hr h=>⟨_,fun hfr=>hb cdv A outer s H E ⟨rfl,rfl,Around.frames_deeper hfr⟩ hr,?_⟩
 . obtain ⟨ds,Hs,m,g,r,q⟩:=h
   unfold Zi at q
   rw [r.len]
   split at q
   . rename_i hl
     split at hl
     . assumption
     . cases hl
   . rename_i hl
     split at hl
     . assumption
     . cases hl
   . exact q.elim
 . obtain ⟨ds,Hs,m,g,r,q⟩:=h
   unfold Zi at q
   by_cases hl:ds.length=ps.length
   . rw [if_pos hl] at q
     have hv:vs.length=ps.length:=by rw [r.len];exact hl
     have hr0:=ZfN (N:=N) r
     rw [hl] at hr0
     refine ⟨_,Hs,m,g,hr0,?_⟩
     have back:∀{δ':List D}{σ':St}{H' Hs':Hp}{M':Bud},Keeps (fun i=>decide (i < ps.length)) (L2.start N vs) σ'->RepS K H' Hs' σ' δ' M'->RepL K H' Hs' vs (δ'.take ps.length) M':=fun k' s'=>by
      have z:=s'.take ps.length
      rw [ZeX hv k'] at z
      exact RepS.toL z
     cases he:exs { C with lock:=fun i=>decide (i < ps.length) } body (ds++replicate (N.length - ps.length) .hole) with
     | ok z=>
      obtain ⟨fl,δ'⟩:=z
      rw [he] at q
      cases fl with
      | nx=>exact fun σ' H' Hs' M' k' g' st' s'=>q .non H' Hs' (fun _=>0) M' (Za4 g') (st'.drop (fun b=>by simp) g'.le) (.sc _ _) (back k' s')
      | rt dd=>exact fun v σ' H' Hs' m1 M' k' g' st' rv s'=>q v H' Hs' m1 M' g' st' rv (back k' s')
      | bk=>exact q.elim
      | ct=>exact q.elim
     | exc x y=>
      rw [he] at q
      exact fun ea σ' H' Hs' m1 M' k' g' st' rv s'=>q ea H' Hs' m1 M' g' st' rv (back k' s')
     | stuck=>rw [he] at q;exact q.elim
   . rw [if_neg hl] at q
     exact q.elim
theorem FnOk.calm(F:FnOk P w K mg base (CXx P w) k f fd ps (spX K R)):FnOk P w K mg base CX0 k f fd ps (spF K R):=by
 have im:∀{vs:List V}{H:Hp}{Q:VK}{E:XK},spF K R vs H Q E->spX K R vs H Q E0:=fun{vs H Q E} h=>by
  obtain ⟨ds,Hs,m,d,ds',g,r,e,q⟩:=h
  refine ⟨ds,Hs,m,g,r,?_⟩
  rw [e]
  exact q
 refine ⟨fun vs H Q E h=>F.len vs H Q E0 (im h),fun A outer s H args us vs Q E hr e0 hb hv hs=>codeAny_mono (F.run A outer s H args us vs Q E0 hr e0 hb hv (im hs)) fun r s' h=>?_⟩
 cases r with
 | error e=>
  obtain ⟨ea,H',rfl,os,bare,un,hok,fl,q⟩:=h
  exact q H' (Same.refl _)
 | ok fl=>cases fl<;>exact h
end
structure FnAtX(P:Program)(w:World)(K:Fg)(mg:SO)(base:Heap)(x:Str)(k:Nat)(ps:List Str)(sp:Sp):Prop where
 ex:∃(f:Addr)(fd:FuncData),FnOk P w K mg base (CXx P w) k f fd ps sp/\mg x=some (.ref f)/\keepIn K (.ref f)=true/\Binds K fd ps []
def FnAtX.calm(G:FnAtX P w K mg base x k ps (spX K R)):FnAt P w K mg base x k ps (spF K R):=by
 obtain ⟨f,fd,F,h⟩:=G.ex
 exact ⟨f,fd,FnOk.calm F,h⟩
noncomputable def tMX(K:Fg)(c:M D):TEX:=fun σ H Q Ex=>∃(δ:List D)(Hs:Hp)(M:Bud),Good H Hs M/\RepS K H Hs σ δ M/\match c δ with
 | .ok (d,δ')=>∀(v:V)(H' Hs':Hp)(m M':Bud),Good H' Hs' (fun b=>m b+M' b)->Stp H Hs M H' Hs' (fun b=>m b+M' b)->Rep K H' Hs' v d m->RepS K H' Hs' σ δ' M'->Q v H'
 | .exc x δ'=>∀(ea:Addr)(H' Hs':Hp)(m M':Bud),Good H' Hs' (fun b=>m b+M' b)->Stp H Hs M H' Hs' (fun b=>m b+M' b)->Rep K H' Hs' (.ref ea) x m->RepS K H' Hs' σ δ' M'->Ex ea H'
 | .stuck=>False
theorem Zcm:∀(ps:List Op)(ds:List D)(δ:List D),∃ δ',ZC ps ds δ=.ok ((),δ')
 | [],ds,δ=>⟨δ,by unfold ZC;rfl⟩
 | _::_,[],δ=>⟨δ,by unfold ZC;rfl⟩
 | p::ps,d::ds,δ=>by
  have:∃ δ1,ZaB p d δ=.ok ((),δ1):=by
   cases p with
   | tmp d'=>exact ⟨δ,rfl⟩
   | late i=>
    unfold ZaB
    dsimp only
    split
    . exact ⟨_,rfl⟩
    . exact ⟨_,rfl⟩
  obtain ⟨δ1,e1⟩:=this
  obtain ⟨δ2,e2⟩:=Zcm ps ds δ1
  refine ⟨δ2,?_⟩
  show T.M.bnd _ _ δ=_
  unfold T.M.bnd
  rw [e1]
  exact e2
theorem ZjD{K:Fg}{M m1 M1:Bud}{δ1:List D}{ps:List Op}{vs:List V}{Q:VK}{Ex:Addr->Hp->Prop}(g:Good H Hs M)(g1:Good H1 Hs1 (fun b=>m1 b+M1 b))(st1:Stp H Hs M H1 Hs1 (fun b=>m1 b+M1 b))
 (r1:ZaP K H1 Hs1 σ vs ps m1) (s1:RepS K H1 Hs1 σ δ1 M1)
 (q:match Zdy fi ps δ1 with
  | .ok (d,δ')=>∀(v:V)(H' Hs':Hp)(m M':Bud),Good H' Hs' (fun b=>m b+M' b)->Stp H Hs M H' Hs' (fun b=>m b+M' b)->Rep K H' Hs' v d m->RepS K H' Hs' σ δ' M'->Q v H'
  | .exc x δ'=>∀(ea:Addr)(H' Hs':Hp)(m M':Bud),Good H' Hs' (fun b=>m b+M' b)->Stp H Hs M H' Hs' (fun b=>m b+M' b)->Rep K H' Hs' (.ref ea) x m->RepS K H' Hs' σ δ' M'->Ex ea H'
  | .stuck=>False):spX K fi.run vs H1 Q (fun v _ H'=>∃ ea,v=.ref ea/\Ex ea H'):=by
 unfold Zdy T.M.bnd at q
 cases e2:Zar fi.lend ps δ1 with
 | exc x y=>exact absurd e2 (ZdP _ _ _ _ _)
 | stuck=>rw [e2] at q;exact q.elim
 | ok z=>
  obtain ⟨ds,δ2⟩:=z
  rw [e2] at q
  dsimp only at q
  obtain ⟨Hs2,m2,M2,g2,st2,q2,s2⟩:=Zc0 (B:=fun _=>0) (g1.re fun b=>by simp) s1 r1 e2
  have z0:=Zo (m1:=fun _=>0) g (g1.re fun b=>by simp) (st1.drop (fun b=>by simp) g1.le) (g2.re fun b=>by simp) (M1:=fun b=>m1 b+M1 b) (M2:=fun b=>m2 b+M2 b) (by
   have:=st2
   exact ⟨fun b o h z=>this.keep b o h (by simpa using z),fun b h=>by have:=this.own b (by simpa using h);simpa using this,this.grow,fun b h h'=>by have:=this.shr b h h';simpa using this,this.stay⟩)
  have G2:Good H1 Hs2 (fun b=>M2 b+m2 b):=g2.re fun b=>by simp;omega
  have S2:Stp H Hs M H1 Hs2 (fun b=>M2 b+m2 b):=z0.2.1.drop (fun b=>by simp;omega) z0.1.le
  refine ⟨ds,Hs2,m2,G2.re fun b=>by omega,q2,?_⟩
  cases hF:fi.run ds with
  | stuck=>rw [hF] at q;exact q.elim
  | ok r=>
   obtain ⟨d',ds'⟩:=r
   rw [hF] at q
   obtain ⟨δ3,e3⟩:=Zcm ps ds' δ2
   dsimp only at q
   rw [e3] at q
   intro v H3 Hs3 n1 n2 g3 st3 r3 r4
   obtain ⟨G,S,k⟩:=Zo g G2 S2 g3 st3
   have s3:=RepS.frame st3.grow k s2
   have fin:=ZbF s3 r4 (lates r1) e3
   exact q v H3 Hs3 n1 (fun b=>n2 b+M2 b) (G.re fun b=>by (try dsimp only);omega) (S.drop (fun b=>by (try dsimp only);omega) G.le) r3 fin
  | exc x ds'=>
   rw [hF] at q
   obtain ⟨δ3,e3⟩:=Zcm ps ds' δ2
   dsimp only at q
   rw [e3] at q
   intro ea H3 Hs3 n1 n2 g3 st3 r3 r4
   obtain ⟨G,S,k⟩:=Zo g G2 S2 g3 st3
   have s3:=RepS.frame st3.grow k s2
   have fin:=ZbF s3 r4 (lates r1) e3
   exact ⟨ea,rfl,q ea H3 Hs3 n1 (fun b=>n2 b+M2 b) (G.re fun b=>by (try dsimp only);omega) (S.drop (fun b=>by (try dsimp only);omega) G.le) r3 fin⟩
section
theorem ZkM(hN:X.N.Nodup)(hi:X.N[i]?=some x)(hx:Loc X.env.scope x)(he:PEx X e (tMX X.K c))(hs:autoParam (swapsWith e (some (.Name x pos')) pos.line X.env=pure false) Q9)
 (hf:X.fn x=true\/X.env.scope.names.lookup x=some .local:=by first|exact .inl rfl|exact .inr rfl|assumption):
 PX X (.Assign [.Name x pos'] e pos) (tX X.K lk (c.bnd fun d=>(asgN lk i d).bnd fun _=>M.ret .nx)):=PX.imp (Zoi hN hi hx he hs hf) fun E σ H z0=>by
 obtain ⟨δ,Hs,M,g,s,q⟩:=z0
 refine ⟨δ,Hs,M,g,s,?_⟩
 unfold T.M.bnd at q
 cases e1:c δ with
 | stuck=>rw [e1] at q;exact q.elim
 | exc x δ'=>rw [e1] at q;exact fun ea H' Hs' m M' g' st' r s'=>q ea σ H' Hs' m M' (Keeps.refl _ _) g' st' r s'
 | ok z=>
  obtain ⟨d,δ1⟩:=z
  rw [e1] at q
  dsimp only at q ⊢
  cases e3:asgN lk i d δ1 with
  | exc x y=>exact absurd e3 (Zf1 _ _ _ _ _ _)
  | stuck=>rw [e3] at q;exact q.elim
  | ok z=>
   obtain ⟨u,δ2⟩:=z
   rw [e3] at q
   obtain ⟨h1,h2,rfl⟩:=Zdg e3
   exact fun v H' Hs' m M' g' st' r s'=>q _ H' Hs' _ (ZaT h2) g' st' (Zbq s' h1 r)
end
section
variable{e:Expr}{es:List Expr}{p:Pos}{i n j:Nat}{x:Str}{ns:List Str}{C f:Addr}{ps:List Str}{cs:M (List Op)}
def Zp1{K:Fg}{H'':Hp}{M:Bud}{δ:List D}{a:Addr}{o:HO}(ha:H a=none)(g:Good H Hs M)(s:RepS K H Hs σ δ M)(k:Same (upd H a o) H''):
 Good H'' Hs (fun b=>one a b+M b)/\Stp H Hs M H'' Hs (fun b=>one a b+M b)/\RepS K H'' Hs σ δ M/\H'' a=some o/\Same H H'':=by
 have k1:Same H H'':=fun b u e=>k b u (by rw [Zn (Zai e ha)];exact e)
 have ka:H'' a=some o:=k a o Zj
 have m0:M a=0:=by
  have:=g.le a
  by_cases q:M a=1
  . exact absurd ha (g.has a q)
  . omega
 have hs0:Hs a=none:=by
  cases e:Hs a with
  | none=>rfl
  | some u=>rw [g.sub a u e] at ha;cases ha
 have cs1:∀ b,one a b+M b=1->b=a\/M b=1:=fun b h=>by
  by_cases q:b=a
  . exact .inl q
  . simp only [one,if_neg q] at h;exact .inr (by omega)
 refine ⟨⟨fun b u e=>k1 b u (g.sub b u e),fun b=>?_,fun b h=>?_,fun b h=>?_⟩,⟨fun b u e _=>k1 b u e,fun b h=>?_,Same.refl _,fun b h h'=>absurd h h',fun b h=>?_⟩,s.frame (Same.refl _) fun b _ hn=>ZbK k1 b hn,ka,k1⟩
 . have:=g.le b
   unfold one
   split
   . rename_i q;subst q;omega
   . omega
 . rcases cs1 b h with q|q
   . rw [q];exact hs0
   . exact g.ne b q
 . rcases cs1 b h with q|q
   . rw [q,ka];simp
   . rw [ZbK k1 b (g.has b q)];exact g.has b q
 . rcases cs1 b h with q|q
   . exact .inr (by rw [q];exact ha)
   . exact .inl q
 . rw [ZbK k1 b h];exact h
theorem Znb{K:Fg}{Q:VK}(xn:XN K ns C)(nx:NX cs){E:EndX}(h:∃ (δ:List D) (Hs:Hp) (M:Bud),Good H Hs M/\RepS K H Hs σ δ M/\Za6 K lk E σ H Hs M (((cs.bnd fun ps=>newX ns fi ps).bnd Zcx) δ)):
 tPs K cs σ H fun vs H1=>vs.length<=sizeLine/\∀ x,H1 x=none->spF K fi.run (.ref x::vs) (upd H1 x (.exc C none true [])) (fun v H2=>v=.non/\∃ a C dx fs,V.ref x=.ref a/\XC K C/\H2 a=some (.exc C dx true fs)/\∀ H'',Same (upd H2 a (.exc C dx false fs)) H''->E.xc a σ H'') E0:=by
 obtain ⟨δ,Hs,M,g,s,q⟩:=h
 unfold T.M.bnd at q
 cases e1:cs δ with
 | exc x y=>exact absurd e1 (nx _ _ _)
 | stuck=>rw [e1] at q;exact q.elim
 | ok z=>
  obtain ⟨ps,δ1⟩:=z
  rw [e1] at q
  dsimp only at q
  unfold newX at q
  by_cases hlen:1000 < ps.length
  . rw [if_pos hlen] at q;exact q.elim
  rw [if_neg hlen] at q
  unfold T.M.bnd at q
  refine ⟨δ,Hs,M,ps,δ1,g,s,e1,fun vs H1 Hs1 m1 M1 g1 st1 r1 s1=>?_⟩
  have hlv:vs.length=ps.length:=by
   have:∀{vs:List V}{ps:List Op}{m:Bud},ZaP K H1 Hs1 σ vs ps m->vs.length=ps.length:=by
    intro vs
    induction vs with
    | nil=>intro ps m h;cases ps with
     | nil=>rfl
     | cons _ _=>exact h.elim
    | cons v vs ih=>intro ps m h;cases ps with
     | nil=>exact h.elim
     | cons p ps=>obtain ⟨a,b,c,d,_⟩:=h;rw [length_cons,length_cons,ih d]
   exact this r1
  refine ⟨by rw [hlv,sizeLine_eq];omega,fun x hx=>?_⟩
  cases e2:Zar fi.lend ps δ1 with
  | exc x y=>exact absurd e2 (ZdP _ _ _ _ _)
  | stuck=>rw [e2] at q;exact q.elim
  | ok z=>
   obtain ⟨ds,δ2⟩:=z
   rw [e2] at q
   dsimp only at q
   obtain ⟨Hs2,m2,M2,g2,st2,q2,s2⟩:=Zc0 (B:=fun _=>0) (g1.re fun b=>by simp) s1 r1 e2
   have z0:=Zo (m1:=fun _=>0) g (g1.re fun b=>by simp) (st1.drop (fun b=>by simp) g1.le) (g2.re fun b=>by simp) (M1:=fun b=>m1 b+M1 b) (M2:=fun b=>m2 b+M2 b) (by
    have:=st2
    exact ⟨fun b o h z=>this.keep b o h (by simpa using z),fun b h=>by have:=this.own b (by simpa using h);simpa using this,this.grow,fun b h h'=>by have:=this.shr b h h';simpa using this,this.stay⟩)
   have G2:Good H1 Hs2 (fun b=>m2 b+M2 b):=g2.re fun b=>by simp
   have S2:Stp H Hs M H1 Hs2 (fun b=>m2 b+M2 b):=z0.2.1.drop (fun b=>by simp) z0.1.le
   have full:RepS K H1 Hs2 (vs.map some++σ) (ds++δ2) (fun b=>m2 b+M2 b):=Sep.append (RepL.slots q2) s2
   obtain ⟨G3,S3,R3,ka,k1⟩:=Zp1 (o:=.exc C none true []) hx G2 full (Same.refl _)
   have q3:=q2.frame (H':=upd H1 x (.exc C none true [])) (Same.refl _) fun b _ hn=>ZbK k1 b hn
   have s3:=s2.frame (H':=upd H1 x (.exc C none true [])) (Same.refl _) fun b _ hn=>ZbK k1 b hn
   have S3':=Zo (m1:=fun _=>0) g (G2.re fun b=>by simp) (S2.drop (fun b=>by simp) G2.le) G3 S3
   have SA:Stp H Hs M (upd H1 x (.exc C none true [])) Hs2 (fun b=>M2 b+(one x b+m2 b)):=S3'.2.1.drop (fun b=>by simp;omega) S3'.1.le
   have GA:Good (upd H1 x (.exc C none true [])) Hs2 (fun b=>M2 b+(one x b+m2 b)):=G3.re fun b=>by omega
   cases hF:fi.run (.node (.exc ns true []) true []::ds) with
   | exc x y=>rw [hF] at q;exact q.elim
   | stuck=>rw [hF] at q;exact q.elim
   | ok r=>
    obtain ⟨d',ds'⟩:=r
    rw [hF] at q
    match d',ds',q,hF with
    | .sc .non,dI::ds',q,hF=>
     dsimp only at q
     obtain ⟨δ3,e3⟩:=Zcm ps ds' δ2
     rw [e3] at q
     have q:Za6 K lk E σ H Hs M (Zcx dI δ3):=q
     refine ⟨.node (.exc ns true []) true []::ds,Hs2,fun b=>one x b+m2 b,.sc .non,dI::ds',GA.re fun b=>by omega,.cons (m1:=one x) (m2:=m2) (.own (vs:=[]) (m':=fun _=>0) ⟨rfl,C,none,xn,ka⟩ (.nil _) fun b=>by simp) q3 fun b=>le_refl _,hF,fun v H4 Hs4 n1 n2 g4 st4 r4 r5=>?_⟩
     cases r4
     refine ⟨rfl,?_⟩
     obtain ⟨G,S,kk⟩:=Zo g GA SA g4 st4
     have s4:=RepS.frame st4.grow kk s3
     cases r5 with
     | @cons _ _ _ _ n3 n4 _ rI rd l5=>
      have fin:=ZbF s4 rd (lates r1) e3
      unfold Zcx at q
      split at q
      . rename_i nsI fsI dsI hqI
        cases rI with
        | @own a _ vsI _ _ mI n r lI=>
         obtain ⟨hl,C',dx',xn',hH⟩:=n
         refine ⟨x,C',dx',_,rfl,xn'.toXC,hH,fun H'' k=>?_⟩
         have hx4:H4 x≠none:=by rw [hH];simp
         have k1':∀ b,b≠x->H4 b≠none->H'' b=H4 b:=fun b hb hn=>by
          have:=ZbK k b (by rw [Zn hb];exact hn)
          rw [this,Zn hb]
         have kx:H'' x=some (.exc C' dx' false (fsI.zip vsI)):=k x _ Zj
         have one_x:one x x=1:=by simp [one]
         have le5:∀ b,(one x b+mI b)+(n4 b+M2 b)<=n1 b+(n2 b)+M2 b:=fun b=>by have:=lI b;have:=l5 b;omega
         have GG:Good H4 Hs4 (fun b=>M2 b+(n1 b+n2 b)):=G
         have G5:Good H4 Hs4 (fun b=>(one x b+mI b)+(n4 b+M2 b)):=GG.re fun b=>by have:=le5 b;omega
         have S5:Stp H Hs M H4 Hs4 (fun b=>(one x b+mI b)+(n4 b+M2 b)):=S.drop (fun b=>by have:=le5 b;omega) GG.le
         have zx:mI x=0/\n4 x=0/\M2 x=0:=by
          have:(one x x+mI x)+(n4 x+M2 x)<=1:=G5.le x
          omega
         have up:∀ b,H4 b≠none->H'' b≠none:=fun b hn=>by
          by_cases hb:b=x
          . rw [hb,kx];simp
          . rw [k1' b hb hn];exact hn
         have hsx:Hs4 x=none:=G5.ne x (by show (one x x+mI x)+(n4 x+M2 x)=1;omega)
         have G6:Good H'' Hs4 (fun b=>(one x b+mI b)+(n4 b+M2 b)):=⟨fun b o e=>by
          have hb:b≠x:=fun z=>by rw [z,hsx] at e;cases e
          have e4:=G5.sub b o e
          rw [k1' b hb (by rw [e4];simp)];exact e4,G5.le,G5.ne,fun b h=>up b (G5.has b h)⟩
         have S6:Stp H Hs M H'' Hs4 (fun b=>(one x b+mI b)+(n4 b+M2 b)):=⟨fun b o e z=>by
          have e4:=S5.keep b o e z
          have hb:b≠x:=fun w=>by
           rw [w] at e z
           rcases S5.own x (by show (one x x+mI x)+(n4 x+M2 x)=1;omega) with t|t
           . omega
           . rw [e] at t;cases t
          rw [k1' b hb (by rw [e4];simp)];exact e4,S5.own,S5.grow,S5.shr,fun b h=>up b (S5.stay b h)⟩
         refine q x σ H'' Hs4 (fun b=>one x b+mI b) (fun b=>n4 b+M2 b) (Keeps.refl _ _) G6 S6 (.own (vs:=vsI) (m':=mI) ⟨hl,C',dx',xn',kx⟩ (r.frame (Same.refl _) fun b hb hn=>k1' b (fun w=>by rw [w] at hb;omega) hn) fun b=>le_refl _) (fin.frame (Same.refl _) fun b hb hn=>k1' b (fun w=>by rw [w] at hb;(try dsimp only at hb);omega) hn)
      . exact q.elim
    | .sc .non,[],q,hF=>exact q.elim
    | .sc (.bl _),_,q,hF=>exact q.elim
    | .sc (.int _),_,q,hF=>exact q.elim
    | .sc (.str _),_,q,hF=>exact q.elim
    | .sc (.byt _),_,q,hF=>exact q.elim
    | .sc (.flt _),_,q,hF=>exact q.elim
    | .sc (.ref _),_,q,hF=>exact q.elim
    | .sc (.ty _),_,q,hF=>exact q.elim
    | .hole,_,q,hF=>exact q.elim
    | .node _ _ _,_,q,hF=>exact q.elim
structure XMk(P:Program)(w:World)(K:Fg)(mg:SO)(base:Heap)(x:Str)(ns:List Str)(k:Nat)(ps:List Str)(sp:Sp):Prop where
 ex:∃(C f:Addr)(fd:FuncData),XN K ns C/\findIn K (.ref C) (Str.ofString "__init__")=some (some (.ref f))/\typeIn K (.ref f)=some (.type "function")/\FnOk P w K mg base CX0 k f fd ps sp/\mg x=some (.ref C)/\Binds K fd ps []
def Zfb(hc:X.calm=true)(G:XMk X.prog X.w X.K X.mg X.base x ns j ps (spF X.K fi.run))(hr:Room n X.A)(ha:PA X (e::es) (tPs X.K cs))(hj:autoParam (j+1<=n) Q7)(hz:autoParam (glOk X.env.scope x=true) Q8)(he:autoParam (SE X e es) Q9)(hpl:autoParam ((backTo pos' (starEach es X.env)).any (·.1)=false) Q9):
 PX X (.Raise (some (.Call (.Name x p) (e::es) [] pos')) none pos) (tX X.K lk (((clm cs).bnd fun ps=>newX ns fi ps).bnd Zcx)):=by
 have nx:=Zdo cs
 replace ha:=ZjA ha
 generalize clm cs=cs at nx ha ⊢
 obtain ⟨C,f,fd,xn,hi,hf,F,hm,hb⟩:=G.ex
 refine PX.imp (Zkw hc (Zm2 xn.toXC hi hf F (hr.mono hj) (glk hz) hm hb .nil ha (dbk hz) he hpl)) fun E σ H h=>?_
 obtain ⟨δ,Hs,M,aa,δ',g,s,e,q⟩:=Znb (Q:=fun _ _=>True) xn nx h
 refine ⟨δ,Hs,M,aa,δ',g,s,e,fun vs H' Hs' m M' g' st r s'=>?_⟩
 obtain ⟨l,q⟩:=q vs H' Hs' m M' g' st r s'
 refine ⟨l,fun x hx=>?_⟩
 have:=q x hx
 rw [append_nil]
 exact this
end
end T
namespace L2
open PySem PySem.Spec PyProof.Rows
section
def Zs2(K:Fg)(ta:TE)(f:Str):TE:=fun σ H Q=>ta σ H fun x H1=>∃ a C dx fr fs v,x=.ref a/\H1 a=some (.exc C dx fr fs)/\XD K C/\Zaa K C f/\fs.lookup f=some v/\Q v H1
def Znc(he:PE X e ta)(hb:attributeBase e f X.env (eval e X.env)=eval e X.env):PE X (.Attribute e f pos) (Zs2 X.K ta f):=by
 intro pins s σ H Q I h
 refine Zhn hb (thn (he pins s σ H _ I h) fun u s1 z0=>?_)
 obtain ⟨x,H1,I1,rx,a,C,dx,fr,fs,v,ex,ea,c,n,l,q⟩:=z0
 subst ex
 obtain rfl:u=Value.ref a:=rx
 exact ZgX I1 ea c n l fun u' s2 I2 ru=>⟨v,H1,I2,ru,q⟩
def Zs3(K:Fg)(ta tv:TE)(f:Str):TS:=fun D σ H=>tv σ H fun y H1=>ta σ H1 fun x H2=>∃ a C dx fr fs,x=.ref a/\H2 a=some (.exc C dx fr fs)/\XC K C/\Zaa K C f/\fs.length < 1000/\
 ∀ H' d',H' a=some (.exc C (some d') fr (putF f y fs))->(∀ b o,b≠a->H2 b=some o->H' b=some o)->D.nx σ H'
def Znd(ha:PE X o ta)(hv:PE X value tv)(hs:swapsWith value (some (.Attribute o f pos')) pos.line X.env=pure false):PS X (.Assign [.Attribute o f pos'] value pos) (Zs3 X.K ta tv f):=by
 intro pins s σ H D I h
 refine plainObj_wpAny_Assign_Attribute (thn (hv pins s σ H _ I h) fun u s1 ⟨y,H1,I1,ry,q⟩=>thn (ha pins s1 σ H1 _ I1 q) fun ov s2 z90=>?_) hs
 obtain ⟨x,H2,I2,rx,a,C,dx,fr,fs,ex,ea,c,n,l,q2⟩:=z90
 subst ex
 obtain rfl:ov=Value.ref a:=rx
 exact ZgY I2 ea c n l ry fun s3 H' d' h1 h2 I3=>⟨σ,_,I3,q2 H' d' h1 h2⟩
theorem ZjE(cv:V)(cu:Value)(rc:RelV cv cu)(huniq:∀ u,RelV cv u->u=cu):Zaj X (.builtin "isinstance") (fun xs H Q=>∃ a C dx fr fs b,xs=[.ref a,cv]/\XD X.K C/\H a=some (.exc C dx fr fs)/\kitOne X.K (.ref C) cu=some b/\Q (.bl b) H):=by
 intro pins s σ H xs us Q I r h
 obtain ⟨a,C,dx,fr,fs,b,ex,xd,ea,k,q⟩:=h
 subst ex
 cases r with
 | @cons _ u1 _ _ r1 r2=>
  cases r2 with
  | @cons _ u2 _ _ r2 r3=>
   cases r3
   obtain rfl:=huniq _ r2
   obtain rfl:u1=Value.ref a:=r1
   exact Zih I ea xd k fun tk=>⟨.bl b,H,I.tok tk,rfl,q⟩
end
end L2
namespace T
open PySem PySem.Spec L2
section
variable{X:Cx}{a o e c:Expr}{es:List Expr}{body suite:List Stmt}{b₀:Stmt}{pos pos' p apos np hp:Pos}{lk:Nat->Bool}{i j n:Nat}{x nm cn f:Str}{ca:M Op}{cs:M (List Op)}
theorem Zne (F:Fr0 X X.A) (hx:∀ e s,¬ X.xe e s) (hb:PXs X body (tX X.K lk cb)) (hs:∀ v,PSs (X.inH v) (b₀::suite) (tS X.K lk csu)) (hg:Gl X cn) (hm:X.mg cn=some (.ref D')) (xc:XC X.K D') (gx:GX X.K cn D') (hdb:(cn == ("__debug__":Str))=false)
 (hN:X.N.Nodup) (hi:X.N[i]?=some nm) (hl:X.env.scope.names.lookup nm=some .local):
 PX X (.Try body [.ExceptHandler (some (.Name cn np)) (some nm) (b₀::suite) hp] [] [] pos) (tX X.K lk (tryM lk cb cn (some i) csu)):=
 PX.imp (Zom F hx hb (.cons (.as_ hg hm xc gx hdb hN hi hl hs) .nil)) fun E σ H z0=>by
 obtain ⟨δ,Hs,M,g,s,q⟩:=z0
 refine ⟨δ,Hs,M,g,s,?_⟩
 unfold tryM at q
 cases e1:cb δ with
 | ok z=>rw [e1] at q;exact q
 | stuck=>rw [e1] at q;exact q.elim
 | exc xd δ'=>
  rw [e1] at q
  dsimp only at q
  intro ea σ' H' Hs' m M' k' g' st' r s'
  by_cases hh:hits cn xd=true
  . rw [if_pos hh] at q
    unfold hits at hh
    split at hh
    . rename_i ns fs ds
      have hc:cn∈ns:=of_decide_eq_true hh
      cases r with
      | @own _ _ vs _ _ m' nd rl lm=>
       obtain ⟨hl',C,dx,xn,hH⟩:=nd
       refine ⟨C,dx,_,ns,xn,hH,?_⟩
       unfold ZcE
       rw [if_pos hc]
       by_cases hi':(decide (i < δ'.length) && !lk i)=true
       . rw [if_pos hi'] at q
         simp only [and_eq_true,decide_eq_true_eq,not_eq_true'] at hi'
         have rx:Rep X.K H' Hs' (.ref ea) (.node (.exc ns false fs) true ds) m:=.own ⟨hl',C,dx,xn,hH⟩ rl lm
         have s2:=Zbq s' hi'.1 rx
         cases e2:csu (δ'.set i (.node (.exc ns false fs) true ds)) with
         | exc y z=>rw [e2] at q;exact q.elim
         | stuck=>rw [e2] at q;exact q.elim
         | ok z=>
          obtain ⟨fl,δ2⟩:=z
          rw [e2] at q
          have q:Post X.K lk E.toEnds σ H Hs M fl (δ2.set i .hole):=q
          have q2:=Post.ahead k' g g' st' q
          refine ⟨_,Hs',_,fl,δ2,g',s2,e2,?_⟩
          have hole:∀{σ2:St}{H2 Hs2:Hp}{M2:Bud},RepS X.K H2 Hs2 σ2 δ2 M2->RepS X.K H2 Hs2 (σ2.set i none) (δ2.set i .hole) M2:=fun{σ2 H2 Hs2 M2} r2=>by
           by_cases hlt:i < δ2.length
           . obtain ⟨o,m1,m2,z1,z2,z3,ff⟩:=r2.focus (List.getElem?_eq_getElem hlt)
             exact (ff (RepO X.K H2 Hs2) none .hole (fun _=>0) (fun a d m' _ q=>q) (.inl rfl)).mono fun b=>by have:=z3 b;(try dsimp only);omega
           . have hlσ:=r2.length
             rw [List.set_eq_of_length_le (by omega),List.set_eq_of_length_le (by omega)]
             exact r2
          have kp:∀{σ2:St},Keeps lk (σ'.set i (some (.ref ea))) σ2->Keeps lk σ' (σ2.set i none):=fun k2=>(ZaT hi'.2).trans (k2.trans (ZaT hi'.2))
          cases fl with
          | nx=>exact fun σ2 H2 Hs2 M2 k2 g2 st2 r2=>q2 _ H2 Hs2 M2 (kp k2) g2 st2 (hole r2)
          | bk=>exact fun σ2 H2 Hs2 M2 k2 g2 st2 r2=>q2 _ H2 Hs2 M2 (kp k2) g2 st2 (hole r2)
          | ct=>exact fun σ2 H2 Hs2 M2 k2 g2 st2 r2=>q2 _ H2 Hs2 M2 (kp k2) g2 st2 (hole r2)
          | rt d=>exact fun v σ2 H2 Hs2 m2 M2 k2 g2 st2 rv r2=>q2 v _ H2 Hs2 m2 M2 (kp k2) g2 st2 rv (hole r2)
       . rw [if_neg hi'] at q;exact q.elim
    . cases hh
  . rw [if_neg hh] at q;exact q.elim
def Zg7(ho:PE X o (tVar i))(hv:PE X value (tM X.K cv))(hs:autoParam (swapsWith value (some (.Attribute o f pos')) pos.line X.env=pure false) Q9):
 PS X (.Assign [.Attribute o f pos'] value pos) (tS X.K lk (cv.bnd fun d=>(ZV i).bnd fun _=>(modS i (putX f d)).bnd fun _=>M.ret .nx)):=PS.imp (Znd ho hv hs) fun E σ H h=>by
 obtain ⟨δ,Hs,M,fl,δ',g,s,ea,q⟩:=h
 obtain ⟨d,δ1,e1,eb⟩:=Zb ea
 obtain ⟨p0,δ2,e2,ec⟩:=Zb eb
 obtain ⟨r0,δ3,e3,ed⟩:=Zb ec
 have:=Ze ed
 cases this
 obtain ⟨kk,ds0,k',ds',hi,hff,rfl⟩:=Zcu e3
 refine ⟨δ,Hs,M,d,δ1,g,s,e1,fun v H1 Hs1 m1 M1 g1 st1 r1 s1=>?_⟩
 obtain ⟨rfl,vo,hvo⟩:=Zfu s1 e2
 obtain ⟨p1,us,m',n2,e8,nn,rl,le,fin⟩:=modL g1 s1 hi
 rw [hvo] at e8
 cases e8
 refine ⟨_,hvo,?_⟩
 unfold putX at hff
 split at hff
 . rename_i ds ns fr fs
   split at hff
   . rename_i hc
     cases hff
     obtain ⟨hl,C,dx,xn,hH⟩:=nn
     obtain ⟨z1,z2⟩:=Ze3 f v fs us hl
     refine ⟨p1,C,dx,fr,fs.zip us,rfl,hH,xn.toXC,xn.nof f hc.2,?_,fun H' d' h1 h2=>?_⟩
     . rw [length_zip,hl,Nat.min_self]
       rw [<- hl]
       exact hc.1
     . obtain ⟨G,S,R,SS⟩:=fin (.exc C (some d') fr (putF f v (fs.zip us))) (.exc ns fr (putN f fs)) (T.putV f v fs us) (T.putV f d fs ds0) (fun b=>m' b+m1 b) (fun _=>0) .non (.sc .non) (fun b=>by (try dsimp only);omega) ⟨z2,C,some d',xn,by rw [Zj,z1]⟩ (rl.putV f r1 hl) (.sc _ _)
       have z:=Zo (m1:=fun _=>0) g (g1.re fun b=>by simp) (st1.drop (fun b=>by simp) g1.le) G S
       have k:Same (upd H1 p1 (.exc C (some d') fr (putF f v (fs.zip us)))) H':=fun b o eb=>by
        by_cases hb:b=p1
        . subst hb
          rw [Zj] at eb
          cases eb
          exact h1
        . rw [Zn hb] at eb
          exact h2 b o hb eb
       exact q σ _ Hs1 _ (Keeps.refl _ _) ((G.re fun b=>by (try dsimp only);omega).up k) (((z.2.1.drop (fun b=>by simp) z.1.le).drop (fun b=>by (try dsimp only);omega) G.le).up k) (SS.frame (Same.refl _) fun b _ hn=>ZbK k b hn)
   . cases hff
 . cases hff
def arg1{K:Fg}{f:BF}{σ:St}{H:Hp}{Q:VK}(h:tM K ((ca.bnd fun p=>(M.ret ([]:List Op)).bnd fun ps=>M.ret (p::ps)).bnd fun ps=>(views ps).bnd fun ws=>lift (bfW f ws)) σ H Q):tM K ((ca.bnd view).bnd fun w=>lift (bfW f [w])) σ H Q:=by
 obtain ⟨δ,Hs,M,d,δ',g,s,e,q⟩:=h
 refine ⟨δ,Hs,M,d,δ',g,s,?_,q⟩
 obtain ⟨ps,δ1,e1,e⟩:=Zb e
 obtain ⟨pp,δ2,e2,e3⟩:=Zb e1
 obtain ⟨z,δ3,e4,e5⟩:=Zb e3
 have:=Ze e4
 cases this
 have:=Ze e5
 cases this
 obtain ⟨ws,δ4,e6,e⟩:=Zb e
 obtain ⟨w,δ5,e7,e8⟩:=Zb e6
 obtain ⟨z,δ6,e9,e10⟩:=Zb e8
 have:=Ze e9
 cases this
 have:=Ze e10
 cases this
 show T.M.bnd (ca.bnd view) _ δ=_
 unfold T.M.bnd
 rw [e2]
 dsimp only
 rw [e7]
 exact e
def ZhB(ha:PE X a (tP X.K ca))(hb:autoParam (attributeBase a f X.env (eval a X.env)=eval a X.env) Q9):
 PE X (.Attribute a f pos) (tM X.K ((ca.bnd fun p=>(M.ret ([]:List Op)).bnd fun ps=>M.ret (p::ps)).bnd fun ps=>(views ps).bnd fun ws=>lift (bfW (.xfld f) ws))):=
 PE.imp (Znc ha hb) fun σ H Q h=>by
  have h2:=arg1 h
  refine op1 (r:=fun x H1 Q=>∃ a C dx fr fs v,x=.ref a/\H1 a=some (.exc C dx fr fs)/\XD X.K C/\Zaa X.K C f/\fs.lookup f=some v/\Q v H1) h2 fun x H Hs w m d g h1 h2 v e o=>?_
  replace e:Zit f [w]=some d:=e
  unfold Zit at e
  split at e
  . rename_i ns fr fs ds hw
    cases hw
    split at e
    . rename_i hf
      cases v with
      | nd n r=>
       obtain ⟨hl,C,dx,xn,n⟩:=n
       obtain ⟨z,m1,e1,rz,l⟩:=Zft r hl e
       exact ⟨_,C,dx,_,_,z,rfl,n,xn.toXD,xn.nof f hf,e1,o.part h1 h2 l rz⟩
    . cases e
  . cases e
end
section
def Znf(gx:GX X.K cn D')(ht:typeIn X.K (.ref D')=some (.type "type"))(hg:Gl X "isinstance")(hm:X.mg "isinstance"=none)(ha:PE X a (tP X.K ca))(hc:PE X c (tC (.ref D')))(hs:autoParam (starEach [a,c] X.env=[(false,eval a X.env),(false,eval c X.env)]) Q9)
 (hs1:autoParam (starEach [c] X.env=[(false,eval c X.env)]) Q9):
 PE X (.Call (.Name "isinstance" p) [a,c] [] pos) (tM X.K ((ca.bnd fun p=>(M.ret ([]:List Op)).bnd fun ps=>M.ret (p::ps)).bnd fun ps=>(views ps).bnd fun ws=>lift (bfW (.isiX cn) ws))):=
 PE.imp (Zez (ZjE (.ref D') (.ref D') rfl fun u h=>h) hg hm ZdG (Zao ha (Zao hc Zbc (by show _=_;rw [hs1];rfl)) (by show _=_;rw [hs,hs1])) (by decide) (by decide) (by show _=_;rw [hs,hs1]) (by show _=_;rw [hs1];rfl)) fun σ H Q h=>by
  refine op1 (r:=fun x H1 Q=>∃ a C dx fr fs b,[x,V.ref D']=[V.ref a,V.ref D']/\XD X.K C/\H1 a=some (.exc C dx fr fs)/\kitOne X.K (.ref C) (.ref D')=some b/\Q (.bl b) H1) (arg1 h) fun x H Hs w m d g h1 h2 v e o=>?_
  replace e:Zis cn [w]=some d:=e
  unfold Zis at e
  split at e
  . rename_i ns fr fs ds hw
    cases hw
    cases e
    cases v with
    | nd n r=>
     obtain ⟨hl,C,dx,xn,n⟩:=n
     exact ⟨_,C,dx,_,_,_,rfl,xn.toXD,n,xn.isa gx ht,o.sc⟩
  . cases e
def Zg8(M1:XI X.K L)(hg:Gl X x)(hm:X.mg x=some (.ref L))(ha:PA X (e::es) (tPs X.K cs))(hdb:autoParam ((x == ("__debug__":Str))=false) Q7)
 (hst:autoParam (SE X e es) Q9) (hpl:autoParam (SFx X pos es) Q9)
 (ht:autoParam (eval (.Call (.Attribute (.Name x p) "__init__" apos) (e::es) [] pos) X.env=(do
  let ov <- eval (.Name x p) X.env
  standAt apos.atName
  let (f,first) <- holding [ov] (getMethod ov "__init__" pl)
  callWith pos f first (backTo pos (starEach (e::es) X.env)) (backToKw pos (keywordEach [] X.env)))) Q9):
 PE X (.Call (.Attribute (.Name x p) "__init__" apos) (e::es) [] pos) (tM X.K (cs.bnd fun ps=>(views ps).bnd fun ws=>lift (bfW .xinit ws))):=
 PE.imp (Zkv (pl:=pl) M1 hg hm ha hdb hst hpl ht) fun σ H Q h=>by
  obtain ⟨δ,Hs,M,ps,δ',g,s,e,q⟩:=opN h
  refine ⟨δ,Hs,M,ps,δ',g,s,e,fun vs H' Hs' m M' g' st r s'=>?_⟩
  obtain ⟨Hs2,ws,m2,d,hs,h1,h2,v,e2,o⟩:=q vs H' Hs' m M' g' st r s'
  replace e2:Zgr ws=some d:=e2
  unfold Zgr at e2
  split at e2
  . rename_i ns fr fs ds u
    cases e2
    obtain ⟨y,y',m1,m3,rfl,v1,v2,l⟩:=v.two
    cases v1 with
    | nd n r=>
     obtain ⟨hl,C,dx,xn,n⟩:=n
     exact ⟨_,y',C,dx,_,_,rfl,xn.toXC,n,o.sc⟩
  . cases e2
end
end T
namespace L2
open PySem PySem.Spec PyProof.Rows
section
variable{K:Fg}{n:Str}{C L:Addr}{q qL:Str}{N NL:Addr}{bs bsL:List Value}{sn snL:List Str}{sub subL:List Value}{ab abL:Bool}{col colL:Option Bool}{dd ddL:Option Addr}{k0 k1 k2 k3 k5 l0 l1 l2 l3 l5:Option Value}
def ZlL(lk:K.lookup C=some (excClassObj n q C N bs bm true sn sub ab col dd k0 k1 k2 k3 k5 "ValueError.__new__"))(tl:tailIn K bmV bm=true)(tv:ZbM bm=true)
 (sa:findIn K (.ref C) (Str.ofString "__setattr__")=some (some (.builtin "object.__setattr__"))) (ga:findIn K (.ref C) (Str.ofString "__getattribute__")=some (some (.builtin "BaseException.__getattribute__"))) (kp:keepIn K (.ref C)=true):XC K C:=
 ⟨⟨n,q,N,bs,bm,sn,sub,ab,col,dd,k0,k1,k2,k3,k5,lk,tl,tv⟩,sa,ga,kp⟩
noncomputable def Zg9(e:DictEntry):Bool:=match e.key with
 | .str _ _=>true
 | _=>false
def ZlM:tailIn K bmV bmV=true:=by
 unfold tailIn bmV
 simp
def Zs4(lL:K.lookup L=some (excClassObj "LabelError" qL L NL bsL bmV true snL subL abL colL ddL l0 l1 l2 l3 l5 "ValueError.__new__"))(ln:K.lookup NL=some ⟨oc,od,.dict es ep,sl⟩)(he:es.all Zg9=true)
 (hi:nsIn K NL (Str.ofString "__init__")=some none):tailIn K bmV (.ref L::bmV)=true:=by
 unfold tailIn
 dsimp only
 rw [lL]
 have ok:nsOkIn K NL=true:=by
  unfold nsOkIn
  rw [ln]
  exact he
 show ((_::_ == bmV) || (nsOkIn K NL && nsIn K NL (Str.ofString "__init__") == some none && tailIn K bmV bmV))=true
 rw [ok,hi,ZlM]
 simp
def Zi3(x:nsIn K mainGlobals n=some (some (.ref C)))(lk:K.lookup C=some (excClassObj n q C N bs bm true sn sub ab col dd k0 k1 k2 k3 k5 "ValueError.__new__")):GX K n C:=⟨x,by unfold clsIn;rw [lk];rfl⟩
def Zs5(lk:K.lookup C=some (excClassObj n q C N bs bm true sn sub ab col dd k0 k1 k2 k3 k5 "ValueError.__new__")):typeIn K (.ref C)=some (.type "type"):=by
 show Option.map (fun x=>x.cls) (List.lookup C K)=_
 rw [lk]
 rfl
def Zs6(x:nsIn K mainGlobals n=some (some (.ref C)))(lk:K.lookup C=some (excClassObj n q C N bs (.ref L::bmV) true sn sub ab col dd k0 k1 k2 k3 k5 "ValueError.__new__"))
 (gL:GX K "LabelError" L) (tl:tailIn K bmV (.ref L::bmV)=true)
 (sa:findIn K (.ref C) (Str.ofString "__setattr__")=some (some (.builtin "object.__setattr__"))) (ga:findIn K (.ref C) (Str.ofString "__getattribute__")=some (some (.builtin "BaseException.__getattribute__"))) (kp:keepIn K (.ref C)=true)
 (hk:findIn K (.ref C) (Str.ofString "__getattr__")=some none) (hc:findIn K (.ref C) "__class__"=some (some (.builtin "object.__class__")))
 (hn:specialIn K (.builtin "object.__class__") "__get__"=some (some (.builtin "getset_descriptor.__get__"))) (ht:takesIn K (.builtin "object.__class__")=some true)
 (n1:findIn K (.ref C) "row"=some none) (n2:findIn K (.ref C) "number"=some none) (n3:findIn K (.ref C) "length"=some none) (n4:findIn K (.ref C) "numbers"=some none):XN K [n,"LabelError"] C:=
 ⟨⟨ZlL lk tl (show ZbM bmV=true by decide +kernel) sa ga kp,hk,hc,hn,ht⟩,⟨_,by unfold clsIn;rw [lk],C,_,rfl,Zi3 x lk,L,_,rfl,gL,rfl⟩,fun f hf=>by
   simp only [Zec,mem_cons,not_mem_nil,or_false] at hf
   rcases hf with rfl|rfl|rfl|rfl
   . exact n1
   . exact n2
   . exact n3
   . exact n4⟩
end
end L2
namespace T
open PySem PySem.Spec L2
variable{st:Stmt}{X:Cx}{pos:Pos}{oc doc pm cdv:Value}{od an:Option Addr}{osl:Array (Option Value)}{nN j:Nat}{L:Addr}
section
def ZkN(h:Zt sc N i x b=true)(nd:N.Nodup)(he:PEx X e (tMX X.K c))(hs:autoParam (swapsWith e (some (.Name x pos')) pos.line X.env=pure false) Q9)(e1:autoParam (X.env.scope=sc) Q9)(e2:autoParam (X.N=N) Q9)
 (hf:X.fn x=true\/b=false:=by first|exact .inl rfl|exact .inr rfl):PX X (.Assign [.Name x pos'] e pos) (tX X.K lk (c.bnd fun d=>(asgN lk i d).bnd fun _=>M.ret .nx)):=by
 obtain ⟨h1,h2,h3,h4⟩:=Zt.at h
 have l:=Zt.loc h
 subst e1 e2
 refine ZkM nd h1 l he hs ?_
 rcases hf with q|q
 . exact .inl q
 . subst q
   exact .inr h2
def ZkO(F:Fr0 X X.A)(hx:∀ e s,¬ X.xe e s)(h:Zt sc N i x false=true)(nd:N.Nodup)(hb:PXs X body (tX X.K lk cb))(hs:∀ v,PSs (X.inH v) (b₀::suite) (tS X.K lk csu))(hg:Gl X cn)(hm:X.mg cn=some (.ref D'))(xc:XC X.K D')(gx:GX X.K cn D')(hdb:(cn == ("__debug__":Str))=false)
 (e1:autoParam (X.env.scope=sc) Q9) (e2:autoParam (X.N=N) Q9):
 PX X (.Try body [.ExceptHandler (some (.Name cn np)) (some x) (b₀::suite) hp] [] [] pos) (tX X.K lk (tryM lk cb cn (some i) csu)):=by
 obtain ⟨h1,h2,h3,h4⟩:=Zt.at h
 subst e1 e2
 exact Zne F hx hb hs hg hm xc gx hdb nd h1 h2
end
section
def ZkP(C:Ctx)(ns:List Str)(f:FI)(es:List E):ex C (.raiseI ns f es)=(((clm (opds C es)).bnd fun ps=>newX ns f ps).bnd Zcx):=(rfl)
def Zp2(ns:List Str)(fs:List Str)(ds δ:List D):Zcx (α:=Fl) (.node (.exc ns true fs) true ds) δ=.exc (.node (.exc ns false fs) true ds) δ:=(rfl)
def Zng(C:Ctx)(i:Nat)(f:Str)(e:E):ex C (.attrX i f e)=((evb C e).1.bnd fun d=>(ZV i).bnd fun _=>(modS i (putX f d)).bnd fun _=>M.ret .nx):=(rfl)
def Zp3(C:Ctx)(tg:Tg)(ik:IK)(ies:List E)(body:List S):ex C (.forX tg ik ies body)=((clm (opds C ies)).bnd fun ps=>(Zu ps).bnd fun h=>(lift (itW ik h.1)).bnd fun items δ=>finB h.2 (forL (asgT (fun j=>C.lock j || walked ies j) tg) (exs { C with lock:=fun j=>C.lock j || walked ies j } body) items δ)):=(rfl)
def x_lf(C:Ctx)(s:S):ex C (.lf s)=clm (ex C s):=(rfl)
def Zs7(C:Ctx)(c:E)(a b:List S):ex C (.ifX c a b)=((clm (tst C c)).bnd fun t=>if t then exs C a else exs C b):=(rfl)
def clmA(c:M α)(δ:List D):clm c δ=clmR (c δ):=(rfl)
def Zs8(r:α×List D):clmR (.ok r)=.ok r:=(rfl)
noncomputable def cxR(ps:List Op)(δ:List D):Rs (D×List D)->Rs (D×List D)
 | .ok (d,ds')=>((ZC ps ds').bnd fun _=>M.ret d) δ
 | .exc x ds'=>(match ZC ps ds' δ with
  | .ok (_,δ')=>.exc x δ'
  | _=>.stuck)
 | .stuck=>.stuck
theorem Zp4:Zdy fi ps=(Zar fi.lend ps).bnd fun ds δ=>cxR ps δ (fi.run ds):=by
 unfold Zdy cxR
 congr 1
 funext ds δ
 cases fi.run ds with
 | ok r=>obtain ⟨d,ds'⟩:=r;rfl
 | exc x y=>rfl
 | stuck=>rfl
def Zp5:cxR ps δ (.ok (d,ds'))=((ZC ps ds').bnd fun _=>M.ret d) δ:=(rfl)
def ZkQ(f:α->M β)(x:D)(δ:List D):bndR f (.exc x δ)=.exc x δ:=(rfl)
def ZkR(r:M Fl)(x:D)(δ:List D):seqR r (.exc x δ)=.exc x δ:=(rfl)
def endX:ZaN n (.exc x δ)=.exc x (δ.take n):=(rfl)
noncomputable def nxR(ps:List Op)(δ:List D):Rs (D×List D)->Rs (D×List D)
 | .ok (.sc .non,d::ds')=>((ZC ps ds').bnd fun _=>M.ret d) δ
 | _=>.stuck
theorem ZlN(h:¬ 1000 < ps.length):newX ns fi ps=(Zar fi.lend ps).bnd fun ds δ=>nxR ps δ (fi.run (.node (.exc ns true []) true []::ds)):=by
 unfold newX nxR
 rw [if_neg h]
 congr 1
 funext ds δ
 cases fi.run (.node (.exc ns true []) true []::ds) with
 | ok r=>
  obtain ⟨d,ds'⟩:=r
  cases d with
  | sc v=>cases v<;>cases ds'<;>rfl
  | _=>rfl
 | exc x y=>rfl
 | stuck=>rfl
def Zp6:nxR ps δ (.ok (.sc .non,d::ds'))=((ZC ps ds').bnd fun _=>M.ret d) δ:=(rfl)
def Znh(h:List (Nat×D))(f:Fl)(δ:List D):finB h (.ok (f,δ))=((ZN h).bnd fun _=>M.ret f) δ:=(rfl)
def Zs9(ns:List Str)(fr:Bool)(fs:List Str)(ds:List D)(v:V):bfW .xinit [.nd (.exc ns fr fs) ds,.sc v]=some (.sc .non):=(rfl)
end
section
variable{tg a b c e o:Expr}{es:List Expr}{p pos' apos cpos:Pos}{cs:M (List Op)}{i:Nat}
theorem ZjF(g:Same Hs Hs'):∀{σ:St}{δ:List D}{M:Bud},(∀ b,M b≥1->H b≠none->Hs' b=H b)->RepS K H Hs σ δ M->RepS K H Hs' σ (shrL δ) (fun _=>0)
 | _,_,_,_,.nil _=>.nil _
 | _,_,M,k,.cons x y l=>by
  refine .cons (m1:=fun _=>0) (m2:=fun _=>0) ?_ (ZjF g (fun b hb=>k b (by have:=l b;omega)) y) fun b=>by simp
  rcases x with rfl|⟨v,e,r⟩
  . exact .inl rfl
  . exact .inr ⟨v,e,Rep.share g (fun b hb=>k b (by have:=l b;omega)) r⟩
termination_by structural a=>a
def lent{K:Fg}{H Hs:Hp}{σ:St}{δ:List D}{M:Bud}(g:Good H Hs M)(s:RepS K H Hs σ δ M):
 Good H (shH H Hs M) (fun _=>0)/\RepS K H (shH H Hs M) σ (shrL δ) (fun _=>0)/\∀(H' Hs':Hp)(M':Bud),Good H' Hs' M'->Stp H (shH H Hs M) (fun _=>0) H' Hs' M'->Good H' Hs M/\Stp H Hs M H' Hs M/\RepS K H' Hs σ δ M:=by
 have g2:Good H Hs (fun b=>M b+0):=g
 refine ⟨g2.share,ZjF (Zbp g fun b=>le_refl _) Zdc s,fun H' Hs' M' g' st=>?_⟩
 have kp:∀ b,H b≠none->H' b=H b:=fun b hb=>by
  cases q:H b with
  | none=>exact absurd q hb
  | some o=>exact st.keep b o q rfl
 refine ⟨⟨fun b o e=>?_,g.le,g.ne,fun b h=>?_⟩,⟨fun b o e _=>st.keep b o e rfl,fun b h=>.inl h,Same.refl _,fun b h h'=>absurd h h',st.stay⟩,s.frame (Same.refl _) fun b _ hb=>kp b hb⟩
 . exact st.keep b o (g.sub b o e) rfl
 . exact st.stay b (g.has b h)
def ZsA(h:tM K (borV ca) σ H Q):tM K ca σ H Q:=by
 obtain ⟨δ,Hs,M,d,δ',g,s,e,q⟩:=h
 obtain ⟨G,S,back⟩:=lent g s
 unfold borV at e
 split at e
 . rename_i v δ1 e1
   cases e
   refine ⟨_,_,_,_,_,G,S,e1,fun v' H' Hs' m M' g' st r s'=>?_⟩
   cases r
   obtain ⟨G',S',R'⟩:=back H' Hs' _ (g'.re fun b=>le_refl _) st
   exact q _ H' Hs (fun _=>0) M (Za4 G') (S'.drop (fun b=>by simp) G'.le) (.sc _ _) R'
 . cases e
def Zp7(ha:PE X a (tM X.K ca)):PE X a (tM X.K (borV ca)):=PE.imp ha fun _ _ _ h=>ZsA h
end
open PyProof.Rows
section
variable{e k v:Expr}
structure ModT(K:Fg)(mg:SO)(x:Str)(vs:List V):Prop where
 ex:∃ a,mg x=some (.ref a)/\∃(o:Obj)(its:Array Value)(n:Nat),K.lookup a=some o/\o.cls=.type "tuple"/\o.data=.seq its n/\its.size<=sizeLine/\Vals vs its.toList
def Zni(hg:Gl X x)(h:ModT X.K X.mg x vs)(hd:(x == ("__debug__":Str))=false):PE X (.Name x p) (tM X.K (M.ret (.node .ftp false (vs.map D.sc)))):=by
 obtain ⟨a,h,z⟩:=h.ex
 exact Zrb (Zfn (v:=.ref a) hg h rfl hd) fun H Hs m=>.shd (vs:=vs) (.inr z) (Zeh vs)
noncomputable def unV:Value->Option V
 | .int i _=>some (.int i)
 | .none=>some .non
 | _=>none
theorem ZhC:∀{vs:List V}{its:List Value},its.map unV=vs.map some->Vals vs its
 | [],[],_=>.nil
 | [],_::_,h=>by simp at h
 | _::_,[],h=>by simp at h
 | v::vs,u::its,h=>by
  (simp only [map_cons,List.cons.injEq] at h)
  refine .cons ?_ (ZhC h.2)
  cases u<;>simp [unV] at h
  . rw [<- h.1];exact rfl
  . rw [<- h.1];exact ⟨_,rfl⟩
def ZkS{K:Fg}{h:Heap}{mg:SO}{x:Str}{a:Addr}{vs:List V}{dct:Option Addr}{its:Array Value}{n:Nat}{sl:Array (Option Value)}(X:K.In h)(G:h.Ns mainGlobals mg)(hx:nsIn K mainGlobals x=some (some (.ref a)))(hl:K.lookup a=some ⟨.type "tuple",dct,.seq its n,sl⟩)(hs:its.size<=sizeLine)(hi:its.toList.map unV=vs.map some):ModT K mg x vs:=
 ⟨a,mg_of X G hx,_,its,n,hl,rfl,rfl,hs,ZhC hi⟩
end
theorem us0{P:List Value->Prop}(h:P [])(us:List Value)(e:us.length=0):P us:=by
 cases us with
 | nil=>exact h
 | cons _ _=>cases e
theorem usS{P:List Value->Prop}{n:Nat}(h:∀ a,∀ us:List Value,us.length=n->P (a::us))(us:List Value)(e:us.length=n+1):P us:=by
 cases us with
 | nil=>cases e
 | cons a us=>exact h a us (Nat.succ.inj e)
def us1{P:List Value->Prop}(h:∀ a,P [a]):∀ us:List Value,us.length=1->P us:=usS fun a=>us0 (h a)
def us2{P:List Value->Prop}(h:∀ a b,P [a,b]):∀ us:List Value,us.length=2->P us:=usS fun a=>us1 (h a)
def us3{P:List Value->Prop}(h:∀ a b c,P [a,b,c]):∀ us:List Value,us.length=3->P us:=usS fun a=>us2 (h a)
def us4{P:List Value->Prop}(h:∀ a b c d,P [a,b,c,d]):∀ us:List Value,us.length=4->P us:=usS fun a=>us3 (h a)
def us5{P:List Value->Prop}(h:∀ a b c d e,P [a,b,c,d,e]):∀ us:List Value,us.length=5->P us:=usS fun a=>us4 (h a)
def us6{P:List Value->Prop}(h:∀ a b c d e f,P [a,b,c,d,e,f]):∀ us:List Value,us.length=6->P us:=usS fun a=>us5 (h a)
def ZkT:PSs X body (tS X.K lk (exs C [.raise (.k .non)])):=fun pins s σ H E I z0=>by obtain ⟨δ,Hs,M,f,δ',g,_,e,q⟩:=z0;cases e
noncomputable def nmOk(X:Cx)(i:Nat)(x:Str):Bool:=Zt X.env.scope X.N i x false || Zt X.env.scope X.N i x true || Zgq X.env.scope X.N i x
noncomputable def tgOk(X:Cx)(i:Nat)(x:Str):Bool:=(Zt X.env.scope X.N i x false || Zt X.env.scope X.N i x true && X.fn x) && decide X.N.Nodup
abbrev glX(X:Cx)(x:Str):Prop:=glOk X.env.scope x=true
section
def qv(h:autoParam (nmOk X i x=true) Q8):PE X (.Name x pos) (tVar i):=by
 unfold nmOk at h
 simp only [or_eq_true] at h
 rcases h with (h|h)|h
 . exact pvs h
 . exact pvs h
 . exact pvf h
def ql(h:autoParam (nmOk X i x=true) Q8):PE X (.Name x pos) (tP X.K (ZV i)):=Zhv (qv h)
def qq(h:tgOk X i x=true):∃ b,Zt X.env.scope X.N i x b=true/\X.N.Nodup/\(X.fn x=true\/b=false):=by
 unfold tgOk at h
 simp only [or_eq_true,and_eq_true,decide_eq_true_eq] at h
 rcases h with ⟨h|⟨h,hf⟩,n⟩
 . exact ⟨_,h,n,.inr rfl⟩
 . exact ⟨_,h,n,.inl hf⟩
def qa(he:PE X e (tM X.K c))(h:autoParam (tgOk X i x=true) Q8)(hs:autoParam (swapsWith e (some (.Name x pos')) pos.line X.env=pure false) Q9):PS X (.Assign [.Name x pos'] e pos) (tS X.K lk (c.bnd fun d=>(asgN lk i d).bnd fun _=>M.ret .nx)):=by
 obtain ⟨b,h,n,f⟩:=qq h
 exact ZmO h n he hs (hf:=f)
def qg(hr:PGs X es (gNs is))(h:autoParam (tgOk X i x=true) Q8)(hs:autoParam ((assignEach (.Name x pos::es) X.env).map (·.2)=assign (.Name x pos) X.env::(assignEach es X.env).map (·.2)) Q9):PGs X (.Name x pos::es) (gNs (i::is)):=by
 obtain ⟨b,h,n,f⟩:=qq h
 exact ZqZ h n hr rfl rfl f hs
def qt(h:autoParam (tgOk X i x=true) Q8):PG X (.Name x pos) (gT X.K (.name i)):=by
 obtain ⟨b,h,n,f⟩:=qq h
 exact Zra h n rfl rfl f
def cS(N':List Str)(h:autoParam (Zgo X.env.scope X.N k js N' scope=true) Q8):CompScope X k js N' scope:=.of h rfl rfl
def qs(S:CompScope X k js N' scope)(hi:PI X tg iter (tI X.K ik cs))
 (hin:∀(cl:List (Str×Addr))(C:Addr)(s₀:Shared)(H₀:Hp)(ex:List Addr),PG (cxC X N' scope cl C s₀ H₀ ex) tg (gT X.K tgt)/\PIf (cxC X N' scope cl C s₀ H₀ ex) ifs (tT X.K cc)/\PE (cxC X N' scope cl C s₀ H₀ ex) elt (tM X.K celt))
 (h:autoParam ((Zt X.env.scope X.N i x false && decide X.N.Nodup && ZdH X.env.scope scope x)=true) Q8) (hc:autoParam (X.calm=true) Q9) (hl:autoParam ((pos'.line == pos.line)=true) Q9) (hs:∀ x,foldedSetIterable iter X.env x=pure x:=by intro _;rfl):
 PS X (.Assign [.Name x pos'] (.ListComp elt [⟨tg,iter,ifs,0⟩] scope pos) spos) (tS X.K lk ((cs.bnd fun ps=>(Zu ps).bnd fun h=>(lift (itW ik h.1)).bnd fun items=>(ZR k js (ZH (asgT (fun i=>decide (k<=i)) tgt) cc celt items [])).bnd fun d=>(ZN h.2).bnd fun _=>M.ret d).bnd fun d=>(asgN lk i d).bnd fun _=>M.ret .nx)):=by
 simp only [and_eq_true,decide_eq_true_eq] at h
 exact ZmN h.1.1 h.1.2 h.2 hc S hi hin hl rfl rfl hs
end
section
variable{e a b l r o k ke:Expr}{es:List Expr}{p p2 pos2:Pos}{x:Str}{n:Nat}{ps:List Str}{fi:FI}{cs:M (List Op)}{ca cb:M Op}{A:Addr}{f:BF}{id ty:String}{tg:Expr}
def qi{t:Ty}{n:String}(hm:X.mg "isinstance"=none)(ha:PE X a (tP X.K ca))(hm2:X.mg (Str.ofString n)=none)(hv:bootBuiltins (Str.ofString n)=some (.type n))(h:autoParam (glX X "isinstance") Q8)(h2:autoParam (glX X (Str.ofString n)) Q8)(hn:autoParam (tyS t=some n) Q9)
 (hs:autoParam (starEach [a,.Name (Str.ofString n) p2] X.env=[(false,eval a X.env),(false,eval (.Name (Str.ofString n) p2) X.env)]) Q9) (hs1:autoParam (starEach [.Name (Str.ofString n) p2] X.env=[(false,eval (.Name (Str.ofString n) p2) X.env)]) Q9):
 PE X (.Call (.Name "isinstance" p) [a,.Name (Str.ofString n) p2] [] pos) (tM X.K ((ca.bnd fun p=>(M.ret ([]:List Op)).bnd fun ps=>M.ret (p::ps)).bnd fun ps=>(views ps).bnd fun ws=>lift (bfW (.isi t) ws))):=
 Zo1 hn (glk h) hm ha (Zma (glk h2) hm2 hv rfl (nmk h2) (dbk h2)) hs hs1
def qb(ha:PE X a (tP X.K ca))(hb:PE X b (tP X.K cb)):
 PE X (.BinOp a op b pos) (tM X.K (ca.bnd fun p=>cb.bnd fun q=>(view p).bnd fun x=>(view q).bnd fun y=>lift (binW op x y))):=Zow (Zox _) ha hb
def qgi(h:∃ t,X.mg x=some (.int i t))(g:autoParam (glX X x) Q8):PE X (.Name x p) (tM X.K (M.ret (.sc (.int i)))):=Zsy (glk g) h (dbk g)
def qgu(h:ModT X.K X.mg x vs)(g:autoParam (glX X x) Q8):PE X (.Name x p) (tM X.K (M.ret (.node .ftp false (vs.map D.sc)))):=Zni (glk g) h (dbk g)
def g_(h:autoParam (glX X x) Q8):Gl X x:=glk h
end
structure En where
 P:Program
 w:World
 K:Fg
 mg:Str->Option Value
 base:Heap
abbrev En.fn(e:En)(x:Str)(k:Nat)(ps:List Str)(f:FI):Prop:=FnAt e.P e.w e.K e.mg e.base x k ps (spF e.K f.run)
abbrev En.me(e:En)(C:Addr)(x:Str)(k:Nat)(ps:List Str)(f:FI):Prop:=MeAt e.P e.w e.K e.mg e.base C x k ps (spF e.K f.run)
abbrev En.nw(e:En)(x:Str)(C:Addr)(k:Nat)(ps:List Str)(f:FI):Prop:=MkAt e.P e.w e.K e.mg e.base x C k ps (spF e.K f.run)
noncomputable def scOk(N P:List Str)(sc:Scope):Bool:=sc.kind == .function && !sc.isCoroutine && !sc.isGenerator && decide N.Nodup && N.take P.length == P && P.all (fun x=>sc.names.lookup x == some .local || sc.names.lookup x == some .cell) && sc.names.all (fun y=>y.2 != .free)
def Zd0(h:scOk N P sc=true):FnScope N P sc:=by
 unfold scOk at h
 simp only [and_eq_true,decide_eq_true_eq,List.all_eq_true,or_eq_true,beq_iff_eq,bne_iff_ne,not_eq_true'] at h
 obtain ⟨⟨⟨⟨⟨⟨h1,h2⟩,h3⟩,h4⟩,h5⟩,h6⟩,h7⟩:=h
 exact ⟨h1,h2,h3,h4,h5,h6,h7⟩
def NI(K:Fg)(x:Str):Prop:=nsIn K mainGlobals x=some none
def TI(K:Fg)(x:Str)(st:Stmt):Prop:=∃ f fd,nsIn K mainGlobals x=some (some (.ref f))/\Fun K x x st f fd
def MI(K:Fg)(C:Addr)(x q:Str)(st:Stmt):Prop:=∃ f fd,findIn K (.ref C) x=some (some (.ref f))/\isFn K (.ref f)=true/\Fun K x q st f fd
structure CI(K:Fg)(x:Str)(C:Addr):Prop where
 at_:nsIn K mainGlobals x=some (some (.ref C))
 pg:plainGet K C Str.empty=true
 hd:hasDictIn K C=true
 po:plainOver K C=true
 sa:findIn K (.ref C) "__setattr__"=some (some (.builtin "object.__setattr__"))
 mk_:makesIn K C=true
 kp:keepIn K (.ref C)=true
section
variable{K:Fg}{x q:Str}{f C:Addr}{kV ct:Value}
def ZsB(h:nsIn K mainGlobals x=some (some (.ref f)))(l:K.lookup f=some ⟨oc,od,.func (fnOf x x (ZaY st) (Zae st) (Zp st) .none kV doc pm an cdv ct),osl⟩)(c:codeIn K cdv x=true)(k:keepIn K (.ref f)=true):TI K x st:=⟨f,_,h,Zgl l c k⟩
def ZsC(h:findIn K (.ref C) x=some (some (.ref f)))(y:isFn K (.ref f)=true)(l:K.lookup f=some ⟨oc,od,.func (fnOf x q (ZaY st) (Zae st) (Zp st) .none kV doc pm an cdv ct),osl⟩)(c:codeIn K cdv q=true)(k:keepIn K (.ref f)=true):MI K C x q st:=⟨f,_,h,y,Zgl l c k⟩
end
def CI.cl{K:Fg}{x:Str}{C:Addr}(c:CI K x C):Cls K C:=⟨c.pg,c.hd,c.po,c.sa⟩
def Bo(e:En):Prop:=∃ h,e.K.In h/\h.Ns mainGlobals e.mg
section
variable{e:En}{x q:Str}{N ps:List Str}{k n:Nat}{C:Ctx}{body:List S}{A:Addr}
abbrev us_(st:Stmt)(x q:Str)(ps:List Str):Prop:=∀(kV doc pm:Value)(an:Option Addr)(cdv ct:Value)(us:List Value),us.length=ps.length->bindArgs (fnOf x q (ZaY st) (Zae st) (Zp st) .none kV doc pm an cdv ct) ⟨us,[]⟩=pure (ps.zip us)
abbrev bd_(e:En)(N:List Str)(q:Str)(st:Stmt)(k n:Nat)(C:Ctx)(body:List S):Prop:=∀(f:Addr)(cdv:Value)(A:Around)(outer:List Env)(s:Shared)(H:Hp)(E:XK),Room k (A.deeper (envOfC q (Zp st) s.heap.objs.size f cdv))->
 PSs (cxOf CX0 e.P e.w e.K e.mg e.base N q (Zp st) f cdv A outer s H E).nox (Zae st) (tS e.K (fun i=>decide (i < n)) (exs { C with lock:=fun i=>decide (i < n) } body))
def Zau(Y:Bo e)(F:TI e.K x st)(N:List Str)(hb:bd_ e N x st k n C body)(hs:autoParam (scOk N ps (Zp st)=true) Q8)(hn:autoParam (ps.length=n) Q9)(hN:autoParam (N.length=nN) Q9)
 (us:us_ st x x ps:=by intro _ _ _ _ _ _;first|exact us1 fun _=>rfl|exact us2 fun _ _=>rfl|exact us3 fun _ _ _=>rfl|exact us4 fun _ _ _ _=>rfl|exact us5 fun _ _ _ _ _=>rfl|exact us6 fun _ _ _ _ _ _=>rfl):
 FnAt e.P e.w e.K e.mg e.base x (k+1) ps (spF e.K (Zi C n nN body)):=by
 obtain ⟨f,fd,h1,F⟩:=F
 obtain ⟨h,X,G⟩:=Y
 exact ⟨f,fd,Zdh F (Zd0 hs) hn hN fun cdv A o s H E=>hb f cdv A o s H E,mg_of X G h1,F.kp,F.binds us⟩
def Zi4(cl:Cls e.K A)(F:MI e.K A x q st)(N:List Str)(hb:bd_ e N q st k n C body)(hs:autoParam (scOk N ps (Zp st)=true) Q8)(hn:autoParam (ps.length=n) Q9)(hN:autoParam (N.length=nN) Q9)
 (us:us_ st x q ps:=by intro _ _ _ _ _ _;first|exact us1 fun _=>rfl|exact us2 fun _ _=>rfl|exact us3 fun _ _ _=>rfl|exact us4 fun _ _ _ _=>rfl|exact us5 fun _ _ _ _ _=>rfl|exact us6 fun _ _ _ _ _ _=>rfl):
 MeAt e.P e.w e.K e.mg e.base A x (k+1) ps (spF e.K (Zi C n nN body)):=by
 obtain ⟨f,fd,h1,y,F⟩:=F
 exact ⟨⟨f,fd,Zdh F (Zd0 hs) hn hN fun cdv A o s H E=>hb f cdv A o s H E,⟨h1,y,F.kp⟩,F.binds us⟩,cl⟩
def ZsD(Y:Bo e)(c:CI e.K x A)(F:MI e.K A "__init__" q st)(N:List Str)(hb:bd_ e N q st k n C body)(hs:autoParam (scOk N ps (Zp st)=true) Q8)(hn:autoParam (ps.length=n) Q9)(hN:autoParam (N.length=nN) Q9)
 (us:us_ st "__init__" q ps:=by intro _ _ _ _ _ _;first|exact us1 fun _=>rfl|exact us2 fun _ _=>rfl|exact us3 fun _ _ _=>rfl|exact us4 fun _ _ _ _=>rfl|exact us5 fun _ _ _ _ _=>rfl|exact us6 fun _ _ _ _ _ _=>rfl):
 MkAt e.P e.w e.K e.mg e.base x A (k+1) ps (spF e.K (Zi C n nN body)):=by
 obtain ⟨f,fd,h1,y,F⟩:=F
 obtain ⟨h,X,G⟩:=Y
 exact ⟨f,fd,Zdh F (Zd0 hs) hn hN fun cdv A o s H E=>hb f cdv A o s H E,⟨c.mk_,h1,y,c.kp⟩,mg_of X G c.at_,F.binds us⟩
def Zp8(F:Fun e.K x x st f fd)(N:List Str)(hb:bd_ e N x st k n C body)(hs:autoParam (scOk N ps (Zp st)=true) Q8)(hn:autoParam (ps.length=n) Q9)(hN:autoParam (N.length=nN) Q9):
 FnOk e.P e.w e.K e.mg e.base CX0 (k+1) f fd ps (spF e.K (Zi C n nN body)):=Zdh F (Zd0 hs) hn hN fun cdv A o s H E=>hb f cdv A o s H E
end
def LT(K:Fg)(mg:SO)(cn:Str):Prop:=∃ D',mg cn=some (.ref D')/\XC K D'/\GX K cn D'
def LX(K:Fg)(mg:SO)(cn:Str):Prop:=∃ D',mg cn=some (.ref D')/\GX K cn D'/\typeIn K (.ref D')=some (.type "type")
def L0(K:Fg)(mg:SO)(cn:Str):Prop:=∃ D',mg cn=some (.ref D')/\XN K [cn,"LabelError"] D'/\findIn K (.ref D') (Str.ofString "__init__")=some (some (.builtin "ValueError.__init__"))
def LI(K:Fg)(mg:SO)(cn:Str):Prop:=∃ D',mg cn=some (.ref D')/\XI K D'
section
def qax(he:PEx X e (tMX X.K c))(h:autoParam (tgOk X i x=true) Q8)(hs:autoParam (swapsWith e (some (.Name x pos')) pos.line X.env=pure false) Q9):PX X (.Assign [.Name x pos'] e pos) (tX X.K lk (c.bnd fun d=>(asgN lk i d).bnd fun _=>M.ret .nx)):=by
 obtain ⟨b,h,n,f⟩:=qq h
 exact ZkN h n he hs (hf:=f)
def qty(F:Fr0 X X.A)(L:LT X.K X.mg cn)(hb:PXs X body (tX X.K lk cb))(hs:∀ v,PSs (X.inH v) (b₀::suite) (tS X.K lk csu))(h:autoParam ((Zt X.env.scope X.N i x false && decide X.N.Nodup)=true) Q8)(g:autoParam (glX X cn) Q8)(hx:∀ e s,¬ X.xe e s:=by exact fun _ _ h=>h):
 PX X (.Try body [.ExceptHandler (some (.Name cn np)) (some x) (b₀::suite) hp] [] [] pos) (tX X.K lk (tryM lk cb cn (some i) csu)):=by
 obtain ⟨D',h1,h2,h3⟩:=L
 simp only [and_eq_true,decide_eq_true_eq] at h
 exact ZkO F hx h.1 h.2 hb hs (glk g) h1 h2 h3 (dbk g)
def qiX(L:LX X.K X.mg cn)(hm:X.mg "isinstance"=none)(ha:PE X a (tP X.K ca))(h:autoParam (glX X "isinstance") Q8)(g:autoParam (glX X cn) Q8)
 (hs:autoParam (starEach [a,.Name cn p2] X.env=[(false,eval a X.env),(false,eval (.Name cn p2) X.env)]) Q9) (hs1:autoParam (starEach [.Name cn p2] X.env=[(false,eval (.Name cn p2) X.env)]) Q9):
 PE X (.Call (.Name "isinstance" p) [a,.Name cn p2] [] pos) (tM X.K ((ca.bnd fun p=>(M.ret ([]:List Op)).bnd fun ps=>M.ret (p::ps)).bnd fun ps=>(views ps).bnd fun ws=>lift (bfW (.isiX cn) ws))):=by
 obtain ⟨D',h1,h2,h3⟩:=L
 exact Znf h2 h3 (glk h) hm ha (Zfn (v:=.ref D') (glk g) h1 rfl (dbk g)) hs hs1
structure XMd(P:Program)(w:World)(K:Fg)(mg:SO)(base:Heap)(x:Str)(ns:List Str)(k:Nat)(ps:List Str)(sp:Sp):Prop where
 ex:∃(C f:Addr)(fd:FuncData),XN K ns C/\findIn K (.ref C) (Str.ofString "__init__")=some (some (.ref f))/\typeIn K (.ref f)=some (.type "function")/\FnOk P w K mg base CX0 k f fd ps sp/\mg x=some (.ref C)/\Binds K fd ps [.none]
end
section
variable{e:En}{x q:Str}{N ps:List Str}{k n:Nat}{C:Ctx}{body:List S}{A:Addr}
abbrev En.fx(e:En)(x:Str)(k:Nat)(ps:List Str)(f:FI):Prop:=FnAtX e.P e.w e.K e.mg e.base x k ps (spX e.K f.run)
abbrev En.xi(e:En)(x:Str)(k:Nat)(ps:List Str)(f:FI):Prop:=XMk e.P e.w e.K e.mg e.base x [x,"LabelError"] k ps (spF e.K f.run)
abbrev En.xd(e:En)(x:Str)(k:Nat)(ps:List Str)(f:FI):Prop:=XMd e.P e.w e.K e.mg e.base x [x,"LabelError"] k ps (spF e.K f.run)
abbrev bx_(e:En)(N:List Str)(q:Str)(st:Stmt)(k n:Nat)(C:Ctx)(body:List S):Prop:=∀(f:Addr)(cdv:Value)(A:Around)(outer:List Env)(s:Shared)(H:Hp)(E:XK),Fr0 (cxOf CX0 e.P e.w e.K e.mg e.base N q (Zp st) f cdv A outer s H E).nox (A.deeper (envOfC q (Zp st) s.heap.objs.size f cdv))->Room k (A.deeper (envOfC q (Zp st) s.heap.objs.size f cdv))->
 PXs (cxOf CX0 e.P e.w e.K e.mg e.base N q (Zp st) f cdv A outer s H E).nox (Zae st) (tX e.K (fun i=>decide (i < n)) (exs { C with lock:=fun i=>decide (i < n) } body))
def ZsE(Y:Bo e)(F:TI e.K x st)(N:List Str)(hb:bx_ e N x st k n C body)(hs:autoParam (scOk N ps (Zp st)=true) Q8)(hn:autoParam (ps.length=n) Q9)(hN:autoParam (N.length=nN) Q9)
 (us:us_ st x x ps:=by intro _ _ _ _ _ _;first|exact us1 fun _=>rfl|exact us2 fun _ _=>rfl|exact us3 fun _ _ _=>rfl|exact us4 fun _ _ _ _=>rfl|exact us5 fun _ _ _ _ _=>rfl|exact us6 fun _ _ _ _ _ _=>rfl):
 FnAtX e.P e.w e.K e.mg e.base x (k+1) ps (spX e.K (Zi C n nN body)):=by
 obtain ⟨f,fd,h1,F⟩:=F
 obtain ⟨h,X,G⟩:=Y
 exact ⟨f,fd,ZhA F (Zd0 hs) hn hN fun cdv A o s H E=>hb f cdv A o s H E,mg_of X G h1,F.kp,F.binds us⟩
def DI(K:Fg)(C:Addr)(q:Str)(st:Stmt):Prop:=∃ f fd T dt it nt sl,findIn K (.ref C) (Str.ofString "__init__")=some (some (.ref f))/\typeIn K (.ref f)=some (.type "function")/\FunV (.ref T) K "__init__" q st f fd/\K.lookup T=some ⟨.type "tuple",dt,.seq it nt,sl⟩/\it=#[Value.none]
def ZsF{K:Fg}{C f T:Addr}{dt:Option Addr}{sl:Array (Option Value)}{kV ct:Value}{it:Array Value}{nt:Nat}(h:findIn K (.ref C) (Str.ofString "__init__")=some (some (.ref f)))(y:typeIn K (.ref f)=some (.type "function"))(l:K.lookup f=some ⟨oc,od,.func (fnOf "__init__" q (ZaY st) (Zae st) (Zp st) (.ref T) kV doc pm an cdv ct),osl⟩)
 (c:codeIn K cdv q=true) (k:keepIn K (.ref f)=true) (t:K.lookup T=some ⟨.type "tuple",dt,.seq it nt,sl⟩) (z:it=#[Value.none]):DI K C q st:=⟨f,_,T,dt,it,nt,sl,h,y,⟨⟨oc,od,kV,doc,pm,an,cdv,ct,osl,rfl,l,c⟩,k⟩,t,z⟩
structure LB(K:Fg)(L:Addr):Prop where
 x:nsIn K mainGlobals "LabelError"=some (some (.ref L))
 gx:GX K "LabelError" L
 xc:XC K L
 tl:tailIn K bmV (.ref L::bmV)=true
structure XB(K:Fg)(L:Addr)(x:Str)(C:Addr):Prop where
 at_:nsIn K mainGlobals x=some (some (.ref C))
 lk:∃(q:Str)(N:Addr)(bs:List Value)(sn:List Str)(sub:List Value)(ab:Bool)(col:Option Bool)(dd:Option Addr)(k0 k1 k2 k3 k5:Option Value),K.lookup C=some (excClassObj x q C N bs (.ref L::bmV) true sn sub ab col dd k0 k1 k2 k3 k5 "ValueError.__new__")
structure XA(K:Fg)(C:Addr):Prop where
 sa:findIn K (.ref C) (Str.ofString "__setattr__")=some (some (.builtin "object.__setattr__"))
 ga:findIn K (.ref C) (Str.ofString "__getattribute__")=some (some (.builtin "BaseException.__getattribute__"))
 kp:keepIn K (.ref C)=true
 hk:findIn K (.ref C) (Str.ofString "__getattr__")=some none
 hc:findIn K (.ref C) "__class__"=some (some (.builtin "object.__class__"))
 hn:specialIn K (.builtin "object.__class__") "__get__"=some (some (.builtin "getset_descriptor.__get__"))
 ht:takesIn K (.builtin "object.__class__")=some true
 n1:findIn K (.ref C) "row"=some none
 n2:findIn K (.ref C) "number"=some none
 n3:findIn K (.ref C) "length"=some none
 n4:findIn K (.ref C) "numbers"=some none
end
section
variable{K:Fg}{n:Str}{C:Addr}{q qL:Str}{N NL:Addr}{bs bsL:List Value}{sn snL:List Str}{sub subL:List Value}{ab abL:Bool}{col colL:Option Bool}{dd ddL:Option Addr}{k0 k1 k2 k3 k5 l0 l1 l2 l3 l5:Option Value}
def ZsG(x:nsIn K mainGlobals "LabelError"=some (some (.ref L)))(lL:K.lookup L=some (excClassObj "LabelError" qL L NL bsL bmV true snL subL abL colL ddL l0 l1 l2 l3 l5 "ValueError.__new__"))(ln:K.lookup NL=some ⟨oc,od,.dict es ep,sl⟩)(he:es.all Zg9=true)
 (hi:nsIn K NL (Str.ofString "__init__")=some none) (sa:findIn K (.ref L) (Str.ofString "__setattr__")=some (some (.builtin "object.__setattr__"))) (ga:findIn K (.ref L) (Str.ofString "__getattribute__")=some (some (.builtin "BaseException.__getattribute__"))) (kp:keepIn K (.ref L)=true):LB K L:=
 ⟨x,Zi3 x lL,ZlL lL ZlM (show ZbM bmV=true by decide +kernel) sa ga kp,Zs4 lL ln he hi⟩
def ZsH(x:nsIn K mainGlobals n=some (some (.ref C)))(lk:K.lookup C=some (excClassObj n q C N bs (.ref L::bmV) true sn sub ab col dd k0 k1 k2 k3 k5 "ValueError.__new__")):XB K L n C:=⟨x,_,_,_,_,_,_,_,_,_,_,_,_,_,lk⟩
def XB.xn(b:XB K L n C)(l:LB K L)(a:XA K C):XN K [n,"LabelError"] C:=by
 obtain ⟨x,q,N,bs,sn,sub,ab,col,dd,k0,k1,k2,k3,k5,lk⟩:=b
 exact Zs6 x lk l.gx l.tl a.sa a.ga a.kp a.hk a.hc a.hn a.ht a.n1 a.n2 a.n3 a.n4
def XB.lx(b:XB K L n C)(X:K.In h)(G:h.Ns mainGlobals mg):LX K mg n:=by
 obtain ⟨x,q,N,bs,sn,sub,ab,col,dd,k0,k1,k2,k3,k5,lk⟩:=b
 exact ⟨C,mg_of X G x,Zi3 x lk,Zs5 lk⟩
end
structure MeAtX(P:Program)(w:World)(K:Fg)(mg:SO)(base:Heap)(C:Addr)(m:Str)(k:Nat)(ps:List Str)(sp:Sp):Prop where
 ex:∃(f:Addr)(fd:FuncData),FnOk P w K mg base (CXx P w) k f fd ps sp/\Meth K C m f/\Binds K fd ps []
 cl:Cls K C
section
theorem ZkU(G:MeAtX X.prog X.w X.K X.mg X.base A m j ps (spX X.K fi.run))(hr:Room n X.A)(ho:PE X o (tP X.K ca))(ha:PA X (e::es) (tPs X.K cs))(hj:autoParam (j<=n) Q7)
 (hst:autoParam (SE X e es) Q9) (hpl:autoParam (SFx X pos es) Q9)
 (ht:autoParam (eval (.Call (.Attribute o m apos) (e::es) [] pos) X.env=(do
  let ov <- eval o X.env
  standAt apos.atName
  let (f,first) <- holding [ov] (getMethod ov m pl)
  callWith pos f first (backTo pos (starEach (e::es) X.env)) (backToKw pos (keywordEach [] X.env)))) Q9):
 PEx X (.Call (.Attribute o m apos) (e::es) [] pos) (tMX X.K ((clm ca).bnd fun p=>(chkI A m p).bnd fun _=>(clm cs).bnd fun ps=>Zdy fi (p::ps))):=by
 have nxa:=Zdo ca
 have nx:=Zdo cs
 replace ho:=Zpw ho
 replace ha:=ZjA ha
 generalize clm ca=ca at nxa ho ⊢
 generalize clm cs=cs at nx ha ⊢
 obtain ⟨f,fd,F,hm,hb⟩:=G.ex
 refine PEx.imp (Zkx ho G.cl hm F (hr.mono hj) hb .nil ha hst hpl ht) fun σ H Q Ex h=>?_
 obtain ⟨δ,Hs,M,g,s,q⟩:=h
 unfold T.M.bnd at q
 cases e1:ca δ with
 | exc x y=>exact absurd e1 (nxa _ _ _)
 | stuck=>rw [e1] at q;exact q.elim
 | ok z=>
  obtain ⟨p,δ1⟩:=z
  rw [e1] at q
  dsimp only at q
  cases e2:chkI A m p δ1 with
  | exc x y=>exact absurd e2 (ZmY _ _ _ _ _ _)
  | stuck=>rw [e2] at q;exact q.elim
  | ok z=>
   obtain ⟨u,δ2⟩:=z
   rw [e2] at q
   dsimp only at q
   cases e3:cs δ2 with
   | exc x y=>exact absurd e3 (nx _ _ _)
   | stuck=>rw [e3] at q;exact q.elim
   | ok z=>
    obtain ⟨qs,δ3⟩:=z
    rw [e3] at q
    refine ⟨δ,Hs,M,p,δ1,g,s,e1,fun x H1 Hs1 m1 M1 g1 st1 r1 s1=>?_⟩
    obtain ⟨rfl,a,dx,fs,hx,ha',hl⟩:=Zh2 g1 s1 r1 e2
    refine ⟨a,dx,fs,hx,ha',hl,δ2,Hs1,M1,qs,δ3,g1.re,s1,e3,fun vs H2 Hs2 m2 M2 g2 st2 r2 s2=>?_⟩
    obtain ⟨G2,S2,k2⟩:=Zo g g1 st1 g2 st2
    have r1':=RepP.frame st2.grow k2 r1
    show spX X.K fi.run (x::(vs++[])) H2 Q _
    rw [append_nil]
    exact ZjD (m1:=fun b=>m1 b+m2 b) g (G2.re fun b=>by (try dsimp only);omega) (S2.drop (fun b=>by (try dsimp only);omega) G2.le) (show ZaP X.K H2 Hs2 σ (x::vs) (p::qs) (fun b=>m1 b+m2 b) from ⟨m1,m2,r1',r2,fun b=>le_refl _⟩) s2 q
end
section
def qmx(G:MeAtX X.prog X.w X.K X.mg X.base A m j ps (spX X.K fi.run))(hr:Room n X.A)(ho:PE X o (tP X.K (ZV i)))(ha:PA X (e::es) (tPs X.K (opds C es')))(hj:autoParam (j<=n) Q7)
 (hst:autoParam (SE X e es) Q9) (hpl:autoParam (SFx X pos es) Q9)
 (ht:autoParam (eval (.Call (.Attribute o m apos) (e::es) [] pos) X.env=(do
  let ov <- eval o X.env
  standAt apos.atName
  let (f,first) <- holding [ov] (getMethod ov m pl)
  callWith pos f first (backTo pos (starEach (e::es) X.env)) (backToKw pos (keywordEach [] X.env)))) Q9):
 PEx X (.Call (.Attribute o m apos) (e::es) [] pos) (tMX X.K (yev C (.meth A m fi (.v i) es'))):=ZkU G hr ho ha hj hst hpl ht
end
section
variable{e:En}{x q:Str}{N ps:List Str}{k n:Nat}{C:Ctx}{body:List S}{A:Addr}
abbrev En.mx(e:En)(C:Addr)(x:Str)(k:Nat)(ps:List Str)(f:FI):Prop:=MeAtX e.P e.w e.K e.mg e.base C x k ps (spX e.K f.run)
def ZgA(cl:Cls e.K A)(F:MI e.K A x q st)(N:List Str)(hb:bx_ e N q st k n C body)(hs:autoParam (scOk N ps (Zp st)=true) Q8)(hn:autoParam (ps.length=n) Q9)(hN:autoParam (N.length=nN) Q9)
 (us:us_ st x q ps:=by intro _ _ _ _ _ _;first|exact us1 fun _=>rfl|exact us2 fun _ _=>rfl|exact us3 fun _ _ _=>rfl):
 MeAtX e.P e.w e.K e.mg e.base A x (k+1) ps (spX e.K (Zi C n nN body)):=by
 obtain ⟨f,fd,h1,y,F⟩:=F
 exact ⟨⟨f,fd,ZhA F (Zd0 hs) hn hN fun cdv A o s H E=>hb f cdv A o s H E,⟨h1,y,F.kp⟩,F.binds us⟩,cl⟩
def II(K:Fg)(C:Addr)(q:Str)(st:Stmt):Prop:=∃ f fd,findIn K (.ref C) (Str.ofString "__init__")=some (some (.ref f))/\typeIn K (.ref f)=some (.type "function")/\Fun K "__init__" q st f fd
def ZsI{K:Fg}{C f:Addr}{kV ct:Value}(h:findIn K (.ref C) (Str.ofString "__init__")=some (some (.ref f)))(y:typeIn K (.ref f)=some (.type "function"))(l:K.lookup f=some ⟨oc,od,.func (fnOf "__init__" q (ZaY st) (Zae st) (Zp st) .none kV doc pm an cdv ct),osl⟩)
 (c:codeIn K cdv q=true) (k:keepIn K (.ref f)=true):II K C q st:=⟨f,_,h,y,Zgl l c k⟩
def ZlO(Y:Bo e)(c:∃ C,e.mg x=some (.ref C)/\XN e.K [x,"LabelError"] C/\II e.K C q st)(N:List Str)(hb:bd_ e N q st k n C body)(hs:autoParam (scOk N ps (Zp st)=true) Q8)(hn:autoParam (ps.length=n) Q9)(hN:autoParam (N.length=nN) Q9)
 (us:us_ st "__init__" q ps:=by intro _ _ _ _ _ _;exact us2 fun _ _=>rfl):
 XMk e.P e.w e.K e.mg e.base x [x,"LabelError"] (k+1) ps (spF e.K (Zi C n nN body)):=by
 obtain ⟨C',m,xn,f,fd,h1,h2,F⟩:=c
 exact ⟨C',f,fd,xn,h1,h2,Zdh F (Zd0 hs) hn hN fun cdv A o s H E=>hb f cdv A o s H E,m,F.binds us⟩
end
section
def Znj(hp:PassesOwn (model X.prog X.w) X.A X.env X.xe)(hc:X.calm=true)(hw:HWs (opds C ies) (fun j=>C.lock j || walked ies j))(hi:PI X tg iter (tI X.K ik (opds C ies)))(hg:PG X tg (gT X.K tgt))(hb:PSs X body (tS X.K (fun j=>C.lock j || walked ies j) (exs { C with lock:=fun j=>C.lock j || walked ies j } body')))(hs:∀ x,foldedSetIterable iter X.env x=pure x:=by intro _;rfl)(hl:autoParam (C.lock=lk) Q9):
 PS X (.For tg iter body [] pos) (tS X.K lk (ex C (.for_ tgt ik ies body'))):=by
 subst hl
 have e:ex C (.for_ tgt ik ies body')=((opds C ies).bnd fun ps=>(Zu ps).bnd fun h=>(lift (itW ik h.1)).bnd fun items=>(forL (asgT (fun j=>C.lock j || walked ies j) tgt) (exs { C with lock:=fun j=>C.lock j || walked ies j } body') items).bnd fun f=>(ZN h.2).bnd fun _=>M.ret f):=rfl
 rw [e]
 exact Zbg hp hc (Zb0 _ _) hw hi hg hb hs
end
def Zp9(C:Ctx)(i:Nat)(y:YE):ex C (.asgY i y)=((yev C y).bnd fun d=>(asgN C.lock i d).bnd fun _=>M.ret .nx):=(rfl)
def ZkV(C:Ctx)(A:Addr)(m:Str)(fi:FI)(o:E)(es:List E):yev C (.meth A m fi o es)=((clm (Zl o (evb C o).1)).bnd fun p=>(chkI A m p).bnd fun _=>(clm (opds C es)).bnd fun ps=>Zdy fi (p::ps)):=(rfl)
end T
namespace L2
open PySem PySem.Spec PyProof.Rows
section
variable{prog:Program}{w:World}{K:Type}[DecidableEq K]{knd:KeyKind prog w K}{A:Around}{E:VS}{s:Shared}
theorem Zi5(hq0:knd.is k key=true)(hm:s.heap.DictOf knd d kz)
 (h1:∀ x,valueAt kz k=some x->Q x { s with toks:=s.toks+1 })
 (h2:valueAt kz k=none->∀ h',h'.DictOf knd d (stored kz k v)->Heap.SameBut d s.heap h'->Q v { s with heap:=h',toks:=s.toks+1 })
 (hsz:kz.length<=sizeLine):wpAny (model prog w) A (dictSetDefault d key v) Q E s:=by
 (obtain ⟨o,es,ep,ho,hc,hd,hk,hp,hn⟩:=hm)
 have hes:es.size<=sizeLine:=by
  have e1:=hp.length
  have e2:es.toList.length=es.size:=by simp
  omega
 unfold dictSetDefault
 try with_reducible refine wpAny_holding ?_
 refine wpAny_bind (knd.pyHash hq0 ?_)
 refine wpAny_bind (wpAny_dictFind_of (s:={ s with toks:=s.toks+1 }) hq0 ho hd hk ?_)
 have hix:(es.findIdx? fun e=>knd.is k e.key)=kz.findIdx? fun kv=>decide (kv.1=k):=by
  rw [<- hp.findIdx k]
  obtain ⟨l⟩:=es
  simp
 cases hi:(es.findIdx? fun e=>knd.is k e.key) with
 | some i=>
  have hl:(es.toList.findIdx? fun e=>knd.is k e.key)=some i:=by
   rw [<- hi]
   obtain ⟨l⟩:=es
   simp
  (obtain ⟨e,he,hek,hev⟩:=hp.at hl)
  (refine wpAny_bind (wpAny_dictEntries (s:={ s with toks:=s.toks+1 }) ho hd ?_))
  have he':es[i]?=some e:=by
   rw [<- he]
   obtain ⟨l⟩:=es
   simp
  rw [he']
  exact wpAny_bind (wpAny_rule (wpAny_pure (h1 e.val hev)))
 | none=>
  have hnot:k∉kz.map (·.1):=not_mem_of_findIdx_none (hix ▸ hi)
  have hay:¬ (kz.any fun kv=>decide (kv.1=k))=true:=by
   rw [any_eq_true]
   rintro ⟨kv,hkv,he⟩
   (exact hnot (List.mem_map.mpr ⟨kv,hkv,of_decide_eq_true he⟩))
  have hv:valueAt kz k=none:=by
   unfold valueAt
   rw [List.find?_eq_none.mpr fun kv hkv e=>hay (List.any_eq_true.mpr ⟨kv,hkv,by simpa using e⟩)]
   rfl
  refine wpAny_bind (wpAny_rule (wpAny_bind (wpAny_updateDictKeys (hz:=hes) (s:={ s with toks:=s.toks+1 }) ho hd (wpAny_pure (h2 hv _ ⟨_,_,ep+1,Heap.get?_update_self _ ho (Obj.isFreed_of_dict (Obj.data_mapDictKeys hd _)),
   hc.mapDictKeys _,Obj.data_mapDictKeys hd _,hk.push hq0 _,?_,?_⟩ (Heap.SameBut.update ..))))))
  . rw [stored,if_neg hay]
    have:=hp.append hq0 (knd.hash k) v
    obtain ⟨l⟩:=es
    simpa using this
  . rw [stored,if_neg hay,map_append,List.nodup_append]
    refine ⟨hn,by simp,?_⟩
    intro a ha b hb
    (simp only [map_cons,map_nil,List.mem_singleton] at hb)
    subst hb
    exact fun e=>hnot (e ▸ ha)
end
section
variable{prog:Program}{w:World}{K:Type}[DecidableEq K]{k:K}{key:Value}(knd:KeyKind prog w K)(d:Addr)
def Zi6(hq0:knd.is k key=true)(hd:(d == sysModules)=false)(v:Value):
 MeetsIn prog w (Builtin.«dict.setdefault» ⟨[.ref d,key,v],[]⟩) (fun _ R s=>∃ kz,s.heap.DictOf knd d kz/\kz.length<=sizeLine/\
  (∀ x,valueAt kz k=some x->R (.ok (.ret x)) { s with toks:=s.toks+1 })/\
  (valueAt kz k=none->∀ h',h'.DictOf knd d (stored kz k v)->Heap.SameBut d s.heap h'->R (.ok (.ret v)) { s with heap:=h',toks:=s.toks+1 })):=
 .of_wp fun A R s z90=>by
  obtain ⟨kz,hm,hz,h1,h2⟩:=z90
  (unfold Builtin.«dict.setdefault»)
  refine wpAny_bind ?_
  (unfold Builtin.Dict.keyAndDefault)
  (refine wpAny_bind (wpAny_notOrdered_dict hm.typeIs ?_))
  show wpAny _ _ (pure (d,key,some v)) _ _ s
  refine wpAny_pure ?_
  show wpAny _ _ (if (d == sysModules)=true then _ else (dictSetDefault d key v >>= _)) _ _ s
  (rw [if_neg (by rw [hd];exact Bool.false_ne_true)])
  exact wpAny_bind (Zi5 hq0 hm (fun x hv=>wpAny_pure ⟨x,rfl,h1 x hv⟩) (fun hn h' hm' hs'=>wpAny_pure ⟨v,rfl,h2 hn h' hm' hs'⟩) hz)
end
def ZsJ(td ty tx:TE):TE:=fun σ H Q=>td σ H fun x H1=>∃ a,x=.ref a/\IsD H1 a/\ty σ H1 fun y H2=>tx σ H2 fun z H3=>∃ kvs k,H3 a=some (.dK kvs)/\y=kV k/\
 (∀ v,valV kvs k=some v->Q v H3)/\(valV kvs k=none->kvs.length < sizeLine/\Q z (upd H3 a (.dK (putK kvs k z))))
section
variable{X:Cx}{o e f:Expr}{p apos cpos pos:Pos}{td ty tx:TE}
def Znk(ho:PE X o td)(he:PE X e ty)(hf:PE X f tx)(m:M2 X o "setdefault" apos e f cpos):PE X (.Call (.Attribute o "setdefault" apos) [e,f] [] cpos) (ZsJ td ty tx):=by
 intro pins s σ H Q I h
 refine wpAny_Call_method m.base m.few m.line PySem.F.plainAttrs_dict PySem.F.slot_dict_setdefault PySem.F.type_dict_setdefault (thn (ho pins s σ H _ I h) fun u s1 z0=>?_)
 obtain ⟨x,H1,I1,rx,a,ex,d,q1⟩:=z0
 subst ex
 obtain rfl:u=Value.ref a:=rx
 obtain ⟨t1,t2,_⟩:=Zjg I1 d
 refine ⟨t1,t2,?_⟩
 rw [m.trees]
 refine Calls.callWith_builtin rfl (Calls.evalArgs_plain (Calls.spliced_cons (thn (he pins s1 σ H1 _ I1 q1) fun iv s2 ⟨y,H2,I2,ry,q2⟩=>
  Calls.spliced_cons (thn (hf pins s2 σ H2 _ I2 q2) fun fv s3 ⟨z,H3,I3,rz,kvs,k,ea,ey,q3,q4⟩=>Calls.spliced_nil ?_))))
 subst ey
 obtain ⟨hz,hd,vs,rel,dd⟩:=ZlA I3.hok ea
 refine call_meetsIn PySem.F.slot_dict_setdefault dd.typeIs PySem.F.entry_dict_setdefault (PySem.F.args_dict_setdefault_3 _ _ _) (Zi6 (ZT X.prog X.w) a (Zea ry) hd fv) ⟨vs,dd,by rw [<- rel.length];exact hz,fun x hx=>?_,fun hn h' dd' hs=>?_⟩
 . have:=rel.val k
   rw [hx] at this
   cases l:valV kvs k with
   | none=>rw [l] at this;exact this.elim
   | some v=>rw [l] at this;exact ⟨v,H3,I3.tok _,this,q3 v l⟩
 . have:=rel.val k
   rw [hn] at this
   cases l:valV kvs k with
   | some v=>rw [l] at this;exact this.elim
   | none=>
    have hl2:(putK kvs k z).length<=sizeLine:=by have:=ZcV kvs k z;have:=(q4 l).1;omega
    have hh:∃ q,h'.get? a=some q:=let ⟨q,_,_,hq,_⟩:=dd';⟨q,hq⟩
    exact ⟨z,_,Zfp I3 (by rw [ea];exact True.intro) hs hh (Zje hl2 hd (rel.put k rz) dd'),rz,(q4 l).2⟩
def ZpA(td:TE):TE:=fun σ H Q=>td σ H fun x H1=>∃ a kvs,x=.ref a/\Rd H1 a (.dK kvs)/\∀ l,H1 l=none->Q (.ref l) (upd H1 l (.lst (kvs.map (·.2))))
theorem Znl{kvs:List (Key×V)}{vs:List (Key×Value)}(r:KV kvs vs):Vals (kvs.map (·.2)) (vs.map (·.2)):=by
 induction r with
 | nil=>exact .nil
 | cons a b ih=>exact .cons a.2 ih
def ZkW(hc:X.calm=true)(hg:Gl X "list")(hm:X.mg "list"=none)(ho:PE X o td)
 (hs:autoParam (starEach [.Call (.Attribute o "values" apos) [] [] cpos] X.env=[(false,eval (.Call (.Attribute o "values" apos) [] [] cpos) X.env)]) Q9)
 (hbase:autoParam (attributeBase o "values" X.env (eval o X.env)=eval o X.env) Q9) (hline:autoParam ((apos.endLine == cpos.line)=true) Q9):
 PE X (.Call (.Name "list" p) [.Call (.Attribute o "values" apos) [] [] cpos] [] pos) (ZpA td):=by
 intro pins s σ H Q I h
 refine Call_ (Zbv I hg hm (by decide +kernel) (PyProof.Rows.callWith_type1 (T:="list") ?_ hs rfl))
 rw [hs]
 show wpAny _ _ (spliced [(false,eval (.Call (.Attribute o "values" apos) [] [] cpos) X.env)]) _ _ s
 refine Calls.spliced_cons ?_
 refine wpAny_Call_method0_late hbase hline (thn (ho pins s σ H _ I h) fun v s1 z0=>?_)
 obtain ⟨x,H1,I1,r1,a,kvs,rfl,hr,q⟩:=z0
 obtain rfl:v=Value.ref a:=r1
 obtain ⟨t1,t2,hd⟩:=Zjg I1 (.inl ⟨kvs,hr⟩)
 refine ⟨"dict",_,PySem.F.plainAttrs_dict,PySem.F.slot_dict_values,PySem.F.type_dict_values,t1,t2,Calls.callWith_builtin rfl (PySem.evalArgs_none ?_)⟩
 obtain ⟨hz,hd,vs,rel,dd⟩:=ZcC I1.hok hr
 refine call_meetsIn PySem.F.slot_dict_values dd.typeIs PySem.F.entry_dict_values (PySem.F.args_dict_values_1 _) (meets_dict_values (ZT X.prog X.w) a hd) ⟨⟨vs,dd⟩,?_⟩
 refine Calls.spliced_nil ?_
 have I2:Inv X pins σ H1 { s1 with heap:=s1.heap.push { cls:=.type "dict_values",data:=.fields #[.ref a] } }:=I1.kept fun b o e=>Heap.get?_push_of_some _ e
 obtain ⟨ep,dat⟩:=(dd.push { cls:=.type "dict_values",data:=.fields #[.ref a] }).dictAt
 refine PySem.W.kdl_call (PySem.W.kdl_values (knd:=ZT X.prog X.w) (r:=s1.heap.objs.size) (d:=a) (kvs:=vs) (ep:=ep)) (I1.ok.hd hc) ⟨⟨_,Heap.get?_push_size _ rfl,rfl,rfl⟩,dat⟩ (by rw [<- rel.length];exact hz) fun h' tk acc' c' hk hS hacc=>?_
 have ea:acc'.toList=vs.map (·.2):=PySem.W.kdl_vals_eq acc'.toList (by rw [Array.length_toList];exact hacc.1) fun j v e=>hacc.2 j v (by rw [<- Array.getElem?_toList];exact e)
 have hf:=I2.hok.fresh (le_refl _)
 refine ⟨.ref _,upd H1 _ (.lst _),I2.laid (t':=tk) hk (le_refl _) ⟨by rw [length_map];exact hz,acc'.toList,c',?_,by rw [Array.toArray_toList];exact hS⟩,rfl,q _ hf⟩
 rw [ea]
 exact Znl rel
end
end L2
namespace T
open PySem PySem.Spec L2
section
variable{K:Fg}{H Hs:Hp}
def Znm{σ:St}{M:Bud}{δ δ':List D}{u:Unit}{i:Nat}(g:Good H Hs M)(s:RepS K H Hs σ δ M)(h:chkD i δ=.ok (u,δ')):δ'=δ/\∃ p,σ[i]?=some (some (.ref p))/\IsD H p:=by
 unfold chkD at h
 split at h
 . rename_i kd oo ds hi
   split at h
   . cases h
     obtain ⟨v,m1,m2,e1,q,l,f⟩:=s.slot hi (by simp)
     refine ⟨rfl,?_⟩
     cases q with
     | own n r _=>exact ⟨_,e1,.inl ⟨_,.inl n.2⟩⟩
     | shd n r=>exact ⟨_,e1,.inl ⟨_,.inl (g.sub _ _ n.2)⟩⟩
   . cases h
 . cases h
theorem Rep.shd0(h:ZeP d=true)(r:Rep K H Hs v d m):Rep K H Hs v d (fun _=>0):=by
 cases r with
 | sc v m=>exact .sc v _
 | hole v m=>cases h
 | own n r l=>cases h
 | shd n r=>exact .shd n r
end
section
def Znn (ho:PE X o (tVar i)) (hk:PE X k (tM X.K ck)) (he:PE X e (tM X.K cv))
 (h1:autoParam (attributeBase o "setdefault" X.env (eval o X.env)=eval o X.env) Q9)
 (h2:autoParam (((backTo cpos (starEach [k,e] X.env)).all (fun x=>!x.1) && (backToKw cpos (keywordEach [] X.env)).all (fun x=>x.1.isSome)
  && decide (([k,e]:List Expr).length+([]:List Keyword).length+(if ([]:List Keyword).isEmpty then 0 else 1) < 30))=true) Q9)
 (h3:autoParam ((apos.endLine == cpos.line)=true) Q9) (h4:autoParam (backTo cpos (starEach [k,e] X.env)=[(false,eval k X.env),(false,eval e X.env)]) Q9):
 PE X (.Call (.Attribute o "setdefault" apos) [k,e] [] cpos) (tM X.K (Zgd i ck cv)):=PE.imp (Znk ho hk he ⟨h1,h2,h3,h4⟩) fun σ H Q h=>by
 obtain ⟨δ,Hs,M,d,δ',g,s,ea,q⟩:=h
 obtain ⟨u,δ0,e0,eb⟩:=Zb ea
 obtain ⟨dk,δ1,e1,ec⟩:=Zb eb
 obtain ⟨dv,δ2,e2,ed⟩:=Zb ec
 obtain ⟨rfl,p0,h1,h2⟩:=Znm g s e0
 refine ⟨_,h1,p0,rfl,h2,δ0,Hs,M,dk,δ1,g,s,e1,fun y H1 Hs1 m1 M1 g1 st1 r1 s1=>?_⟩
 refine ⟨δ1,Hs1,M1,dv,δ2,g1.re,s1,e2,fun z H2 Hs2 m2 M2 g2 st2 r2 s2=>?_⟩
 obtain ⟨G2,S2,k2⟩:=Zo g g1 st1 g2 st2
 have r1':=r1.frame st2.grow k2
 obtain ⟨kd,ds0,k',ds',hi,hf,rfl⟩:=Zcu ed
 have G3:Good H2 Hs2 (fun b=>(m1 b+m2 b)+M2 b):=G2.re fun b=>by (try dsimp only);omega
 have S3:Stp H Hs M H2 Hs2 (fun b=>(m1 b+m2 b)+M2 b):=S2.drop (fun b=>by (try dsimp only);omega) G2.le
 obtain ⟨p1,us,m',n2,e8,n,rl,le,fin⟩:=modL (B:=fun b=>m1 b+m2 b) G3 s2 hi
 rw [h1] at e8
 cases e8
 unfold ZeQ at hf
 split at hf
 . rename_i ks
   split at hf
   . rename_i v
     split at hf
     . rename_i kk hkk
       have hy:=Zel hkk
       subst hy
       cases r1'
       split at hf
       . rename_i x hx
         split at hf
         . rename_i hsh
           cases hf
           obtain ⟨z1,n1,a1,a2,a3⟩:=rl.look hx
           refine ⟨_,kk,n.2,rfl,fun v hv=>?_,fun hn=>?_⟩
           . rw [ZbH,a1] at hv
             cases hv
             rw [Zaf hi] at q
             exact q _ H2 Hs2 (fun _=>0) M2 (G3.re fun b=>by (try dsimp only);omega) (S3.drop (fun b=>by (try dsimp only);omega) G3.le) (a2.shd0 hsh) s2
           . rw [ZbH,a1] at hn
             cases hn
         . cases hf
       . rename_i hx
         split at hf
         . rename_i hsh
           simp only [and_eq_true,decide_eq_true_eq] at hsh
           simp only [map_eq_some_iff] at hf
           obtain ⟨rr,hst,hf⟩:=hf
           cases hf
           have rz:=r2.shd0 hsh.1
           obtain ⟨us',b1,b2,b3⟩:=RepL.stor rz n.1 rl hst
           have hl:=rl.len
           refine ⟨_,kk,n.2,rfl,fun v hv=>?_,fun hn=>⟨by rw [length_zip,n.1];omega,?_⟩⟩
           . have:=rl.lookS (k:=kk) (ks:=ks)
             rw [ZbH] at hv
             rw [hv,hx] at this
             cases this
           . rw [b3]
             obtain ⟨G,S,R,SS⟩:=fin (.dK (rr.1.zip us')) (.dic rr.1) us' rr.2 m' (fun _=>0) z d (fun b=>by (try dsimp only);omega) ⟨b1,Zj⟩ (b2.mono fun b=>by (try dsimp only);omega) rz
             have zz:=Zo (m1:=fun _=>0) g (G3.re fun b=>by simp) (S3.drop (fun b=>by simp) G3.le) G S
             exact q _ _ Hs2 _ _ G (zz.2.1.drop (fun b=>by simp) zz.1.le) R SS
         . cases hf
     . cases hf
   . cases hf
 . cases hf
theorem ZgB:∀{ks:List Key}{us:List α},ks.length=us.length->(ks.zip us).map (·.2)=us
 | [],[],_=>rfl
 | _::_,_::_,h=>by rw [zip_cons_cons,map_cons,ZgB (by simpa using h)]
 | [],_::_,h=>by cases h
 | _::_,[],h=>by cases h
def ZkX(hc:X.calm=true)(hm:X.mg "list"=none)(ho:PE X o (tVar i))(h:autoParam (glX X "list") Q8)
 (hs:autoParam (starEach [.Call (.Attribute o "values" apos) [] [] cpos] X.env=[(false,eval (.Call (.Attribute o "values" apos) [] [] cpos) X.env)]) Q9)
 (hbase:autoParam (attributeBase o "values" X.env (eval o X.env)=eval o X.env) Q9) (hline:autoParam ((apos.endLine == cpos.line)=true) Q9):
 PE X (.Call (.Name "list" p) [.Call (.Attribute o "values" apos) [] [] cpos] [] pos) (tM X.K (ZeR i)):=PE.imp (ZkW hc (glk h) hm ho hs hbase hline) fun σ H Q h=>by
 obtain ⟨δ,Hs,M,d,δ',g,s,ea,q⟩:=h
 obtain ⟨w,δ1,e1,eb⟩:=Zb ea
 obtain ⟨e2,rfl⟩:=ZO eb
 unfold Ziw at e2
 split at e2
 . split at e2
   . cases e2
     have hv:∃ v,σ[i]?=some (some v):=by
      unfold view at e1
      dsimp only at e1
      split at e1
      . cases e1
      . rename_i hi
        obtain ⟨v,m1,m2,e3,_⟩:=s.slot hi (by simp)
        exact ⟨v,e3⟩
      . rename_i hi
        obtain ⟨v,m1,m2,e3,_⟩:=s.slot hi (by simp)
        exact ⟨v,e3⟩
      . cases e1
     obtain ⟨v,hv⟩:=hv
     refine ⟨v,hv,?_⟩
     obtain ⟨Hs3,M3,g3,st3,v3,s3⟩:=Za0 (B:=fun _=>0) (m:=fun _=>0) (p:=.late i) (v:=v) (Za4 g) s (show σ[i]?=_ from hv) e1
     have st:Stp H Hs M H Hs3 (fun b=>0+M3 b):=⟨fun b o h z=>st3.keep b o h (by simpa using z),fun b h=>by simpa using st3.own b h,st3.grow,fun b h h'=>by simpa using st3.shr b h h',st3.stay⟩
     have oo:=Zbs st g3 s3 q
     cases v3 with
     | nd n r=>
      refine ⟨_,_,rfl,.inl n.2,fun l hl=>?_⟩
      rw [ZgB n.1]
      exact oo.new (fun b=>by simp) (fun b hb=>by simp at hb) hl (vs:=_) Zj r
   . cases e2
 . cases e2
end
section
variable(C:Ctx)(i:Nat)(k v:E)
def ZpB:(evb C (.sdef i k v)).1=Zgd i (evb C k).1 (evb C v).1:=(rfl)
def ZpC(c:M D):Zl (.sdef i k v) c=c.bnd fun d=>M.ret (.tmp d):=(rfl)
def Zno:(evb C (.dvals i)).1=ZeR i:=(rfl)
def Znp(c:M D):Zl (.dvals i) c=c.bnd fun d=>M.ret (.tmp d):=(rfl)
end
end T
namespace L2
open PySem PySem.Spec PyProof.Rows
section
def ZsK(K:Fg)(te:TE):TE:=fun σ H Q=>te σ H fun x H1=>∃(a:Addr)(is:List Int),x=.ref a/\Den K H1 x (.list (is.map PyData.int))/\(PyData.list (is.map PyData.int)).showable=true/\(PyData.list (is.map PyData.int)).shown.length<=sizeLine/\Q (.str (PyData.list (is.map PyData.int)).shown) H1
theorem Znq(is:List Int):PyData.depthAll (is.map PyData.int)=0:=by
 induction is with
 | nil=>rfl
 | cons i is ih=>simp only [map_cons,PyData.depthAll,PyData.depth,ih,Nat.max_self]
theorem ZjG(is:List Int):PyData.hasDictAll (is.map PyData.int)=false:=by
 induction is with
 | nil=>rfl
 | cons i is ih=>simp only [map_cons,PyData.hasDictAll,PyData.hasDict,ih,Bool.or_false]
def Znr(hg:X.A.guards=some [])(hu:X.A.units+64 < cLine)(h:PE X e te):PE X (.FormattedValue e (-1) none pos) (ZsK X.K te):=by
 intro pins s σ H Q I hw
 refine PyProof.Rows.FormattedValue_plain (thn (h pins s σ H _ I hw) fun v s1 z0=>?_)
 obtain ⟨x,H1,I1,r1,a,is,rfl,dn,hs,hz,q⟩:=z0
 obtain ⟨as,rd⟩:=dn.reads I1 r1
 obtain rfl:v=Value.ref a:=r1
 refine formatField_of_reads rd hs (PyData.noDict_hsm (by simp only [PyData.hasDict,ZjG])) hg (by simp only [PyData.depth,Znq];omega) (fun _ _ e=>e) (fun h' u tk hk=>?_) hz
 exact ⟨.str _,H1,I1.kept hk,⟨u,rfl⟩,q⟩
theorem ZgC:∀{is:List Int}{us:List Value},Vals (is.map V.int) us->IntsAre us is
 | [],_,r=>by cases r;exact .nil
 | i::is,_,r=>by
  cases r with
  | cons r rr=>
   obtain ⟨t,rfl⟩:=r
   exact .cons _ _ (ZgC rr)
theorem ZgD:∀{is:List Int}{us:List Value},IntsAre us is->Vals (is.map V.int) us
 | _,_,.nil=>.nil
 | _,_,.cons _ _ r=>.cons ⟨_,rfl⟩ (ZgD r)
def Ze6:Zaj X (.builtin "sorted") (fun xs H Q=>∃(l:Addr)(is:List Int),xs=[.ref l]/\SqL X.K H l (is.map V.int)/\is.length < 64/\∀ p,H p=none->Q (.ref p) (upd H p (.lst ((is.mergeSort fun a b=>decide (a<=b)).map V.int)))):=by
 intro pins s σ H xs us Q I r h
 obtain ⟨l,is,rfl,hl,h64,q⟩:=h
 obtain ⟨u,rfl,ru⟩:=r.one
 cases (show u=Value.ref l from ru)
 obtain ⟨its,rv,p,hz⟩:=I.list hl
 have ia:=ZgC rv
 have hlen:=rv.length
 rw [length_map] at hlen
 refine sorted_ints p.isList ia (by omega) fun out ns' a1 a2 a3=>?_
 obtain ⟨e,he⟩:=sortedAll_at s.heap its out
 have eq:ns'=is.mergeSort fun a b=>decide (a<=b):=by
  refine lks_uniq (a2.trans (List.mergeSort_perm is _).symm) a3 ?_
  have:=List.pairwise_mergeSort (le:=fun a b:Int=>decide (a<=b)) (fun a b c h1 h2=>by simp only [decide_eq_true_eq] at *;omega) (fun a b=>by simp only [or_eq_true,decide_eq_true_eq];omega) is
  exact this.imp fun h=>by simpa using h
 rw [<- eq] at q
 have hf:H (s.heap.objs.size+1)=none:=I.hok.fresh (le_succ _)
 refine ⟨.ref _,upd H _ (.lst _),I.laid (t':=s.toks) (fun b o e=>sortedAll_old e) (le_succ _) ⟨?_,out.toList,e,ZgD a1,by rw [Array.toArray_toList];exact he⟩,rfl,q _ hf⟩
 rw [length_map,a2.length_eq]
 exact le_trans (le_of_lt h64) (by decide)
def Zns(he:PEx X e te)(hs:∀ x,foldedSetIterable (.Subscript e sl p) X.env x=pure x:=by intro _;rfl):PX X (.For tg (.Subscript e sl p) body [] pos) fun D σ H=>te σ H (fun _ _=>False) (fun ea H1=>D.xc ea σ H1):=by
 intro pins s σ H D I h
 refine wpAny_For (Subscript_ (wpAny_mono (he pins s σ H _ _ I h) (fun v s1 z=>?_) fun _ _ z=>z.xp fun _ _ q=>q)) hs
 obtain ⟨x,H1,I1,r1,q⟩:=z
 exact q.elim
end
end L2
namespace T
open PySem PySem.Spec L2 PyProof.Rows
theorem ZjH:∀{ds:List D}{is:List Int},Zal ds=some is->pyL ds=some (is.map PyData.int)
 | [],_,h=>by cases h;rfl
 | .sc (.int i)::ds,is,h=>by
  replace h:(Zal ds).map (i::·)=some is:=h
  (simp only [map_eq_some_iff] at h)
  obtain ⟨r,h1,rfl⟩:=h
  show (some (PyData.int i)).bind (fun a=>(pyL ds).map (a::·))=_
  rw [ZjH h1]
  rfl
 | .sc (.bl _)::_,_,h=>by cases h
 | .sc (.str _)::_,_,h=>by cases h
 | .sc .non::_,_,h=>by cases h
 | .sc (.ref _)::_,_,h=>by cases h
 | .hole::_,_,h=>by cases h
 | .node _ _ _::_,_,h=>by cases h
section
def ZpD (hg:X.A.guards=some []) (hu:X.A.units+64 < cLine) (ha:PE X e (tP X.K ca)):PE X (.JoinedStr [.Constant (.str z) j p1,.FormattedValue e (-1) none p2] pos) (tM X.K ((ca.bnd view).bnd fun w=>lift (ZbN z w))):=
 PE.imp (Zhu (.cons ZaC (.cons (Znr hg hu ha) .nil))) fun σ H Q h=>by
  have e0:Str.empty++z=z:=Str.append_left_empty rfl
  have hz:z.length<=1000:=by
   obtain ⟨δ,Hs,M,d,δ',g,s,e,q⟩:=h
   obtain ⟨w,δ2,e1,e5⟩:=Zb e
   obtain ⟨e6,_⟩:=ZO e5
   unfold ZbN at e6
   split at e6
   . split at e6
     . simp only [bind_eq_some_iff] at e6
       obtain ⟨is,_,e6⟩:=e6
       split at e6
       . rename_i hc
         exact hc.2.1
       . cases e6
     . cases e6
   . cases e6
  refine ⟨z,rfl,by rw [e0,show sizeLine=16777216 from rfl];omega,?_⟩
  rw [e0]
  refine op1 (r:=fun x H1 Q'=>∃(a:Addr)(is:List Int),x=.ref a/\Den X.K H1 x (.list (is.map PyData.int))/\(PyData.list (is.map PyData.int)).showable=true/\(PyData.list (is.map PyData.int)).shown.length<=sizeLine/\(∃ z2,V.str (PyData.list (is.map PyData.int)).shown=.str z2/\(z++z2).length<=sizeLine/\Q' (.str (z++z2)) H1)) h fun x H Hs w m d g h1 h2 v e o=>?_
  unfold ZbN at e
  split at e
  . split at e
    . simp only [bind_eq_some_iff] at e
      obtain ⟨is,ei,e⟩:=e
      split at e
      . rename_i hc
        cases e
        have dn:=v.den g (a:=.list (is.map PyData.int)) (by
         cases v with
         | nd n r=>
          show (pyL _).map PyData.list=_
          rw [ZjH ei]
          rfl)
        cases v with
        | nd n r=>
         have hl:(z++ZdI is).length<=sizeLine:=by rw [Str.length_append,show sizeLine=16777216 from rfl];omega
         exact ⟨_,is,rfl,dn,hc.2.2,by rw [show sizeLine=16777216 from rfl];have:(ZdI is).length<=1000:=hc.1;unfold ZdI at this;omega,_,rfl,hl,o.sc⟩
      . cases e
    . cases e
  . cases e
def Znt:Zaj X (.builtin "sorted") (rNW X.K (bfW .sorted)):=by
 intro pins s σ H xs us Q I r h
 obtain ⟨Hs,ws,m,d,hs,h1,h2,v,e,o⟩:=h
 replace e:ZeO _=_:=e
 unfold ZeO at e
 split at e<;>first|(rename_i z;cases z;done)|skip
 all_goals first
  | (obtain ⟨y,m1,rfl,v,l⟩:=v.one
     cases v with
     | nd n r'=>
      rw [bind_eq_some_iff] at e
      obtain ⟨is,e,e'⟩:=e
      have ei:=ZbC r' e
      subst ei
      split at e'
      . rename_i hl
        cases e'
        refine Ze6 pins s σ H _ us Q I r ⟨_,_,rfl,.inl (.inl n),hl,fun p hp=>o.new h1 h2 hp Zj ?_⟩
        have z:=Zeh (K:=X.K) (H:=H) (Hs:=Hs) ((is.mergeSort fun a b=>decide (a<=b)).map V.int)
        rw [map_map] at z
        exact z.mono fun b=>zero_le _
      . cases e')
  | cases e
theorem ZkY(hy:PEx X c (tMX X.K cy))(hk:PX X (.For tg (.Subscript c sl p) body [] pos) (tX X.K lk k))(hs:∀ x,foldedSetIterable (.Subscript c sl p) X.env x=pure x:=by intro _;rfl):
 PX X (.For tg (.Subscript c sl p) body [] pos) (tX X.K lk (Ziy cy k)):=by
 intro pins s σ H D I h
 obtain ⟨δ,Hs,M,g,sr,q⟩:=h
 unfold Ziy excR at q
 cases e1:cy δ with
 | exc x δ'=>
  rw [e1] at q
  refine Zns hy hs pins s σ H D I ⟨δ,Hs,M,g,sr,?_⟩
  rw [e1]
  exact fun ea H' Hs' m M' g' st' r s'=>q ea σ H' Hs' m M' (Keeps.refl _ _) g' st' r s'
 | ok z=>rw [e1] at q;exact hk pins s σ H D I ⟨δ,Hs,M,g,sr,q⟩
 | stuck=>rw [e1] at q;exact hk pins s σ H D I ⟨δ,Hs,M,g,sr,q⟩
end
section
variable{X:Cx}{e:Expr}{p pos pos':Pos}{x:Str}{ns ps:List Str}{j n:Nat}{fi:FI}{lk:Nat->Bool}{C:T.Ctx}{v:V}
def qrK(G:XMk X.prog X.w X.K X.mg X.base x ns j ps (spF X.K fi.run))(hr:Room n X.A)(hk:PE X e (tM X.K (M.ret (.sc v))))(hz:autoParam (glOk X.env.scope x=true) Q8)(hj:autoParam (j+1<=n) Q7)(hc:autoParam (X.calm=true) Q9)
 (he:autoParam (starEach [e] X.env=[(false,eval e X.env)]) Q9):PX X (.Raise (some (.Call (.Name x p) [e] [] pos')) none pos) (tX X.K lk (ex C (.raiseI ns fi [.k v]))):=by
 have ha:PA X [e] (tPs X.K (opds C [.k v])):=Zd (Za hk) Zg he
 exact Zfb hc G hr ha hj hz he rfl
def MeAtX.calm{P:Program}{w:World}{K:Fg}{mg:SO}{base:Heap}{C:Addr}{m:Str}{k:Nat}{ps:List Str}{R:List D->Rs (D×List D)}(G:MeAtX P w K mg base C m k ps (spX K R)):MeAt P w K mg base C m k ps (spF K R):=by
 obtain ⟨f,fd,F,h⟩:=G.ex
 exact ⟨⟨f,fd,FnOk.calm F,h⟩,G.cl⟩
end
def ZjI:bootBuiltins "sorted"=some (.builtin "sorted"):=by decide +kernel
section
variable(C:Ctx)(z:Str)(e:E)
def ZsL:(evb C (.fsL z e)).1=((Zl e (evb C e).1).bnd view).bnd fun w=>lift (ZbN z w):=(rfl)
def ZsM(c:M D):Zl (.fsL z e) c=c.bnd fun d=>M.ret (.tmp d):=(rfl)
def ZjJ(tg:Tg)(ies:List E)(y:YE)(body:List S)(δ:List D):ex C (.forY tg ies y body) δ=excR (ex C (.forX tg .val ies body)) δ (yev C y δ):=(rfl)
def ZpE(k:M Fl)(δ δ':List D)(x:D):excR k δ (.exc x δ')=.exc x δ':=(rfl)
def ZpF(k:M Fl)(δ:List D)(r:D×List D):excR k δ (.ok r)=k δ:=(rfl)
end
end T
namespace T
open PySem PySem.Spec L2
variable{X:Cx}{pos:Pos}
def Zf{i:Int}{j}:PE X (.Constant (.int i) j pos) (tP X.K ((M.ret (.sc (.int i))).bnd fun d=>M.ret (.tmp d))):=Za (ok_k Zbu)
def Zta{sc:Scope}{N}{i:Nat}{x:Str}{b:Bool}(h:Zt sc N i x b=true)(e1:autoParam (X.env.scope=sc) Q9)(e2:autoParam (X.N=N) Q9):PE X (.Name x pos) (tP X.K (ZV i)):=Zhv (pvs h e1 e2)
end T
namespace My
open PySem PySem.Spec L2 T
variable{p n m1 m2:Int}{B:List (List Int)}{δ ds ds':List D}{α:Type}{m:Option Int}{ks ys acc:List Int}{C:Addr}{i:Nat}{lk:Nat->Bool}{body suite:M Fl}{c:Str}
local macro_rules | `(tactic| walk_at "d") => `(tactic| decide +kernel)
section
seal L2.PE L2.PS L2.PSs L2.PT L2.PI L2.PA L2.PG L2.PGs L2.PX L2.PXs L2.PEx
noncomputable def top(i:Nat):Stmt:=PySem.Challenge.pw_barlabel_k54_whole_labels_by_hand.main.body.getD i (.Pass ⟨0,0,0,0⟩)
noncomputable def ZM(s:Stmt)(i:Nat):Stmt:=match s with
 | .ClassDef (body:=b) ..=>b.getD i (.Pass ⟨0,0,0,0⟩)
 | _=>.Pass ⟨0,0,0,0⟩
noncomputable def CK(C:Addr):T.Ctx:={ C0 with fok:=fun A f=>decide (A=C) && (f == "size" || f == "room") }
noncomputable def Zfc(K:Fg):Addr:=match nsIn K mainGlobals "Roll" with
 | some (some (.ref C))=>C
 | _=>0
structure Txt(e:T.En)(C:Addr):Prop where
 Y:T.Bo e
 all_:e.mg "all"=none
 any_:e.mg "any"=none
 bool_:e.mg "bool"=none
 enumerate_:e.mg "enumerate"=none
 int_:e.mg "int"=none
 isinstance_:e.mg "isinstance"=none
 len_:e.mg "len"=none
 list_:e.mg "list"=none
 min_:e.mg "min"=none
 range_:e.mg "range"=none
 sorted_:e.mg "sorted"=none
 sum_:e.mg "sum"=none
 zip_:e.mg "zip"=none
 BESIDES_:∃ t,e.mg "BESIDES"=some (.int 5 t)
 CHECK_SYMBOLS_:∃ t,e.mg "CHECK_SYMBOLS"=some (.int 2 t)
 LENGTH_AT_:∃ t,e.mg "LENGTH_AT"=some (.int 2 t)
 PIECE_AT_:∃ t,e.mg "PIECE_AT"=some (.int 3 t)
 PRIMES_:T.ModT e.K e.mg "PRIMES" (([5,7,11,13,17,19,23,29,31,37,41,43,47]:List Int).map V.int)
 x_a:T.LX e.K e.mg "Lost"
 x_b:T.LX e.K e.mg "Mixed"
 le:T.LT e.K e.mg "LabelError"
 li:T.LI e.K e.mg "LabelError"
 i_a:∃ C,e.mg "Lost"=some (.ref C)/\XN e.K ["Lost","LabelError"] C/\T.II e.K C "Lost.__init__" (ZM (top 8) 0)
 i_b:∃ C,e.mg "Mixed"=some (.ref C)/\XN e.K ["Mixed","LabelError"] C/\T.II e.K C "Mixed.__init__" (ZM (top 7) 0)
 ci:T.CI e.K "Roll" C
 nF_size:Zaa e.K C "size"
 nF_room:Zaa e.K C "room"
def Txt.fok{e:T.En}(Z:Txt e C):∀ A f,(CK C).fok A f=true->Cls e.K A/\Zaa e.K A f:=fun A f h=>by
 unfold CK at h
 simp only [and_eq_true,or_eq_true,decide_eq_true_eq,beq_iff_eq] at h
 obtain ⟨rfl,h⟩:=h
 rcases h with rfl|rfl
 . exact ⟨Z.ci.cl,Z.nF_size⟩
 . exact ⟨Z.ci.cl,Z.nF_room⟩
variable{e:T.En}
noncomputable def Zce:List T.S:=[.ex (.bf .xinit [.v 0,.fs [.k (.str "labels that do not belong together: number "),.v 1]]),.attrX 0 "number" (.v 1)]
noncomputable def Zay:T.FI:=⟨true,T.Zi C0 2 2 Zce⟩
abbrev Zc6(e:T.En):Prop:=e.xi "Mixed" 1 ["self","number"] Zay
def Zeq(Z:Txt e C)  : Zc6 e:=
 T.ZlO (C:=C0) (body:=Zce) (k:=0) Z.Y Z.i_b ["self","number"] fun _ _ _ _ _ _ _ hr=>
 (Zc (ZaZ (by obtain ⟨D',h1,h2⟩:=Z.li;exact Zg8 h2 g_ h1 (Zd ql (Zd (Za (Zsu (Zst (Zss ql Zsr)))) Zg))))
  (Zc (Zg7 qv (ok_v qv))
  Zh))
noncomputable def Zc7:List T.S:=[.ex (.bf .xinit [.v 0,.fsL "labels lost: " (.v 1)]),.attrX 0 "numbers" (.bf .list [.v 1])]
noncomputable def Za7:T.FI:=⟨true,T.Zi C0 2 2 Zc7⟩
abbrev ZcJ(e:T.En):Prop:=e.xi "Lost" 1 ["self","numbers"] Za7
def Ze7(Z:Txt e C)  : ZcJ e:=
 T.ZlO (C:=C0) (body:=Zc7) (k:=0) Z.Y Z.i_a ["self","numbers"] fun _ _ _ _ _ _ _ hr=>
 have hu:=hr.units
 (Zc (ZaZ (by obtain ⟨D',h1,h2⟩:=Z.li;exact Zg8 h2 g_ h1 (Zd ql (Zd (Za (ZpD hr.gd hu ql)) Zg))))
  (Zc (Zg7 qv (ZeV Zee Z.list_ Zei (Zd ql Zg)))
  Zh))
noncomputable def ZbP:List T.S:=[.ret (.and (.bf (.isi .int) [.v 0]) (.nt (.bf (.isi .bool) [.v 0])))]
noncomputable def ZaJ:T.FI:=⟨true,T.Zi C0 1 1 ZbP⟩
abbrev Zd1(e:T.En):Prop:=e.fn "is_whole" 1 ["thing"] ZaJ
def Zhc(F:T.TI e.K "is_whole" (top 11))(Z:Txt e C)  : Zd1 e:=
 T.Zau (C:=C0) (body:=ZbP) (k:=0) Z.Y F ["thing"] fun _ _ _ _ _ _ _ hr=>
 (Zc (Zs (ZbE (Za (qi Z.isinstance_ ql Z.int_ ZlE)) (Zde (Zhx (Za (qi Z.isinstance_ ql Z.bool_ Zjp))))))
  Zh)
noncomputable def Zb2:List T.S:=[.ret (.and (.call ZaJ [.v 1]) (.chain .LtE .Lt (.k (.int 0)) (.v 1) (.v 0)))]
noncomputable def ZU:T.FI:=⟨true,T.Zi C0 2 2 Zb2⟩
abbrev ZcW(e:T.En):Prop:=e.fn "is_symbol" 2 ["count","thing"] ZU
def ZgE(F:T.TI e.K "is_symbol" (top 12))(Z:Txt e C)(g2:Zd1 e):ZcW e:=
 T.Zau (C:=C0) (body:=Zb2) (k:=1) Z.Y F ["count","thing"] fun _ _ _ _ _ _ _ hr=>
 have hu:=hr.units
 (Zc (Zs (ZbE (Za (Z8 g2 hr (Zd ql Zg))) (Zde (Zgz hu Zf ql ql))))
  Zh)
noncomputable def ZaK:List T.S:=[.for_ (.tup [2,3]) .enum [.v 1,.k (.int 0)] [.iff (.nt (.call ZU [.v 0,.v 3])) [.raise (.k .non)] []]]
noncomputable def ZaQ:T.FI:=⟨true,T.Zi C0 2 4 ZaK⟩
abbrev ZcK(e:T.En):Prop:=e.fn "check_symbols" 3 ["count","row"] ZaQ
def Ze8(F:T.TI e.K "check_symbols" (top 13))(Z:Txt e C)(g3:ZcW e):ZcK e:=
 T.Zau (C:=C0) (body:=ZaK) (k:=2) Z.Y F ["count","row","number","thing"] fun _ _ _ _ _ _ _ hr=>
 (Zc (Zbg PassesOwn.never rfl (Zb0 _ _) (hw_2 (Zeg rfl) (ZaW rfl)) (Ze4 g_ Z.enumerate_ ql) (Zfa rfl (qg (qg Zdz)))
  (Zc (Zaq (Zav (ZX (Za (Z8 g3 hr (Zd ql (Zd ql Zg)))))) (Zc Zc1
  Zh) Zh)
  Zh))
  Zh)
noncomputable def Zb3:List T.S:=[.ret (.bin .Mod (.bf .sum [.v 1]) (.v 0))]
noncomputable def ZaA:T.FI:=⟨true,T.Zi C0 2 2 Zb3⟩
abbrev ZcX(e:T.En):Prop:=e.fn "plain_sum" 1 ["prime","row"] ZaA
def ZgF(F:T.TI e.K "plain_sum" (top 16))(Z:Txt e C)  : ZcX e:=
 T.Zau (C:=C0) (body:=Zb3) (k:=0) Z.Y F ["prime","row"] fun _ _ _ _ _ _ _ hr=>
 (Zc (Zs (qb (Za (ZK (Zcz rfl) Z.sum_ Zc3 (Zd ql Zg))) ql))
  Zh)
noncomputable def Zba:List T.S:=[.ret (.bin .Mod (.bf .sum [.comp 2 [] (.tup [0,1]) .enum [.v 1,.k (.int 1)] [] (.bin .Mult (.v 0) (.v 1))]) (.v 0))]
noncomputable def Za2:T.FI:=⟨true,T.Zi C0 2 2 Zba⟩
abbrev Zcd(e:T.En):Prop:=e.fn "weighed_sum" 1 ["prime","row"] Za2
def Zf2(F:T.TI e.K "weighed_sum" (top 17))(Z:Txt e C)  : Zcd e:=
 T.Zau (C:=C0) (body:=Zba) (k:=0) Z.Y F ["prime","row"] fun _ _ _ _ _ _ _ hr=>
 (Zc (Zs (qb (Za (ZK (Zcz rfl) Z.sum_ Zc3 (Zd (Za (Zag rfl (cS ["place","symbol"]) (ZkF g_ Z.enumerate_ ql Zbu) (fun _ _ _ _ _=>⟨(Zfa rfl (qg (qg Zdz))),Za5,(qb ql ql)⟩))) Zg))) ql))
  Zh)
noncomputable def Zfd:List T.S:=[.ret (.and (.cmp .Eq (.call ZaA [.v 0,.v 1]) (.k (.int 0))) (.cmp .Eq (.call Za2 [.v 0,.v 1]) (.k (.int 0))))]
noncomputable def ZcL:T.FI:=⟨true,T.Zi C0 2 2 Zfd⟩
abbrev ZfQ(e:T.En):Prop:=e.fn "is_good" 2 ["prime","row"] ZcL
def Zi7(F:T.TI e.K "is_good" (top 18))(Z:Txt e C)(g6:Zcd e)(g5:ZcX e):ZfQ e:=
 T.Zau (C:=C0) (body:=Zfd) (k:=1) Z.Y F ["prime","row"] fun _ _ _ _ _ _ _ hr=>
 have hu:=hr.units
 (Zc (Zs (ZbE (Za (ZbI hu (Za (Z8 g5 hr (Zd ql (Zd ql Zg)))) Zf)) (Zde (ZbI hu (Za (Z8 g6 hr (Zd ql (Zd ql Zg)))) Zf))))
  Zh)
noncomputable def ZbQ:List T.S:=[.ret (.ix (.comp 1 [1,0,2] (.name 0) .rng1 [.v 0] [.cmp .Eq (.bin .Mod (.bin .Mult (.v 0) (.v 3)) (.v 2)) (.v 1)] (.v 0)) (.k (.int 0)))]
noncomputable def Zcn:T.FI:=⟨true,T.Zi C0 3 3 ZbQ⟩
abbrev Zfe(e:T.En):Prop:=e.fn "quotient" 1 ["prime","rest","divisor"] Zcn
def Zhd(F:T.TI e.K "quotient" (top 19))(Z:Txt e C)  : Zfe e:=
 T.Zau (C:=C0) (body:=ZbQ) (k:=0) Z.Y F ["prime","rest","divisor"] fun _ _ _ _ _ _ _ hr=>
 have hu:=hr.units
 (Zc (Zs (Zq hu (Za (Zag rfl (cS ["symbol","rest","prime","divisor"]) (ZaD Z.range_ ql) (fun _ _ _ _ _=>⟨qt,(Zgx (Z3 hu (Za (qb (Za (qb ql ql)) ql)) ql)),(ok_v qv)⟩))) Zf))
  Zh)
noncomputable def Za8:List T.S:=[.asg 4 (.bin .Add (.v 2) (.k (.int 1))),.asg 5 (.bin .Mod (.bin .Sub (.bin .Mult (.v 4) (.call ZaA [.v 0,.v 1])) (.call Za2 [.v 0,.v 1])) (.v 0)),.asg 6 (.bf .list [.v 1]),.sub 6 [] (.v 3) (.call Zcn [.v 0,.v 5,.bin .Sub (.v 3) (.v 2)]),.sub 6 [] (.v 2) (.bin .Mod (.neg (.call ZaA [.v 0,.v 6])) (.v 0)),.ret (.v 6)]
noncomputable def Zas:T.FI:=⟨true,T.Zi C0 4 7 Za8⟩
abbrev Zcf(e:T.En):Prop:=e.fn "with_two_filled" 2 ["prime","row","earlier","later"] Zas
def ZdR(F:T.TI e.K "with_two_filled" (top 20))(Z:Txt e C)(g5:ZcX e)(g6:Zcd e)(g8:Zfe e):Zcf e:=
 T.Zau (C:=C0) (body:=Za8) (k:=1) Z.Y F ["prime","row","earlier","later","place","rest","filled"] fun _ _ _ _ _ _ _ hr=>
 have hu:=hr.units
 (Zc (qa (qb ql Zf))
  (Zc (qa (qb (Za (qb (Za (qb ql (Za (Z8 g5 hr (Zd ql (Zd ql Zg)))))) (Za (Z8 g6 hr (Zd ql (Zd ql Zg)))))) ql))
  (Zc (qa (ZeV Zee Z.list_ Zei (Zd ql Zg)))
  (Zc (Zcw hu qv ql (Z8 g8 hr (Zd ql (Zd ql (Zd (Za (qb ql ql)) Zg)))))
  (Zc (Zcw hu qv ql (qb (Za (Zdd (Za (Z8 g5 hr (Zd ql (Zd ql Zg)))))) ql))
  (Zc (Zs (Zdf qv))
  Zh))))))
noncomputable def ZbR:List T.S:=[.ex (.call ZaQ [.v 0,.v 1]),.asg 2 (.bf .len [.v 1]),.iff (.cmp .Gt (.v 2) (.bin .Sub (.v 0) (.k (.int 2)))) [.raise (.k .non)] [],.ret (.call Zas [.v 0,.bin .Add (.v 1) (.lst [.k (.int 0),.k (.int 0)]),.v 2,.bin .Add (.v 2) (.k (.int 1))])]
noncomputable def Zb4:T.FI:=⟨true,T.Zi C0 2 3 ZbR⟩
abbrev Zff(e:T.En):Prop:=e.fn "labelled" 4 ["prime","row"] Zb4
def Zhe(F:T.TI e.K "labelled" (top 21))(Z:Txt e C)(g4:ZcK e)(g9:Zcf e):Zff e:=
 T.Zau (C:=C0) (body:=ZbR) (k:=3) Z.Y F ["prime","row","length"] fun _ _ _ _ _ _ _ hr=>
 have hu:=hr.units
 (Zc (ZaZ (Z8 g4 hr (Zd ql (Zd ql Zg))))
  (Zc (qa (ZK Zbf Z.len_ Zbi (Zd ql Zg)))
  (Zc (Zaq (Z3 hu ql (Za (qb ql (Za (qgi Z.CHECK_SYMBOLS_))))) (Zc Zc1
  Zh) Zh)
  (Zc (Zs (Z8 g9 hr (Zd ql (Zd (Za (qb ql (Za (Zab (Zv (ok_k Zbu) (Zv (ok_k Zbu) Zz)))))) (Zd ql (Zd (Za (qb ql Zf)) Zg))))))
  Zh))))
noncomputable def Zco:List T.S:=[.iff (.or (.nt (.call ZaJ [.v 0])) (.cmp .NotIn (.v 0) (.g (.node .ftp false ((([5,7,11,13,17,19,23,29,31,37,41,43,47]:List Int).map V.int).map D.sc))))) [.ret (.k (.bl false))] [],.ret (.and (.call ZaJ [.v 1]) (.chain .LtE .LtE (.k (.int 1)) (.v 1) (.bin .Sub (.v 0) (.k (.int 5)))))]
noncomputable def ZcM:T.FI:=⟨true,T.Zi C0 2 2 Zco⟩
abbrev ZfR(e:T.En):Prop:=e.fn "is_roll" 2 ["prime","room"] ZcM
def Zi8(F:T.TI e.K "is_roll" (top 26))(Z:Txt e C)(g2:Zd1 e):ZfR e:=
 T.Zau (C:=C0) (body:=Zco) (k:=1) Z.Y F ["prime","room"] fun _ _ _ _ _ _ _ hr=>
 have hu:=hr.units
 (Zc (Zaq (PW.pt (ZdL (Zav (ZX (Za (Z8 g2 hr (Zd ql Zg))))) (ZdK (Z3 hu ql (Za (qgu Z.PRIMES_)))))) (Zc (Zs (ok_k ZbL))
  Zh) Zh)
  (Zc (Zs (ZbE (Za (Z8 g2 hr (Zd ql Zg))) (Zde (Zgz hu Zf ql (Za (qb ql (Za (qgi Z.BESIDES_))))))))
  Zh))
noncomputable def Zb9:List T.S:=[.asg 1 (.dct0),.for_ (.tup [2,3]) .enum [.v 0,.k (.int 0)] [.iff (.or (.cmp .NotEq (.ix (.v 3) (.k (.int 1))) (.ix (.ix (.v 0) (.k (.int 0))) (.k (.int 1)))) (.cmp .NotEq (.sdef 1 (.ix (.v 3) (.k (.int 0))) (.v 3)) (.v 3))) [.raise (.k .non)] []],.ret (.v 1)]
noncomputable def Zam:T.FI:=⟨false,T.Zi C0 1 4 Zb9⟩
abbrev Zcb(e:T.En):Prop:=e.fn "labels_by_number" 1 ["labels"] Zam
def Zd7(F:T.TI e.K "labels_by_number" (top 27))(Z:Txt e C)  : Zcb e:=
 T.Zau (C:=C0) (body:=Zb9) (k:=0) Z.Y F ["labels","found","number","label"] fun _ _ _ _ _ _ _ hr=>
 have hu:=hr.units
 (Zc (qa Zsv)
  (Zc (Zbg PassesOwn.never rfl (Zb0 _ _) (hw_2 (Zeg rfl) (ZaW rfl)) (Ze4 g_ Z.enumerate_ ql) (Zfa rfl (qg (qg Zdz)))
  (Zc (Zaq (PW.pt (ZdL (Z3 hu (Za (Zq hu ql Zf)) (Za (Zq hu (Za (Zq hu ql Zf)) Zf))) (ZdK (Z3 hu (Za (Znn qv (Zq hu ql Zf) (ok_v qv))) ql)))) (Zc Zc1
  Zh) Zh)
  Zh))
  (Zc (Zs (Zdf qv))
  Zh)))
noncomputable def ZaL(C:Addr):List T.S:=[.iff (.nt (.call ZcM [.v 1,.v 2])) [.raise (.k .non)] [],.attr 0 "size" (.v 1),.attr 0 "room" (.v 2)]
noncomputable def Za9(C:Addr):T.FI:=⟨true,T.Zi (CK C) 3 3 (ZaL C)⟩
abbrev ZcN(e:T.En)(C:Addr):Prop:=e.nw "Roll" C 3 ["self","prime","room"] (Za9 C)
def Ze9(F:T.MI e.K C "__init__" "Roll.__init__" (ZM (top 28) 0))(Z:Txt e C)(g11:ZfR e):ZcN e C:=
 T.ZsD (C:=(CK C)) (body:=(ZaL C)) (k:=2) Z.Y Z.ci F ["self","prime","room"] fun _ _ _ _ _ _ _ hr=>
 (Zc (Zaq (Zav (ZX (Za (Z8 g11 hr (Zd ql (Zd ql Zg)))))) (Zc Zc1
  Zh) Zh)
  (Zc (Zh3 Z.fok qv (ok_v qv))
  (Zc (Zh3 Z.fok qv (ok_v qv))
  Zh)))
noncomputable def ZaR(C:Addr):List T.S:=[.asg 4 (.lst [.v 1,.v 2]),.for_ (.name 5) .rng2 [.k (.int 2),.bin .Add (.k (.int 3)) (.fld (.v 0) "room")] [.ex (.mut .append 4 [] [.bin .Mod (.neg (.bor (.bf .sum [.comp 1 [5] (.name 0) .val [.v 3] [] (.ix (.v 0) (.v 1))]))) (.fld (.v 0) "size")])],.ret (.call Zb4 [.fld (.v 0) "size",.v 4])]
noncomputable def ZaF(C:Addr):T.FI:=⟨true,T.Zi (CK C) 4 6 (ZaR C)⟩
abbrev Zdp(e:T.En)(C:Addr):Prop:=e.me C "balance" 5 ["self","number","count","others"] (ZaF C)
def Zfg(F:T.MI e.K C "balance" "Roll.balance" (ZM (top 28) 3))(Z:Txt e C)(g10:Zff e):Zdp e C:=
 T.Zi4 (C:=(CK C)) (body:=(ZaR C)) (k:=4) Z.ci.cl F ["self","number","count","others","row","place"] fun _ _ _ _ _ _ _ hr=>
 have hu:=hr.units
 (Zc (qa (Zab (Zv (ok_v qv) (Zv (ok_v qv) Zz))))
  (Zc (Zbg PassesOwn.never rfl (Zb0 _ _) (hw_2 (ZaW rfl) (ZaW rfl)) (ZmL Z.range_ (Za (qgi Z.LENGTH_AT_)) (Za (qb (Za (qgi Z.PIECE_AT_)) (Za (Zcy Z.fok ql))))) qt
  (Zc (ZaZ (ZcH qv (Zv (qb (Za (Zdd (Za (Zp7 (ZK (Zcz rfl) Z.sum_ Zc3 (Zd (Za (Zag rfl (cS ["label","place"]) (ZaV ql) (fun _ _ _ _ _=>⟨qt,Za5,(Zq hu ql ql)⟩))) Zg)))))) (Za (Zcy Z.fok ql))) Zz)))
  Zh))
  (Zc (Zs (Z8 g10 hr (Zd (Za (Zcy Z.fok ql)) (Zd ql Zg))))
  Zh)))
noncomputable def Zc8(C:Addr):List T.S:=[.iff (.or (.nt (.bf (.isi .list) [.v 1])) (.cmp .NotEq (.bf .len [.v 1]) (.bin .Add (.fld (.v 0) "room") (.k (.int 5))))) [.ret (.k (.bl false))] [],.iff (.or (.nt (.bf .all [.comp 1 [0] (.name 0) .val [.v 1] [] (.call ZU [.fld (.v 1) "size",.v 0])])) (.nt (.call ZcL [.fld (.v 0) "size",.v 1]))) [.ret (.k (.bl false))] [],.ret (.and (.cmp .NotEq (.ix (.v 1) (.k (.int 1))) (.k (.int 0))) (.cmp .LtE (.ix (.v 1) (.k (.int 0))) (.ix (.v 1) (.k (.int 1)))))]
noncomputable def ZA(C:Addr):T.FI:=⟨true,T.Zi (CK C) 2 2 (Zc8 C)⟩
abbrev ZcO(e:T.En)(C:Addr):Prop:=e.me C "is_label" 3 ["self","thing"] (ZA C)
def ZeA(F:T.MI e.K C "is_label" "Roll.is_label" (ZM (top 28) 4))(Z:Txt e C)(g7:ZfQ e)(g3:ZcW e):ZcO e C:=
 T.Zi4 (C:=(CK C)) (body:=(Zc8 C)) (k:=2) Z.ci.cl F ["self","thing"] fun _ _ _ _ _ _ _ hr=>
 have hu:=hr.units
 (Zc (Zaq (PW.pt (ZdL (Zav (ZX (Za (qi Z.isinstance_ ql Z.list_ Zgp)))) (ZdK (Z3 hu (Za (ZK Zbf Z.len_ Zbi (Zd ql Zg))) (Za (qb (Za (Zcy Z.fok ql)) (Za (qgi Z.BESIDES_)))))))) (Zc (Zs (ok_k ZbL))
  Zh) Zh)
  (Zc (Zaq (PW.pt (ZdL (Zav (ZX (Za (ZK (Zjx rfl) Z.all_ Zj3 (Zd (Za (Zag rfl (cS ["symbol","self"]) (ZaV ql) (fun _ _ _ _ _=>⟨qt,Za5,(Z8 g3 hr (Zd (Za (Zcy Z.fok ql)) (Zd ql Zg)))⟩))) Zg))))) (ZdK (Zav (ZX (Za (Z8 g7 hr (Zd (Za (Zcy Z.fok ql)) (Zd ql Zg))))))))) (Zc (Zs (ok_k ZbL))
  Zh) Zh)
  (Zc (Zs (ZbE (Za (ZbI hu (Za (Zq hu ql Zf)) Zf)) (Zde (ZbI hu (Za (Zq hu ql Zf)) (Za (Zq hu ql Zf))))))
  Zh)))
noncomputable def Zb5(C:Addr):List T.S:=[.for_ (.tup [2,3]) .enum [.v 1,.k (.int 0)] [.iff (.nt (.meth C "is_label" (ZA C) (.v 0) [.v 3])) [.raise (.k .non)] []]]
noncomputable def Zad(C:Addr):T.FI:=⟨true,T.Zi (CK C) 2 4 (Zb5 C)⟩
abbrev ZbA(e:T.En)(C:Addr):Prop:=e.me C "check_labels" 4 ["self","labels"] (Zad C)
def Zd2(F:T.MI e.K C "check_labels" "Roll.check_labels" (ZM (top 28) 5))(Z:Txt e C)(g15:ZcO e C):ZbA e C:=
 T.Zi4 (C:=(CK C)) (body:=(Zb5 C)) (k:=3) Z.ci.cl F ["self","labels","number","thing"] fun _ _ _ _ _ _ _ hr=>
 (Zc (Zbg PassesOwn.never rfl (Zb0 _ _) (hw_2 (Zeg rfl) (ZaW rfl)) (Ze4 g_ Z.enumerate_ ql) (Zfa rfl (qg (qg Zdz)))
  (Zc (Zaq (Zav (ZX (Za (Zej g15 hr ql (Zd ql Zg))))) (Zc Zc1
  Zh) Zh)
  Zh))
  Zh)
noncomputable def Zcg(C:Addr):List T.S:=[.lf (.asg 2 (.call Zam [.v 1])),.ifX (.nt (.v 1)) [.raise (.k .non)] [],.lf (.asg 3 (.ix (.ix (.v 1) (.k (.int 0))) (.k (.int 1)))),.lf (.asg 4 (.comp 1 [2] (.name 0) .rng1 [.bin .Add (.v 3) (.k (.int 1))] [.cmp .NotIn (.v 0) (.v 1)] (.v 0))),.ifX (.cmp .Gt (.bf .len [.v 4]) (.k (.int 1))) [.raiseI ["Lost","LabelError"] Za7 [.v 4]] [],.ifX (.v 4) [.lf (.sub 2 [] (.ix (.v 4) (.k (.int 0))) (.meth C "balance" (ZaF C) (.v 0) [.ix (.v 4) (.k (.int 0)),.v 3,.dvals 2]))] [],.lf (.ret (.comp 1 [2] (.name 0) .rng1 [.bin .Add (.v 3) (.k (.int 1))] [] (.bf .list [.ix (.v 1) (.v 0)])))]
noncomputable def ZL(C:Addr):T.FI:=⟨true,T.Zi (CK C) 2 5 (Zcg C)⟩
abbrev Zc9(e:T.En)(C:Addr):Prop:=e.mx C "completed" 6 ["self","labels"] (ZL C)
def Zer(F:T.MI e.K C "completed" "Roll.completed" (ZM (top 28) 6))(Z:Txt e C)(g12:Zcb e)(g1:ZcJ e)(g14:Zdp e C):Zc9 e C:=
 T.ZgA (C:=(CK C)) (body:=(Zcg C)) (k:=5) Z.ci.cl F ["self","labels","found","count","lacking"] fun _ _ _ _ _ _ _ hF hr=>
 have hu:=hr.units
 (Zr (ZP (qa (Z8 g12 hr (Zd ql Zg))))
  (Zr (ZbZ (Zav (ZX ql)) (Zr ZjC
  ZD) ZD)
  (Zr (ZP (qa (Zq hu (Za (Zq hu ql Zf)) Zf)))
  (Zr (ZP (qs (cS ["number","found"]) (ZaD Z.range_ (Za (qb ql Zf))) (fun _ _ _ _ _=>⟨qt,(Zgx (Z3 hu ql ql)),(ok_v qv)⟩)))
  (Zr (ZbZ (Z3 hu (Za (ZK Zbf Z.len_ Zbi (Zd ql Zg))) Zf) (Zr (Zfb rfl g1 hr (Zd ql Zg))
  ZD) ZD)
  (Zr (ZbZ (ZX ql) (Zr (ZP (Zcw hu qv (Za (Zq hu ql Zf)) (Zej g14 hr ql (Zd (Za (Zq hu ql Zf)) (Zd ql (Zd (Za (ZkX rfl Z.list_ qv)) Zg))))))
  ZD) ZD)
  (Zr (ZP (Zs (Zag rfl (cS ["number","found"]) (ZaD Z.range_ (Za (qb ql Zf))) (fun _ _ _ _ _=>⟨qt,Za5,(ZeV Zee Z.list_ Zei (Zd (Za (Zq hu ql ql)) Zg))⟩))))
  ZD)))))))
noncomputable def Zcc(C:Addr):List T.S:=[.lf (.ex (.meth C "check_labels" (Zad C) (.v 0) [.v 1])),.asgY 2 (.meth C "completed" (ZL C) (.v 0) [.v 1]),.ifX (.bf .any [.comp 1 [0] (.name 0) .val [.sl (.v 2) (.k .non) (.neg (.k (.int 1)))] [] (.cmp .Gt (.ix (.v 0) (.k (.int 2))) (.fld (.v 1) "room"))]) [.raiseI ["Mixed","LabelError"] Zay [.k .non]] [],.lf (.ret (.v 2))]
noncomputable def Zm(C:Addr):T.FI:=⟨true,T.Zi (CK C) 2 3 (Zcc C)⟩
abbrev Zbb(e:T.En)(C:Addr):Prop:=e.mx C "all_labels" 7 ["self","labels"] (Zm C)
def ZdS(F:T.MI e.K C "all_labels" "Roll.all_labels" (ZM (top 28) 7))(Z:Txt e C)(g16:ZbA e C)(g17:Zc9 e C)(g0:Zc6 e):Zbb e C:=
 T.ZgA (C:=(CK C)) (body:=(Zcc C)) (k:=6) Z.ci.cl F ["self","labels","found"] fun _ _ _ _ _ _ _ hF hr=>
 have hu:=hr.units
 (Zr (ZP (ZaZ (Zej g16 hr ql (Zd ql Zg))))
  (Zr (qax (qmx g17 hr ql (Zd ql Zg)))
  (Zr (ZbZ (ZX (Za (ZK (Zjy rfl) Z.any_ Zj4 (Zd (Za (Zag rfl (cS ["label","self"]) (ZaV (Za (Zcl ql Zed (Za1 (Za (Zdd Zf)))))) (fun _ _ _ _ _=>⟨qt,Za5,(ZbI hu (Za (Zq hu ql (Za (qgi Z.LENGTH_AT_)))) (Za (Zcy Z.fok ql)))⟩))) Zg)))) (Zr (qrK g0 hr (ok_k ZcY))
  ZD) ZD)
  (Zr (ZP (Zs (Zdf qv)))
  ZD))))
noncomputable def ZcA(C:Addr):List T.S:=[.lf (.asg 2 (.lst [])),.forY (.name 3) [.sl (.meth C "all_labels" (Zm C) (.v 0) [.v 1]) (.k .non) (.neg (.k (.int 1)))] (.meth C "all_labels" (Zm C) (.v 0) [.v 1]) [.lf (.ex (.mut .extend 2 [] [.sl (.v 3) (.k (.int 3)) (.bin .Add (.k (.int 3)) (.ix (.v 3) (.k (.int 2))))]))],.lf (.ret (.v 2))]
noncomputable def ZB(C:Addr):T.FI:=⟨true,T.Zi (CK C) 2 4 (ZcA C)⟩
abbrev ZcP(e:T.En)(C:Addr):Prop:=e.mx C "gathered" 8 ["self","labels"] (ZB C)
def ZeB(F:T.MI e.K C "gathered" "Roll.gathered" (ZM (top 28) 8))(Z:Txt e C)(g18:Zbb e C):ZcP e C:=
 T.ZgA (C:=(CK C)) (body:=(ZcA C)) (k:=7) Z.ci.cl F ["self","labels","row","label"] fun _ _ _ _ _ _ _ hF hr=>
 have hu:=hr.units
 (Zr (ZP (qa (Zab Zz)))
  (Zr (ZkY (qmx g18 hr ql (Zd ql Zg)) (ZkL hF (fun _ _ h=>h) rfl (Zb0 _ _) (hw_1 (ZaW rfl)) (ZaV (Za (Zcl (Za (Zej g18.calm hr ql (Zd ql Zg))) Zed (Za1 (Za (Zdd Zf)))))) qt
  (Zr (ZP (ZaZ (Zj7 qv (Zd (Za (Zcl ql (Za1 (Za (qgi Z.PIECE_AT_))) (Za1 (Za (qb (Za (qgi Z.PIECE_AT_)) (Za (Zq hu ql (Za (qgi Z.LENGTH_AT_))))))))) Zg))))
  ZD)))
  (Zr (ZP (Zs (Zdf qv)))
  ZD)))
noncomputable def Zb6:List T.S:=[.ret (.bf .sum [.sl (.v 0) (.v 1) (.bin .Add (.v 1) (.k (.int 1)))])]
noncomputable def Z6:T.FI:=⟨true,T.Zi C0 2 2 Zb6⟩
abbrev ZbS(e:T.En):Prop:=e.fn "_law_here" 1 ["_law_script","_law_place"] Z6
def ZgG(F:T.TI e.K "_law_here" (top 30))(Z:Txt e C)  : ZbS e:=
 T.Zau (C:=C0) (body:=Zb6) (k:=0) Z.Y F ["_law_script","_law_place"] fun _ _ _ _ _ _ _ hr=>
 (Zc (Zs (ZK (Zcz rfl) Z.sum_ Zc3 (Zd (Za (Zcl ql (Za1 ql) (Za1 (Za (qb ql Zf))))) Zg)))
  Zh)
noncomputable def Zaw:List T.S:=[.asg 2 (.bin .FloorDiv (.v 0) (.k (.int 2))),.asg 3 (.bin .Mod (.v 2) (.k (.int 1999999973))),.asg 4 (.bin .Mod (.bin .FloorDiv (.v 2) (.k (.int 1999999973))) (.k (.int 1999999943))),.asg 5 (.lst []),.for_ (.name 6) .rng1 [.bin .Add (.v 1) (.k (.int 2))] [.asg 7 (.bin .Add (.bin .Add (.bin .Add (.bin .Mult (.v 3) (.k (.int 1664525))) (.bin .Mult (.v 4) (.v 4))) (.bin .Mult (.k (.int 97)) (.v 6))) (.k (.int 40503))),.asg 3 (.v 4),.asg 4 (.bin .Mod (.v 7) (.k (.int 1999999973))),.ex (.mut .append 5 [] [.v 4])],.asg 5 (.sl (.v 5) (.k (.int 2)) (.k .non)),.iff (.cmp .Eq (.bin .Mod (.v 0) (.k (.int 2))) (.k (.int 0))) [.ret (.v 5)] [],.for_ (.name 8) .rng1 [.v 1] [.iff (.cmp .Gt (.v 2) (.k (.int 0))) [.sub 5 [] (.v 8) (.bin .Mod (.v 2) (.k (.int 1999999973))),.asg 2 (.bin .FloorDiv (.v 2) (.k (.int 1999999973)))] []],.ret (.v 5)]
noncomputable def Z4:T.FI:=⟨true,T.Zi C0 2 9 Zaw⟩
abbrev Zbn(e:T.En):Prop:=e.fn "_law_shaken" 1 ["_law_cell","_law_many"] Z4
def Zf3(F:T.TI e.K "_law_shaken" (top 31))(Z:Txt e C)  : Zbn e:=
 T.Zau (C:=C0) (body:=Zaw) (k:=0) Z.Y F ["_law_cell","_law_many","_law_rest","_law_one","_law_two","_law_found","_law_turn","_law_more","_law_k"] fun _ _ _ _ _ _ _ hr=>
 have hu:=hr.units
 (Zc (qa (qb ql Zf))
  (Zc (qa (qb ql Zf))
  (Zc (qa (qb (Za (qb ql Zf)) Zf))
  (Zc (qa (Zab Zz))
  (Zc (Zbg PassesOwn.never rfl (Zb0 _ _) (hw_1 (ZaW rfl)) (ZaD Z.range_ (Za (qb ql Zf))) qt
  (Zc (qa (qb (Za (qb (Za (qb (Za (qb ql Zf)) (Za (qb ql ql)))) (Za (qb Zf ql)))) Zf))
  (Zc (qa (ok_v qv))
  (Zc (qa (qb ql Zf))
  (Zc (ZaZ (ZcH qv (Zv (ok_v qv) Zz)))
  Zh)))))
  (Zc (qa (Zcl ql (Za1 Zf) Zed))
  (Zc (Zaq (Z3 hu (Za (qb ql Zf)) Zf) (Zc (Zs (Zdf qv))
  Zh) Zh)
  (Zc (Zbg PassesOwn.never rfl (Zb0 _ _) (hw_1 (Zeg rfl)) (ZaD Z.range_ ql) qt
  (Zc (Zaq (Z3 hu ql Zf) (Zc (Zcw hu qv ql (qb ql Zf))
  (Zc (qa (qb ql Zf))
  Zh)) Zh)
  Zh))
  (Zc (Zs (Zdf qv))
  Zh)))))))))
noncomputable def ZaM:List T.S:=[.asg 2 (.bf .sum [.v 1]),.asg 3 (.bf .sum [.comp 1 [1] (.name 0) .rng1 [.bf .len [.v 1]] [] (.bin .Mult (.bin .Add (.v 0) (.k (.int 1))) (.ix (.v 1) (.v 0)))]),.asg 4 (.bin .Mod (.bin .Sub (.bin .Mult (.v 2) (.bin .Add (.bf .len [.v 1]) (.k (.int 1)))) (.v 3)) (.v 0)),.ret (.bin .Add (.v 1) (.lst [.bin .Mod (.bin .Sub (.bin .Sub (.k (.int 0)) (.v 2)) (.v 4)) (.v 0),.v 4]))]
noncomputable def ZQ:T.FI:=⟨true,T.Zi C0 2 5 ZaM⟩
abbrev ZcQ(e:T.En):Prop:=e.fn "_law_labelled" 1 ["_law_prime","_law_row"] ZQ
def ZeC(F:T.TI e.K "_law_labelled" (top 32))(Z:Txt e C)  : ZcQ e:=
 T.Zau (C:=C0) (body:=ZaM) (k:=0) Z.Y F ["_law_prime","_law_row","_law_plain","_law_weighed","_law_last"] fun _ _ _ _ _ _ _ hr=>
 have hu:=hr.units
 (Zc (qa (ZK (Zcz rfl) Z.sum_ Zc3 (Zd ql Zg)))
  (Zc (qa (ZK (Zcz rfl) Z.sum_ Zc3 (Zd (Za (Zag rfl (cS ["_law_k","_law_row"]) (ZaD Z.range_ (Za (ZK Zbf Z.len_ Zbi (Zd ql Zg)))) (fun _ _ _ _ _=>⟨qt,Za5,(qb (Za (qb ql Zf)) (Za (Zq hu ql ql)))⟩))) Zg)))
  (Zc (qa (qb (Za (qb (Za (qb ql (Za (qb (Za (ZK Zbf Z.len_ Zbi (Zd ql Zg))) Zf)))) ql)) ql))
  (Zc (Zs (qb ql (Za (Zab (Zv (qb (Za (qb (Za (qb Zf ql)) ql)) ql) (Zv (ok_v qv) Zz))))))
  Zh))))
noncomputable def ZaG(fi:T.FI):List T.S:=[.iff (.bf (.isi .list) [.v 1]) [.iff (.or (.nt (.bf (.isi .list) [.v 0])) (.cmp .NotEq (.bf .len [.v 0]) (.bf .len [.v 1]))) [.ret (.k (.bl false))] [],.ret (.bf .all [.comp 2 [] (.tup [0,1]) .zip [.v 0,.v 1] [] (.call fi [.v 0,.v 1])])] [],.ret (.and (.bf (.isi .int) [.v 0]) (.and (.nt (.bf (.isi .bool) [.v 0])) (.cmp .Eq (.v 0) (.v 1))))]
noncomputable def Z7:Nat->List T.D->T.Rs (T.D×List T.D)
 | 0=>T.Zi C0 2 2 [.raise (.k .non)]
 | n+1=>T.Zi C0 2 2 (ZaG ⟨true,Z7 n⟩)
noncomputable def Zak:T.FI:=⟨true,Z7 3⟩
abbrev Zhf(e:T.En):Prop:=e.fn "_law_same" 4 ["_law_found","_law_due"] Zak
theorem ZgH(F:T.TI e.K "_law_same" (top 33))(Z:Txt e C):∀ n,e.fn "_law_same" (n+1) ["_law_found","_law_due"] ⟨true,Z7 n⟩:=fun n=>by
 induction n with
 | zero=>exact T.Zau (C:=C0) (body:=[.raise (.k .non)]) (k:=0) Z.Y F ["_law_found","_law_due"] fun _ _ _ _ _ _ _ _=>T.ZkT
 | succ n G_self=>exact T.Zau (C:=C0) (body:=ZaG ⟨true,Z7 n⟩) (k:=n+1) Z.Y F ["_law_found","_law_due"] fun _ _ _ _ _ _ _ hr=>
  have hu:=hr.units
  (Zc (Zaq (ZX (Za (qi Z.isinstance_ ql Z.list_ Zgp))) (Zc (Zaq (PW.pt (ZdL (Zav (ZX (Za (qi Z.isinstance_ ql Z.list_ Zgp)))) (ZdK (Z3 hu (Za (ZK Zbf Z.len_ Zbi (Zd ql Zg))) (Za (ZK Zbf Z.len_ Zbi (Zd ql Zg))))))) (Zc (Zs (ok_k ZbL))
   Zh) Zh)
   (Zc (Zs (ZK (Zjx rfl) Z.all_ Zj3 (Zd (Za (Zag rfl (cS ["_law_one","_law_other"]) (Zpv g_ Z.zip_ ql ql) (fun _ _ _ _ _=>⟨(Zfa rfl (qg (qg Zdz))),Za5,(Z8 G_self hr (Zd ql (Zd ql Zg)) (hj:=le_refl _))⟩))) Zg)))
   Zh)) Zh)
   (Zc (Zs (ZbE (Za (qi Z.isinstance_ ql Z.int_ ZlE)) (ZbE (Za (Zhx (Za (qi Z.isinstance_ ql Z.bool_ Zjp)))) (Zde (ZbI hu ql ql)))))
   Zh))
noncomputable def Zb7:List T.S:=[.asg 1 (.call Z4 [.call Z6 [.v 0,.k (.int 0)],.k (.int 3)]),.asg 2 (.ix (.kl [(.int 7),(.int 11),(.int 13),(.int 17),(.int 19),(.int 23),(.int 29),(.int 31),(.int 37),(.int 41),(.int 43),(.int 47)]) (.bin .Mod (.ix (.v 1) (.k (.int 0))) (.k (.int 12)))),.ret (.tup [.v 2,.ix (.lst [.bin .Add (.k (.int 1)) (.bin .Mod (.ix (.v 1) (.k (.int 1))) (.bin .Sub (.v 2) (.k (.int 5)))),.k (.int 1),.bin .Sub (.v 2) (.k (.int 5)),.bin .Add (.k (.int 1)) (.bin .Mod (.bin .Mod (.ix (.v 1) (.k (.int 1))) (.k (.int 4))) (.bin .Sub (.v 2) (.k (.int 5))))]) (.bin .Mod (.ix (.v 1) (.k (.int 2))) (.k (.int 4)))])]
noncomputable def Zbj:T.FI:=⟨true,T.Zi C0 1 3 Zb7⟩
abbrev Zev(e:T.En):Prop:=e.fn "_law_roll" 2 ["_law_script"] Zbj
def ZgI(F:T.TI e.K "_law_roll" (top 34))(Z:Txt e C)(g21:Zbn e)(g20:ZbS e):Zev e:=
 T.Zau (C:=C0) (body:=Zb7) (k:=1) Z.Y F ["_law_script","_law_xs","_law_prime"] fun _ _ _ _ _ _ _ hr=>
 have hu:=hr.units
 (Zc (qa (Z8 g21 hr (Zd (Za (Z8 g20 hr (Zd ql (Zd Zf Zg)))) (Zd Zf Zg))))
  (Zc (qa (Zq hu (Za (Zrc (vs:=[(.int 7),(.int 11),(.int 13),(.int 17),(.int 19),(.int 23),(.int 29),(.int 31),(.int 37),(.int 41),(.int 43),(.int 47)]) (by kernel_rfl))) (Za (qb (Za (Zq hu ql Zf)) Zf))))
  (Zc (Zs (ZbX (Zv (ok_v qv) (Zv (Zq hu (Za (Zab (Zv (qb Zf (Za (qb (Za (Zq hu ql Zf)) (Za (qb ql Zf))))) (Zv (ok_k Zbu) (Zv (qb ql Zf) (Zv (qb Zf (Za (qb (Za (qb (Za (Zq hu ql Zf)) Zf)) (Za (qb ql Zf))))) Zz)))))) (Za (qb (Za (Zq hu ql Zf)) Zf))) Zz))))
  Zh)))
noncomputable def Zdq:List T.S:=[.asg 3 (.lst []),.for_ (.name 4) .rng1 [.bin .Add (.k (.int 1)) (.bin .Mod (.call Z6 [.v 0,.k (.int 1)]) (.bf .min [.k (.int 6),.bin .Sub (.v 1) (.k (.int 1))]))] [.asg 5 (.call Z4 [.call Z6 [.v 0,.bin .Add (.k (.int 2)) (.v 4)],.bin .Add (.v 2) (.k (.int 2))]),.asg 6 (.bin .Mod (.ix (.v 5) (.k (.int 0))) (.bin .Add (.v 2) (.k (.int 1)))),.iff (.cmp .Eq (.bin .Mod (.ix (.v 5) (.k (.int 1))) (.k (.int 8))) (.k (.int 1))) [.asg 6 (.bin .Add (.bin .Add (.v 2) (.k (.int 1))) (.bin .Mod (.ix (.v 5) (.k (.int 0))) (.bin .Sub (.bin .Sub (.v 1) (.v 2)) (.k (.int 1)))))] [],.ex (.mut .append 3 [] [.bin .Add (.lst [.v 6]) (.comp 1 [1] (.name 0) .val [.sl (.v 5) (.k (.int 2)) (.k .non)] [] (.bin .Mod (.v 0) (.v 1)))])],.asg 5 (.call Z4 [.call Z6 [.v 0,.k (.int 8)],.bin .Add (.v 2) (.k (.int 1))]),.ret (.bin .Add (.v 3) (.lst [.comp 1 [1] (.name 0) .val [.v 5] [] (.bin .Mod (.v 0) (.v 1))]))]
noncomputable def Zbo:T.FI:=⟨true,T.Zi C0 3 7 Zdq⟩
abbrev Zd5(e:T.En):Prop:=e.fn "_law_bodies" 2 ["_law_script","_law_prime","_law_room"] Zbo
def Zf4(F:T.TI e.K "_law_bodies" (top 35))(Z:Txt e C)(g20:ZbS e)(g21:Zbn e):Zd5 e:=
 T.Zau (C:=C0) (body:=Zdq) (k:=1) Z.Y F ["_law_script","_law_prime","_law_room","_law_bodies_here","_law_k","_law_xs","_law_length"] fun _ _ _ _ _ _ _ hr=>
 have hu:=hr.units
 (Zc (qa (Zab Zz))
  (Zc (Zbg PassesOwn.never rfl (Zb0 _ _) (hw_1 (ZaW rfl)) (ZaD Z.range_ (Za (qb Zf (Za (qb (Za (Z8 g20 hr (Zd ql (Zd Zf Zg)))) (Za (ZK (Zo0 rfl) Z.min_ Zo5 (Zd Zf (Zd (Za (qb ql Zf)) Zg))))))))) qt
  (Zc (qa (Z8 g21 hr (Zd (Za (Z8 g20 hr (Zd ql (Zd (Za (qb Zf ql)) Zg)))) (Zd (Za (qb ql Zf)) Zg))))
  (Zc (qa (qb (Za (Zq hu ql Zf)) (Za (qb ql Zf))))
  (Zc (Zaq (Z3 hu (Za (qb (Za (Zq hu ql Zf)) Zf)) Zf) (Zc (qa (qb (Za (qb ql Zf)) (Za (qb (Za (Zq hu ql Zf)) (Za (qb (Za (qb ql ql)) Zf))))))
  Zh) Zh)
  (Zc (ZaZ (ZcH qv (Zv (qb (Za (Zab (Zv (ok_v qv) Zz))) (Za (Zag rfl (cS ["_law_x","_law_prime"]) (ZaV (Za (Zcl ql (Za1 Zf) Zed))) (fun _ _ _ _ _=>⟨qt,Za5,(qb ql ql)⟩)))) Zz)))
  Zh)))))
  (Zc (qa (Z8 g21 hr (Zd (Za (Z8 g20 hr (Zd ql (Zd Zf Zg)))) (Zd (Za (qb ql Zf)) Zg))))
  (Zc (Zs (qb ql (Za (Zab (Zv (Zag rfl (cS ["_law_x","_law_prime"]) (ZaV ql) (fun _ _ _ _ _=>⟨qt,Za5,(qb ql ql)⟩)) Zz)))))
  Zh))))
noncomputable def Z5(C:Addr):List T.S:=[.lf (.asg 3 (.k .non)),.lf (.asg 4 (.k .non)),.try_ [.ifX (.cmp .Eq (.v 2) (.k (.int 0))) [.asgY 4 (.meth C "gathered" (ZB C) (.v 0) [.v 1])] [.asgY 4 (.meth C "all_labels" (Zm C) (.v 0) [.v 1])]] "LabelError" (some 5) [.asg 3 (.v 5)],.ifX (.isN true (.v 3)) [.lf (.ret (.tup [.k (.str "told"),.v 4]))] [],.ifX (.and (.bf (.isiX "Lost") [.v 3]) (.nt (.bf (.isiX "Mixed") [.v 3]))) [.lf (.ret (.tup [.k (.str "lost"),.bf (.xfld "numbers") [.v 3]]))] [],.ifX (.and (.bf (.isiX "Mixed") [.v 3]) (.nt (.bf (.isiX "Lost") [.v 3]))) [.lf (.ret (.tup [.k (.str "mixed"),.bf (.xfld "number") [.v 3]]))] [],.lf (.ret (.tup [.k (.str "other"),.k .non]))]
noncomputable def Zw(C:Addr):T.FI:=⟨true,T.Zi (CK C) 3 6 (Z5 C)⟩
abbrev ZdT(e:T.En)(C:Addr):Prop:=e.fx "_law_asked" 9 ["_law_roll_here","_law_labels","_law_way"] (Zw C)
def ZfY(F:T.TI e.K "_law_asked" (top 36))(Z:Txt e C)(g19:ZcP e C)(g18:Zbb e C):ZdT e C:=
 T.ZsE (C:=(CK C)) (body:=(Z5 C)) (k:=8) Z.Y F ["_law_roll_here","_law_labels","_law_way","_law_caught","_law_found","e"] fun _ _ _ _ _ _ _ hF hr=>
 have hu:=hr.units
 (Zr (ZP (qa (ok_k ZcY)))
  (Zr (ZP (qa (ok_k ZcY)))
  (Zr (qty hF Z.le (Zr (ZbZ (Z3 hu ql Zf) (Zr (qax (qmx g19 hr ql (Zd ql Zg)))
  ZD) (Zr (qax (qmx g18 hr ql (Zd ql Zg)))
  ZD))
  ZD) (fun _=>(Zc (qa (ok_v qv))
  Zh)))
  (Zr (ZbZ (ZmX ql) (Zr (ZP (Zs (ZbX (Zv (ok_k ZaC) (Zv (ok_v qv) Zz)))))
  ZD) ZD)
  (Zr (ZbZ (PW.pt (ZbD (ZX (Za (qiX Z.x_a Z.isinstance_ ql))) (Zcs (Zav (ZX (Za (qiX Z.x_b Z.isinstance_ ql))))))) (Zr (ZP (Zs (ZbX (Zv (ok_k ZaC) (Zv (ZhB ql) Zz)))))
  ZD) ZD)
  (Zr (ZbZ (PW.pt (ZbD (ZX (Za (qiX Z.x_b Z.isinstance_ ql))) (Zcs (Zav (ZX (Za (qiX Z.x_a Z.isinstance_ ql))))))) (Zr (ZP (Zs (ZbX (Zv (ok_k ZaC) (Zv (ZhB ql) Zz)))))
  ZD) ZD)
  (Zr (ZP (Zs (ZbX (Zv (ok_k ZaC) (Zv (ok_k ZcY) Zz)))))
  ZD)))))))
noncomputable def Zd6(C:Addr):List T.S:=[.for_ (.name 3) .val [.lst [.k (.int 0),.k (.int 1)]] [.unp [4,5] (.call (Zw C) [.v 0,.comp 1 [] (.name 0) .val [.v 1] [] (.bf .list [.v 0]),.v 3]),.iff (.cmp .NotEq (.v 4) (.ix (.v 2) (.k (.int 0)))) [.ret (.k (.bl false))] [],.iff (.and (.cmp .Eq (.v 4) (.k (.str "mixed"))) (.isN false (.v 5))) [.ret (.k (.bl false))] [],.iff (.and (.cmp .Eq (.v 4) (.k (.str "lost"))) (.nt (.call Zak [.v 5,.ix (.v 2) (.k (.int 1))]))) [.ret (.k (.bl false))] [],.iff (.and (.cmp .Eq (.v 4) (.k (.str "told"))) (.nt (.call Zak [.v 5,.ix (.v 2) (.bin .Add (.k (.int 1)) (.v 3))]))) [.ret (.k (.bl false))] []],.ret (.k (.bl true))]
noncomputable def Zan(C:Addr):T.FI:=⟨true,T.Zi (CK C) 3 6 (Zd6 C)⟩
abbrev ZdU(e:T.En)(C:Addr):Prop:=e.fn "_law_right" 10 ["_law_roll_here","_law_handed","_law_due"] (Zan C)
def ZfZ(F:T.TI e.K "_law_right" (top 37))(Z:Txt e C)(g26:ZdT e C)(g23:Zhf e):ZdU e C:=
 T.Zau (C:=(CK C)) (body:=(Zd6 C)) (k:=9) Z.Y F ["_law_roll_here","_law_handed","_law_due","_law_way","_law_word","_law_found"] fun _ _ _ _ _ _ _ hr=>
 have hu:=hr.units
 (Zc (Znj PassesOwn.never rfl (hw_1 (ZaW rfl)) (ZaV (Za (Zab (Zv (ok_k Zbu) (Zv (ok_k Zbu) Zz))))) qt
  (Zc (Zj1 rfl (Za (Z8 g26.calm hr (Zd ql (Zd (Za (Zag rfl (cS ["_law_label"]) (ZaV ql) (fun _ _ _ _ _=>⟨qt,Za5,(ZeV Zee Z.list_ Zei (Zd ql Zg))⟩))) (Zd ql Zg))))) (qg (qg Zdz)))
  (Zc (Zaq (Z3 hu ql (Za (Zq hu ql Zf))) (Zc (Zs (ok_k ZbL))
  Zh) Zh)
  (Zc (Zaq (PW.pt (ZbD (Z3 hu ql (Za (ok_k ZaC))) (Zcs (ZkH ql)))) (Zc (Zs (ok_k ZbL))
  Zh) Zh)
  (Zc (Zaq (PW.pt (ZbD (Z3 hu ql (Za (ok_k ZaC))) (Zcs (Zav (ZX (Za (Z8 g23 hr (Zd ql (Zd (Za (Zq hu ql Zf)) Zg))))))))) (Zc (Zs (ok_k ZbL))
  Zh) Zh)
  (Zc (Zaq (PW.pt (ZbD (Z3 hu ql (Za (ok_k ZaC))) (Zcs (Zav (ZX (Za (Z8 g23 hr (Zd ql (Zd (Za (Zq hu ql (Za (qb Zf ql)))) Zg))))))))) (Zc (Zs (ok_k ZbL))
  Zh) Zh)
  Zh))))))
  (Zc (Zs (ok_k ZbL))
  Zh))
noncomputable def Zat(C:Addr):List T.S:=[.unp [1,2] (.call Zbj [.v 0]),.asg 3 (.call Zbo [.v 0,.v 1,.v 2]),.asg 4 (.bin .Sub (.bf .len [.v 3]) (.k (.int 1))),.asg 5 (.call Z4 [.call Z6 [.v 0,.k (.int 9)],.bin .Add (.v 4) (.k (.int 5))]),.asg 6 (.lst []),.iff (.cmp .Eq (.bin .Mod (.ix (.v 5) (.k (.int 0))) (.k (.int 2))) (.k (.int 1))) [.asg 6 (.lst [.bin .Mod (.ix (.v 5) (.k (.int 1))) (.bin .Add (.v 4) (.k (.int 1)))]),.sub 3 [] (.ix (.v 6) (.k (.int 0))) (.bin .Mult (.lst [.k (.int 0)]) (.bin .Add (.v 2) (.k (.int 1)))),.sub 3 [] (.ix (.v 6) (.k (.int 0))) (.comp 1 [1,3] (.name 0) .rng1 [.bin .Add (.v 2) (.k (.int 1))] [] (.bin .Mod (.bin .Sub (.k (.int 0)) (.bf .sum [.comp 1 [0] (.name 0) .val [.v 2] [] (.ix (.v 0) (.v 1))])) (.v 1)))] [],.asg 7 (.comp 1 [1,4,3] (.name 0) .rng1 [.bin .Add (.v 4) (.k (.int 1))] [] (.call ZQ [.v 1,.bin .Add (.lst [.v 0,.v 2]) (.ix (.v 3) (.v 0))])),.asg 8 (.lst []),.for_ (.name 9) .val [.sl (.v 3) (.k .non) (.neg (.k (.int 1)))] [.asg 8 (.bin .Add (.v 8) (.sl (.v 9) (.k (.int 1)) (.bin .Add (.ix (.v 9) (.k (.int 0))) (.k (.int 1)))))],.asg 10 (.tup [.k (.str "told"),.v 8,.v 7]),.iff (.bf .any [.comp 1 [2] (.name 0) .val [.sl (.v 3) (.k .non) (.neg (.k (.int 1)))] [] (.cmp .Gt (.ix (.v 0) (.k (.int 0))) (.v 1))]) [.asg 10 (.tup [.k (.str "mixed"),.k .non])] [],.iff (.and (.cmp .NotEq (.v 6) (.lst [])) (.and (.cmp .Eq (.bin .Mod (.ix (.v 5) (.k (.int 2))) (.k (.int 3))) (.k (.int 1))) (.cmp .Gt (.v 4) (.k (.int 1))))) [.asg 6 (.bf .sorted [.lst [.ix (.v 6) (.k (.int 0)),.bin .Mod (.bin .Add (.bin .Add (.ix (.v 6) (.k (.int 0))) (.k (.int 1))) (.bin .Mod (.ix (.v 5) (.k (.int 3))) (.v 4))) (.bin .Add (.v 4) (.k (.int 1)))]]),.asg 10 (.tup [.k (.str "lost"),.v 6])] [],.asg 11 (.comp 1 [7,6] (.name 0) .rng1 [.bin .Add (.v 4) (.k (.int 1))] [.cmp .NotIn (.v 0) (.v 2)] (.ix (.v 1) (.v 0))),.asg 12 (.lst []),.for_ (.name 13) .rng1 [.bf .len [.v 11]] [.ex (.mut .append 12 [] [.mut .popAt 11 [] [.bin .Mod (.ix (.v 5) (.bin .Add (.k (.int 4)) (.v 13))) (.bf .len [.v 11])]])],.ret (.call (Zan C) [.new C (Za9 C) [.v 1,.v 2],.v 12,.v 10])]
noncomputable def Zfh(C:Addr):T.FI:=⟨true,T.Zi (CK C) 1 14 (Zat C)⟩
def ZpG{f:Addr}{fd:FuncData}(F:Fun e.K "law" "law" (top 38) f fd)(Z:Txt e C)(g24:Zev e)(g25:Zd5 e)(g21:Zbn e)(g20:ZbS e)(g22:ZcQ e)(g27:ZdU e C)(g13:ZcN e C):FnOk e.P e.w e.K e.mg e.base CX0 11 f fd ["_law_script"] (T.spF e.K (Zfh C).run):=
 T.Zp8 (C:=(CK C)) (body:=(Zat C)) (k:=10) F ["_law_script","_law_prime","_law_room","_law_bodies_here","_law_many","_law_xs","_law_out","_law_labels","_law_row","_law_body","_law_due","_law_left","_law_handed","_law_k"] fun _ _ _ _ _ _ _ hr=>
 have hu:=hr.units
 (Zc (Zj1 rfl (Za (Z8 g24 hr (Zd ql Zg))) (qg (qg Zdz)))
  (Zc (qa (Z8 g25 hr (Zd ql (Zd ql (Zd ql Zg)))))
  (Zc (qa (qb (Za (ZK Zbf Z.len_ Zbi (Zd ql Zg))) Zf))
  (Zc (qa (Z8 g21 hr (Zd (Za (Z8 g20 hr (Zd ql (Zd Zf Zg)))) (Zd (Za (qb ql Zf)) Zg))))
  (Zc (qa (Zab Zz))
  (Zc (Zaq (Z3 hu (Za (qb (Za (Zq hu ql Zf)) Zf)) Zf) (Zc (qa (Zab (Zv (qb (Za (Zq hu ql Zf)) (Za (qb ql Zf))) Zz)))
  (Zc (Zcw hu qv (Za (Zq hu ql Zf)) (qb (Za (Zab (Zv (ok_k Zbu) Zz))) (Za (qb ql Zf))))
  (Zc (Zcw hu qv (Za (Zq hu ql Zf)) (Zag rfl (cS ["_law_at","_law_prime","_law_bodies_here"]) (ZaD Z.range_ (Za (qb ql Zf))) (fun _ _ _ _ _=>⟨qt,Za5,(qb (Za (qb Zf (Za (ZK (Zcz rfl) Z.sum_ Zc3 (Zd (Za (Zag rfl (cS ["_law_body","_law_at"]) (ZaV ql) (fun _ _ _ _ _=>⟨qt,Za5,(Zq hu ql ql)⟩))) Zg))))) ql)⟩)))
  Zh))) Zh)
  (Zc (qa (Zag rfl (cS ["_law_k","_law_prime","_law_many","_law_bodies_here"]) (ZaD Z.range_ (Za (qb ql Zf))) (fun _ _ _ _ _=>⟨qt,Za5,(Z8 g22 hr (Zd ql (Zd (Za (qb (Za (Zab (Zv (ok_v qv) (Zv (ok_v qv) Zz)))) (Za (Zq hu ql ql)))) Zg)))⟩)) (hs:=Zio (by kernel_rfl) rfl))
  (Zc (qa (Zab Zz))
  (Zc (Zbg PassesOwn.never rfl (Zb0 _ _) (hw_1 (ZaW rfl)) (ZaV (Za (Zcl ql Zed (Za1 (Za (Zdd Zf)))))) qt
  (Zc (qa (qb ql (Za (Zcl ql (Za1 Zf) (Za1 (Za (qb (Za (Zq hu ql Zf)) Zf)))))))
  Zh))
  (Zc (qa (ZbX (Zv (ok_k ZaC) (Zv (ok_v qv) (Zv (ok_v qv) Zz)))))
  (Zc (Zaq (ZX (Za (ZK (Zjy rfl) Z.any_ Zj4 (Zd (Za (Zag rfl (cS ["_law_body","_law_room"]) (ZaV (Za (Zcl ql Zed (Za1 (Za (Zdd Zf)))))) (fun _ _ _ _ _=>⟨qt,Za5,(ZbI hu (Za (Zq hu ql Zf)) ql)⟩))) Zg)))) (Zc (qa (ZbX (Zv (ok_k ZaC) (Zv (ok_k ZcY) Zz))))
  Zh) Zh)
  (Zc (Zaq (PW.pt (ZbD (Z3 hu ql (Za (Zab Zz))) (ZbD (Z3 hu (Za (qb (Za (Zq hu ql Zf)) Zf)) Zf) (Zcs (Z3 hu ql Zf))))) (Zc (qa (ZK Znt Z.sorted_ ZjI (Zd (Za (Zab (Zv (Zq hu ql Zf) (Zv (qb (Za (qb (Za (qb (Za (Zq hu ql Zf)) Zf)) (Za (qb (Za (Zq hu ql Zf)) ql)))) (Za (qb ql Zf))) Zz)))) Zg)))
  (Zc (qa (ZbX (Zv (ok_k ZaC) (Zv (ok_v qv) Zz))))
  Zh)) Zh)
  (Zc (qs (cS ["_law_k","_law_labels","_law_out"]) (ZaD Z.range_ (Za (qb ql Zf))) (fun _ _ _ _ _=>⟨qt,(Zgx (Z3 hu ql ql)),(Zq hu ql ql)⟩))
  (Zc (qa (Zab Zz))
  (Zc (Zbg PassesOwn.never rfl (Zb0 _ _) (hw_1 (ZaW rfl)) (ZaD Z.range_ (Za (ZK Zbf Z.len_ Zbi (Zd ql Zg)))) qt
  (Zc (ZaZ (ZcH qv (Zv (ZkD qv (Zd (Za (qb (Za (Zq hu ql (Za (qb Zf ql)))) (Za (ZK Zbf Z.len_ Zbi (Zd ql Zg))))) Zg)) Zz)))
  Zh))
  (Zc (Zs (Z8 g27 hr (Zd (Za (Zo7 g13 hr (Zd ql (Zd ql Zg)))) (Zd ql (Zd ql Zg)))))
  Zh))))))))))))))))
def ZpH{l:PySem.W.OpenLaw}{w:World}{K:Fg}{h:Heap}{mg:SO}{fa L Kaa Kab:Addr}(X:K.In h)(G:h.Ns mainGlobals mg)(hfa:mg "law"=some (.ref fa))
 (cC:T.CI K "Roll" C)
 (nF0:findIn K (.ref C) "size"=some none)
 (nF1:findIn K (.ref C) "room"=some none)
 (hL:T.LB K L)
 (b_a:T.XB K L "Lost" Kaa)
 (b_b:T.XB K L "Mixed" Kab)
 (a_a:T.XA K Kaa)
 (a_b:T.XA K Kab)
 (i_a:T.II K Kaa "Lost.__init__" (ZM (top 8) 0))
 (i_b:T.II K Kab "Mixed.__init__" (ZM (top 7) 0))
 (hI:XI K L)
 (d2:T.TI K "is_whole" (top 11))
 (d3:T.TI K "is_symbol" (top 12))
 (d4:T.TI K "check_symbols" (top 13))
 (d5:T.TI K "plain_sum" (top 16))
 (d6:T.TI K "weighed_sum" (top 17))
 (d7:T.TI K "is_good" (top 18))
 (d8:T.TI K "quotient" (top 19))
 (d9:T.TI K "with_two_filled" (top 20))
 (d10:T.TI K "labelled" (top 21))
 (d11:T.TI K "is_roll" (top 26))
 (d12:T.TI K "labels_by_number" (top 27))
 (d13:T.MI K C "__init__" "Roll.__init__" (ZM (top 28) 0))
 (d14:T.MI K C "balance" "Roll.balance" (ZM (top 28) 3))
 (d15:T.MI K C "is_label" "Roll.is_label" (ZM (top 28) 4))
 (d16:T.MI K C "check_labels" "Roll.check_labels" (ZM (top 28) 5))
 (d17:T.MI K C "completed" "Roll.completed" (ZM (top 28) 6))
 (d18:T.MI K C "all_labels" "Roll.all_labels" (ZM (top 28) 7))
 (d19:T.MI K C "gathered" "Roll.gathered" (ZM (top 28) 8))
 (d20:T.TI K "_law_here" (top 30))
 (d21:T.TI K "_law_shaken" (top 31))
 (d22:T.TI K "_law_labelled" (top 32))
 (d23:T.TI K "_law_same" (top 33))
 (d24:T.TI K "_law_roll" (top 34))
 (d25:T.TI K "_law_bodies" (top 35))
 (d26:T.TI K "_law_asked" (top 36))
 (d27:T.TI K "_law_right" (top 37))
 (d28:T.TI K "law" (top 38))
 (z0:T.NI K "all")
 (z1:T.NI K "any")
 (z2:T.NI K "bool")
 (z3:T.NI K "enumerate")
 (z4:T.NI K "int")
 (z5:T.NI K "isinstance")
 (z6:T.NI K "len")
 (z7:T.NI K "list")
 (z8:T.NI K "min")
 (z9:T.NI K "range")
 (z10:T.NI K "sorted")
 (z11:T.NI K "sum")
 (z12:T.NI K "zip")
 {tc0:Tok} (zc0:nsIn K mainGlobals "BESIDES"=some (some (.int 5 tc0)))
 {tc1:Tok} (zc1:nsIn K mainGlobals "CHECK_SYMBOLS"=some (some (.int 2 tc1)))
 {tc2:Tok} (zc2:nsIn K mainGlobals "LENGTH_AT"=some (some (.int 2 tc2)))
 {tc3:Tok} (zc3:nsIn K mainGlobals "PIECE_AT"=some (some (.int 3 tc3)))
 {at0:Addr} {dt0:Option Addr} {it0:Array Value} {nt0:Nat} {st0:Array (Option Value)} (zt0:nsIn K mainGlobals "PRIMES"=some (some (.ref at0))) (zl0:K.lookup at0=some ⟨.type "tuple",dt0,.seq it0 nt0,st0⟩) (zz0:it0.size<=1000) (zi0:it0.toList.map T.unV=(([5,7,11,13,17,19,23,29,31,37,41,43,47]:List Int).map V.int).map some)
 : ∃ fd:FuncData,(∀(s:Shared)(v:Value),BindsTo s fd ⟨[v],[]⟩ [("_law_script",v)])/\∀ base:Heap,K.In base->base.Ns mainGlobals mg->FnOk l.prog w K mg base CX0 11 fa fd ["_law_script"] (T.spF K (Zfh (Zfc K)).run):=by
 have hC:Zfc K=C:=by unfold Zfc;rw [cC.at_]
 rw [hC]
 obtain ⟨f,fd,x,F⟩:=d28
 cases hfa.symm.trans (mg_of X G x)
 refine ⟨fd,fun s v=>?_,fun base _ _=>?_⟩
 . obtain ⟨oc,od,kV,doc,pm,an,cdv,ct,osl,rfl,lk,hcd⟩:=F.ex
   exact .of_eq rfl
 have m:∀{x:Str},T.NI K x->mg x=none:=PySem.W.mg_none_of X G
 have Z:Txt ⟨l.prog,w,K,mg,base⟩ C:=⟨⟨h,X,G⟩,m z0,m z1,m z2,m z3,m z4,m z5,m z6,m z7,m z8,m z9,m z10,m z11,m z12,⟨tc0,mg_of X G zc0⟩,⟨tc1,mg_of X G zc1⟩,⟨tc2,mg_of X G zc2⟩,⟨tc3,mg_of X G zc3⟩,T.ZkS X G zt0 zl0 (by rw [T.szl];omega) zi0,b_a.lx X G,b_b.lx X G,⟨L,mg_of X G hL.x,hL.xc,hL.gx⟩,⟨L,mg_of X G hL.x,hI⟩,⟨_,mg_of X G b_a.at_,b_a.xn hL a_a,i_a⟩,⟨_,mg_of X G b_b.at_,b_b.xn hL a_b,i_b⟩,cC,nF0,nF1⟩
 have g0:=Zeq Z
 have g1:=Ze7 Z
 have g2:=Zhc d2 Z
 have g3:=ZgE d3 Z g2
 have g4:=Ze8 d4 Z g3
 have g5:=ZgF d5 Z
 have g6:=Zf2 d6 Z
 have g7:=Zi7 d7 Z g6 g5
 have g8:=Zhd d8 Z
 have g9:=ZdR d9 Z g5 g6 g8
 have g10:=Zhe d10 Z g4 g9
 have g11:=Zi8 d11 Z g2
 have g12:=Zd7 d12 Z
 have g13:=Ze9 d13 Z g11
 have g14:=Zfg d14 Z g10
 have g15:=ZeA d15 Z g7 g3
 have g16:=Zd2 d16 Z g15
 have g17:=Zer d17 Z g12 g1 g14
 have g18:=ZdS d18 Z g16 g17 g0
 have g19:=ZeB d19 Z g18
 have g20:=ZgG d20 Z
 have g21:=Zf3 d21 Z
 have g22:=ZeC d22 Z
 have g23:=ZgH d23 Z 3
 have g24:=ZgI d24 Z g21 g20
 have g25:=Zf4 d25 Z g20 g21
 have g26:=ZfY d26 Z g19 g18
 have g27:=ZfZ d27 Z g26 g23
 exact ZpG F Z g24 g25 g21 g20 g22 g27 g13
end
def runB{f:FI}{C:T.Ctx}{n N:Nat}{b:List T.S}{R:Rs (D×List D)}(e:f.run=Zi C n N b)(hl:ds.length=n)(h:ZaN n (exs { C with lock:=fun i=>decide (i < n) } b (ds++replicate (N - n) .hole))=R):f.run ds=R:=by rw [e,runA hl];exact h
variable(lk:Nat->Bool)(fok:Addr->Str->Bool)(fuel:Nat)
local macro_rules | `(tactic| walk_at "r") => `(tactic| (refine runB rfl rfl ?_; show ZaN _ (exs _ (_ :: _) _) = _; simp only [replicate, reduceSub]))
local macro_rules|`(tactic|walk_at "ev")=>do
 let a ← ("bndA ZmQ retA Zrd ZmR Zre Zrf Zo9 ZoA Zrg ZoB Zrh Zri ZmS ZmT valA ZoC Zrj Zrk movA ZoD Zrl Zrm ZoE Zrn Zro Zrp ZoF ZoG Zrq Zrr ZoH ZoI Zrs ZoJ ZoK ZoL ZoM Zrt ZoN exs1 exs0 Zdi ZmU Zfx e_k o_k e_g o_g Zrv Zrw Zrx Zry Zrz Zr0 Zr1 Zr2 Zr3 Zr4 Zf0 e_nt t_nt o_nt Zr5 Zr6 t_or e_ix o_ix e_sl o_sl Zr7 Zr8 Zr9 ZrA ZrB e_kl o_kl ZoO ZoP ZoQ e_bf t_bf o_bf ZoR ZoS ZoT ZrC ZrD ZmW ZoU e_v t_v ZkC ZrK ZrL evs0 evs1 ZrM ZrN ZrO ZrP ZrQ ZoX x_ex ZrR ZrS ZoY ZrT r_k ZrU ZrV r_ix ZrW ZoZ r_bf Zpa ZrX ZrY c_lt c_le ZrZ Zsa Zpb Zpc Zpd ZoV Zsb Zsc Zsd Zse Zsf Zsg Zsh Zpe Zpf Zpg Zph Zpi Zpj intp sl_l sl_f Zsi Zsj Zsk Zpk asgn Zpl Zpm Zpn Zpo Zsl Zsm Zpp Zpq Zpr Zps it_l modA Zsn chkA Zso ix_l ix_t shrL shr walked C0 scr List.getElem?_cons_zero getElem?_cons_succ List.set_cons_zero List.set_cons_succ length_cons length_nil Option.map_some bind_some toList_none Option.toList_some nil_append append_nil cons_append map_cons map_nil if_true if_false Bool.false_eq_true Bool.and_true Bool.true_and Bool.or_true Bool.true_or Bool.or_false Bool.false_or Bool.not_false Bool.not_true decide_true decide_false Nat.reduceLT Nat.reduceAdd Nat.reduceLeDiff beq_self_eq_true Nat.reduceBEq Bool.and_false Bool.false_and reduceCtorEq ite_true ite_false ZrG ZrH ZrI ZoW ZrF ZrE ix_d ZpB ZpC Zno Znp x_lf Zs7 clmA Zs8 Zp3 Znh Zp9 ZkV ZkP Zp2 Zng Zp4 Zp5 ZkQ ZkR endX Zs9 Zp6 ZsL ZsM".splitOn " ").toArray.mapM fun n=>`(Lean.Parser.Tactic.simpLemma|$(Lean.mkIdent n.toName):term)
 `(tactic|simp only [$a,*])
local macro_rules | `(tactic| simp_all [$xs,*]) => `(tactic| repeat (first | walk_at "ev" | simp only [$xs,*]))
noncomputable abbrev I(i:Int):D:=.sc (.int i)
noncomputable abbrev Ls(o:Bool)(xs:List Int):D:=.node .lst o (dI xs)
noncomputable def wts:Int->List Int->List Int
 | _,[]=>[]
 | c,x::xs=>c * x::wts (c+1) xs
theorem ZhD(c:Int)(xs:List Int):(wts c xs).length=xs.length:=by
 induction xs generalizing c with
 | nil=>rfl
 | cons x xs ih=>rw [wts,length_cons,length_cons,ih]
def ZdV(p:Int)(xs:List Int)(o:Bool)(hp:0 < p):ZaA.run [I p,Ls o xs]=.ok (I (xs.sum % p),[I p,Ls o xs]):=by
 show Zi C0 2 2 Zb3 [I p,Ls o xs]=_
 rw [runA (show [I p,Ls o xs].length=2 from rfl)]
 unfold Zb3
 simp only [replicate,reduceSub]
 cases o<;>(simp_all [Zk,ZaI,ZJ _ _ hp])<;>rfl
theorem wloop(h0:lk 0=false)(h1:lk 1=false):∀(xs:List Int)(c:Int)(acc:List Int)(a b:D),0<=c->c+xs.length < 2 ^ 64->∃ a' b',ZH (asgT lk (.tup [0,1])) (tsts ⟨lk,fok,fuel⟩ []) (evb ⟨lk,fok,fuel⟩ (.bin .Mult (.v 0) (.v 1))).1 (Zap c (dI xs)) (dI acc) [a,b]=.ok (dI (acc++wts c xs),[a',b']):=by
 intro xs
 induction xs with
 | nil=>exact fun c acc a b _ _=>⟨a,b,by rw [wts,append_nil];rfl⟩
 | cons x xs ih=>
  intro c acc a b hc hl
  rw [length_cons] at hl
  obtain ⟨a',b',ih⟩:=ih (c+1) (acc++[c * x]) (I c) (I x) (by omega) (by omega)
  refine ⟨a',b',?_⟩
  have hm:binW .Mult (.sc (.int c)) (.sc (.int x))=some (.sc (.int (c * x))):=ZcI c x (.inl ⟨by omega,by omega⟩)
  rw [ZF,Zap,Zax]
  rw [Zac] at ih
  simp_all [h0,h1,Zdm,hm]
  rw [wts]
  have e:acc++c * x::wts (c+1) xs=acc++[c * x]++wts (c+1) xs:=by simp
  rw [e]
  exact ih
def Zew(p:Int)(xs:List Int)(o:Bool)(hp:0 < p)(hl:xs.length<=1000):Za2.run [I p,Ls o xs]=.ok (I ((wts 1 xs).sum % p),[I p,Ls o xs]):=by
 show Zi C0 2 2 Zba [I p,Ls o xs]=_
 rw [runA (show [I p,Ls o xs].length=2 from rfl)]
 unfold Zba
 simp only [replicate,reduceSub]
 have hz:(dI ([]++wts 1 xs)).length<=sizeLine:=by rw [Z0,nil_append,ZhD,szl];omega
 obtain ⟨a',b',hw⟩:=wloop (fun i=>decide (2<=i)) (fun _ _=>false) 0 rfl rfl xs 1 [] .hole .hole (by decide) (by omega)
 replace hw:Z9 (fun _ _=>false) 0 2 (.tup [0,1]) [] (.bin .Mult (.v 0) (.v 1)) (Zap 1 (dI xs)) [] [.hole,.hole]=_:=hw
 cases o
 . simp_all [Zk,it_e _ 1 (by decide)]
   rw [ZG (js:=[]) (caps:=[]) rfl hw hz]
   simp_all [Zbh,ZaI,ZJ _ _ hp]
   rfl
 . simp_all [Zk,it_e _ 1 (by decide)]
   rw [ZG (js:=[]) (caps:=[]) rfl hw hz]
   simp_all [Zbh,ZaI,ZJ _ _ hp]
   rfl
theorem ZhE(c:Int)(xs ys:List Int):wts c (xs++ys)=wts c xs++wts (c+xs.length) ys:=by
 induction xs generalizing c with
 | nil=>simp [wts]
 | cons x xs ih=>
  rw [cons_append,wts,wts,ih,cons_append,length_cons]
  have:c+1+(xs.length:Int)=c+((xs.length+1:Nat):Int):=by omega
  rw [this]
noncomputable def other(p:Int)(xs:List Int)(l:Int):Int:=(0 - xs.sum - l) % p
def ZlP(i:Int):tyW .int (.sc (.int i))=some true:=(rfl)
def ZlQ(i:Int):tyW .bool (.sc (.int i))=some false:=(rfl)
def ZlR(w:W):bfW (.isi .int) [w]=(tyW .int w).map fun b=>.sc (.bl b):=(rfl)
def Zi9(w:W):bfW (.isi .list) [w]=(tyW .list w).map fun b=>.sc (.bl b):=(rfl)
def ZlS(ds:List D):tyW .list (.nd .lst ds)=some true:=(rfl)
def ZdW(x:Int):ZaJ.run [I x]=.ok (.sc (.bl true),[I x]):=by
 show Zi C0 1 1 ZbP [I x]=_
 rw [runA (show [I x].length=1 from rfl)]
 unfold ZbP
 simp only [replicate,reduceSub]
 simp_all [ZlR,ZlK,ZlP,ZlQ]
 rfl
def ZhF(p x:Int)(h0:0<=x)(h1:x < p):ZU.run [I p,I x]=.ok (.sc (.bl true),[I p,I x]):=by
 show Zi C0 2 2 Zb2 [I p,I x]=_
 rw [runA (show [I p,I x].length=2 from rfl)]
 unfold Zb2
 simp only [replicate,reduceSub]
 have l1:ZaJ.lend=true:=rfl
 simp_all [l1,ZdW,Zf0,h0,h1]
 rfl
theorem ZiA(h2:lk 2=false)(h3:lk 3=false)(p:Int)(X:D):∀(xs:List Int)(c:Int)(a b:D),(∀ x∈xs,0<=x/\x < p)->∃ a' b',
 forL (asgT lk (.tup [2,3])) (exs ⟨lk,fok,fuel⟩ [.iff (.nt (.call ZU [.v 0,.v 3])) [.raise (.k .non)] []]) (Zap c (dI xs)) [I p,X,a,b]=.ok (.nx,[I p,X,a',b']):=by
 intro xs
 induction xs with
 | nil=>exact fun c a b _=>⟨a,b,rfl⟩
 | cons x xs ih=>
  intro c a b hx
  obtain ⟨a',b',ih⟩:=ih (c+1) (I c) (I x) fun y hy=>hx y (mem_cons_of_mem _ hy)
  refine ⟨a',b',?_⟩
  rw [<- ih,ZF,Zap,ZaH]
  have hr:=ZhF p x (hx x mem_cons_self).1 (hx x mem_cons_self).2
  have l1:ZU.lend=true:=rfl
  simp_all [h2,h3,Zdm,l1,hr]
def ZjK(p:Int)(xs:List Int)(o:Bool)(hx:∀ x∈xs,0<=x/\x < p):ZaQ.run [I p,Ls o xs]=.ok (.sc .non,[I p,Ls o xs]):=by
 show Zi C0 2 4 ZaK [I p,Ls o xs]=_
 rw [runA (show [I p,Ls o xs].length=2 from rfl)]
 unfold ZaK
 simp only [replicate,reduceSub]
 have hs:=fun X=>ZiA (fun j=>decide (j < 2) || walked [.v 1,.k (.int 0)] j) (fun _ _=>false) 0 rfl rfl p X xs 0 .hole .hole hx
 simp only [walked,Bool.or_false] at hs
 cases o
 . obtain ⟨a',b',hs⟩:=hs (Ls false xs)
   simp_all [Zk,it_e _ 0 (by decide),hs]
   rfl
 . obtain ⟨a',b',hs⟩:=hs .hole
   simp_all [Zk,it_e _ 0 (by decide),hs]
   rfl
theorem ZkZ(h0:lk 0=false)(p q:Int)(hp:0 < p):∀(ss acc:List Int)(a:D),∃ a',
 ZH (asgT lk (.name 0)) (tsts ⟨lk,fok,fuel⟩ [.cmp .Eq (.bin .Mod (.bin .Mult (.v 0) (.v 3)) (.v 2)) (.v 1)]) (evb ⟨lk,fok,fuel⟩ (.v 0)).1 (dI ss) (dI acc) [a,I q,I p,I 1]=.ok (dI (acc++ss.filter fun s=>decide (s % p=q)),[a',I q,I p,I 1]):=by
 intro ss
 induction ss with
 | nil=>exact fun acc a=>⟨a,by rw [List.filter_nil,append_nil];rfl⟩
 | cons s ss ih=>
  intro acc a
  have hm:binW .Mult (.sc (.int s)) (.sc (.int 1))=some (.sc (.int (s * 1))):=ZcI _ _ (.inr (by decide))
  rw [ZF,Zax]
  by_cases h:s % p=q
  . obtain ⟨a',ih⟩:=ih (acc++[s]) (I s)
    refine ⟨a',?_⟩
    have e:acc++(s::ss).filter (fun s=>decide (s % p=q))=acc++[s]++ss.filter (fun s=>decide (s % p=q)):=by
     rw [List.filter_cons_of_pos (by simpa using h)]
     simp
    rw [e,<- ih,Zac]
    simp_all [h0,hm,Int.mul_one,ZJ _ _ hp,h,V.int.injEq]
  . obtain ⟨a',ih⟩:=ih acc (I s)
    refine ⟨a',?_⟩
    rw [List.filter_cons_of_neg (by simpa using h),<- ih]
    simp_all [h0,hm,Int.mul_one,ZJ _ _ hp,h,V.int.injEq]
theorem Znu(p q:Int)(hp:0 < p)(hp2:p<=1000)(h0:0<=q)(h1:q < p):Zcn.run [I p,I q,I 1]=.ok (I q,[I p,I q,I 1]):=by
 show Zi C0 3 3 ZbQ [I p,I q,I 1]=_
 rw [runA (show [I p,I q,I 1].length=3 from rfl)]
 unfold ZbQ
 simp only [replicate,reduceSub]
 obtain ⟨a',hc⟩:=ZkZ (fun i=>decide (1<=i)) (fun _ _=>false) 0 rfl p q hp (rngI 0 p.toNat) [] .hole
 rw [nil_append] at hc
 have hall:∀ s∈(rngI 0 p.toNat).filter (fun s=>decide (s % p=q)),s=q:=fun s hs=>by
  rw [mem_filter,ZS] at hs
  obtain ⟨⟨b1,b2⟩,b3⟩:=hs
  rw [decide_eq_true_eq,Int.emod_eq_of_lt b1 (by omega)] at b3
  exact b3
 have hin:q∈(rngI 0 p.toNat).filter (fun s=>decide (s % p=q)):=by
  rw [mem_filter,ZS,decide_eq_true_eq,Int.emod_eq_of_lt h0 h1]
  exact ⟨⟨h0,by omega⟩,rfl⟩
 have hlen:((rngI 0 p.toNat).filter (fun s=>decide (s % p=q))).length<=p.toNat:=by
  have:=List.length_filter_le (fun s=>decide (s % p=q)) (rngI 0 p.toNat)
  rwa [ZY] at this
 generalize (rngI 0 p.toNat).filter (fun s=>decide (s % p=q))=L at hc hall hin hlen
 cases L with
 | nil=>simp at hin
 | cons s L=>
  obtain rfl:=hall s mem_cons_self
  replace hc:Z9 (fun _ _=>false) 0 1 (.name 0) [.cmp .Eq (.bin .Mod (.bin .Mult (.v 0) (.v 3)) (.v 2)) (.v 1)] (.v 0) (dI (rngI 0 p.toNat)) [] [.hole,I s,I p,I 1]=_:=hc
  have hm:ZR 1 [1,0,2] (Z9 (fun _ _=>false) 0 1 (.name 0) [.cmp .Eq (.bin .Mod (.bin .Mult (.v 0) (.v 3)) (.v 2)) (.v 1)] (.v 0) (dI (rngI 0 p.toNat)) []) [I p,I s,I 1]=.ok (Ls true (s::L),[I p,I s,I 1]):=by
   rw [ZG (js:=[1,0,2]) (caps:=[I s,I p,I 1]) (δ1:=[.hole,.hole,.hole]) rfl hc (by rw [Z0,szl];omega)]
   rfl
  have hr:=Zb1 p (by omega)
  have hi:=ixI (s::L) 0 (by decide) (by rw [length_cons];omega)
  have hg:(s::L).getD (0:Int).toNat 0=s:=rfl
  rw [hg] at hi
  generalize s::L=M at hm hi
  simp_all [hr,hm,hi]
  rfl
noncomputable def lst2(p:Int)(xs:List Int):Int:=(((xs.length:Int)+1) * xs.sum - (wts 1 xs).sum) % p
noncomputable def lab(p:Int)(xs:List Int):List Int:=xs++[other p xs (lst2 p xs),lst2 p xs]
def ZsN(xs:List Int):(xs++[0,0]).sum=xs.sum:=by simp
def ZsO(xs:List Int):(wts 1 (xs++[0,0])).sum=(wts 1 xs).sum:=by rw [ZhE];simp [wts]
def Znv(p:Int)(xs:List Int)(_o:Bool)(hp:0 < p)(hp2:p<=1000)(hl:xs.length<=500):Zas.run [I p,Ls true (xs++[0,0]),I xs.length,I ((xs.length:Int)+1)]=.ok (Ls true (lab p xs),[I p,Ls true (xs++[0,0]),I xs.length,I ((xs.length:Int)+1)]):=by
 rw [show Zas.run=Zi C0 4 7 Za8 from rfl]
 rw [runA (show [I p,Ls true (xs++[0,0]),I xs.length,I ((xs.length:Int)+1)].length=4 from rfl)]
 unfold Za8
 simp only [replicate,reduceSub]
 have hlen:(xs++[(0:Int),0]).length<=1000:=by rw [List.length_append];show xs.length+2<=_;omega
 have l1:ZaA.lend=true:=rfl
 have l2:Za2.lend=true:=rfl
 have l3:Zcn.lend=true:=rfl
 have r1:=fun o=>ZdV p (xs++[0,0]) o hp
 have r2:=fun o=>Zew p (xs++[0,0]) o hp hlen
 have r4:=fun o=>ZdV p (xs++[0,lst2 p xs]) o hp
 rw [ZsN] at r1
 rw [ZsO] at r2
 have hq:(((xs.length:Int)+1) * (xs.sum % p) - (wts 1 xs).sum % p) % p=lst2 p xs:=by
  unfold lst2
  rw [sub_emod,Int.mul_emod,Int.emod_emod,Int.emod_emod,<- Int.mul_emod,<- sub_emod]
 have r3:=Znu p (lst2 p xs) hp hp2 (emod_nonneg _ (by omega)) (emod_lt_of_pos _ hp)
 have hd:(xs.length:Int)+1 - xs.length=1:=by omega
 have ho:-((xs++[0,lst2 p xs]).sum % p) % p=other p xs (lst2 p xs):=by
  unfold other
  rw [<- Int.zero_sub,sub_emod,Int.emod_emod,<- sub_emod]
  congr 1
  simp only [sum_append,sum_cons,List.sum_nil]
  omega
 have hm:∀ u:Int,binW .Mult (.sc (.int ((xs.length:Int)+1))) (.sc (.int u))=some (.sc (.int (((xs.length:Int)+1) * u))):=fun u=>ZcI _ _ (.inl (by omega))
 have hi1:ixN' (dI (xs++[(0:Int),0])).length ((xs.length:Int)+1)=some (xs.length+1):=by
  have:=Zdl (dI (xs++[(0:Int),0])).length (xs.length+1) (by rw [Z0,List.length_append];show xs.length+1 < xs.length+2;omega)
  rwa [show ((xs.length+1:Nat):Int)=(xs.length:Int)+1 by omega] at this
 have hi2:ixN' (dI (xs++[0,lst2 p xs])).length (xs.length:Int)=some xs.length:=Zdl _ _ (by rw [Z0,List.length_append];show xs.length < xs.length+2;omega)
 have s1:∀(δ:List D)(v:Int),mdR 6 δ (Zbm (.sc (.int ((xs.length:Int)+1))) (.sc (.int v))) (some (.node .lst true (dI (xs++[0,0]))))=.ok (.sc .non,δ.set 6 (Ls true (xs++[0,v]))):=fun δ v=>by
  rw [Zdk 6 δ _ _ _ _ hi1]
  have:(dI (xs++[0,0])).set (xs.length+1) (.sc (.int v))=dI (xs++[0,v]):=by
   rw [Zac,List.set_append_right _ _ (by rw [Z0];omega),Z0,Zac,show xs.length+1 - xs.length=1 by omega]
   rfl
  rw [this]
 have s2:∀(δ:List D)(v:Int),mdR 6 δ (Zbm (.sc (.int (xs.length:Int))) (.sc (.int v))) (some (.node .lst true (dI (xs++[0,lst2 p xs]))))=.ok (.sc .non,δ.set 6 (Ls true (xs++[v,lst2 p xs]))):=fun δ v=>by
  rw [Zdk 6 δ _ _ _ _ hi2]
  have:(dI (xs++[0,lst2 p xs])).set xs.length (.sc (.int v))=dI (xs++[v,lst2 p xs]):=by
   rw [Zac,List.set_append_right _ _ (by rw [Z0];omega),Z0,Zac,show xs.length - xs.length=0 by omega]
   rfl
  rw [this]
 (simp_all [Zk,l1,l2,l3,r1,r2,r3,r4,hm,ZJ _ _ hp,hq,hd,ho,s1,s2])<;>rfl
def ZgJ(p:Int)(xs:List Int)(_o:Bool)(hp:0 < p)(hp2:p<=1000)(hl:(xs.length:Int)<=p - 2)(hl2:xs.length<=500)(hx:∀ x∈xs,0<=x/\x < p):Zb4.run [I p,Ls true xs]=.ok (Ls true (lab p xs),[I p,Ls true xs]):=by
 rw [show Zb4.run=Zi C0 2 3 ZbR from rfl]
 rw [runA (show [I p,Ls true xs].length=2 from rfl)]
 unfold ZbR
 simp only [replicate,reduceSub]
 have l1:ZaQ.lend=true:=rfl
 have l2:Zas.lend=true:=rfl
 have r1:=fun o=>ZjK p xs o hx
 have r2:=Znv p xs true hp hp2 hl2
 have hz:(2:Nat)<=sizeLine:=by rw [szl];decide
 have hn:∀ u v:D,newL [u,v]=some (.node .lst true [u,v]):=fun u v=>ZI _ (by simpa using hz)
 have hcat:binW .Add (.nd .lst (dI xs)) (.nd .lst [.sc (.int 0),.sc (.int 0)])=some (Ls true (xs++[0,0])):=by
  rw [Zek (dI xs) [.sc (.int 0),.sc (.int 0)] (by rw [List.length_append,Z0,szl];show xs.length+2<=_;omega),Ls,Zac]
  rfl
 have hlt:¬ p - 2 < (xs.length:Int):=by omega
 have hdl:=Z0 xs
 (simp_all [Zk,l1,l2,r1,r2,hn,hcat,hdl,hlt])<;>rfl
def Znw(p:Int)(hp:0 < p)(xs:List Int)(hx:∀ x∈xs,0<=x/\x < p):∀ y∈lab p xs,0<=y/\y < p:=fun y hy=>by
 rcases List.mem_append.mp hy with h|h
 . exact hx y h
 . simp only [mem_cons,not_mem_nil,or_false] at h
   rcases h with rfl|rfl
   . exact ⟨emod_nonneg _ (by omega),emod_lt_of_pos _ hp⟩
   . exact ⟨emod_nonneg _ (by omega),emod_lt_of_pos _ hp⟩
def ZhG(p:Int)(xs:List Int):(lab p xs).length=xs.length+2:=by unfold lab;rw [List.length_append];rfl
def ZlT(xs ys:List Int):Za3 .NotEq (.nd .lst (dI xs)) (.nd .lst (dI ys))=some (!decide (xs=ys)):=by
 have h2:eqW (.nd .lst (dI xs)) (.nd .lst (dI ys))=some (decide (xs=ys)):=Zs0 xs ys
 show (eqW (.nd .lst (dI xs)) (.nd .lst (dI ys))).map (!·)=_
 rw [h2]
 rfl
def Zla{zs:List Int}(hl:ys.length=zs.length)(h:∀ k,k < ys.length->ys.getD k 0=zs.getD k 0):ys=zs:=by
 apply List.ext_getElem hl
 intro k h1 h2
 have:=h k h1
 rwa [getD_eq_getElem?_getD,getD_eq_getElem?_getD,List.getElem?_eq_getElem h1,List.getElem?_eq_getElem h2] at this
noncomputable abbrev PR:List Int:=[5,7,11,13,17,19,23,29,31,37,41,43,47]
noncomputable abbrev fs2:List Str:=["size","room"]
noncomputable abbrev Ro(C:Addr)(o:Bool)(p r:Int):D:=.node (.ins C fs2) o [I p,I r]
def ZlU(C:Addr)(f:Str)(h:f∈fs2):(CK C).fok C f=true:=by
 show (decide (C=C) && _)=true
 simp only [decide_true,Bool.true_and,or_eq_true,beq_iff_eq]
 simp only [mem_cons,not_mem_nil,or_false] at h
 rcases h with rfl|rfl
 . exact .inl rfl
 . exact .inr rfl
def ZlV(C:Addr)(f:Str)(fs:List Str)(ds:List D)(x:D)(hf:f∈fs2)(hl:ZcF f fs ds=some x):fldW (CK C).fok f (.nd (.ins C fs) ds)=some x:=by
 show (if (CK C).fok C f=true then ZcF f fs ds else none)=_
 rw [if_pos (ZlU C f hf),hl]
def Zge(C:Addr)(a b:D):fldW (CK C).fok "size" (.nd (.ins C fs2) [a,b])=some a:=ZlV C _ _ _ _ (by decide) rfl
def ZiB(C:Addr)(a b:D):fldW (CK C).fok "room" (.nd (.ins C fs2) [a,b])=some b:=ZlV C _ _ _ _ (by decide) rfl
def ZjL(C:Addr)(i:Nat)(δ:List D)(f:Str)(hf:f∈fs2)(d:D)(fs:List Str)(ds:List D)(hl:fs.length < 1000):mdR i δ (putD (CK C).fok f d) (some (.node (.ins C fs) true ds))=.ok (.sc .non,δ.set i (.node (.ins C (putN f fs)) true (putV f d fs ds))):=by
 have e:putD (CK C).fok f d (.ins C fs) ds=some (.sc .non,.ins C (putN f fs),putV f d fs ds):=by
  show (if fs.length < 1000/\(CK C).fok C f=true then some (D.sc .non,Kd.ins C (putN f fs),T.putV f d fs ds) else none)=_
  rw [if_pos ⟨hl,ZlU C f hf⟩]
 show (match putD (CK C).fok f d (.ins C fs) ds with|some (r,k',ds')=>Rs.ok (r,δ.set i (.node k' true ds'))|none=>.stuck)=_
 rw [e]
def Zhg(p r:Int)(hp:p∈PR)(h1:1<=r)(h2:r<=p - 5):ZcM.run [I p,I r]=.ok (.sc (.bl true),[I p,I r]):=by
 show Zi C0 2 2 Zco [I p,I r]=_
 rw [runA (show [I p,I r].length=2 from rfl)]
 unfold Zco
 simp only [replicate,reduceSub]
 have l1:ZaJ.lend=true:=rfl
 have w1:=ZdW p
 have w2:=ZdW r
 have hn:Za3 .NotIn (.sc (.int p)) (.nd .ftp ((PR.map V.int).map D.sc))=some false:=by
  show some (!decide (p∈PR))=some false
  rw [decide_eq_true hp]
  rfl
 have hsh:shrL ((PR.map V.int).map D.sc)=(PR.map V.int).map D.sc:=rfl
 generalize (PR.map V.int).map D.sc=pr at hn hsh
 (simp_all [l1,w1,w2,hn,hsh,Zf0,h1,h2])<;>rfl
def Zlb(C:Addr)(p r:Int)(hp:p∈PR)(h1:1<=r)(h2:r<=p - 5):(Za9 C).run [.node (.ins C []) true [],I p,I r]=.ok (.sc .non,[Ro C true p r,I p,I r]):=by
 rw [show (Za9 C).run=Zi (CK C) 3 3 (ZaL C) from rfl]
 rw [runA (show [D.node (.ins C []) true [],I p,I r].length=3 from rfl)]
 unfold ZaL
 simp only [replicate,reduceSub]
 have l1:ZcM.lend=true:=rfl
 have r1:=Zhg p r hp h1 h2
 have p1:=fun(δ:List D)(d:D)=>ZjL C 0 δ "size" (by decide) d [] [] (by decide)
 have p2:=fun(δ:List D)(a d:D)=>ZjL C 0 δ "room" (by decide) d ["size"] [a] (by decide)
 have e1:putN "size" []=([Str.ofString "size"]:List Str):=rfl
 have e2:putN "room" ["size"]=fs2:=by decide
 have e3:∀ d:D,putV "size" d [] []=[d]:=fun d=>rfl
 have e4:∀ a d:D,putV "room" d ["size"] [a]=[a,d]:=fun a d=>rfl
 (simp_all [l1,r1,p1,p2,e1,e2,e3,e4])<;>rfl
def new2{A:Addr}{fi:FI}{j:Nat}{r:Int}{x:D}(hi:δ[i]?=some (I p))(hj:δ[j]?=some (I r))(h:fi.run [.node (.ins A []) true [],I p,I r]=.ok (.sc .non,[x,I p,I r])):newF A fi [.late i,.late j] δ=.ok (x,δ):=by
 have t1:takeA fi.lend (.late i) δ=.ok (I p,δ):=by unfold takeA;dsimp only;rw [hi]
 have t2:takeA fi.lend (.late j) δ=.ok (I r,δ):=by unfold takeA;dsimp only;rw [hj]
 have t:Zar fi.lend [.late i,.late j] δ=.ok ([I p,I r],δ):=by
  show ((takeA fi.lend (.late i)).bnd fun d=>((takeA fi.lend (.late j)).bnd fun d=>(M.ret []).bnd fun ds=>M.ret (d::ds)).bnd fun ds=>M.ret (d::ds)) δ=_
  rw [ZaE t1,ZaE (ZaE t2)]
  rfl
 have g1:ZaB (.late i) (I p) δ=.ok ((),δ):=by unfold ZaB;dsimp only;rw [hi]
 have g2:ZaB (.late j) (I r) δ=.ok ((),δ):=by unfold ZaB;dsimp only;rw [hj]
 unfold newF
 rw [ZaE t,h]
 show (((ZaB (.late i) (I p)).bnd fun _=>(ZaB (.late j) (I r)).bnd fun _=>M.ret ()).bnd fun _=>M.ret x) δ=_
 rw [ZaE (show ((ZaB (.late i) (I p)).bnd fun _=>(ZaB (.late j) (I r)).bnd fun _=>M.ret ()) δ=.ok ((),δ) by rw [ZaE g1,ZaE g2];rfl)]
 rfl
noncomputable abbrev dL(o:Bool)(ls:List (List Int)):List D:=ls.map (Ls o)
theorem Zx(o:Bool)(ls:List (List Int)):shrL (dL o ls)=dL false ls:=by
 induction ls with
 | nil=>rfl
 | cons l ls ih=>
  show shr (Ls o l)::shrL (dL o ls)=_
  rw [ih]
  show D.node .lst false (shrL (dI l))::_=_
  rw [Zk]
  rfl
def Zbt(o:Bool)(l:List Int)(ls:List (List Int)):dL o (l::ls)=Ls o l::dL o ls:=(rfl)
def Zb8(o:Bool)(l m:List (List Int)):dL o (l++m)=dL o l++dL o m:=map_append
def ZZ(o:Bool)(l:List (List Int)):(dL o l).length=l.length:=length_map _
def ZbT(C:Addr)(m:Str)(i:Nat)(δ:List D)(fs:List Str)(o:Bool)(ds:List D)(h:δ[i]?=some (.node (.ins C fs) o ds))(hm:m∉fs):chkI C m (.late i) δ=.ok ((),δ):=by
 unfold chkI
 dsimp only
 rw [h]
 exact if_pos ⟨rfl,hm⟩
def ZsP(n:Int)(h1:-100<=n)(h2:n<=100):binW .Mult (.nd .lst [.sc (.int 0)]) (.sc (.int n))=some (Ls true (replicate n.toNat 0)):=by
 show (if _ then _ else _)=_
 rw [if_pos (by rw [szl];show -(2 ^ 63)<=n/\n < 2 ^ 63/\1 * n.toNat<=16777216;omega)]
 show some (D.node .lst true ((replicate n.toNat [(0:Int)]).flatten.map fun i=>D.sc (.int i)))=_
 rw [List.flatten_replicate_singleton]
theorem ZgK(h0:lk 0=false)(q:Int)(hq:0<=q):∀(ls:List (List Int))(acc:List Int)(a:D),(∀ l∈ls,q < (l.length:Int))->∃ a',
 ZH (asgT lk (.name 0)) (tsts ⟨lk,fok,fuel⟩ []) (evb ⟨lk,fok,fuel⟩ (.ix (.v 0) (.v 1))).1 (dL false ls) (dI acc) [a,I q]=.ok (dI (acc++ls.map fun l=>l.getD q.toNat 0),[a',I q]):=by
 intro ls
 induction ls with
 | nil=>exact fun acc a _=>⟨a,by rw [map_nil,append_nil];rfl⟩
 | cons l ls ih=>
  intro acc a hl
  obtain ⟨a',ih⟩:=ih (acc++[l.getD q.toNat 0]) (Ls false l) fun x hx=>hl x (mem_cons_of_mem _ hx)
  refine ⟨a',?_⟩
  rw [map_cons,show acc++(l.getD q.toNat 0::ls.map fun l=>l.getD q.toNat 0)=acc++[l.getD q.toNat 0]++ls.map (fun l=>l.getD q.toNat 0) by rw [List.append_assoc];rfl,<- ih,Zbt,Zax,Zac]
  have ix:=ixI l q hq (hl l mem_cons_self)
  simp_all [h0,ix]
noncomputable def col(p:Int)(ls:List (List Int))(q:Int):Int:=-((ls.map fun l=>l.getD q.toNat 0).sum) % p
theorem Zlc(C:Addr)(lk:Nat->Bool)(h4:lk 4=false)(h5:lk 5=false)(p r:Int)(hp:0 < p)(x1 x2:Int)(ls:List (List Int))(hls:ls.length<=1000):∀(qs:List Int)(row:List Int)(a:D),row.length+qs.length<=1000->(∀ q∈qs,0<=q/\∀ l∈ls,q < (l.length:Int))->∃ a',
 forL (asgT lk (.name 5)) (exs ⟨lk,(CK C).fok,(CK C).fuel⟩ [.ex (.mut .append 4 [] [.bin .Mod (.neg (.bor (.bf .sum [.comp 1 [5] (.name 0) .val [.v 3] [] (.ix (.v 0) (.v 1))]))) (.fld (.v 0) "size")])]) (dI qs) [Ro C true p r,I x1,I x2,.node .lst true (dL false ls),Ls true row,a]
  = .ok (.nx,[Ro C true p r,I x1,I x2,.node .lst true (dL false ls),Ls true (row++qs.map (col p ls)),a']):=by
 intro qs
 induction qs with
 | nil=>exact fun row a _ _=>⟨a,by rw [map_nil,append_nil];rfl⟩
 | cons q qs ih=>
  intro row a hl hq
  rw [length_cons] at hl
  obtain ⟨a',ih⟩:=ih (row++[col p ls q]) (I q) (by rw [List.length_append,length_singleton];omega) fun x hx=>hq x (mem_cons_of_mem _ hx)
  refine ⟨a',?_⟩
  obtain ⟨b',hc⟩:=ZgK (fun i=>decide (1<=i)) (CK C).fok (CK C).fuel rfl q (hq q mem_cons_self).1 ls [] .hole (hq q mem_cons_self).2
  rw [nil_append] at hc
  replace hc:Z9 (CK C).fok (CK C).fuel 1 (.name 0) [] (.ix (.v 0) (.v 1)) (dL false ls) [] [.hole,I q]=_:=hc
  have hm1:∀ x0 x1 x2 x3 x4:D,ZR 1 [5] (Z9 (CK C).fok (CK C).fuel 1 (.name 0) [] (.ix (.v 0) (.v 1)) (dL false ls) []) [x0,x1,x2,x3,x4,I q]=.ok (Ls true (ls.map fun l=>l.getD q.toNat 0),[x0,x1,x2,x3,x4,I q]):=fun x0 x1 x2 x3 x4=>by
   rw [ZG (js:=[5]) (caps:=[I q]) (δ1:=[x0,x1,x2,x3,x4,.hole]) rfl hc (by rw [Z0,length_map,szl];omega)]
   rfl
  have hs:-((ls.map fun l=>l.getD q.toNat 0).sum) % p=col p ls q:=rfl
  have ap:∀ δ:List D,mdR 4 δ (appD (.sc (.int (col p ls q)))) (some (.node .lst true (dI row)))=.ok (.sc .non,δ.set 4 (.node .lst true (dI (row++[col p ls q])))):=fun δ=>by
   rw [ZeZ 4 δ _ _ (by rw [Z0,szl];omega),Zac]
   rfl
  generalize hcs:(ls.map fun l=>l.getD q.toNat 0)=cs at hm1 hs
  have sm:=ZaI cs
  have f1:=Zge C (I p) (I r)
  rw [map_cons,show row++(col p ls q::qs.map (col p ls))=row++[col p ls q]++qs.map (col p ls) by rw [List.append_assoc];rfl,<- ih,ZF,ZaH]
  (simp_all [h4,h5,Zk,Zx,hm1,sm,f1,ZJ _ _ hp,hs,ap])
def Znx(C:Addr)(p r m c:Int)(ls:List (List Int))(hp:7<=p)(hp2:p<=47)(h1:1<=r)(h2:r<=p - 5)(hm:0<=m/\m < p)(hc:0<=c/\c < p)(hn:ls.length<=1000)(hls:∀ l∈ls,r+3<=(l.length:Int)):
 (ZaF C).run [Ro C true p r,I m,I c,.node .lst true (dL false ls)]=.ok (Ls true (lab p ([m,c]++(rngI 2 (r+1).toNat).map (col p ls))),[Ro C true p r,I m,I c,.node .lst true (dL false ls)]):=by
 rw [show (ZaF C).run=Zi (CK C) 4 6 (ZaR C) from rfl]
 rw [runA (show [Ro C true p r,I m,I c,.node .lst true (dL false ls)].length=4 from rfl)]
 unfold ZaR
 simp only [replicate,reduceSub]
 have hrl:(rngI 2 (r+1).toNat).length=(r+1).toNat:=by
  have:∀(n:Nat)(a:Int),(rngI a n).length=n:=fun n=>by
   induction n with
   | zero=>exact fun a=>rfl
   | succ n ih=>exact fun a=>by rw [rngI,length_cons,ih]
  exact this _ _
 have hmem:∀(n:Nat)(a x:Int),x∈rngI a n->a<=x/\x < a+n:=fun n=>by
  induction n with
  | zero=>intro a x h;simp [rngI] at h
  | succ n ih=>
   intro a x h
   rw [rngI] at h
   (rcases List.mem_cons.mp h with rfl|h)
   . omega
   . have:=ih (a+1) x h;omega
 obtain ⟨a',hf⟩:=Zlc C (fun j=>decide (j < 4) || walked [.k (.int 2),.bin .Add (.k (.int 3)) (.fld (.v 0) "room")] j) rfl rfl p r (by omega) m c ls hn (rngI 2 (r+1).toNat) [m,c] .hole (by rw [hrl];show 2+_<=_;omega) (fun q hq=>by
  have:=hmem _ _ _ hq
  exact ⟨by omega,fun l hl=>by have:=hls l hl;omega⟩)
 have hit:itW .rng2 [.sc (.int 2),.sc (.int (3+r))]=some (dI (rngI 2 (r+1).toNat)):=by
  have:=Zs1 2 (3+r) (by omega)
  rwa [show (3+r - 2).toNat=(r+1).toNat by omega] at this
 have hcs:∀ x∈(rngI 2 (r+1).toNat).map (col p ls),0<=x/\x < p:=fun x h=>by
  obtain ⟨q,_,rfl⟩:=List.mem_map.mp h
  exact ⟨emod_nonneg _ (by omega),emod_lt_of_pos _ (by omega)⟩
 have hcl:((rngI 2 (r+1).toNat).map (col p ls)).length=(r+1).toNat:=by rw [length_map,hrl]
 have hlab:=ZgJ p ([m,c]++(rngI 2 (r+1).toNat).map (col p ls)) true (by omega) (by omega) (by rw [List.length_append,hcl];show ((2+(r+1).toNat:Nat):Int)<=_;omega) (by rw [List.length_append,hcl];show 2+(r+1).toNat<=_;omega) (fun x h=>by
  (rcases List.mem_append.mp h with h|h)
  . simp only [mem_cons,not_mem_nil,or_false] at h
    rcases h with rfl|rfl
    . exact hm
    . exact hc
  . exact hcs x h)
 generalize rngI 2 (r+1).toNat=rg at hf hit hlab
 simp only [walked,Bool.or_false,Ls,ZF,ZbY] at hf
 generalize ([m,c]++rg.map (col p ls))=row at hf hlab
 have l1:Zb4.lend=true:=rfl
 have hw2:∀ u v:D,newL [u,v]=some (.node .lst true [u,v]):=fun u v=>ZI _ (by rw [szl];simp)
 have f1:=Zge C (I p) (I r)
 have f2:=ZiB C (I p) (I r)
 (simp_all [Zk,Zx,l1,hw2,f1,f2,hit,hf,hlab])<;>rfl
def ZsQ(ds:List D):bfW .all [.nd .lst ds]=(Zaz ds).map fun bs=>.sc (.bl (bs.all id)):=(rfl)
theorem ZfS:∀ n:Nat,Zaz (replicate n (D.sc (.bl true)))=some (replicate n true)
 | 0=>rfl
 | n+1=>by rw [replicate_succ,Zaz,ZfS n];rfl
def ZhH(n:Nat):bfW .all [.nd .lst (replicate n (D.sc (.bl true)))]=some (.sc (.bl true)):=by
 rw [ZsQ,ZfS]
 simp
def ZsR(i:Int):tyW .list (.sc (.int i))=some false:=(rfl)
def ZpI(n:Nat)(x:Int):Z7 (n+1) [I x,I x]=.ok (.sc (.bl true),[I x,I x]):=by
 rw [show Z7 (n+1)=Zi C0 2 2 (ZaG ⟨true,Z7 n⟩) from rfl]
 rw [runA (show [I x,I x].length=2 from rfl)]
 unfold ZaG
 simp only [replicate,reduceSub]
 have hd:decide (V.int x=V.int x)=true:=decide_eq_true rfl
 (simp_all [ZlR,ZlK,Zi9,ZlP,ZlQ,ZsR,hd])<;>rfl
theorem ZjM(fi:FI)(h1:fi.lend=true)(k0:lk 0=false)(k1:lk 1=false):∀(ds:List D)(n:Nat)(a b:D),(∀ d∈ds,fi.run [d,d]=.ok (.sc (.bl true),[d,d])/\((∃ v,d=.sc v)\/∃ k l,d=.node k false l))->∃ a' b',
 ZH (asgT lk (.tup [0,1])) (tsts ⟨lk,fok,fuel⟩ []) (evb ⟨lk,fok,fuel⟩ (.call fi [.v 0,.v 1])).1 (zipD ds ds) (replicate n (.sc (.bl true))) [a,b]=.ok (replicate (n+ds.length) (.sc (.bl true)),[a',b']):=by
 intro ds
 induction ds with
 | nil=>exact fun n a b _=>⟨a,b,rfl⟩
 | cons d ds ih=>
  intro n a b hd
  obtain ⟨a',b',ih⟩:=ih (n+1) d d fun x hx=>hd x (mem_cons_of_mem _ hx)
  refine ⟨a',b',?_⟩
  obtain ⟨hr,hk⟩:=hd d mem_cons_self
  rw [length_cons,show n+(ds.length+1)=n+1+ds.length by omega,<- ih,zipD,Zax,List.replicate_succ']
  rcases hk with ⟨v,rfl⟩|⟨k,l,rfl⟩
  . simp_all [k0,k1,Zdm,h1,hr]
  . simp_all [k0,k1,Zdm,h1,hr]
def ZjN(n:Nat)(ds:List D)(hl:ds.length<=1000)(hd:∀ d∈ds,Z7 n [d,d]=.ok (.sc (.bl true),[d,d])/\((∃ v,d=.sc v)\/∃ k l,d=.node k false l))(hs:shrL ds=ds):Z7 (n+1) [.node .lst false ds,.node .lst false ds]=.ok (.sc (.bl true),[.node .lst false ds,.node .lst false ds]):=by
 rw [show Z7 (n+1)=Zi C0 2 2 (ZaG ⟨true,Z7 n⟩) from rfl]
 rw [runA (show [D.node .lst false ds,.node .lst false ds].length=2 from rfl)]
 unfold ZaG
 simp only [replicate,reduceSub]
 obtain ⟨a',b',hc⟩:=ZjM (fun i=>decide (2<=i)) (fun _ _=>false) 0 ⟨true,Z7 n⟩ rfl rfl rfl ds 0 .hole .hole hd
 rw [Nat.zero_add] at hc
 replace hc:Z9 (fun _ _=>false) 0 2 (.tup [0,1]) [] (.call ⟨true,Z7 n⟩ [.v 0,.v 1]) (zipD ds ds) [] [.hole,.hole]=_:=hc
 have hm:∀ δ:List D,ZR 2 [] (Z9 (fun _ _=>false) 0 2 (.tup [0,1]) [] (.call ⟨true,Z7 n⟩ [.v 0,.v 1]) (zipD ds ds) []) δ=.ok (.node .lst true (replicate ds.length (.sc (.bl true))),δ):=fun δ=>by
  rw [ZG (js:=[]) (caps:=[]) rfl hc (by rw [length_replicate,szl];omega),Zbh]
  rfl
 have ha:=ZhH ds.length
 generalize replicate ds.length (D.sc (V.bl true))=rp at hm ha
 have hit:itW .zip [.nd .lst ds,.nd .lst ds]=some (zipD ds ds):=by
  show (if (Kd.lst=.lst\/Kd.lst=.frl)/\(Kd.lst=.lst\/Kd.lst=.frl) then some (zipD ds ds) else none)=_
  rw [if_pos ⟨.inl rfl,.inl rfl⟩]
 (simp_all [Zi9,ZlS,hs,hit,hm,ha])<;>rfl
def ZhI(n:Nat)(l:List Int)(hl:l.length<=1000):Z7 (n+2) [Ls false l,Ls false l]=.ok (.sc (.bl true),[Ls false l,Ls false l]):=
 ZjN (n+1) (dI l) (by rw [Z0];exact hl) (fun d hd=>by
  obtain ⟨x,_,rfl⟩:=List.mem_map.mp hd
  exact ⟨ZpI n x,.inl ⟨_,rfl⟩⟩) (Zk l)
def Zld(ls:List (List Int))(hl:ls.length<=1000)(hls:∀ l∈ls,l.length<=1000):Zak.run [.node .lst false (dL false ls),.node .lst false (dL false ls)]=.ok (.sc (.bl true),[.node .lst false (dL false ls),.node .lst false (dL false ls)]):=
 ZjN 2 (dL false ls) (by rw [ZZ];exact hl) (fun d hd=>by
  obtain ⟨l,hm,rfl⟩:=List.mem_map.mp hd
  exact ⟨ZhI 0 l (hls l hm),.inr ⟨_,_,rfl⟩⟩) (Zx _ _)
theorem ZiC(h3:lk 3=false)(h4:lk 4=false)(h5:lk 5=false)(h6:lk 6=false)(h7:lk 7=false)(x0 x1 x2 x8:D):∀(ts:List Int)(one two:Int)(fd:List Int)(a b:D),0<=two->two < 2000000000->fd.length+ts.length<=1000->∃(one' two':Int)(fd':List Int)(a' b':D),fd'.length=fd.length+ts.length/\
 forL (asgT lk (.name 6)) (exs ⟨lk,fok,fuel⟩ [.asg 7 (.bin .Add (.bin .Add (.bin .Add (.bin .Mult (.v 3) (.k (.int 1664525))) (.bin .Mult (.v 4) (.v 4))) (.bin .Mult (.k (.int 97)) (.v 6))) (.k (.int 40503))),.asg 3 (.v 4),.asg 4 (.bin .Mod (.v 7) (.k (.int 1999999973))),.ex (.mut .append 5 [] [.v 4])]) (dI ts) [x0,x1,x2,I one,I two,Ls true fd,a,b,x8]
  = .ok (.nx,[x0,x1,x2,I one',I two',Ls true fd',a',b',x8]):=by
 intro ts
 induction ts with
 | nil=>exact fun one two fd a b _ _ _=>⟨one,two,fd,a,b,rfl,rfl⟩
 | cons t ts ih=>
  intro one two fd a b t0 t1 hl
  rw [length_cons] at hl
  have q0:=emod_nonneg (one * 1664525+two * two+97 * t+40503) (show (1999999973:Int)≠0 by decide)
  have q1:=emod_lt_of_pos (one * 1664525+two * two+97 * t+40503) (show (0:Int) < 1999999973 by decide)
  obtain ⟨one',two',fd',a',b',e,ih⟩:=ih two ((one * 1664525+two * two+97 * t+40503) % 1999999973) (fd++[(one * 1664525+two * two+97 * t+40503) % 1999999973]) (I t) (I (one * 1664525+two * two+97 * t+40503)) q0 (by omega) (by rw [List.length_append,length_singleton];omega)
  refine ⟨one',two',fd',a',b',by rw [e,List.length_append,length_singleton,length_cons];omega,?_⟩
  have m1:binW .Mult (.sc (.int one)) (.sc (.int 1664525))=some (.sc (.int (one * 1664525))):=ZcI _ _ (.inr (by decide))
  have m2:binW .Mult (.sc (.int two)) (.sc (.int two))=some (.sc (.int (two * two))):=ZcI _ _ (.inr (by omega))
  have m3:binW .Mult (.sc (.int 97)) (.sc (.int t))=some (.sc (.int (97 * t))):=ZcI _ _ (.inl (by decide))
  have m4:∀ u:Int,binW .Mod (.sc (.int u)) (.sc (.int 1999999973))=some (.sc (.int (u % 1999999973))):=fun u=>ZJ _ _ (by decide)
  generalize hw:one * 1664525+two * two+97 * t+40503=w at ih
  have ap:∀ δ:List D,mdR 5 δ (appD (.sc (.int (w % 1999999973)))) (some (.node .lst true (dI fd)))=.ok (.sc .non,δ.set 5 (.node .lst true (dI (fd++[w % 1999999973])))):=fun δ=>by
   rw [ZeZ 5 δ _ _ (by rw [Z0,szl];omega),Zac]
   rfl
  rw [<- ih,ZF,ZaH]
  simp_all [h3,h4,h5,h6,h7,m1,m2,m3,m4,hw,ap]
theorem Zle(h2:lk 2=false)(h5:lk 5=false)(h8:lk 8=false)(x0 x1 x3 x4 x6 x7:D):∀(n j:Nat)(rest:Int)(fd:List Int)(a:D),j+n<=fd.length->∃(rest':Int)(fd':List Int)(a':D),fd'.length=fd.length/\
 forL (asgT lk (.name 8)) (exs ⟨lk,fok,fuel⟩ [.iff (.cmp .Gt (.v 2) (.k (.int 0))) [.sub 5 [] (.v 8) (.bin .Mod (.v 2) (.k (.int 1999999973))),.asg 2 (.bin .FloorDiv (.v 2) (.k (.int 1999999973)))] []]) (dI (rngI j n)) [x0,x1,I rest,x3,x4,Ls true fd,x6,x7,a]
  = .ok (.nx,[x0,x1,I rest',x3,x4,Ls true fd',x6,x7,a']):=by
 intro n
 induction n with
 | zero=>exact fun j rest fd a _=>⟨rest,fd,a,rfl,rfl⟩
 | succ n ih=>
  intro j rest fd a hj
  have ej:((j+1:Nat):Int)=(j:Int)+1:=by omega
  by_cases hr:0 < rest
  . obtain ⟨rest',fd',a',e,ih⟩:=ih (j+1) (rest / 1999999973) (fd.set j (rest % 1999999973)) (I j) (by rw [length_set];omega)
    refine ⟨rest',fd',a',by rw [e,length_set],?_⟩
    have m4:∀ u:Int,binW .Mod (.sc (.int u)) (.sc (.int 1999999973))=some (.sc (.int (u % 1999999973))):=fun u=>ZJ _ _ (by decide)
    have m5:∀ u:Int,binW .FloorDiv (.sc (.int u)) (.sc (.int 1999999973))=some (.sc (.int (u / 1999999973))):=fun u=>Zi2 _ _ (by decide)
    have st:∀(δ:List D)(v:Int),mdR 5 δ (Zbm (.sc (.int (j:Int))) (.sc (.int v))) (some (.node .lst true (dI fd)))=.ok (.sc .non,δ.set 5 (.node .lst true (dI (fd.set j v)))):=fun δ v=>by
     rw [Zdk 5 δ _ (dI fd) (j:Int) j (Zdl _ _ (by rw [Z0];omega))]
     congr 4
     exact List.map_set.symm
    rw [ej] at ih
    rw [<- ih,rngI,ZF,ZaH]
    simp_all [h2,h5,h8,hr,m4,m5,st]
  . obtain ⟨rest',fd',a',e,ih⟩:=ih (j+1) rest fd (I j) (by omega)
    refine ⟨rest',fd',a',e,?_⟩
    rw [ej] at ih
    rw [<- ih,rngI,ZF,ZaH]
    simp_all [h2,h5,h8,hr]
def Zcp(c:Int)(m:Nat)(hm:m<=100):∃ ys:List Int,ys.length=m/\Z4.run [I c,I m]=.ok (Ls true ys,[I c,I m]):=by
 have d1:∀ u:Int,binW .FloorDiv (.sc (.int u)) (.sc (.int 2))=some (.sc (.int (u / 2))):=fun u=>Zi2 _ _ (by decide)
 have d2:∀ u:Int,binW .Mod (.sc (.int u)) (.sc (.int 1999999973))=some (.sc (.int (u % 1999999973))):=fun u=>ZJ _ _ (by decide)
 have d3:∀ u:Int,binW .FloorDiv (.sc (.int u)) (.sc (.int 1999999973))=some (.sc (.int (u / 1999999973))):=fun u=>Zi2 _ _ (by decide)
 have d4:∀ u:Int,binW .Mod (.sc (.int u)) (.sc (.int 1999999943))=some (.sc (.int (u % 1999999943))):=fun u=>ZJ _ _ (by decide)
 have d5:∀ u:Int,binW .Mod (.sc (.int u)) (.sc (.int 2))=some (.sc (.int (u % 2))):=fun u=>ZJ _ _ (by decide)
 have q0:=emod_nonneg (c / 2 / 1999999973) (show (1999999943:Int)≠0 by decide)
 have q1:=emod_lt_of_pos (c / 2 / 1999999973) (show (0:Int) < 1999999943 by decide)
 obtain ⟨one,two,fd,a,b,e1,hf⟩:=ZiC (fun j=>decide (j < 2) || walked [.bin .Add (.v 1) (.k (.int 2))] j) (fun _ _=>false) 0 rfl rfl rfl rfl rfl (I c) (I m) (I (c / 2)) .hole (rngI 0 (m+2)) (c / 2 % 1999999973) (c / 2 / 1999999973 % 1999999943) [] .hole .hole q0 (by omega) (by rw [ZY,length_nil];omega)
 rw [ZY,length_nil,Nat.zero_add] at e1
 simp only [walked,Bool.or_false,Ls,ZbY] at hf
 have hit:itW .rng1 [.sc (.int ((m:Int)+2))]=some (dI (rngI 0 (m+2))):=by
  have:=Zb1 ((m:Int)+2) (by omega)
  rwa [show ((m:Int)+2).toNat=m+2 by omega] at this
 have hit2:itW .rng1 [.sc (.int (m:Int))]=some (dI (rngI 0 m)):=by
  have:=Zb1 (m:Int) (by omega)
  rwa [toNat_natCast] at this
 have hcc:cutI fd (some 2) none=fd.drop 2:=by
  have e2:=HT.Zho fd.length 0 2
  rw [show ((2:Nat):Int)=2 from rfl] at e2
  have e3:HT.sIx fd.length fd.length none=fd.length:=rfl
  unfold cutI
  rw [e2,e3,Nat.min_eq_left (by omega)]
  exact List.take_of_length_le (by rw [length_drop];omega)
 have hc:cutD (dI fd) (some 2) none=dI (fd.drop 2):=by rw [ZbJ,hcc]
 have hdl:(fd.drop 2).length=m:=by rw [length_drop];omega
 generalize fd.drop 2=gd at hc hdl
 obtain ⟨rest,hd,a8,e3,hg⟩:=Zle (fun j=>decide (j < 2) || walked [.v 1] j) (fun _ _=>false) 0 rfl rfl rfl (I c) (I m) (I one) (I two) a b m 0 (c / 2) gd .hole (by omega)
 rw [show ((0:Nat):Int)=0 from rfl] at hg
 simp only [walked,Bool.or_false] at hg
 have hn0:newL []=some (.node .lst true []):=ZI _ (by simp)
 by_cases h2:c % 2=0
 . refine ⟨gd,hdl,?_⟩
   rw [show Z4.run=Zi C0 2 9 Zaw from rfl]
   rw [runA (show [I c,I m].length=2 from rfl)]
   unfold Zaw
   simp only [replicate,reduceSub]
   (simp_all [d1,d2,d3,d4,d5,hn0,hit,hf,hc,Zk,h2,V.int.injEq])<;>rfl
 . refine ⟨hd,by omega,?_⟩
   rw [show Z4.run=Zi C0 2 9 Zaw from rfl]
   rw [runA (show [I c,I m].length=2 from rfl)]
   unfold Zaw
   simp only [replicate,reduceSub]
   (simp_all [d1,d2,d3,d4,d5,hn0,hit,hit2,hf,hc,hg,Zk,h2,V.int.injEq])<;>rfl
def Zlf(ns:List Int):∃ c:Int,Z6.run [scr ns,I 0]=.ok (I c,[scr ns,I 0]):=by
 rw [show Z6.run=Zi C0 2 2 Zb6 from rfl]
 rw [runA (show [scr ns,I 0].length=2 from rfl)]
 unfold Zb6
 simp only [replicate,reduceSub]
 have hc:cutD (ns.map fun i=>D.sc (.int i)) (some 0) (some (0+1))=dI (cutI ns (some 0) (some (0+1))):=ZbJ ns _ _
 generalize cutI ns (some 0) (some (0+1))=cs at hc
 have sm:=ZaI cs
 refine ⟨cs.sum,?_⟩
 (simp_all [hc,sm,scr])<;>rfl
def ZpJ(r:Int)(h0:0<=r)(h1:r < 12):∃ p:Int,p∈PR/\7<=p/\p<=47/\((ixN' 12 r).bind fun j=>[D.sc (.int 7),D.sc (.int 11),D.sc (.int 13),D.sc (.int 17),D.sc (.int 19),D.sc (.int 23),D.sc (.int 29),D.sc (.int 31),D.sc (.int 37),D.sc (.int 41),D.sc (.int 43),D.sc (.int 47)][j]?)=some (.sc (.int p)):=by
 have hb:∀ k:Nat,k < 12->([7,11,13,17,19,23,29,31,37,41,43,47]:List Int).getD k 0∈PR/\7<=([7,11,13,17,19,23,29,31,37,41,43,47]:List Int).getD k 0/\([7,11,13,17,19,23,29,31,37,41,43,47]:List Int).getD k 0<=47:=by decide
 obtain ⟨b1,b2,b3⟩:=hb r.toNat (by omega)
 exact ⟨_,b1,b2,b3,ixI [7,11,13,17,19,23,29,31,37,41,43,47] r h0 (by simpa using h1)⟩
def ZsS(p a b c d r:Int)(h0:0<=r)(h1:r < 4)(ha:1<=a/\a<=p)(hb:1<=b/\b<=p)(hc:1<=c/\c<=p)(hd:1<=d/\d<=p):∃ x:Int,1<=x/\x<=p/\((ixN' 4 r).bind fun j=>[D.sc (.int a),D.sc (.int b),D.sc (.int c),D.sc (.int d)][j]?)=some (.sc (.int x)):=by
 have e:=ixI [a,b,c,d] r h0 (by simpa using h1)
 have:r.toNat=0\/r.toNat=1\/r.toNat=2\/r.toNat=3:=by omega
 rcases this with h|h|h|h<;>rw [h] at e
 . exact ⟨a,ha.1,ha.2,e⟩
 . exact ⟨b,hb.1,hb.2,e⟩
 . exact ⟨c,hc.1,hc.2,e⟩
 . exact ⟨d,hd.1,hd.2,e⟩
def Zlg(ns:List Int):∃ p r:Int,p∈PR/\7<=p/\p<=47/\1<=r/\r<=p - 5/\Zbj.run [scr ns]=.ok (.node .tup true [I p,I r],[scr ns]):=by
 obtain ⟨c,hc⟩:=Zlf ns
 obtain ⟨ys,hy,hs⟩:=Zcp c 3 (by decide)
 have i0:=ixI ys 0 (by decide) (by omega)
 have i1:=ixI ys 1 (by decide) (by omega)
 have i2:=ixI ys 2 (by decide) (by omega)
 generalize ys.getD (0:Int).toNat 0=y0 at i0
 generalize ys.getD (1:Int).toNat 0=y1 at i1
 generalize ys.getD (2:Int).toNat 0=y2 at i2
 obtain ⟨p,p1,p2,p3,hp⟩:=ZpJ (y0 % 12) (emod_nonneg _ (by decide)) (emod_lt_of_pos _ (by decide))
 have m0:∀ u:Int,0<=u % (p - 5)/\u % (p - 5) < p - 5:=fun u=>⟨emod_nonneg _ (by omega),emod_lt_of_pos _ (by omega)⟩
 obtain ⟨r,r1,r2,hr⟩:=ZsS (p - 5) (1+y1 % (p - 5)) 1 (p - 5) (1+y1 % 4 % (p - 5)) (y2 % 4) (emod_nonneg _ (by decide)) (emod_lt_of_pos _ (by decide)) (by have:=m0 y1;omega) (by omega) (by omega) (by have:=m0 (y1 % 4);omega)
 refine ⟨p,r,p1,p2,p3,r1,r2,?_⟩
 rw [show Zbj.run=Zi C0 1 3 Zb7 from rfl]
 rw [runA (show [scr ns].length=1 from rfl)]
 unfold Zb7
 simp only [replicate,reduceSub]
 have k1:Z6.lend=true:=rfl
 have k2:Z4.lend=true:=rfl
 have e12:∀ u:Int,binW .Mod (.sc (.int u)) (.sc (.int 12))=some (.sc (.int (u % 12))):=fun u=>ZJ _ _ (by decide)
 have e4:∀ u:Int,binW .Mod (.sc (.int u)) (.sc (.int 4))=some (.sc (.int (u % 4))):=fun u=>ZJ _ _ (by decide)
 have e5:∀ u:Int,binW .Mod (.sc (.int u)) (.sc (.int (p - 5)))=some (.sc (.int (u % (p - 5)))):=fun u=>ZJ _ _ (by omega)
 have hw4:∀ u v w y:D,newL [u,v,w,y]=some (.node .lst true [u,v,w,y]):=fun u v w y=>ZI _ (by rw [szl];simp)
 have hw12:newL [D.sc (.int 7),D.sc (.int 11),D.sc (.int 13),D.sc (.int 17),D.sc (.int 19),D.sc (.int 23),D.sc (.int 29),D.sc (.int 31),D.sc (.int 37),D.sc (.int 41),D.sc (.int 43),D.sc (.int 47)]=some (.node .lst true [D.sc (.int 7),D.sc (.int 11),D.sc (.int 13),D.sc (.int 17),D.sc (.int 19),D.sc (.int 23),D.sc (.int 29),D.sc (.int 31),D.sc (.int 37),D.sc (.int 41),D.sc (.int 43),D.sc (.int 47)]):=ZI _ (by rw [szl];simp)
 have hw2:∀ u v:D,newT [u,v]=some (.node .tup true [u,v]):=fun u v=>Zdj _ (by rw [szl];simp)
 have e3:((3:Nat):Int)=3:=rfl
 rw [e3] at hs
 simp only [scr] at hc ⊢
 (simp_all [k1,k2,hc,hs,i0,i1,i2,e12,e4,e5,hw4,hw12,hw2,hp,hr,Zk])<;>rfl
theorem Zlh(h0:lk 0=false)(p:Int)(hp:0 < p):∀(xs acc:List Int)(a:D),∃ a',
 ZH (asgT lk (.name 0)) (tsts ⟨lk,fok,fuel⟩ []) (evb ⟨lk,fok,fuel⟩ (.bin .Mod (.v 0) (.v 1))).1 (dI xs) (dI acc) [a,I p]=.ok (dI (acc++xs.map (· % p)),[a',I p]):=by
 intro xs
 induction xs with
 | nil=>exact fun acc a=>⟨a,by rw [map_nil,append_nil];rfl⟩
 | cons x xs ih=>
  intro acc a
  obtain ⟨a',ih⟩:=ih (acc++[x % p]) (I x)
  refine ⟨a',?_⟩
  rw [map_cons,show acc++(x % p::xs.map (· % p))=acc++[x % p]++xs.map (· % p) by rw [List.append_assoc];rfl,<- ih,ZF,Zax,Zac]
  simp_all [h0,ZJ _ _ hp]
theorem Zny(h0:lk 0=false)(xs:List Int)(hl:xs.length<=1000):∀(n j:Nat)(acc:List Int)(a:D),j+n=xs.length->∃ a',
 ZH (asgT lk (.name 0)) (tsts ⟨lk,fok,fuel⟩ []) (evb ⟨lk,fok,fuel⟩ (.bin .Mult (.bin .Add (.v 0) (.k (.int 1))) (.ix (.v 1) (.v 0)))).1 (dI (rngI j n)) (dI acc) [a,Ls true xs]=.ok (dI (acc++wts ((j:Int)+1) (xs.drop j)),[a',Ls true xs]):=by
 intro n
 induction n with
 | zero=>exact fun j acc a hj=>⟨a,by rw [drop_of_length_le (by omega),show wts ((j:Int)+1) []=[] from rfl,append_nil];rfl⟩
 | succ n ih=>
  intro j acc a hj
  have hd:xs.drop j=xs.getD j 0::xs.drop (j+1):=by
   rw [drop_eq_getElem_cons (by omega),getD_eq_getElem?_getD,List.getElem?_eq_getElem (by omega)]
   rfl
  obtain ⟨a',ih⟩:=ih (j+1) (acc++[((j:Int)+1) * xs.getD j 0]) (I j) (by omega)
  refine ⟨a',?_⟩
  have ej:((j+1:Nat):Int)=(j:Int)+1:=by omega
  rw [ej] at ih
  rw [hd,wts,show acc++(((j:Int)+1) * xs.getD j 0::wts ((j:Int)+1+1) (xs.drop (j+1)))=acc++[((j:Int)+1) * xs.getD j 0]++wts ((j:Int)+1+1) (xs.drop (j+1)) by rw [List.append_assoc];rfl,<- ih,rngI,ZF,Zax,Zac]
  have ix:=ixI xs (j:Int) (by omega) (by omega)
  rw [toNat_natCast] at ix
  have hm:∀ u:Int,binW .Mult (.sc (.int ((j:Int)+1))) (.sc (.int u))=some (.sc (.int (((j:Int)+1) * u))):=fun u=>ZcI _ _ (.inl (by omega))
  simp_all [h0,Zk,ix,hm]
def Zli(p:Int)(xs:List Int)(hp:0 < p)(hl:xs.length<=900):ZQ.run [I p,Ls true xs]=.ok (Ls true (lab p xs),[I p,Ls true xs]):=by
 rw [show ZQ.run=Zi C0 2 5 ZaM from rfl]
 rw [runA (show [I p,Ls true xs].length=2 from rfl)]
 unfold ZaM
 simp only [replicate,reduceSub]
 obtain ⟨a',hc⟩:=Zny (fun i=>decide (1<=i)) (fun _ _=>false) 0 rfl xs (by omega) xs.length 0 [] .hole (by omega)
 rw [nil_append,drop_zero] at hc
 replace hc:Z9 (fun _ _=>false) 0 1 (.name 0) [] (.bin .Mult (.bin .Add (.v 0) (.k (.int 1))) (.ix (.v 1) (.v 0))) (dI (rngI 0 xs.length)) [] [.hole,Ls true xs]=.ok (dI (wts 1 xs),_):=hc
 have hm1:∀ x0 x2 x3 x4:D,ZR 1 [1] (Z9 (fun _ _=>false) 0 1 (.name 0) [] (.bin .Mult (.bin .Add (.v 0) (.k (.int 1))) (.ix (.v 1) (.v 0))) (dI (rngI 0 xs.length)) []) [x0,Ls true xs,x2,x3,x4]=.ok (Ls true (wts 1 xs),[x0,Ls true xs,x2,x3,x4]):=fun x0 x2 x3 x4=>by
  rw [ZG (js:=[1]) (caps:=[Ls true xs]) (δ1:=[x0,.hole,x2,x3,x4]) rfl hc (by rw [Z0,ZhD,szl];omega)]
  rfl
 have hit:itW .rng1 [.sc (.int (xs.length:Int))]=some (dI (rngI 0 xs.length)):=by
  have:=Zb1 (xs.length:Int) (by omega)
  rwa [toNat_natCast] at this
 have hdl:((dI xs).length:Int)=(xs.length:Int):=by rw [Z0]
 have s1:=ZaI xs
 have s2:=ZaI (wts 1 xs)
 have hm:∀ u:Int,binW .Mult (.sc (.int u)) (.sc (.int ((xs.length:Int)+1)))=some (.sc (.int (u * ((xs.length:Int)+1)))):=fun u=>ZcI _ _ (.inr (by omega))
 have e1:(xs.sum * ((xs.length:Int)+1) - (wts 1 xs).sum) % p=lst2 p xs:=by unfold lst2;rw [Int.mul_comm]
 have e2:(0 - xs.sum - lst2 p xs) % p=other p xs (lst2 p xs):=rfl
 have hn:∀ u v:D,newL [u,v]=some (.node .lst true [u,v]):=fun u v=>ZI _ (by rw [szl];simp)
 have hcat:binW .Add (.nd .lst (dI xs)) (.nd .lst [.sc (.int (other p xs (lst2 p xs))),.sc (.int (lst2 p xs))])=some (Ls true (lab p xs)):=by
  rw [Zek (dI xs) [_,_] (by rw [List.length_append,Z0,szl];show xs.length+2<=_;omega),Ls,lab,Zac]
  rfl
 generalize lst2 p xs=l2 at e1 e2 hcat
 generalize other p xs l2=o2 at e2 hcat
 (simp_all [Zk,hdl,s1,s2,hit,hm1,hm,ZJ _ _ hp,e1,e2,hn,hcat])<;>rfl
theorem Zlj(h0:lk 0=false)(p:Int)(hp:0 < p)(bs:List (List Int))(hbs:bs.length<=1000):∀(qs:List Int)(acc:List Int)(a:D)(X:List D),shrL X=dL false bs->(∀ q∈qs,0<=q/\∀ l∈bs,q < (l.length:Int))->∃(a':D)(X':List D),shrL X'=dL false bs/\
 ZH (asgT lk (.name 0)) (tsts ⟨lk,fok,fuel⟩ []) (evb ⟨lk,fok,fuel⟩ (.bin .Mod (.bin .Sub (.k (.int 0)) (.bf .sum [.comp 1 [0] (.name 0) .val [.v 2] [] (.ix (.v 0) (.v 1))])) (.v 1))).1 (dI qs) (dI acc) [a,I p,.node .lst true X]=.ok (dI (acc++qs.map (col p bs)),[a',I p,.node .lst true X']):=by
 intro qs
 induction qs with
 | nil=>exact fun acc a X hX _=>⟨a,X,hX,by rw [map_nil,append_nil];rfl⟩
 | cons q qs ih=>
  intro acc a X hX hq
  obtain ⟨a',X',hX',ih⟩:=ih (acc++[col p bs q]) (I q) (dL false bs) (Zx _ _) fun x hx=>hq x (mem_cons_of_mem _ hx)
  refine ⟨a',X',hX',?_⟩
  obtain ⟨b',hc⟩:=ZgK (fun i=>decide (1<=i)) fok fuel rfl q (hq q mem_cons_self).1 bs [] .hole (hq q mem_cons_self).2
  rw [nil_append] at hc
  replace hc:Z9 fok fuel 1 (.name 0) [] (.ix (.v 0) (.v 1)) (dL false bs) [] [.hole,I q]=_:=hc
  have hm1:∀ x1 x2:D,ZR 1 [0] (Z9 fok fuel 1 (.name 0) [] (.ix (.v 0) (.v 1)) (dL false bs) []) [I q,x1,x2]=.ok (Ls true (bs.map fun l=>l.getD q.toNat 0),[I q,x1,x2]):=fun x1 x2=>by
   rw [ZG (js:=[0]) (caps:=[I q]) (δ1:=[.hole,x1,x2]) rfl hc (by rw [Z0,length_map,szl];omega)]
   rfl
  have hs:(0 - (bs.map fun l=>l.getD q.toNat 0).sum) % p=col p bs q:=by unfold col;rw [Int.zero_sub]
  generalize (bs.map fun l=>l.getD q.toNat 0)=cs at hm1 hs
  have sm:=ZaI cs
  rw [map_cons,show acc++(col p bs q::qs.map (col p bs))=acc++[col p bs q]++qs.map (col p bs) by rw [List.append_assoc];rfl,<- ih,ZF,Zax,Zac]
  simp_all [h0,Zk,hX,hm1,sm,ZJ _ _ hp,hs]
def ixL(o:Bool)(B:List (List Int))(k:Nat)(h:k < B.length):((ixN' (dL o B).length (k:Int)).bind fun j=>(dL o B)[j]?)=some (Ls o (B.getD k [])):=by
 rw [Zdl (dL o B).length k (by rw [ZZ];exact h),bind_some,getElem?_map,List.getElem?_eq_getElem h,getD_eq_getElem?_getD,List.getElem?_eq_getElem h]
 rfl
theorem Zlk(h0:lk 0=false)(p c:Int)(hp:0 < p)(B:List (List Int))(hB:∀ l∈B,l.length<=800):∀(n j:Nat)(acc:List (List Int))(a:D)(X:List D),shrL X=dL false B->j+n<=B.length->∃(a':D)(X':List D),shrL X'=dL false B/\
 ZH (asgT lk (.name 0)) (tsts ⟨lk,fok,fuel⟩ []) (evb ⟨lk,fok,fuel⟩ (.call ZQ [.v 1,.bin .Add (.lst [.v 0,.v 2]) (.ix (.v 3) (.v 0))])).1 (dI (rngI j n)) (dL true acc) [a,I p,I c,.node .lst true X]=.ok (dL true (acc++(rngI j n).map fun k=>lab p ([k,c]++B.getD k.toNat [])),[a',I p,I c,.node .lst true X']):=by
 intro n
 induction n with
 | zero=>exact fun j acc a X hX _=>⟨a,X,hX,by rw [rngI,map_nil,append_nil];rfl⟩
 | succ n ih=>
  intro j acc a X hX hj
  have ej:((j+1:Nat):Int)=(j:Int)+1:=by omega
  obtain ⟨a',X',hX',ih⟩:=ih (j+1) (acc++[lab p ([(j:Int),c]++B.getD j [])]) (I j) (dL false B) (Zx _ _) (by omega)
  refine ⟨a',X',hX',?_⟩
  rw [ej] at ih
  rw [rngI,map_cons,toNat_natCast,show acc++(lab p ([(j:Int),c]++B.getD j [])::(rngI ((j:Int)+1) n).map fun k=>lab p ([k,c]++B.getD k.toNat []))=acc++[lab p ([(j:Int),c]++B.getD j [])]++(rngI ((j:Int)+1) n).map (fun k=>lab p ([k,c]++B.getD k.toNat [])) by rw [List.append_assoc];rfl,<- ih,ZF,Zax,Zb8]
  have ix:=ixL false B j (by omega)
  have hbl:(B.getD j []).length<=800:=by
   rw [getD_eq_getElem?_getD,List.getElem?_eq_getElem (by omega)]
   exact hB _ (getElem_mem _)
  generalize B.getD j []=b at ix hbl
  have hn:∀ u v:D,newL [u,v]=some (.node .lst true [u,v]):=fun u v=>ZI _ (by rw [szl];simp)
  have c1:binW .Add (.nd .lst [.sc (.int j),.sc (.int c)]) (.nd .lst (dI b))=some (Ls true ([(j:Int),c]++b)):=by
   rw [Zek _ _ (by rw [List.length_append,Z0,szl];show 2+b.length<=_;omega),Ls,Zac]
   rfl
  have l1:ZQ.lend=true:=rfl
  have hr:=Zli p ([(j:Int),c]++b) hp (by rw [List.length_append];show 2+b.length<=_;omega)
  generalize ([(j:Int),c]++b)=jb at c1 hr
  simp_all [h0,hX,ix,hn,c1,l1,hr,Zk]
noncomputable def good(p:Int)(xs:List Int):Bool:=decide (xs.sum % p=0) && decide ((wts 1 xs).sum % p=0)
def Zll(p:Int)(xs:List Int)(hp:0 < p)(hl:xs.length<=1000):ZcL.run [I p,Ls false xs]=.ok (.sc (.bl (good p xs)),[I p,Ls false xs]):=by
 walk_at "r"
 unfold good
 have l1:ZaA.lend=true:=rfl
 have l2:Za2.lend=true:=rfl
 have r1:=ZdV p xs false hp
 have r2:=Zew p xs false hp hl
 by_cases h:xs.sum % p=0
 . (simp_all [l1,l2,r1,r2,h,V.int.injEq])<;>rfl
 . (simp_all [l1,l2,r1,r2,h,V.int.injEq])<;>rfl
def Zlm(p:Int)(xs:List Int):good p (lab p xs)=true:=by
 have e1:(lab p xs).sum=xs.sum+(other p xs (lst2 p xs)+lst2 p xs):=by unfold lab;simp [sum_append,Int.add_assoc]
 have e2:(wts 1 (lab p xs)).sum=(wts 1 xs).sum+((1+(xs.length:Int)) * other p xs (lst2 p xs)+(1+(xs.length:Int)+1) * lst2 p xs):=by unfold lab;rw [ZhE,sum_append];simp [wts]
 have h1:p ∣ (xs.sum+(other p xs (lst2 p xs)+lst2 p xs)):=by
  have:=Int.emod_add_mul_ediv (0 - xs.sum - lst2 p xs) p
  refine ⟨-((0 - xs.sum - lst2 p xs) / p),?_⟩
  rw [Int.mul_neg]
  unfold other
  omega
 have h2:p ∣ ((wts 1 xs).sum+((1+(xs.length:Int)) * other p xs (lst2 p xs)+(1+(xs.length:Int)+1) * lst2 p xs)):=by
  have a1:=Int.emod_add_mul_ediv (0 - xs.sum - lst2 p xs) p
  have a2:=Int.emod_add_mul_ediv (((xs.length:Int)+1) * xs.sum - (wts 1 xs).sum) p
  have b2:lst2 p xs+p * ((((xs.length:Int)+1) * xs.sum - (wts 1 xs).sum) / p)=((xs.length:Int)+1) * xs.sum - (wts 1 xs).sum:=a2
  have b1:other p xs (lst2 p xs)=0 - xs.sum - lst2 p xs - p * ((0 - xs.sum - lst2 p xs) / p):=by unfold other;omega
  rw [b1]
  generalize (0 - xs.sum - lst2 p xs) / p=a at *
  generalize (((xs.length:Int)+1) * xs.sum - (wts 1 xs).sum) / p=b at *
  generalize lst2 p xs=l at *
  generalize (wts 1 xs).sum=W at *
  generalize xs.sum=S at *
  generalize (xs.length:Int)=n at *
  refine ⟨-b - (1+n) * a,?_⟩
  have c1:(1+n) * (0 - S - l - p * a)=-(n * S) - S - (n * l) - l - p * ((1+n) * a):=by
   have d1:(1+n) * S=S+n * S:=by rw [add_mul,one_mul]
   have d2:(1+n) * l=l+n * l:=by rw [add_mul,one_mul]
   rw [mul_sub,mul_sub,mul_sub,Int.mul_left_comm (1+n) p a,d1,d2,Int.mul_zero]
   omega
  have c2:(1+n+1) * l=n * l+l+l:=by rw [add_mul,add_mul,one_mul];omega
  have c3:(n+1) * S=n * S+S:=by rw [add_mul,one_mul]
  rw [c3] at b2
  rw [c1,c2,mul_sub,Int.mul_neg]
  omega
 unfold good
 rw [e1,e2,Int.emod_eq_zero_of_dvd h1,Int.emod_eq_zero_of_dvd h2]
 rfl
theorem ZjO(C:Addr)(lk:Nat->Bool)(h0:lk 0=false)(p r:Int):∀(xs:List Int)(n:Nat)(a:D),(∀ x∈xs,0<=x/\x < p)->∃ a',
 ZH (asgT lk (.name 0)) (tsts ⟨lk,(CK C).fok,(CK C).fuel⟩ []) (evb ⟨lk,(CK C).fok,(CK C).fuel⟩ (.call ZU [.fld (.v 1) "size",.v 0])).1 (dI xs) (replicate n (.sc (.bl true))) [a,Ro C true p r]=.ok (replicate (n+xs.length) (.sc (.bl true)),[a',Ro C true p r]):=by
 intro xs
 induction xs with
 | nil=>exact fun n a _=>⟨a,rfl⟩
 | cons x xs ih=>
  intro n a hx
  obtain ⟨a',ih⟩:=ih (n+1) (I x) fun y hy=>hx y (mem_cons_of_mem _ hy)
  refine ⟨a',?_⟩
  have hr:=ZhF p x (hx x mem_cons_self).1 (hx x mem_cons_self).2
  have l1:ZU.lend=true:=rfl
  have f1:=Zge C (I p) (I r)
  rw [length_cons,show n+(xs.length+1)=n+1+xs.length by omega,<- ih,ZF,Zax,List.replicate_succ']
  simp_all [h0,l1,f1,hr]
def ZjP(C:Addr)(p r:Int)(l:List Int)(hp:0 < p)(hz:l.length<=1000)(hl:(l.length:Int)=r+5)(hr:1<=r)(hx:∀ x∈l,0<=x/\x < p)(hg:good p l=true)(h1:l.getD 1 0≠0)(h0:l.getD 0 0<=l.getD 1 0):
 (ZA C).run [Ro C true p r,Ls false l]=.ok (.sc (.bl true),[Ro C true p r,Ls false l]):=by
 walk_at "r"
 obtain ⟨a',hc⟩:=ZjO C (fun i=>decide (1<=i)) rfl p r l 0 .hole hx
 rw [Nat.zero_add] at hc
 replace hc:Z9 (CK C).fok (CK C).fuel 1 (.name 0) [] (.call ZU [.fld (.v 1) "size",.v 0]) (dI l) [] [.hole,Ro C true p r]=_:=hc
 have hm1:∀ x1:D,ZR 1 [0] (Z9 (CK C).fok (CK C).fuel 1 (.name 0) [] (.call ZU [.fld (.v 1) "size",.v 0]) (dI l) []) [Ro C true p r,x1]=.ok (.node .lst true (replicate l.length (.sc (.bl true))),[Ro C true p r,x1]):=fun x1=>by
  rw [ZG (js:=[0]) (caps:=[Ro C true p r]) (δ1:=[.hole,x1]) rfl hc (by rw [length_replicate,szl];omega)]
  rfl
 have k1:ZcL.lend=true:=rfl
 have r1:=Zll p l hp hz
 have f1:=Zge C (I p) (I r)
 have f2:=ZiB C (I p) (I r)
 have i1:=ixI l 1 (by omega) (by omega)
 have i0:=ixI l 0 (by omega) (by omega)
 have hdl:((dI l).length:Int)=r+5:=by rw [Z0];exact hl
 simp only [Int.toNat_one,Int.toNat_zero] at i1 i0
 generalize l.getD 1 0=y1 at *
 generalize l.getD 0 0=y0 at *
 (simp_all [Zi9,ZlS,hdl,Zk,hm1,ZhH,k1,r1,hg,f1,f2,i1,i0,V.int.injEq,h1,h0])<;>rfl
theorem Znz(C:Addr)(lk:Nat->Bool)(h2:lk 2=false)(h3:lk 3=false)(p r:Int)(X:D):∀(ls:List (List Int))(c:Int)(a b:D),(∀ l∈ls,(ZA C).run [Ro C true p r,Ls false l]=.ok (.sc (.bl true),[Ro C true p r,Ls false l]))->∃ a' b',
 forL (asgT lk (.tup [2,3])) (exs ⟨lk,(CK C).fok,(CK C).fuel⟩ [.iff (.nt (.meth C "is_label" (ZA C) (.v 0) [.v 3])) [.raise (.k .non)] []]) (Zap c (dL false ls)) [Ro C true p r,X,a,b]=.ok (.nx,[Ro C true p r,X,a',b']):=by
 intro ls
 induction ls with
 | nil=>exact fun c a b _=>⟨a,b,rfl⟩
 | cons x xs ih=>
  intro c a b hx
  obtain ⟨a',b',ih⟩:=ih (c+1) (I c) (Ls false x) fun y hy=>hx y (mem_cons_of_mem _ hy)
  refine ⟨a',b',?_⟩
  rw [<- ih,Zbt,Zap,ZaH]
  have hr:=hx x mem_cons_self
  have l1:(ZA C).lend=true:=rfl
  have hck:∀ x1 x2 x3:D,chkI C "is_label" (.late 0) [Ro C true p r,x1,x2,x3]=.ok ((),[Ro C true p r,x1,x2,x3]):=fun x1 x2 x3=>ZbT C _ 0 _ fs2 true _ rfl (by decide)
  simp_all [h2,h3,Zdm,hck,l1,hr]
def Zfi(C:Addr)(p r:Int)(ls:List (List Int))(h:∀ l∈ls,(ZA C).run [Ro C true p r,Ls false l]=.ok (.sc (.bl true),[Ro C true p r,Ls false l])):
 (Zad C).run [Ro C true p r,.node .lst true (dL true ls)]=.ok (.sc .non,[Ro C true p r,.node .lst true (dL false ls)]):=by
 walk_at "r"
 obtain ⟨a',b',hs⟩:=Znz C (fun j=>decide (j < 2) || walked [.v 1,.k (.int 0)] j) rfl rfl p r .hole ls 0 .hole .hole h
 simp only [walked,Bool.or_false] at hs
 simp_all [Zx,it_e _ 0 (by decide),hs]
 rfl
noncomputable abbrev dK(ks:List Int):List Key:=ks.map Sum.inl
noncomputable def ins(acc:List Int)(k:Int):List Int:=if k∈acc then acc else acc++[k]
noncomputable def dd:List Int->List Int->List Int
 | acc,[]=>acc
 | acc,k::ks=>dd (ins acc k) ks
theorem Zdr(F:Int->List Int)(k:Int):∀ ds:List Int,k∈ds->ZW (.inl k) (dK ds) (dL false (ds.map F))=some (Ls false (F k))
 | [],h=>by cases h
 | d::ds,h=>by
  show (if (Sum.inl d:Key)=Sum.inl k then some (Ls false (F d)) else ZW (.inl k) (dK ds) (dL false (ds.map F)))=_
  by_cases e:d=k
  . subst e;rw [if_pos rfl]
  . rw [if_neg fun q=>e (by cases q;rfl),Zdr F k ds ((List.mem_cons.mp h).resolve_left fun q=>e q.symm)]
theorem ZeD(k:Int):∀(ds:List Int)(xs:List α),k∉ds->ZW (.inl k) (dK ds) xs=none
 | [],_,_=>by cases ‹List α›<;>rfl
 | d::ds,[],_=>rfl
 | d::ds,x::xs,h=>by
  show (if (Sum.inl d:Key)=Sum.inl k then some x else ZW (.inl k) (dK ds) xs)=_
  rw [if_neg fun q=>h (by cases q;exact mem_cons_self),ZeD k ds xs fun q=>h (mem_cons_of_mem _ q)]
theorem ZeE(k:Int)(x:α):∀(ds:List Int)(xs:List α),ds.length=xs.length->k∉ds->Zcj (.inl k) x (dK ds) xs=some (dK (ds++[k]),xs++[x])
 | [],[],_,_=>rfl
 | d::ds,y::xs,hl,h=>by
  show (if (Sum.inl d:Key)=Sum.inl k then _ else (Zcj (.inl k) x (dK ds) xs).map fun r=>((Sum.inl d:Key)::r.1,y::r.2))=_
  rw [if_neg fun q=>h (by cases q;exact mem_cons_self),ZeE k x ds xs (by simpa using hl) fun q=>h (mem_cons_of_mem _ q)]
  rfl
 | [],_::_,hl,_=>by cases hl
 | _::_,[],hl,_=>by cases hl
noncomputable abbrev Di(o:Bool)(ds:List Int)(xs:List D):D:=.node (.dic (dK ds)) o xs
def Zn0(F:Int->List Int)(k:Int)(acc:List Int)(hl:acc.length<=1000)(δ:List D):
 mdR 1 δ (ZeQ (I k) (Ls false (F k))) (some (Di true acc (dL false (acc.map F))))=.ok (Ls false (F k),δ.set 1 (Di true (ins acc k) (dL false ((ins acc k).map F)))):=by
 have e:ZeQ (I k) (Ls false (F k)) (.dic (dK acc)) (dL false (acc.map F))=some (Ls false (F k),.dic (dK (ins acc k)),dL false ((ins acc k).map F)):=by
  show (match ZW (.inl k) (dK acc) (dL false (acc.map F)) with
   | some x=>if ZeP x then some (x,Kd.dic (dK acc),dL false (acc.map F)) else none
   | none=>if ZeP (Ls false (F k)) && decide ((dL false (acc.map F)).length < sizeLine) then (Zcj (.inl k) (Ls false (F k)) (dK acc) (dL false (acc.map F))).map fun r:List Key×List D=>(Ls false (F k),Kd.dic r.1,r.2) else none)=_
  unfold ins
  by_cases h:k∈acc
  . rw [Zdr F k acc h,if_pos h]
    rfl
  . rw [ZeD k acc _ h,if_neg h]
    dsimp only
    rw [ZeE k _ acc _ (by rw [ZZ,length_map]) h,ZZ,length_map,szl,decide_eq_true (by omega)]
    rw [map_append,Zb8]
    rfl
 show (match ZeQ (I k) (Ls false (F k)) (.dic (dK acc)) (dL false (acc.map F)) with
  | some (r,k',ds')=>Rs.ok (r,δ.set 1 (.node k' true ds'))
  | none=>.stuck)=_
 rw [e]
theorem ZjQ:∀(ks acc:List Int),(dd acc ks).length<=acc.length+ks.length
 | [],acc=>le_add_right _ _
 | k::ks,acc=>by
  have:=ZjQ ks (ins acc k)
  have h:(ins acc k).length<=acc.length+1:=by unfold ins;split<;>simp
  show (dd (ins acc k) ks).length<=acc.length+(ks.length+1)
  omega
theorem Zln(h2:lk 2=false)(h3:lk 3=false)(F:Int->List Int)(n:Int)(l0:List Int)(tl:List (List Int))(hl0:2<=l0.length)(hn0:l0.getD 1 0=n):∀(ks acc:List Int)(c:Int)(a b:D),acc.length+ks.length<=1000->(∀ k∈ks,2<=(F k).length/\(F k).getD 0 0=k/\(F k).getD 1 0=n)->∃ a' b',
 forL (asgT lk (.tup [2,3])) (exs ⟨lk,fok,fuel⟩ [.iff (.or (.cmp .NotEq (.ix (.v 3) (.k (.int 1))) (.ix (.ix (.v 0) (.k (.int 0))) (.k (.int 1)))) (.cmp .NotEq (.sdef 1 (.ix (.v 3) (.k (.int 0))) (.v 3)) (.v 3))) [.raise (.k .non)] []]) (Zap c (dL false (ks.map F)))
  [.node .lst false (dL false (l0::tl)),Di true acc (dL false (acc.map F)),a,b]=.ok (.nx,[.node .lst false (dL false (l0::tl)),Di true (dd acc ks) (dL false ((dd acc ks).map F)),a',b']):=by
 intro ks
 induction ks with
 | nil=>exact fun acc c a b _ _=>⟨a,b,rfl⟩
 | cons k ks ih=>
  intro acc c a b hz hF
  rw [length_cons] at hz
  have h:(ins acc k).length<=acc.length+1:=by unfold ins;split<;>simp
  obtain ⟨a',b',ih⟩:=ih (ins acc k) (c+1) (I c) (Ls false (F k)) (by omega) fun y hy=>hF y (mem_cons_of_mem _ hy)
  refine ⟨a',b',?_⟩
  obtain ⟨q1,q2,q3⟩:=hF k mem_cons_self
  have i1:=ixI (F k) 1 (by omega) (by omega)
  have i0:=ixI (F k) 0 (by omega) (by omega)
  have j1:=ixI l0 1 (by omega) (by omega)
  have jl:((ixN' (dL false (l0::tl)).length 0).bind fun j=>(dL false (l0::tl))[j]?)=some (Ls false l0):=ixL false (l0::tl) 0 (by simp)
  simp only [Int.toNat_one,Int.toNat_zero,q2,q3,hn0] at i1 i0 j1
  have sd:=Zn0 F k acc (by omega)
  have ne:=ZlT (F k) (F k)
  simp only [decide_true,Bool.not_true] at ne
  rw [show dd acc (k::ks)=dd (ins acc k) ks from rfl,<- ih,map_cons,Zbt,Zap,ZaH]
  generalize dL false (l0::tl)=L0 at *
  have ck:∀(x0 a b:D)(X:List D),chkD 1 [x0,Di true acc X,a,b]=.ok ((),[x0,Di true acc X,a,b]):=fun _ _ _ _=>rfl
  simp_all [h2,h3,Zdm,Zgd,ck,i1,i0,j1,jl,sd,ne,V.int.injEq]
def ZhJ(F:Int->List Int)(n:Int)(ks:List Int)(hk:ks≠[])(hz:ks.length<=1000)(hF:∀ k∈ks,2<=(F k).length/\(F k).getD 0 0=k/\(F k).getD 1 0=n):
 Zam.run [.node .lst false (dL false (ks.map F))]=.ok (Di true (dd [] ks) (dL false ((dd [] ks).map F)),[.node .lst false (dL false (ks.map F))]):=by
 walk_at "r"
 obtain ⟨k,kt,rfl⟩:=List.exists_cons_of_ne_nil hk
 have h0:=hF k mem_cons_self
 obtain ⟨a',b',hs⟩:=Zln (fun j=>decide (j < 1) || walked [.v 0,.k (.int 0)] j) (fun _ _=>false) 0 rfl rfl F n (F k) (kt.map F) h0.1 h0.2.2 (k::kt) [] 0 .hole .hole (by simpa using hz) hF
 simp only [walked,Bool.or_false] at hs
 rw [<- map_cons (f:=F)] at hs
 generalize dL false ((k::kt).map F)=L0 at *
 simp only [Di,dK,dL,map_nil] at hs
 (simp_all [it_e _ 0 (by decide),hs])<;>rfl
theorem ZS:∀(n:Nat)(a x:Int),x∈rngI a n->a<=x/\x < a+n
 | 0,a,x,h=>by simp [rngI] at h
 | n+1,a,x,h=>by
  rw [rngI] at h
  (rcases List.mem_cons.mp h with rfl|h)
  . omega
  . have:=ZS n (a+1) x h;omega
theorem ZgL(f:Int->α):∀(n:Nat)(a:Int),(rngI (a+2) n).map f=(rngI a n).map fun q=>f (q+2)
 | 0,_=>rfl
 | n+1,a=>by
  rw [rngI,rngI,map_cons,map_cons,show a+2+1=a+1+2 by omega,ZgL f n (a+1)]
theorem ZfT:∀(n:Nat)(a:Int),rngI a (n+1)=rngI a n++[a+n]
 | 0,a=>by rw [rngI,rngI,rngI,Int.natCast_zero,Int.add_zero];rfl
 | n+1,a=>by
  rw [rngI,ZfT n (a+1),rngI,cons_append]
  congr 3
  show a+1+(n:Int)=a+((n+1:Nat):Int)
  omega
theorem ZfU(C:Addr)(lk:Nat->Bool)(h0:lk 0=false)(F:Int->List Int)(ds:List Int):∀(ks acc:List Int)(a:D),∃ a',
 ZH (asgT lk (.name 0)) (tsts ⟨lk,(CK C).fok,(CK C).fuel⟩ [.cmp .NotIn (.v 0) (.v 1)]) (evb ⟨lk,(CK C).fok,(CK C).fuel⟩ (.v 0)).1 (dI ks) (dI acc) [a,Di true ds (dL false (ds.map F))]=.ok (dI (acc++ks.filter fun k=>!decide (k∈ds)),[a',Di true ds (dL false (ds.map F))]):=by
 intro ks
 induction ks with
 | nil=>exact fun acc a=>⟨a,by rw [List.filter_nil,append_nil];rfl⟩
 | cons k ks ih=>
  intro acc a
  rw [ZF,Zax,List.filter_cons]
  have sh:=Zx false (ds.map F)
  by_cases h:k∈ds
  . obtain ⟨a',ih⟩:=ih acc (I k)
    refine ⟨a',?_⟩
    have hl:=Zdr F k ds h
    rw [if_neg (by simp [h]),<- ih]
    generalize dL false (ds.map F)=X at *
    simp_all [h0,sh,hl,isSome_some]
    try rfl
  . obtain ⟨a',ih⟩:=ih (acc++[k]) (I k)
    refine ⟨a',?_⟩
    have hl:=ZeD k ds (dL false (ds.map F)) h
    rw [if_pos (by simp [h]),show acc++(k::ks.filter fun k=>!decide (k∈ds))=acc++[k]++ks.filter (fun k=>!decide (k∈ds)) by rw [List.append_assoc];rfl,<- ih,Zac]
    generalize dL false (ds.map F)=X at *
    simp_all [h0,sh,hl,Option.isSome_none]
    try rfl
theorem Zlo(C:Addr)(lk:Nat->Bool)(h0:lk 0=false)(F:Int->List Int)(ds:List Int)(Y:List D)(hY:shrL Y=Y):∀(ks:List Int)(acc:List (List Int))(a:D)(X:List D),shrL X=Y->(∀ k∈ks,ZW (.inl k) (dK ds) Y=some (Ls false (F k)))->∃(a':D)(X':List D),
 ZH (asgT lk (.name 0)) (tsts ⟨lk,(CK C).fok,(CK C).fuel⟩ []) (evb ⟨lk,(CK C).fok,(CK C).fuel⟩ (.bf .list [.ix (.v 1) (.v 0)])).1 (dI ks) (dL true acc) [a,Di true ds X]=.ok (dL true (acc++ks.map F),[a',Di true ds X']):=by
 intro ks
 induction ks with
 | nil=>exact fun acc a X _ _=>⟨a,X,by rw [map_nil,append_nil];rfl⟩
 | cons k ks ih=>
  intro acc a X hX hk
  obtain ⟨a',X',ih⟩:=ih (acc++[F k]) (I k) Y hY fun y hy=>hk y (mem_cons_of_mem _ hy)
  refine ⟨a',X',?_⟩
  have hl:=hk k mem_cons_self
  rw [map_cons,show acc++(F k::ks.map F)=acc++[F k]++ks.map F by rw [List.append_assoc];rfl,<- ih,ZF,Zax,Zb8]
  simp_all [h0,hX,hl]
def ZpK(m:Int)(x:D)(ds:List Int)(X:List D)(hl:ds.length=X.length)(hz:X.length<=1000)(hm:m∉ds)(δ:List D):
 mdR 2 δ (Zbm (.sc (.int m)) x) (some (Di true ds X))=.ok (.sc .non,δ.set 2 (Di true (ds++[m]) (X++[x]))):=by
 have e:Zbm (.sc (.int m)) x (.dic (dK ds)) X=some (.sc .non,.dic (dK (ds++[m])),X++[x]):=by
  show (if X.length < sizeLine then ((Zcj (.inl m) x (dK ds) X).map fun r:List Key×List D=>(D.sc .non,Kd.dic r.1,r.2)) else none)=_
  rw [if_pos (by rw [szl];omega),ZeE m x ds X hl hm]
  rfl
 show (match Zbm (.sc (.int m)) x (.dic (dK ds)) X with
  | some (r,k',ds')=>Rs.ok (r,δ.set 2 (.node k' true ds'))
  | none=>.stuck)=_
 rw [e]
theorem ZeF:∀ xs ys:List D,shrL (xs++ys)=shrL xs++shrL ys
 | [],_=>rfl
 | x::xs,ys=>by rw [cons_append,shrL,ZeF xs ys];rfl
noncomputable abbrev XL(b:Bool)(ms:List Int):D:=.node (.exc ["Lost","LabelError"] false ["numbers"]) b [Ls b ms]
noncomputable abbrev XM(b:Bool):D:=.node (.exc ["Mixed","LabelError"] false ["number"]) b [.sc .non]
def ZjR(ms:List Int)(h:(ZbN "labels lost: " (.nd .lst (dI ms))).isSome=true):Za7.run [.node (.exc ["Lost","LabelError"] true []) true [],Ls true ms]=.ok (.sc .non,[.node (.exc ["Lost","LabelError"] true ["numbers"]) true [Ls true ms],Ls true ms]):=by
 obtain ⟨z,hz⟩:=Option.isSome_iff_exists.mp h
 obtain ⟨s,rfl⟩:∃ s,z=.sc (.str s):=by
  unfold ZbN at hz
  simp only [ZbO,bind_some] at hz
  split at hz
  . cases hz;exact ⟨_,rfl⟩
  . cases hz
 walk_at "r"
 have hp:∀ δ:List D,mdR 0 δ (putX (Str.ofString "numbers") (Ls true ms)) (some (.node (.exc ["Lost","LabelError"] true []) true []))=.ok (.sc .non,δ.set 0 (.node (.exc ["Lost","LabelError"] true ["numbers"]) true [Ls true ms])):=fun δ=>rfl
 (simp_all [Zk,hz,hp])<;>rfl
def ZiD:Zay.run [.node (.exc ["Mixed","LabelError"] true []) true [],.sc .non]=.ok (.sc .non,[.node (.exc ["Mixed","LabelError"] true ["number"]) true [.sc .non],.sc .non]):=by kernel_rfl
structure Dealt(n:Int)(ks ds:List Int)(m:Option Int):Prop where
 ne:ks≠[]
 few:ks.length<=900
 dds:dd [] ks=ds
 len:ds.length<=900
 lack:(rngI 0 (n+1).toNat).filter (fun k=>!decide (k∈ds))=m.toList
 out:∀ k,m=some k->k∉ds/\0<=k/\k<=n
 all:∀ k∈rngI 0 (n+1).toNat,k∈ds++m.toList
theorem Zga(C:Addr)(p r n:Int)(F:Int->List Int)(ks ds:List Int)(m:Option Int)(DD:Dealt n ks ds m)(hp:7<=p)(hp2:p<=47)(h1:1<=r)(h2:r<=p - 5)(hn:0<=n/\n < p)
 (hF:∀ k∈ks,2<=(F k).length/\(F k).getD 0 0=k/\(F k).getD 1 0=n) (hF2:∀ k∈ds,r+3<=((F k).length:Int))
 (hb:∀ k,m=some k->lab p ([k,n]++(rngI 2 (r+1).toNat).map (col p (ds.map F)))=F k):
 (ZL C).run [Ro C true p r,.node .lst true (dL false (ks.map F))]=.ok (.node .lst true (dL true ((rngI 0 (n+1).toNat).map F)),[Ro C true p r,.node .lst false (dL false (ks.map F))]):=by
 walk_at "r"
 obtain ⟨d1,d2,d3,d4,d5,d6,d7⟩:=DD
 have rl:=ZhJ F n ks d1 (by omega) hF
 rw [d3] at rl
 have k1:Zam.lend=false:=rfl
 have k2:(ZaF C).lend=true:=rfl
 have ne:(dL false (ks.map F)).isEmpty=false:=by
  cases ks with
  | nil=>exact absurd rfl d1
  | cons k kt=>rfl
 have i1:∃ l0:List Int,((ixN' (dL false (ks.map F)).length 0).bind fun j=>(dL false (ks.map F))[j]?)=some (Ls false l0)/\((ixN' (dI l0).length 1).bind fun j=>(dI l0)[j]?)=some (.sc (.int n)):=by
  cases ks with
  | nil=>exact absurd rfl d1
  | cons k kt=>
   obtain ⟨q1,q2,q3⟩:=hF k mem_cons_self
   have:=ixI (F k) 1 (by omega) (by omega)
   simp only [Int.toNat_one,q3] at this
   exact ⟨F k,ixL false (F k::kt.map F) 0 (by simp),this⟩
 obtain ⟨l0,i1,i2⟩:=i1
 have tru:∀ xs:List D,truW (.nd .lst xs)=some (!xs.isEmpty):=fun _=>rfl
 obtain ⟨a',lc⟩:=ZfU C (fun i=>decide (1<=i)) rfl F ds (rngI 0 (n+1).toNat) [] .hole
 rw [nil_append,d5] at lc
 replace lc:Z9 (CK C).fok (CK C).fuel 1 (.name 0) [.cmp .NotIn (.v 0) (.v 1)] (.v 0) (dI (rngI 0 (n+1).toNat)) [] [.hole,Di true ds (dL false (ds.map F))]=_:=lc
 have ml:(dI m.toList).length<=1:=by cases m<;>simp [dI]
 have hm1:∀ x0 x1 x3 x4:D,ZR 1 [2] (Z9 (CK C).fok (CK C).fuel 1 (.name 0) [.cmp .NotIn (.v 0) (.v 1)] (.v 0) (dI (rngI 0 (n+1).toNat)) []) [x0,x1,Di true ds (dL false (ds.map F)),x3,x4]=.ok (.node .lst true (dI m.toList),[x0,x1,Di true ds (dL false (ds.map F)),x3,x4]):=fun x0 x1 x3 x4=>by
  rw [ZG (js:=[2]) (caps:=[Di true ds (dL false (ds.map F))]) (δ1:=[x0,x1,.hole,x3,x4]) rfl lc (by rw [szl];omega)]
  rfl
 have gl:∀(es:List Int)(X Y:List D),shrL X=Y->shrL Y=Y->(∀ k∈rngI 0 (n+1).toNat,ZW (.inl k) (dK es) Y=some (Ls false (F k)))->∃ X',∀ x0 x1 x3 x4:D,ZR 1 [2] (Z9 (CK C).fok (CK C).fuel 1 (.name 0) [] (.bf .list [.ix (.v 1) (.v 0)]) (dI (rngI 0 (n+1).toNat)) []) [x0,x1,Di true es X,x3,x4]=.ok (.node .lst true (dL true ((rngI 0 (n+1).toNat).map F)),[x0,x1,Di true es X',x3,x4]):=fun es X Y hX hY hk=>by
  obtain ⟨b',X',gc⟩:=Zlo C (fun i=>decide (1<=i)) rfl F es Y hY (rngI 0 (n+1).toNat) [] .hole X hX hk
  rw [nil_append] at gc
  replace gc:Z9 (CK C).fok (CK C).fuel 1 (.name 0) [] (.bf .list [.ix (.v 1) (.v 0)]) (dI (rngI 0 (n+1).toNat)) [] [.hole,Di true es X]=_:=gc
  refine ⟨X',fun x0 x1 x3 x4=>?_⟩
  rw [ZG (js:=[2]) (caps:=[Di true es X]) (δ1:=[x0,x1,.hole,x3,x4]) rfl gc (by rw [ZZ,length_map,ZY,szl];omega)]
  rfl
 have hit:=Zb1 (n+1) (by omega)
 have z0:decide ((1:Int) < ((0:Nat):Int))=false:=rfl
 have z1:decide ((1:Int) < ((1:Nat):Int))=false:=rfl
 have sh:=Zx false (ds.map F)
 have sa:=Zx false (ks.map F)
 cases m with
 | none=>
  obtain ⟨X',gm⟩:=gl ds _ _ sh sh fun k hk=>Zdr F k ds (by have:=d7 k hk;rwa [toList_none,append_nil] at this)
  simp only [toList_none,ZbY] at hm1
  generalize dL false (ds.map F)=X at *
  generalize rngI 0 (n+1).toNat=rg at *
  (simp_all [k1,sa,rl,tru,ne,i1,i2,hit,hm1,gm,z0,List.isEmpty_nil])<;>rfl
 | some m=>
  obtain ⟨o1,o2,o3⟩:=d6 m rfl
  have br:=Znx C p r m n (ds.map F) hp hp2 h1 h2 (by omega) (by omega) (by rw [length_map];omega) fun l hl=>by
   obtain ⟨k,hk,rfl⟩:=List.mem_map.mp hl
   exact hF2 k hk
  rw [hb m rfl] at br
  have pa:=ZpK m (Ls true (F m)) ds (dL false (ds.map F)) (by rw [ZZ,length_map]) (by rw [ZZ,length_map];omega) o1
  have s2:shrL (dL false (ds.map F)++[Ls true (F m)])=dL false ((ds++[m]).map F):=by
   rw [ZeF,sh,map_append,Zb8]
   congr 1
   show [shr (Ls true (F m))]=_
   rw [shr,Zk]
   rfl
  obtain ⟨X',gm⟩:=gl (ds++[m]) (dL false (ds.map F)++[Ls true (F m)]) (dL false ((ds++[m]).map F)) s2 (Zx false _) fun k hk=>Zdr F k (ds++[m]) (d7 k hk)
  simp only [Option.toList_some,ZF,ZbY] at hm1
  have hck:∀ x1 x2 x3 x4:D,chkI C "balance" (.late 0) [Ro C true p r,x1,x2,x3,x4]=.ok ((),[Ro C true p r,x1,x2,x3,x4]):=fun x1 x2 x3 x4=>ZbT C _ 0 _ fs2 true _ rfl (by decide)
  have i0:((ixN' 1 0).bind fun j=>[D.sc (.int m)][j]?)=some (.sc (.int m)):=rfl
  have dv:∀ Y:List D,Ziw (.nd (.dic (dK ds)) Y)=some (.node .lst true Y):=fun _=>rfl
  generalize dL false (ds.map F)=X at *
  generalize rngI 0 (n+1).toNat=rg at *
  (simp_all [k1,k2,sa,rl,tru,ne,i1,i2,i0,hit,hm1,gm,hck,ZeR,sh,dv,br,pa,z1,List.isEmpty_cons])<;>rfl
def Zlp(C:Addr)(p r n:Int)(F:Int->List Int)(ks ds ms:List Int)(d1:ks≠[])(d2:ks.length<=900)(d3:dd [] ks=ds)(d5:(rngI 0 (n+1).toNat).filter (fun k=>!decide (k∈ds))=ms)(h2:ms.length=2)(hn:0<=n/\n < 100)
 (hF:∀ k∈ks,2<=(F k).length/\(F k).getD 0 0=k/\(F k).getD 1 0=n) (hf:(ZbN "labels lost: " (.nd .lst (dI ms))).isSome=true):
 (ZL C).run [Ro C true p r,.node .lst true (dL false (ks.map F))]=.exc (XL true ms) [Ro C true p r,.node .lst false (dL false (ks.map F))]:=by
 walk_at "r"
 have rl:=ZhJ F n ks d1 (by omega) hF
 rw [d3] at rl
 have k1:Zam.lend=false:=rfl
 have k3:Za7.lend=true:=rfl
 have ne:(dL false (ks.map F)).isEmpty=false:=by
  cases ks with
  | nil=>exact absurd rfl d1
  | cons k kt=>rfl
 have i1:∃ l0:List Int,((ixN' (dL false (ks.map F)).length 0).bind fun j=>(dL false (ks.map F))[j]?)=some (Ls false l0)/\((ixN' (dI l0).length 1).bind fun j=>(dI l0)[j]?)=some (.sc (.int n)):=by
  cases ks with
  | nil=>exact absurd rfl d1
  | cons k kt=>
   obtain ⟨q1,q2,q3⟩:=hF k mem_cons_self
   have:=ixI (F k) 1 (by omega) (by omega)
   simp only [Int.toNat_one,q3] at this
   exact ⟨F k,ixL false (F k::kt.map F) 0 (by simp),this⟩
 obtain ⟨l0,i1,i2⟩:=i1
 have tru:∀ xs:List D,truW (.nd .lst xs)=some (!xs.isEmpty):=fun _=>rfl
 obtain ⟨a',lc⟩:=ZfU C (fun i=>decide (1<=i)) rfl F ds (rngI 0 (n+1).toNat) [] .hole
 rw [nil_append,d5] at lc
 replace lc:Z9 (CK C).fok (CK C).fuel 1 (.name 0) [.cmp .NotIn (.v 0) (.v 1)] (.v 0) (dI (rngI 0 (n+1).toNat)) [] [.hole,Di true ds (dL false (ds.map F))]=_:=lc
 have hm1:∀ x0 x1 x3 x4:D,ZR 1 [2] (Z9 (CK C).fok (CK C).fuel 1 (.name 0) [.cmp .NotIn (.v 0) (.v 1)] (.v 0) (dI (rngI 0 (n+1).toNat)) []) [x0,x1,Di true ds (dL false (ds.map F)),x3,x4]=.ok (Ls true ms,[x0,x1,Di true ds (dL false (ds.map F)),x3,x4]):=fun x0 x1 x3 x4=>by
  rw [ZG (js:=[2]) (caps:=[Di true ds (dL false (ds.map F))]) (δ1:=[x0,x1,.hole,x3,x4]) rfl lc (by rw [Z0,h2,szl];omega)]
  rfl
 have hit:=Zb1 (n+1) (by omega)
 have sh:=Zx false (ds.map F)
 have sa:=Zx false (ks.map F)
 have hi:=ZjR ms hf
 have hl:decide ((1:Int) < ((dI ms).length:Int))=true:=by rw [Z0,h2];rfl
 have nx:¬ 1000 < 1:=by decide
 generalize dL false (ds.map F)=X at *
 generalize rngI 0 (n+1).toNat=rg at *
 (simp_all [k1,k3,sa,rl,tru,ne,i1,i2,hit,hm1,hl,hi,Zk,ZlN (ns:=["Lost","LabelError"]) (fi:=Za7) (ps:=[Op.late 4]) nx])<;>rfl
def ZsT(C:T.Ctx)(i:Nat)(es:List E):(evb C (.mut .extend i [] es)).1=((chkL i).bnd fun _=>(opds C es).bnd fun ps=>(views ps).bnd fun ws=>modS i (mutD .extend ws)):=(rfl)
def Zd3(xs:List D):cutD xs none (some (-1))=xs.dropLast:=by
 unfold cutD
 have e:HT.sIx xs.length xs.length (some (-1))=xs.length - 1:=by
  show (if (-1:Int) < 0 then (-1+(xs.length:Int)).toNat else min (-1:Int).toNat xs.length)=_
  rw [if_pos (by omega)]
  omega
 rw [e,List.dropLast_eq_take]
 rfl
def Zeo(o:Bool)(ls:List (List Int)):(dL o ls).dropLast=dL o ls.dropLast:=by
 unfold dL
 rw [List.dropLast_eq_take,List.dropLast_eq_take,List.map_take,length_map]
noncomputable def xcR(x:D):Rs (Unit×List D)->Rs (D×List D)
 | .ok (_,δ')=>.exc x δ'
 | _=>.stuck
def Zgf{ps:List Op}{x:D}:cxR ps δ (.exc x ds')=xcR x (ZC ps ds' δ):=by
 show (match ZC ps ds' δ with|.ok (_,δ')=>Rs.exc x δ'|_=>.stuck)=_
 unfold xcR
 cases ZC ps ds' δ<;>rfl
def Zfj(x:D)(u:Unit)(δ:List D):xcR x (.ok (u,δ))=.exc x δ:=(rfl)
noncomputable def lg(r:Int)(l:List Int):Bool:=decide (r < l.getD 2 0)
theorem Zlq(C:Addr)(lk:Nat->Bool)(h0:lk 0=false)(o:Bool)(p r:Int):∀(ls:List (List Int))(acc:List Bool)(a:D),(∀ l∈ls,3<=l.length)->∃ a',
 ZH (asgT lk (.name 0)) (tsts ⟨lk,(CK C).fok,(CK C).fuel⟩ []) (evb ⟨lk,(CK C).fok,(CK C).fuel⟩ (.cmp .Gt (.ix (.v 0) (.k (.int 2))) (.fld (.v 1) "room"))).1 (dL false ls) (acc.map fun b=>.sc (.bl b)) [a,Ro C o p r]=.ok ((acc++ls.map (lg r)).map fun b=>.sc (.bl b),[a',Ro C o p r]):=by
 intro ls
 induction ls with
 | nil=>exact fun acc a _=>⟨a,by rw [map_nil,append_nil];rfl⟩
 | cons l ls ih=>
  intro acc a hx
  obtain ⟨a',ih⟩:=ih (acc++[lg r l]) (Ls false l) fun y hy=>hx y (mem_cons_of_mem _ hy)
  refine ⟨a',?_⟩
  have q1:=hx l mem_cons_self
  have i2:((ixN' (dI l).length 2).bind fun j=>(dI l)[j]?)=some (.sc (.int (l.getD 2 0))):=ixI l 2 (by omega) (by omega)
  have hlt:decide (r < l.getD 2 0)=lg r l:=rfl
  have f2:=ZiB C (I p) (I r)
  rw [map_cons,show acc++(lg r l::ls.map (lg r))=acc++[lg r l]++ls.map (lg r) by rw [List.append_assoc];rfl,<- ih,Zbt,Zax,map_append (l₁:=acc)]
  generalize lg r l=bb at *
  generalize l.getD 2 0=y at *
  cases o<;>(simp_all [h0,i2,f2,hlt])
theorem ZhK:∀ bs:List Bool,Zaz (bs.map fun b=>D.sc (.bl b))=some bs
 | []=>rfl
 | b::bs=>by rw [map_cons,Zaz,ZhK bs];rfl
def ZlW(bs:List Bool):bfW .any [.nd .lst (bs.map fun b=>D.sc (.bl b))]=some (.sc (.bl (bs.any id))):=by
 show (Zaz _).map _=_
 rw [ZhK]
 rfl
noncomputable def alE(L:List (List Int))(ds:List D)(b:Bool):Rs (D×List D):=if b then .exc (XM true) ds else .ok (.node .lst true (dL false L),ds)
theorem Zlr(C:Addr)(p r:Int)(ls L:List (List Int))(hL:L.length<=1000)(h:∀ l∈ls,(ZA C).run [Ro C true p r,Ls false l]=.ok (.sc (.bl true),[Ro C true p r,Ls false l]))
 (hc:(ZL C).run [Ro C true p r,.node .lst true (dL false ls)]=.ok (.node .lst true (dL true L),[Ro C true p r,.node .lst false (dL false ls)])) (h2:∀ l∈L.dropLast,3<=l.length):
 (Zm C).run [Ro C true p r,.node .lst true (dL true ls)]=alE L [Ro C true p r,.node .lst false (dL false ls)] (L.dropLast.any (lg r)):=by
 have r1:=Zfi C p r ls h
 have k1:(Zad C).lend=true:=rfl
 have k2:(ZL C).lend=true:=rfl
 have k3:Zay.lend=true:=rfl
 have c1:∀ x1 x2:D,chkI C "check_labels" (.late 0) [Ro C true p r,x1,x2]=.ok ((),[Ro C true p r,x1,x2]):=fun x1 x2=>ZbT C _ 0 _ fs2 true _ rfl (by decide)
 have c2:∀ x1 x2:D,chkI C "completed" (.late 0) [Ro C true p r,x1,x2]=.ok ((),[Ro C true p r,x1,x2]):=fun x1 x2=>ZbT C _ 0 _ fs2 true _ rfl (by decide)
 obtain ⟨a',ac⟩:=Zlq C (fun i=>decide (1<=i)) rfl true p r L.dropLast [] .hole h2
 rw [nil_append] at ac
 replace ac:Z9 (CK C).fok (CK C).fuel 1 (.name 0) [] (.cmp .Gt (.ix (.v 0) (.k (.int 2))) (.fld (.v 1) "room")) (dL false L.dropLast) [] [.hole,Ro C true p r]=_:=ac
 have hm1:∀ x1 x2:D,ZR 1 [0] (Z9 (CK C).fok (CK C).fuel 1 (.name 0) [] (.cmp .Gt (.ix (.v 0) (.k (.int 2))) (.fld (.v 1) "room")) (dL false L.dropLast) []) [Ro C true p r,x1,x2]=.ok (.node .lst true ((L.dropLast.map (lg r)).map fun b=>.sc (.bl b)),[Ro C true p r,x1,x2]):=fun x1 x2=>by
  rw [ZG (js:=[0]) (caps:=[Ro C true p r]) (δ1:=[.hole,x1,x2]) rfl ac (by rw [length_map,length_map,length_dropLast,szl];omega)]
  rfl
 have sL:=Zx true L
 have cl:=Zd3 (dL false L)
 rw [Zeo] at cl
 have sd:=Zx false L.dropLast
 have an:=ZlW (L.dropLast.map (lg r))
 rw [show (L.dropLast.map (lg r)).any id=L.dropLast.any (lg r) by rw [any_map];rfl] at an
 generalize (L.dropLast.map (lg r)).map (fun b=>D.sc (.bl b))=bs at *
 generalize dL false L.dropLast=LD at *
 have mi:=ZiD
 have nx:¬ 1000 < 1:=by decide
 cases hb:L.dropLast.any (lg r) with
 | true=>
  rw [hb] at an
  show _=Rs.exc (XM true) _
  walk_at "r"
  (simp_all [k1,k2,k3,c1,c2,r1,hc,sL,cl,sd,hm1,an,mi,ZlN (ns:=["Mixed","LabelError"]) (fi:=Zay) (ps:=[Op.tmp (.sc .non)]) nx])<;>rfl
 | false=>
  rw [hb] at an
  show _=Rs.ok (D.node .lst true (dL false L),_)
  walk_at "r"
  (simp_all [k1,k2,c1,c2,r1,hc,sL,cl,sd,hm1,an])<;>rfl
def ZpL(C:Addr)(p r:Int)(ls:List (List Int))(x:D)(h:∀ l∈ls,(ZA C).run [Ro C true p r,Ls false l]=.ok (.sc (.bl true),[Ro C true p r,Ls false l]))
 (hc:(ZL C).run [Ro C true p r,.node .lst true (dL false ls)]=.exc x [Ro C true p r,.node .lst false (dL false ls)]):
 (Zm C).run [Ro C true p r,.node .lst true (dL true ls)]=.exc x [Ro C true p r,.node .lst false (dL false ls)]:=by
 have r1:=Zfi C p r ls h
 have k1:(Zad C).lend=true:=rfl
 have k2:(ZL C).lend=true:=rfl
 have c1:∀ x1 x2:D,chkI C "check_labels" (.late 0) [Ro C true p r,x1,x2]=.ok ((),[Ro C true p r,x1,x2]):=fun x1 x2=>ZbT C _ 0 _ fs2 true _ rfl (by decide)
 have c2:∀ x1 x2:D,chkI C "completed" (.late 0) [Ro C true p r,x1,x2]=.ok ((),[Ro C true p r,x1,x2]):=fun x1 x2=>ZbT C _ 0 _ fs2 true _ rfl (by decide)
 walk_at "r"
 (simp_all [k1,k2,c1,c2,r1,hc,Zgf,Zfj])<;>rfl
noncomputable def gat(l:List Int):List Int:=cutI l (some 3) (some (3+l.getD 2 0))
def ZpM(i:Nat)(δ:List D)(xs ys:List Int)(h:xs.length+ys.length<=100000):mdR i δ (mutD .extend [.nd .lst (dI ys)]) (some (Ls true xs))=.ok (.sc .non,δ.set i (Ls true (xs++ys))):=by
 have e:mutD .extend [.nd .lst (dI ys)] .lst (dI xs)=some (.sc .non,.lst,dI (xs++ys)):=by
  show (if (dI xs).length+(dI ys).length<=sizeLine then some (D.sc .non,Kd.lst,dI xs++dI ys) else none)=_
  rw [if_pos (by rw [Z0,Z0,szl];omega),Zac]
 show (match mutD .extend [.nd .lst (dI ys)] .lst (dI xs) with
  | some (r,k',ds')=>Rs.ok (r,δ.set i (.node k' true ds'))
  | none=>.stuck)=_
 rw [e]
theorem Zls(C:Addr)(lk:Nat->Bool)(h2:lk 2=false)(h3:lk 3=false)(x0 x1:D):∀(ls:List (List Int))(row:List Int)(a:D),row.length+100 * ls.length<=100000->(∀ l∈ls,3<=l.length/\l.length<=100)->∃ a',
 forL (asgT lk (.name 3)) (exs ⟨lk,(CK C).fok,(CK C).fuel⟩ [.lf (.ex (.mut .extend 2 [] [.sl (.v 3) (.k (.int 3)) (.bin .Add (.k (.int 3)) (.ix (.v 3) (.k (.int 2))))]))]) (dL false ls) [x0,x1,Ls true row,a]=.ok (.nx,[x0,x1,Ls true (row++(ls.map gat).flatten),a']):=by
 intro ls
 induction ls with
 | nil=>exact fun row a _ _=>⟨a,by rw [map_nil,List.flatten_nil,append_nil];rfl⟩
 | cons l ls ih=>
  intro row a hz hl
  obtain ⟨q1,q2⟩:=hl l mem_cons_self
  have hg:(gat l).length<=l.length:=Zfz _ _ _
  rw [length_cons] at hz
  obtain ⟨a',ih⟩:=ih (row++gat l) (Ls false l) (by rw [List.length_append];omega) fun y hy=>hl y (mem_cons_of_mem _ hy)
  refine ⟨a',?_⟩
  have i2:((ixN' (dI l).length 2).bind fun j=>(dI l)[j]?)=some (.sc (.int (l.getD 2 0))):=ixI l 2 (by omega) (by omega)
  have ct:cutD (dI l) (some 3) (some (3+l.getD 2 0))=dI (gat l):=ZbJ l _ _
  have me:=fun δ=>ZpM 2 δ row (gat l) (by omega)
  rw [map_cons,flatten_cons,<- List.append_assoc,<- ih,Zbt,ZaH]
  generalize gat l=g at *
  generalize l.getD 2 0=y at *
  simp_all [h2,h3,ZsT,i2,ct,me]
def Zlt(C:Addr)(p r:Int)(ls L:List (List Int))(hL:L.length<=900)(hl:∀ l∈L,3<=l.length/\l.length<=100)
 (hc:(Zm C).run [Ro C true p r,.node .lst true (dL true ls)]=.ok (.node .lst true (dL false L),[Ro C true p r,.node .lst false (dL false ls)])):
 (ZB C).run [Ro C true p r,.node .lst true (dL true ls)]=.ok (Ls true (L.dropLast.map gat).flatten,[Ro C true p r,.node .lst false (dL false ls)]):=by
 have k1:(Zm C).lend=true:=rfl
 have c1:∀ x1 x2 x3:D,chkI C "all_labels" (.late 0) [Ro C true p r,x1,x2,x3]=.ok ((),[Ro C true p r,x1,x2,x3]):=fun x1 x2 x3=>ZbT C _ 0 _ fs2 true _ rfl (by decide)
 obtain ⟨a',gl⟩:=Zls C (fun j=>decide (j < 2) || walked [.sl (.meth C "all_labels" (Zm C) (.v 0) [.v 1]) (.k .non) (.neg (.k (.int 1)))] j) rfl rfl (Ro C true p r) (.node .lst false (dL false ls)) L.dropLast [] .hole (by rw [length_dropLast];show 0+_<=_;omega) fun l h=>hl l ((dropLast_sublist L).subset h)
 simp only [walked,Bool.or_false,nil_append,Ls,ZbY] at gl
 have cl:=Zd3 (dL false L)
 rw [Zeo] at cl
 have sd:=Zx false L.dropLast
 have n0:newL []=some (.node .lst true []):=ZI _ (by simp)
 generalize dL false L.dropLast=LD at *
 walk_at "r"
 (simp_all [ZjJ,ZpF,k1,c1,hc,cl,sd,n0,gl])<;>rfl
def ZjS(C:Addr)(p r:Int)(ls:List (List Int))(x:D)
 (hc:(Zm C).run [Ro C true p r,.node .lst true (dL true ls)]=.exc x [Ro C true p r,.node .lst false (dL false ls)]):
 (ZB C).run [Ro C true p r,.node .lst true (dL true ls)]=.exc x [Ro C true p r,.node .lst false (dL false ls)]:=by
 have k1:(Zm C).lend=true:=rfl
 have c1:∀ x1 x2 x3:D,chkI C "all_labels" (.late 0) [Ro C true p r,x1,x2,x3]=.ok ((),[Ro C true p r,x1,x2,x3]):=fun x1 x2 x3=>ZbT C _ 0 _ fs2 true _ rfl (by decide)
 have n0:newL []=some (.node .lst true []):=ZI _ (by simp)
 walk_at "r"
 (simp_all [ZjJ,ZpE,k1,c1,hc,n0,Zgf,Zfj])<;>rfl
noncomputable def Fb(p n:Int)(B:List (List Int))(k:Int):List Int:=lab p ([k,n]++B.getD k.toNat [])
structure Bod(p r n:Int)(B:List (List Int)):Prop where
 p7:7<=p
 p47:p<=47
 r1:1<=r
 r5:r<=p - 5
 n1:1<=n
 np:n < p
 len:B.length=(n+1).toNat
 one:∀ b∈B,(b.length:Int)=r+1
 sym:∀ b∈B,∀ x∈b,0<=x/\x < p
def Bod.at{r:Int}(h:Bod p r n B){k:Int}(h0:0<=k)(h1:k<=n):((B.getD k.toNat []).length:Int)=r+1/\∀ x∈B.getD k.toNat [],0<=x/\x < p:=by
 have hk:k.toNat < B.length:=by rw [h.len];omega
 rw [getD_eq_getElem?_getD,List.getElem?_eq_getElem hk]
 exact ⟨h.one _ (getElem_mem hk),h.sym _ (getElem_mem hk)⟩
def Bod.lab{r:Int}(h:Bod p r n B){k:Int}(h0:0<=k)(h1:k<=n):((Fb p n B k).length:Int)=r+5/\(∀ x∈Fb p n B k,0<=x/\x < p)/\(Fb p n B k).getD 0 0=k/\(Fb p n B k).getD 1 0=n/\∀ q:Nat,(q:Int)<=r->(Fb p n B k).getD (q+2) 0=(B.getD k.toNat []).getD q 0:=by
 obtain ⟨a1,a2⟩:=h.at h0 h1
 have:=h.np
 have:=h.p7
 refine ⟨?_,Znw p (by omega) _ fun x hx=>?_,rfl,rfl,fun q hq=>?_⟩
 . unfold Fb
   rw [ZhG,List.length_append]
   show ((2+_+2:Nat):Int)=_
   omega
 . rcases List.mem_append.mp hx with hx|hx
   . simp only [mem_cons,not_mem_nil,or_false] at hx
     rcases hx with rfl|rfl<;>omega
   . exact a2 x hx
 . unfold Fb _root_.My.lab
   rw [getD_eq_getElem?_getD,List.getElem?_append_left (by rw [List.length_append];show q+2 < 2+_;omega),getD_eq_getElem?_getD]
   rfl
def Bod.is{r:Int}(h:Bod p r n B)(C:Addr){k:Int}(h0:0<=k)(h1:k<=n):(ZA C).run [Ro C true p r,Ls false (Fb p n B k)]=.ok (.sc (.bl true),[Ro C true p r,Ls false (Fb p n B k)]):=by
 obtain ⟨a1,a2,a3,a4,_⟩:=h.lab h0 h1
 have:=h.np
 have:=h.p7
 have:=h.p47
 have:=h.r5
 have:=h.n1
 exact ZjP C p r _ (by omega) (by omega) a1 h.r1 a2 (Zlm p _) (by rw [a4];omega) (by rw [a3,a4];exact h1)
theorem Zlu{xs:List Int}(h:xs.Perm ys):xs.sum=ys.sum:=by
 induction h with
 | nil=>rfl
 | cons x _ ih=>rw [sum_cons,sum_cons,ih]
 | swap x y l=>rw [sum_cons,sum_cons,sum_cons,sum_cons];omega
 | trans _ _ a b=>exact a.trans b
theorem ZhL(B:List (List Int)):∀(n j:Nat),j+n=B.length->(rngI j n).map (fun k=>B.getD k.toNat [])=B.drop j
 | 0,j,h=>by rw [drop_of_length_le (by omega)];rfl
 | n+1,j,h=>by
  have hj:j < B.length:=by omega
  have e:((j:Int)+1)=((j+1:Nat):Int):=by omega
  rw [rngI,map_cons,e,ZhL B n (j+1) (by omega),drop_eq_getElem_cons hj,toNat_natCast,getD_eq_getElem?_getD,List.getElem?_eq_getElem hj]
  rfl
def Bod.back{r:Int}(h:Bod p r n B){m:Int}{ds:List Int}(hm:0<=m/\m<=n)(hds:∀ k∈ds,0<=k/\k<=n)(hp:(ds++[m]).Perm (rngI 0 (n+1).toNat))(hc:∀ q:Nat,(q:Int)<=r->(B.map fun b=>b.getD q 0).sum % p=0):
 My.lab p ([m,n]++(rngI 2 (r+1).toNat).map (col p (ds.map (Fb p n B))))=Fb p n B m:=by
 unfold Fb
 congr 2
 obtain ⟨a1,a2⟩:=h.at hm.1 hm.2
 have hr:=h.r1
 have p7:=h.p7
 refine Zla (by rw [length_map,ZY];omega) fun q hq=>?_
 rw [length_map,ZY] at hq
 have hq':(q:Int)<=r:=by omega
 rw [show (2:Int)=0+2 by rfl,ZgL,getD_eq_getElem?_getD,getElem?_map]
 have gq:∀(N j:Nat)(a:Int),j < N->(rngI a N)[j]?=some (a+j):=fun N=>by
  induction N with
  | zero=>exact fun j a h=>absurd h (by omega)
  | succ N ih=>
   intro j a hj
   rw [rngI]
   cases j with
   | zero=>simp
   | succ j=>rw [getElem?_cons_succ,ih j (a+1) (by omega)];congr 1;omega
 rw [gq _ _ _ hq]
 show col p (ds.map (Fb p n B)) (0+(q:Int)+2)=_
 unfold col
 have e1:(ds.map (Fb p n B)).map (fun l=>l.getD (0+(q:Int)+2).toNat 0)=ds.map fun k=>(B.getD k.toNat []).getD q 0:=by
  rw [map_map]
  refine List.map_congr_left fun k hk=>?_
  show (Fb p n B k).getD (0+(q:Int)+2).toNat 0=_
  rw [show (0+(q:Int)+2).toNat=q+2 by omega]
  exact (h.lab (hds k hk).1 (hds k hk).2).2.2.2.2 q hq'
 rw [e1]
 have e2:=Zlu (hp.map fun k=>(B.getD k.toNat []).getD q 0)
 rw [map_append,sum_append] at e2
 have e3:(rngI 0 (n+1).toNat).map (fun k=>(B.getD k.toNat []).getD q 0)=B.map fun b=>b.getD q 0:=by
  have:=ZhL B (n+1).toNat 0 (by rw [h.len];omega)
  rw [drop_zero] at this
  rw [<- congrArg (List.map fun b=>b.getD q 0) this,map_map]
  rfl
 rw [e3] at e2
 have e4:=hc q hq'
 rw [<- e2] at e4
 have hx:(B.getD m.toNat []).getD q 0∈B.getD m.toNat []:=by
  have:q < (B.getD m.toNat []).length:=by omega
  rw [getD_eq_getElem?_getD (i:=q),List.getElem?_eq_getElem this]
  exact getElem_mem this
 have hy:=a2 _ hx
 simp only [map_cons,map_nil,sum_cons,List.sum_nil,Int.add_zero] at e4
 generalize (ds.map fun k=>(B.getD k.toNat []).getD q 0).sum=S at e4
 generalize (B.getD m.toNat []).getD q 0=y at *
 have f1:=Int.emod_add_mul_ediv (S+y) p
 rw [e4] at f1
 have f2:-S=y+p * (-((S+y) / p)):=by rw [Int.mul_neg];omega
 rw [f2,Int.add_mul_emod_self_left,Int.emod_eq_of_lt hy.1 hy.2]
def ZjT{k:Int}(h:acc.Nodup):(ins acc k).Nodup:=by
 unfold ins
 split
 . exact h
 . rename_i hk
   rw [List.nodup_append]
   exact ⟨h,by simp,fun a ha b hb=>by simp only [List.mem_singleton] at hb;subst hb;exact fun e=>hk (e ▸ ha)⟩
def Zn1{k x:Int}:x∈ins acc k↔x∈acc\/x=k:=by
 unfold ins
 split
 . rename_i hk
   exact ⟨.inl,fun h=>h.elim id fun e=>e ▸ hk⟩
 . rw [List.mem_append,List.mem_singleton]
theorem ZgM:∀{ks acc:List Int},acc.Nodup->(dd acc ks).Nodup
 | [],_,h=>h
 | k::ks,_,h=>ZgM (ks:=ks) (ZjT h)
theorem Zfk{x:Int}:∀{ks acc:List Int},x∈dd acc ks↔x∈acc\/x∈ks
 | [],acc=>by simp [dd]
 | k::ks,acc=>by
  show x∈dd (ins acc k) ks↔_
  rw [Zfk,Zn1,mem_cons,or_assoc]
theorem ZcR:∀(n:Nat)(a x:Int),a<=x->x < a+n->x∈rngI a n
 | 0,a,x,h,h'=>by omega
 | n+1,a,x,h,h'=>by
  rw [rngI]
  by_cases e:x=a
  . (exact e ▸ mem_cons_self)
  . exact mem_cons_of_mem _ (ZcR n (a+1) x (by omega) (by omega))
theorem Zcq:∀(n:Nat)(a:Int),(rngI a n).Nodup
 | 0,_=>List.nodup_nil
 | n+1,a=>by
  rw [rngI,List.nodup_cons]
  exact ⟨fun h=>by have:=ZS n (a+1) a h;omega,Zcq n (a+1)⟩
def dealt(h0:0<=n)(hn:ks≠[])(hl:ks.length<=900)(hk:∀ k,k∈ks↔(0<=k/\k<=n)/\m≠some k)(hm:∀ k,m=some k->0<=k/\k<=n):
 Dealt n ks (dd [] ks) m/\(dd [] ks++m.toList).Perm (rngI 0 (n+1).toNat):=by
 have mem:∀ x,x∈dd [] ks↔(0<=x/\x<=n)/\m≠some x:=fun x=>by rw [Zfk,<- hk];simp
 have rm:∀ x,x∈rngI 0 (n+1).toNat↔0<=x/\x<=n:=fun x=>⟨fun h=>by have:=ZS _ _ _ h;omega,fun h=>ZcR _ _ _ h.1 (by omega)⟩
 have nd:(dd [] ks).Nodup:=ZgM List.nodup_nil
 have hl2:=ZjQ ks []
 have al:∀ x,x∈dd [] ks++m.toList↔0<=x/\x<=n:=fun x=>by
  rw [List.mem_append,mem,Option.mem_toList]
  constructor
  . rintro (h|h)
    . exact h.1
    . exact hm x h
  . intro h
    by_cases e:m=some x
    . exact .inr e
    . exact .inl ⟨h,e⟩
 refine ⟨⟨hn,hl,rfl,by simpa using le_trans hl2 (by simpa using hl),?_,fun k hk=>⟨fun h=>((mem k).mp h).2 hk,hm k hk⟩,fun k hk=>(al k).mpr ((rm k).mp hk)⟩,(List.perm_ext_iff_of_nodup ?_ (Zcq _ _)).mpr fun x=>(al x).trans (rm x).symm⟩
 . cases m with
   | none=>
    rw [toList_none,List.filter_eq_nil_iff]
    intro k hk
    simp [(mem k).mpr ⟨(rm k).mp hk,by simp⟩]
   | some m=>
    have e:(rngI 0 (n+1).toNat).filter (fun k=>!decide (k∈dd [] ks))=(rngI 0 (n+1).toNat).filter (· == m):=by
     refine List.filter_congr fun k hk=>?_
     have:=mem k
     by_cases q:k=m
     . subst q
       simp [this]
     . have:k∈dd [] ks:=this.mpr ⟨(rm k).mp hk,fun z=>q (by cases z;rfl)⟩
       simp [this,q]
    rw [e,List.filter_beq,List.Nodup.count (Zcq _ _),if_pos ((rm m).mpr (hm m rfl))]
    rfl
 . rw [List.nodup_append]
   refine ⟨nd,by cases m<;>simp,fun a ha b hb=>?_⟩
   rw [Option.mem_toList] at hb
   exact fun e=>((mem a).mp ha).2 (e ▸ hb)
theorem ZhM:∀(n:Nat)(a:Int),(rngI a n).Pairwise (·<=·)
 | 0,_=>List.Pairwise.nil
 | n+1,a=>by
  rw [rngI,List.pairwise_cons]
  exact ⟨fun x h=>by have:=ZS n (a+1) x h;omega,ZhM n (a+1)⟩
def ZpN(hk:∀ k,k∈ks↔(0<=k/\k<=n)/\k≠m1/\k≠m2)(h1:0<=m1)(h12:m1 < m2)(h2:m2<=n):(rngI 0 (n+1).toNat).filter (fun k=>!decide (k∈dd [] ks))=[m1,m2]:=by
 have rm:∀ x,x∈rngI 0 (n+1).toNat↔0<=x/\x<=n:=fun x=>⟨fun h=>by have:=ZS _ _ _ h;omega,fun h=>ZcR _ _ _ h.1 (by omega)⟩
 refine lks_uniq ((List.perm_ext_iff_of_nodup ((Zcq _ _).filter _) (by simp;omega)).mpr fun x=>?_) ((ZhM _ _).filter _) (by simp;omega)
 rw [mem_filter,rm]
 simp only [not_eq_true',decide_eq_false_iff_not,Zfk,not_mem_nil,false_or,hk,mem_cons,or_false]
 constructor
 . rintro ⟨h,q⟩
   by_cases e1:x=m1
   . exact .inl e1
   . by_cases e2:x=m2
     . exact .inr e2
     . exact absurd ⟨h,e1,e2⟩ q
 . rintro (rfl|rfl)
   . exact ⟨by omega,fun q=>q.2.1 rfl⟩
   . exact ⟨by omega,fun q=>q.2.2 rfl⟩
def ZhN(C:Addr){r:Int}(h:Bod p r n B)(hc:∀ k,m=some k->∀ q:Nat,(q:Int)<=r->(B.map fun b=>b.getD q 0).sum % p=0)
 (hn:ks≠[]) (hl:ks.length<=900) (hk:∀ k,k∈ks↔(0<=k/\k<=n)/\m≠some k) (hm:∀ k,m=some k->0<=k/\k<=n):
 (Zm C).run [Ro C true p r,.node .lst true (dL true (ks.map (Fb p n B)))]=alE ((rngI 0 (n+1).toNat).map (Fb p n B)) [Ro C true p r,.node .lst false (dL false (ks.map (Fb p n B)))] (((rngI 0 (n+1).toNat).map (Fb p n B)).dropLast.any (lg r)):=by
 obtain ⟨D1,D2⟩:=dealt (by have:=h.n1;omega) hn hl hk hm
 have n1:=h.n1
 have np:=h.np
 have p47:=h.p47
 have r1:=h.r1
 have mem:∀ k∈dd [] ks,0<=k/\k<=n:=fun k q=>by
  rw [Zfk] at q
  exact ((hk k).mp (q.resolve_left (by simp))).1
 refine Zlr C p r _ _ (by rw [length_map,ZY];omega) (fun l q=>?_) (Zga C p r n (Fb p n B) ks (dd [] ks) m D1 h.p7 h.p47 h.r1 h.r5 (by omega) (fun k q=>?_) (fun k q=>?_) fun k q=>?_) fun l q=>?_
 . obtain ⟨k,q',rfl⟩:=List.mem_map.mp q
   have:=((hk k).mp q').1
   exact h.is C this.1 this.2
 . have:=((hk k).mp q).1
   obtain ⟨a1,a2,a3,a4,_⟩:=h.lab this.1 this.2
   exact ⟨by omega,a3,a4⟩
 . have:=h.lab (mem k q).1 (mem k q).2
   omega
 . subst q
   exact h.back (hm k rfl) mem D2 (hc k rfl)
 . obtain ⟨k,q',rfl⟩:=List.mem_map.mp ((dropLast_sublist _).subset q)
   have q:=ZS _ _ _ q'
   have:=(h.lab (k:=k) (by omega) (by omega)).1
   omega
def Zlv(C:Addr){r:Int}(h:Bod p r n B)(hn:ks≠[])(hl:ks.length<=900)(hk:∀ k,k∈ks↔(0<=k/\k<=n)/\k≠m1/\k≠m2)(h1:0<=m1)(h12:m1 < m2)(h2:m2<=n)(h6:n<=6):
 (Zm C).run [Ro C true p r,.node .lst true (dL true (ks.map (Fb p n B)))]=.exc (XL true [m1,m2]) [Ro C true p r,.node .lst false (dL false (ks.map (Fb p n B)))]:=by
 have hf:(ZbN "labels lost: " (.nd .lst (dI [m1,m2]))).isSome=true:=by
  have all:∀ x:Nat,x < 7->∀ y:Nat,y < 7->(ZbN "labels lost: " (.nd .lst (dI [(x:Int),(y:Int)]))).isSome=true:=by walk_at "d"
  have:=all m1.toNat (by omega) m2.toNat (by omega)
  rwa [Int.toNat_of_nonneg h1,Int.toNat_of_nonneg (by omega)] at this
 have np:=h.np
 refine ZpL C p r _ _ (fun l q=>?_) (Zlp C p r n (Fb p n B) ks (dd [] ks) [m1,m2] hn hl rfl (ZpN hk h1 h12 h2) rfl (by omega) (fun k q=>?_) hf)
 . obtain ⟨k,q',rfl⟩:=List.mem_map.mp q
   have:=((hk k).mp q').1
   exact h.is C this.1 this.2
 . have:=((hk k).mp q).1
   obtain ⟨a1,a2,a3,a4,_⟩:=h.lab this.1 this.2
   have:=h.r1
   exact ⟨by omega,a3,a4⟩
def Zn2{lk:Nat->Bool}{δ':List D}{x:D}(h:body δ=.exc x δ')(hh:hits c x=true)(hi:i < δ'.length)(hl:lk i=false):tryM lk body c (some i) suite δ=Zix i (suite (δ'.set i x)):=by
 unfold tryM
 rw [h]
 dsimp only
 rw [if_pos hh,if_pos (by rw [hl,decide_eq_true hi];rfl)]
def Zlw(i:Nat)(f:Fl)(δ:List D):Zix i (.ok (f,δ))=.ok (f,δ.set i .hole):=(rfl)
def ZpO{lk:Nat->Bool}{nm:Option Nat}{r:Fl×List D}(h:body δ=.ok r):tryM lk body c nm suite δ=.ok r:=by
 unfold tryM
 rw [h]
theorem Zep(C:T.Ctx)(b:List T.S):∀(a:List T.S)(δ:List D),exs C (a++b) δ=seqR (exs C b) (exs C a δ)
 | [],δ=>by rw [nil_append,exs0];rfl
 | s::a,δ=>by
  rw [cons_append,exs1,exs1]
  cases ex C s δ with
  | stuck=>rfl
  | exc x y=>rfl
  | ok r=>
   obtain ⟨f,δ'⟩:=r
   cases f with
   | nx=>exact Zep C b a δ'
   | rt d=>rfl
   | bk=>rfl
   | ct=>rfl
noncomputable abbrev c3(C:Addr):T.Ctx:=⟨fun i=>decide (i < 3),(CK C).fok,(CK C).fuel⟩
def hx3(C:Addr)(b s:List T.S)(δ:List D):ex (c3 C) (.try_ b "LabelError" (some 5) s) δ=tryM (fun i=>decide (i < 3)) (exs (c3 C) b) "LabelError" (some 5) (exs (c3 C) s) δ:=rfl
noncomputable abbrev tb(C:Addr):List T.S:=[.ifX (.cmp .Eq (.v 2) (.k (.int 0))) [.asgY 4 (.meth C "gathered" (ZB C) (.v 0) [.v 1])] [.asgY 4 (.meth C "all_labels" (Zm C) (.v 0) [.v 1])]]
noncomputable def wf(C:Addr)(w:Int):FI:=if w=0 then ZB C else Zm C
def Zn3(C:Addr)(p r w:Int)(hw:w=0\/w=1)(o o':Bool)(X Y:List D)(d x3 x5:D)(h:(wf C w).run [Ro C true p r,.node .lst true X]=.ok (d,[Ro C true p r,.node .lst o Y])):
 exs (c3 C) (tb C) [Ro C true p r,.node .lst true X,I w,x3,.sc .non,x5]=.ok (.nx,[Ro C true p r,.node .lst o Y,I w,x3,d,x5]):=by
 have k1:(ZB C).lend=true:=rfl
 have k2:(Zm C).lend=true:=rfl
 have ck:∀(m:Str)(hm:m∉fs2)(x1 x2 x3 x4 x5:D),chkI C m (.late 0) [Ro C true p r,x1,x2,x3,x4,x5]=.ok ((),[Ro C true p r,x1,x2,x3,x4,x5]):=fun m hm x1 x2 x3 x4 x5=>ZbT C m 0 _ fs2 true _ rfl hm
 have c1:=ck "gathered" (by decide)
 have c2:=ck "all_labels" (by decide)
 rcases hw with rfl|rfl
 . replace h:(ZB C).run _=_:=h
   (simp_all [k1,c1,h])<;>rfl
 . replace h:(Zm C).run _=_:=h
   have z:decide (V.int 1=V.int 0)=false:=rfl
   (simp_all [z,k2,c2,h])<;>rfl
def ZpP(C:Addr)(p r w:Int)(hw:w=0\/w=1)(o:Bool)(X Y:List D)(x x3 x5:D)(h:(wf C w).run [Ro C true p r,.node .lst true X]=.exc x [Ro C true p r,.node .lst o Y]):
 exs (c3 C) (tb C) [Ro C true p r,.node .lst true X,I w,x3,.sc .non,x5]=.exc x [Ro C true p r,.node .lst o Y,I w,x3,.sc .non,x5]:=by
 have k1:(ZB C).lend=true:=rfl
 have k2:(Zm C).lend=true:=rfl
 have ck:∀(m:Str)(hm:m∉fs2)(x1 x2 x3 x4 x5:D),chkI C m (.late 0) [Ro C true p r,x1,x2,x3,x4,x5]=.ok ((),[Ro C true p r,x1,x2,x3,x4,x5]):=fun m hm x1 x2 x3 x4 x5=>ZbT C m 0 _ fs2 true _ rfl hm
 have c1:=ck "gathered" (by decide)
 have c2:=ck "all_labels" (by decide)
 rcases hw with rfl|rfl
 . replace h:(ZB C).run _=_:=h
   (simp_all [k1,c1,h,Zgf,Zfj])<;>rfl
 . replace h:(Zm C).run _=_:=h
   have z:decide (V.int 1=V.int 0)=false:=rfl
   (simp_all [z,k2,c2,h,Zgf,Zfj])<;>rfl
def ZgN(C:Addr)(p r w:Int)(hw:w=0\/w=1)(o:Bool)(X Y ds:List D)(h:(wf C w).run [Ro C true p r,.node .lst true X]=.ok (.node .lst true ds,[Ro C true p r,.node .lst o Y])):
 (Zw C).run [Ro C true p r,.node .lst true X,I w]=.ok (.node .tup true [.sc (.str "told"),.node .lst false (shrL ds)],[Ro C true p r,.node .lst o Y,I w]):=by
 have h:=Zn3 C p r w hw o true X Y _ (.sc .non) .hole h
 refine runB (f:=Zw C) (C:=CK C) (n:=3) (N:=6) (b:=Z5 C) rfl rfl ?_
 show ZaN 3 (exs (c3 C) ((Z5 C).take 3++(Z5 C).drop 3) [Ro C true p r,.node .lst true X,I w,.hole,.hole,.hole])=_
 rw [Zep]
 have ht:=ZpO (lk:=fun i=>decide (i < 3)) (c:="LabelError") (nm:=some 5) (suite:=exs (c3 C) [.asg 3 (.v 5)]) h
 have n2:∀ a b:D,newT [a,b]=some (.node .tup true [a,b]):=fun a b=>Zdj _ (by rw [szl];simp)
 have hnn:isNW true (.sc .non)=.sc (.bl true):=rfl
 have hpre:exs (c3 C) ((Z5 C).take 3) [Ro C true p r,.node .lst true X,I w,.hole,.hole,.hole]=.ok (.nx,[Ro C true p r,.node .lst o Y,I w,.sc .non,.node .lst true ds,.hole]):=by
  simp only [Z5,take_succ_cons,take_zero]
  simp_all [hx3,ht]
 rw [hpre]
 show ZaN 3 (exs (c3 C) (_::_) _)=_
 (simp_all [hnn,n2])<;>rfl
def ZhO(C:Addr)(p r w:Int)(hw:w=0\/w=1)(o:Bool)(X Y:List D)(x x' d:D)(hh:hits "LabelError" x=true)(hv:∀ (δ:List D),vlR 5 δ (some x)=.ok (x',δ.set 5 x'))(h:(wf C w).run [Ro C true p r,.node .lst true X]=.exc x [Ro C true p r,.node .lst o Y])
 (hr:∀ y0 y1 y2:D,ZaN 3 (exs (c3 C) ((Z5 C).drop 3) [y0,y1,y2,x',.sc .non,.hole])=.ok (d,[y0,y1,y2])):
 (Zw C).run [Ro C true p r,.node .lst true X,I w]=.ok (d,[Ro C true p r,.node .lst o Y,I w]):=by
 have h:=ZpP C p r w hw o X Y _ (.sc .non) .hole h
 refine runB (f:=Zw C) (C:=CK C) (n:=3) (N:=6) (b:=Z5 C) rfl rfl ?_
 show ZaN 3 (exs (c3 C) ((Z5 C).take 3++(Z5 C).drop 3) [Ro C true p r,.node .lst true X,I w,.hole,.hole,.hole])=_
 rw [Zep]
 have ht:=Zn2 (lk:=fun i=>decide (i < 3)) (c:="LabelError") (i:=5) (suite:=exs (c3 C) [.asg 3 (.v 5)]) h hh (show 5 < 6 by decide) rfl
 have hpre:exs (c3 C) ((Z5 C).take 3) [Ro C true p r,.node .lst true X,I w,.hole,.hole,.hole]=.ok (.nx,[Ro C true p r,.node .lst o Y,I w,x',.sc .non,.hole]):=by
  simp only [Z5,take_succ_cons,take_zero]
  simp_all [hx3,ht,hv,Zlw]
 rw [hpre]
 exact hr _ _ _
def Zfl(C:Addr)(p r w:Int)(hw:w=0\/w=1)(o:Bool)(X Y:List D)(ms:List Int)(h:(wf C w).run [Ro C true p r,.node .lst true X]=.exc (XL true ms) [Ro C true p r,.node .lst o Y]):
 (Zw C).run [Ro C true p r,.node .lst true X,I w]=.ok (.node .tup true [.sc (.str "lost"),Ls false ms],[Ro C true p r,.node .lst o Y,I w]):=by
 refine ZhO C p r w hw o X Y _ (XL false ms) _ (by kernel_rfl) (fun δ=>?_) h fun y0 y1 y2=>by kernel_rfl
 show Rs.ok (D.node _ false (shrL [Ls true ms]),_)=_
 have:shrL [Ls true ms]=[Ls false ms]:=by
  show [shr (Ls true ms)]=_
  rw [shr,Zk]
 rw [this]
def Zex(C:Addr)(p r w:Int)(hw:w=0\/w=1)(o:Bool)(X Y:List D)(h:(wf C w).run [Ro C true p r,.node .lst true X]=.exc (XM true) [Ro C true p r,.node .lst o Y]):
 (Zw C).run [Ro C true p r,.node .lst true X,I w]=.ok (.node .tup true [.sc (.str "mixed"),.sc .non],[Ro C true p r,.node .lst o Y,I w]):=
 ZhO C p r w hw o X Y _ (XM false) _ (by kernel_rfl) (fun δ=>rfl) h fun y0 y1 y2=>by kernel_rfl
theorem Zn4(h0:lk 0=false):∀(ls acc:List (List Int))(a:D),∃ a',
 ZH (asgT lk (.name 0)) (tsts ⟨lk,fok,fuel⟩ []) (evb ⟨lk,fok,fuel⟩ (.bf .list [.v 0])).1 (dL false ls) (dL true acc) [a]=.ok (dL true (acc++ls),[a']):=by
 intro ls
 induction ls with
 | nil=>exact fun acc a=>⟨a,by rw [append_nil];rfl⟩
 | cons l ls ih=>
  intro acc a
  obtain ⟨a',ih⟩:=ih (acc++[l]) (Ls false l)
  refine ⟨a',?_⟩
  have e:acc++l::ls=acc++[l]++ls:=by rw [List.append_assoc];rfl
  rw [e,<- ih,Zbt,Zax,Zb8]
  simp_all [h0]
def Zf5(fok:Addr->Str->Bool)(fuel:Nat)(ls:List (List Int))(hl:ls.length<=100000)(δ:List D):ZR 1 [] (Z9 fok fuel 1 (.name 0) [] (.bf .list [.v 0]) (dL false ls) []) δ=.ok (.node .lst true (dL true ls),δ):=by
 obtain ⟨a',hc⟩:=Zn4 (fun i=>decide (1<=i)) fok fuel rfl ls [] .hole
 rw [nil_append] at hc
 replace hc:Z9 fok fuel 1 (.name 0) [] (.bf .list [.v 0]) (dL false ls) [] [.hole]=_:=hc
 rw [ZG (js:=[]) (caps:=[]) rfl hc (by rw [ZZ,szl];omega),Zbh]
 rfl
def ZhP(l:List Int)(hl:l.length<=1000):Zak.run [Ls false l,Ls false l]=.ok (.sc (.bl true),[Ls false l,Ls false l]):=ZhI 1 l hl
noncomputable abbrev rB(C:Addr):List T.S:=[.unp [4,5] (.call (Zw C) [.v 0,.comp 1 [] (.name 0) .val [.v 1] [] (.bf .list [.v 0]),.v 3]),.iff (.cmp .NotEq (.v 4) (.ix (.v 2) (.k (.int 0)))) [.ret (.k (.bl false))] [],.iff (.and (.cmp .Eq (.v 4) (.k (.str "mixed"))) (.isN false (.v 5))) [.ret (.k (.bl false))] [],.iff (.and (.cmp .Eq (.v 4) (.k (.str "lost"))) (.nt (.call Zak [.v 5,.ix (.v 2) (.k (.int 1))]))) [.ret (.k (.bl false))] [],.iff (.and (.cmp .Eq (.v 4) (.k (.str "told"))) (.nt (.call Zak [.v 5,.ix (.v 2) (.bin .Add (.k (.int 1)) (.v 3))]))) [.ret (.k (.bl false))] []]
noncomputable abbrev Cr(C:Addr):T.Ctx:=⟨fun i=>decide (i < 3),(CK C).fok,(CK C).fuel⟩
def dz:decide (V.str "mixed"=V.str "lost")=false/\decide (V.str "mixed"=V.str "told")=false/\decide (V.str "lost"=V.str "mixed")=false/\decide (V.str "lost"=V.str "told")=false/\decide (V.str "told"=V.str "mixed")=false/\decide (V.str "told"=V.str "lost")=false:=⟨by kernel_rfl,by kernel_rfl,by kernel_rfl,by kernel_rfl,by kernel_rfl,by kernel_rfl⟩
def Zf6(z:Str):Za3 .NotEq (.sc (.str z)) (.sc (.str z))=some false:=by
 show some (!decide (V.str z=V.str z))=_
 rw [decide_eq_true rfl]
 rfl
section
variable(C:Addr)(p r w:Int)(KS:List (List Int))(hK:KS.length<=900)(Y a3 a4 a5:D)
include hK
theorem Zfm(ha:(Zw C).run [Ro C true p r,.node .lst true (dL true KS),I w]=.ok (.node .tup true [.sc (.str "mixed"),.sc .non],[Ro C true p r,Y,I w])):
 ((asgT (fun i=>decide (i < 3)) (.name 3) (I w)).bnd fun _=>exs (Cr C) (rB C)) [Ro C true p r,.node .lst true (dL false KS),.node .tup true [.sc (.str "mixed"),.sc .non],a3,a4,a5]=.ok (.nx,[Ro C true p r,.node .lst true (dL false KS),.node .tup true [.sc (.str "mixed"),.sc .non],I w,.sc (.str "mixed"),.sc .non]):=by
 have cp:=Zf5 (CK C).fok (CK C).fuel KS (by omega)
 have sh:=Zx false KS
 have k1:(Zw C).lend=true:=rfl
 obtain ⟨z1,z2,_⟩:=dz
 have ns:=Zf6 "mixed"
 have nn:isNW false (.sc .non)=.sc (.bl false):=rfl
 have i0:((ixN' 2 0).bind fun j=>[D.sc (.str "mixed"),D.sc .non][j]?)=some (.sc (.str "mixed")):=rfl
 generalize dL false KS=KF at *
 generalize dL true KS=KT at *
 (simp_all [k1,sh,cp,ha,ns,i0,z1,z2,nn])<;>rfl
theorem ZfV(ms:List Int)(hm:ms.length<=1000)(ha:(Zw C).run [Ro C true p r,.node .lst true (dL true KS),I w]=.ok (.node .tup true [.sc (.str "lost"),Ls false ms],[Ro C true p r,Y,I w])):
 ((asgT (fun i=>decide (i < 3)) (.name 3) (I w)).bnd fun _=>exs (Cr C) (rB C)) [Ro C true p r,.node .lst true (dL false KS),.node .tup true [.sc (.str "lost"),Ls false ms],a3,a4,a5]=.ok (.nx,[Ro C true p r,.node .lst true (dL false KS),.node .tup true [.sc (.str "lost"),Ls false ms],I w,.sc (.str "lost"),Ls false ms]):=by
 have cp:=Zf5 (CK C).fok (CK C).fuel KS (by omega)
 have sh:=Zx false KS
 have k1:(Zw C).lend=true:=rfl
 have k2:Zak.lend=true:=rfl
 obtain ⟨_,_,z1,z2,_⟩:=dz
 have ns:=Zf6 "lost"
 have sm:=ZhP ms hm
 have i0:∀ d:D,((ixN' 2 0).bind fun j=>[D.sc (.str "lost"),d][j]?)=some (.sc (.str "lost")):=fun _=>rfl
 have i1:∀ d:D,((ixN' 2 1).bind fun j=>[D.sc (.str "lost"),d][j]?)=some d:=fun _=>rfl
 generalize dL false KS=KF at *
 generalize dL true KS=KT at *
 (simp_all [k1,k2,sh,cp,ha,ns,i0,i1,z1,z2,sm,Zk])<;>rfl
theorem ZjU(hw:w=0\/w=1)(row:List Int)(L:List (List Int))(hr:row.length<=1000)(hL:L.length<=1000)(hl:∀ l∈L,l.length<=1000)
 (ha:(Zw C).run [Ro C true p r,.node .lst true (dL true KS),I w]=.ok (.node .tup true [.sc (.str "told"),if w=0 then Ls false row else .node .lst false (dL false L)],[Ro C true p r,Y,I w])):
 ((asgT (fun i=>decide (i < 3)) (.name 3) (I w)).bnd fun _=>exs (Cr C) (rB C)) [Ro C true p r,.node .lst true (dL false KS),.node .tup true [.sc (.str "told"),Ls false row,.node .lst false (dL false L)],a3,a4,a5]=.ok (.nx,[Ro C true p r,.node .lst true (dL false KS),.node .tup true [.sc (.str "told"),Ls false row,.node .lst false (dL false L)],I w,.sc (.str "told"),if w=0 then Ls false row else .node .lst false (dL false L)]):=by
 have cp:=Zf5 (CK C).fok (CK C).fuel KS (by omega)
 have sh:=Zx false KS
 have sL:=Zx false L
 have k1:(Zw C).lend=true:=rfl
 have k2:Zak.lend=true:=rfl
 obtain ⟨_,_,_,_,z1,z2⟩:=dz
 have ns:=Zf6 "told"
 have sm:=ZhP row hr
 have sn:=Zld L hL hl
 have i0:∀ d e:D,((ixN' 3 0).bind fun j=>[D.sc (.str "told"),d,e][j]?)=some (.sc (.str "told")):=fun _ _=>rfl
 have i1:∀ d e:D,((ixN' 3 1).bind fun j=>[D.sc (.str "told"),d,e][j]?)=some d:=fun _ _=>rfl
 have i2:∀ d e:D,((ixN' 3 2).bind fun j=>[D.sc (.str "told"),d,e][j]?)=some e:=fun _ _=>rfl
 have e0:(1:Int)+0=1:=rfl
 have e1:(1:Int)+1=2:=rfl
 generalize dL false KS=KF at *
 generalize dL true KS=KT at *
 generalize dL false L=LF at *
 rcases hw with rfl|rfl
 . rw [if_pos rfl] at ha ⊢
   (simp_all [k1,k2,sh,sL,cp,ha,ns,i0,i1,z1,z2,sm,Zk,e0])<;>rfl
 . rw [if_neg (by decide)] at ha ⊢
   (simp_all [k1,k2,sh,sL,cp,ha,ns,i0,i2,z1,z2,sn,Zk,e1])<;>rfl
omit hK in
theorem ZdX(DU:D)(t0:∀ a3 a4 a5:D,∃ b4 b5:D,((asgT (fun i=>decide (i < 3)) (.name 3) (I 0)).bnd fun _=>exs (Cr C) (rB C)) [Ro C true p r,.node .lst true (dL false KS),DU,a3,a4,a5]=.ok (.nx,[Ro C true p r,.node .lst true (dL false KS),DU,I 0,b4,b5]))
 (t1:∀ a3 a4 a5:D,∃ b4 b5:D,((asgT (fun i=>decide (i < 3)) (.name 3) (I 1)).bnd fun _=>exs (Cr C) (rB C)) [Ro C true p r,.node .lst true (dL false KS),DU,a3,a4,a5]=.ok (.nx,[Ro C true p r,.node .lst true (dL false KS),DU,I 1,b4,b5])):
 (Zan C).run [Ro C true p r,.node .lst true (dL false KS),DU]=.ok (.sc (.bl true),[Ro C true p r,.node .lst true (dL false KS),DU]):=by
 obtain ⟨b4,b5,t0⟩:=t0 .hole .hole .hole
 obtain ⟨c4,c5,t1⟩:=t1 (I 0) b4 b5
 have fl:forL (asgT (fun i=>decide (i < 3)) (.name 3)) (exs (Cr C) (rB C)) [I 0,I 1] [Ro C true p r,.node .lst true (dL false KS),DU,.hole,.hole,.hole]=.ok (.nx,[Ro C true p r,.node .lst true (dL false KS),DU,I 1,c4,c5]):=by
  rw [ZaH,t0,Zfx,ZaH,t1,Zfx]
  rfl
 have n2:∀ u v:D,newL [u,v]=some (.node .lst true [u,v]):=fun u v=>ZI _ (by rw [szl];simp)
 have fl2:forL (asgT (fun j=>decide (j < 3) || walked [.lst [.k (.int 0),.k (.int 1)]] j) (.name 3)) (exs ⟨fun j=>decide (j < 3) || walked [.lst [.k (.int 0),.k (.int 1)]] j,(CK C).fok,(CK C).fuel⟩ (rB C)) [I 0,I 1] [Ro C true p r,.node .lst true (dL false KS),DU,.hole,.hole,.hole]=.ok (.nx,[Ro C true p r,.node .lst true (dL false KS),DU,I 1,c4,c5]):=by
  simp only [walked,Bool.or_false]
  exact fl
 simp only [walked,Bool.or_false] at fl2
 generalize dL false KS=KF at *
 walk_at "r"
 (simp_all [n2,fl2])<;>rfl
end
def ZcS(ns:List Int)(k:Int):∃ c:Int,Z6.run [scr ns,I k]=.ok (I c,[scr ns,I k]):=by
 have hc:cutD (ns.map fun i=>D.sc (.int i)) (some k) (some (k+1))=dI (cutI ns (some k) (some (k+1))):=ZbJ ns _ _
 generalize cutI ns (some k) (some (k+1))=cs at hc
 have sm:=ZaI cs
 refine ⟨cs.sum,?_⟩
 walk_at "r"
 (simp_all [hc,sm,scr])<;>rfl
def Zn5(ys:List Int):cutI ys (some 2) none=ys.drop 2:=by
 have e2:=HT.Zho ys.length 0 2
 rw [show ((2:Nat):Int)=2 from rfl] at e2
 have e3:HT.sIx ys.length ys.length none=ys.length:=rfl
 unfold cutI
 rw [e2,e3]
 by_cases h:2<=ys.length
 . rw [Nat.min_eq_left h,List.take_of_length_le (by rw [length_drop];omega)]
 . (rw [Nat.min_eq_right (by omega),drop_of_length_le (le_refl _),drop_of_length_le (by omega)])
   simp
def bok(p r:Int)(b:List Int):Prop:=(b.length:Int)=r+1/\∀ x∈b,0<=x/\x < p
def modc(fok:Addr->Str->Bool)(fuel:Nat)(p:Int)(hp:0 < p)(xs:List Int)(hx:xs.length<=1000)(x0 x2 x3 x4 x5 x6:D):ZR 1 [1] (Z9 fok fuel 1 (.name 0) [] (.bin .Mod (.v 0) (.v 1)) (dI xs) []) [x0,I p,x2,x3,x4,x5,x6]=.ok (Ls true (xs.map fun x=>x % p),[x0,I p,x2,x3,x4,x5,x6]):=by
 obtain ⟨a',hc⟩:=Zlh (fun i=>decide (1<=i)) fok fuel rfl p hp xs [] .hole
 rw [nil_append] at hc
 replace hc:Z9 fok fuel 1 (.name 0) [] (.bin .Mod (.v 0) (.v 1)) (dI xs) [] [.hole,I p]=_:=hc
 rw [ZG (js:=[1]) (caps:=[I p]) (δ1:=[x0,.hole,x2,x3,x4,x5,x6]) rfl hc (by rw [Z0,length_map,szl];omega)]
 rfl
def ZhQ(p:Int)(hp:0 < p)(xs:List Int):∀ x∈xs.map (fun x=>x % p),0<=x/\x < p:=fun x h=>by
 obtain ⟨y,_,rfl⟩:=List.mem_map.mp h
 (exact ⟨emod_nonneg _ (by omega),emod_lt_of_pos _ hp⟩)
noncomputable abbrev bdB:List S:=[.asg 5 (.call Z4 [.call Z6 [.v 0,.bin .Add (.k (.int 2)) (.v 4)],.bin .Add (.v 2) (.k (.int 2))]),.asg 6 (.bin .Mod (.ix (.v 5) (.k (.int 0))) (.bin .Add (.v 2) (.k (.int 1)))),.iff (.cmp .Eq (.bin .Mod (.ix (.v 5) (.k (.int 1))) (.k (.int 8))) (.k (.int 1))) [.asg 6 (.bin .Add (.bin .Add (.v 2) (.k (.int 1))) (.bin .Mod (.ix (.v 5) (.k (.int 0))) (.bin .Sub (.bin .Sub (.v 1) (.v 2)) (.k (.int 1)))))] [],.ex (.mut .append 3 [] [.bin .Add (.lst [.v 6]) (.comp 1 [1] (.name 0) .val [.sl (.v 5) (.k (.int 2)) (.k .non)] [] (.bin .Mod (.v 0) (.v 1)))])]
theorem Zlx(h3:lk 3=false)(h4:lk 4=false)(h5:lk 5=false)(h6:lk 6=false)(ns:List Int)(p r:Int)(hp:7<=p)(hp2:p<=47)(h1:1<=r)(h2:r<=p - 5):∀(ts:List Int)(acc:List (List Int))(a b c:D),acc.length+ts.length<=1000->∃(new:List (List Int))(a' b' c':D),new.length=ts.length/\(∀ l∈new,bok p r l)/\
 forL (asgT lk (.name 4)) (exs ⟨lk,fok,fuel⟩ bdB) (dI ts) [scr ns,I p,I r,.node .lst true (dL true acc),a,b,c]=.ok (.nx,[scr ns,I p,I r,.node .lst true (dL true (acc++new)),a',b',c']):=by
 intro ts
 induction ts with
 | nil=>exact fun acc a b c _=>⟨[],a,b,c,rfl,fun l h=>by simp at h,by rw [append_nil];rfl⟩
 | cons t ts ih=>
  intro acc a b c hz
  rw [length_cons] at hz
  obtain ⟨cc,hh⟩:=ZcS ns (2+t)
  obtain ⟨ys,hy,hs⟩:=Zcp cc (r.toNat+2) (by omega)
  rw [show ((r.toNat+2:Nat):Int)=r+2 by omega] at hs
  have i0:((ixN' (dI ys).length 0).bind fun j=>(dI ys)[j]?)=some (.sc (.int (ys.getD 0 0))):=ixI ys 0 (by omega) (by omega)
  have i1:((ixN' (dI ys).length 1).bind fun j=>(dI ys)[j]?)=some (.sc (.int (ys.getD 1 0))):=ixI ys 1 (by omega) (by omega)
  generalize ys.getD 0 0=y0 at *
  generalize ys.getD 1 0=y1 at *
  have d1:binW .Mod (.sc (.int y0)) (.sc (.int (r+1)))=some (.sc (.int (y0 % (r+1)))):=ZJ _ _ (by omega)
  have d2:binW .Mod (.sc (.int y1)) (.sc (.int 8))=some (.sc (.int (y1 % 8))):=ZJ _ _ (by decide)
  have d3:binW .Mod (.sc (.int y0)) (.sc (.int (p - r - 1)))=some (.sc (.int (y0 % (p - r - 1)))):=ZJ _ _ (by omega)
  have ct:cutD (dI ys) (some 2) none=dI (ys.drop 2):=by rw [ZbJ,Zn5]
  have hd:(ys.drop 2).length=r.toNat:=by rw [length_drop];omega
  have mc:=modc fok fuel p (by omega) (ys.drop 2) (by omega)
  have ms:=ZhQ p (by omega) (ys.drop 2)
  have ml:((ys.drop 2).map fun x=>x % p).length=r.toNat:=by rw [length_map,hd]
  generalize (ys.drop 2).map (fun x=>x % p)=zs at *
  have n1:∀ u:D,newL [u]=some (.node .lst true [u]):=fun u=>ZI _ (by rw [szl];simp)
  have cat:∀ u:Int,binW .Add (.nd .lst [.sc (.int u)]) (.nd .lst (dI zs))=some (Ls true (u::zs)):=fun u=>by
   rw [Zek _ _ (by rw [List.length_append,Z0,szl];show 1+_<=_;omega)]
   rfl
  have ap:∀(δ:List D)(l:List Int),mdR 3 δ (appD (Ls true l)) (some (.node .lst true (dL true acc)))=.ok (.sc .non,δ.set 3 (.node .lst true (dL true (acc++[l])))):=fun δ l=>by
   rw [ZeZ 3 δ _ _ (by rw [ZZ,szl];omega),Zb8]
   rfl
  have k1:Z6.lend=true:=rfl
  have k2:Z4.lend=true:=rfl
  have q0:=emod_nonneg y0 (show r+1≠0 by omega)
  have q1:=emod_lt_of_pos y0 (show 0 < r+1 by omega)
  have q2:=emod_nonneg y0 (show p - r - 1≠0 by omega)
  have q3:=emod_lt_of_pos y0 (show 0 < p - r - 1 by omega)
  simp only [scr] at hh
  have fin:∀ u:Int,0<=u->u < p->bok p r (u::zs):=fun u h0 h1=>⟨by rw [length_cons,ml];omega,fun x hx=>by
   (rcases List.mem_cons.mp hx with rfl|hx)
   . exact ⟨h0,h1⟩
   . exact ms x hx⟩
  by_cases hd8:y1 % 8=1
  . obtain ⟨new,a',b',c',e1,e2,e3⟩:=ih (acc++[(r+1+y0 % (p - r - 1))::zs]) (I t) (Ls true ys) (I (r+1+y0 % (p - r - 1))) (by rw [List.length_append,length_singleton];omega)
    refine ⟨((r+1+y0 % (p - r - 1))::zs)::new,a',b',c',by rw [length_cons,length_cons,e1],fun l h=>?_,?_⟩
    . (rcases List.mem_cons.mp h with rfl|h)
      . exact fin _ (by omega) (by omega)
      . exact e2 l h
    . rw [show acc++(((r+1+y0 % (p - r - 1))::zs)::new)=acc++[(r+1+y0 % (p - r - 1))::zs]++new by rw [List.append_assoc];rfl,<- e3,ZF,ZaH]
      simp_all [h3,h4,h5,h6,k1,k2,hh,hs,i0,i1,d1,d2,d3,hd8,V.int.injEq,ct,Zk,mc,n1,cat,ap,scr]
  . obtain ⟨new,a',b',c',e1,e2,e3⟩:=ih (acc++[y0 % (r+1)::zs]) (I t) (Ls true ys) (I (y0 % (r+1))) (by rw [List.length_append,length_singleton];omega)
    refine ⟨(y0 % (r+1)::zs)::new,a',b',c',by rw [length_cons,length_cons,e1],fun l h=>?_,?_⟩
    . (rcases List.mem_cons.mp h with rfl|h)
      . exact fin _ (by omega) (by omega)
      . exact e2 l h
    . rw [show acc++((y0 % (r+1)::zs)::new)=acc++[y0 % (r+1)::zs]++new by rw [List.append_assoc];rfl,<- e3,ZF,ZaH]
      simp_all [h3,h4,h5,h6,k1,k2,hh,hs,i0,i1,d1,d2,hd8,V.int.injEq,ct,Zk,mc,n1,cat,ap,scr]
def ZiE(ns:List Int)(p r:Int)(hp:7<=p)(hp2:p<=47)(h1:1<=r)(h2:r<=p - 5):∃(n:Nat)(B:List (List Int))(X:List D),1<=n/\n<=6/\Bod p r n B/\shrL X=dL false B/\Zbo.run [scr ns,I p,I r]=.ok (.node .lst true X,[scr ns,I p,I r]):=by
 obtain ⟨c1,hh1⟩:=ZcS ns 1
 obtain ⟨c8,hh8⟩:=ZcS ns 8
 obtain ⟨ys,hy,hs⟩:=Zcp c8 (r.toNat+1) (by omega)
 rw [show ((r.toNat+1:Nat):Int)=r+1 by omega] at hs
 have q0:=emod_nonneg c1 (show (6:Int)≠0 by decide)
 have q1:=emod_lt_of_pos c1 (show (0:Int) < 6 by decide)
 have mn:bfW .min [.sc (.int 6),.sc (.int (p - 1))]=some (.sc (.int 6)):=by
  show some (D.sc (.int (if p - 1 < 6 then p - 1 else 6)))=_
  rw [if_neg (by omega)]
 have d1:binW .Mod (.sc (.int c1)) (.sc (.int 6))=some (.sc (.int (c1 % 6))):=ZJ _ _ (by decide)
 have hit:=Zb1 (1+c1 % 6) (by omega)
 obtain ⟨new,a',b',c',e1,e2,e3⟩:=Zlx (fun j=>decide (j < 3) || walked [.bin .Add (.k (.int 1)) (.bin .Mod (.call Z6 [.v 0,.k (.int 1)]) (.bf .min [.k (.int 6),.bin .Sub (.v 1) (.k (.int 1))]))] j) (fun _ _=>false) 0 rfl rfl rfl rfl ns p r hp hp2 h1 h2 (rngI 0 (1+c1 % 6).toNat) [] .hole .hole .hole (by rw [ZY];show 0+_<=_;omega)
 rw [ZY] at e1
 rw [nil_append] at e3
 simp only [walked,Bool.or_false,scr,Ls,ZbY,dL,map_nil] at e3
 have mc:=modc (fun _ _=>false) 0 p (by omega) ys (by omega)
 have ms:=ZhQ p (by omega) ys
 have ml:(ys.map fun x=>x % p).length=r.toNat+1:=by rw [length_map,hy]
 generalize ys.map (fun x=>x % p)=zs at *
 have n1:∀ u:D,newL [u]=some (.node .lst true [u]):=fun u=>ZI _ (by rw [szl];simp)
 have n0:newL []=some (.node .lst true []):=ZI _ (by simp)
 have cat:binW .Add (.nd .lst (dL false new)) (.nd .lst [Ls true zs])=some (.node .lst true (dL false new++[Ls true zs])):=Zek _ _ (by rw [List.length_append,ZZ,szl];show _+1<=_;omega)
 have sh:=Zx true new
 have k1:Z6.lend=true:=rfl
 have k2:Z4.lend=true:=rfl
 simp only [scr] at hh1 hh8
 generalize rngI 0 (1+c1 % 6).toNat=rg at *
 refine ⟨(1+c1 % 6).toNat,new++[zs],dL false new++[Ls true zs],by omega,by omega,⟨hp,hp2,h1,h2,by omega,by omega,by rw [List.length_append,e1];show _+1=_;omega,fun b hb=>?_,fun b hb=>?_⟩,?_,?_⟩
 . (rcases List.mem_append.mp hb with hb|hb)
   . exact (e2 b hb).1
   . rw [List.mem_singleton.mp hb,ml]
     omega
 . (rcases List.mem_append.mp hb with hb|hb)
   . exact (e2 b hb).2
   . (rw [List.mem_singleton.mp hb])
     exact ms
 . rw [ZeF,Zx,Zb8]
   congr 1
   show [shr (Ls true zs)]=_
   rw [shr,Zk]
   rfl
 . walk_at "r"
   generalize dL false new=NF at *
   (simp_all [k1,k2,hh1,hh8,hs,mn,d1,hit,n0,n1,e3,mc,cat,sh,Zk,scr])<;>rfl
def ZlX{f:Kd->List D->Option (D×Kd×List D)}{k k':Kd}{r:D}(e:f k ds=some (r,k',ds')):mdR i δ f (some (.node k true ds))=.ok (r,δ.set i (.node k' true ds')):=by
 show (match f k ds with
  | some (r,k',ds')=>Rs.ok (r,δ.set i (.node k' true ds'))
  | none=>.stuck)=_
 rw [e]
def ZsU(o:Bool)(i:Int)(xs:List D)(h:-(2 ^ 63)<=i/\i < 2 ^ 63):mutD .popAt [.sc (.int i)] .lst xs=(ixN' xs.length i).bind fun j=>xs[j]?.map fun d=>(d,.lst,xs.eraseIdx j):=if_pos h
def Zn6(C:T.Ctx)(i:Nat)(es:List E):(evb C (.mut .popAt i [] es)).1=((chkL i).bnd fun _=>(opds C es).bnd fun ps=>(views ps).bnd fun ws=>modS i (mutD .popAt ws)):=(rfl)
theorem ZgO{β:Type}(f:α->β):∀(xs:List α)(j:Nat),(xs.map f).eraseIdx j=(xs.eraseIdx j).map f
 | [],_=>rfl
 | x::xs,0=>rfl
 | x::xs,j+1=>by rw [map_cons,List.eraseIdx_cons_succ,List.eraseIdx_cons_succ,map_cons,ZgO f xs j]
theorem ZjV{k:Int}:∀(xs:List Int)(j:Nat)(h:j < xs.length),k∈xs↔k=xs[j]\/k∈xs.eraseIdx j
 | x::xs,0,h=>by rw [List.eraseIdx_cons_zero,mem_cons];rfl
 | x::xs,j+1,h=>by
  rw [List.eraseIdx_cons_succ,mem_cons,mem_cons,ZjV xs j (by simpa using h),List.getElem_cons_succ]
  constructor
  . rintro (h|h|h)
    . exact .inr (.inl h)
    . exact .inl h
    . exact .inr (.inr h)
  . rintro (h|h|h)
    . exact .inr (.inl h)
    . exact .inl h
    . exact .inr (.inr h)
def Zly(i:Nat)(δ:List D)(o:Bool)(F:Int->List Int)(ls:List Int)(j:Nat)(hj:j < ls.length)(hz:ls.length<=1000):mdR i δ (mutD .popAt [.sc (.int (j:Int))]) (some (.node .lst true (dL o (ls.map F))))=.ok (Ls o (F ls[j]),δ.set i (.node .lst true (dL o ((ls.eraseIdx j).map F)))):=by
 refine ZlX ?_
 rw [ZsU o _ _ (by omega),Zdl _ j (by rw [ZZ,length_map];exact hj)]
 show (dL o (ls.map F))[j]?.map _=_
 unfold dL
 rw [getElem?_map,getElem?_map,List.getElem?_eq_getElem hj,ZgO,ZgO]
 rfl
noncomputable def gb(l:List Int):List Int:=cutI l (some 1) (some (l.getD 0 0+1))
theorem Zlz(C:Addr)(lk:Nat->Bool)(h8:lk 8=false)(h9:lk 9=false)(x0 x1 x2 x3 x4 x5 x6 x7 x10 x11 x12 x13:D):∀(ls:List (List Int))(row:List Int)(a:D),row.length+100 * ls.length<=100000->(∀ l∈ls,1<=l.length/\l.length<=100)->∃ a',
 forL (asgT lk (.name 9)) (exs ⟨lk,(CK C).fok,(CK C).fuel⟩ [.asg 8 (.bin .Add (.v 8) (.sl (.v 9) (.k (.int 1)) (.bin .Add (.ix (.v 9) (.k (.int 0))) (.k (.int 1)))))]) (dL false ls) [x0,x1,x2,x3,x4,x5,x6,x7,Ls true row,a,x10,x11,x12,x13]=.ok (.nx,[x0,x1,x2,x3,x4,x5,x6,x7,Ls true (row++(ls.map gb).flatten),a',x10,x11,x12,x13]):=by
 intro ls
 induction ls with
 | nil=>exact fun row a _ _=>⟨a,by rw [map_nil,List.flatten_nil,append_nil];rfl⟩
 | cons l ls ih=>
  intro row a hz hl
  obtain ⟨q1,q2⟩:=hl l mem_cons_self
  have hg:(gb l).length<=l.length:=Zfz _ _ _
  rw [length_cons] at hz
  obtain ⟨a',ih⟩:=ih (row++gb l) (Ls false l) (by rw [List.length_append];omega) fun y hy=>hl y (mem_cons_of_mem _ hy)
  refine ⟨a',?_⟩
  have i0:((ixN' (dI l).length 0).bind fun j=>(dI l)[j]?)=some (.sc (.int (l.getD 0 0))):=ixI l 0 (by omega) (by omega)
  have ct:cutD (dI l) (some 1) (some (l.getD 0 0+1))=dI (gb l):=ZbJ l _ _
  have cat:binW .Add (.nd .lst (dI row)) (.nd .lst (dI (gb l)))=some (Ls true (row++gb l)):=by
   rw [Zek _ _ (by rw [List.length_append,Z0,Z0,szl];omega),Ls,Zac]
  rw [map_cons,flatten_cons,<- List.append_assoc,<- ih,Zbt,ZaH]
  generalize gb l=g at *
  generalize l.getD 0 0=y at *
  simp_all [h8,h9,i0,ct,cat,Zk]
noncomputable def lb(r:Int)(l:List Int):Bool:=decide (r < l.getD 0 0)
theorem ZjW(C:Addr)(lk:Nat->Bool)(h0:lk 0=false)(r:Int):∀(ls:List (List Int))(acc:List Bool)(a:D),(∀ l∈ls,1<=l.length)->∃ a',
 ZH (asgT lk (.name 0)) (tsts ⟨lk,(CK C).fok,(CK C).fuel⟩ []) (evb ⟨lk,(CK C).fok,(CK C).fuel⟩ (.cmp .Gt (.ix (.v 0) (.k (.int 0))) (.v 1))).1 (dL false ls) (acc.map fun b=>.sc (.bl b)) [a,I r]=.ok ((acc++ls.map (lb r)).map fun b=>.sc (.bl b),[a',I r]):=by
 intro ls
 induction ls with
 | nil=>exact fun acc a _=>⟨a,by rw [map_nil,append_nil];rfl⟩
 | cons l ls ih=>
  intro acc a hx
  obtain ⟨a',ih⟩:=ih (acc++[lb r l]) (Ls false l) fun y hy=>hx y (mem_cons_of_mem _ hy)
  refine ⟨a',?_⟩
  have q1:=hx l mem_cons_self
  have i0:((ixN' (dI l).length 0).bind fun j=>(dI l)[j]?)=some (.sc (.int (l.getD 0 0))):=ixI l 0 (by omega) (by omega)
  have hlt:decide (r < l.getD 0 0)=lb r l:=rfl
  rw [map_cons,show acc++(lb r l::ls.map (lb r))=acc++[lb r l]++ls.map (lb r) by rw [List.append_assoc];rfl,<- ih,Zbt,Zax,map_append (l₁:=acc)]
  generalize lb r l=bb at *
  generalize l.getD 0 0=y at *
  simp_all [h0,i0,hlt]
def ZsV(i:Int)(is:List Int):Za3 .NotIn (.sc (.int i)) (.nd .lst (dI is))=some (!decide (i∈is)):=by
 show (Zal (dI is)).map (fun is=>!decide (i∈is))=_
 rw [ZbO]
 rfl
theorem ZjX(C:Addr)(lk:Nat->Bool)(h0:lk 0=false)(L:List (List Int))(oo:Bool)(out:List Int):∀(ks:List Int)(acc:List (List Int))(a:D),(∀ k∈ks,0<=k/\k < (L.length:Int))->∃ a',
 ZH (asgT lk (.name 0)) (tsts ⟨lk,(CK C).fok,(CK C).fuel⟩ [.cmp .NotIn (.v 0) (.v 2)]) (evb ⟨lk,(CK C).fok,(CK C).fuel⟩ (.ix (.v 1) (.v 0))).1 (dI ks) (dL false acc) [a,.node .lst false (dL false L),Ls oo out]=.ok (dL false (acc++(ks.filter fun k=>!decide (k∈out)).map fun k=>L.getD k.toNat []),[a',.node .lst false (dL false L),Ls oo out]):=by
 intro ks
 induction ks with
 | nil=>exact fun acc a _=>⟨a,by rw [List.filter_nil,map_nil,append_nil];rfl⟩
 | cons k ks ih=>
  intro acc a hk
  have hk':=fun y hy=>hk y (mem_cons_of_mem _ hy)
  have nn:=ZsV k out
  obtain ⟨q0,q1⟩:=hk k mem_cons_self
  have ix:((ixN' (dL false L).length k).bind fun j=>(dL false L)[j]?)=some (Ls false (L.getD k.toNat [])):=by
   have:=ixL false L k.toNat (by omega)
   rwa [Int.toNat_of_nonneg q0] at this
  rw [ZF,Zax,List.filter_cons]
  by_cases h:k∈out
  . obtain ⟨a',ih⟩:=ih acc (I k) hk'
    refine ⟨a',?_⟩
    rw [if_neg (by simp [h]),<- ih]
    rw [decide_eq_true h,Bool.not_true] at nn
    cases oo<;>(simp_all [h0,nn,Zk])
  . obtain ⟨a',ih⟩:=ih (acc++[L.getD k.toNat []]) (I k) hk'
    refine ⟨a',?_⟩
    rw [if_pos (by simp [h]),map_cons,show acc++(L.getD k.toNat []::(ks.filter fun k=>!decide (k∈out)).map fun k=>L.getD k.toNat [])=acc++[L.getD k.toNat []]++(ks.filter fun k=>!decide (k∈out)).map (fun k=>L.getD k.toNat []) by rw [List.append_assoc];rfl,<- ih,Zb8]
    rw [decide_eq_false h,Bool.not_false] at nn
    generalize L.getD k.toNat []=lk0 at *
    generalize dL false L=LF at *
    cases oo<;>(simp_all [h0,nn,ix,Zk])
theorem ZjY(C:Addr)(lk:Nat->Bool)(h11:lk 11=false)(h12:lk 12=false)(h13:lk 13=false)(F:Int->List Int)(ys:List Int)(x0 x1 x2 x3 x4 x6 x7 x8 x9 x10:D):∀(N j:Nat)(ls ks:List Int)(a:D),ls.length=N->4+j+N<=ys.length->ls.length+ks.length<=900->∃(ks':List Int)(a':D),(∀ k,k∈ks'↔k∈ks\/k∈ls)/\ks'.length=ks.length+N/\
 forL (asgT lk (.name 13)) (exs ⟨lk,(CK C).fok,(CK C).fuel⟩ [.ex (.mut .append 12 [] [.mut .popAt 11 [] [.bin .Mod (.ix (.v 5) (.bin .Add (.k (.int 4)) (.v 13))) (.bf .len [.v 11])]])]) (dI (rngI j N)) [x0,x1,x2,x3,x4,Ls true ys,x6,x7,x8,x9,x10,.node .lst true (dL false (ls.map F)),.node .lst true (dL false (ks.map F)),a]
  = .ok (.nx,[x0,x1,x2,x3,x4,Ls true ys,x6,x7,x8,x9,x10,.node .lst true [],.node .lst true (dL false (ks'.map F)),a']):=by
 intro N
 induction N with
 | zero=>
  intro j ls ks a hl _ _
  have e:ls=[]:=List.length_eq_zero_iff.mp hl
  subst e
  exact ⟨ks,a,fun k=>by simp,rfl,rfl⟩
 | succ N ih=>
  intro j ls ks a hl hy hz
  have ix:((ixN' (dI ys).length (4+(j:Int))).bind fun q=>(dI ys)[q]?)=some (.sc (.int (ys.getD (4+(j:Int)).toNat 0))):=ixI ys (4+(j:Int)) (by omega) (by omega)
  generalize ys.getD (4+(j:Int)).toNat 0=y0 at *
  have m0:=emod_nonneg y0 (show (ls.length:Int)≠0 by omega)
  have m1:=emod_lt_of_pos y0 (show (0:Int) < ls.length by omega)
  obtain ⟨i,ei⟩:∃ i:Nat,y0 % (ls.length:Int)=(i:Int):=⟨(y0 % (ls.length:Int)).toNat,by omega⟩
  have hi:i < ls.length:=by omega
  obtain ⟨ks',a',g1,g2,g3⟩:=ih (j+1) (ls.eraseIdx i) (ks++[ls[i]]) (I j) (by rw [List.length_eraseIdx_of_lt hi];omega) (by omega) (by rw [List.length_eraseIdx_of_lt hi,List.length_append,length_singleton];omega)
  refine ⟨ks',a',fun k=>?_,by rw [g2,List.length_append,length_singleton];omega,?_⟩
  . rw [g1,List.mem_append,List.mem_singleton,ZjV ls i hi,or_assoc]
  . have pop:=fun δ=>Zly 11 δ false F ls i hi (by omega)
    have len3:∀ o,((dL o (ls.map F)).length:Int)=(ls.length:Int):=fun o=>by rw [ZZ,length_map]
    have d3:binW .Mod (.sc (.int y0)) (.sc (.int (ls.length:Int)))=some (.sc (.int (i:Int))):=by rw [ZJ _ _ (by omega),ei]
    have ap:∀ δ:List D,mdR 12 δ (appD (Ls false (F ls[i]))) (some (.node .lst true (dL false (ks.map F))))=.ok (.sc .non,δ.set 12 (.node .lst true (dL false ((ks++[ls[i]]).map F)))):=fun δ=>by
     rw [ZeZ 12 δ _ _ (by rw [ZZ,length_map,szl];omega),map_append,Zb8]
     rfl
    have sl:=Zx false (ls.map F)
    have ej:((j+1:Nat):Int)=(j:Int)+1:=by omega
    rw [ej] at g3
    rw [<- g3,rngI,ZF,ZaH]
    generalize dL false ((ls.eraseIdx i).map F)=Z1 at *
    generalize dL false ((ks++[ls[i]]).map F)=Z2 at *
    simp_all [h11,h12,h13,Zn6,ZrJ,ix,len3,d3,sl,pop,ap,Zk]
def ZsW(a b:Int):bfW .sorted [.nd .lst [.sc (.int a),.sc (.int b)]]=some (Ls true (if a<=b then [a,b] else [b,a])):=by
 have e:[a,b].mergeSort (fun a b=>decide (a<=b))=if a<=b then [a,b] else [b,a]:=by
  refine lks_uniq ((List.mergeSort_perm _ _).trans ?_) ?_ ?_
  . split
    . exact List.Perm.refl _
    . exact List.Perm.swap _ _ _
  . have:=List.pairwise_mergeSort (le:=fun a b:Int=>decide (a<=b)) (fun a b c h1 h2=>by simp only [decide_eq_true_eq] at *;omega) (fun a b=>by simp only [or_eq_true,decide_eq_true_eq];omega) [a,b]
    exact this.imp fun h=>by simpa using h
  . split
    . simp;omega
    . simp;omega
 show ZeO [.nd .lst (dI [a,b])]=_
 unfold ZeO
 dsimp only
 rw [ZbO,bind_some,if_pos (show ([a,b]:List Int).length < 64 by simp),e]
theorem ZgP(B:List (List Int)):∀(n j:Nat),j+n<=B.length->(rngI j n).map (fun k=>B.getD k.toNat [])=(B.drop j).take n
 | 0,j,h=>by rw [take_zero];rfl
 | n+1,j,h=>by
  have hj:j < B.length:=by omega
  have e:((j:Int)+1)=((j+1:Nat):Int):=by omega
  rw [rngI,map_cons,e,ZgP B n (j+1) (by omega),drop_eq_getElem_cons hj,take_succ_cons,toNat_natCast,getD_eq_getElem?_getD,List.getElem?_eq_getElem hj]
  rfl
section
variable{r:Int}{n:Nat}
def ZgQ(F:Int->List Int):((rngI 0 ((n:Int)+1).toNat).map F).dropLast=(rngI 0 n).map F:=by
 rw [show ((n:Int)+1).toNat=n+1 by omega,ZfT,map_append,map_cons,map_nil,List.dropLast_concat]
def Bod.drop(h:Bod p r n B):B.dropLast=(rngI 0 n).map fun k=>B.getD k.toNat []:=by
 have hl:=h.len
 have:=ZgP B n 0 (by omega)
 rw [show ((0:Nat):Int)=0 from rfl] at this
 rw [this,drop_zero,List.dropLast_eq_take]
 congr 1
 omega
def Bod.long(h:Bod p r n B):((rngI 0 ((n:Int)+1).toNat).map (Fb p n B)).dropLast.any (lg r)=B.dropLast.any (lb r):=by
 rw [ZgQ,h.drop,any_map,any_map]
 have:∀ k∈rngI 0 n,(lg r ∘ Fb p n B) k=(lb r ∘ fun k=>B.getD k.toNat []) k:=fun k hk=>by
  have q:=ZS _ _ _ hk
  have:=(h.lab (k:=k) (by omega) (by omega)).2.2.2.2 0 (by have:=h.r1;omega)
  show decide (r < (Fb p n B k).getD (0+2) 0)=decide (r < (B.getD k.toNat []).getD 0 0)
  rw [this]
 (rw [Bool.eq_iff_iff,any_eq_true,any_eq_true])
 exact ⟨fun ⟨k,hk,q⟩=>⟨k,hk,by rw [<- this k hk];exact q⟩,fun ⟨k,hk,q⟩=>⟨k,hk,by rw [this k hk];exact q⟩⟩
def ZpQ(b:List Int)(k c:Int)(p:Int)(hr:0<=r)(hb:(b.length:Int)=r+1)(h0:0<=b.getD 0 0)(h1:b.getD 0 0<=r):gat (lab p ([k,c]++b))=gb b:=by
 obtain ⟨x,bt,rfl⟩:∃ x bt,b=x::bt:=by
  cases b with
  | nil=>rw [length_nil] at hb;omega
  | cons x bt=>exact ⟨x,bt,rfl⟩
 rw [length_cons] at hb
 have e2:(lab p ([k,c]++(x::bt))).getD 2 0=x:=rfl
 have e0:(x::bt).getD 0 0=x:=rfl
 rw [e0] at h0 h1
 unfold gat gb
 rw [e2,e0]
 unfold cutI
 have hN:(lab p ([k,c]++(x::bt))).length=bt.length+5:=by rw [ZhG,List.length_append,length_cons];show 2+(bt.length+1)+2=_;omega
 rw [hN,length_cons]
 have s1:HT.sIx (bt.length+5) 0 (some 3)=3:=by
  show (if (3:Int) < 0 then (3+((bt.length+5:Nat):Int)).toNat else min (3:Int).toNat (bt.length+5))=_
  rw [if_neg (by omega)]
  show min 3 _=3
  omega
 have s2:HT.sIx (bt.length+5) (bt.length+5) (some (3+x))=3+x.toNat:=by
  show (if (3+x) < 0 then (3+x+((bt.length+5:Nat):Int)).toNat else min (3+x).toNat (bt.length+5))=_
  rw [if_neg (by omega)]
  omega
 have s3:HT.sIx (bt.length+1) 0 (some 1)=1:=by
  show (if (1:Int) < 0 then (1+((bt.length+1:Nat):Int)).toNat else min (1:Int).toNat (bt.length+1))=_
  rw [if_neg (by omega)]
  show min 1 _=1
  omega
 have s4:HT.sIx (bt.length+1) (bt.length+1) (some (x+1))=x.toNat+1:=by
  show (if (x+1) < 0 then (x+1+((bt.length+1:Nat):Int)).toNat else min (x+1).toNat (bt.length+1))=_
  rw [if_neg (by omega)]
  omega
 rw [s1,s2,s3,s4,show 3+x.toNat - 3=x.toNat by omega,show x.toNat+1 - 1=x.toNat by omega]
 show (bt++[_,_]).take x.toNat=bt.take x.toNat
 rw [List.take_append_of_le_length (by omega)]
def Bod.row(h:Bod p r n B)(hs:B.dropLast.any (lb r)=false):(((rngI 0 ((n:Int)+1).toNat).map (Fb p n B)).dropLast.map gat).flatten=(B.dropLast.map gb).flatten:=by
 rw [h.drop,any_map,List.any_eq_false] at hs
 rw [ZgQ,h.drop,map_map,map_map]
 congr 1
 refine List.map_congr_left fun k hk=>?_
 have q:=ZS _ _ _ hk
 obtain ⟨a1,a2⟩:=h.at (k:=k) (by omega) (by omega)
 have hr:=h.r1
 have hl:¬ r < (B.getD k.toNat []).getD 0 0:=fun e=>hs k hk (decide_eq_true e)
 exact ZpQ _ k n p (by omega) a1 (by
  refine (a2 _ ?_).1
  have:0 < (B.getD k.toNat []).length:=by omega
  rw [getD_eq_getElem?_getD (i:=0),List.getElem?_eq_getElem this]
  exact getElem_mem this) (by omega)
end
section
variable(C:Addr){p r:Int}{n:Nat}{B:List (List Int)}(h:Bod p r n B)(h6:n<=6){ks:List Int}(hn:ks≠[])(hl:ks.length<=900)
include h h6 hn hl
theorem ZiF(hk:∀ k,k∈ks↔(0<=k/\k<=(n:Int))/\k≠m1/\k≠m2)(h1:0<=m1)(h12:m1 < m2)(h2:m2<=(n:Int)):
 (Zan C).run [Ro C true p r,.node .lst true (dL false (ks.map (Fb p n B))),.node .tup true [.sc (.str "lost"),Ls false [m1,m2]]]=.ok (.sc (.bl true),[Ro C true p r,.node .lst true (dL false (ks.map (Fb p n B))),.node .tup true [.sc (.str "lost"),Ls false [m1,m2]]]):=by
 have al:=Zlv C h hn hl hk h1 h12 h2 (by omega)
 have gx:=ZjS C p r _ _ al
 have hK:(ks.map (Fb p n B)).length<=900:=by rw [length_map];exact hl
 have a0:=Zfl C p r 0 (.inl rfl) false _ _ [m1,m2] gx
 have a1:=Zfl C p r 1 (.inr rfl) false _ _ [m1,m2] al
 exact ZdX C p r _ _ (fun a3 a4 a5=>⟨_,_,ZfV C p r 0 _ hK _ a3 a4 a5 [m1,m2] (by simp) a0⟩) (fun a3 a4 a5=>⟨_,_,ZfV C p r 1 _ hK _ a3 a4 a5 [m1,m2] (by simp) a1⟩)
theorem Zhh(hc:∀ k,m=some k->∀ q:Nat,(q:Int)<=r->(B.map fun b=>b.getD q 0).sum % p=0)(hk:∀ k,k∈ks↔(0<=k/\k<=(n:Int))/\m≠some k)(hm:∀ k,m=some k->0<=k/\k<=(n:Int))(hs:B.dropLast.any (lb r)=true):
 (Zan C).run [Ro C true p r,.node .lst true (dL false (ks.map (Fb p n B))),.node .tup true [.sc (.str "mixed"),.sc .non]]=.ok (.sc (.bl true),[Ro C true p r,.node .lst true (dL false (ks.map (Fb p n B))),.node .tup true [.sc (.str "mixed"),.sc .non]]):=by
 have al:=ZhN C h hc hn hl hk hm
 rw [h.long,hs] at al
 replace al:_=Rs.exc (XM true) _:=al
 have gx:=ZjS C p r _ _ al
 have hK:(ks.map (Fb p n B)).length<=900:=by rw [length_map];exact hl
 have a0:=Zex C p r 0 (.inl rfl) false _ _ gx
 have a1:=Zex C p r 1 (.inr rfl) false _ _ al
 exact ZdX C p r _ _ (fun a3 a4 a5=>⟨_,_,Zfm C p r 0 _ hK _ a3 a4 a5 a0⟩) (fun a3 a4 a5=>⟨_,_,Zfm C p r 1 _ hK _ a3 a4 a5 a1⟩)
theorem ZiG(hc:∀ k,m=some k->∀ q:Nat,(q:Int)<=r->(B.map fun b=>b.getD q 0).sum % p=0)(hk:∀ k,k∈ks↔(0<=k/\k<=(n:Int))/\m≠some k)(hm:∀ k,m=some k->0<=k/\k<=(n:Int))(hs:B.dropLast.any (lb r)=false)(hrow:(B.dropLast.map gb).flatten.length<=1000):
 (Zan C).run [Ro C true p r,.node .lst true (dL false (ks.map (Fb p n B))),.node .tup true [.sc (.str "told"),Ls false (B.dropLast.map gb).flatten,.node .lst false (dL false ((rngI 0 ((n:Int)+1).toNat).map (Fb p n B)))]]=.ok (.sc (.bl true),[Ro C true p r,.node .lst true (dL false (ks.map (Fb p n B))),.node .tup true [.sc (.str "told"),Ls false (B.dropLast.map gb).flatten,.node .lst false (dL false ((rngI 0 ((n:Int)+1).toNat).map (Fb p n B)))]]):=by
 have al:=ZhN C h hc hn hl hk hm
 have lo:=h.long
 have ro:=h.row hs
 rw [lo,hs] at al
 replace al:_=Rs.ok (D.node .lst true (dL false ((rngI 0 ((n:Int)+1).toNat).map (Fb p n B))),_):=al
 have r5:=h.r5
 have p47:=h.p47
 have hall:∀ l∈(rngI 0 ((n:Int)+1).toNat).map (Fb p n B),3<=l.length/\l.length<=100:=fun l q=>by
  obtain ⟨k,q',rfl⟩:=List.mem_map.mp q
  have q:=ZS _ _ _ q'
  have:=(h.lab (k:=k) (by omega) (by omega)).1
  have:=h.r1
  omega
 have hlen:((rngI 0 ((n:Int)+1).toNat).map (Fb p n B)).length<=900:=by rw [length_map,ZY];omega
 have gx:=Zlt C p r _ _ hlen hall al
 rw [ro] at gx
 have hK:(ks.map (Fb p n B)).length<=900:=by rw [length_map];exact hl
 have a0:=ZgN C p r 0 (.inl rfl) false _ _ _ gx
 have a1:=ZgN C p r 1 (.inr rfl) false _ _ _ al
 rw [Zk] at a0
 rw [Zx] at a1
 have t:=fun(w:Int)(hw:w=0\/w=1)(Y a3 a4 a5:D) ha=>ZjU C p r w _ hK Y a3 a4 a5 hw (B.dropLast.map gb).flatten ((rngI 0 ((n:Int)+1).toNat).map (Fb p n B)) hrow (by omega) (fun l q=>by have:=hall l q;omega) ha
 exact ZdX C p r _ _ (fun a3 a4 a5=>⟨_,_,t 0 (.inl rfl) _ a3 a4 a5 a0⟩) (fun a3 a4 a5=>⟨_,_,t 1 (.inr rfl) _ a3 a4 a5 a1⟩)
end
noncomputable abbrev c1(C:Addr):T.Ctx:=⟨fun i=>decide (i < 1),(CK C).fok,(CK C).fuel⟩
def Zl0(F:Int->List Int)(N:Nat)(k:Int)(h:k∈rngI 0 N):((rngI 0 N).map F).getD k.toNat []=F k:=by
 have q:=ZS _ _ _ h
 have gq:∀(N j:Nat)(a:Int),j < N->(rngI a N)[j]?=some (a+j):=fun N=>by
  induction N with
  | zero=>exact fun j a h=>absurd h (by omega)
  | succ N ih=>
   intro j a hj
   rw [rngI]
   cases j with
   | zero=>simp
   | succ j=>rw [getElem?_cons_succ,ih j (a+1) (by omega)];congr 1;omega
 rw [getD_eq_getElem?_getD,getElem?_map,gq N k.toNat 0 (by omega)]
 show F (0+(k.toNat:Int))=F k
 congr 1
 omega
def ZhR(C:Addr)(p r:Int)(hpr:p∈PR)(r1:1<=r)(r2:r<=p - 5)(n:Nat)(h6:n<=6)(F:Int->List Int)(ys:List Int)(hy:ys.length=n+5)(oo:Bool)(out:List Int)(k0:Int)(hk0:(0<=k0/\k0<=(n:Int))/\k0∉out)(s x3 x8 x9:D)(ds:List D)
 (hr:∀ ks:List Int,ks≠[]->ks.length<=900->(∀ k,k∈ks↔(0<=k/\k<=(n:Int))/\k∉out)->(Zan C).run [Ro C true p r,.node .lst true (dL false (ks.map F)),.node .tup true ds]=.ok (.sc (.bl true),[Ro C true p r,.node .lst true (dL false (ks.map F)),.node .tup true ds])):
 ∃ ds',ZaN 1 (exs (c1 C) ((Zat C).drop 12) [s,I p,I r,x3,I n,Ls true ys,Ls oo out,.node .lst false (dL false ((rngI 0 ((n:Int)+1).toNat).map F)),x8,x9,.node .tup true ds,.hole,.hole,.hole])=.ok (.sc (.bl true),ds'):=by
 have rl:(rngI 0 ((n:Int)+1).toNat).length=n+1:=by rw [ZY];omega
 have rm:∀ x,x∈rngI 0 ((n:Int)+1).toNat↔0<=x/\x<=(n:Int):=fun x=>⟨fun h=>by have:=ZS _ _ _ h;omega,fun h=>ZcR _ _ _ h.1 (by omega)⟩
 obtain ⟨a',lc⟩:=ZjX C (fun i=>decide (1<=i)) rfl ((rngI 0 ((n:Int)+1).toNat).map F) oo out (rngI 0 ((n:Int)+1).toNat) [] .hole (fun k q=>by have:=(rm k).mp q;rw [length_map,rl];omega)
 rw [nil_append,show ((rngI 0 ((n:Int)+1).toNat).filter fun k=>!decide (k∈out)).map (fun k=>((rngI 0 ((n:Int)+1).toNat).map F).getD k.toNat [])=((rngI 0 ((n:Int)+1).toNat).filter fun k=>!decide (k∈out)).map F from List.map_congr_left fun k q=>Zl0 F _ k (List.mem_filter.mp q).1] at lc
 replace lc:Z9 (CK C).fok (CK C).fuel 1 (.name 0) [.cmp .NotIn (.v 0) (.v 2)] (.ix (.v 1) (.v 0)) (dI (rngI 0 ((n:Int)+1).toNat)) [] [.hole,.node .lst false (dL false ((rngI 0 ((n:Int)+1).toNat).map F)),Ls oo out]=_:=lc
 have lm:∀ k,k∈(rngI 0 ((n:Int)+1).toNat).filter (fun k=>!decide (k∈out))↔(0<=k/\k<=(n:Int))/\k∉out:=fun k=>by rw [mem_filter,rm];simp
 have ll:((rngI 0 ((n:Int)+1).toNat).filter fun k=>!decide (k∈out)).length<=n+1:=by rw [<- rl];exact List.length_filter_le _ _
 have hit1:=Zb1 ((n:Int)+1) (by omega)
 generalize rngI 0 ((n:Int)+1).toNat=rg at *
 generalize (rg.filter fun k=>!decide (k∈out))=ls at *
 have hm1:∀ x0 x1 x2 x3 x4 x5 x8 x9 x10 x11 x12 x13:D,ZR 1 [7,6] (Z9 (CK C).fok (CK C).fuel 1 (.name 0) [.cmp .NotIn (.v 0) (.v 2)] (.ix (.v 1) (.v 0)) (dI rg) []) [x0,x1,x2,x3,x4,x5,Ls oo out,.node .lst false (dL false (rg.map F)),x8,x9,x10,x11,x12,x13]=.ok (.node .lst true (dL false (ls.map F)),[x0,x1,x2,x3,x4,x5,Ls oo out,.node .lst false (dL false (rg.map F)),x8,x9,x10,x11,x12,x13]):=fun x0 x1 x2 x3 x4 x5 x8 x9 x10 x11 x12 x13=>by
  rw [ZG (js:=[7,6]) (caps:=[.node .lst false (dL false (rg.map F)),Ls oo out]) (δ1:=[x0,x1,x2,x3,x4,x5,.hole,.hole,x8,x9,x10,x11,x12,x13]) rfl lc (by rw [ZZ,length_map,szl];omega)]
  rfl
 obtain ⟨ks,a2,g1,g2,g3⟩:=ZjY C (fun j=>decide (j < 1) || walked [.bf .len [.v 11]] j) rfl rfl rfl F ys s (I p) (I r) x3 (I n) (Ls oo out) (.node .lst false (dL false (rg.map F))) x8 x9 (.node .tup true ds) ls.length 0 ls [] .hole rfl (by omega) (by show _+0<=_;omega)
 simp only [walked,Bool.or_false] at g3
 rw [show ((0:Nat):Int)=0 from rfl] at g3
 have hne:ks≠[]:=fun e=>by
  have:=(g1 k0).mpr (.inr ((lm k0).mpr hk0))
  rw [e] at this
  simp at this
 have rr:=hr ks hne (by rw [g2];show 0+_<=_;omega) fun k=>by rw [g1,<- lm];simp
 have hit2:itW .rng1 [.sc (.int ((ls.length:Nat):Int))]=some (dI (rngI 0 ls.length)):=by
  have:=Zb1 ((ls.length:Nat):Int) (by omega)
  rwa [toNat_natCast] at this
 have dl:((dL false (ls.map F)).length:Int)=((ls.length:Nat):Int):=by rw [ZZ,length_map]
 have sl:=Zx false (ls.map F)
 have n0:newL []=some (.node .lst true []):=ZI _ (by simp)
 have nw:∀ x0 x3 x4 x5 x6 x7 x8 x9 x10 x11 x12 x13:D,newF C (Za9 C) [.late 1,.late 2] [x0,I p,I r,x3,x4,x5,x6,x7,x8,x9,x10,x11,x12,x13]=.ok (Ro C true p r,[x0,I p,I r,x3,x4,x5,x6,x7,x8,x9,x10,x11,x12,x13]):=fun x0 x3 x4 x5 x6 x7 x8 x9 x10 x11 x12 x13=>new2 rfl rfl (Zlb C p r hpr r1 r2)
 have k1:(Zan C).lend=true:=rfl
 rw [show dL false (([]:List Int).map F)=[] from rfl] at g3
 simp only [Zat,List.drop_succ_cons,drop_zero]
 generalize dL false (ls.map F)=LZ at *
 generalize dL false (rg.map F)=RZ at *
 generalize dL false (ks.map F)=KZ at *
 (simp_all [hit1,hm1,n0,dl,sl,hit2,g3,nw,k1,rr])<;>exact ⟨_,rfl⟩
def ZsX(C:Addr)(p r:Int)(n:Nat)(B:List (List Int))(h:Bod p r n B)(h6:n<=6)(ys out:List Int)(X:List D)(hX:shrL X=dL false B)(s:D):
 ∃ x9:D,exs (c1 C) (((Zat C).drop 6).take 4) [s,I p,I r,.node .lst true X,I n,Ls true ys,Ls true out,.hole,.hole,.hole,.hole,.hole,.hole,.hole]=.ok (.nx,[s,I p,I r,.node .lst true (dL false B),I n,Ls true ys,Ls true out,.node .lst false (dL false ((rngI 0 ((n:Int)+1).toNat).map (Fb p n B))),Ls false (B.dropLast.map gb).flatten,x9,.node .tup true [.sc (.str "told"),Ls false (B.dropLast.map gb).flatten,.node .lst false (dL false ((rngI 0 ((n:Int)+1).toNat).map (Fb p n B)))],.hole,.hole,.hole]):=by
 have p7:=h.p7
 have p47:=h.p47
 have r5:=h.r5
 have r1:=h.r1
 have hl:=h.len
 have ho1:=h.one
 have hlen1:∀ l∈B.dropLast,1<=l.length/\l.length<=100:=fun l q=>by have:=ho1 l ((dropLast_sublist B).subset q);omega
 obtain ⟨a',X',hX',lc⟩:=Zlk (fun i=>decide (1<=i)) (CK C).fok (CK C).fuel rfl p n (by omega) B (fun l q=>by have:=ho1 l q;omega) ((n:Int)+1).toNat 0 [] .hole X hX (by omega)
 rw [nil_append,show ((0:Nat):Int)=0 from rfl] at lc
 replace lc:Z9 (CK C).fok (CK C).fuel 1 (.name 0) [] (.call ZQ [.v 1,.bin .Add (.lst [.v 0,.v 2]) (.ix (.v 3) (.v 0))]) (dI (rngI 0 ((n:Int)+1).toNat)) [] [.hole,I p,I n,.node .lst true X]=.ok (dL true ((rngI 0 ((n:Int)+1).toNat).map (Fb p n B)),_):=lc
 have hm7:∀ x0 x2 x5 x6 x7 x8 x9 x10 x11 x12 x13:D,ZR 1 [1,4,3] (Z9 (CK C).fok (CK C).fuel 1 (.name 0) [] (.call ZQ [.v 1,.bin .Add (.lst [.v 0,.v 2]) (.ix (.v 3) (.v 0))]) (dI (rngI 0 ((n:Int)+1).toNat)) []) [x0,I p,x2,.node .lst true X,I n,x5,x6,x7,x8,x9,x10,x11,x12,x13]=.ok (.node .lst true (dL true ((rngI 0 ((n:Int)+1).toNat).map (Fb p n B))),[x0,I p,x2,.node .lst true X',I n,x5,x6,x7,x8,x9,x10,x11,x12,x13]):=fun x0 x2 x5 x6 x7 x8 x9 x10 x11 x12 x13=>by
  rw [ZG (js:=[1,4,3]) (caps:=[I p,I n,.node .lst true X]) (δ1:=[x0,.hole,x2,.hole,.hole,x5,x6,x7,x8,x9,x10,x11,x12,x13]) rfl lc (by rw [ZZ,length_map,ZY,szl];omega)]
  rfl
 have hit1:=Zb1 ((n:Int)+1) (by omega)
 have shL:=Zx true ((rngI 0 ((n:Int)+1).toNat).map (Fb p n B))
 obtain ⟨x9,g8⟩:=Zlz C (fun j=>decide (j < 1) || walked [.sl (.v 3) (.k .non) (.neg (.k (.int 1)))] j) rfl rfl s (I p) (I r) (.node .lst true (dL false B)) (I n) (Ls true ys) (Ls true out) (.node .lst true (dL true ((rngI 0 ((n:Int)+1).toNat).map (Fb p n B)))) .hole .hole .hole .hole B.dropLast [] .hole (by rw [length_dropLast];show 0+_<=_;omega) hlen1
 rw [nil_append] at g8
 simp only [walked,Bool.or_false,Ls,ZbY] at g8
 have cl:=Zd3 (dL false B)
 rw [Zeo] at cl
 have sB:=Zx false B
 have sd:=Zx false B.dropLast
 have n0:newL []=some (.node .lst true []):=ZI _ (by simp)
 have t3:∀ a b c:D,newT [a,b,c]=some (.node .tup true [a,b,c]):=fun a b c=>Zdj _ (by rw [szl];simp)
 refine ⟨x9,?_⟩
 simp only [Zat,List.drop_succ_cons,drop_zero,take_succ_cons,take_zero]
 generalize (B.dropLast.map gb).flatten=row at *
 generalize (rngI 0 ((n:Int)+1).toNat).map (Fb p n B)=LL at *
 generalize dL false B.dropLast=BD at *
 generalize dL false B=BF at *
 generalize dL true LL=LT at *
 generalize dL false LL=LF at *
 (simp_all [hit1,hm7,n0,hX',sB,cl,sd,g8,shL,t3,Zk])<;>rfl
theorem ZsY(C:Addr)(p r:Int)(n:Nat)(B:List (List Int))(h:Bod p r n B)(h6:n<=6)(s x1 x4 x5 x6 x7 x8 x9:D)(ds:List D):
 exs (c1 C) (((Zat C).drop 10).take 1) [s,x1,I r,.node .lst true (dL false B),x4,x5,x6,x7,x8,x9,.node .tup true ds,.hole,.hole,.hole]=.ok (.nx,[s,x1,I r,.node .lst true (dL false B),x4,x5,x6,x7,x8,x9,.node .tup true (if B.dropLast.any (lb r) then [.sc (.str "mixed"),.sc .non] else ds),.hole,.hole,.hole]):=by
 have hl:=h.len
 have r1:=h.r1
 obtain ⟨b',ac⟩:=ZjW C (fun i=>decide (1<=i)) rfl r B.dropLast [] .hole (fun l q=>by have:=h.one l ((dropLast_sublist B).subset q);omega)
 rw [nil_append] at ac
 replace ac:Z9 (CK C).fok (CK C).fuel 1 (.name 0) [] (.cmp .Gt (.ix (.v 0) (.k (.int 0))) (.v 1)) (dL false B.dropLast) [] [.hole,I r]=_:=ac
 have hm10:∀ x0 x1 x3 x4 x5 x6 x7 x8 x9 x10 x11 x12 x13:D,ZR 1 [2] (Z9 (CK C).fok (CK C).fuel 1 (.name 0) [] (.cmp .Gt (.ix (.v 0) (.k (.int 0))) (.v 1)) (dL false B.dropLast) []) [x0,x1,I r,x3,x4,x5,x6,x7,x8,x9,x10,x11,x12,x13]=.ok (.node .lst true ((B.dropLast.map (lb r)).map fun b=>.sc (.bl b)),[x0,x1,I r,x3,x4,x5,x6,x7,x8,x9,x10,x11,x12,x13]):=fun x0 x1 x3 x4 x5 x6 x7 x8 x9 x10 x11 x12 x13=>by
  rw [ZG (js:=[2]) (caps:=[I r]) (δ1:=[x0,x1,.hole,x3,x4,x5,x6,x7,x8,x9,x10,x11,x12,x13]) rfl ac (by rw [length_map,length_map,length_dropLast,szl];omega)]
  rfl
 have an:=ZlW (B.dropLast.map (lb r))
 rw [show (B.dropLast.map (lb r)).any id=B.dropLast.any (lb r) by rw [any_map];rfl] at an
 generalize (B.dropLast.map (lb r)).map (fun b=>D.sc (.bl b))=bs at *
 have cl:=Zd3 (dL false B)
 rw [Zeo] at cl
 have sB:=Zx false B
 have sd:=Zx false B.dropLast
 have t2:∀ a b:D,newT [a,b]=some (.node .tup true [a,b]):=fun a b=>Zdj _ (by rw [szl];simp)
 simp only [Zat,List.drop_succ_cons,drop_zero,take_succ_cons,take_zero]
 generalize dL false B.dropLast=BD at *
 generalize dL false B=BF at *
 cases hb:B.dropLast.any (lb r) with
 | true=>
  rw [hb] at an
  rw [if_pos rfl]
  (simp_all [sB,cl,sd,t2,hm10,an])<;>rfl
 | false=>
  rw [hb] at an
  rw [if_neg (by decide)]
  (simp_all [sB,cl,sd,hm10,an])<;>rfl
def ZsZ(C:Addr)(p r:Int)(n:Nat)(n1:1<=n)(ys out:List Int)(hy:ys.length=n+5)(s x1 x2 x3 x7 x8 x9:D)(ds:List D)(ho:out=[]\/∃ m:Int,out=[m]/\0<=m/\m<=(n:Int)):
 ∃(oo:Bool)(out2:List Int)(ds2:List D),exs (c1 C) (((Zat C).drop 11).take 1) [s,x1,x2,x3,I n,Ls true ys,Ls true out,x7,x8,x9,.node .tup true ds,.hole,.hole,.hole]=.ok (.nx,[s,x1,x2,x3,I n,Ls true ys,Ls oo out2,x7,x8,x9,.node .tup true ds2,.hole,.hole,.hole])/\
  ((out2=out/\ds2=ds)\/∃ m1 m2:Int,out≠[]/\out2=[m1,m2]/\ds2=[.sc (.str "lost"),Ls false [m1,m2]]/\0<=m1/\m1 < m2/\m2<=(n:Int)/\1 < n):=by
 have n0:newL []=some (.node .lst true []):=ZI _ (by simp)
 have t2:∀ a b:D,newT [a,b]=some (.node .tup true [a,b]):=fun a b=>Zdj _ (by rw [szl];simp)
 have l2:∀ a b:D,newL [a,b]=some (.node .lst true [a,b]):=fun a b=>ZI _ (by rw [szl];simp)
 have co:=ZlT out []
 rw [show dI []=[] from rfl] at co
 have i2:((ixN' (dI ys).length 2).bind fun j=>(dI ys)[j]?)=some (.sc (.int (ys.getD 2 0))):=ixI ys 2 (by omega) (by omega)
 have i3:((ixN' (dI ys).length 3).bind fun j=>(dI ys)[j]?)=some (.sc (.int (ys.getD 3 0))):=ixI ys 3 (by omega) (by omega)
 generalize ys.getD 2 0=y2 at *
 generalize ys.getD 3 0=y3 at *
 have d2:binW .Mod (.sc (.int y2)) (.sc (.int 3))=some (.sc (.int (y2 % 3))):=ZJ _ _ (by decide)
 simp only [Zat,List.drop_succ_cons,drop_zero,take_succ_cons,take_zero]
 by_cases hlost:out≠[]/\y2 % 3=1/\(1:Int) < n
 . obtain ⟨l1,lq2,lq3⟩:=hlost
   obtain ⟨m,rfl,m0,m1⟩:=ho.resolve_left l1
   rw [decide_eq_false l1,Bool.not_false] at co
   simp only [ZF,ZbY] at co
   have i0:((ixN' 1 0).bind fun j=>[D.sc (.int m)][j]?)=some (.sc (.int m)):=rfl
   have d3:binW .Mod (.sc (.int y3)) (.sc (.int (n:Int)))=some (.sc (.int (y3 % (n:Int)))):=ZJ _ _ (by omega)
   have e0:=emod_nonneg y3 (show (n:Int)≠0 by omega)
   have e1:=emod_lt_of_pos y3 (show (0:Int) < n by omega)
   generalize y3 % (n:Int)=t at *
   have d4:binW .Mod (.sc (.int (m+1+t))) (.sc (.int ((n:Int)+1)))=some (.sc (.int ((m+1+t) % ((n:Int)+1)))):=ZJ _ _ (by omega)
   have hm':(m+1+t) % ((n:Int)+1)≠m/\0<=(m+1+t) % ((n:Int)+1)/\(m+1+t) % ((n:Int)+1)<=n:=by
    refine ⟨?_,emod_nonneg _ (by omega),by have:=emod_lt_of_pos (m+1+t) (show (0:Int) < (n:Int)+1 by omega);omega⟩
    by_cases q:m+1+t < (n:Int)+1
    . rw [Int.emod_eq_of_lt (by omega) q];omega
    . have:(m+1+t) % ((n:Int)+1)=(m+1+t - ((n:Int)+1)) % ((n:Int)+1):=(Int.sub_emod_right (m+1+t) ((n:Int)+1)).symm
      rw [this,Int.emod_eq_of_lt (by omega) (by omega)];omega
   generalize (m+1+t) % ((n:Int)+1)=m' at *
   have so:=ZsW m m'
   refine ⟨false,if m<=m' then [m,m'] else [m',m],[.sc (.str "lost"),Ls false (if m<=m' then [m,m'] else [m',m])],?_,.inr ?_⟩
   . generalize (if m<=m' then [m,m'] else [m',m])=o2 at *
     (simp_all [n0,t2,co,i0,i2,i3,d2,lq2,lq3,V.int.injEq,d3,d4,l2,so,Zk])<;>rfl
   . by_cases q:m<=m'
     . exact ⟨m,m',l1,by rw [if_pos q],by rw [if_pos q],m0,by omega,hm'.2.2,by omega⟩
     . exact ⟨m',m,l1,by rw [if_neg q],by rw [if_neg q],hm'.2.1,by omega,m1,by omega⟩
 . refine ⟨true,out,ds,?_,.inl ⟨rfl,rfl⟩⟩
   by_cases l1:out=[]
   . rw [decide_eq_true l1,Bool.not_true] at co
     (simp_all [n0,co,Zk])<;>rfl
   . rw [decide_eq_false l1,Bool.not_false] at co
     by_cases lq2:y2 % 3=1
     . have lq3:¬ (1:Int) < n:=fun q=>hlost ⟨l1,lq2,q⟩
       (simp_all [n0,co,i2,d2,lq2,lq3,V.int.injEq,Zk])<;>rfl
     . (simp_all [n0,co,i2,d2,lq2,V.int.injEq,Zk])<;>rfl
theorem Zl1(N j:Nat)(a:Int)(h:j < N):(rngI a N)[j]?=some (a+j):=by
 induction N generalizing j a with
 | zero=>omega
 | succ N ih=>
  rw [rngI]
  cases j with
  | zero=>simp
  | succ j=>rw [getElem?_cons_succ,ih j (a+1) (by omega)];congr 1;omega
def Zl2(xs:List D)(j:Nat)(d:D):shrL (xs.set j d)=(shrL xs).set j (shr d):=by rw [Zdw,Zdw,List.map_set]
def ZhS(X:List D)(B:List (List Int))(j:Nat)(b:List Int)(h:shrL X=dL false B):shrL (X.set j (Ls true b))=dL false (B.set j b):=by
 rw [Zl2,h]
 unfold dL
 rw [List.map_set]
 congr 1
 show shr (Ls true b)=Ls false b
 rw [shr,Zk]
def Zdk(i:Nat)(δ xs:List D)(d:D)(m:Int)(h0:0<=m)(h1:m < (xs.length:Int)):mdR i δ (Zbm (.sc (.int m)) d) (some (.node .lst true xs))=.ok (.sc .non,δ.set i (.node .lst true (xs.set m.toNat d))):=by
 refine ZlX ?_
 show (ixN' xs.length m).map (fun j=>(D.sc .non,Kd.lst,xs.set j d))=_
 unfold ixN'
 rw [if_pos h0,if_pos h1]
 rfl
theorem ZhT(f:List Int->Int):∀(B:List (List Int))(j:Nat)(s:List Int),j < B.length->((B.set j s).map f).sum=(B.map f).sum - f (B.getD j [])+f s
 | [],j,s,h=>by simp at h
 | b::B,0,s,h=>by
  rw [List.set_cons_zero,map_cons,map_cons,sum_cons,sum_cons]
  show _=f b+_ - f b+f s
  omega
 | b::B,j+1,s,h=>by
  rw [List.set_cons_succ,map_cons,map_cons,sum_cons,sum_cons,ZhT f B j s (by simpa using h)]
  show _=f b+_ - f (B.getD j [])+f s
  omega
theorem ZgR(f:List Int->List Int)(c:Nat):∀ ls:List (List Int),(∀ l∈ls,(f l).length<=c)->(ls.map f).flatten.length<=c * ls.length
 | [],_=>by simp
 | l::ls,h=>by
  rw [map_cons,flatten_cons,List.length_append,length_cons]
  have:=ZgR f c ls fun x hx=>h x (mem_cons_of_mem _ hx)
  have:=h l mem_cons_self
  rw [Nat.mul_succ]
  omega
def Bod.put{r:Int}{n:Nat}(h:Bod p r n B)(j:Nat)(b:List Int)(hb:(b.length:Int)=r+1)(hs:∀ x∈b,0<=x/\x < p):Bod p r n (B.set j b):=
 ⟨h.p7,h.p47,h.r1,h.r5,h.n1,h.np,by rw [length_set];exact h.len,fun l q=>by
  rcases List.mem_or_eq_of_mem_set q with q|rfl
  . exact h.one l q
  . exact hb,fun l q=>by
  rcases List.mem_or_eq_of_mem_set q with q|rfl
  . exact h.sym l q
  . exact hs⟩
def Zn7(C:Addr)(ns:List Int):∃(p r:Int)(n:Nat)(B:List (List Int))(X:List D)(ys out:List Int),p∈PR/\1<=r/\r<=p - 5/\n<=6/\Bod p r n B/\shrL X=dL false B/\ys.length=n+5/\(out=[]\/∃ m:Int,out=[m]/\0<=m/\m<=(n:Int)/\∀ q:Nat,(q:Int)<=r->(B.map fun b=>b.getD q 0).sum % p=0)/\
 exs (c1 C) ((Zat C).take 6) [scr ns,.hole,.hole,.hole,.hole,.hole,.hole,.hole,.hole,.hole,.hole,.hole,.hole,.hole]=.ok (.nx,[scr ns,I p,I r,.node .lst true X,I n,Ls true ys,Ls true out,.hole,.hole,.hole,.hole,.hole,.hole,.hole]):=by
 obtain ⟨p,r,p1,p2,p3,r1,r2,hroll⟩:=Zlg ns
 obtain ⟨n,B,X,n1,n6,hB,hX,hbod⟩:=ZiE ns p r p2 p3 r1 r2
 obtain ⟨c,hh⟩:=ZcS ns 9
 obtain ⟨ys,hy,hs⟩:=Zcp c (n+5) (by omega)
 rw [show ((n+5:Nat):Int)=(n:Int)+5 by omega] at hs
 have hl:=hB.len
 have dl:((dL false B).length:Int) - 1=(n:Int):=by rw [ZZ];omega
 have i0:((ixN' (dI ys).length 0).bind fun j=>(dI ys)[j]?)=some (.sc (.int (ys.getD 0 0))):=ixI ys 0 (by omega) (by omega)
 have i1:((ixN' (dI ys).length 1).bind fun j=>(dI ys)[j]?)=some (.sc (.int (ys.getD 1 0))):=ixI ys 1 (by omega) (by omega)
 generalize ys.getD 0 0=y0 at *
 generalize ys.getD 1 0=y1 at *
 have d1:binW .Mod (.sc (.int y0)) (.sc (.int 2))=some (.sc (.int (y0 % 2))):=ZJ _ _ (by decide)
 have n0:newL []=some (.node .lst true []):=ZI _ (by simp)
 have nl1:∀ u:D,newL [u]=some (.node .lst true [u]):=fun u=>ZI _ (by rw [szl];simp)
 have k1:Zbj.lend=true:=rfl
 have k2:Zbo.lend=true:=rfl
 have k3:Z6.lend=true:=rfl
 have k4:Z4.lend=true:=rfl
 simp only [scr] at hroll hbod hh
 by_cases hd:y0 % 2=1
 . have d2:binW .Mod (.sc (.int y1)) (.sc (.int ((n:Int)+1)))=some (.sc (.int (y1 % ((n:Int)+1)))):=ZJ _ _ (by omega)
   have m0:=emod_nonneg y1 (show (n:Int)+1≠0 by omega)
   have m1:=emod_lt_of_pos y1 (show (0:Int) < (n:Int)+1 by omega)
   generalize y1 % ((n:Int)+1)=m at *
   have im:((ixN' 1 0).bind fun j=>[D.sc (.int m)][j]?)=some (.sc (.int m)):=rfl
   have rp:=ZsP (r+1) (by omega) (by omega)
   have st1:=fun δ=>Zdk 3 δ (dL false B) (Ls true (replicate (r+1).toNat 0)) m m0 (by rw [ZZ];omega)
   have hX1:=ZhS (dL false B) B m.toNat (replicate (r+1).toNat 0) (Zx _ _)
   have hB1:Bod p r n (B.set m.toNat (replicate (r+1).toNat 0)):=hB.put m.toNat _ (by rw [length_replicate];omega) fun x q=>by rw [List.eq_of_mem_replicate q];omega
   have g1:∀ q:Nat,(q:Int)<=r->(B.set m.toNat (replicate (r+1).toNat 0)).getD m.toNat []=replicate (r+1).toNat 0:=fun q _=>by
    rw [getD_eq_getElem?_getD,getElem?_set_self (by omega)]
    rfl
   have hl1:=hB1.len
   generalize B.set m.toNat (replicate (r+1).toNat 0)=B1 at *
   generalize (dL false B).set m.toNat (Ls true (replicate (r+1).toNat 0))=X1 at *
   obtain ⟨a',X2,hX2,lc⟩:=Zlj (fun i=>decide (1<=i)) (CK C).fok (CK C).fuel rfl p (by omega) B1 (by omega) (rngI 0 (r+1).toNat) [] .hole X1 hX1 (fun q hq=>by
    have:=ZS _ _ _ hq
    exact ⟨by omega,fun l hl=>by have:=hB1.one l hl;omega⟩)
   rw [nil_append] at lc
   replace lc:Z9 (CK C).fok (CK C).fuel 1 (.name 0) [] (.bin .Mod (.bin .Sub (.k (.int 0)) (.bf .sum [.comp 1 [0] (.name 0) .val [.v 2] [] (.ix (.v 0) (.v 1))])) (.v 1)) (dI (rngI 0 (r+1).toNat)) [] [.hole,I p,.node .lst true X1]=_:=lc
   have hm1:∀ x0 x2 x4 x5 x6 x7 x8 x9 x10 x11 x12 x13:D,ZR 1 [1,3] (Z9 (CK C).fok (CK C).fuel 1 (.name 0) [] (.bin .Mod (.bin .Sub (.k (.int 0)) (.bf .sum [.comp 1 [0] (.name 0) .val [.v 2] [] (.ix (.v 0) (.v 1))])) (.v 1)) (dI (rngI 0 (r+1).toNat)) []) [x0,I p,x2,.node .lst true X1,x4,x5,x6,x7,x8,x9,x10,x11,x12,x13]=.ok (Ls true ((rngI 0 (r+1).toNat).map (col p B1)),[x0,I p,x2,.node .lst true X2,x4,x5,x6,x7,x8,x9,x10,x11,x12,x13]):=fun x0 x2 x4 x5 x6 x7 x8 x9 x10 x11 x12 x13=>by
    rw [ZG (js:=[1,3]) (caps:=[I p,.node .lst true X1]) (δ1:=[x0,.hole,x2,.hole,x4,x5,x6,x7,x8,x9,x10,x11,x12,x13]) rfl lc (by rw [Z0,length_map,ZY,szl];omega)]
    rfl
   have hit:=Zb1 (r+1) (by omega)
   have x2l:X2.length=n+1:=by
    have:=congrArg List.length hX2
    rw [Zdw,length_map,ZZ] at this
    omega
   have st2:=fun δ=>Zdk 3 δ X2 (Ls true ((rngI 0 (r+1).toNat).map (col p B1))) m m0 (by rw [x2l];omega)
   refine ⟨p,r,n,B1.set m.toNat ((rngI 0 (r+1).toNat).map (col p B1)),X2.set m.toNat (Ls true ((rngI 0 (r+1).toNat).map (col p B1))),ys,[m],p1,r1,r2,n6,hB1.put m.toNat _ (by rw [length_map,ZY];omega) (fun x q=>by
    obtain ⟨y,_,rfl⟩:=List.mem_map.mp q
    exact ⟨emod_nonneg _ (by omega),emod_lt_of_pos _ (by omega)⟩),ZhS X2 B1 _ _ hX2,hy,.inr ⟨m,rfl,m0,by omega,fun q hq=>?_⟩,?_⟩
   . rw [ZhT (fun b=>b.getD q 0) B1 m.toNat _ (by omega),g1 q hq]
     have e1:(replicate (r+1).toNat (0:Int)).getD q 0=0:=by
      rw [getD_eq_getElem?_getD,List.getElem?_replicate]
      split<;>rfl
     have e2:((rngI 0 (r+1).toNat).map (col p B1)).getD q 0=col p B1 q:=by
      rw [getD_eq_getElem?_getD,getElem?_map,Zl1 _ _ _ (by omega),Int.zero_add]
      rfl
     rw [e1,e2]
     unfold col
     rw [toNat_natCast]
     generalize (B1.map fun b=>b.getD q 0).sum=S
     rw [Int.sub_zero,Int.add_emod,Int.emod_emod,<- Int.add_emod,show S+-S=0 by omega,Int.zero_emod]
   . simp only [Zat,take_succ_cons,take_zero,scr]
     generalize (rngI 0 (r+1).toNat).map (col p B1)=sp at *
     generalize rngI 0 (r+1).toNat=rg at *
     generalize dL false B=BF at *
     (simp_all [k1,k2,k3,k4,hroll,hbod,hX,dl,hh,hs,n0,nl1,i0,i1,d1,hd,V.int.injEq,d2,im,rp,st1,hit,hm1,st2,Zk,scr])<;>rfl
 . refine ⟨p,r,n,B,dL false B,ys,[],p1,r1,r2,n6,hB,Zx _ _,hy,.inl rfl,?_⟩
   simp only [Zat,take_succ_cons,take_zero,scr]
   generalize dL false B=BF at *
   (simp_all [k1,k2,k3,k4,hroll,hbod,hX,dl,hh,hs,n0,i0,d1,hd,V.int.injEq,Zk,scr])<;>rfl
def Zl3(C:Addr)(ns:List Int)(h:ns.length<=63):∃ ds',(Zfh C).run [scr ns]=.ok (.sc (.bl true),ds'):=by
 obtain ⟨p,r,n,B,X,ys,out,p1,r1,r2,h6,hB,hX,hy,ho,hpre⟩:=Zn7 C ns
 have n1:=hB.n1
 obtain ⟨x9,hma⟩:=ZsX C p r n B hB h6 ys out X hX (scr ns)
 have hmb:=ZsY C p r n B hB h6 (scr ns) (I p) (I n) (Ls true ys) (Ls true out) (.node .lst false (dL false ((rngI 0 ((n:Int)+1).toNat).map (Fb p n B)))) (Ls false (B.dropLast.map gb).flatten) x9 [.sc (.str "told"),Ls false (B.dropLast.map gb).flatten,.node .lst false (dL false ((rngI 0 ((n:Int)+1).toNat).map (Fb p n B)))]
 obtain ⟨oo,out2,ds,hmc,hc⟩:=ZsZ C p r n (by omega) ys out hy (scr ns) (I p) (I r) (.node .lst true (dL false B)) (.node .lst false (dL false ((rngI 0 ((n:Int)+1).toNat).map (Fb p n B)))) (Ls false (B.dropLast.map gb).flatten) x9 (if B.dropLast.any (lb r) then [.sc (.str "mixed"),.sc .non] else [.sc (.str "told"),Ls false (B.dropLast.map gb).flatten,.node .lst false (dL false ((rngI 0 ((n:Int)+1).toNat).map (Fb p n B)))]) (ho.imp id fun ⟨m,a,b,c,_⟩=>⟨m,a,b,c⟩)
 have p47:=hB.p47
 have hrow:(B.dropLast.map gb).flatten.length<=1000:=by
  have:=ZgR gb 100 B.dropLast fun l q=>le_trans (Zfz _ _ _) (by have:=hB.one l ((dropLast_sublist B).subset q);omega)
  have:=hB.len
  rw [length_dropLast] at *
  omega
 have hfin:∃ ds',ZaN 1 (exs (c1 C) ((Zat C).drop 12) [scr ns,I p,I r,.node .lst true (dL false B),I n,Ls true ys,Ls oo out2,.node .lst false (dL false ((rngI 0 ((n:Int)+1).toNat).map (Fb p n B))),Ls false (B.dropLast.map gb).flatten,x9,.node .tup true ds,.hole,.hole,.hole])=.ok (.sc (.bl true),ds'):=by
  rcases hc with ⟨rfl,rfl⟩|⟨m1,m2,lo,rfl,rfl,q0,q1,q2,q3⟩
  . have out0:∃ k0:Int,(0<=k0/\k0<=(n:Int))/\k0∉out2:=by
     rcases ho with rfl|⟨m,rfl,_,_,_⟩
     . exact ⟨0,by omega,by simp⟩
     . by_cases e:m=0
       . exact ⟨1,by omega,by simp;omega⟩
       . exact ⟨0,by omega,by simp;omega⟩
    obtain ⟨k0,hk0⟩:=out0
    refine ZhR C p r p1 r1 r2 n h6 _ ys hy oo _ k0 hk0 _ _ _ _ _ fun ks e1 e2 e3=>?_
    obtain ⟨m,f1,f2,f3⟩:∃ m:Option Int,(∀ k,m=some k->∀ q:Nat,(q:Int)<=r->(B.map fun b=>b.getD q 0).sum % p=0)/\(∀ k,k∈ks↔(0<=k/\k<=(n:Int))/\m≠some k)/\(∀ k,m=some k->0<=k/\k<=(n:Int)):=by
     rcases ho with rfl|⟨m,rfl,a,b,c⟩
     . exact ⟨none,fun k q=>by (cases q),fun k=>by rw [e3];simp,fun k q=>by (cases q)⟩
     . refine ⟨some m,fun k _=>c,fun k=>?_,fun k q=>by (cases q;exact ⟨a,b⟩)⟩
       rw [e3]
       simp only [mem_cons,not_mem_nil,or_false,ne_eq,Option.some.injEq]
       constructor
       . exact fun ⟨x,y⟩=>⟨x,fun e=>y e.symm⟩
       . exact fun ⟨x,y⟩=>⟨x,fun e=>y e.symm⟩
    cases hb:B.dropLast.any (lb r) with
    | true=>rw [if_pos rfl];exact Zhh C hB h6 e1 e2 f1 f2 f3 hb
    | false=>rw [if_neg (by decide)];exact ZiG C hB h6 e1 e2 f1 f2 f3 hb hrow
  . have out0:∃ k0:Int,(0<=k0/\k0<=(n:Int))/\k0∉[m1,m2]:=by
     by_cases z0:m1=0
     . by_cases z1:m2=1
       . exact ⟨2,by omega,by simp;omega⟩
       . exact ⟨1,by omega,by simp;omega⟩
     . exact ⟨0,by omega,by simp;omega⟩
    obtain ⟨k0,hk0⟩:=out0
    refine ZhR C p r p1 r1 r2 n h6 _ ys hy oo _ k0 hk0 _ _ _ _ _ fun ks e1 e2 e3=>?_
    exact ZiF C hB h6 e1 e2 (fun k=>by rw [e3];simp) q0 q1 q2
 obtain ⟨ds',hfin⟩:=hfin
 refine ⟨ds',runB (f:=Zfh C) (C:=CK C) (n:=1) (N:=14) (b:=Zat C) rfl rfl ?_⟩
 have sp:∀(k:Nat)(b:List T.S)(δ:List D),exs (c1 C) b δ=seqR (exs (c1 C) (b.drop k)) (exs (c1 C) (b.take k) δ):=fun k b δ=>by rw [<- Zep,List.take_append_drop]
 show ZaN 1 (exs (c1 C) (Zat C) [scr ns,.hole,.hole,.hole,.hole,.hole,.hole,.hole,.hole,.hole,.hole,.hole,.hole,.hole])=_
 rw [sp 6,hpre,Zdi,sp 4,hma,Zdi,List.drop_drop,sp 1,hmb,Zdi,List.drop_drop,sp 1,hmc,Zdi,List.drop_drop]
 exact hfin
end My
open PySem PySem.W PyProof.Rows
set_option maxHeartbeats 0 in
theorem PySem.Challenge.cw_barlabel_k54_whole_labels_by_hand_holds : PySem.Challenge.rw_barlabel_k54_whole_labels_by_hand.Holds := by
 w_on;o_law;k_head;(case hw=>w_witness2)
 k_fill
 refine T.ZkB (l:=PySem.Challenge.rw_barlabel_k54_whole_labels_by_hand) (k:=11) (x:="_law_script") (R:=fun K=>(My.Zfh (My.Zfc K)).run) rfl rfl ⟨rfl,by decide,by decide,rfl⟩ (fun w h Y=>PySem.W.kIn_of Y) ?F (fun K ns hl=>My.Zl3 (My.Zfc K) ns hl)
 case F=>
  intro w mg fa h KX G hmg
  refine' My.ZpH KX G hmg ?_ ?_ ?_ ?_ ?_ ?_ ?_ ?_ ?_ ?_ ?_ ?_ ?_ ?_ ?_ ?_ ?_ ?_ ?_ ?_ ?_ ?_ ?_ ?_ ?_ ?_ ?_ ?_ ?_ ?_ ?_ ?_ ?_ ?_ ?_ ?_ ?_ ?_ ?_ ?_ ?_ ?_ ?_ ?_ ?_ ?_ ?_ ?_ ?_ ?_ ?_ ?_ ?_ ?_ ?_ ?_ ?_ ?_ ?_
  any_goals first|(refine' T.ZsB ?a ?b ?c ?d;(case a=>k_is);(case b=>k_is);(case c=>k_is);(case d=>k_is))|(refine' T.ZsC ?a ?b ?c ?d ?e;(case a=>k_is);(case b=>k_is);(case c=>k_is);(case d=>k_is);(case e=>k_is))|(refine' T.CI.mk ?a ?b ?c ?d ?e ?f ?g;(case a=>k_is);(case b=>k_is);(case c=>k_is);(case d=>k_is);(case e=>k_is);(case f=>k_is);(case g=>k_is))|(refine' T.ZsH ?a ?b;(case a=>k_is);(case b=>k_is))|(refine' T.XA.mk ?a ?b ?c ?d ?e ?f ?g ?h ?i ?j ?k;(case a=>k_is);(case b=>k_is);(case c=>k_is);(case d=>k_is);(case e=>k_is);(case f=>k_is);(case g=>k_is);(case h=>k_is);(case i=>k_is);(case j=>k_is);(case k=>k_is))|(refine' T.ZsG ?a ?b ?c ?d ?e ?f ?g ?h;(case a=>k_is);(case b=>k_is);(case c=>k_is);(case d=>simp [L2.Zg9]);(case e=>k_is);(case f=>k_is);(case g=>k_is);(case h=>k_is))|(refine' T.ZsI ?a ?b ?c ?d ?e;(case a=>k_is);(case b=>k_is);(case c=>k_is);(case d=>k_is);(case e=>k_is))|(refine' T.ZsF ?a ?b ?c ?d ?e ?f ?g;(case a=>k_is);(case b=>k_is);(case c=>k_is);(case d=>k_is);(case e=>k_is);(case f=>k_is);(case g=>rfl))|(refine' L2.XI.mk ?a ?b ?c;(case a=>k_is);(case b=>k_is);(case c=>k_is))|(unfold T.NI;k_is)|k_is|rfl|exact Nat.le_of_ble_eq_true rfl
