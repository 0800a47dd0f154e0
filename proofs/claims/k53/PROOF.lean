import PyProof.Rows.All
import Wide.All
import OpenK.AllK
import Wide.FinOn
import Lean
import PyProof.EqAt
import PyProof.EqKinds
import PyProof.TupleCall
import PySem.Challenge.RW_barlabel_k53_rolls_refused
set_option Elab.async false
set_option compiler.extract_closed false
set_option genSizeOf false
set_option linter.all false
set_option maxRecDepth 100000
set_option maxHeartbeats 4100000
open PySem.W (instObj methodObj lookIn plainGet hasDictIn findIn handedIn plainGet_of isFn plainOver takerIn looks_clsIn makesIn typeIn emptyDict looks_findIn keepIn specialIn takesIn mroIn kitOne kia_one callWith_K methodCall_KW cellsFrom_some fnOf codeIn codeRec_of tailIn tail_of_in Looks clsIn findObj looks_mroIn nsIn kitCls kitMeta notCls nsOkIn mg_of)
open Nat (lt_of_lt_of_le lt_irrefl ne_of_lt le_trans ne_of_gt zero_le le_succ le_add_right reduceSub)
open List (mem_cons_self mem_cons_of_mem getElem?_set_ne mem_append_right size_toArray length_cons map_cons length_map append_nil of_mem_zip replicate length_take getElem?_map length_append length_replicate length_drop any_cons replicate_succ flatten_cons foldl length_singleton nil_append find?_cons length_nil map_nil lookup_cons cons_append mem_cons not_mem_nil zip_cons_cons length_zip drop_zero length_range map_map getElem?_cons_succ map_append getD_eq_getElem?_getD)
open Int (mul_one toNat_natCast sub_emod emod_nonneg emod_lt_of_pos mul_le_mul)
open PySem.W.Looks (here andThen)
open Bool (and_eq_true not_eq_true' or_eq_true)
open Option (isSome_map bind_some getD_some map_eq_some_iff bind_eq_some_iff map_some)
open Array (getElem?_setIfInBounds)
open PyProof.Rows (boot_enumerate)
abbrev Pn:=List (PySem.Addr×PySem.Obj)
abbrev VS:=PySem.Value->PySem.Shared->Prop
abbrev SO:=PySem.Str->Option PySem.Value
abbrev Fg:=PySem.W.Frag
theorem Q90(h:0=0:=by rfl):True:=trivial
def Q9:=Q90._auto_1
theorem Q80(h:0=0:=by kernel_rfl):True:=trivial
def Q8:=Q80._auto_1
theorem Q70(h:0=0:=by decide):True:=trivial
def Q7:=Q70._auto_1
namespace PySem.W.Fast
local macro_rules|`(command|#print $s:str)=>do
 let mut a:=#[]
 for w in s.getString.splitOn " " do
  let i:=Lean.mkIdent (.mkSimple s!"tw{w.foldl (fun n c=>n*43+c.toNat-48) 0}")
  a:=a.push (←`(command|def $i:ident:=trivial))
 return Lean.mkNullNode a
#print"<IW87SJ;IUV< BWFPIQ05B12V ?R1O;SB27ETA 260I:YHJ8<51 :;D3KVNH>VW0 4X8DHMKD<D@B <PNYB=S5B993 >QERW5RF@T;7 ?XS5CH<@IU1V A1FD?NQ:72SG 68Y10WZV:QJE <ZC87ORFP@9@ ?UXTZ2=HBP1 7C=7:S0VFZM: 1MY:YSPJ1Q5O 8OQ7:9?NP7WU :UWOJUMHSD43 <5AQD5?8MG6 ;9P:?TU?NL 3WTK;05>F;P6 83>AMV6L5ID: =HEBS<CO<LCS 7SKB91571R3U ;S9K8<U<;W<U 167CMKG3@OU7 15DQV>Q>0L6Q <S3TT1B7L5MX 3K?KZADDR:0S 3YC<=SKIJOIQ BBUFCX89APD9 6XSC29UHSG8> 2U7<UT7879EC @RHB9S7XYA8; Q98=P@;DDD? ;J0RSWK22HWC <FVJ7;VFR3=8 4@PYDXHONOGL 8>A:6<D9XKRZ 6@R5GKCE6:3K >R?IAML7LS17 C8F75?85P@4R 6O6EF:SW@M@6 ?0699SI3XNJN 81EQW4?1UB6R :M=HW3M65>43 3IRQ7;DSM>76 6PL2:SH8A8GH B5ORF7XMVA15 ;?MJ718V54D7 FONXAAW<5HH 5;7@<6@5K:7? 4B0<UW58K42W 9HWS8MDLS7RU 5OU=W0TX;ZIN 1UKHDNE9KLE8 4TE@18CJZ=>> C4>MDAO7K=03 4C5A>>6;22F7 >JYVCQO2FVRP 8HYD5R1SR@ZD B4FWEFRO6S;G :?@Z63Z8571C ?PKH0ADJAZ79 <<:=P=A<QAOY 7W:KNG=;QBR; CCPK?RYMZN<O 8>=044K<LCNJ 1X>UQ1@KEJ9N 2X36C0MHFP?K 5QUMM>G>QJIS 9VXPE53E5:4V >S=3J8MV4CY> :H8@N=O4:N78 :DAFDFQNMNRO <5CVBOIR=VPP O7<D8C4UW5T 5TY5>EW0S68P E1=KZ2HE2LP ??AXAI7U0@ZM >TVD5@ZQ<9TQ 8TI1XDP2X412 P@23:V=QKO3 6<:O56CB0WWG 2DB:WXOOYB0V 3N8W=4PRKU4G ?7@FCTQE39:A 6WN:5Q4TP195 :Z<259F9WA2G 7<E2L;CO66QP 4E=18E8X1VM> <L@ITJCYYYIX ><0>KGN0@TH= @P:7V@K0B24T 2W?UR36<GL4M :5F9>0<?5Z2H 4UP:43EO5IFD 5PVORZRBVFX@ ACV7AN4>WRJ2 6M6W9>M=40DU 7PGBU1ENT8W7 ?YH67KCFWH8Q 8WO@4SEFIA4W B?UHSBY8CB=Z 4>GDVQS06J>3 3N?CSKEKMV0H 9HVL77C5HNR; =:8KWWJG8JDB :RHM?OZCK;QF 85X>;1O<1Z5Q 292A;K2X934A =:YSVGR=HO2J <O=27;>VP5FK 1?1@W5UTQF3Y :FYIYURE@@1J =7O0YH;MSB=F AR7=HUX?MW3W 7KL0H9YH;9@D 4MA7=3NU;70R ?G2@L=CW@2:? 5U>KHM1LGQ=9 ;QQL<7=6:<>? C88H@U0:7XGM AJV?ZWZJKM6X 8=CNYE8QT5R; <OD=J<KUW9C7 :A?G9V<?OC8K 193GL=7XBQO3 9Y>C<L6E:RKZ =W>TGKDC30TR <FUO0B4ZUDAN ;I9FZ;O67?T5 36<NK64V9ESO 4FW><9BDAM7U C2F<9PQL0E9K 8KK;OM518>EB ;BPSE12OZ3:O :2V>R85A?XIV 5OIG2O087>:R >78KWTZSSP8 BDW5HQIIRLAU @G4Z<0R?VA31 ?>QEBJ9CXH6Z 13G=FUC421:2 3;V=:X>56EQ4 <J?O=5;9;@A9 C1VDLAFLUG7S 6IM2W2JJ;;Q ;KSRTKVR@IMW 2T@X@:YU2OU8 8YQL?86P@N2L >B=PBOO1:YLX C5<RTNH7UQGL 6JLDR9<BBDCP 6W@VTUM7A127 A0OJDVPNVTM8 PVE=VYMOLV0 5N57KDOLTCB? 5?:VKQD3:WTQ AWXDORFGCJJ 3HAI0=F1Z=G2 2J<F>12LWF5L 4T00YG3V9@IU ?ZO2J92321LG CBCIK4I6F2HS 9MILM3CV2O;: 80L:AX=55M?A A8CYVU<<2H5I :SMH?J=NQMUV BD:BXZ9KG204 9SU>T0M1;SX= @JXPS>L5ZIVK 7QC26MNC9S9@ ?9XT91OM6?PP 7LCX5J:5>GLM 8S?OE2=U?5=J 3183Z;J1O96P BIF3M91A=461 9X4TJYHU08=0 1:HWZ7OG9O=R 16W6E0DRW?VP 4XTQPGUSE5CY ?UP8A9263OWQ 3D238I<;DK4: >9MF?N:O39CI 9W=QQZY:;RJB 5OSV>9A9;K5Y 9IBWZZH:DZ2H 524EOOPMSYRC 24ZV<C4AFGPR 77WUYV<UV=BT <>UL5>8QC=;Z 9UR::VYQKF>Z 88DUVOR<YJGJ <FAWJ2XJZ;?K HHGDQ?KUZBF =VKXXXQ7;PYB A7?TM4TJSRCU ;2J>UYQCCSDV @BPKSA9K6ZNQ 3UK<1PJ4BPP5 <3AEGAF=02NF 25C2BQD@7HX8 <<HQGCJS2?BI :50N;IWVQH>C ?AFP=KEUNBQH 6WT5XQ9:BGE2 4PYHB50TO5TI 5<<Q4I729=J; =SEM>A826PLZ >;Y9?4;F58RS 11CNYKQJD5>J 5S<K?Y6<I3D= ?LT7EF1XUA:1 ;V<PGSQT<TO8 :JEW4;ATQR5G 8PL:545WD4JN >@Z>FUXT=0CX 1JWT?GBCJAW; 8I>K;WPQSMF9 @VWHTIO:L5CB ;Z9=V<BD<74L 7SC;W149I9BJ 94TA@7NR695S ??KN6FIT?BLC 67A1GA?OS=L7 3MH145LVGNBN 1X62CCR1Q84: ALR4I7ZO=HZZ BPLDS7STBF=> :EK;4<K5NPXI BFKD51SE;@Z2 =P0@7SP4SSKP 94>BHY;LDRXV 70A88Z;<J1OI 4MDJBSQ<@VRA 6U1VF;IN9WJT 3YNIEFAILIZW 2J?@S741B6Z@ ?B8I:TH9O2O 4L0<81VU0IQP =7O;4ETNFAZ6 3MW7DKMIORRZ 6F6TAQO?AX4> @V0G<8T06N3@ @BFW2QGNBJGW 5EXGDCLETBB; >XC70XK50V?V 1;9P@MEE5X8R :GL<2LC2RFL5 3?SF=EJA7SXY ?6:8QZQY=UCN 6T2=C5YGZRC 17OEXG<RL7VE :K4EI6:E:FV= 2XRW?5RJSND3 9N7L45I>0C1 :L<TQ5N01A>M IRD?F4SAIZL 5VE9NTD9W1=3 5O:E7GQ3;LCU BKVXLLX<H<R< B=KG@H:UTJNN >F131PB;TLR: >8IS31B0:TIG 1A:T@57IE8>= =DF:43I4C4ME <E>5=@5<984K ;RYQPOPAXF=S 14ANJR4H;V2Z =>01?5A6H9OT :XK2BWE6=BRX 4SP2UB?CC@O@ ADXP?8X3RAY7 4A>VVZWFPMIJ 49;2V@9ZG<1T 3C?QDA6><3LV @2GC3RWBQ?E1 <CT=QBFL6>BB 5PPYI@1WKIV0 =9TDJ8A@?Y0@ <B>X4UP0?GW> 3E>9P3IYQ?T? ;;4>=T?5I:HS 855862PDP6QY 5SOP;D<KUTO; ?E7ND5;AI3CX >;1CINF09LO0 1B0SPEH30NI8 <ZVW:O76<D4> 2ER6N90I?=PH =NGP?@?R2AAZ 3?W4Q04UNVO1 B17YET?55DI9 C@ZTOP:RX67T 9<OK@H?4TFR; 956WJB7U4AW6 5LUVS0@H5TDA BB7?QO576:YZ B71T06W<STG5 1MAY?YVZD53? :HT?TSBWZ3NO 4?TJO92ODB9I =XJWOURXP>IJ :J0M5W175<LQ 2Z:FXFM<5M=L 2Y<B:F>I42CJ BWU3M34811PU B@CCOG5DRL:Q AWSF>=TRUW<1 AOG8XWO<T16P 1P>D?V?7W>2U @AEX5<1I7JY6 ?VO=49BNPR65 1I84?M<V<:DH 1DW==L=BPAGR >;O<ND1<R9N5 =SRBWH<ZM9NY =I8YWAUALR2F ;HJ?M?;37QIW :2:E;?7K2?DK 7P5Q7R3;DFKQ 7P1JK<R:J?54 7EVOH4MZA42Z 4ZDW2XWUWNHY 4F4<B1DBFIIP 23NQKH7U5UQH 8OI40N6:VX2 BJRQJ6PIAV>B BEZVB<OZ8IPL ADL6DP0=QCSE @G>YBZ?GZTK= ?6TJV3?>3CDV =37JNYIML=FI <X2ZPDL2IPY8 IHAK@UW7V=H 9=>@QXD9G<Z? 6REIFIOF5IHY 6>N:FOB>VQO; 4UE<>HQ?I9XB CGIAEYWY5DN3 A?4TRJZVW18@ <HIA;;M1=SE; <:RZUB33;WFK ;YLI:D=3>5NV ;S0AQ7>1OQPS ;HVYMISGYIGU ;6M5R9GSCU@M :W4PIKGK7:8X :H;Q4H<@PE88 89S8WWEP9F7X 80J818MNS5Z5 5TJXLJ?1>R81 4T@FERTL17@V 3P7LGUFF7:A1 BKR>JGB@WP0A B=6J@2PL4404 1PBBTYG=Y5>S ?9HI6U:<3?X: >CYUB:TB5E1E >4PXX4QX37GA =6R2OUPQLQ4F 1:B>@2ZWE3@Y ;:A0I4<JNNSN 2JEI2XQJYB5J :OXJHB;QOWHE 10J6C=GN>KLF :4L4PR48SZ?T :27F70GXR2DY :0FGUKP4JZGY :09BV7;:07F1 4;8BWL5Z1EE 9L0P:C909A8C 9JTG=3CBT;A4 9I4BY3;URB32 9BWLXT7<SEQZ 9;QQFE8SHVCO 8I8>2INBX:G2 8DY@TQ<CLXK5 8@E30133D@E3 7ZH6J8IC<F4L 7Y:=1;6Z1>NO 7KWO38PRNW1E 7K48HIJE4JV6 P4YM;95LS5A 72T0FZNY3PVR 72>4RGK14GZ= 6RX6WEION<SQ 6KWB3>UNP@XO 6J><AM2UHDXM 6H>9H5PR;93; 6=Q90JUWO2SJ 6;MINPQIELKZ ICVWDFB;1L? 5UYS81KE:1?4 5N8JMRS843KY 5JPB:68NBLUR 5IL1OK4:44@P 5IDCG6@L1BKA GMK:ZEXCF>Z FZ5IICIVF5E F5EYRCBA3AR 4ZYUA3S;E136 4;LZ4FD3KC@Y 3YXNPFFN:BZM 3I>:<?3JXBPH 35FA5@I=F;AS 32M>ECKYU7Y@ 2S9E:J5;AA@Q 2S0R>=0RJOVU 2BZLOVP6TF<J 2?@>2LZ0KTGH 25UP:FQUQWM7 25GD9A3JB=VJ COZ:7=979CH3 CNF54N6UMM:= CC3ONAV@DI0G C2?9<DFU0;DY B@08L@?X6WV= AI=46=:26YYD AD2QWLAP838R AC0EKK4:<3:O 1OY;0FEX:<IG A<3>1FOR7HOI 1O2YFOV>SSXT @MSP9PE9@=@L @5M4SB4L7RAB ?Q8DTZY:8FFJ ?POEM@6=QI20 ?IA1NK:TF>YJ"
end PySem.W.Fast
namespace L2
open PySem PySem.Spec PyProof.Rows
variable{H H':Hp}{s s1:Shared}{X:Cx}{pins:Pn}{pos:Pos}{tg:Expr}{us:List Value}{mg mA:SO}{base h':Heap}{t':Nat}{kindOf:Str->Option NameKind}{qual name:Str}{scope:Scope}{N ps:List Str}{kw:List (Str×Value)}{g':Array GenState}{ch:List Addr}{it:Addr}{prog:Program}{cd dV doc pm cdv ct oc:Value}{params:Arguments}{body:List Stmt}{an:Option Addr}
abbrev Key:=Sum Int Str
noncomputable def Zd2:Key->Value->Bool
 | .inl k,v=>Value.isInt k v
 | .inr x,v=>Value.isStrOf x v
noncomputable def keyH(w:World):Key->Int
 | .inl k=>hashInt k
 | .inr x=>hashStr w x
theorem ZV:∀{k:Key}{v:Value},Zd2 k v=true->(∃ i t,k=Sum.inl i/\v=Value.int i t)\/(∃ x t,k=Sum.inr x/\v=Value.str x t)
 | .inl i,v,h=>by
  obtain ⟨t,e⟩:=Value.isInt_shape (k:=i) (v:=v) h
  exact .inl ⟨i,t,rfl,e⟩
 | .inr x,v,h=>by
  obtain ⟨t,e⟩:=Value.isStrOf_shape (x:=x) (v:=v) h
  exact .inr ⟨x,t,rfl,e⟩
def Ziq(i:Int)(t:Tok):Zd2 (.inl i) (.int i t)=true:=by simp [Zd2,Value.isInt]
def Zir(x:Str)(t:Tok):Zd2 (.inr x) (.str x t)=true:=by simp [Zd2,Value.isStrOf]
def ZmR(a b:Int):decide ((Sum.inl a:Key)=Sum.inl b)=(a == b):=by
 by_cases e:a=b
 . subst e;simp
 . have h:¬ (Sum.inl a:Key)=Sum.inl b:=fun q=>e (Sum.inl.inj q)
   rw [decide_eq_false h]
   exact (beq_eq_false_iff_ne.mpr e).symm
def ZmS(a b:Str):decide ((Sum.inr a:Key)=Sum.inr b)=decide (a=b):=by
 by_cases e:a=b
 . subst e;simp
 . have h:¬ (Sum.inr a:Key)=Sum.inr b:=fun q=>e (Sum.inr.inj q)
   rw [decide_eq_false h,decide_eq_false e]
def ZmT(a:Int)(b:Str):decide ((Sum.inl a:Key)=Sum.inr b)=false:=decide_eq_false (fun q=>nomatch q)
def ZmU(a:Str)(b:Int):decide ((Sum.inr a:Key)=Sum.inl b)=false:=decide_eq_false (fun q=>nomatch q)
noncomputable def ZY(prog:Program)(w:World):PySem.KeyKind prog w Key where
 is:=Zd2
 hash:=keyH w
 inj:=fun v a b ha hb=>by
  rcases ZV ha with ⟨i,t,rfl,rfl⟩|⟨x,t,rfl,rfl⟩
  . rcases ZV hb with ⟨j,u,rfl,e⟩|⟨y,u,rfl,e⟩
    . injection e with e1 _;rw [e1]
    . exact nomatch e
  . rcases ZV hb with ⟨j,u,rfl,e⟩|⟨y,u,rfl,e⟩
    . exact nomatch e
    . injection e with e1 _;rw [e1]
 byValue:=fun k v h=>by
  rcases ZV h with ⟨i,t,rfl,rfl⟩|⟨x,t,rfl,rfl⟩<;>rfl
 pyHash:=fun hv h=>by
  rcases ZV hv with ⟨i,t,rfl,rfl⟩|⟨x,t,rfl,rfl⟩
  . exact wpAny_pyHash_int h
  . exact wpAny_pyHash_str h
 eqBool:=fun hu hv h=>by
  rcases ZV hu with ⟨i,t,rfl,rfl⟩|⟨x,t,rfl,rfl⟩
  . rcases ZV hv with ⟨j,u,rfl,rfl⟩|⟨y,u,rfl,rfl⟩
    . rw [ZmR] at h;exact wpAny_eqBool_int h
    . rw [ZmT] at h;exact SeqAt.EqAt.int_str i t y u _ _ _ _ h
  . rcases ZV hv with ⟨j,u,rfl,rfl⟩|⟨y,u,rfl,rfl⟩
    . rw [ZmU] at h;exact SeqAt.EqAt.str_int x t j u _ _ _ _ h
    . rw [ZmS] at h;exact wpAny_eqBool_str h
 «strs»:=fun k x t v h=>by
  rcases ZV h with ⟨i,u,rfl,e⟩|⟨y,u,rfl,e⟩
  . exact nomatch e
  . injection e with e1 _
    subst e1
    cases v<;>rfl
def Zg4(prog:Program)(w:World)(i:Int)(t:Tok):(ZY prog w).is (.inl i) (.int i t)=true:=Ziq i t
def Zg5(prog:Program)(w:World)(x:Str)(t:Tok):(ZY prog w).is (.inr x) (.str x t)=true:=Zir x t
inductive V where
 | non|bl (b:Bool)|int (i:Int)|str (x:Str)|byt (b:Array UInt8)|flt (b:UInt64)|ref (a:Addr)|ty (n:String)
 deriving DecidableEq
def RelV:V->Value->Prop
 | .non,u=>u=Value.none
 | .bl b,u=>u=Value.bool b
 | .int i,u=>∃ t,u=Value.int i t
 | .str x,u=>∃ t,u=Value.str x t
 | .byt b,u=>∃ t,u=Value.bytes b t
 | .flt b,u=>∃ t,u=Value.float b t
 | .ref a,u=>u=Value.ref a
 | .ty n,u=>u=Value.type n
abbrev Vals:List V->List Value->Prop:=Paired RelV
def Vals.length(r:Vals xs us):xs.length=us.length:=Paired.length r
theorem Vals.get:∀{xs:List V}{us:List Value}{i:Nat}{x:V},Vals xs us->xs[i]?=some x->∃ u,us[i]?=some u/\RelV x u
 | _,_,_,_,.nil,e=>by simp at e
 | _,_,0,_,.cons r _,e=>by simp at e;subst e;exact ⟨_,rfl,r⟩
 | _,_,i+1,x,.cons _ t,e=>by
  obtain ⟨u,h1,h2⟩:=Vals.get (i:=i) (x:=x) t (by simpa using e)
  exact ⟨u,by simpa using h1,h2⟩
theorem Vals.set(r:RelV x u):∀{xs:List V}{us:List Value}(i:Nat),Vals xs us->Vals (xs.set i x) (us.set i u)
 | _,_,_,.nil=>.nil
 | _,_,0,.cons _ t=>.cons r t
 | _,_,i+1,.cons q t=>.cons q (Vals.set r i t)
theorem Vals.append:∀{xs ys:List V}{us ws:List Value},Vals xs us->Vals ys ws->Vals (xs++ys) (us++ws)
 | _,_,_,_,.nil,s=>s
 | _,_,_,_,.cons r t,s=>.cons r (Vals.append t s)
termination_by structural a=>a
theorem Vals.take:∀{xs:List V}{us:List Value}(n:Nat),Vals xs us->Vals (xs.take n) (us.take n)
 | _,_,0,_=>.nil
 | _,_,_+1,.nil=>.nil
 | _,_,n+1,.cons r t=>.cons r (Vals.take n t)
theorem Vals.drop:∀{xs:List V}{us:List Value}(n:Nat),Vals xs us->Vals (xs.drop n) (us.drop n)
 | _,_,0,r=>r
 | _,_,_+1,.nil=>.nil
 | _,_,n+1,.cons _ t=>Vals.drop n t
def RelO:Option V->Option Value->Prop
 | some v,some u=>RelV v u
 | none,none=>True
 | _,_=>False
def KV{κ:Type}:List (κ×V)->List (κ×Value)->Prop:=Paired fun(p:κ×V)(q:κ×Value)=>p.1=q.1/\RelV p.2 q.2
noncomputable def kV:Key->V
 | .inl i=>.int i
 | .inr x=>.str x
inductive HO where
 | lst (xs:List V)
 | tup (xs:List V)
 | dK (kvs:List (Key×V))|dT (kvs:List (List Key×V))
 | set (S:Int->Bool) (n:Nat)
 | ins (C dx:Addr) (fs:List (Str×V))
 | own (x:Addr)
 | xd (fs:List (Str×V))
 | met (f x:Addr)
 | rng (lo hi:Int)
 | frz (o:Obj) (u:HO)
 | tbl (ps:Array Value)
 | ext (φ:Heap->Prop)
 | exc (C:Addr) (dx:Option Addr) (fr:Bool) (fs:List (Str×V))
noncomputable abbrev Hp:=Addr->Option HO
noncomputable def upd(H:Hp)(a:Addr)(o:HO):Hp:=fun b=>if b=a then some o else H b
def Zk:upd H a o a=some o:=by unfold upd;rw [if_pos rfl]
def Zj(h:b≠a):upd H a o b=H b:=by unfold upd;rw [if_neg h]
def ZgU:upd (upd H a o) a u=upd H a u:=by
 funext b;unfold upd;split<;>rfl
def Zpk{a b:Addr}{o u:HO}(h:H a=some o)(h':H b=some u)(d:o≠u):a≠b:=by
 intro e;subst e;rw [h] at h';exact d (Option.some.inj h')
def ZN{a b:Addr}{o:HO}(h:H a=some o)(h':H b=none):a≠b:=by
 intro e;subst e;rw [h] at h';cases h'
section
variable(P:Program)(w:World)
def Z2(H:Hp)(h:Heap)(a:Addr):HO->Prop
 | .lst xs=>xs.length<=sizeLine/\∃(its:List Value)(n:Nat),Vals xs its/\h.get? a=some { cls:=.type "list",data:=.seq its.toArray n }
 | .tup xs=>xs.length<=sizeLine/\∃ its:List Value,Vals xs its/\IsTup h a its.toArray
 | .dK kvs=>kvs.length<=sizeLine/\(a == sysModules)=false/\∃ vs,KV kvs vs/\h.DictOf (ZY P w) a vs
 | .dT kvs=>kvs.length<=sizeLine/\(a == sysModules)=false/\∃ xs:List (List Key×Addr×Value),
  Paired (fun(p:List Key×V)(q:List Key×Addr×Value)=>p.1=q.1/\H q.2.1=some (.tup (p.1.map kV))/\RelV p.2 q.2.2) kvs xs/\
  ∃ o es ep,h.get? a=some o/\o.ExactDict/\o.data=.dict es ep/\es.toList=xs.map (entryOfKey (tupleKind (ZY P w)))/\(xs.map (·.1)).Nodup
 | .set S n=>h.SetOf (intKind P w) a S n
 | .ins C dx fs=>H dx=some (.own a)/\fs.length<=1000/\dx≠a/\h.get? a=some (instObj C dx)/\
  ∃ mA,h.Ns1 dx mA/\(∀ f,RelO (fs.lookup f) (mA f))/\PySem.Within mA (fs.map (·.1))
 | .own _=>∃ o,h.get? a=some o
 | .xd fs=>∃ mA,h.Ns1 a mA/\∀ f,RelO (fs.lookup f) (mA f)
 | .rng lo hi=>∃ t u v,h.get? a=some { cls:=.type "range",data:=.fields #[.int lo t,.int hi u,.int 1 v] }
 | .frz o u=>h.get? a=some o/\Z2 H h a u
 | .tbl ps=>h.get? a=some { cls:=.none,data:=.fields ps }
 | .met f x=>h.get? a=some (methodObj (.ref f) (.ref x))
 | .exc C dx fr fs=>fs.length<=1000/\(∃ o vs,h.get? a=some o/\o.cls=.ref C/\o.dict=dx/\o.data=.fields vs/\vs.size=6/\vs[2]?=some .none/\(fr=true->vs[1]?=some .none))/\
  match dx with
  | none=>fs=[]
  | some d=>H d=some (.own a)/\d≠a/\∃ mA,h.Ns1 d mA/\(∀ f,RelO (fs.lookup f) (mA f))/\PySem.Within mA (fs.map (·.1))
 | .ext φ=>φ h/\(∃ o,h.get? a=some o)/\∀ h1 h2:Heap,φ h1->(∀ o,h1.get? a=some o->h2.get? a=some o)->φ h2
def HOk(H:Hp)(h:Heap):Prop:=∀ a o,H a=some o->Z2 P w H h a o
end
section
variable{P:Program}{w:World}{h:Heap}{a:Addr}{o:HO}
theorem Z2.lt(x:Z2 P w H h a o):a < h.objs.size:=by
 cases o with
 | lst xs=>obtain ⟨_,_,_,_,e⟩:=x;exact Heap.lt_size e
 | tup xs=>obtain ⟨_,_,_,p⟩:=x;exact p.lt
 | dK kvs=>obtain ⟨_,_,_,_,o,_,_,e,_⟩:=x;exact Heap.lt_size e
 | dT kvs=>obtain ⟨_,_,_,_,o,_,_,e,_⟩:=x;exact Heap.lt_size e
 | set S n=>obtain ⟨o,_,_,_,e,_⟩:=x;exact Heap.lt_size e
 | ins C dx fs=>obtain ⟨_,_,_,e,_⟩:=x;exact Heap.lt_size e
 | own y=>obtain ⟨_,e⟩:=x;exact Heap.lt_size e
 | xd fs=>obtain ⟨_,⟨_,_,_,e,_⟩,_⟩:=x;exact Heap.lt_size e
 | rng lo hi=>obtain ⟨_,_,_,e⟩:=x;exact Heap.lt_size e
 | frz ob u=>obtain ⟨e,_⟩:=x;exact Heap.lt_size e
 | tbl ps=>exact Heap.lt_size (show h.get? a=some _ from x)
 | met f y=>exact Heap.lt_size (show h.get? a=some _ from x)
 | ext φ=>obtain ⟨_,⟨_,e⟩,_⟩:=x;exact Heap.lt_size e
 | exc C dx fr fs=>obtain ⟨_,⟨_,_,e,_⟩,_⟩:=x;exact Heap.lt_size e
theorem Paired.mapP:∀{l₁:List α}{l₂:List β},Paired F l₁ l₂->(∀ a b,F a b->G a b)->Paired G l₁ l₂
 | _,_,.nil,_=>.nil
 | _,_,.cons r t,f=>.cons (f _ _ r) (Paired.mapP t f)
termination_by structural a=>a
theorem Z2.stay(x:Z2 P w H h a o)(k:∀ b u,(b=a\/H b=some (.own a))->h.get? b=some u->h'.get? b=some u)
 (ho:∀ b,H b=some (.own a)->H' b=some (.own a)) (ht:∀ b xs,H b=some (.tup xs)->H' b=some (.tup xs)):Z2 P w H' h' a o:=by
 induction o with
 | lst xs=>obtain ⟨z,its,n,r,e⟩:=x;exact ⟨z,its,n,r,k _ _ (.inl rfl) e⟩
 | tup xs=>obtain ⟨z,its,r,ob,e,c⟩:=x;exact ⟨z,its,r,ob,k _ _ (.inl rfl) e,c⟩
 | dK kvs=>obtain ⟨z,y,vs,r,ob,es,ep,e,c⟩:=x;exact ⟨z,y,vs,r,ob,es,ep,k _ _ (.inl rfl) e,c⟩
 | dT kvs=>
  obtain ⟨z,y,xs,r,ob,es,ep,e,c⟩:=x
  exact ⟨z,y,xs,Paired.mapP r fun p q z=>⟨z.1,ht _ _ z.2.1,z.2.2⟩,ob,es,ep,k _ _ (.inl rfl) e,c⟩
 | set S n=>obtain ⟨ob,es,ep,t,e,c⟩:=x;exact ⟨ob,es,ep,t,k _ _ (.inl rfl) e,c⟩
 | ins C dx fs=>
  obtain ⟨d,z,ne,e,mA,⟨od,es,ep,e2,c⟩,r⟩:=x
  exact ⟨ho _ d,z,ne,k _ _ (.inl rfl) e,mA,⟨od,es,ep,k _ _ (.inr d) e2,c⟩,r⟩
 | own y=>obtain ⟨ob,e⟩:=x;exact ⟨ob,k _ _ (.inl rfl) e⟩
 | xd fs=>obtain ⟨mA,⟨od,es,ep,e,c⟩,r⟩:=x;exact ⟨mA,⟨od,es,ep,k _ _ (.inl rfl) e,c⟩,r⟩
 | rng lo hi=>obtain ⟨t,u,v,e⟩:=x;exact ⟨t,u,v,k _ _ (.inl rfl) e⟩
 | frz ob u ih=>obtain ⟨e,q⟩:=x;exact ⟨k _ _ (.inl rfl) e,ih q⟩
 | tbl ps=>
  have e:h.get? a=some { cls:=.none,data:=.fields ps }:=x
  show h'.get? a=some { cls:=.none,data:=.fields ps }
  exact k a _ (.inl rfl) e
 | met f y=>
  have e:h.get? a=some (methodObj (.ref f) (.ref y)):=x
  show h'.get? a=some (methodObj (.ref f) (.ref y))
  exact k a _ (.inl rfl) e
 | ext φ=>obtain ⟨p,⟨o,e⟩,st⟩:=x;exact ⟨st _ _ p fun o q=>k _ _ (.inl rfl) q,⟨o,k _ _ (.inl rfl) e⟩,st⟩
 | exc C dx fr fs=>
  obtain ⟨z,⟨o,vs,e,q⟩,r⟩:=x
  refine ⟨z,⟨o,vs,k _ _ (.inl rfl) e,q⟩,?_⟩
  cases dx with
  | none=>exact r
  | some d=>
   obtain ⟨r1,r2,mA,⟨od,es,ep,e2,c⟩,r3⟩:=r
   exact ⟨ho _ r1,r2,mA,⟨od,es,ep,k _ _ (.inr r1) e2,c⟩,r3⟩
def HOk.lt(x:HOk P w H h)(e:H a=some o):a < h.objs.size:=(x a o e).lt
theorem HOk.fresh(x:HOk P w H h)(e:h.objs.size<=a):H a=none:=by
 cases q:H a with
 | none=>rfl
 | some u=>exact absurd (lt_of_lt_of_le (x.lt q) e) (lt_irrefl _)
def HOk.kept(x:HOk P w H h)(k:∀ b u,h.get? b=some u->h'.get? b=some u):HOk P w H h':=fun a o e=>
 (x a o e).stay (fun b u _ q=>k b u q) (fun _ q=>q) fun _ _ q=>q
def HOk.laid(x:HOk P w H h)(k:∀ b u,h.get? b=some u->h'.get? b=some u)(hp:h.objs.size<=a)(new:Z2 P w (upd H a o) h' a o):HOk P w (upd H a o) h':=fun b u e=>by
 have hn:=x.fresh hp
 by_cases hb:b=a
 . subst hb;rw [Zk] at e;cases e;exact new
 . rw [Zj hb] at e
   exact (x b u e).stay (fun c v _ q=>k c v q) (fun c q=>by rw [Zj (ZN q hn)];exact q) fun c xs q=>by rw [Zj (ZN q hn)];exact q
end
def Rd(H:Hp)(a:Addr)(u:HO):Prop:=H a=some u\/∃ o,H a=some (.frz o u)
def Rd.ok(r:Rd H a u)(x:HOk P w H h):Z2 P w H h a u:=by
 rcases r with r|⟨o,r⟩
 . exact x a u r
 . obtain ⟨_,q⟩:=x a _ r
   exact q
def Mut:Option HO->Prop
 | some (.lst _)=>True
 | some (.dK _)=>True
 | some (.dT _)=>True
 | some (.set _ _)=>True
 | some (.ins _ _ _)=>True
 | some (.ext _)=>True
 | some (.exc _ _ _ _)=>True
 | _=>False
section
def HOk.write(ok:HOk P w H h)(mu:Mut (H x))(he:e=x\/H e=some (.own x))(k:∀ b u,b≠e->h.get? b=some u->h'.get? b=some u)(heo:∃ u,h'.get? e=some u)
 (new:Z2 P w (upd H x o') h' x o'):HOk P w (upd H x o') h':=fun b u q=>by
 have nown:∀ c y,H c=some (.own y)->c≠x:=fun c y r z=>by subst z;rw [r] at mu;exact mu
 have ntup:∀ c xs,H c=some (.tup xs)->c≠x:=fun c xs r z=>by subst z;rw [r] at mu;exact mu
 by_cases hb:b=x
 . subst hb;rw [Zk] at q;cases q;exact new
 . rw [Zj hb] at q
   by_cases hbe:b=e
   . have q':H b=some (.own x):=by
      rcases he with z|z
      . exact absurd (hbe.trans z) hb
      . rw [hbe];exact z
     rw [q] at q';cases q'
     obtain ⟨v,hv⟩:=heo
     exact ⟨v,by rw [hbe];exact hv⟩
   . refine (ok b u q).stay (fun c v hc r=>k c v ?_ r) (fun c r=>by rw [Zj (nown c b r)];exact r) fun c xs r=>by rw [Zj (ntup c xs r)];exact r
     rcases hc with rfl|hc
     . exact hbe
     . rintro rfl
       rcases he with z|z
       . exact nown c b hc z
       . rw [hc] at z;cases z;exact hb rfl
end
structure Un(fs ex:List Addr)(H H':Hp)(h h':Heap):Prop where
 keep:∀ b o,h.get? b=some o->H b=none->b∉fs->b∉ex->h'.get? b=some o
 slot:∀ b o,h.get? b=some o->H b=none->b∈fs->b∉ex->∃ sl,h'.get? b=some { o with slots:=sl }
 free:∀ b o,h.get? b=some o->H b=none->b∉ex->H' b=none
 there:∀ b o,h.get? b=some o->b∉ex->∃ o',h'.get? b=some o'
 tups:∀ b xs,H b=some (.tup xs)->H' b=some (.tup xs)
 frzs:∀ b o u,H b=some (.frz o u)->H' b=some (.frz o u)
 tbls:∀ b ps,H b=some (.tbl ps)->∃ more,H' b=some (.tbl (ps++more))
section
variable{fs fs' ex ex':List Addr}{H1 H2:Hp}{h h1 h2:Heap}{a x e:Addr}{o:HO}
def Un.any(u:Un fs ex H H1 h h1)(q:h.get? b=some ob)(n:H b=none)(hx:b∉ex):∃ sl,h1.get? b=some { ob with slots:=sl }:=by
 by_cases hb:b∈fs
 . exact u.slot b ob q n hb hx
 . exact ⟨ob.slots,u.keep b ob q n hb hx⟩
def Un.kept(k:∀ b u,h.get? b=some u->h'.get? b=some u):Un fs ex H H h h':=
 ⟨fun b ob q _ _ _=>k b ob q,fun b ob q _ _ _=>⟨ob.slots,k b ob q⟩,fun _ _ _ n _=>n,fun b ob q _=>⟨ob,k b ob q⟩,fun _ _ q=>q,fun _ _ _ q=>q,fun _ ps q=>⟨#[],by rw [q];simp⟩⟩
def Un.refl:Un fs ex H H h h:=Un.kept fun _ _ q=>q
def Un.laid(k:∀ b u,h.get? b=some u->h'.get? b=some u)(hp:h.objs.size<=a)(hn:H a=none):Un fs ex H (upd H a o) h h' where
 keep:=fun b u q _ _ _=>k b u q
 slot:=fun b u q _ _ _=>⟨u.slots,k b u q⟩
 free:=fun b u q n _=>by rw [Zj (ne_of_lt (lt_of_lt_of_le (Heap.lt_size q) hp))];exact n
 there:=fun b u q _=>⟨u,k b u q⟩
 tups:=fun b xs q=>by rw [Zj (ZN q hn)];exact q
 frzs:=fun b u xs q=>by rw [Zj (ZN q hn)];exact q
 tbls:=fun b ps q=>⟨#[],by rw [Zj (ZN q hn),q];simp⟩
def Un.write(mu:Mut (H x))(he:e=x\/H e=some (.own x))(k:∀ b u,b≠e->h.get? b=some u->h'.get? b=some u)(heo:∃ u,h'.get? e=some u):Un fs ex H (upd H x o) h h':=by
 have hx:∀ b,H b=none->b≠x:=fun b n z=>by subst z;rw [n] at mu;exact mu
 have hb:∀ b,H b=none->b≠e:=fun b n z=>by
  subst z
  rcases he with r|r
  . exact hx b n r
  . rw [n] at r;cases r
 have hm:∀ b u,H b=some u->¬ Mut (some u)->b≠x:=fun b u q nm z=>by subst z;rw [q] at mu;exact nm mu
 refine ⟨fun b u q n _ _=>k b u (hb b n) q,fun b u q n _ _=>⟨u.slots,k b u (hb b n) q⟩,fun b u q n _=>by rw [Zj (hx b n)];exact n,fun b u q _=>?_,
  fun b xs q=>by rw [Zj (hm b _ q fun z=>z)];exact q,fun b u xs q=>by rw [Zj (hm b _ q fun z=>z)];exact q,fun b ps q=>⟨#[],by rw [Zj (hm b _ q fun z=>z),q];simp⟩⟩
 by_cases hbe:b=e
 . subst hbe;exact heo
 . exact ⟨u,k b u hbe q⟩
end
noncomputable def trk(h:Heap)(H:Hp):List Addr:=(List.range h.objs.size).filter fun a=>(H a).isSome
noncomputable def hidT(h:Heap)(H:Hp):Heap:=PySem.W.hideAll h (trk h H)
def Zis(h:Heap)(H:Hp):(hidT h H).objs.size=h.objs.size:=PySem.W.hideAll_size _ _
def Zj1(e:h.get? b=some o)(n:H b=none):(hidT h H).get? b=some o:=
 PySem.W.hideAll_get _ e fun hm=>by
  have q:(H b).isSome=true:=(List.mem_filter.mp hm).2
  rw [n] at q;simp at q
theorem Zln(e:(hidT h H).get? b=some o):h.get? b=some o/\H b=none:=by
 have e':h.get? b=some o:=PySem.W.of_hideAll (trk h H) e
 refine ⟨e',?_⟩
 cases q:H b with
 | none=>rfl
 | some x=>
  have hm:b∈trk h H:=List.mem_filter.mpr ⟨List.mem_range.mpr (Heap.lt_size e'),by simp [q]⟩
  have z:(hidT h H).get? b=none:=PySem.W.hideAll_none (trk h H) hm
  rw [z] at e;cases e
noncomputable def Zlo(g h:Heap)(L:Addr):List (Addr×Obj):=(List.range h.objs.size).filterMap fun a=>if a=L\/(g.get? a).isSome=true then none else (h.get? a).map fun o=>(a,o)
noncomputable def rest(g h:Heap)(L d:Addr):List (Addr×Obj):=(Zlo g h L).filter fun p=>decide (p.1≠d)
structure Mod(K:Fg)(mg:SO)(base:Heap):Prop where
 kin:K.In base
 glob:base.Ns mainGlobals mg
 blt:∃ mb,base.Ns builtinsNs mb/\∀ x:Str,x≠"__name__"->mb x=bootBuiltins x
 nolimit:base.NoLimit
set_option genInjectivity false in
structure Cx where
 prog:Program
 w:World
 K:Fg
 mg:Str->Option Value
 base:Heap
 A:Around
 N:List Str
 s₀:Shared
 H₀:Hp
 env:Env
 outer:List Env
 stack:List Env
 ex:List Addr
 fn:Str->Bool
 calm:Bool
 fz:List (Addr×Obj×HO)
 pn:List (Addr×Obj)
 xe:Value->Shared->Prop
noncomputable def frs(l:List Env):List Addr:=l.filterMap (·.frame)
noncomputable abbrev Cx.fs(X:Cx):List Addr:=frs X.outer
def Vis(sc:Scope)(x:Str):Prop:=sc.names.lookup x=some .local\/sc.names.lookup x=some .cell\/sc.names.lookup x=some .free
def Loc(sc:Scope)(x:Str):Prop:=sc.names.lookup x=some .local\/sc.names.lookup x=some .cell
def Look(env:Env)(h:Heap)(m:SO)(x:Str)(u:Value):Prop:=
 (env.kindOf x=some .local/\m x=some u)\/((env.kindOf x=some .cell\/env.kindOf x=some .free)/\∃ c,env.cells.lookup x=some c/\h.IsCell c (some u))
structure Cx.Ok(X:Cx):Prop where
 mod:Mod X.K X.mg X.base
 kind:X.env.scope.kind=.function
 glob:X.env.globals=mainGlobals
 blt:X.env.builtins=builtinsNs
 above:X.s₀.heap.objs.size<=X.env.locals
 inj:∀ x y c,X.env.cells.lookup x=some c->X.env.cells.lookup y=some c->x=y
 has:∀ x,(X.env.kindOf x=some .cell\/X.env.kindOf x=some .free)->∃ c,X.env.cells.lookup x=some c
 cab:∀ x c,X.fn x=true->X.env.cells.lookup x=some c->X.s₀.heap.objs.size<=c
 hd:X.calm=true->X.A.handled=none
 frames:X.A.frames=some X.stack
 stk:X.stack=X.outer\/(X.stack=X.env::X.outer/\X.env.frame=some X.env.locals)
 exf:∀ b∈X.ex,b≠X.env.locals/\∀ x c,X.env.cells.lookup x=some c->c≠b
 bs:∀ b o,X.base.get? b=some o->X.s₀.heap.get? b=some o/\X.H₀ b=none
 bsz:X.base.objs.size<=X.s₀.heap.objs.size
 noex:∀ b o,X.base.get? b=some o->b∉X.ex
 exfs:∀ b∈X.ex,b∉X.fs
 funs:X.s₀.heap.FunFrames X.base X.outer
 frf:∀ b∈X.fs,X.H₀ b=none
structure Inv(X:Cx)(pins:Pn)(σ:List (Option V))(H:Hp)(s:Shared):Prop where
 ok:X.Ok
 os:s.os=X.s₀.os
 bare:AllBare s.gens
 base:Un X.fs X.ex X.H₀ H X.s₀.heap s.heap
 loc:∃ m,s.heap.Ns X.env.locals m/\∀(i:Nat)(x:Str)(v:V),X.N[i]?=some x->σ[i]?=some (some v)->Vis X.env.scope x->∃ u,RelV v u/\Look X.env s.heap m x u
 cell:∀ x c,X.env.cells.lookup x=some c->∃ v,s.heap.IsCell c v
 free:H X.env.locals=none
 freeC:∀ x c,X.env.cells.lookup x=some c->H c=none
 pin:∀ p∈X.pn++pins,s.heap.get? p.1=some p.2/\H p.1=none/\p.1≠X.env.locals/\p.1∉X.fs/\∀ v,p.2.data≠.cell v
 hok:HOk X.prog X.w H s.heap
 len:σ.length=X.N.length
 fzd:∀ p∈X.fz,H p.1=some (.frz p.2.1 p.2.2)
section
variable{σ:List (Option V)}
def Cx.Ok.nofr(ok:X.Ok)(e:X.base.get? b=some o):b∉X.fs:=fun hb=>by
 have:=(ok.funs.mem hb).1
 rw [e] at this;cases this
def Inv.bs(I:Inv X pins σ H s):∀ b o,X.base.get? b=some o->s.heap.get? b=some o/\H b=none:=fun b o e=>
 ⟨I.base.keep b o (I.ok.bs b o e).1 (I.ok.bs b o e).2 (I.ok.nofr e) (I.ok.noex b o e),I.base.free b o (I.ok.bs b o e).1 (I.ok.bs b o e).2 (I.ok.noex b o e)⟩
def Inv.bk(I:Inv X pins σ H s):∀ b o,X.base.get? b=some o->s.heap.get? b=some o:=fun b o e=>(I.bs b o e).1
def Inv.mod(I:Inv X pins σ H s):Mod X.K X.mg X.base:=I.ok.mod
def Inv.kIn(I:Inv X pins σ H s):X.K.In s.heap:=I.ok.mod.kin.keeps I.bk
def Inv.lt(I:Inv X pins σ H s):X.env.locals < s.heap.objs.size:=let ⟨_,hn,_⟩:=I.loc;hn.lt
def Inv.sz(I:Inv X pins σ H s):X.s₀.heap.objs.size<=s.heap.objs.size:=le_trans I.ok.above (Nat.le_of_lt I.lt)
def Inv.nofs(I:Inv X pins σ H s)(h:s.heap.objs.size<=a):a∉X.fs:=fun hb=>by
 obtain ⟨_,o,ho,_⟩:=I.ok.funs.mem hb
 exact absurd (lt_of_lt_of_le (Heap.lt_size ho) (le_trans I.sz h)) (lt_irrefl _)
def Inv.cne(I:Inv X pins σ H s):∀ x c,X.env.cells.lookup x=some c->c≠X.env.locals:=fun x c e z=>by
 obtain ⟨v,o,ho,hd⟩:=I.cell x c e
 obtain ⟨m,⟨o',es,ep,ho',hd',_⟩,_⟩:=I.loc
 rw [z,ho'] at ho;cases ho;rw [hd'] at hd;cases hd
def Inv.funs(I:Inv X pins σ H s):s.heap.FunFrames X.base X.outer:=by
 have all:∀(l:List Env),(∀ b∈frs l,b∈X.fs)->X.s₀.heap.FunFrames X.base l->s.heap.FunFrames X.base l:=by
  intro l
  induction l with
  | nil=>intro _ _;trivial
  | cons env r ih=>
   intro hs hl
   obtain ⟨hk,⟨L,o,hf,hn,ho,hd⟩,hr⟩:=hl
   have hL:L∈X.fs:=hs L (by unfold frs;rw [List.filterMap_cons,hf];exact mem_cons_self)
   obtain ⟨sl,e⟩:=I.base.slot L o ho (I.ok.frf L hL) hL fun z=>I.ok.exfs L z hL
   exact ⟨hk,⟨L,_,hf,hn,e,hd⟩,ih (fun b hb=>hs b (by unfold frs;rw [List.filterMap_cons,hf];exact mem_cons_of_mem _ hb)) hr⟩
 exact all X.outer (fun _ hb=>hb) I.ok.funs
def Inv.stack(I:Inv X pins σ H s):s.heap.FunFrames X.base X.stack:=by
 rcases I.ok.stk with e|⟨e,hf⟩
 . rw [e];exact I.funs
 . rw [e]
   obtain ⟨m,hn,_⟩:=I.loc
   refine .cons (by rw [I.ok.kind];decide) hf hn ?_ I.funs
   exact Heap.get?_none_of_le (le_trans I.ok.bsz I.ok.above)
def Inv.stkSub(I:Inv X pins σ H s):∀ b∈frs X.stack,b∈X.env.locals::X.fs:=fun b hb=>by
 rcases I.ok.stk with e|⟨e,hf⟩
 . rw [e] at hb;exact mem_cons_of_mem _ hb
 . rw [e] at hb
   unfold frs at hb
   rw [List.filterMap_cons,hf] at hb
   exact hb
def Inv.stkFree(I:Inv X pins σ H s):∀ b∈frs X.stack,H b=none:=fun b hb=>by
 rcases List.mem_cons.mp (I.stkSub b hb) with e|hb
 . rw [e];exact I.free
 . obtain ⟨_,o,ho,_⟩:=I.ok.funs.mem hb
   exact I.base.free b o ho (I.ok.frf b hb) fun z=>I.ok.exfs b z hb
def Inv.step{d':Drawn}(I:Inv X pins σ H s)
 (hch:∀ b∈ch,(b∈X.ex\/X.s₀.heap.objs.size<=b)/\b≠X.env.locals/\(∀ x c,X.env.cells.lookup x=some c->c≠b)/\∀ p∈X.pn++pins,p.1≠b)
 (keep:∀ b o,b≠X.env.locals->b∉X.fs->b∉ch->s.heap.get? b=some o->H b=none->h'.get? b=some o)
 (slot:∀ b o,b≠X.env.locals->b∈X.fs->b∉ch->s.heap.get? b=some o->H b=none->∃ sl,h'.get? b=some { o with slots:=sl }) (free:∀ b o,b∉ch->s.heap.get? b=some o->H b=none->H' b=none)
 (there:∀ b o,b∉ch->s.heap.get? b=some o->∃ o',h'.get? b=some o')
 (tups:∀ b xs,H b=some (.tup xs)->H' b=some (.tup xs)) (frzs:∀ b o u,H b=some (.frz o u)->H' b=some (.frz o u)) (tbls:∀ b ps,H b=some (.tbl ps)->∃ more,H' b=some (.tbl (ps++more)))
 (ns:∀ m,s.heap.Ns X.env.locals m->h'.Ns X.env.locals m) (hok:HOk X.prog X.w H' h') (hg:AllBare g'):
 Inv X pins σ H' { s with heap:=h',gens:=g',drawn:=d',toks:=t' }:=by
 have neL:∀ b o,X.s₀.heap.get? b=some o->b≠X.env.locals:=fun b o e=>ne_of_lt (lt_of_lt_of_le (Heap.lt_size e) I.ok.above)
 have neC:∀ b o,X.s₀.heap.get? b=some o->b∉X.ex->b∉ch:=fun b o e hx hb=>by
  rcases (hch b hb).1 with z|z
  . exact hx z
  . exact absurd (lt_of_lt_of_le (Heap.lt_size e) z) (lt_irrefl _)
 have cellK:∀ x c,X.env.cells.lookup x=some c->∀ v,s.heap.IsCell c v->h'.IsCell c v:=fun x c e v z0=>by
  obtain ⟨o,ho,hd⟩:=z0
  have nch:c∉ch:=fun z=>(hch c z).2.2.1 x c e rfl
  by_cases hc:c∈X.fs
  . obtain ⟨sl,q⟩:=slot c o (I.cne x c e) hc nch ho (I.freeC x c e)
    exact ⟨_,q,hd⟩
  . exact ⟨o,keep c o (I.cne x c e) hc nch ho (I.freeC x c e),hd⟩
 refine ⟨I.ok,I.os,hg,⟨fun b o e n hb hx=>?_,fun b o e n hb hx=>?_,fun b o e n hx=>?_,fun b o e hx=>?_,fun b xs e=>tups b xs (I.base.tups b xs e),fun b o xs e=>frzs b o xs (I.base.frzs b o xs e),fun b ps e=>?_⟩,?_,fun x c e=>?_,?_,fun x c e=>?_,fun p hp=>?_,hok,I.len,fun p hp=>frzs _ _ _ (I.fzd p hp)⟩
 . exact keep b o (neL b o e) hb (neC b o e hx) (I.base.keep b o e n hb hx) (I.base.free b o e n hx)
 . obtain ⟨sl,e1⟩:=I.base.slot b o e n hb hx
   obtain ⟨sl',e2⟩:=slot b _ (neL b o e) hb (neC b o e hx) e1 (I.base.free b o e n hx)
   exact ⟨sl',e2⟩
 . obtain ⟨o',e1⟩:=I.base.there b o e hx
   exact free b o' (neC b o e hx) e1 (I.base.free b o e n hx)
 . obtain ⟨o',e1⟩:=I.base.there b o e hx
   exact there b o' (neC b o e hx) e1
 . obtain ⟨m1,e1⟩:=I.base.tbls b ps e
   obtain ⟨m2,e2⟩:=tbls b _ e1
   exact ⟨m1++m2,by rw [e2,Array.append_assoc]⟩
 . obtain ⟨m,hn,hl⟩:=I.loc
   refine ⟨m,ns m hn,fun i x v e1 e2 e3=>?_⟩
   obtain ⟨u,r,l⟩:=hl i x v e1 e2 e3
   refine ⟨u,r,?_⟩
   rcases l with l|⟨k,c,e,z⟩
   . exact .inl l
   . exact .inr ⟨k,c,e,cellK x c e _ z⟩
 . obtain ⟨v,z⟩:=I.cell x c e
   exact ⟨v,cellK x c e v z⟩
 . obtain ⟨m,⟨o,_,_,ho,_⟩,_⟩:=I.loc
   exact free _ o (fun z=>(hch _ z).2.1 rfl) ho I.free
 . obtain ⟨v,o,ho,hd⟩:=I.cell x c e
   exact free c o (fun z=>(hch c z).2.2.1 x c e rfl) ho (I.freeC x c e)
 . obtain ⟨e,n,ne,nf,d⟩:=I.pin p hp
   have nch:p.1∉ch:=fun z=>(hch p.1 z).2.2.2 p hp rfl
   exact ⟨keep p.1 p.2 ne nf nch e n,free p.1 p.2 nch e n,ne,nf,d⟩
def Inv.un(I:Inv X pins σ H s)(u:Un X.fs [] H H' s.heap h')(hok:HOk X.prog X.w H' h'):Inv X pins σ H' { s with heap:=h',toks:=t' }:=by
 obtain ⟨m,⟨o,es,ep,ho,r⟩,_⟩:=id I.loc
 obtain ⟨sl,hL⟩:=u.any ho I.free (by simp)
 exact I.step (g':=s.gens) (d':=s.drawn) (ch:=[]) (fun _ z=>nomatch z) (fun b o _ hb _ e n=>u.keep b o e n hb (by simp)) (fun b o _ hb _ e n=>u.slot b o e n hb (by simp)) (fun b o _ e n=>u.free b o e n (by simp)) (fun b o _ e=>u.there b o e (by simp)) u.tups u.frzs u.tbls (fun m' hm=>by
  obtain ⟨o',es',ep',ho',r'⟩:=hm
  rw [ho] at ho';cases ho'
  exact ⟨_,es',ep',hL,r'⟩) hok I.bare
def Inv.call{d':Drawn}(I:Inv X pins σ H s)(u:Un (frs X.stack) ch H H' s.heap h')(hok:HOk X.prog X.w H' h')(hg:AllBare g')
 (hch:∀ b∈ch,(b∈X.ex\/X.s₀.heap.objs.size<=b)/\b≠X.env.locals/\(∀ x c,X.env.cells.lookup x=some c->c≠b)/\∀ p∈X.pn++pins,p.1≠b):
 Inv X pins σ H' { s with heap:=h',gens:=g',drawn:=d',toks:=t' }:=by
 obtain ⟨m,⟨o,es,ep,ho,r⟩,_⟩:=id I.loc
 obtain ⟨sl,hL⟩:=u.any ho I.free fun z=>(hch _ z).2.1 rfl
 exact I.step (ch:=ch) hch (fun b o hL hb hc e n=>u.keep b o e n (fun z=>(List.mem_cons.mp (I.stkSub b z)).elim hL hb) hc) (fun b o _ _ hc e n=>u.any e n hc) (fun b o hc e n=>u.free b o e n hc) (fun b o hc e=>u.there b o e hc) u.tups u.frzs u.tbls (fun m' hm=>by
  obtain ⟨o',es',ep',ho',r'⟩:=hm
  rw [ho] at ho';cases ho'
  exact ⟨_,es',ep',hL,r'⟩) hok hg
def Inv.turned(I:Inv X pins σ H s)(k:∀ b o,b≠it->s.heap.get? b=some o->h'.get? b=some o)(hn:H it=none)(hL:it≠X.env.locals)
 (h1:it∈X.ex\/X.s₀.heap.objs.size<=it) (h2:∀ x c,X.env.cells.lookup x=some c->c≠it) (h3:∀ p∈X.pn++pins,p.1≠it):Inv X pins σ H { s with heap:=h',toks:=t' }:=by
 have nit:∀ b u,H b=some u->b≠it:=fun b u e z=>by rw [z,hn] at e;cases e
 refine I.step (g':=s.gens) (d':=s.drawn) (ch:=[it]) (fun b hb=>?_) (fun b o _ _ hc e _=>k b o (fun z=>hc (by simp [z])) e) (fun b o _ _ hc e _=>⟨o.slots,k b o (fun z=>hc (by simp [z])) e⟩) (fun _ _ _ _ n=>n)
  (fun b o hc e=>⟨o,k b o (fun z=>hc (by simp [z])) e⟩) (fun _ _ e=>e) (fun _ _ _ e=>e) (fun b ps e=>⟨#[],by rw [e];simp⟩) (fun m hm=>?_) (fun b u e=>?_) I.bare
 . have e:b=it:=by simpa using hb
   subst e
   exact ⟨h1,hL,h2,h3⟩
 . obtain ⟨o,es,ep,ho,r⟩:=hm
   exact ⟨o,es,ep,k _ o (Ne.symm hL) ho,r⟩
 . refine (I.hok b u e).stay (fun c v hc q=>k c v ?_ q) (fun _ q=>q) fun _ _ q=>q
   rcases hc with z|z
   . rw [z];exact nit b u e
   . exact nit c _ z
def Inv.tok(I:Inv X pins σ H s)(t:Nat):Inv X pins σ H { s with toks:=t }:=I.un (h':=s.heap) (t':=t) Un.refl I.hok
def Inv.kept(I:Inv X pins σ H s)(k:∀ b u,s.heap.get? b=some u->h'.get? b=some u):Inv X pins σ H { s with heap:=h',toks:=t' }:=I.un (Un.kept k) (I.hok.kept k)
def Inv.laid(I:Inv X pins σ H s)(k:∀ b u,s.heap.get? b=some u->h'.get? b=some u)(hp:s.heap.objs.size<=a)(new:Z2 X.prog X.w (upd H a o) h' a o):
 Inv X pins σ (upd H a o) { s with heap:=h',toks:=t' }:=I.un (Un.laid k hp (I.hok.fresh hp)) (I.hok.laid k hp new)
def Inv.write(I:Inv X pins σ H s)(mu:Mut (H x))(he:e=x\/H e=some (.own x))(k:∀ b u,b≠e->s.heap.get? b=some u->h'.get? b=some u)(heo:∃ u,h'.get? e=some u)
 (new:Z2 X.prog X.w (upd H x o) h' x o):Inv X pins σ (upd H x o) { s with heap:=h',toks:=t' }:=I.un (Un.write mu he k heo) (I.hok.write mu he k heo new)
def Inv.pins_of(I:Inv X pins σ H s)(h:∀ p∈pins',s.heap.get? p.1=some p.2/\H p.1=none/\p.1≠X.env.locals/\p.1∉X.fs/\∀ v,p.2.data≠.cell v):Inv X pins' σ H s:=
 ⟨I.ok,I.os,I.bare,I.base,I.loc,I.cell,I.free,I.freeC,fun p hp=>(List.mem_append.mp hp).elim (fun z=>I.pin p (List.mem_append_left _ z)) (h p),I.hok,I.len,I.fzd⟩
def ZdT(hN:N.Nodup){i j:Nat}{x:Str}(a:N[i]?=some x)(b:N[j]?=some x):i=j:=by
 obtain ⟨h1,e1⟩:=List.getElem?_eq_some_iff.mp a
 obtain ⟨h2,e2⟩:=List.getElem?_eq_some_iff.mp b
 exact (List.getElem_inj hN).mp (e1.trans e2.symm)
def Zit{M:Model}{A:Around}{E:VS}{i:Nat}{x:Str}{v:V}{u:Value}{Q:Unit->Shared->Prop}(I:Inv X pins σ H s)(hN:X.N.Nodup)(hi:X.N[i]?=some x)(hx:Loc X.env.scope x)(r:RelV v u)
 (h:∀ s',Inv X pins (σ.set i (some v)) H s'->(∃ a,Heap.SameBut a s.heap s'.heap/\(a=X.env.locals\/X.env.cells.lookup x=some a))->Q () s') (hf:X.fn x=true\/X.env.scope.names.lookup x=some .local:=by first|exact .inl rfl|exact .inr rfl|assumption):wpAny M A (storeName X.env x u) Q E s:=by
 obtain ⟨m,hn,hl⟩:=id I.loc
 have hcls:(X.env.scope.kind == .class || (X.env.scope.kind == .module && X.env.locals != X.env.globals))=false:=by rw [I.ok.kind];rfl
 have hiσ:i < σ.length:=by rw [I.len];exact (List.getElem?_eq_some_iff.mp hi).1
 have cne:=I.cne
 have tracked:∀{a:Addr}{h':Heap},(∃ o,s.heap.get? a=some o/\H a=none)->Heap.SameBut a s.heap h'->HOk X.prog X.w H h':=fun{a h'} ha hs b ob e=>by
  obtain ⟨_,_,hfree⟩:=ha
  refine (I.hok b ob e).stay (fun c w' hc q=>(hs.2 c ?_).trans q) (fun _ q=>q) fun _ _ q=>q
  rintro rfl
  rcases hc with rfl|hc
  . rw [hfree] at e;cases e
  . rw [hfree] at hc;cases hc
 rcases hx with hk|hk
 . refine wpAny_storeName_local hk hn (fun h' hn' hs=>?_) hcls
   obtain ⟨oL,_,_,hoL,_⟩:=id hn
   refine h _ ⟨I.ok,I.os,I.bare,⟨fun b o e n hb hx=>?_,fun b o e n hb hx=>?_,I.base.free,fun b o e hx=>?_,I.base.tups,I.base.frzs,I.base.tbls⟩,⟨_,hn',fun j y v' e1 e2 e3=>?_⟩,fun y c e=>?_,I.free,I.freeC,fun p hp=>?_,tracked ⟨oL,hoL,I.free⟩ hs,by simpa using I.len,I.fzd⟩ ⟨_,hs,.inl rfl⟩
   . exact (hs.2 b (ne_of_lt (lt_of_lt_of_le (Heap.lt_size e) I.ok.above))).trans (I.base.keep b o e n hb hx)
   . obtain ⟨sl,e1⟩:=I.base.slot b o e n hb hx
     exact ⟨sl,(hs.2 b (ne_of_lt (lt_of_lt_of_le (Heap.lt_size e) I.ok.above))).trans e1⟩
   . obtain ⟨o',e1⟩:=I.base.there b o e hx
     exact ⟨o',(hs.2 b (ne_of_lt (lt_of_lt_of_le (Heap.lt_size e) I.ok.above))).trans e1⟩
   . by_cases hj:j=i
     . subst hj
       rw [hi] at e1;cases e1
       rw [List.getElem?_set_self hiσ] at e2
       cases e2
       exact ⟨u,r,.inl ⟨hk,by simp⟩⟩
     . rw [getElem?_set_ne (Ne.symm hj)] at e2
       obtain ⟨u',r',q⟩:=hl j y v' e1 e2 e3
       refine ⟨u',r',?_⟩
       rcases q with ⟨k,e⟩|⟨k,c,e,z⟩
       . refine .inl ⟨k,?_⟩
         have:y≠x:=fun e=>hj (ZdT hN e1 (e ▸ hi))
         simp [this,e]
       . exact .inr ⟨k,c,e,z.sameBut hs (cne y c e)⟩
   . obtain ⟨w',z⟩:=I.cell y c e
     exact ⟨w',z.sameBut hs (cne y c e)⟩
   . obtain ⟨e,n,ne,nf,d⟩:=I.pin p hp
     exact ⟨(hs.2 p.1 ne).trans e,n,ne,nf,d⟩
 . have hfn:X.fn x=true:=by
    rcases hf with z|z
    . exact z
    . rw [z] at hk;cases hk
   obtain ⟨c,hc⟩:=I.ok.has x (.inl hk)
   obtain ⟨w',z⟩:=I.cell x c hc
   refine wpAny_storeName_cell I.ok.kind hk hc z (fun h' hc' hs=>?_)
   obtain ⟨oc,hoc,hocd⟩:=id z
   refine h { s with heap:=h' } ⟨I.ok,I.os,I.bare,⟨fun b o e n hb hx=>?_,fun b o e n hb hx=>?_,I.base.free,fun b o e hx=>?_,I.base.tups,I.base.frzs,I.base.tbls⟩,⟨m,hn.sameBut hs (Ne.symm (cne x c hc)),fun j y v' e1 e2 e3=>?_⟩,fun y c' e=>?_,I.free,I.freeC,fun p hp=>?_,tracked ⟨oc,hoc,I.freeC x c hc⟩ hs,by simpa using I.len,I.fzd⟩ ⟨c,hs,.inr hc⟩
   . exact (hs.2 b (ne_of_lt (lt_of_lt_of_le (Heap.lt_size e) (I.ok.cab x c hfn hc)))).trans (I.base.keep b o e n hb hx)
   . obtain ⟨sl,e1⟩:=I.base.slot b o e n hb hx
     exact ⟨sl,(hs.2 b (ne_of_lt (lt_of_lt_of_le (Heap.lt_size e) (I.ok.cab x c hfn hc)))).trans e1⟩
   . obtain ⟨o',e1⟩:=I.base.there b o e hx
     exact ⟨o',(hs.2 b (ne_of_lt (lt_of_lt_of_le (Heap.lt_size e) (I.ok.cab x c hfn hc)))).trans e1⟩
   . by_cases hj:j=i
     . subst hj
       rw [hi] at e1;cases e1
       rw [List.getElem?_set_self hiσ] at e2
       cases e2
       exact ⟨u,r,.inr ⟨.inl hk,c,hc,hc'⟩⟩
     . rw [getElem?_set_ne (Ne.symm hj)] at e2
       obtain ⟨u',r',q⟩:=hl j y v' e1 e2 e3
       refine ⟨u',r',?_⟩
       rcases q with q|⟨k,c',e,z'⟩
       . exact .inl q
       . refine .inr ⟨k,c',e,z'.sameBut hs ?_⟩
         rintro rfl
         exact hj (ZdT hN e1 (I.ok.inj _ _ _ e hc ▸ hi))
   . by_cases hcc:c'=c
     . subst hcc;exact ⟨_,hc'⟩
     . obtain ⟨w2,z2⟩:=I.cell y c' e
       exact ⟨w2,z2.sameBut hs hcc⟩
   . obtain ⟨e,n,ne,nf,d⟩:=I.pin p hp
     refine ⟨(hs.2 p.1 ?_).trans e,n,ne,nf,d⟩
     intro q
     rw [q,hoc] at e
     have q':oc=p.2:=Option.some.inj e
     exact d w' (by rw [<- q'];exact hocd)
def Zb7(I:Inv X pins σ H s)(hN:X.N.Nodup)(hi:X.N[i]?=some x)(hx:Loc X.env.scope x)(r:RelV v u)
 (h:∀ s',Inv X pins (σ.set i (some v)) H s'->Q () s') (hf:X.fn x=true\/X.env.scope.names.lookup x=some .local:=by first|exact .inl rfl|exact .inr rfl|assumption):wpAny M A (storeName X.env x u) Q E s:=
 Zit I hN hi hx r (fun s' I' _=>h s' I') hf
def Inv.call'(I:Inv X pins σ H s)(ho:s'.os=s.os)(u:Un (frs X.stack) ch H H' s.heap s'.heap)(hok:HOk X.prog X.w H' s'.heap)(hg:AllBare s'.gens)
 (hch:∀ b∈ch,(b∈X.ex\/X.s₀.heap.objs.size<=b)/\b≠X.env.locals/\(∀ x c,X.env.cells.lookup x=some c->c≠b)/\∀ p∈X.pn++pins,p.1≠b):Inv X pins σ H' s':=by
 obtain ⟨h',g',d',t',o'⟩:=s'
 have e:o'=s.os:=ho
 subst e
 exact I.call (g':=g') (t':=t') (d':=d') u hok hg hch
end
abbrev XK:=Value->Option Addr->Hp->Prop
noncomputable abbrev St:=List (Option V)
abbrev VK:=V->Hp->Prop
abbrev TE:=St->Hp->VK->Prop
abbrev TT:=St->Hp->(Bool->Hp->Prop)->Prop
abbrev TA:=St->Hp->(List V->Hp->Prop)->Prop
structure Ends where
 nx:St->Hp->Prop
 rt:VK
 bk:St->Hp->Prop:=fun _ _=>False
 ct:St->Hp->Prop:=fun _ _=>False
abbrev TS:=Ends->St->Hp->Prop
def EP(X:Cx)(pins:Pn)(σ:St)(Q:VK)(u:Value)(s':Shared):Prop:=∃ v H',Inv X pins σ H' s'/\RelV v u/\Q v H'
def TP(X:Cx)(pins:Pn)(σ:St)(Q:Bool->Hp->Prop)(b:Bool)(s':Shared):Prop:=∃ H',Inv X pins σ H' s'/\Q b H'
def AP(X:Cx)(pins:Pn)(σ:St)(Q:List V->Hp->Prop)(us:List Value)(s':Shared):Prop:=∃ vs H',Inv X pins σ H' s'/\Vals vs us/\Q vs H'
def SP(X:Cx)(pins:Pn)(D:Ends)(f:Flow)(s':Shared):Prop:=
 match f with
 | .next=>∃ σ' H',Inv X pins σ' H' s'/\D.nx σ' H'
 | .brk=>∃ σ' H',Inv X pins σ' H' s'/\D.bk σ' H'
 | .cont=>∃ σ' H',Inv X pins σ' H' s'/\D.ct σ' H'
 | .ret u=>∃ v σ' H',Inv X pins σ' H' s'/\RelV v u/\D.rt v H'
def PE(X:Cx)(e:Expr)(t:TE):Prop:=
 ∀(pins:Pn)(s:Shared)(σ:St)(H:Hp)(Q:VK),Inv X pins σ H s->t σ H Q->wpAny (model X.prog X.w) X.A (eval e X.env) (EP X pins σ Q) X.xe s
def PT(X:Cx)(e:Expr)(t:TT):Prop:=
 ∀(pins:Pn)(s:Shared)(σ:St)(H:Hp)(Q:Bool->Hp->Prop),Inv X pins σ H s->t σ H Q->wpAny (model X.prog X.w) X.A (isTrue e X.env (eval e X.env)) (TP X pins σ Q) X.xe s
def PW(X:Cx)(e:Expr)(t:TT):Prop:=
 ∀(whole:Sem Value)(pins:Pn)(s:Shared)(σ:St)(H:Hp)(Q:Bool->Hp->Prop),Inv X pins σ H s->t σ H Q->wpAny (model X.prog X.w) X.A (isTrue e X.env whole) (TP X pins σ Q) X.xe s
def PW.pt(h:PW X e t):PT X e t:=h _
def PA(X:Cx)(es:List Expr)(t:TA):Prop:=
 ∀(pos:Pos)(pins:Pn)(s:Shared)(σ:St)(H:Hp)(Q:List V->Hp->Prop),Inv X pins σ H s->t σ H Q->wpAny (model X.prog X.w) X.A (spliced (backTo pos (starEach es X.env))) (AP X pins σ Q) X.xe s
def PS(X:Cx)(st:Stmt)(t:TS):Prop:=
 ∀(pins:Pn)(s:Shared)(σ:St)(H:Hp)(D:Ends),Inv X pins σ H s->t D σ H->wpAny (model X.prog X.w) X.A (exec st X.env) (SP X pins D) X.xe s
def PSs(X:Cx)(st:List Stmt)(t:TS):Prop:=
 ∀(pins:Pn)(s:Shared)(σ:St)(H:Hp)(D:Ends),Inv X pins σ H s->t D σ H->wpAny (model X.prog X.w) X.A (execs st X.env) (SP X pins D) X.xe s
def thn(h:wpAny M A t Q E s)(hQ:∀ a s,Q a s->Q' a s):wpAny M A t Q' E s:=wpAny_mono h hQ fun _ _ x=>x
section
def bin{a b:Expr}{ta tb:TE}(ha:PE X a ta)(hb:PE X b tb){σ:St}{R:V->V->Hp->Prop}(I:Inv X pins σ H s)(h:ta σ H fun x H1=>tb σ H1 fun y H2=>R x y H2)
 {α:Type} {Q:α->Shared->Prop} {f:Value->Value->Sem α}
 (hf:∀ v u s2 x y H2,Inv X pins σ H2 s2->RelV x v->RelV y u->R x y H2->wpAny (model X.prog X.w) X.A (f v u) Q X.xe s2):
 wpAny (model X.prog X.w) X.A (eval a X.env) (fun v s₁=>wpAny (model X.prog X.w) X.A (eval b X.env) (fun u s₂=>wpAny (model X.prog X.w) X.A (f v u) Q X.xe s₂) X.xe s₁) X.xe s:=by
 refine thn (ha pins s σ H _ I h) fun v s1 z0=>?_
 obtain ⟨x,H1,I1,r1,q1⟩:=z0
 refine thn (hb pins s1 σ H1 _ I1 q1) fun u s2 z0=>?_
 obtain ⟨y,H2,I2,r2,q2⟩:=z0
 exact hf v u s2 x y H2 I2 r1 r2 q2
def tVar(i:Nat):TE:=fun σ H Q=>∃ v,σ[i]?=some (some v)/\Q v H
def tC(v:V):TE:=fun _ H Q=>Q v H
def Ziu(hN:X.N[i]?=some x)(hv:Vis X.env.scope x)(hd:autoParam ((x == ("__debug__":Str))=false) Q7)(hcd:autoParam ((x == ("__classdict__":Str))=false) Q7):PE X (.Name x pos) (tVar i):=by
 intro pins s σ H Q I h
 obtain ⟨v,e,h⟩:=h
 obtain ⟨m,hn,hl⟩:=I.loc
 obtain ⟨u,r,l⟩:=hl i x v hN e hv
 have fin:EP X pins σ Q u s:=⟨v,H,I,r,h⟩
 rcases l with ⟨hk,hm⟩|⟨hk,c,hc,hcell⟩
 . exact wpAny_Name (wpAny_loadName_local I.ok.kind hk hn hm fin) hd
 . rcases hk with hk|hk
   . exact wpAny_Name (wpAny_loadName_cell I.ok.kind hk hc hcell fin) hd
   . exact wpAny_Name (wpAny_loadName_free I.ok.kind hk hc hcell fin hcd) hd
def ZO{i j pos}:PE X (.Constant (.int i) j pos) (tC (.int i)):=fun _ _ _ H _ I h=>wpAny_Constant_int ⟨.int i,H,I.tok _,⟨_,rfl⟩,h⟩
def ZaG{b j pos}:PE X (.Constant (.bool b) j pos) (tC (.bl b)):=fun _ _ _ H _ I h=>Constant_bool ⟨.bl b,H,I,rfl,h⟩
def Zc6{j pos}:PE X (.Constant .none j pos) (tC .non):=fun _ _ _ H _ I h=>Constant_none ⟨.non,H,I,rfl,h⟩
def ZaK{x j pos}:PE X (.Constant (.str x) j pos) (tC (.str x)):=fun _ _ _ H _ I h=>Calls.Constant_str ⟨.str x,H,I.tok _,⟨_,rfl⟩,h⟩
def Gl(X:Cx)(x:Str):Prop:=X.env.kindOf x=some .globalImplicit
def ZaQ(I:Inv X pins σ H s)(hg:Gl X x)(hm:X.mg x=some u)(h:Q u s)
 (hd:autoParam ((x == ("__debug__":Str))=false) Q7):wpAny (model X.prog X.w) X.A (eval (.Name x pos) X.env) Q E s:=
 Calls.Name_function_global I.ok.kind hg (Calls.loadGlobal_global (by rw [I.ok.glob];exact I.mod.glob.keeps I.bk) hm h) hd
def Zbr(I:Inv X pins σ H s)(hg:Gl X x)(hm:X.mg x=none)(hv:bootBuiltins x=some u)(h:Q u s)
 (hn:autoParam (x≠"__name__") Q7) (hd:autoParam ((x == ("__debug__":Str))=false) Q7):wpAny (model X.prog X.w) X.A (eval (.Name x pos) X.env) Q E s:=by
 obtain ⟨mb,h1,h2⟩:=I.mod.blt
 exact Calls.Name_function_global I.ok.kind hg (Calls.loadGlobal_builtin (by rw [I.ok.glob];exact I.mod.glob.keeps I.bk) hm (by rw [I.ok.blt];exact h1.keeps I.bk) ((h2 x hn).trans hv) h) hd
def ZeG(hg:Gl X x)(hm:X.mg x=some u)(r:RelV v u)(hd:autoParam ((x == ("__debug__":Str))=false) Q7):PE X (.Name x pos) (tC v):=
 fun _ _ _ H _ I h=>ZaQ I hg hm ⟨v,H,I,r,h⟩ hd
def ZgV(hg:Gl X x)(hm:X.mg x=none)(hv:bootBuiltins x=some u)(r:RelV v u)(hn:autoParam (x≠"__name__") Q7)(hd:autoParam ((x == ("__debug__":Str))=false) Q7):PE X (.Name x pos) (tC v):=
 fun _ _ _ H _ I h=>Zbr I hg hm hv ⟨v,H,I,r,h⟩ hn hd
variable{a b:Expr}{ta tb:TE}
def PC(X:Cx)(op:CmpOp)(a b:Expr)(t:TE):Prop:=
 ∀(pins:Pn)(s:Shared)(σ:St)(H:Hp)(Q:VK),Inv X pins σ H s->t σ H Q->
  wpAny (model X.prog X.w) X.A (eval a X.env) (fun v s₁=>wpAny (model X.prog X.w) X.A (eval b X.env) (fun u s₂=>wpAny (model X.prog X.w) X.A (compareOp op v u) (EP X pins σ Q) X.xe s₂) X.xe s₁) X.xe s
def Zj2(b:Expr)(h:op≠.In)(h2:op≠.NotIn):behindInMarks op b=false:=by
 have e1:(op == CmpOp.In)=false:=by cases op<;>first|rfl|exact absurd rfl h
 have e2:(op == CmpOp.NotIn)=false:=by cases op<;>first|rfl|exact absurd rfl h2
 cases b<;>simp [behindInMarks,e1,e2]
def tIsN(ta:TE):TE:=fun σ H Q=>ta σ H fun x H1=>Q (.bl (decide (x=.non))) H1
theorem RelV.none_iff(r:RelV x v):(v == Value.none)=decide (x=.non):=by
 cases x with
 | non=>cases r;rfl
 | bl _=>cases r;rfl
 | int _=>obtain ⟨t,rfl⟩:=r;rfl
 | str _=>obtain ⟨t,rfl⟩:=r;rfl
 | byt _=>obtain ⟨t,rfl⟩:=r;rfl
 | flt _=>obtain ⟨t,rfl⟩:=r;rfl
 | ref _=>cases r;rfl
 | ty _=>cases r;rfl
def ZmV{j pos'}(ha:PE X a ta):PC X .Is a (.Constant .none j pos') (tIsN ta):=by
 intro pins s σ H Q I h
 refine thn (ha pins s σ H _ I h) fun v s1 z0=>?_
 obtain ⟨x,H1,I1,r1,q1⟩:=z0
 exact Constant_none (is_none_gen ⟨.bl _,H1,I1,by rw [r1.none_iff];rfl,q1⟩)
def tB(t:TE):TT:=fun σ H Q=>t σ H fun x H1=>∃ c,x=.bl c/\Q c H1
def ZmW(h:PC X op a b t)(h1:behindInMarks op b=false:=by first|exact Zj2 _ (by decide) (by decide)|rfl):PT X (.Compare a [op] [b] pos) (tB t):=by
 intro pins s σ H Q I hw
 refine wpAny_isTrue_Compare1 (thn (h pins s σ H _ I hw) fun v s1 h1=>thn h1 fun u s2 h2=>thn h2 fun c s3 z0=>?_) h1
 obtain ⟨x,H1,I1,r1,q1⟩:=z0
 obtain ⟨d,rfl,q⟩:=q1
 cases r1
 exact wpAny_truthy_bool ⟨H1,I1,q⟩
variable{tA tB':TT}{rest:List Expr}
def tOr(t u:TT):TT:=fun σ H Q=>t σ H fun c H1=>if c=true then Q true H1 else u σ H1 Q
def tNot(t:TT):TT:=fun σ H Q=>t σ H fun c H1=>Q (!c) H1
theorem ZmX(ha:PT X a tA):PW X (.BoolOp .Or [a] pos) tA:=by
 intro wh pins s σ H Q I h
 refine isTrue_or (thn (ha pins s σ H Q I h) fun c s1 e=>?_)
 cases c with
 | false=>exact isTrue_or_nil e
 | true=>exact e
theorem Zpl(ha:PT X a tA)(hb:PW X (.BoolOp .Or (b::rest) pos) tB'):PW X (.BoolOp .Or (a::b::rest) pos) (tOr tA tB'):=by
 intro wh pins s σ H Q I h
 refine isTrue_or (thn (ha pins s σ H _ I h) fun c s1 z0=>?_)
 obtain ⟨H1,I1,q1⟩:=z0
 cases c with
 | true=>exact ⟨H1,I1,q1⟩
 | false=>exact hb wh pins s1 σ H1 Q I1 q1
def ZmY(ha:PT X a tA):PT X (.UnaryOp .Not a pos) (tNot tA):=by
 intro pins s σ H Q I h
 exact isTrue_not (ha pins s σ H (fun c H1=>Q (!c) H1) I h)
def Zpm(ta tb:TE):TE:=fun σ H Q=>ta σ H fun x H1=>∃ c,x=.bl c/\if c=true then tb σ H1 Q else Q (.bl false) H1
def Zpn(ta:TE):TE:=fun σ H Q=>ta σ H fun x H1=>∃ c,x=.bl c/\Q (.bl (!c)) H1
def ZmZ{op}(h:PE X a t):PE X (.BoolOp op [a] pos) t:=fun pins s σ H Q I hw=>BoolOp_one (h pins s σ H Q I hw)
theorem Zna(ha:PE X a ta)(hb:PE X (.BoolOp .And (b::rest) pos) tb):PE X (.BoolOp .And (a::b::rest) pos) (Zpm ta tb):=by
 intro pins s σ H Q I h
 refine BoolOp_and (thn (ha pins s σ H _ I h) fun v s1 z0=>?_)
 obtain ⟨x,H1,I1,r1,q1⟩:=z0
 obtain ⟨c,rfl,q1⟩:=q1
 cases r1
 refine wpAny_truthy_bool ?_
 cases c with
 | true=>exact hb pins s1 σ H1 Q I1 q1
 | false=>exact ⟨.bl false,H1,I1,rfl,q1⟩
def Znb(ha:PE X a ta):PE X (.UnaryOp .Not a pos) (Zpn ta):=by
 intro pins s σ H Q I h
 refine UnaryOp_ (thn (ha pins s σ H _ I h) fun v s1 z0=>?_)
 obtain ⟨x,H1,I1,r1,q1⟩:=z0
 obtain ⟨c,rfl,q1⟩:=q1
 cases r1
 exact not_of (wpAny_truthy_bool ⟨.bl (!c),H1,I1,rfl,q1⟩)
end
def SqL(K:Fg)(H:Hp)(a:Addr)(xs:List V):Prop:=
 Rd H a (.lst xs)\/
  ∃(o:Obj)(its:Array Value)(n:Nat),K.lookup a=some o/\o.cls=.type "list"/\o.dict=none/\o.data=.seq its n/\its.size<=sizeLine/\Vals xs its.toList
def SqT(K:Fg)(H:Hp)(a:Addr)(xs:List V):Prop:=
 Rd H a (.tup xs)\/
  ∃(o:Obj)(its:Array Value)(n:Nat),K.lookup a=some o/\o.cls=.type "tuple"/\o.data=.seq its n/\its.size<=sizeLine/\Vals xs its.toList
noncomputable def absV:Value->Option V
 | .none=>some .non
 | .bool b=>some (.bl b)
 | .int i _=>some (.int i)
 | .str x _=>some (.str x)
 | .bytes b _=>some (.byt b)
 | .float b _=>some (.flt b)
 | .ref a=>some (.ref a)
 | .type n=>some (.ty n)
 | _=>none
theorem RelV.abs(r:RelV x u):absV u=some x:=by
 cases x with
 | non=>cases r;rfl
 | bl _=>cases r;rfl
 | int _=>obtain ⟨t,rfl⟩:=r;rfl
 | str _=>obtain ⟨t,rfl⟩:=r;rfl
 | byt _=>obtain ⟨t,rfl⟩:=r;rfl
 | flt _=>obtain ⟨t,rfl⟩:=r;rfl
 | ref _=>cases r;rfl
 | ty _=>cases r;rfl
def RelV.inj(r:RelV x u)(q:RelV y u):x=y:=Option.some.inj (r.abs.symm.trans q.abs)
theorem Vals.inj:∀{xs ys:List V}{us:List Value},Vals xs us->Vals ys us->xs=ys
 | _,_,_,.nil,.nil=>rfl
 | _,_,_,.cons r t,.cons r' t'=>by rw [r.inj r',Vals.inj t t']
termination_by structural a=>a
section
variable{σ:St}{a:Addr}{xs ys:List V}
def Inv.list(I:Inv X pins σ H s)(h:SqL X.K H a xs):∃ its:List Value,Vals xs its/\PlainL s.heap a its.toArray/\xs.length<=sizeLine:=by
 rcases h with h|⟨o,its,n,hk,hc,hd,hs,hz,r⟩
 . obtain ⟨z,its,n,r,e⟩:=h.ok I.hok
   exact ⟨its,r,⟨_,n,e,rfl,rfl,rfl⟩,z⟩
 . refine ⟨its.toList,r,⟨o,n,I.kIn a o hk,hc,hd,by simpa using hs⟩,?_⟩
   have e:=r.length
   simp only [Array.length_toList] at e
   omega
def Inv.tuple(I:Inv X pins σ H s)(h:SqT X.K H a xs):∃ its:List Value,Vals xs its/\IsTup s.heap a its.toArray/\xs.length<=sizeLine:=by
 rcases h with h|⟨o,its,n,hk,hc,hs,hz,r⟩
 . obtain ⟨z,its,r,p⟩:=h.ok I.hok
   exact ⟨its,r,p,z⟩
 . refine ⟨its.toList,r,⟨o,I.kIn a o hk,hc,n,by simpa using hs⟩,?_⟩
   have e:=r.length
   simp only [Array.length_toList] at e
   omega
def Inv.list_inj(I:Inv X pins σ H s)(h:SqL X.K H a xs)(h':SqL X.K H a ys):xs=ys:=by
 obtain ⟨its,r,⟨o,n,e,_,_,d⟩,_⟩:=I.list h
 obtain ⟨its',r',⟨o',n',e',_,_,d'⟩,_⟩:=I.list h'
 rw [e] at e';cases e'
 rw [d] at d'
 injection d' with d1 _
 have:its=its':=by simpa using congrArg Array.toList d1
 subst this
 exact r.inj r'
def Inv.tuple_inj(I:Inv X pins σ H s)(h:SqT X.K H a xs)(h':SqT X.K H a ys):xs=ys:=by
 obtain ⟨its,r,⟨o,e,_,n,d⟩,_⟩:=I.tuple h
 obtain ⟨its',r',⟨o',e',_,n',d'⟩,_⟩:=I.tuple h'
 rw [e] at e';cases e'
 rw [d] at d'
 injection d' with d1 _
 have:its=its':=by simpa using congrArg Array.toList d1
 subst this
 exact r.inj r'
end
noncomputable abbrev Cx.wish(X:Cx)(E:VS):Cx:={ X with xe:=E }
noncomputable abbrev Cx.nox(X:Cx):Cx:=X.wish fun _ _=>False
def Cx.Ok.wish(ok:X.Ok)(E:VS):(X.wish E).Ok:=
 ⟨ok.mod,ok.kind,ok.glob,ok.blt,ok.above,ok.inj,ok.has,ok.cab,ok.hd,ok.frames,ok.stk,ok.exf,ok.bs,ok.bsz,ok.noex,ok.exfs,ok.funs,ok.frf⟩
def Cx.Ok.unwish{E:VS}(ok:(X.wish E).Ok):X.Ok:=
 ⟨ok.mod,ok.kind,ok.glob,ok.blt,ok.above,ok.inj,ok.has,ok.cab,ok.hd,ok.frames,ok.stk,ok.exf,ok.bs,ok.bsz,ok.noex,ok.exfs,ok.funs,ok.frf⟩
section
variable{σ:St}{E:VS}
def Inv.wish(I:Inv X pins σ H s)(E:VS):Inv (X.wish E) pins σ H s:=⟨I.ok.wish E,I.os,I.bare,I.base,I.loc,I.cell,I.free,I.freeC,I.pin,I.hok,I.len,I.fzd⟩
def Inv.unwish(I:Inv (X.wish E) pins σ H s):Inv X pins σ H s:=⟨I.ok.unwish,I.os,I.bare,I.base,I.loc,I.cell,I.free,I.freeC,I.pin,I.hok,I.len,I.fzd⟩
theorem SP.unwish(h:SP (X.wish E) pins D f s'):SP X pins D f s':=by
 cases f with
 | next=>obtain ⟨σ',H',I,q⟩:=h;exact ⟨σ',H',I.unwish,q⟩
 | brk=>obtain ⟨σ',H',I,q⟩:=h;exact ⟨σ',H',I.unwish,q⟩
 | cont=>obtain ⟨σ',H',I,q⟩:=h;exact ⟨σ',H',I.unwish,q⟩
 | ret u=>obtain ⟨v,σ',H',I,r,q⟩:=h;exact ⟨v,σ',H',I.unwish,r,q⟩
def PSs.nox{st:List Stmt}{t:TS}(h:PSs X.nox st t):PSs X st t:=fun pins s σ H D I hw=>
 wpAny_mono (h pins s σ H D (I.wish _) hw) (fun _ _ q=>q.unwish) fun _ _ z=>False.elim z
end
section
variable{st:Stmt}{rest:List Stmt}{t u:TS}{e:Expr}{te:TE}
def Zpo:TS:=fun D σ H=>D.nx σ H
def tSeq(t u:TS):TS:=fun D σ H=>t { D with nx:=u D } σ H
def Zlp:PSs X [] Zpo:=fun _ _ σ H _ I h=>wpAny_execs_nil ⟨σ,H,I,h⟩
theorem Zj3(h1:PS X st t)(h2:PSs X rest u):PSs X (st::rest) (tSeq t u):=by
 intro pins s σ H D I h
 refine wpAny_execs_cons (thn (h1 pins s σ H { D with nx:=u D } I h) fun f s1 q=>?_)
 cases f with
 | next=>
  obtain ⟨σ',H',I',q⟩:=q
  exact h2 pins s1 σ' H' D I' q
 | ret v=>exact q
 | brk=>exact q
 | cont=>exact q
def Inv.quiet(I:Inv X pins σ H s):interactive X.env=false:=by simp [interactive,I.ok.kind]
def Zpp(te:TE):TS:=fun D σ H=>te σ H fun _ H1=>D.nx σ H1
def Zlq(he:PE X e te)(hs:autoParam (swapsWith e none pos.line X.env=pure false) Q9):PS X (.Expr e pos) (Zpp te):=by
 intro pins s σ H D I h
 exact wpAny_Expr_any (thn (he pins s σ H _ I h) fun v s1 z90=>by obtain ⟨x,H1,I1,r1,q1⟩:=z90;exact ⟨σ,H1,I1,q1⟩) I.quiet hs
def tRet(te:TE):TS:=fun D σ H=>te σ H D.rt
def Znc(he:PE X e te):PS X (.Return (some e) pos) (tRet te):=by
 intro pins s σ H D I h
 exact wpAny_Return_some (thn (he pins s σ H _ I h) fun v s1 z90=>by obtain ⟨x,H1,I1,r1,q1⟩:=z90;exact ⟨x,σ,H1,I1,r1,q1⟩)
def tIfS(c:TT)(t u:TS):TS:=fun D σ H=>c σ H fun b H1=>if b=true then t D σ H1 else u D σ H1
theorem Zpq(hc:PT X c tc)(ha:PSs X a t)(hb:PSs X b u):PS X (.If c a b pos) (tIfS tc t u):=by
 intro pins s σ H D I h
 refine wpAny_If (thn (hc pins s σ H _ I h) fun d s1 z0=>?_)
 obtain ⟨H1,I1,q1⟩:=z0
 cases d with
 | true=>exact ha pins s1 σ H1 D I1 q1
 | false=>exact hb pins s1 σ H1 D I1 q1
end
abbrev TG:=V->St->Hp->(St->Hp->Prop)->Prop
abbrev TGs:=List V->St->Hp->(St->Hp->Prop)->Prop
def PG(X:Cx)(target:Expr)(t:TG):Prop:=
 ∀(pins:Pn)(s:Shared)(σ:St)(H:Hp)(v:V)(u:Value)(Q:St->Hp->Prop),Inv X pins σ H s->RelV v u->t v σ H Q->
  wpAny (model X.prog X.w) X.A (assign target X.env u) (fun _ s'=>∃ σ' H',Inv X pins σ' H' s'/\Q σ' H') X.xe s
def PGs(X:Cx)(ts:List Expr)(t:TGs):Prop:=
 ∀(pins:Pn)(s:Shared)(σ:St)(H:Hp)(vs:List V)(us:List Value)(Q:St->Hp->Prop),Inv X pins σ H s->Vals vs us->t vs σ H Q->
  wpAny (model X.prog X.w) X.A (assignInOrder ((assignEach ts X.env).map (·.2)) us) (fun _ s'=>∃ σ' H',Inv X pins σ' H' s'/\Q σ' H') X.xe s
abbrev TSet:=V->V->V->Hp->(Hp->Prop)->Prop
def PSet(X:Cx)(t:TSet):Prop:=
 ∀(pins:Pn)(s:Shared)(σ:St)(H:Hp)(o i v:V)(ov iv u:Value)(Q:Hp->Prop),Inv X pins σ H s->RelV o ov->RelV i iv->RelV v u->t o i v H Q->
  wpAny (model X.prog X.w) X.A (setItem ov iv u) (fun _ s'=>∃ H',Inv X pins σ H' s'/\Q H') X.xe s
section
noncomputable def Zcr(i:Nat):TG:=fun v σ H Q=>Q (σ.set i (some v)) H
def ZgW(hN:X.N.Nodup)(hi:X.N[i]?=some x)(hx:Loc X.env.scope x)(hf:X.fn x=true\/X.env.scope.names.lookup x=some .local:=by first|exact .inl rfl|exact .inr rfl|assumption):PG X (.Name x pos) (Zcr i):=by
 intro pins s σ H v u Q I r h
 exact wpAny_assign_Name (Zb7 I hN hi hx r (fun s' I'=>⟨_,H,I',h⟩) hf)
noncomputable def gNil:TGs:=fun vs σ H Q=>vs=[]/\Q σ H
noncomputable def ZkD(t:TG)(u:TGs):TGs:=fun vs σ H Q=>∃ v r,vs=v::r/\t v σ H fun σ' H'=>u r σ' H' Q
def Zlr:PGs X [] gNil:=by
 intro pins s σ H vs us Q I r h
 obtain ⟨e,h⟩:=h
 subst e
 cases r
 exact assignInOrder_nil ⟨σ,H,I,h⟩
theorem Zj4(h1:PG X e t)(h2:PGs X es u)
 (hs:autoParam ((assignEach (e::es) X.env).map (·.2)=assign e X.env::(assignEach es X.env).map (·.2)) Q9):PGs X (e::es) (ZkD t u):=by
 intro pins s σ H vs us Q I r h
 obtain ⟨v,vr,e1,h⟩:=h
 subst e1
 cases r with
 | cons r rr=>
  rw [hs]
  refine assignInOrder_cons (thn (h1 pins s σ H _ _ _ I r h) fun _ s1 z0=>?_)
  obtain ⟨σ1,H1,I1,q1⟩:=z0
  exact h2 pins s1 σ1 H1 _ _ Q I1 rr q1
noncomputable def gTup(K:Fg)(n:Nat)(t:TGs):TG:=fun v σ H Q=>∃ a xs,v=.ref a/\SqT K H a xs/\xs.length=n/\t xs σ H Q
def Znd(hc:X.calm=true)(h:PGs X es t)
 (hn:autoParam ((assignEach es X.env).length=n) Q9) (hst:autoParam ((assignEach es X.env).findIdx? (·.1)=none) Q9):PG X (.Tuple es k pos) (gTup X.K n t):=by
 intro pins s σ H v u Q I r hw
 obtain ⟨a,xs,e1,hq,hl,hw⟩:=hw
 subst e1
 cases r
 obtain ⟨its,rv,ht,hz⟩:=I.tuple hq
 refine assign_Tuple_tuple (I.ok.hd hc) ht (by simp [hn,<- hl,rv.length]) hst fun h' hx=>?_
 have I1:Inv X pins σ H { s with heap:=h' }:=I.kept (t':=s.toks) fun b o e=>hx b o (ne_of_lt (Heap.lt_size e)) e
 exact h pins _ σ H xs _ Q I1 (by simpa using rv) hw
noncomputable def gSub(to ti:TE)(t:TSet):TG:=fun v σ H Q=>to σ H fun o H1=>ti σ H1 fun i H2=>t o i v H2 fun H3=>Q σ H3
def Zne(ho:PE X o to)(hi:PE X i ti)(hs:PSet X t)
 (ha:∀ v,assign (.Subscript o i pos) X.env v=(do
  let ov <- holding [v] (eval o X.env)
  let iv <- holding [v,ov] (eval i X.env)
  standAt pos
  holding [v,ov,iv] (setItem ov iv v)
  release [v,ov,iv] []):=by intro _;rfl):PG X (.Subscript o i pos) (gSub to ti t):=by
 intro pins s σ H v u Q I r h
 rw [ha]
 refine wpAny_bind (wpAny_holding (thn (ho pins s σ H _ I h) fun ov s1 z0=>?_))
 obtain ⟨x,H1,I1,r1,q1⟩:=z0
 refine wpAny_bind (wpAny_holding (thn (hi pins s1 σ H1 _ I1 q1) fun iv s2 z0=>?_))
 obtain ⟨y,H2,I2,r2,q2⟩:=z0
 refine wpAny_bind (wpAny_standAt (wpAny_bind (wpAny_holding (thn (hs pins s2 σ H2 x y v ov iv u _ I2 r1 r2 r q2) fun _ s3 z0=>?_))))
 obtain ⟨H3,I3,q3⟩:=z0
 exact wpAny_release ⟨σ,H3,I3,q3⟩
def tAsg(te:TE)(g:TG):TS:=fun D σ H=>te σ H fun x H1=>g x σ H1 D.nx
def Ziv(he:PE X e te)(hg:PG X tg g)(hs:autoParam (swapsWithSole [tg] e pos.line X.env=pure false) Q9)(hw:autoParam (swappedStores [tg] e X.env=pure none) Q9)
 (h1:autoParam ((assignEach [tg] X.env).map (·.2)=[assign tg X.env]) Q9):PS X (.Assign [tg] e pos) (tAsg te g):=by
 intro pins s σ H D I h
 refine wpAny_Assign_stores (thn (he pins s σ H _ I h) fun v s1 z0=>?_) hs hw
 obtain ⟨x,H1,I1,r1,q1⟩:=z0
 rw [h1]
 exact thn (hg pins s1 σ H1 x v _ I1 r1 q1) fun _ s2 q=>q
def Znf(hN:X.N.Nodup)(hi:X.N[i]?=some x)(hx:Loc X.env.scope x)(he:PE X e te)(hs:autoParam (swapsWith e (some (.Name x pos')) pos.line X.env=pure false) Q9)(hf:X.fn x=true\/X.env.scope.names.lookup x=some .local:=by first|exact .inl rfl|exact .inr rfl|assumption):
 PS X (.Assign [.Name x pos'] e pos) (tAsg te (Zcr i)):=by
 intro pins s σ H D I h
 refine wpAny_Assign_Name (thn (he pins s σ H _ I h) fun v s1 z0=>?_) hs
 obtain ⟨y,H1,I1,r1,q1⟩:=z0
 exact Zb7 I1 hN hi hx r1 (fun s2 I2=>⟨_,H1,I2,q1⟩) hf
end
structure It where
 go:Nat->Hp->Prop
 yld:Nat->Hp->V->Hp->Prop
 stop:Nat->Hp->Prop
def FpOk(X:Cx)(pins:Pn)(H:Hp)(b:Addr):Prop:=
 H b=none/\b≠X.env.locals/\b∉X.fs/\(b∈X.ex\/X.s₀.heap.objs.size<=b)/\(∀ x c,X.env.cells.lookup x=some c->c≠b)/\∀ p∈X.pn++pins,p.1≠b
def Inv.fpOk(I:Inv X pins σ H s)(hb:s.heap.objs.size<=b)(hn:H' b=none):FpOk X pins H' b:=by
 refine ⟨hn,ne_of_gt (lt_of_lt_of_le I.lt hb),I.nofs hb,.inr (le_trans I.sz hb),fun x c e z=>?_,fun p hp z=>?_⟩
 . obtain ⟨v,q⟩:=I.cell x c e
   exact absurd (lt_of_lt_of_le q.lt (by rw [z];exact hb)) (lt_irrefl _)
 . exact absurd (lt_of_lt_of_le (Heap.lt_size (I.pin p hp).1) (by rw [z];exact hb)) (lt_irrefl _)
structure TurnQ(q:Cx->Prop)(P:Program)(w:World)(K:Fg)(tg:Expr)(J:It)(fp:List Addr)(it:Addr)(tn:Nat->Heap->Prop):Prop where
 mem:it∈fp
 obj:∀ i h,tn i h->∀ b∈fp,∃ o,h.get? b=some o/\∀ v,o.data≠.cell v
 keep:∀ i h h',tn i h->(∀ b∈fp,∀ o,h.get? b=some o->h'.get? b=some o)->tn i h'
 item:∀(X:Cx),X.prog=P->X.w=w->X.K=K->q X->∀(i:Nat)(pins:Pn)(s:Shared)(σ:St)(H:Hp)(E:VS),Inv X pins σ H s->(∀ b∈fp,FpOk X pins H b)->tn i s.heap->J.go i H->
  wpAny (model P w) X.A (pyNext (.ref it)) (fun r s1=>∃ u,r=some u/\
   wpAny (model P w) X.A (letOwnedTupleGo tg (.ref it) u) (fun _ s2=>∃ x H',Inv X pins σ H' s2/\RelV x u/\J.yld i H x H'/\tn (i+1) s2.heap/\∀ b∈fp,H' b=none) E s1) E s
 done:∀(X:Cx),X.prog=P->X.w=w->X.K=K->q X->∀(i:Nat)(pins:Pn)(s:Shared)(σ:St)(H:Hp)(E:VS),Inv X pins σ H s->(∀ b∈fp,FpOk X pins H b)->tn i s.heap->J.stop i H->
  wpAny (model P w) X.A (pyNext (.ref it)) (fun r s1=>r=none/\Inv X pins σ H s1) E s
 self:∀(A:Around)(i:Nat)(s:Shared)(Q:VS)(E:VS),tn i s.heap->Q (.ref it) s->wpAny (model P w) A (pyIter (.ref it)) Q E s
noncomputable abbrev Turn:=TurnQ fun X=>X.calm=true
abbrev TI:=St->Hp->(It->Hp->Prop)->Prop
def PIEQ(q:Cx->Prop)(X:Cx)(pins:Pn)(σ:St)(tg:Expr)(R:It->Hp->Prop)(itv:Value)(s2:Shared):Prop:=
 ∃(it:Addr)(fp:List Addr)(tn:Nat->Heap->Prop)(J:It)(H':Hp),itv=.ref it/\Inv X pins σ H' s2/\TurnQ q X.prog X.w X.K tg J fp it tn/\tn 0 s2.heap/\(∀ b∈fp,FpOk X pins H' b)/\R J H'
def PIQ(q:Cx->Prop)(X:Cx)(tg iter:Expr)(wi:TI):Prop:=
 ∀(pins:Pn)(s:Shared)(σ:St)(H:Hp)(R:It->Hp->Prop),Inv X pins σ H s->wi σ H R->
  wpAny (model X.prog X.w) X.A (eval iter X.env) (fun v s1=>wpAny (model X.prog X.w) X.A (pyIter v) (PIEQ q X pins σ tg R) X.xe s1) X.xe s
noncomputable abbrev PIE:=PIEQ fun X=>X.calm=true
noncomputable def PI:=PIQ fun X=>X.calm=true
def Zef(ho:s.heap.get? it=some o)(hc:o.cls=.type n)(hd:o.data=.fields vs)
 (hn:["enumerate","zip","dict_itemiterator","dict_reverseitemiterator","odict_iterator","itertools.zip_longest","itertools.pairwise"].contains n=false) (hQ:Q () s):wpAny M A (letOwnedTupleGo tg (.ref it) u) Q E s:=by
 unfold letOwnedTupleGo
 cases tg<;>first
  | exact wpAny_pure hQ
  | (cases u<;>first
   | exact wpAny_pure hQ
   | (refine wpAny_bind (wpAny_load ho ?_)
      rw [hc,hd]
      show wpAny M A (if (["enumerate","zip","dict_itemiterator","dict_reverseitemiterator","odict_iterator","itertools.zip_longest","itertools.pairwise"].contains n && vs[0]? == some (rawInt _))=true then _ else _) Q E s
      rw [if_neg (by intro h;rw [hn,Bool.false_and] at h;cases h)]
      exact wpAny_pure hQ))
noncomputable def Itl(K:Fg)(a:Addr):It:=
 ⟨fun i H=>∃ xs x,SqL K H a xs/\xs[i]?=some x,fun i H x H'=>H'=H/\∀ xs,SqL K H a xs->xs[i]?=some x,fun i H=>∃ xs,SqL K H a xs/\xs.length<=i⟩
noncomputable def Itt(K:Fg)(a:Addr):It:=
 ⟨fun i H=>∃ xs x,SqT K H a xs/\xs[i]?=some x,fun i H x H'=>H'=H/\∀ xs,SqT K H a xs->xs[i]?=some x,fun i H=>∃ xs,SqT K H a xs/\xs.length<=i⟩
noncomputable def Itr(lo:Int)(n:Nat):It:=⟨fun i _=>i < n,fun i H x H'=>H'=H/\x=.int (lo+i),fun i _=>n<=i⟩
def Ziw{P:Program}{w:World}{K:Fg}(a it:Addr):Turn P w K tg (Itl K a) [it] it (fun i h=>h.IsListIter it a i) where
 mem:=by simp
 obj:=fun i h st b hb=>by
  have e:b=it:=by simpa using hb
  subst e
  obtain ⟨o,e,c,d⟩:=st
  exact ⟨o,e,fun v z=>by rw [d] at z;cases z⟩
 keep:=fun i h h' st k=>st.at fun o e=>k it (by simp) o e
 item:=by
  intro X hP hw hK hc i pins s σ H E I hf st hg
  subst hP hw hK
  obtain ⟨xs,x,hq,hx⟩:=hg
  obtain ⟨its,rv,p,hz⟩:=I.list hq
  obtain ⟨u,hu,ru⟩:=rv.get hx
  obtain ⟨f0,f1,f2,f3,f4,f5⟩:=hf it (by simp)
  refine wpAny_pyNext_list_item st p.isList (x:=u) (by simpa using hu) fun h' st' sb=>?_
  have I1:Inv X pins σ H { s with heap:=h' }:=I.turned (t':=s.toks) (fun b o hb e=>(sb.2 b hb).trans e) f0 f1 f3 f4 f5
  obtain ⟨o,e,c,d⟩:=id st'
  exact ⟨u,rfl,Zef (s:={ s with heap:=h' }) e c d (by decide) ⟨x,H,I1,ru,⟨rfl,fun ys hy=>by rw [I.list_inj hy hq];exact hx⟩,st',fun b hb=>(hf b hb).1⟩⟩
 done:=by
  intro X hP hw hK hc i pins s σ H E I hf st hg
  subst hP hw hK
  obtain ⟨xs,hq,hx⟩:=hg
  obtain ⟨its,rv,p,hz⟩:=I.list hq
  obtain ⟨f0,f1,f2,f3,f4,f5⟩:=hf it (by simp)
  have hl:=rv.length
  exact wpAny_pyNext_list_end (I.ok.hd hc) st p.isList (by simp;omega) fun h' eb=>⟨rfl,I.turned (t':=s.toks) (fun b o hb e=>eb b o hb e) f0 f1 f3 f4 f5⟩
 self:=fun _ _ _ _ _ st h=>wpAny_pyIter_listiter st h
def ZhC{P:Program}{w:World}{K:Fg}(a it:Addr):Turn P w K tg (Itt K a) [it] it (fun i h=>h.IsTupleIter it a i) where
 mem:=by simp
 obj:=fun i h st b hb=>by
  have e:b=it:=by simpa using hb
  subst e
  obtain ⟨o,e,c,d⟩:=st
  exact ⟨o,e,fun v z=>by rw [d] at z;cases z⟩
 keep:=fun i h h' st k=>st.at fun o e=>k it (by simp) o e
 item:=by
  intro X hP hw hK hc i pins s σ H E I hf st hg
  subst hP hw hK
  obtain ⟨xs,x,hq,hx⟩:=hg
  obtain ⟨its,rv,p,hz⟩:=I.tuple hq
  obtain ⟨u,hu,ru⟩:=rv.get hx
  obtain ⟨f0,f1,f2,f3,f4,f5⟩:=hf it (by simp)
  refine wpAny_pyNext_tuple_item st (show s.heap.IsTuple a its.toArray from p) (x:=u) (by simpa using hu) fun h' st' sb=>?_
  have I1:Inv X pins σ H { s with heap:=h' }:=I.turned (t':=s.toks) (fun b o hb e=>(sb.2 b hb).trans e) f0 f1 f3 f4 f5
  obtain ⟨o,e,c,d⟩:=id st'
  exact ⟨u,rfl,Zef (s:={ s with heap:=h' }) e c d (by decide) ⟨x,H,I1,ru,⟨rfl,fun ys hy=>by rw [I.tuple_inj hy hq];exact hx⟩,st',fun b hb=>(hf b hb).1⟩⟩
 done:=by
  intro X hP hw hK hc i pins s σ H E I hf st hg
  subst hP hw hK
  obtain ⟨xs,hq,hx⟩:=hg
  obtain ⟨its,rv,p,hz⟩:=I.tuple hq
  obtain ⟨f0,f1,f2,f3,f4,f5⟩:=hf it (by simp)
  have hl:=rv.length
  exact wpAny_pyNext_tuple_end (I.ok.hd hc) st (show s.heap.IsTuple a its.toArray from p) (by simp;omega) fun h' eb=>⟨rfl,I.turned (t':=s.toks) (fun b o hb e=>eb b o hb e) f0 f1 f3 f4 f5⟩
 self:=fun _ _ _ _ _ st h=>wpAny_pyIter_tupleiter st h
section
variable{w:World}{A:Around}{E:VS}
def Lone(o:Obj):Prop:=∃ vs,o.data=.fields vs/\vs[2]?=some .none
def Zf3:entryFor table "proto.unchain"=some Builtin.«proto.unchain»:=entryFor_of_tree (by kernel_rfl)
def ZhD{e:Value}{h:Addr}{o:Obj}{Q:VS}(ho:s.heap.get? h=some o)(hl:Lone o)(hQ:Q .none s):
 wpAny (model prog w) A (runValue (.builtin "proto.unchain" ⟨[e,.ref h,.ref h,.bool false],[]⟩)) Q E s:=by
 obtain ⟨vs,hd,h2⟩:=hl
 refine wpAny_runValue (codeAny_builtin Zf3 (wpAny_bind (m:=field (.ref h) 2) (wpAny_field ho hd h2 ?_)))
 rw [if_pos (by rfl)]
 exact wpAny_pure hQ
def Zng{α:Type}{h:Addr}{o:Obj}{Q:α->Shared->Prop}{R:VS}(hh:A.handled=some (.ref h))(ho:s.heap.get? h=some o)(hl:Lone o)
 (hR:∀(t e:Obj)(f:Obj->Obj),(((s.heap.push t).push e).update (s.heap.push t).objs.size f).get? (s.heap.push t).objs.size=some (f e)->(f e).cls=.type "StopIteration"->R (.ref (s.heap.push t).objs.size) { s with heap:=((s.heap.push t).push e).update (s.heap.push t).objs.size f }):
 wpAny (model prog w) A (newExc (.type "StopIteration") [] >>= fun e=>(raiseNew e:Sem α)) Q R s:=by
 have hlt:=Heap.lt_size ho
 unfold newExc newTuple raiseNew
 refine wpAny_bind (wpAny_bind (wpAny_newObj_type (wpAny_bind (m:=firstArgMember _ _) (wpAny_of_eq (a:=Value.none) (by simp only [firstArgMember];rfl) (wpAny_newObj_type (wpAny_bind (wpAny_handled ?_)) (by size_fits)))) (by size_fits)))
 rw [hh]
 dsimp only
 rw [if_pos (by rw [Heap.size_push];simpa using ne_of_lt (Nat.lt_succ_of_lt hlt))]
 exact wpAny_bind (wpAny_holding (ZhD (Heap.get?_push_of_some _ (Heap.get?_push_of_some _ ho)) hl (wpAny_bind (m:=setField (.ref _) 2 (.ref h)) (wpAny_setField (Heap.get?_push_size _ rfl) rfl (by rw [Array.size_append];exact Nat.lt_add_right _ (show 2 < 6 by decide)) (wpAny_throw (hR _ _ _ (Heap.get?_update_self _ (Heap.get?_push_size _ rfl) rfl) rfl))))))
def Zg6{h:Addr}{o:Obj}{x left step:Int}{Q:Option Value->Shared->Prop}(hh:A.handled=some (.ref h))(ho:s.heap.get? h=some o)(hl:Lone o)(hit:IsRangeIter s.heap it x left step)(hleft:left<=0)
 (hQ:∀ h',Heap.ExtBut it s.heap h'->Q none { s with heap:=h' }):wpAny (model prog w) A (pyNext (.ref it)) Q E s:=by
 have hlt:=Heap.lt_size ho
 have fresh:∀ t e:Obj,Heap.ExtBut it s.heap ((s.heap.push t).push e):=fun t e b u _ q=>Heap.get?_push_of_some _ (Heap.get?_push_of_some _ q)
 have past:∀(t e:Obj)(f:Obj->Obj),Heap.ExtBut it s.heap (((s.heap.push t).push e).update (s.heap.push t).objs.size f):=fun t e f b u hb q=>
  (Heap.get?_update_other _ _ (by rw [Heap.size_push];exact ne_of_gt (Nat.lt_succ_of_lt (Heap.lt_size q)))).trans (fresh t e b u hb q)
 (have hT:s.TypeIs (.ref it) "range_iterator":=⟨_,hit,rfl⟩)
 unfold pyNext
 refine wpAny_bind (wpAny_attempt (wpAny_callSpecial?_slot (name:=Str.ofString "__next__") hT F.slot_range_iterator_next (wpAny_call_entry F.slot_range_iterator_next hT F.entry_range_iterator_next (wpAny_bind (m:=field (.ref it) 0) (wpAny_field hit rfl (x:=rawInt x) rfl (wpAny_bind (m:=field (.ref it) 1) (wpAny_field hit rfl (x:=rawInt left) rfl (wpAny_bind (m:=field (.ref it) 2) (wpAny_field hit rfl (x:=rawInt step) rfl ?_)))))) (F.args_range_iterator_next_1 _))))
 refine Eq.mpr (congrArg (fun m=>wpAny _ _ m _ _ s) (if_pos hleft)) (wpAny_bind (wpAny_rule (wpAny_bind (Zng (A:=A.in1) hh ho hl fun t e f g c=>?_))))
 exact wpAny_bind (wpAny_isInstance (T:="StopIteration") (b:=true) ⟨_,g,c⟩ isSubtype_stop (wpAny_pure (hQ _ (past t e f))))
end
def Quiet(X:Cx):Prop:=∃ p∈X.fz,X.A.handled=some (.ref p.1)/\Lone p.2.1
def Zeg{P:Program}{w:World}{K:Fg}(it:Addr)(lo:Int)(n:Nat):Turn P w K tg (Itr lo n) [it] it (fun i h=>IsRangeIter h it (lo+(i:Nat) * 1) ((n:Int) - (i:Nat)) 1) where
 mem:=by simp
 obj:=fun i h st b hb=>by
  have e:b=it:=by simpa using hb
  subst e
  exact ⟨_,st,fun v z=>by
   have z':Data.fields _=Data.cell v:=z
   cases z'⟩
 keep:=fun i h h' st k=>k it (by simp) _ st
 item:=by
  intro X hP hw hK hc i pins s σ H E I hf st hg
  subst hP hw hK
  obtain ⟨f0,f1,f2,f3,f4,f5⟩:=hf it (by simp)
  have W:=Walks.range (prog:=X.prog) (w:=X.w) (I.ok.hd hc) it lo 1 n
  refine W.item i s _ _ hg st fun v h' tk hv st' kk=>?_
  obtain ⟨t,rfl⟩:=hv
  have I1:Inv X pins σ H { s with heap:=h',toks:=tk }:=I.turned (fun b o hb e=>kk b o (by simpa using hb) e) f0 f1 f3 f4 f5
  refine ⟨_,rfl,Zef (s:={ s with heap:=h',toks:=tk }) (n:="range_iterator") st' rfl rfl (by decide) ⟨.int (lo+i),H,I1,⟨t,?_⟩,⟨rfl,rfl⟩,st',fun b hb=>(hf b hb).1⟩⟩
  rw [mul_one]
 done:=by
  intro X hP hw hK hc i pins s σ H E I hf st hg
  subst hP hw hK
  obtain ⟨f0,f1,f2,f3,f4,f5⟩:=hf it (by simp)
  exact wpAny_pyNext_range_end (I.ok.hd hc) st (by have:n<=i:=hg;omega) fun h' eb=>⟨rfl,I.turned (t':=s.toks) (fun b o hb e=>eb b o hb e) f0 f1 f3 f4 f5⟩
 self:=fun _ _ _ _ _ st h=>wpAny_pyIter_rangeiter st h
def Zg7{P:Program}{w:World}{K:Fg}(it:Addr)(lo:Int)(n:Nat):TurnQ Quiet P w K tg (Itr lo n) [it] it (fun i h=>IsRangeIter h it (lo+(i:Nat) * 1) ((n:Int) - (i:Nat)) 1) where
 mem:=by simp
 obj:=fun i h st b hb=>by
  have e:b=it:=by simpa using hb
  subst e
  exact ⟨_,st,fun v z=>by
   have z':Data.fields _=Data.cell v:=z
   cases z'⟩
 keep:=fun i h h' st k=>k it (by simp) _ st
 item:=by
  intro X hP hw hK hc i pins s σ H E I hf st hg
  subst hP hw hK
  obtain ⟨f0,f1,f2,f3,f4,f5⟩:=hf it (by simp)
  refine wpAny_pyNext_range_item st (by have:i < n:=hg;omega) fun h' st' hs=>?_
  have st':IsRangeIter h' it (lo+((i+1:Nat):Nat) * 1) ((n:Int) - ((i+1:Nat):Nat)) 1:=by
   have e1:lo+((i+1:Nat):Int) * 1=lo+(i:Nat) * 1+1:=by omega
   have e2:(n:Int) - ((i+1:Nat):Int)=(n:Int) - (i:Nat) - 1:=by omega
   rw [e1,e2];exact st'
  have I1:Inv X pins σ H { s with heap:=h',toks:=s.toks+1 }:=I.turned (fun b o hb e=>hs.extBut b o hb e) f0 f1 f3 f4 f5
  refine ⟨_,rfl,Zef (s:={ s with heap:=h',toks:=s.toks+1 }) (n:="range_iterator") st' rfl rfl (by decide) ⟨.int (lo+i),H,I1,⟨s.toks,?_⟩,⟨rfl,rfl⟩,st',fun b hb=>(hf b hb).1⟩⟩
  rw [mul_one]
 done:=by
  intro X hP hw hK hc i pins s σ H E I hf st hg
  subst hP hw hK
  obtain ⟨f0,f1,f2,f3,f4,f5⟩:=hf it (by simp)
  obtain ⟨p,hp,hh,hl⟩:=hc
  have fz:Z2 X.prog X.w H s.heap p.1 (.frz p.2.1 p.2.2):=I.hok _ _ (I.fzd p hp)
  exact Zg6 hh fz.1 hl st (by have:n<=i:=hg;omega) fun h' eb=>⟨rfl,I.turned (t':=s.toks) (fun b o hb e=>eb b o hb e) f0 f1 f3 f4 f5⟩
 self:=fun _ _ _ _ _ st h=>wpAny_pyIter_rangeiter st h
section
noncomputable def Zpr(K:Fg)(tl:TE):TI:=fun σ H R=>tl σ H fun x H1=>∃ a,x=.ref a/\(∃ xs,SqL K H1 a xs)/\R (Itl K a) H1
noncomputable def iTup(K:Fg)(tl:TE):TI:=fun σ H R=>tl σ H fun x H1=>∃ a,x=.ref a/\(∃ xs,SqT K H1 a xs)/\R (Itt K a) H1
def ZgX(hl:PE X l tl):PI X tg l (Zpr X.K tl):=by
 intro pins s σ H R I h
 refine thn (hl pins s σ H _ I h) fun v s1 z0=>?_
 obtain ⟨x,H1,I1,r1,q1⟩:=z0
 obtain ⟨a,e,⟨xs,hq⟩,q⟩:=q1
 subst e
 cases r1
 obtain ⟨its,rv,p,hz⟩:=I1.list hq
 refine wpAny_pyIter_list p.isList ?_
 refine ⟨s1.heap.objs.size,[s1.heap.objs.size],_,_,H1,rfl,I1.kept (t':=s1.toks) fun b o e=>Heap.get?_push_of_some _ e,Ziw a _,⟨_,Heap.get?_push_size _ rfl,rfl,rfl⟩,fun b hb=>?_,q⟩
 have e:b=s1.heap.objs.size:=by simpa using hb
 subst e
 exact I1.fpOk (Nat.le_refl _) (I1.hok.fresh (Nat.le_refl _))
def Zix(hl:PE X l tl):PI X tg l (iTup X.K tl):=by
 intro pins s σ H R I h
 refine thn (hl pins s σ H _ I h) fun v s1 z0=>?_
 obtain ⟨x,H1,I1,r1,q1⟩:=z0
 obtain ⟨a,e,⟨xs,hq⟩,q⟩:=q1
 subst e
 cases r1
 obtain ⟨its,rv,p,hz⟩:=I1.tuple hq
 refine wpAny_pyIter_tuple (show s1.heap.IsTuple a its.toArray from p) ?_
 refine ⟨s1.heap.objs.size,[s1.heap.objs.size],_,_,H1,rfl,I1.kept (t':=s1.toks) fun b o e=>Heap.get?_push_of_some _ e,ZhC a _,⟨_,Heap.get?_push_size _ rfl,rfl,rfl⟩,fun b hb=>?_,q⟩
 have e:b=s1.heap.objs.size:=by simpa using hb
 subst e
 exact I1.fpOk (Nat.le_refl _) (I1.hok.fresh (Nat.le_refl _))
def Zfa{qq:Cx->Prop}(T:∀ (it:Addr) (lo:Int) (n:Nat),TurnQ qq X.prog X.w X.K tg (Itr lo n) [it] it (fun i h=>IsRangeIter h it (lo+(i:Nat) * 1) ((n:Int) - (i:Nat)) 1)){σ:St}{R:It->Hp->Prop}{E:VS}{lo hi:Int}{t u v:Tok}{tk:Nat}(I:Inv X pins σ H s)(h1:-(2 ^ 62)<=lo)(h2:lo < 2 ^ 62)(h3:-(2 ^ 62)<=hi)(h4:hi < 2 ^ 62)
 (q:R (Itr lo (hi - lo).toNat) H):wpAny (model X.prog X.w) X.A (pyIter (.ref s.heap.objs.size)) (PIEQ qq X pins σ tg R) E { s with heap:=s.heap.push { cls:=.type "range",data:=.fields #[.int lo t,.int hi u,.int 1 v] },toks:=tk }:=by
 refine wpAny_pyIter_range (IsRange.new ..) (small_one h1 h2 h3 h4) ?_
 have I1:Inv X pins σ H { s with heap:=s.heap.push { cls:=.type "range",data:=.fields #[.int lo t,.int hi u,.int 1 v] },toks:=tk }:=I.kept fun b o e=>Heap.get?_push_of_some _ e
 refine ⟨(s.heap.push { cls:=.type "range",data:=.fields #[.int lo t,.int hi u,.int 1 v] }).objs.size,[(s.heap.push { cls:=.type "range",data:=.fields #[.int lo t,.int hi u,.int 1 v] }).objs.size],_,_,H,rfl,
  I1.kept (t':=tk) fun b o e=>Heap.get?_push_of_some _ e,T _ lo (hi - lo).toNat,?_,fun b hb=>?_,q⟩
 . have e1:lo+((0:Nat):Int) * 1=lo:=by simp
   have e2:(((hi - lo).toNat:Nat):Int) - ((0:Nat):Int)=Builtin.Range.rangeSize lo hi 1:=by rw [rangeSize_one];split<;>omega
   show IsRangeIter _ _ (lo+((0:Nat):Int) * 1) ((((hi - lo).toNat:Nat):Int) - ((0:Nat):Int)) 1
   rw [e1,e2]
   exact Heap.get?_push_size _ rfl
 . have e:b=(s.heap.push { cls:=.type "range",data:=.fields #[.int lo t,.int hi u,.int 1 v] }).objs.size:=by simpa using hb
   subst e
   exact I1.fpOk (Nat.le_refl _) (I1.hok.fresh (Nat.le_refl _))
noncomputable def Zps(ta:TA):TI:=fun σ H R=>ta σ H fun vs H1=>∃ j:Int,vs=[.int j]/\-(2 ^ 62)<=j/\j < 2 ^ 62/\R (Itr 0 j.toNat) H1
noncomputable def Zpt(ta:TA):TI:=fun σ H R=>ta σ H fun vs H1=>∃ i j:Int,vs=[.int i,.int j]/\(-(2 ^ 62)<=i/\i < 2 ^ 62/\-(2 ^ 62)<=j/\j < 2 ^ 62)/\R (Itr i (j - i).toNat) H1
def Zj5{σ:St}{R:It->Hp->Prop}{E:VS}{lo hi:Int}{t u v:Tok}{tk:Nat}(I:Inv X pins σ H s)(h1:-(2 ^ 62)<=lo)(h2:lo < 2 ^ 62)(h3:-(2 ^ 62)<=hi)(h4:hi < 2 ^ 62)
 (q:R (Itr lo (hi - lo).toNat) H):wpAny (model X.prog X.w) X.A (pyIter (.ref s.heap.objs.size)) (PIE X pins σ tg R) E { s with heap:=s.heap.push { cls:=.type "range",data:=.fields #[.int lo t,.int hi u,.int 1 v] },toks:=tk }:=Zfa (fun it lo n=>Zeg it lo n) I h1 h2 h3 h4 q
theorem ZhE{qq:Cx->Prop}(T:∀ (it:Addr) (lo:Int) (n:Nat),TurnQ qq X.prog X.w X.K tg (Itr lo n) [it] it (fun i h=>IsRangeIter h it (lo+(i:Nat) * 1) ((n:Int) - (i:Nat)) 1)){a:Expr}{ta:TA}{p:Pos}(hg:Gl X "range")(hm:X.mg "range"=none)(ha:PA X [a] ta)(hs:autoParam (starEach [a] X.env=[(false,eval a X.env)]) Q9):PIQ qq X tg (.Call (.Name "range" p) [a] [] pos) (Zps ta):=by
 intro pins s σ H R I h
 refine Call_ (Zbr I hg hm boot_range (PyProof.Rows.callWith_type1 (thn (ha pos pins s σ H _ I h) fun us s1 z0=>?_) hs rfl))
 obtain ⟨vs,H1,I1,r1,q1⟩:=z0
 obtain ⟨j,e,q1,q2,q⟩:=q1
 subst e
 cases r1 with
 | cons r rr=>
  cases rr
  obtain ⟨t,rfl⟩:=r
  exact call_range_1 (Zfa T I1 (by omega) (by omega) q1 q2 (by simpa using q))
theorem Ziy(hg:Gl X "range")(hm:X.mg "range"=none)(ha:PA X [a,b] ta)(hs:autoParam (starEach [a,b] X.env=[(false,eval a X.env),(false,eval b X.env)]) Q9)(hs2:autoParam (starEach [b] X.env=[(false,eval b X.env)]) Q9):
 PI X tg (.Call (.Name "range" p) [a,b] [] pos) (Zpt ta):=by
 intro pins s σ H R I h
 refine Call_ (Zbr I hg hm boot_range (PyProof.Rows.callWith_type1 (thn (ha pos pins s σ H _ I h) fun us s1 z0=>?_) (by show _=_;rw [hs,hs2]) (by show _=_;rw [hs2];rfl)))
 obtain ⟨vs,H1,I1,r1,q1⟩:=z0
 obtain ⟨i,j,e,⟨q1,q2,q3,q4⟩,q⟩:=q1
 subst e
 cases r1 with
 | cons r rr=>
  cases rr with
  | cons r' rr=>
   cases rr
   obtain ⟨t,rfl⟩:=r
   obtain ⟨t',rfl⟩:=r'
   exact call_range_2 (Zj5 I1 q1 q2 q3 q4 q)
def tFor(wi:TI)(g:TG)(tb:TS):TS:=fun D σ H=>wi σ H fun J H1=>∃ W:Nat->Nat->St->Hp->Prop,(∃ m,W 0 m σ H1)/\∀ i m σ H,W i m σ H->
 (J.stop i H/\D.nx σ H)\/(J.go i H/\∃ N:St->Hp->Prop,(∀ σ' H',N σ' H'->∃ m',m' < m/\W (i+1) m' σ' H')/\∀ x H',J.yld i H x H'->g x σ H' fun σ2 H2=>tb { D with nx:=N,ct:=N,bk:=D.nx } σ2 H2)
noncomputable def Zc7(fp:List Addr)(h:Heap):List (Addr×Obj):=fp.filterMap fun b=>(h.get? b).map fun o=>(b,o)
def ZaR(hb:b∈fp)(e:h.get? b=some o):(b,o)∈Zc7 fp h:=List.mem_filterMap.mpr ⟨b,hb,by rw [e];rfl⟩
theorem Ziz(hp:p∈Zc7 fp h):p.1∈fp/\h.get? p.1=some p.2:=by
 obtain ⟨b,hb,e⟩:=List.mem_filterMap.mp hp
 cases q:h.get? b with
 | none=>rw [q] at e;cases e
 | some o=>
  rw [q] at e
  have e':(b,o)=p:=Option.some.inj e
  subst e'
  exact ⟨hb,q⟩
def Inv.pinned(I:Inv X pins σ H s)(hf:∀ b∈fp,FpOk X pins H b)(ho:∀ b∈fp,∃ o,s.heap.get? b=some o/\∀ v,o.data≠.cell v):Inv X (pins++Zc7 fp s.heap) σ H s:=
 I.pins_of fun p hp=>(List.mem_append.mp hp).elim (fun z=>I.pin p (mem_append_right _ z)) fun z=>by
  obtain ⟨hb,e⟩:=Ziz z
  obtain ⟨f0,f1,f2,_⟩:=hf p.1 hb
  obtain ⟨o,e',d⟩:=ho p.1 hb
  rw [e] at e';cases e'
  exact ⟨e,f0,f1,f2,d⟩
def Inv.unpinned(I:Inv X (pins++pl) σ H s):Inv X pins σ H s:=I.pins_of fun p hp=>I.pin p (mem_append_right _ (List.mem_append_left _ hp))
def Znh(hp:PassesOwn (model X.prog X.w) X.A X.env X.xe)(hc:X.calm=true)(hi:PI X tg iter wi)(hg:PG X tg g)(hb:PSs X body tb)
 (hs:∀ x,foldedSetIterable iter X.env x=pure x:=by intro _;rfl):PS X (.For tg iter body [] pos) (tFor wi g tb):=by
 intro pins s σ H D I h
 refine wpAny_For (thn (hi pins s σ H _ I h) fun v s1 h1=>thn h1 fun itv s2 h2=>?_) hs
 obtain ⟨it,fp,tn,J,H2,e,I2,T,st2,f2,W,⟨m0,w0⟩,turn⟩:=h2
 subst e
 have stat:∀{H':Hp},(∀ b∈fp,H' b=none)->∀ b∈fp,FpOk X pins H' b:=fun hn b hb=>⟨hn b hb,(f2 b hb).2⟩
 refine codeAny_forLoop_any (fun n s'=>∃ i σ' H',Inv X pins σ' H' s'/\tn i s'.heap/\(∀ b∈fp,H' b=none)/\W i n σ' H') ?_ m0 ⟨0,σ,H2,I2,st2,fun b hb=>(f2 b hb).1,w0⟩
 rintro n s3 ⟨i,σ3,H3,I3,st3,fr3,w3⟩
 rcases turn i n σ3 H3 w3 with ⟨stop,qn⟩|⟨go,N,hN,step⟩
 . refine wpAny_passesOwn hp (thn (T.done X rfl rfl rfl hc i pins s3 σ3 H3 X.xe I3 (stat fr3) st3 stop) fun r s4 z0=>?_)
   obtain ⟨hr,I4⟩:=z0
   subst hr
   exact wpAny_execs_nil ⟨σ3,H3,I4,qn⟩
 . refine wpAny_passesOwn hp (thn (T.item X rfl rfl rfl hc i pins s3 σ3 H3 X.xe I3 (stat fr3) st3 go) fun r s4 z0=>?_)
   obtain ⟨u,hr,h4⟩:=z0
   subst hr
   refine wpAny_passesOwn hp (thn h4 fun _ s5 z0=>?_)
   obtain ⟨x,H5,I5,r5,y5,st5,fr5⟩:=z0
   have I5':=I5.pinned (stat fr5) (T.obj _ _ st5)
   refine wpAny_passesOwn hp (thn (hg _ s5 σ3 H5 x u _ I5' r5 (step x H5 y5)) fun _ s6 z0=>?_)
   obtain ⟨σ6,H6,I6,q6⟩:=z0
   refine wpAny_passesOwn hp (thn (hb _ s6 σ6 H6 _ I6 q6) fun f s7 q7=>?_)
   have again:∀{σ7:St}{H7:Hp},Inv X (pins++Zc7 fp s5.heap) σ7 H7 s7->N σ7 H7->∃ m,m < n/\∃ i σ' H',Inv X pins σ' H' s7/\tn i s7.heap/\(∀ b∈fp,H' b=none)/\W i m σ' H':=fun{σ7 H7} I7 n7=>by
    obtain ⟨m',hm,w7⟩:=hN σ7 H7 n7
    refine ⟨m',hm,i+1,σ7,H7,I7.unpinned,T.keep _ _ _ st5 fun b hb o e=>(I7.pin (b,o) (mem_append_right _ (mem_append_right _ (ZaR hb e)))).1,fun b hb=>?_,w7⟩
    obtain ⟨o,e,d⟩:=T.obj _ _ st5 b hb
    exact (I7.pin (b,o) (mem_append_right _ (mem_append_right _ (ZaR hb e)))).2.1
   cases f with
   | next=>obtain ⟨σ7,H7,I7,n7⟩:=q7;exact again I7 n7
   | cont=>obtain ⟨σ7,H7,I7,n7⟩:=q7;exact again I7 n7
   | brk=>obtain ⟨σ7,H7,I7,q7⟩:=q7;exact ⟨σ7,H7,I7.unpinned,q7⟩
   | ret v=>obtain ⟨x7,σ7,H7,I7,r7,q7⟩:=q7;exact ⟨x7,σ7,H7,I7.unpinned,r7,q7⟩
end
abbrev R2:=V->V->Hp->VK->Prop
def OpR(X:Cx)(f:Value->Value->Sem Value)(r:R2):Prop:=
 ∀(pins:Pn)(s:Shared)(σ:St)(H:Hp)(x y:V)(v u:Value)(Q:VK),Inv X pins σ H s->RelV x v->RelV y u->r x y H Q->
  wpAny (model X.prog X.w) X.A (f v u) (EP X pins σ Q) X.xe s
def UnR(X:Cx)(f:Value->Sem Value)(r:V->Hp->VK->Prop):Prop:=
 ∀(pins:Pn)(s:Shared)(σ:St)(H:Hp)(x:V)(v:Value)(Q:VK),Inv X pins σ H s->RelV x v->r x H Q->
  wpAny (model X.prog X.w) X.A (f v) (EP X pins σ Q) X.xe s
def ZZ(X:Cx)(f:Value)(r:List V->Hp->VK->Prop):Prop:=
 ∀(pins:Pn)(s:Shared)(σ:St)(H:Hp)(xs:List V)(us:List Value)(Q:VK),Inv X pins σ H s->Vals xs us->r xs H Q->
  wpAny (model X.prog X.w) X.A (call f us) (EP X pins σ Q) X.xe s
def TruR(X:Cx)(r:V->Hp->(Bool->Hp->Prop)->Prop):Prop:=
 ∀(pins:Pn)(s:Shared)(σ:St)(H:Hp)(x:V)(v:Value)(Q:Bool->Hp->Prop),Inv X pins σ H s->RelV x v->r x H Q->
  wpAny (model X.prog X.w) X.A (truthy v) (TP X pins σ Q) X.xe s
def tOp(r:R2)(ta tb:TE):TE:=fun σ H Q=>ta σ H fun x H1=>tb σ H1 fun y H2=>r x y H2 Q
def tUn(r:V->Hp->VK->Prop)(ta:TE):TE:=fun σ H Q=>ta σ H fun x H1=>r x H1 Q
def rI(C:Int->Int->Prop)(g:Int->Int->V):R2:=fun x y H Q=>∃ i j,x=.int i/\y=.int j/\C i j/\Q (g i j) H
def rI0(g:Int->Int->V):R2:=fun x y H Q=>∃ i j,x=.int i/\y=.int j/\Q (g i j) H
def rU(g:Int->V):V->Hp->VK->Prop:=fun x H Q=>∃ i,x=.int i/\Q (g i) H
section
variable{a b c:Expr}{ta tb tc:TE}
def binT(ha:PE X a ta)(hb:PE X b tb){σ:St}{R:V->V->Hp->Prop}(I:Inv X pins σ H s)
 (h:ta σ H fun x H1=>tb σ H1 fun y H2=>R x y H2) {Q:VS} {f:Value->Value->Sem Value}
 (hf:∀ v u s2 x y H2,Inv X pins σ H2 s2->RelV x v->RelV y u->R x y H2->wpAny (model X.prog X.w) X.A (f v u) Q X.xe s2):
 wpAny (model X.prog X.w) X.A (eval a X.env) (fun v s₁=>wpAny (model X.prog X.w) X.A (eval b X.env) (fun u s₂=>wpAny (model X.prog X.w) X.A (f v u) Q X.xe s₂) X.xe s₁) X.xe s:=by
 refine thn (ha pins s σ H _ I h) fun v s1 z0=>?_
 obtain ⟨x,H1,I1,r1,q1⟩:=z0
 refine thn (hb pins s1 σ H1 _ I1 q1) fun u s2 z0=>?_
 obtain ⟨y,H2,I2,r2,q2⟩:=z0
 exact hf v u s2 x y H2 I2 r1 r2 q2
def Zpu{op:Operator}{r:R2}(ho:OpR X (binaryOp op) r)(ha:PE X a ta)(hb:PE X b tb):PE X (.BinOp a op b pos) (tOp r ta tb):=by
 intro pins s σ H Q I h
 exact wpAny_BinOp (binT ha hb I h fun v u s2 x y H2 I2 rx ry q=>ho pins s2 σ H2 x y v u Q I2 rx ry q)
def Zpv(ho:UnR X (unaryOp op) r)(ha:PE X a ta):PE X (.UnaryOp op a pos) (tUn r ta):=by
 intro pins s σ H Q I h
 exact UnaryOp_ (thn (ha pins s σ H _ I h) fun v s1 z90=>by obtain ⟨x,H1,I1,r1,q1⟩:=z90;exact ho pins s1 σ H1 x v Q I1 r1 q1)
def opI{f:Value->Value->Sem Value}{C:Int->Int->Prop}{g:Int->Int->Int}
 (rule:∀(i j:Int)(t u:Tok)(s:Shared)(Q:VS)(E:VS),C i j->Q (.int (g i j) s.toks) { s with toks:=s.toks+1 }->wpAny (model X.prog X.w) X.A (f (.int i t) (.int j u)) Q E s):
 OpR X f (rI C fun i j=>.int (g i j)):=by
 intro pins s σ H x y v u Q I rx ry h
 obtain ⟨i,j,rfl,rfl,hc,q⟩:=h
 obtain ⟨t,rfl⟩:=rx
 obtain ⟨t',rfl⟩:=ry
 exact rule i j t t' s _ _ hc ⟨.int (g i j),H,I.tok _,⟨_,rfl⟩,q⟩
def opI0{f:Value->Value->Sem Value}{g:Int->Int->Int}
 (rule:∀(i j:Int)(t u:Tok)(s:Shared)(Q:VS)(E:VS),Q (.int (g i j) s.toks) { s with toks:=s.toks+1 }->wpAny (model X.prog X.w) X.A (f (.int i t) (.int j u)) Q E s):
 OpR X f (rI0 fun i j=>.int (g i j)):=by
 intro pins s σ H x y v u Q I rx ry h
 obtain ⟨i,j,rfl,rfl,q⟩:=h
 obtain ⟨t,rfl⟩:=rx
 obtain ⟨t',rfl⟩:=ry
 exact rule i j t t' s _ _ ⟨.int (g i j),H,I.tok _,⟨_,rfl⟩,q⟩
def opB0{f:Value->Value->Sem Value}{g:Int->Int->Bool}
 (rule:∀(i j:Int)(t u:Tok)(s:Shared)(Q:VS)(E:VS),Q (.bool (g i j)) s->wpAny (model X.prog X.w) X.A (f (.int i t) (.int j u)) Q E s):
 OpR X f (rI0 fun i j=>.bl (g i j)):=by
 intro pins s σ H x y v u Q I rx ry h
 obtain ⟨i,j,rfl,rfl,q⟩:=h
 obtain ⟨t,rfl⟩:=rx
 obtain ⟨t',rfl⟩:=ry
 exact rule i j t t' s _ _ ⟨.bl (g i j),H,I,rfl,q⟩
def CPow(i j:Int):Prop:=0<=j/\j<=1000000/\i.natAbs < 2 ^ 64
def CMul(i j:Int):Prop:=(-(2 ^ 64) < i/\i < 2 ^ 64)\/(-(2 ^ 64) < j/\j < 2 ^ 64)
def CMul.ok(h:CMul i j):IntMulOk i j:=by
 rcases h with ⟨h1,h2⟩|⟨h1,h2⟩
 . exact .of_left (intBits_le_64 h1 h2)
 . exact .of_right (intBits_le_64 h1 h2)
def Zni:OpR X (binaryOp .Add) (rI0 fun i j=>.int (i+j)):=opI0 fun _ _ _ _ _ _ _ q=>add_int q
def Znj:OpR X (binaryOp .Sub) (rI0 fun i j=>.int (i - j)):=opI0 fun _ _ _ _ _ _ _ q=>sub_int q
def Znk:OpR X (binaryOp .Mult) (rI CMul fun i j=>.int (i * j)):=opI fun _ _ _ _ _ _ _ hc q=>mul_int q hc.ok
def Znl:OpR X (binaryOp .Mod) (rI (fun _ j=>0 < j) fun i j=>.int (i % j)):=opI fun i j _ _ _ _ _ hc q=>by
 have h1:(0:Int) < j:=hc
 exact mod_int' (by omega) (by rw [Int.fmod_eq_emod_of_nonneg i (by omega)];exact q)
def Znm:OpR X (binaryOp .Pow) (rI CPow fun i j=>.int (i ^ j.toNat)):=opI fun _ _ _ _ _ _ _ hc q=>pow_int_small hc.1 hc.2.1 hc.2.2 q
def unI{f:Value->Sem Value}{g:Int->Int}
 (rule:∀(i:Int)(t:Tok)(s:Shared)(Q:VS)(E:VS),Q (.int (g i) s.toks) { s with toks:=s.toks+1 }->wpAny (model X.prog X.w) X.A (f (.int i t)) Q E s):
 UnR X f (rU fun i=>.int (g i)):=by
 intro pins s σ H x v Q I rx h
 obtain ⟨i,rfl,q⟩:=h
 obtain ⟨t,rfl⟩:=rx
 exact rule i t s _ _ ⟨.int (g i),H,I.tok _,⟨_,rfl⟩,q⟩
def Znn:UnR X (unaryOp .USub) (rU fun i=>.int (-i)):=unI fun _ _ _ _ _ q=>neg_int q
end
noncomputable def scal:V->V->Bool
 | .non,.non=>true|.non,.int _=>true|.int _,.non=>true|.non,.bl _=>true|.bl _,.non=>true|.non,.str _=>true|.str _,.non=>true
 | .int _,.int _=>true|.bl _,.bl _=>true|.str _,.str _=>true|.byt _,.byt _=>true
 | .int _,.str _=>true|.str _,.int _=>true|.bl _,.str _=>true|.str _,.bl _=>true
 | _,_=>false
def rEq:R2:=fun x y H Q=>scal x y=true/\Q (.bl (decide (x=y))) H
def rNe:R2:=fun x y H Q=>scal x y=true/\Q (.bl (!decide (x=y))) H
def ZgY:decide (V.int i=V.int j)=(i == j):=by
 rw [Bool.eq_iff_iff]
 simp
def Zi0:decide (V.bl i=V.bl j)=(i == j):=by
 rw [Bool.eq_iff_iff]
 simp
def ZgZ:decide (V.str i=V.str j)=(i == j):=by
 rw [Bool.eq_iff_iff]
 simp
def Zha:decide (V.byt i=V.byt j)=(i.toList == j.toList):=by
 rw [Bool.eq_iff_iff]
 cases i
 cases j
 simp
section
variable{a b c:Expr}{ta tb tc:TE}
def Zy(I:Inv X pins σ H s)(q:Q (.bl k) H)(e:k=k'):EP X pins σ Q (.bool k') s:=by
 subst e
 exact ⟨.bl k,H,I,rfl,q⟩
theorem Zpw:OpR X (compareOp .Eq) rEq:=by
 intro pins s σ H x y v u Q I rx ry h
 obtain ⟨hs,q⟩:=h
 cases x with
 | non=>
  cases rx
  cases y with
  | non=>cases ry;exact PySem.EqNone.eq_none_none (Zy I q (by simp))
  | bl j=>cases ry;exact PySem.EqNone.eq_none_bool (Zy I q (by simp))
  | int j=>obtain ⟨t',rfl⟩:=ry;exact PySem.EqNone.eq_none_int (Zy I q (by simp))
  | str j=>obtain ⟨t',rfl⟩:=ry;exact PySem.EqNone.eq_none_str (Zy I q (by simp))
  | _=>exact absurd (show false=true from hs) Bool.false_ne_true
 | bl i=>
  cases rx
  cases y with
  | non=>cases ry;exact PySem.EqNone.eq_bool_none (Zy I q (by simp))
  | bl j=>cases ry;exact eq_bool (Zy I q Zi0)
  | str j=>obtain ⟨t',rfl⟩:=ry;exact PySem.EqMixed.eq_bool_str (Zy I q (by simp))
  | _=>exact absurd (show false=true from hs) Bool.false_ne_true
 | int i=>
  obtain ⟨t,rfl⟩:=rx
  cases y with
  | non=>cases ry;exact PySem.EqNone.eq_int_none (Zy I q (by simp))
  | int j=>obtain ⟨t',rfl⟩:=ry;exact eq_int (Zy I q ZgY)
  | str j=>obtain ⟨t',rfl⟩:=ry;exact PySem.EqMixed.eq_int_str (Zy I q (by simp))
  | _=>exact absurd (show false=true from hs) Bool.false_ne_true
 | str i=>
  obtain ⟨t,rfl⟩:=rx
  cases y with
  | non=>cases ry;exact PySem.EqNone.eq_str_none (Zy I q (by simp))
  | bl j=>cases ry;exact PySem.EqMixed.eq_str_bool (Zy I q (by simp))
  | int j=>obtain ⟨t',rfl⟩:=ry;exact PySem.EqMixed.eq_str_int (Zy I q (by simp))
  | str j=>obtain ⟨t',rfl⟩:=ry;exact eq_str (Zy I q ZgZ)
  | _=>exact absurd (show false=true from hs) Bool.false_ne_true
 | byt i=>
  obtain ⟨t,rfl⟩:=rx
  cases y with
  | byt j=>obtain ⟨t',rfl⟩:=ry;exact PySem.W.eq_bytes (Zy I q Zha)
  | _=>exact absurd (show false=true from hs) Bool.false_ne_true
 | _=>cases y<;>exact absurd (show false=true from hs) Bool.false_ne_true
theorem Zpx:OpR X (compareOp .NotEq) rNe:=by
 intro pins s σ H x y v u Q I rx ry h
 obtain ⟨hs,q⟩:=h
 cases x with
 | non=>
  cases rx
  cases y with
  | non=>cases ry;exact PySem.EqNone.ne_none_none (Zy I q (by simp))
  | bl j=>cases ry;exact PySem.EqNone.ne_none_bool (Zy I q (by simp))
  | int j=>obtain ⟨t',rfl⟩:=ry;exact PySem.EqNone.ne_none_int (Zy I q (by simp))
  | str j=>obtain ⟨t',rfl⟩:=ry;exact PySem.EqNone.ne_none_str (Zy I q (by simp))
  | _=>exact absurd (show false=true from hs) Bool.false_ne_true
 | bl i=>
  cases rx
  cases y with
  | non=>cases ry;exact PySem.EqNone.ne_bool_none (Zy I q (by simp))
  | bl j=>cases ry;exact ne_bool (Zy I q (congrArg not Zi0))
  | str j=>obtain ⟨t',rfl⟩:=ry;exact PySem.EqMixed.ne_bool_str (Zy I q (by simp))
  | _=>exact absurd (show false=true from hs) Bool.false_ne_true
 | int i=>
  obtain ⟨t,rfl⟩:=rx
  cases y with
  | non=>cases ry;exact PySem.EqNone.ne_int_none (Zy I q (by simp))
  | int j=>obtain ⟨t',rfl⟩:=ry;exact ne_int (Zy I q (congrArg not ZgY))
  | str j=>obtain ⟨t',rfl⟩:=ry;exact PySem.EqMixed.ne_int_str (Zy I q (by simp))
  | _=>exact absurd (show false=true from hs) Bool.false_ne_true
 | str i=>
  obtain ⟨t,rfl⟩:=rx
  cases y with
  | non=>cases ry;exact PySem.EqNone.ne_str_none (Zy I q (by simp))
  | bl j=>cases ry;exact PySem.EqMixed.ne_str_bool (Zy I q (by simp))
  | int j=>obtain ⟨t',rfl⟩:=ry;exact PySem.EqMixed.ne_str_int (Zy I q (by simp))
  | str j=>obtain ⟨t',rfl⟩:=ry;exact ne_str (Zy I q (congrArg not ZgZ))
  | _=>exact absurd (show false=true from hs) Bool.false_ne_true
 | byt i=>
  obtain ⟨t,rfl⟩:=rx
  cases y with
  | byt j=>obtain ⟨t',rfl⟩:=ry;exact PySem.W.ne_bytes (Zy I q (congrArg not Zha))
  | _=>exact absurd (show false=true from hs) Bool.false_ne_true
 | _=>cases y<;>exact absurd (show false=true from hs) Bool.false_ne_true
def Zpy:OpR X (compareOp .Lt) (rI0 fun i j=>.bl (decide (i < j))):=opB0 fun _ _ _ _ _ _ _ q=>lt_int q
def Zpz:OpR X (compareOp .LtE) (rI0 fun i j=>.bl (decide (i<=j))):=opB0 fun _ _ _ _ _ _ _ q=>le_int q
def Zp0:OpR X (compareOp .Gt) (rI0 fun i j=>.bl (decide (j < i))):=opB0 fun _ _ _ _ _ _ _ q=>gt_int q
def Zp1:OpR X (compareOp .GtE) (rI0 fun i j=>.bl (decide (j<=i))):=opB0 fun _ _ _ _ _ _ _ q=>ge_int q
def nomark(b:Expr)(h:autoParam (op≠.In) Q7)(h2:autoParam (op≠.NotIn) Q7):behindInMarks op b=false:=by
 have e1:(op == CmpOp.In)=false:=by cases op<;>first|rfl|exact absurd rfl h
 have e2:(op == CmpOp.NotIn)=false:=by cases op<;>first|rfl|exact absurd rfl h2
 cases b<;>simp [behindInMarks,e1,e2]
def Zls(ho:OpR X (compareOp op) r)(ha:PE X a ta)(hb:PE X b tb)(hm:behindInMarks op b=false):PE X (.Compare a [op] [b] pos) (tOp r ta tb):=by
 intro pins s σ H Q I h
 exact wpAny_Compare1 (binT ha hb I h fun v u s2 x y H2 I2 rx ry q=>ho pins s2 σ H2 x y v u Q I2 rx ry q) hm
def Zp2(t:TE):TT:=fun σ H Q=>t σ H fun x H'=>∃ k,x=.bl k/\Q k H'
def Zlt(ho:OpR X (compareOp op) r)(ha:PE X a ta)(hb:PE X b tb)(hm:behindInMarks op b=false):PT X (.Compare a [op] [b] pos) (Zp2 (tOp r ta tb)):=by
 intro pins s σ H Q I h
 refine wpAny_isTrue_Compare1 (thn (ha pins s σ H _ I h) fun v s1 ⟨x,H1,I1,r1,q1⟩=>thn (hb pins s1 σ H1 _ I1 q1) fun u s2 ⟨y,H2,I2,r2,q2⟩=>
  thn (ho pins s2 σ H2 x y v u _ I2 r1 r2 q2) fun c s3 ⟨z,H3,I3,r3,k,e,q3⟩=>?_) hm
 subst e
 cases r3
 exact wpAny_truthy_bool ⟨H3,I3,q3⟩
def Zi1(r r':R2)(ta tb tc:TE):TE:=fun σ H Q=>ta σ H fun x H1=>tb σ H1 fun y H2=>r x y H2 fun z H3=>∃ k,z=.bl k/\
 (if k=true then tc σ H3 fun w' H4=>r' y w' H4 Q else Q (.bl false) H3)
theorem Zj6(ho:OpR X (compareOp op) r)(ho':OpR X (compareOp op') r')(ha:PE X a ta)(hb:PE X b tb)(hc:PE X c tc)
 (hm:lastMarks [op,op'] [b,c]=false:=by with_unfolding_all rfl):PE X (.Compare a [op,op'] [b,c] pos) (Zi1 r r' ta tb tc):=by
 intro pins s σ H Q I h
 refine Compare_chain (thn (ha pins s σ H _ I h) fun v s1 ⟨x,H1,I1,r1,q1⟩=>chain_link (thn (hb pins s1 σ H1 _ I1 q1) fun u s2 ⟨y,H2,I2,r2,q2⟩=>
  thn (ho pins s2 σ H2 x y v u _ I2 r1 r2 q2) fun d s3 ⟨z,H3,I3,r3,k,e,q3⟩=>?_)) hm
 subst e
 cases r3
 refine wpAny_truthy_bool ?_
 cases k with
 | false=>exact ite_ff ⟨.bl false,H3,I3,rfl,q3⟩
 | true=>exact ite_tt (chain_last (thn (hc pins s3 σ H3 _ I3 q3) fun w' s4 z90=>by obtain ⟨z',H4,I4,r4,q4⟩:=z90;exact ho' pins s4 σ H4 y z' u w' Q I4 r2 r4 q4))
def TruV(K:Fg)(x:V)(H:Hp)(k:Bool):Prop:=
 match x with
 | .non=>k=false
 | .bl b=>k=b
 | .int i=>k=(i != 0)
 | .str y=>y.length<=sizeLine/\k=((y.length:Int) != 0)
 | .byt y=>y.size<=sizeLine/\k=((y.size:Int) != 0)
 | .ref p=>(∃ xs,SqL K H p xs/\k=!xs.isEmpty)\/(∃ xs,SqT K H p xs/\k=!xs.isEmpty)\/∃ kvs,H p=some (.dK kvs)/\k=!kvs.isEmpty
 | _=>False
def ZhF(r:KV kvs vs):(!vs.isEmpty)=!kvs.isEmpty:=by
 cases r<;>rfl
def Zeh(r:Vals xs its):(!its.toArray.isEmpty)=!xs.isEmpty:=by
 cases r<;>simp
def Zdb:(sizeLine:Nat) < 2 ^ 63:=by rw [sizeLine_eq];decide
theorem Zno:TruR X (fun x H Q=>∃ k,TruV X.K x H k/\Q k H):=by
 intro pins s σ H x v Q I rx h
 obtain ⟨k,e,q⟩:=h
 have hl:=Zdb
 have hs:sizeLine=16777216:=sizeLine_eq
 cases x with
 | non=>
  cases rx
  have e':k=false:=e
  subst e'
  exact truthy_none ⟨H,I,q⟩
 | bl b=>
  cases rx
  have e':k=b:=e
  subst e'
  exact wpAny_truthy_bool ⟨H,I,q⟩
 | int i=>
  obtain ⟨t,rfl⟩:=rx
  have e':k=(i != 0):=e
  subst e'
  exact PySem.P.truthy_int ⟨H,I,q⟩
 | str y=>
  obtain ⟨t,rfl⟩:=rx
  obtain ⟨hy,e'⟩:y.length<=sizeLine/\k=((y.length:Int) != 0):=e
  subst e'
  exact PySem.P.truthy_str (by omega) ⟨H,I.tok _,q⟩
 | byt y=>
  obtain ⟨t,rfl⟩:=rx
  obtain ⟨hy,e'⟩:y.size<=sizeLine/\k=((y.size:Int) != 0):=e
  subst e'
  exact PySem.W.truthy_bytes (by omega) ⟨H,I.tok _,q⟩
 | ref p=>
  cases rx
  have e':(∃ xs,SqL X.K H p xs/\k=!xs.isEmpty)\/(∃ xs,SqT X.K H p xs/\k=!xs.isEmpty)\/∃ kvs,H p=some (.dK kvs)/\k=!kvs.isEmpty:=e
  rcases e' with ⟨xs,hx,e'⟩|⟨xs,hx,e'⟩|⟨kvs,hx,e'⟩
  . subst e'
    obtain ⟨its,r,pl,hz⟩:=I.list hx
    have hlen:=r.length
    exact wpAny_truthy_list pl.isList (by simp only [size_toArray];omega) ⟨H,I.tok _,by rw [Zeh r];exact q⟩
  . subst e'
    obtain ⟨its,r,pl,hz⟩:=I.tuple hx
    have hlen:=r.length
    exact truthy_tuple pl (by simp only [size_toArray];omega) ⟨H,I.tok _,by rw [Zeh r];exact q⟩
  . subst e'
    obtain ⟨hz,hS,vs,r,m⟩:kvs.length<=sizeLine/\(p == sysModules)=false/\∃ vs,KV kvs vs/\s.heap.DictOf (ZY X.prog X.w) p vs:=I.hok p _ hx
    have hlen:kvs.length=vs.length:=Paired.length r
    exact wpAny_truthy_dict hS m (by omega) ⟨H,I.tok _,by rw [ZhF r];exact q⟩
 | _=>exact (show False from e).elim
def Zj7(ha:PE X a ta)(he:∀ whole,isTrue a X.env whole=(do let v <- whole;standAt a.pos;holding [v] (truthy v))):
 PT X a (fun σ H Q=>ta σ H fun x H'=>∃ k,TruV X.K x H' k/\Q k H'):=by
 intro pins s σ H Q I h
 exact isTrue_plain (thn (ha pins s σ H _ I h) fun v s1 z90=>by obtain ⟨x,H1,I1,r1,q1⟩:=z90;exact Zno pins s1 σ H1 x v Q I1 r1 q1) (he _)
theorem Zei(r:Vals [x] us):∃ u,us=[u]/\RelV x u:=by
 cases r with
 | cons r1 r2=>cases r2;exact ⟨_,rfl,r1⟩
theorem Zp3(r:Vals [x,y] us):∃ u w',us=[u,w']/\RelV x u/\RelV y w':=by
 cases r with
 | cons r1 r2=>
  cases r2 with
  | cons r3 r4=>cases r4;exact ⟨_,_,rfl,r1,r3⟩
def Zi2(hc:X.calm=true):ZZ X (.builtin "max") (fun xs H Q=>∃ i j,xs=[.int i,.int j]/\Q (.int (if j > i then j else i)) H):=by
 intro pins s σ H xs us Q I r h
 obtain ⟨i,j,rfl,q⟩:=h
 obtain ⟨u,w',rfl,⟨t,rfl⟩,⟨t',rfl⟩⟩:=Zp3 r
 refine max_two_ints (I.ok.hd hc) fun h' tk k=>⟨_,H,I.kept k,?_,q⟩
 by_cases hj:j > i
 . rw [if_pos hj,if_pos hj];exact ⟨_,rfl⟩
 . rw [if_neg hj,if_neg hj];exact ⟨_,rfl⟩
def Zfb:ZZ X (.type "int") (fun xs H Q=>(∃ i,xs=[.int i]/\Q (.int i) H)\/∃ k,xs=[.bl k]/\Q (.int (if k then 1 else 0)) H):=by
 intro pins s σ H xs us Q I r h
 rcases h with ⟨i,rfl,q⟩|⟨k,rfl,q⟩
 . obtain ⟨u,rfl,t,rfl⟩:=Zei r
   exact call_int_int ⟨.int i,H,I,⟨_,rfl⟩,q⟩
 . obtain ⟨u,rfl,r1⟩:=Zei r
   cases r1
   exact call_int_bool ⟨.int (if k then 1 else 0),H,I.tok _,⟨_,rfl⟩,q⟩
end
structure ObjM(h:Heap)(x dx C:Addr)(mA:SO):Prop where
 obj:h.get? x=some (instObj C dx)
 ns:h.Ns1 dx mA
 ne:dx≠x
def Zfc{h:Heap}{dx:Addr}(n:h.Ns1 dx mA):∃ od,h.get? dx=some od/\∀ name,lookIn name od=some (mA name):=by
 obtain ⟨o,es,ep,ho,hd,hk,_,hm⟩:=n
 refine ⟨o,ho,fun name=>?_⟩
 have e:=hm name
 unfold nsFind findBy at e
 rw [<- Array.find?_toList] at e
 unfold lookIn
 rw [hd]
 dsimp only
 split
 . rename_i y q
   rw [q] at e
   exact congrArg some e
 . rename_i q
   rw [q] at e
   have a:es.toList.any (·.refKey)=false:=by
    rw [List.any_eq_false]
    intro y hy
    obtain ⟨z,t,hkey⟩:=hk y (Array.mem_toList_iff.mp hy)
    simp [DictEntry.refKey,hkey]
   have a':¬ es.toList.any (·.refKey)=true:=by rw [a];exact Bool.false_ne_true
   rw [if_neg a']
   exact congrArg some e
def ObjM.look(I:ObjM h x dx C mA):∃ od,PySem.W.InstAt h x (instObj C dx) C (some od)/\∀ name,lookIn name od=some (mA name):=
 let ⟨od,ho,hl⟩:=Zfc I.ns
 ⟨od,⟨I.obj,rfl,rfl,ho⟩,hl⟩
section
variable{w:World}{A:Around}{E:VS}{K:Fg}{x dx C f:Addr}{v:Value}
def Zlu(X:K.In s.heap)(I:ObjM s.heap x dx C mA)(hg:plainGet K C name=true)(hh:hasDictIn K C=true)
 (ha:findIn K (.ref C) name=some none) (hv:mA name=some v) (hv':handedIn v=true) (h:Q v { s with toks:=s.toks+1 }):
 wpAny (model prog w) A (getAttr (.ref x) name expr) Q E s:=by
 obtain ⟨od,J,hl⟩:=I.look
 exact PySem.W.get_value X J (plainGet_of hg).1 (PySem.W.findObj_own hh ha rfl (by rw [hl,hv])) hv' h
def Zj8(X:K.In s.heap)(I:ObjM s.heap x dx C mA)(hg:plainGet K C name=true)
 (hf:findIn K (.ref C) name=some (some (.ref f))) (ht:isFn K (.ref f)=true) (hv:mA name=none) (h:Q (.ref f,[.ref x]) s):
 wpAny (model prog w) A (getMethod (.ref x) name pl) Q E s:=by
 obtain ⟨od,J,hl⟩:=I.look
 exact PySem.W.method_fn X J (plainGet_of hg).1 (plainGet_of hg).2 hf (beq_iff_eq.mp ht) (by show (lookIn name od).map (·.isSome)=some false;rw [hl,hv];rfl) h
def Zlv(X:K.In s.heap)(I:ObjM s.heap x dx C mA)
 (hs:findIn K (.ref C) "__setattr__"=some (some (.builtin "object.__setattr__"))) (hp:plainOver K C=true) (ht:takerIn K C name=some none) (hh:hasDictIn K C=true)
 (hw:PySem.Within mA ns) (hsz:ns.length<=sizeLine)
 (h:∀ h',ObjM h' x dx C (fun y=>if y=name then some v else mA y)->Heap.SameBut dx s.heap h'->Q () { s with heap:=h',toks:=s.toks+2 }):
 wpAny (model prog w) A (setAttr (.ref x) name v) Q E s:=by
 obtain ⟨od,J,hl⟩:=I.look
 refine PySem.W.set_plain X J hs (PySem.W.osa_open (s:={ s with toks:=s.toks+1 }) (r:=none) X J hp ht fun b=>?_)
 obtain ⟨cd,hc,hd'⟩:=PySem.W.any_some hh
 have hx:s.heap.get? x=some ⟨.ref C,some dx,.plain,#[]⟩:=I.obj
 refine wpAny_bind (wpAny_pure (wpAny_bind (wpAny_bind (wpAny_loadPart hx (wpAny_bind (here (s:={ s with toks:=s.toks+1 }) (looks_clsIn X hc) ?_))))))
 rw [hd']
 refine wpAny_pure (a:=some dx) (wpAny_bind (wpAny_pure (wpAny_bind ?_)))
 refine wpAny_nsSet1 (s:={ s with toks:=s.toks+1 }) I.ns fun h' hn2 hs2=>?_
 obtain ⟨oD,esD,epD,hoD,hdD,hcD⟩:=hn2.count (PySem.Within.cons name v hw)
 refine wpAny_bind (wpAny_lookBehind hoD (by rw [hdD];exact pastItsLine_dict (le_trans hcD (by rw [length_cons];omega))) ?_)
 exact wpAny_pure (h _ ⟨(hs2.2 _ (Ne.symm I.ne)).trans I.obj,hn2,I.ne⟩ hs2)
def ZfE(X:K.In s.heap)(hm:makesIn K C=true)
 (hi:findIn K (.ref C) "__init__"=some (some (.ref f))) (hf:typeIn K (.ref f)=some (.type "function"))
 (h:codeAny (model prog w) (A.under (.builtin "type.__call__" ⟨.ref C::vs,kw⟩)) (.call (.ref f) ⟨.ref (s.heap.objs.size+1)::vs,kw⟩) (PySem.W.InitBack (s.heap.objs.size+1) R)
  { s with heap:=(s.heap.push emptyDict).push (instObj C s.heap.objs.size) }):
 codeAny (model prog w) A (.call (.ref C) ⟨vs,kw⟩) R s:=by
 obtain ⟨hh,g,d,t,os⟩:=s
 exact PySem.W.make_core (PySem.W.makes_of X hm) (looks_findIn X hi) (fun self=>PySem.W.bind_fn X self hf) (.inl rfl) h
end
noncomputable def putF(f:Str)(v:V):List (Str×V)->List (Str×V)
 | []=>[(f,v)]
 | (g,x)::r=>if g=f then (g,v)::r else (g,x)::putF f v r
theorem Zc2(f g:Str)(v:V):∀ fs:List (Str×V),(putF f v fs).lookup g=if g=f then some v else fs.lookup g
 | []=>by
  show List.lookup g [(f,v)]=_
  by_cases h:g=f
  . have hb:(g == f)=true:=beq_iff_eq.mpr h
    simp only [List.lookup,hb,if_pos h]
  . have hb:(g == f)=false:=beq_eq_false_iff_ne.mpr h
    simp only [List.lookup,hb,if_neg h]
 | (k,x)::r=>by
  have ih:=Zc2 f g v r
  rw [show putF f v ((k,x)::r)=(if k=f then (k,v)::r else (k,x)::putF f v r) from rfl]
  by_cases hk:k=f
  . rw [if_pos hk]
    by_cases h:g=k
    . have hb:(g == k)=true:=beq_iff_eq.mpr h
      simp only [List.lookup,hb,if_pos (h.trans hk)]
    . have hb:(g == k)=false:=beq_eq_false_iff_ne.mpr h
      simp only [List.lookup,hb,if_neg (fun e:g=f=>h (e.trans hk.symm))]
  . rw [if_neg hk]
    by_cases h:g=k
    . have hb:(g == k)=true:=beq_iff_eq.mpr h
      simp only [List.lookup,hb,if_neg (fun e:g=f=>hk (h.symm.trans e))]
    . have hb:(g == k)=false:=beq_eq_false_iff_ne.mpr h
      simp only [List.lookup,hb]
      exact ih
theorem ZbJ(f:Str)(v:V):∀ fs:List (Str×V),f∈(putF f v fs).map (·.1)/\∀ g,g∈fs.map (·.1)->g∈(putF f v fs).map (·.1)
 | []=>⟨by simp [putF],fun g h=>by simp at h⟩
 | (k,x)::r=>by
  obtain ⟨i1,i2⟩:=ZbJ f v r
  rw [show putF f v ((k,x)::r)=(if k=f then (k,v)::r else (k,x)::putF f v r) from rfl]
  by_cases hk:k=f
  . rw [if_pos hk]
    subst hk
    exact ⟨by simp,fun g h=>by simpa using h⟩
  . rw [if_neg hk]
    refine ⟨?_,fun g h=>?_⟩
    . rw [map_cons]
      exact mem_cons_of_mem _ i1
    . rw [map_cons] at h ⊢
      rcases List.mem_cons.mp h with e|e
      . exact List.mem_cons.mpr (.inl e)
      . exact mem_cons_of_mem _ (i2 g e)
theorem Zc3(f:Str)(v:V):∀ fs:List (Str×V),(putF f v fs).length<=fs.length+1
 | []=>by simp [putF]
 | (k,x)::r=>by
  have ih:=Zc3 f v r
  rw [show putF f v ((k,x)::r)=(if k=f then (k,v)::r else (k,x)::putF f v r) from rfl]
  by_cases hk:k=f
  . rw [if_pos hk,length_cons,length_cons];omega
  . rw [if_neg hk,length_cons,length_cons];omega
theorem RelO.some_of(r:RelO (some v) o):∃ u,o=some u/\RelV v u:=by
 cases o with
 | none=>exact (show False from r).elim
 | some u=>exact ⟨u,rfl,r⟩
theorem RelO.none_of(r:RelO none o):o=none:=by
 cases o with
 | none=>rfl
 | some u=>exact (show False from r).elim
theorem Zfd(r:RelV v u):handedIn u=true:=by
 cases v with
 | non=>cases (show u=Value.none from r);rfl
 | bl b=>cases (show u=Value.bool b from r);rfl
 | int i=>obtain ⟨t,e⟩:=(show ∃ t,u=Value.int i t from r);cases e;rfl
 | str x=>obtain ⟨t,e⟩:=(show ∃ t,u=Value.str x t from r);cases e;rfl
 | byt b=>obtain ⟨t,e⟩:=(show ∃ t,u=Value.bytes b t from r);cases e;rfl
 | flt b=>obtain ⟨t,e⟩:=(show ∃ t,u=Value.float b t from r);cases e;rfl
 | ref a=>cases (show u=Value.ref a from r);rfl
 | ty n=>cases (show u=Value.type n from r);rfl
section
def Zd3(hok:HOk P w H h)(e:H a=some (.ins C dx fs)):∃ mA,ObjM h a dx C mA/\(∀ f,RelO (fs.lookup f) (mA f))/\PySem.Within mA (fs.map (·.1))/\fs.length<=1000/\H dx=some (.own a):=by
 obtain ⟨d,z,ne,ob,mA,n,r,q⟩:=(show Z2 P w H h a (.ins C dx fs) from hok a _ e)
 exact ⟨mA,⟨ob,n,ne⟩,r,q,z,d⟩
end
structure Cls(K:Fg)(C:Addr):Prop where
 pg:plainGet K C Str.empty=true
 hd:hasDictIn K C=true
 po:plainOver K C=true
 sa:findIn K (.ref C) "__setattr__"=some (some (.builtin "object.__setattr__"))
def Cls.get{K:Fg}{C:Addr}(c:Cls K C)(f:Str):plainGet K C f=true:=c.pg
def ZT(K:Fg)(C:Addr)(f:Str):Prop:=findIn K (.ref C) f=some none
def ZT.taker{K:Fg}{C:Addr}{f:Str}(n:ZT K C f):takerIn K C f=some none:=by
 unfold takerIn
 rw [show findIn K (.ref C) f=some none from n]
 rfl
structure Meth(K:Fg)(C:Addr)(m:Str)(f:Addr):Prop where
 at_:findIn K (.ref C) m=some (some (.ref f))
 fn:isFn K (.ref f)=true
 kp:keepIn K (.ref f)=true
section
def ZhG(I:Inv X pins σ H s)(e:H a=some (.ins C dx fs))(c:Cls X.K C)(n:ZT X.K C f)(l:fs.lookup f=some v)
 (h:∀ u s',Inv X pins σ H s'->RelV v u->Q u s'):wpAny (model X.prog X.w) A (getAttr (.ref a) f b) Q E s:=by
 obtain ⟨mA,O,r,_,_,_⟩:=Zd3 I.hok e
 obtain ⟨u,hu,ru⟩:=RelO.some_of (v:=v) (o:=mA f) (by rw [<- l];exact r f)
 exact Zlu I.kIn O (c.get f) c.hd n hu (Zfd ru) (h u _ (I.tok _) ru)
def Zej(I:Inv X pins σ H s)(e:H a=some (.ins C dx fs))(c:Cls X.K C)(k:Meth X.K C m g)(l:fs.lookup m=none)
 (h:Q (.ref g,[.ref a]) s):wpAny (model X.prog X.w) A (getMethod (.ref a) m pl) Q E s:=by
 obtain ⟨mA,O,r,_,_,_⟩:=Zd3 I.hok e
 have hn:mA m=none:=RelO.none_of (by rw [<- l];exact r m)
 exact Zj8 I.kIn O (c.get m) k.at_ k.fn hn h
def ZhH(I:Inv X pins σ H s)(e:H a=some (.ins C dx fs))(c:Cls X.K C)(n:ZT X.K C f)(hl:fs.length < 1000)(ry:RelV y u)
 (h:∀ s',Inv X pins σ (upd H a (.ins C dx (putF f y fs))) s'->Q () s'):wpAny (model X.prog X.w) A (setAttr (.ref a) f u) Q E s:=by
 obtain ⟨mA,O,r,wi,_,ho⟩:=Zd3 I.hok e
 have hz:(fs.map (·.1)).length<=sizeLine:=by rw [length_map,sizeLine_eq];omega
 refine Zlv I.kIn O c.sa c.po n.taker c.hd wi hz fun h' O' sb=>h _ ?_
 have hd:∃ o,h'.get? dx=some o:=let ⟨o,_,_,e',_⟩:=O'.ns;⟨o,e'⟩
 refine I.write (x:=a) (e:=dx) (by rw [e];exact True.intro) (.inr ho) (fun b q hb z=>(sb.2 b hb).trans z) hd ?_
 refine ⟨by rw [Zj O.ne];exact ho,?_,O.ne,O'.obj,_,O'.ns,fun g=>?_,fun g hg=>?_⟩
 . have:=Zc3 f y fs;omega
 . show RelO ((putF f y fs).lookup g) (if g=f then some u else mA g)
   rw [Zc2]
   by_cases q:g=f
   . rw [if_pos q,if_pos q];exact ry
   . rw [if_neg q,if_neg q];exact r g
 . by_cases q:g=f
   . rw [q];exact (ZbJ f y fs).1
   . refine (ZbJ f y fs).2 g (wi g fun z=>hg ?_)
     show (if g=f then some u else mA g)=none
     rw [if_neg q];exact z
def Inv.made(I:Inv X pins σ H s):Inv X pins σ (upd (upd H s.heap.objs.size (.own (s.heap.objs.size+1))) (s.heap.objs.size+1) (.ins C s.heap.objs.size []))
 { s with heap:=(s.heap.push emptyDict).push (instObj C s.heap.objs.size) }:=by
 have e1:(s.heap.push emptyDict).get? s.heap.objs.size=some emptyDict:=Heap.get?_push_size s.heap rfl
 have e2:((s.heap.push emptyDict).push (instObj C s.heap.objs.size)).get? (s.heap.objs.size+1)=some (instObj C s.heap.objs.size):=by
  have:=Heap.get?_push_size (s.heap.push emptyDict) (o:=instObj C s.heap.objs.size) rfl
  rwa [Heap.size_push] at this
 have e3:(s.heap.push emptyDict).Ns s.heap.objs.size (fun _=>none):=⟨emptyDict,#[],_,e1,rfl,(fun e he=>absurd he (by simp)),fun _=>rfl⟩
 have I1:=I.laid (a:=s.heap.objs.size) (o:=.own (s.heap.objs.size+1)) (h':=s.heap.push emptyDict) (t':=s.toks) (fun b u q=>Heap.get?_push_of_some _ q) (Nat.le_refl _) ⟨_,e1⟩
 refine I1.laid (a:=s.heap.objs.size+1) (o:=.ins C s.heap.objs.size []) (t':=s.toks) (fun b u q=>Heap.get?_push_of_some _ q) (Nat.le_of_eq (Heap.size_push _ _)) ?_
 have ne:s.heap.objs.size≠s.heap.objs.size+1:=ne_of_lt (Nat.lt_succ_self _)
 refine ⟨by rw [Zj ne,Zk],zero_le _,ne,e2,fun _=>none,(Heap.Ns1.of_empty e3).at fun o q=>Heap.get?_push_of_some _ q,fun _=>True.intro,fun y hy=>absurd rfl hy⟩
def Zhb(hb:attributeBase e f env (eval e env)=eval e env)
 (h:wpAny (model prog w) A (eval e env) (fun o s₁=>wpAny (model prog w) A (getAttr o f true) Q E s₁) E s):wpAny (model prog w) A (eval (.Attribute e f pos) env) Q E s:=
 Attribute_any_ h (by rw [arm_eval_Attribute,hb])
end
def tFld(K:Fg)(ta:TE)(f:Str):TE:=fun σ H Q=>ta σ H fun x H1=>∃ a C dx fs v,x=.ref a/\H1 a=some (.ins C dx fs)/\Cls K C/\ZT K C f/\fs.lookup f=some v/\Q v H1
def sFld(K:Fg)(ta tv:TE)(f:Str):TS:=fun D σ H=>tv σ H fun y H1=>ta σ H1 fun x H2=>∃ a C dx fs,x=.ref a/\H2 a=some (.ins C dx fs)/\Cls K C/\ZT K C f/\fs.length < 1000/\
 D.nx σ (upd H2 a (.ins C dx (putF f y fs)))
section
def Znp(he:PE X e ta)(hb:attributeBase e f X.env (eval e X.env)=eval e X.env):PE X (.Attribute e f pos) (tFld X.K ta f):=by
 intro pins s σ H Q I h
 refine Zhb hb (thn (he pins s σ H _ I h) fun u s1 z0=>?_)
 obtain ⟨x,H1,I1,rx,a,C,dx,fs,v,ex,ea,c,n,l,q⟩:=z0
 subst ex
 obtain rfl:u=Value.ref a:=rx
 exact ZhG I1 ea c n l fun u' s2 I2 ru=>⟨v,H1,I2,ru,q⟩
def Znq(ha:PE X o ta)(hv:PE X value tv)(hs:swapsWith value (some (.Attribute o f pos')) pos.line X.env=pure false):PS X (.Assign [.Attribute o f pos'] value pos) (sFld X.K ta tv f):=by
 intro pins s σ H D I h
 refine plainObj_wpAny_Assign_Attribute (thn (hv pins s σ H _ I h) fun u s1 ⟨y,H1,I1,ry,q⟩=>thn (ha pins s1 σ H1 _ I1 q) fun ov s2 z90=>?_) hs
 obtain ⟨x,H2,I2,rx,a,C,dx,fs,ex,ea,c,n,l,q2⟩:=z90
 subst ex
 obtain rfl:ov=Value.ref a:=rx
 exact ZhH I2 ea c n l ry fun s3 I3=>⟨σ,_,I3,q2⟩
end
section
inductive TyOf(K:Fg)(H:Hp):V->Value->Prop where
 | non:TyOf K H .non (.type "NoneType")
 | bl (x:Bool):TyOf K H (.bl x) (.type "bool")
 | int (i:Int):TyOf K H (.int i) (.type "int")
 | str (x:Str):TyOf K H (.str x) (.type "str")
 | flt (x:UInt64):TyOf K H (.flt x) (.type "float")
 | lst {a:Addr} {xs:List V} (e:H a=some (.lst xs)):TyOf K H (.ref a) (.type "list")
 | frz {a:Addr} {o:Obj} {xs:List V} (e:H a=some (.frz o (.lst xs))):TyOf K H (.ref a) (.type "list")
 | tup {a:Addr} {xs:List V} (e:H a=some (.tup xs)):TyOf K H (.ref a) (.type "tuple")
 | dK {a:Addr} {kvs:List (Key×V)} (e:H a=some (.dK kvs)):TyOf K H (.ref a) (.type "dict")
 | dT {a:Addr} {kvs:List (List Key×V)} (e:H a=some (.dT kvs)):TyOf K H (.ref a) (.type "dict")
 | ins {a C dx:Addr} {fs:List (Str×V)} (e:H a=some (.ins C dx fs)) (cl:Cls K C) (ha:findIn K (.ref C) "__class__"=some (some (.builtin "object.__class__")))
  (hn:specialIn K (.builtin "object.__class__") "__get__"=some (some (.builtin "getset_descriptor.__get__"))) (htk:takesIn K (.builtin "object.__class__")=some true)
  (hm:mroIn K C (.type "object")=some true):TyOf K H (.ref a) (.ref C)
theorem Zi3(I:Inv X pins σ H s)(rx:RelV x u)(ty:TyOf X.K H x t)(e:kitOne X.K t c=some b)(h:∀ tk,Q (.bool b) { s with toks:=tk }):
 wpAny (model X.prog X.w) A (call (.builtin "isinstance") [u,c]) Q E s:=by
 cases ty with
 | non=>cases (show u=Value.none from rx);exact kia_one PySem.W.kitx_none I.kIn True.intro e (fun z=>nomatch z) h
 | bl y=>cases (show u=Value.bool y from rx);exact kia_one PySem.W.kitx_bool I.kIn True.intro e (fun z=>nomatch z) h
 | int i=>obtain ⟨t,q⟩:=(show ∃ t,u=Value.int i t from rx);cases q;exact kia_one PySem.W.kitx_int I.kIn True.intro e (fun z=>nomatch z) h
 | str y=>obtain ⟨t,q⟩:=(show ∃ t,u=Value.str y t from rx);cases q;exact kia_one PySem.W.kitx_str I.kIn True.intro e (fun z=>nomatch z) h
 | flt y=>obtain ⟨t,q⟩:=(show ∃ t,u=Value.float y t from rx);cases q;exact kia_one PySem.W.kitx_float I.kIn True.intro e (fun z=>nomatch z) h
 | @lst a xs ea=>
  cases (show u=Value.ref a from rx)
  obtain ⟨_,_,n,_,h1⟩:=(show Z2 X.prog X.w H s.heap a (.lst xs) from I.hok a _ ea)
  exact kia_one PySem.W.kitx_list I.kIn ⟨_,h1,rfl⟩ e (fun z=>nomatch z) h
 | @frz a ob xs ea=>
  cases (show u=Value.ref a from rx)
  obtain ⟨_,_,_,n,_,h1⟩:=(show Z2 X.prog X.w H s.heap a (.frz ob (.lst xs)) from I.hok a _ ea)
  exact kia_one PySem.W.kitx_list I.kIn ⟨_,h1,rfl⟩ e (fun z=>nomatch z) h
 | @tup a xs ea=>
  cases (show u=Value.ref a from rx)
  obtain ⟨_,_,_,p⟩:=(show Z2 X.prog X.w H s.heap a (.tup xs) from I.hok a _ ea)
  obtain ⟨o,h1,h2,_⟩:=p
  exact kia_one PySem.W.kitx_tuple I.kIn ⟨o,h1,h2⟩ e (fun z=>nomatch z) h
 | @dK a kvs ea=>
  cases (show u=Value.ref a from rx)
  obtain ⟨_,_,vs,_,p⟩:=(show Z2 X.prog X.w H s.heap a (.dK kvs) from I.hok a _ ea)
  obtain ⟨o,es,ep,h1,h2,_⟩:=p
  exact kia_one PySem.W.kitx_dict I.kIn ⟨o,h1,h2.1⟩ e (fun z=>nomatch z) h
 | @dT a kvs ea=>
  cases (show u=Value.ref a from rx)
  obtain ⟨_,_,xs,_,o,es,ep,h1,h2,_⟩:=(show Z2 X.prog X.w H s.heap a (.dT kvs) from I.hok a _ ea)
  exact kia_one PySem.W.kitx_dict I.kIn ⟨o,h1,h2.1⟩ e (fun z=>nomatch z) h
 | @ins a C dx fs ea cl ha hn htk hm=>
  cases (show u=Value.ref a from rx)
  obtain ⟨mA,O,_⟩:=Zd3 I.hok ea
  obtain ⟨od,J,_⟩:=O.look
  exact kia_one (PySem.W.kitx_own (cl.get _) cl.hd ha hn htk hm) I.kIn J e (fun z=>nomatch z) h
end
structure Room(k:Nat)(A:Around):Prop where
 hd:A.handled=none
 dp:A.depth+3 * k+5 < recursionLimit
 un:A.units+16 * k+200 < cLine
 gd:A.guards=some []
def Room.mono(r:Room k A)(h:j<=k):Room j A:=⟨r.hd,by have:=r.dp;omega,by have:=r.un;omega,r.gd⟩
def Room.deeper(r:Room (k+1) A)(env:Env):Room k (A.deeper env):=
 ⟨r.hd,by have:=r.dp;show A.depth+1+3 * k+5 < _;omega,by have:=r.un;show A.units+3+16 * k+200 < _;omega,r.gd⟩
def ZhI{A:Around}{C:Addr}:(A.under (.builtin "type.__call__" ⟨.ref C::us,kw⟩)).depth=A.depth+1:=by
 first|rfl|simp [Around.under,Code.weight,Code.isCreation,Code.isGuard,Code.isCaller,Code.frames,Code.isFrame,guardIds]
def ZhJ{A:Around}{C:Addr}:(A.under (.builtin "type.__call__" ⟨.ref C::us,kw⟩)).units=A.units+1:=by
 first|rfl|simp [Around.under,Code.cUnits,Code.frames,Code.isFrame]
def Zlw{A:Around}{C:Addr}:(A.under (.builtin "type.__call__" ⟨.ref C::us,kw⟩)).guards=A.guards:=by
 cases e:A.guards<;>(first|(simp [Around.under,Code.guards,Code.isGuard,guardIds,pushGuards,e];done)|(show pushGuards _ A.guards=_;rw [e];rfl))
def Room.make(r:Room (k+1) A)(C:Addr)(us:List Value)(kw:List (Str×Value)):Room k (A.under (.builtin "type.__call__" ⟨.ref C::us,kw⟩)):=
 ⟨r.hd,by have:=r.dp;rw [ZhI];omega,by have:=r.un;rw [ZhJ];omega,by rw [Zlw];exact r.gd⟩
def Room.depth(r:Room k A):A.depth < recursionLimit:=by have:=r.dp;omega
def Room.units(r:Room k A):A.units+64 < cLine:=by have:=r.un;omega
def tNil:TA:=fun _ H Q=>Q [] H
def Zek(ta:TE)(tr:TA):TA:=fun σ H Q=>ta σ H fun x H1=>tr σ H1 fun xs H2=>Q (x::xs) H2
section
def ZaL:PA X [] tNil:=fun _ _ _ _ H Q I h=>Calls.spliced_nil ⟨[],H,I,.nil,h⟩
abbrev SE(X:Cx)(e:Expr)(es:List Expr):Prop:=starEach (e::es) X.env=(false,eval e X.env)::starEach es X.env
def ZP(ha:PE X e te)(hr:PA X es t)(hs:autoParam (SE X e es) Q9):PA X (e::es) (Zek te t):=by
 intro pos pins s σ H Q I h
 rw [hs]
 show wpAny _ _ (spliced ((false,eval e X.env)::backTo pos (starEach es X.env))) _ _ s
 refine Calls.spliced_cons (thn (ha pins s σ H _ I h) fun u s1 z0=>?_)
 obtain ⟨x,H1,I1,r1,q1⟩:=z0
 exact thn (hr pos pins s1 σ H1 _ I1 q1) fun us s2 z90=>by obtain ⟨xs,H2,I2,r2,q2⟩:=z90;exact ⟨x::xs,H2,I2,.cons r1 r2,q2⟩
def tTup(t:TA):TE:=fun σ H Q=>t σ H fun xs H1=>xs.length<=sizeLine/\∀ p,H1 p=none->Q (.ref p) (upd H1 p (.tup xs))
def tLst(t:TA):TE:=fun σ H Q=>t σ H fun xs H1=>xs.length<=sizeLine/\∀ p,H1 p=none->Q (.ref p) (upd H1 p (.lst xs))
def Znr{x1}(h:PA X es t):PE X (.Tuple es x1 pos) (tTup t):=by
 intro pins s σ H Q I hq
 refine wpAny_Tuple_spliced (thn (h pos pins s σ H _ I hq) fun us s1 ⟨xs,H1,I1,r,z,q⟩=>⟨by rw [<- r.length];exact z,?_⟩)
 have hf:H1 s1.heap.objs.size=none:=I1.hok.fresh (Nat.le_refl _)
 refine ⟨.ref s1.heap.objs.size,upd H1 s1.heap.objs.size (.tup xs),I1.laid (t':=s1.toks) (fun b u e=>Heap.get?_push_of_some _ e) (Nat.le_refl _) ?_,rfl,q _ hf⟩
 exact ⟨z,us,r,⟨_,Heap.get?_push_size _ rfl,rfl,_,rfl⟩⟩
def Zi4(h:PA X es t):PE X (.List es pos) (tLst t):=by
 intro pins s σ H Q I hq
 refine wpAny_List_spliced (thn (h pos pins s σ H _ I hq) fun us s1 ⟨xs,H1,I1,r,z,q⟩=>⟨by rw [<- r.length];exact z,?_⟩)
 have hf:H1 s1.heap.objs.size=none:=I1.hok.fresh (Nat.le_refl _)
 refine ⟨.ref s1.heap.objs.size,upd H1 s1.heap.objs.size (.lst xs),I1.laid (t':=s1.toks) (fun b u e=>Heap.get?_push_of_some _ e) (Nat.le_refl _) ?_,rfl,q _ hf⟩
 exact ⟨z,us,0,r,Heap.get?_push_size _ rfl⟩
end
abbrev Sp:=List V->Hp->VK->XK->Prop
abbrev CXT:=List Env->Hp->Shared->XK->Value->Shared->Prop
structure Env0(P:Program)(w:World)(K:Fg)(mg:SO)(base:Heap)(A:Around)(outer:List Env)(s:Shared)(H:Hp):Prop where
 frames:A.frames=some outer
 mod:Mod K mg base
 bs:∀ b o,base.get? b=some o->s.heap.get? b=some o/\H b=none
 bsz:base.objs.size<=s.heap.objs.size
 funs:s.heap.FunFrames base outer
 frf:∀ b∈frs outer,H b=none
 hok:HOk P w H s.heap
 bare:AllBare s.gens
def CE(outer:List Env)(P:Program)(w:World)(H:Hp)(s:Shared)(Q:VK)(u:Value)(s':Shared):Prop:=
 ∃ v H',s'.os=s.os/\AllBare s'.gens/\Un (frs outer) [] H H' s.heap s'.heap/\HOk P w H' s'.heap/\RelV v u/\Q v H'
def CR(CX:CXT)(outer:List Env)(P:Program)(w:World)(H:Hp)(s:Shared)(Q:VK)(E:XK)(r:Result)(s':Shared):Prop:=
 match r with
 | .ok (.ret u)=>CE outer P w H s Q u s'
 | .ok _=>False
 | .error e=>CX outer H s E e s'
structure FnOk(P:Program)(w:World)(K:Fg)(mg:SO)(base:Heap)(CX:CXT)(k:Nat)(f:Addr)(fd:FuncData)(ps:List Str)(sp:Sp):Prop where
 len:∀ vs H Q E,sp vs H Q E->vs.length=ps.length
 run:∀(A:Around)(outer:List Env)(s:Shared)(H:Hp)(args:Args)(us:List Value)(vs:List V)(Q:VK)(E:XK),Room k A->Env0 P w K mg base A outer s H->BindsTo s fd args (ps.zip us)->Vals vs us->sp vs H Q E->
  codeAny (model P w) A (.call (.ref f) args) (CR CX outer P w H s Q E) s
structure RoomH(k:Nat)(A:Around):Prop where
 dp:A.depth+3 * k+5 < recursionLimit
 un:A.units+16 * k+200 < cLine
def RoomH.mono{k j:Nat}{A:Around}(r:RoomH k A)(h:j<=k):RoomH j A:=⟨by have:=r.dp;omega,by have:=r.un;omega⟩
def RoomH.units{k:Nat}{A:Around}(r:RoomH k A):A.units+64 < cLine:=by have:=r.un;omega
def Room.hnd{k:Nat}{A:Around}(r:Room k A)(v:Option Value):RoomH k (A.mark v):=⟨r.dp,r.un⟩
structure FnOkH(P:Program)(w:World)(K:Fg)(mg:SO)(base:Heap)(CX:CXT)(k:Nat)(f:Addr)(fd:FuncData)(ps:List Str)(sp:Sp):Prop where
 len:∀ vs H Q E,sp vs H Q E->vs.length=ps.length
 run:∀(p:Addr×Obj×HO)(A:Around)(outer:List Env)(s:Shared)(H:Hp)(args:Args)(us:List Value)(vs:List V)(Q:VK)(E:XK),RoomH k A->A.handled=some (.ref p.1)->Lone p.2.1->H p.1=some (.frz p.2.1 p.2.2)->Env0 P w K mg base A outer s H->BindsTo s fd args (ps.zip us)->Vals vs us->sp vs H Q E->
  codeAny (model P w) A (.call (.ref f) args) (CR CX outer P w H s Q E) s
def Env0.make{P:Program}{w:World}{K:Fg}{A:Around}{outer:List Env}(e:Env0 P w K mg base A outer s H)(C:Addr)(us:List Value)(kw:List (Str×Value)):
 Env0 P w K mg base (A.under (.builtin "type.__call__" ⟨.ref C::us,kw⟩)) outer s H:=⟨by first|exact e.frames|(simpa [Around.under,Code.envs,Code.isFrame,pushEnvs] using e.frames),e.mod,e.bs,e.bsz,e.funs,e.frf,e.hok,e.bare⟩
section
def Inv.env0(I:Inv X pins σ H s):Env0 X.prog X.w X.K X.mg X.base X.A X.stack s H:=
 ⟨I.ok.frames,I.ok.mod,I.bs,le_trans I.ok.bsz I.sz,I.stack,I.stkFree,I.hok,I.bare⟩
def Inv.after(I:Inv X pins σ H s)(h:CE X.stack X.prog X.w H s Q u s'):EP X pins σ Q u s':=by
 obtain ⟨v,H',os,bare,un,hok,r,q⟩:=h
 obtain ⟨hh,g,d,t,os'⟩:=s'
 obtain rfl:os'=s.os:=os
 exact ⟨v,H',I.call (h':=hh) (g':=g) (d':=d) (t':=t) (ch:=[]) un hok bare (fun b z=>absurd z (by simp)),r,q⟩
end
def Zf7(sp:Sp)(dvs:List V)(E:XK)(t:TA):TE:=fun σ H Q=>t σ H fun vs H1=>sp (vs++dvs) H1 Q E
def ZkE(C:Addr)(m:Str)(sp:Sp)(dvs:List V)(E:XK)(ta:TE)(t:TA):TE:=fun σ H Q=>ta σ H fun x H1=>∃ a dx fs,x=.ref a/\H1 a=some (.ins C dx fs)/\fs.lookup m=none/\
 t σ H1 fun vs H2=>sp (x::(vs++dvs)) H2 Q E
def ZkF(C:Addr)(sp:Sp)(dvs:List V)(E:XK)(t:TA):TE:=fun σ H Q=>t σ H fun vs H1=>∀ x dx,H1 x=none->H1 dx=none->dx≠x->
 sp (.ref x::(vs++dvs)) (upd (upd H1 dx (.own x)) x (.ins C dx [])) (fun v H2=>v=.non/\Q (.ref x) H2) E
def Binds(K:Fg)(fd:FuncData)(ps:List Str)(ds:List Value):Prop:=
 ∀(s:Shared)(us:List Value),K.In s.heap->(us++ds).length=ps.length->BindsTo s fd ⟨us,[]⟩ (ps.zip (us++ds))
def Binds.all{K:Fg}{fd:FuncData}(h:∀ us:List Value,us.length=ps.length->bindArgs fd ⟨us,[]⟩=pure (ps.zip us)):Binds K fd ps []:=fun s us _ hl=>by
 rw [append_nil] at hl ⊢
 exact .of_eq (h us hl)
def Passes(CX:CXT)(X:Cx)(E:XK):Prop:=∀(pins:Pn)(σ:St)(H:Hp)(s:Shared)(e:Value)(s':Shared),Inv X pins σ H s->CX X.stack H s E e s'->X.xe e s'
section
theorem Zi5(F:FnOk X.prog X.w X.K X.mg X.base CX k f fd ps sp)(hr:Room k X.A)(hb:Binds X.K fd ps ds)(hd:Vals dvs ds)(hx:Passes CX X E)
 (I:Inv X pins σ H s) (r:Vals vs us) (h:sp (vs++dvs) H Q E):wpAny (model X.prog X.w) X.A (call (.ref f) us) (EP X pins σ Q) X.xe s:=by
 have r2:Vals (vs++dvs) (us++ds):=r.append hd
 have hl:(us++ds).length=ps.length:=by rw [<- r2.length];exact F.len _ _ _ _ h
 refine wpAny_call (codeAny_mono (F.run X.A X.stack s H ⟨us,[]⟩ (us++ds) (vs++dvs) Q E hr I.env0 (hb s us I.kIn hl) r2 h) fun r s' hq=>?_)
 cases r with
 | error e=>exact hx pins σ H s e s' I hq
 | ok fl=>
  cases fl with
  | ret u=>exact I.after hq
  | next=>exact False.elim hq
  | brk=>exact False.elim hq
  | cont=>exact False.elim hq
theorem Zlx(hq:Quiet X)(F:FnOkH X.prog X.w X.K X.mg X.base CX k f fd ps sp)(hr:RoomH k X.A)(hb:Binds X.K fd ps ds)(hd:Vals dvs ds)(hx:Passes CX X E)
 (I:Inv X pins σ H s) (r:Vals vs us) (h:sp (vs++dvs) H Q E):wpAny (model X.prog X.w) X.A (call (.ref f) us) (EP X pins σ Q) X.xe s:=by
 obtain ⟨p,hp,hh,hl0⟩:=hq
 have r2:Vals (vs++dvs) (us++ds):=r.append hd
 have hl:(us++ds).length=ps.length:=by rw [<- r2.length];exact F.len _ _ _ _ h
 refine wpAny_call (codeAny_mono (F.run p X.A X.stack s H ⟨us,[]⟩ (us++ds) (vs++dvs) Q E hr hh hl0 (I.fzd p hp) I.env0 (hb s us I.kIn hl) r2 h) fun r s' hq=>?_)
 cases r with
 | error e=>exact hx pins σ H s e s' I hq
 | ok fl=>
  cases fl with
  | ret u=>exact I.after hq
  | next=>exact False.elim hq
  | brk=>exact False.elim hq
  | cont=>exact False.elim hq
abbrev SFx(X:Cx)(pos:Pos)(es:List Expr):Prop:=(backTo pos (starEach es X.env)).any (·.1)=false
def Zly(F:FnOk X.prog X.w X.K X.mg X.base CX k f fd ps sp)(hr:Room k X.A)(hg:Gl X x)(hm:X.mg x=some (.ref f))(hk:keepIn X.K (.ref f)=true)(hb:Binds X.K fd ps ds)(hd:Vals dvs ds)(hx:Passes CX X E)
 (ha:PA X (e::es) t) (hdb:autoParam ((x == ("__debug__":Str))=false) Q7) (he:autoParam (SE X e es) Q9) (hpl:autoParam (SFx X pos es) Q9):
 PE X (.Call (.Name x p) (e::es) [] pos) (Zf7 sp dvs E t):=by
 intro pins s σ H Q I h
 refine wpAny_Call_Name_kw (ZaQ I hg hm ?_ hdb)
 refine callWith_K (h₀:=X.base) I.ok.mod.kin hk (thn (ha pos pins s σ H _ I h) fun us s1 ⟨vs,H1,I1,r,q⟩=>⟨I1.kIn,?_⟩) he hpl
 exact Zi5 F hr hb hd hx I1 r q
def Zj9(hq:Quiet X)(F:FnOkH X.prog X.w X.K X.mg X.base CX k f fd ps sp)(hr:RoomH k X.A)(hg:Gl X x)(hm:X.mg x=some (.ref f))(hk:keepIn X.K (.ref f)=true)(hb:Binds X.K fd ps ds)(hd:Vals dvs ds)(hx:Passes CX X E)
 (ha:PA X (e::es) t) (hdb:autoParam ((x == ("__debug__":Str))=false) Q7) (he:autoParam (SE X e es) Q9) (hpl:autoParam (SFx X pos es) Q9):
 PE X (.Call (.Name x p) (e::es) [] pos) (Zf7 sp dvs E t):=by
 intro pins s σ H Q I h
 refine wpAny_Call_Name_kw (ZaQ I hg hm ?_ hdb)
 refine callWith_K (h₀:=X.base) I.ok.mod.kin hk (thn (ha pos pins s σ H _ I h) fun us s1 ⟨vs,H1,I1,r,q⟩=>⟨I1.kIn,?_⟩) he hpl
 exact Zlx hq F hr hb hd hx I1 r q
def Zlz(he:PE X o ta)(c:Cls X.K C)(hm:Meth X.K C m f)(F:FnOk X.prog X.w X.K X.mg X.base CX k f fd ps sp)(hr:Room k X.A)(hb:Binds X.K fd ps ds)(hd:Vals dvs ds)(hx:Passes CX X E)(ha:PA X (e::es) t)
 (hst:autoParam (SE X e es) Q9) (hpl:autoParam (SFx X pos es) Q9)
 (ht:autoParam (eval (.Call (.Attribute o m apos) (e::es) [] pos) X.env=(do
  let ov <- eval o X.env
  standAt apos.atName
  let (f,first) <- holding [ov] (getMethod ov m pl)
  callWith pos f first (backTo pos (starEach (e::es) X.env)) (backToKw pos (keywordEach [] X.env)))) Q9):
 PE X (.Call (.Attribute o m apos) (e::es) [] pos) (ZkE C m sp dvs E ta t):=by
 intro pins s σ H Q I h
 refine methodCall_KW (pl:=pl) (thn (he pins s σ H _ I h) fun u s1 z0=>?_) ht
 obtain ⟨x,H1,I1,rx,a,dx,fs,ex,ea,l,q⟩:=z0
 subst ex
 obtain rfl:u=Value.ref a:=rx
 refine Zej I1 ea c hm l ?_
 refine callWith_K (first:=[.ref a]) (h₀:=X.base) I.ok.mod.kin hm.kp (thn (ha pos pins s1 σ H1 _ I1 q) fun us s2 ⟨vs,H2,I2,r,q2⟩=>⟨I2.kIn,?_⟩) hst hpl
 exact Zi5 (us:=.ref a::us) (vs:=.ref a::vs) F hr hb hd hx I2 (.cons rfl r) q2
structure Mk(K:Fg)(C f:Addr):Prop where
 makes:makesIn K C=true
 init:findIn K (.ref C) "__init__"=some (some (.ref f))
 fn:isFn K (.ref f)=true
 kp:keepIn K (.ref C)=true
theorem ZjA(M:Mk X.K C f)(F:FnOk X.prog X.w X.K X.mg X.base CX k f fd ps sp)(hr:Room (k+1) X.A)(hb:Binds X.K fd ps ds)(hd:Vals dvs ds)
 (hx:Passes CX X E) (I:Inv X pins σ H s) (r:Vals vs us)
 (h:∀ x dx,H x=none->H dx=none->dx≠x->sp (.ref x::(vs++dvs)) (upd (upd H dx (.own x)) x (.ins C dx [])) (fun v H2=>v=.non/\Q (.ref x) H2) E):
 wpAny (model X.prog X.w) X.A (call (.ref C) us) (EP X pins σ Q) X.xe s:=by
 have hq:=h (s.heap.objs.size+1) s.heap.objs.size (I.hok.fresh (le_succ _)) (I.hok.fresh (Nat.le_refl _)) (ne_of_lt (Nat.lt_succ_self _))
 have I2:=Inv.made (C:=C) I
 have r2:Vals (V.ref (s.heap.objs.size+1)::(vs++dvs)) (Value.ref (s.heap.objs.size+1)::(us++ds)):=.cons rfl (r.append hd)
 have hl:(Value.ref (s.heap.objs.size+1)::us++ds).length=ps.length:=by
  have e:=r2.length
  rw [F.len _ _ _ _ hq] at e
  exact e.symm
 refine wpAny_call (ZfE (f:=f) I.kIn M.makes M.init (beq_iff_eq.mp M.fn) (codeAny_mono (F.run _ X.stack _ _ ⟨Value.ref (s.heap.objs.size+1)::us,[]⟩ (Value.ref (s.heap.objs.size+1)::(us++ds)) _ _ E (hr.make C us [])
  (I2.env0.make C us []) (hb _ (Value.ref (s.heap.objs.size+1)::us) I2.kIn hl) r2 hq) fun r s' hq'=>?_))
 cases r with
 | error e=>exact hx pins σ _ _ e s' I2 hq'
 | ok fl=>
  cases fl with
  | ret u=>
   obtain ⟨v,H',I3,rv,ev,q3⟩:=I2.after hq'
   subst ev
   exact ⟨rv,⟨V.ref (s.heap.objs.size+1),H',I3,rfl,q3⟩⟩
  | next=>exact False.elim hq'
  | brk=>exact False.elim hq'
  | cont=>exact False.elim hq'
def Zl0(M:Mk X.K C f)(F:FnOk X.prog X.w X.K X.mg X.base CX k f fd ps sp)(hr:Room (k+1) X.A)(hg:Gl X x)(hm:X.mg x=some (.ref C))(hb:Binds X.K fd ps ds)(hd:Vals dvs ds)(hx:Passes CX X E)
 (ha:PA X (e::es) t) (hdb:autoParam ((x == ("__debug__":Str))=false) Q7) (he:autoParam (SE X e es) Q9) (hpl:autoParam (SFx X pos es) Q9):
 PE X (.Call (.Name x p) (e::es) [] pos) (ZkF C sp dvs E t):=by
 intro pins s σ H Q I h
 refine wpAny_Call_Name_kw (ZaQ I hg hm ?_ hdb)
 refine callWith_K (h₀:=X.base) I.ok.mod.kin M.kp (thn (ha pos pins s σ H _ I h) fun us s1 ⟨vs,H1,I1,r,q⟩=>⟨I1.kIn,?_⟩) he hpl
 exact ZjA M F hr hb hd hx I1 r q
end
def PK(X:Cx)(kws:List Keyword)(t:TA):Prop:=
 ∀(pos:Pos)(pins:Pn)(s:Shared)(σ:St)(H:Hp)(Q:List V->Hp->Prop),Inv X pins σ H s->t σ H Q->wpAny (model X.prog X.w) X.A (evalAll ((backToKw pos (keywordEach kws X.env)).map (·.2))) (AP X pins σ Q) X.xe s
section
def Zns:PK X [] tNil:=fun _ _ _ _ H Q I h=>wpAny_evalAll_nil ⟨[],H,I,.nil,h⟩
def Zl1(ha:PE X e te)(hr:PK X kws t):PK X (⟨nm,e,kpos⟩::kws) (Zek te t):=by
 intro pos pins s σ H Q I h
 show wpAny _ _ (evalAll ((do let v <- eval e X.env;standAt pos;pure v)::(backToKw pos (keywordEach kws X.env)).map (·.2))) _ _ s
 refine wpAny_evalAll_cons (wpAny_bind (thn (ha pins s σ H _ I h) fun u s1 ⟨x,H1,I1,r1,q1⟩=>wpAny_bind (wpAny_standAt (wpAny_pure ?_))))
 exact thn (hr pos pins s1 σ H1 _ I1 q1) fun us s2 z90=>by obtain ⟨xs,H2,I2,r2,q2⟩:=z90;exact ⟨x::xs,H2,I2,.cons r1 r2,q2⟩
end
structure FnScope(N P:List Str)(sc:Scope):Prop where
 kind:sc.kind=.function
 co:sc.isCoroutine=false
 gen:sc.isGenerator=false
 nd:N.Nodup
 pre:N.take P.length=P
 par:∀ x∈P,sc.names.lookup x=some .local\/sc.names.lookup x=some .cell
 nofree:∀ y∈sc.names,y.2≠.free
theorem Zfe{x:Str}:∀{binds:List (Str×Value)}{m:SO},(∀ v,(x,v)∉binds)->bindL kindOf binds m x=m x
 | [],_,_=>rfl
 | (n,v)::r,m,h=>by
  unfold bindL
  rw [Zfe fun w hw=>h w (mem_cons_of_mem _ hw)]
  split
  . have:x≠n:=by rintro rfl;exact h v mem_cons_self
    simp [this]
  . rfl
theorem Zff{x:Str}:∀{binds:List (Str×Value)}{m:SO},(∀ v,(x,v)∉binds)->bindC kindOf binds m x=m x
 | [],_,_=>rfl
 | (n,v)::r,m,h=>by
  unfold bindC
  rw [Zff fun w hw=>h w (mem_cons_of_mem _ hw)]
  split
  . rfl
  . have:x≠n:=by rintro rfl;exact h v mem_cons_self
    simp [this]
theorem Zfg{x:Str}{v:Value}:∀{P:List Str}{vs:List Value}{i:Nat}{m:SO},P.Nodup->P[i]?=some x->vs[i]?=some v->kindOf x=some .local->
 bindL kindOf (P.zip vs) m x=some v
 | [],_,_,_,_,h,_,_=>by simp at h
 | _::_,[],_,_,_,_,h,_=>by simp at h
 | p::P,w::vs,0,m,nd,h1,h2,hk=>by
  simp at h1 h2;subst h1;subst h2
  show bindL kindOf ((p,w)::P.zip vs) m p=_
  unfold bindL
  rw [Zfe fun v hv=>(List.nodup_cons.mp nd).1 (of_mem_zip hv).1,if_pos hk]
  simp
 | p::P,w::vs,i+1,m,nd,h1,h2,hk=>by
  show bindL kindOf ((p,w)::P.zip vs) m x=_
  unfold bindL
  exact Zfg (i:=i) (List.nodup_cons.mp nd).2 (by simpa using h1) (by simpa using h2) hk
theorem Zfh{x:Str}{v:Value}:∀{P:List Str}{vs:List Value}{i:Nat}{m:SO},P.Nodup->P[i]?=some x->vs[i]?=some v->kindOf x≠some .local->
 bindC kindOf (P.zip vs) m x=some v
 | [],_,_,_,_,h,_,_=>by simp at h
 | _::_,[],_,_,_,_,h,_=>by simp at h
 | p::P,w::vs,0,m,nd,h1,h2,hk=>by
  simp at h1 h2;subst h1;subst h2
  show bindC kindOf ((p,w)::P.zip vs) m p=_
  unfold bindC
  rw [Zff fun v hv=>(List.nodup_cons.mp nd).1 (of_mem_zip hv).1,if_neg hk]
  simp
 | p::P,w::vs,i+1,m,nd,h1,h2,hk=>by
  show bindC kindOf ((p,w)::P.zip vs) m x=_
  unfold bindC
  exact Zfh (i:=i) (List.nodup_cons.mp nd).2 (by simpa using h1) (by simpa using h2) hk
noncomputable def start(N:List Str)(vs:List V):St:=vs.map some++replicate (N.length - vs.length) none
noncomputable def cxOf(CX:CXT)(P:Program)(w:World)(K:Fg)(mg:SO)(base:Heap)(N:List Str)(qual:Str)(scope:Scope)(f:Addr)(cd:Value)(A:Around)(outer:List Env)(s:Shared)(H:Hp)(E:XK):Cx where
 prog:=P
 w:=w
 K:=K
 mg:=mg
 base:=base
 A:=A.deeper (envOfC qual scope s.heap.objs.size f cd)
 N:=N
 s₀:=s
 H₀:=H
 env:=envOfC qual scope s.heap.objs.size f cd
 outer:=outer
 stack:=envOfC qual scope s.heap.objs.size f cd::outer
 ex:=[]
 calm:=true
 fz:=[]
 fn:=fun _=>true
 pn:=[]
 xe:=fun e s'=>wpAny (model P w) (A.deeper (envOfC qual scope s.heap.objs.size f cd)) (leaving (envOfC qual scope s.heap.objs.size f cd) e) (fun _ s''=>CX outer H s E e s'') (fun e' s''=>CX outer H s E e' s'') s'
def ZcI{sc:Scope}{n:Nat}{x:Str}(h:sc.names.lookup x=some .cell):∃ c,(cellsFrom n sc.names []).lookup x=some c:=by
 have q:=cellsFrom_some sc.names n [] (.inl h)
 exact Option.isSome_iff_exists.mp q
def Zel{b:Bool}{fz:List (Addr×Obj×HO)}{CX:CXT}{P:Program}{w:World}{K:Fg}{f:Addr}{A:Around}{outer:List Env}{E:XK}{vs:List V}
 (S:FnScope N ps scope) (hd:b=true->A.handled=none) (hz:∀ p∈fz,H p.1=some (.frz p.2.1 p.2.2)) (e0:Env0 P w K mg base A outer s H) (hl:vs.length=ps.length) (r:Vals vs us)
 (x:InCallC s s.heap.objs.size (bindL (envOfC qual scope s.heap.objs.size f cd).kindOf (ps.zip us) fun _=>none) (cellsFrom (s.heap.objs.size+1) scope.names []) (bindC (envOfC qual scope s.heap.objs.size f cd).kindOf (ps.zip us) fun _=>none) s1):
 Inv { cxOf CX P w K mg base N qual scope f cd A outer s H E with calm:=b,fz:=fz } [] (start N vs) H s1:=by
 have hpl:ps.length<=N.length:=by have:=congrArg List.length S.pre;rw [length_take] at this;omega
 obtain ⟨h1,tk,rfl,hk⟩:=x.done
 have noA:∀ b:Addr,b∉(cxOf CX P w K mg base N qual scope f cd A outer s H E).ex:=fun b z=>absurd (show b∈([]:List Addr) from z) (by simp)
 refine ⟨⟨e0.mod,S.kind,rfl,rfl,Nat.le_refl _,fun y z c h1 h2=>?_,fun y hy=>?_,fun y c _ h=>?_,hd,Around.frames_deeper e0.frames,.inr ⟨rfl,rfl⟩,fun b z=>absurd z (noA b),e0.bs,e0.bsz,fun b _ _=>noA b,fun b z=>absurd z (noA b),e0.funs,e0.frf⟩,
  rfl,e0.bare,Un.kept hk,⟨_,x.toInCall.ns,fun i y v h1 h2 h3=>?_⟩,fun y c h=>⟨_,x.cell y c h⟩,e0.hok.fresh (Nat.le_refl _),fun y c h=>?_,fun p hp=>absurd (show p∈([]:Pn) from hp) (by simp),e0.hok.kept hk,?_,hz⟩
 . exact name_of_addr x.apart (PySem.mem_of_lookup h1) (PySem.mem_of_lookup h2)
 . have hy:scope.names.lookup y=some .cell\/scope.names.lookup y=some .free:=hy
   rcases hy with hy|hy
   . exact ZcI hy
   . exact absurd rfl (S.nofree _ (PySem.mem_of_lookup hy))
 . exact Nat.le_of_lt (x.above y c (PySem.mem_of_lookup h))
 . have hi:i < vs.length:=by
    unfold start at h2
    by_cases hi:i < vs.length
    . exact hi
    . rw [List.getElem?_append_right (by simpa using hi)] at h2
      rw [List.getElem?_replicate] at h2
      split at h2<;>cases h2
   have ha:vs[i]?=some v:=by
    unfold start at h2
    rw [List.getElem?_append_left (by simpa using hi),getElem?_map] at h2
    cases e:vs[i]? with
    | none=>rw [e] at h2;cases h2
    | some a=>rw [e] at h2;cases h2;rfl
   obtain ⟨u,hu,rv⟩:=r.get ha
   have hp:ps[i]?=some y:=by
    rw [<- S.pre,List.getElem?_take_of_lt (by omega)];exact h1
   have ndP:ps.Nodup:=by rw [<- S.pre];exact S.nd.sublist (List.take_sublist _ _)
   refine ⟨u,rv,?_⟩
   rcases S.par y (List.mem_of_getElem? hp) with k|k
   . exact .inl ⟨k,Zfg ndP hp hu k⟩
   . obtain ⟨c,e⟩:=ZcI (n:=s.heap.objs.size+1) k
     refine .inr ⟨.inl k,c,e,?_⟩
     have q:=x.cell y c e
     rw [Zfh ndP hp hu (by show scope.names.lookup y≠_;rw [k];decide)] at q
     exact q
 . exact e0.hok.fresh (Nat.le_of_lt (x.above y c (PySem.mem_of_lookup h)))
 . unfold start
   show _=N.length
   rw [length_append,length_map,length_replicate]
   omega
def Zfi{CX:CXT}{P:Program}{w:World}{K:Fg}{f:Addr}{A:Around}{outer:List Env}{E:XK}{vs:List V}
 (S:FnScope N ps scope) (hd:A.handled=none) (e0:Env0 P w K mg base A outer s H) (hl:vs.length=ps.length) (r:Vals vs us)
 (x:InCallC s s.heap.objs.size (bindL (envOfC qual scope s.heap.objs.size f cd).kindOf (ps.zip us) fun _=>none) (cellsFrom (s.heap.objs.size+1) scope.names []) (bindC (envOfC qual scope s.heap.objs.size f cd).kindOf (ps.zip us) fun _=>none) s1):
 Inv (cxOf CX P w K mg base N qual scope f cd A outer s H E) [] (start N vs) H s1:=Zel (b:=true) (fz:=[]) S (fun _=>hd) (fun _ h=>nomatch h) e0 hl r x
theorem Zp4{CX:CXT}{P:Program}{w:World}{K:Fg}{k:Nat}{f:Addr}{kV:Value}{od:Option Addr}
 {osl:Array (Option Value)} {N ps:List Str} {sp:Sp} (lk:K.lookup f=some ⟨oc,od,.func (fnOf name qual params body scope dV kV doc pm an cdv ct),osl⟩) (hcd:codeIn K cdv qual=true) (S:FnScope N ps scope)
 (len:∀ vs H Q E,sp vs H Q E->vs.length=ps.length)
 (hbody:∀(A:Around)(outer:List Env)(s:Shared)(H:Hp)(vs:List V)(Q:VK)(E:XK),Room k (A.deeper (envOfC qual scope s.heap.objs.size f cdv))->sp vs H Q E->
  ∃ t,PSs (cxOf CX P w K mg base N qual scope f cdv A outer s H E) body t/\t { nx:=fun _ H'=>Q .non H',rt:=Q } (start N vs) H):
 FnOk P w K mg base CX (k+1) f (fnOf name qual params body scope dV kV doc pm an cdv ct) ps sp:=by
 refine ⟨len,fun A outer s H args us vs Q E hr e0 hb r hsp=>?_⟩
 have hl:=len _ _ _ _ hsp
 have KX:K.In s.heap:=e0.mod.kin.keeps fun b o e=>(e0.bs b o e).1
 have lim:s.heap.NoLimit:=e0.mod.nolimit.keeps fun b o e=>(e0.bs b o e).1
 have hkind:∀ y∈ps.zip us,scope.names.lookup y.1=some .local\/(scope.names.lookup y.1=some .cell/\((cellsFrom (s.heap.objs.size+1) scope.names []).lookup y.1).isSome=true):=fun z90 hy=>by
  obtain ⟨n,v⟩:=z90
  rcases S.par n (of_mem_zip hy).1 with q|q
  . exact .inl q
  . exact .inr ⟨q,cellsFrom_some _ _ _ (.inl q)⟩
 refine codeAny_call_function hr.depth (KX _ _ lk) rfl S.co S.gen rfl (codeRec_of KX hcd) (hb _ _ _ _ ?_)
 refine wpAny_newFunctionEnv_cells S.kind hkind fun env he s1 x=>?_
 subst he
 refine ⟨lim.keeps x.toInCall.keep,codeAny_func ?_⟩
 obtain ⟨t,ht,hq⟩:=hbody A outer s H vs Q E (hr.deeper _) hsp
 have I:Inv (cxOf CX P w K mg base N qual scope f cdv A outer s H E) [] (start N vs) H s1:=Zfi S hr.hd e0 hl r x
 refine wpAny_mono (ht [] s1 (start N vs) H _ I hq) (fun fl s' hs=>?_) fun e s' hs=>hs
 have fin:∀{σ':St}{H':Hp}{v:V}{u:Value},Inv (cxOf CX P w K mg base N qual scope f cdv A outer s H E) [] σ' H' s'->RelV v u->Q v H'->CE outer P w H s Q u s':=
  fun{σ' H' v u} J rv q=>⟨v,H',J.os,J.bare,J.base,J.hok,rv,q⟩
 cases fl with
 | ret u=>
  obtain ⟨v,σ',H',J,rv,q⟩:=hs
  exact fin J rv q
 | next=>
  obtain ⟨σ',H',J,q⟩:=hs
  exact fin (v:=V.non) (u:=Value.none) J rfl q
 | brk=>
  obtain ⟨_,_,_,q⟩:=hs
  exact False.elim q
 | cont=>
  obtain ⟨_,_,_,q⟩:=hs
  exact False.elim q
theorem Znt{CX:CXT}{P:Program}{w:World}{K:Fg}{k:Nat}{f:Addr}{kV:Value}{od:Option Addr}
 {osl:Array (Option Value)} {N ps:List Str} {sp:Sp} (lk:K.lookup f=some ⟨oc,od,.func (fnOf name qual params body scope dV kV doc pm an cdv ct),osl⟩) (hcd:codeIn K cdv qual=true) (S:FnScope N ps scope)
 (len:∀ vs H Q E,sp vs H Q E->vs.length=ps.length)
 (hbody:∀(A:Around)(outer:List Env)(s:Shared)(H:Hp)(vs:List V)(Q:VK)(E:XK)(p:Addr×Obj×HO),RoomH k (A.deeper (envOfC qual scope s.heap.objs.size f cdv))->A.handled=some (.ref p.1)->Lone p.2.1->sp vs H Q E->
  ∃ t,PSs ({ cxOf CX P w K mg base N qual scope f cdv A outer s H E with calm:=false,fz:=[p] }) body t/\t { nx:=fun _ H'=>Q .non H',rt:=Q } (start N vs) H):
 FnOkH P w K mg base CX (k+1) f (fnOf name qual params body scope dV kV doc pm an cdv ct) ps sp:=by
 refine ⟨len,fun p A outer s H args us vs Q E hr hh hl0 hf e0 hb r hsp=>?_⟩
 have hl:=len _ _ _ _ hsp
 have KX:K.In s.heap:=e0.mod.kin.keeps fun b o e=>(e0.bs b o e).1
 have lim:s.heap.NoLimit:=e0.mod.nolimit.keeps fun b o e=>(e0.bs b o e).1
 have hkind:∀ y∈ps.zip us,scope.names.lookup y.1=some .local\/(scope.names.lookup y.1=some .cell/\((cellsFrom (s.heap.objs.size+1) scope.names []).lookup y.1).isSome=true):=fun z90 hy=>by
  obtain ⟨n,v⟩:=z90
  rcases S.par n (of_mem_zip hy).1 with q|q
  . exact .inl q
  . exact .inr ⟨q,cellsFrom_some _ _ _ (.inl q)⟩
 refine codeAny_call_function (by have:=hr.dp;omega) (KX _ _ lk) rfl S.co S.gen rfl (codeRec_of KX hcd) (hb _ _ _ _ ?_)
 refine wpAny_newFunctionEnv_cells S.kind hkind fun env he s1 x=>?_
 subst he
 refine ⟨lim.keeps x.toInCall.keep,codeAny_func ?_⟩
 obtain ⟨t,ht,hq⟩:=hbody A outer s H vs Q E p ⟨by have:=hr.dp;show A.depth+1+3 * k+5 < _;omega,by have:=hr.un;show A.units+3+16 * k+200 < _;omega⟩ hh hl0 hsp
 have I:Inv ({ cxOf CX P w K mg base N qual scope f cdv A outer s H E with calm:=false,fz:=[p] }) [] (start N vs) H s1:=Zel (b:=false) (fz:=[p]) S (fun z=>nomatch z) (fun q hq=>by cases List.mem_singleton.mp hq;exact hf) e0 hl r x
 refine wpAny_mono (ht [] s1 (start N vs) H _ I hq) (fun fl s' hs=>?_) fun e s' hs=>hs
 have fin:∀{σ':St}{H':Hp}{v:V}{u:Value},Inv ({ cxOf CX P w K mg base N qual scope f cdv A outer s H E with calm:=false,fz:=[p] }) [] σ' H' s'->RelV v u->Q v H'->CE outer P w H s Q u s':=
  fun{σ' H' v u} J rv q=>⟨v,H',J.os,J.bare,J.base,J.hok,rv,q⟩
 cases fl with
 | ret u=>
  obtain ⟨v,σ',H',J,rv,q⟩:=hs
  exact fin J rv q
 | next=>
  obtain ⟨σ',H',J,q⟩:=hs
  exact fin (v:=V.non) (u:=Value.none) J rfl q
 | brk=>
  obtain ⟨_,_,_,q⟩:=hs
  exact False.elim q
 | cont=>
  obtain ⟨_,_,_,q⟩:=hs
  exact False.elim q
section
variable{x:Str}{p:Pos}{e:Expr}{es:List Expr}{t:TA}{id T:String}{r:List V->Hp->VK->Prop}
def tCB(r:List V->Hp->VK->Prop)(t:TA):TE:=fun σ H Q=>t σ H fun vs H1=>r vs H1 Q
def ZcJ(hc:ZZ X (.builtin id) r)(hg:Gl X x)(hm:X.mg x=none)(hv:bootBuiltins x=some (.builtin id))(ha:PA X (e::es) t)(hn:autoParam (x≠"__name__") Q7)(hdb:autoParam ((x == ("__debug__":Str))=false) Q7)
 (he:autoParam (SE X e es) Q9) (hpl:autoParam (SFx X pos es) Q9):PE X (.Call (.Name x p) (e::es) [] pos) (tCB r t):=by
 intro pins s σ H Q I h
 refine wpAny_Call_Name_kw (Zbr I hg hm hv ?_ hn hdb)
 exact PyProof.Rows.callWith_builtin1 (thn (ha pos pins s σ H _ I h) fun us s1 z90=>by obtain ⟨vs,H1,I1,r1,q1⟩:=z90;exact hc pins s1 σ H1 vs us Q I1 r1 q1) he hpl
def Zi6(hc:ZZ X (.type T) r)(hg:Gl X x)(hm:X.mg x=none)(hv:bootBuiltins x=some (.type T))(ha:PA X (e::es) t)(hn:autoParam (x≠"__name__") Q7)(hdb:autoParam ((x == ("__debug__":Str))=false) Q7)
 (he:autoParam (SE X e es) Q9) (hpl:autoParam (SFx X pos es) Q9):PE X (.Call (.Name x p) (e::es) [] pos) (tCB r t):=by
 intro pins s σ H Q I h
 refine wpAny_Call_Name_kw (Zbr I hg hm hv ?_ hn hdb)
 exact PyProof.Rows.callWith_type1 (thn (ha pos pins s σ H _ I h) fun us s1 z90=>by obtain ⟨vs,H1,I1,r1,q1⟩:=z90;exact hc pins s1 σ H1 vs us Q I1 r1 q1) he hpl
end
end L2
namespace HT
open PySem PyProof.Rows
section
variable{prog:Program}{w:World}{A:Around}{E:VS}{s:Shared}
noncomputable def sIx(n d:Nat):Option Int->Nat
 | none=>d
 | some v=>if v < 0 then (v+(n:Int)).toNat else min v.toNat n
def Zc8(n d k:Nat):sIx n d (some (k:Int))=min k n:=by
 show (if (k:Int) < 0 then ((k:Int)+(n:Int)).toNat else min (k:Int).toNat n)=min k n
 rw [if_neg (by omega),toNat_natCast]
end
end HT
namespace L2
open PySem PySem.Spec PyProof.Rows
variable{X:Cx}{H:Hp}{pos:Pos}{s:Shared}{pins:Pn}{ys:List V}{its':List Value}
abbrev TO:=St->Hp->(Option Int->Hp->Prop)->Prop
def PO(X:Cx)(e:Option Expr)(t:TO):Prop:=
 ∀(pins:Pn)(s:Shared)(σ:St)(H:Hp)(Q:Option Int->Hp->Prop),Inv X pins σ H s->t σ H Q->
  wpAny (model X.prog X.w) X.A (evalPart e X.env) (fun u s'=>∃ o H',Inv X pins σ H' s'/\IsPart u o/\Q o H') X.xe s
noncomputable def Zl2:TO:=fun _ H Q=>Q none H
noncomputable def Zp5(t:TE):TO:=fun σ H Q=>t σ H fun x H1=>∃ i,x=.int i/\Q (some i) H1
section
variable{e:Expr}{te:TE}{lo hi:Option Expr}{tl th:TO}{p2:Pos}
def Zl3:PO X none Zl2:=by
 intro pins s σ H Q I h
 rw [evalPart_none]
 exact wpAny_pure ⟨none,H,I,.none,h⟩
def Zl4(h:PE X e te):PO X (some e) (Zp5 te):=by
 intro pins s σ H Q I hw
 rw [evalPart_some]
 refine thn (h pins s σ H _ I hw) fun u s1 z0=>?_
 obtain ⟨x,H1,I1,r1,q1⟩:=z0
 obtain ⟨i,rfl,q⟩:=q1
 obtain ⟨t,rfl⟩:=r1
 exact ⟨some i,H1,I1,.int i t,q⟩
def SlR(X:Cx)(r:V->Option Int->Option Int->Hp->VK->Prop):Prop:=
 ∀(pins:Pn)(s:Shared)(σ:St)(H:Hp)(x:V)(v vl vu:Value)(lo hi:Option Int)(sl:Addr)(Q:VK),Inv X pins σ H s->RelV x v->s.heap.IsSliceOf sl vl vu .none->IsPart vl lo->IsPart vu hi->r x lo hi H Q->
  ∃ T id,typeLookup (.type T) "__getitem__"=pure (some (.builtin id))/\s.TypeIs v T/\wpAny (model X.prog X.w) X.A (getItem v (.ref sl)) (EP X pins σ Q) X.xe s
def tSl(r:V->Option Int->Option Int->Hp->VK->Prop)(te:TE)(tl th:TO):TE:=fun σ H Q=>te σ H fun x H1=>tl σ H1 fun l H2=>th σ H2 fun u H3=>r x l u H3 Q
def ZjB(hr:SlR X r)(he:PE X e te)(hl:PO X lo tl)(hu:PO X hi th):PE X (.Subscript e (.Slice lo hi none p2) pos) (tSl r te tl th):=by
 intro pins s σ H Q I h
 refine Subscript_ (thn (he pins s σ H _ I h) fun v s1 z0=>?_)
 obtain ⟨x,H1,I1,r1,q1⟩:=z0
 refine wpAny_Slice (thn (hl pins s1 σ H1 _ I1 q1) fun vl s2 ⟨l,H2,I2,pl,q2⟩=>thn (hu pins s2 σ H2 _ I2 q2) fun vu s3 z90=>?_)
 obtain ⟨u,H3,I3,pu,q3⟩:=z90
 rw [evalPart_none]
 refine wpAny_pure ?_
 have I4:Inv X pins σ H3 { s3 with heap:=s3.heap.push { cls:=.type "slice",data:=.fields #[vl,vu,.none] } }:=I3.kept (t':=s3.toks) fun b ob q=>Heap.get?_push_of_some _ q
 obtain ⟨T,id,hT,ht,hg⟩:=hr pins { s3 with heap:=s3.heap.push { cls:=.type "slice",data:=.fields #[vl,vu,.none] } } σ H3 x v vl vu l u s3.heap.objs.size Q I4 r1 (Heap.IsSliceOf.new ..) pl pu q3
 show wpAny (model X.prog X.w) X.A (subscriptTail e (.Slice lo hi none p2) v (.ref s3.heap.objs.size)) (EP X pins σ Q) X.xe { s3 with heap:=s3.heap.push { cls:=.type "slice",data:=.fields #[vl,vu,.none] } }
 exact tail_any (ops:=[.ref s3.heap.objs.size,v]) ht hT hg (by with_unfolding_all rfl)
noncomputable def cutV(xs:List V)(lo hi:Option Int):List V:=(xs.drop (HT.sIx xs.length 0 lo)).take (HT.sIx xs.length xs.length hi - HT.sIx xs.length 0 lo)
def Zg8(xs:List V)(lo hi:Option Int):(cutV xs lo hi).length<=xs.length:=by
 unfold cutV
 rw [length_take,length_drop]
 omega
end
noncomputable def ixN(n:Nat)(i:Int):Option Nat:=if 0<=i then (if i < n then some i.toNat else none) else if -(n:Int)<=i then some (i+n).toNat else none
noncomputable def atI{α:Type}(xs:List α)(i:Int):Option α:=(ixN xs.length i).bind fun j=>xs[j]?
def Zhc(h:ixN n i=some j):seqIndex? i n=some j/\j < n/\-(n:Int)<=i/\i < n:=by
 unfold ixN at h
 by_cases h0:0<=i
 . rw [if_pos h0] at h
   by_cases h1:i < n
   . rw [if_pos h1] at h
     have e:i.toNat=j:=Option.some.inj h
     exact ⟨by rw [seqIndex_of h0 h1,e],by omega,by omega,h1⟩
   . rw [if_neg h1] at h;cases h
 . rw [if_neg h0] at h
   by_cases h1:-(n:Int)<=i
   . rw [if_pos h1] at h
     have e:(i+n).toNat=j:=Option.some.inj h
     exact ⟨by rw [seqIndex_neg (by omega) h1,e],by omega,h1,by omega⟩
   . rw [if_neg h1] at h;cases h
theorem Zhd(h:atI xs i=some v):∃ j,seqIndex? i xs.length=some j/\xs[j]?=some v/\j < xs.length/\-(xs.length:Int)<=i/\i < xs.length:=by
 unfold atI at h
 cases e:ixN xs.length i with
 | none=>rw [e] at h;cases h
 | some j=>
  rw [e] at h
  obtain ⟨h1,h2,h3,h4⟩:=Zhc e
  exact ⟨j,h1,h,h2,h3,h4⟩
def Zhe(b:Expr):Prop:=∀ o i,subscripted b false o i=operate [o,i] (getItem o i)
def IxR(X:Cx)(r:R2):Prop:=
 ∀(value slice:Expr)(pins:Pn)(s:Shared)(σ:St)(H:Hp)(x y:V)(v u:Value)(Q:VK),Inv X pins σ H s->RelV x v->RelV y u->r x y H Q->
  subscripted slice false v u=operate [v,u] (getItem v u)->wpAny (model X.prog X.w) X.A (subscriptTail value slice v u) (EP X pins σ Q) X.xe s
def MtR(X:Cx)(id:String)(r:V->List V->Hp->VK->Prop):Prop:=
 ∀(pins:Pn)(s:Shared)(σ:St)(H:Hp)(x:V)(xs:List V)(v:Value)(us:List Value)(Q:VK),Inv X pins σ H s->RelV x v->Vals xs us->r x xs H Q->
  wpAny (model X.prog X.w) X.A (call (.builtin id) (v::us)) (EP X pins σ Q) X.xe s
section
variable{a b:Expr}{ta tb:TE}
def Zp6(hr:IxR X r)(ha:PE X a ta)(hb:PE X b tb)(hs:Zhe b):PE X (.Subscript a b pos) (tOp r ta tb):=by
 intro pins s σ H Q I h
 exact Subscript_ (binT ha hb I h fun v u s2 x y H2 I2 rx ry q=>hr a b pins s2 σ H2 x y v u Q I2 rx ry q (hs _ _))
def rIxL(K:Fg):R2:=fun x y H Q=>∃ p xs i v,x=.ref p/\y=.int i/\SqL K H p xs/\atI xs i=some v/\Q v H
def rIxT(K:Fg):R2:=fun x y H Q=>∃ p xs i v,x=.ref p/\y=.int i/\SqT K H p xs/\atI xs i=some v/\Q v H
def Zhf:IxR X (rIxL X.K):=by
 intro value slice pins s σ H x y v u Q I rx ry h hs
 obtain ⟨p,xs,i,z,rfl,rfl,hq,he,q⟩:=h
 cases rx
 obtain ⟨t,rfl⟩:=ry
 obtain ⟨its,r,pl,hz⟩:=I.list hq
 obtain ⟨j,h1,h2,h3,h4,h5⟩:=Zhd he
 obtain ⟨w,ew,rw'⟩:=r.get h2
 have hl:=r.length
 have hn:=Zdb
 have fin:EP X pins σ Q w s:=⟨z,H,I,rw',q⟩
 by_cases h0:0<=i
 . have hj:i.toNat=j:=by
    rw [seqIndex_of h0 h5] at h1
    exact Option.some.inj h1
   exact item_listR pl.isList h0 (by omega) (by rw [hj];simpa using ew) fin hs
 . have hj:(i+(its.toArray.size:Int)).toNat=j:=by
    rw [seqIndex_neg (by omega) h4] at h1
    rw [size_toArray,<- hl]
    exact Option.some.inj h1
   exact subscriptTail_builtinR (x:=w) pl.isList.typeIs slot_list_getitem.lookup
    (wpAny_getItem_list_neg (Q:=fun r s'=>r=w/\EP X pins σ Q r s') pl.isList (by omega) (by rw [size_toArray]<;>omega) (by omega) (by rw [hj];simpa using ew) ⟨rfl,fin⟩) hs
def Zi7:IxR X (rIxT X.K):=by
 intro value slice pins s σ H x y v u Q I rx ry h hs
 obtain ⟨p,xs,i,z,rfl,rfl,hq,he,q⟩:=h
 cases rx
 obtain ⟨t,rfl⟩:=ry
 obtain ⟨its,r,pl,hz⟩:=I.tuple hq
 obtain ⟨j,h1,h2,h3,h4,h5⟩:=Zhd he
 obtain ⟨w,ew,rw'⟩:=r.get h2
 have hl:=r.length
 have hn:=Zdb
 have fin:EP X pins σ Q w s:=⟨z,H,I,rw',q⟩
 exact subscriptTail_builtinR (x:=w) pl.typeIs slot_tuple_getitem.lookup
  (getItem_tuple (j:=j) (Q:=fun r s'=>r=w/\EP X pins σ Q r s') pl (by omega) (by omega) (by rw [size_toArray,<- hl];exact h1) (by simpa using ew) ⟨rfl,fin⟩) hs
def ZhK(its:List Value)(n j:Nat)(u:Value):Obj.mapSeq (·.setIfInBounds j u) { cls:=.type "list",data:=.seq its.toArray n }={ cls:=.type "list",data:=.seq (its.set j u).toArray n }:=by
 simp [Obj.mapSeq]
def Inv.lst(I:Inv X pins σ H s)(h:H p=some (.lst xs)):
 ∃(its:List Value)(n:Nat),Vals xs its/\s.heap.get? p=some { cls:=.type "list",data:=.seq its.toArray n }/\xs.length<=sizeLine:=by
 obtain ⟨z,its,n,r,e⟩:=I.hok p _ h
 exact ⟨its,n,r,e,z⟩
def Inv.lstUpd{σ:St}{p:Addr}{xs:List V}{its:List Value}{n n':Nat}{f:Obj->Obj}(I:Inv X pins σ H s)(h:H p=some (.lst xs))
 (ho:s.heap.get? p=some { cls:=.type "list",data:=.seq its.toArray n }) (hf:f { cls:=.type "list",data:=.seq its.toArray n }={ cls:=.type "list",data:=.seq its'.toArray n' }) (r:Vals ys its') (hz:ys.length<=sizeLine) (t:Nat):
 Inv X pins σ (upd H p (.lst ys)) { s with heap:=s.heap.update p f,toks:=t }:=by
 have e:(s.heap.update p f).get? p=some { cls:=.type "list",data:=.seq its'.toArray n' }:=by
  rw [Heap.get?_update_self f ho (by rw [hf]<;>rfl),hf]
 refine I.write (x:=p) (e:=p) (by rw [h];trivial) (.inl rfl) (fun b u hb q=>(Heap.get?_update_other _ _ (Ne.symm hb)).trans q) ⟨_,e⟩ ?_
 exact ⟨hz,its',n',r,e⟩
def ZkG:V->V->V->Hp->(Hp->Prop)->Prop:=fun o i v H Q=>∃ p xs k j,o=.ref p/\i=.int k/\H p=some (.lst xs)/\ixN xs.length k=some j/\Q (upd H p (.lst (xs.set j v)))
def ZjC:PSet X ZkG:=by
 intro pins s σ H o i v ov iv u Q I ro ri rv h
 obtain ⟨p,xs,k,j,rfl,rfl,hp,hj,q⟩:=h
 cases ro
 obtain ⟨t,rfl⟩:=ri
 obtain ⟨its,n,r,ho,hz⟩:=I.lst hp
 obtain ⟨h1,h2,h3,h4⟩:=Zhc hj
 have hl:=r.length
 have hn:=Zdb
 have I':Inv X pins σ (upd H p (.lst (xs.set j v))) { s with heap:=s.heap.update p (Obj.mapSeq (·.setIfInBounds j u)) }:=
  I.lstUpd hp ho (ZhK its n j u) (r.set rv j) (by rw [List.length_set];exact hz) s.toks
 by_cases h0:0<=k
 . have hk:k.toNat=j:=by
    rw [seqIndex_of h0 h4] at h1
    exact Option.some.inj h1
   exact PySem.W.ki_setAt ho h0 (by omega) (by rw [size_toArray,<- hl];exact h4) (by rw [hk];exact ⟨_,I',q⟩)
 . have hk:(k+(its.toArray.size:Int)).toNat=j:=by
    rw [seqIndex_neg (by omega) h3] at h1
    rw [size_toArray,<- hl]
    exact Option.some.inj h1
   exact PySem.W.ki_setBack ho (by omega) (by rw [size_toArray,<- hl];exact h3) (by omega) (by rw [hk];exact ⟨_,I',q⟩)
def ZfF(lo hi:Option Int)(n:Nat):(sliceBounds lo hi none n).1=((HT.sIx n 0 lo:Nat):Int)/\(sliceBounds lo hi none n).2.1=((HT.sIx n n hi:Nat):Int)/\(sliceBounds lo hi none n).2.2=1:=by
 refine ⟨?_,?_,rfl⟩
 . cases lo with
   | none=>simp [sliceBounds,HT.sIx]
   | some i=>
    simp only [sliceBounds,HT.sIx,Option.getD_none,show (1:Int) > 0 by decide,if_true]
    by_cases h:i < 0
    . simp only [h,if_true]<;>omega
    . simp only [h,if_false]<;>omega
 . cases hi with
   | none=>simp [sliceBounds,HT.sIx]
   | some i=>
    simp only [sliceBounds,HT.sIx,Option.getD_none,show (1:Int) > 0 by decide,if_true]
    by_cases h:i < 0
    . simp only [h,if_true]<;>omega
    . simp only [h,if_false]<;>omega
def Zf4(its:List Value)(lo hi:Option Int):slicePick its.toArray lo hi none=((its.drop (HT.sIx its.length 0 lo)).take (HT.sIx its.length its.length hi - HT.sIx its.length 0 lo)).toArray:=by
 obtain ⟨h1,h2,h3⟩:=ZfF lo hi its.toArray.size
 unfold slicePick
 rw [h1,h2,h3]
 simp only [sliceRange_one,pick_run,size_toArray]<;>rfl
def rSlL(K:Fg):V->Option Int->Option Int->Hp->VK->Prop:=fun x lo hi H Q=>∃ a xs,x=.ref a/\SqL K H a xs/\∀ p,H p=none->Q (.ref p) (upd H p (.lst (cutV xs lo hi)))
def Zhg:SlR X (rSlL X.K):=by
 intro pins s σ H x v vl vu lo hi sl Q I rx hs pl pu h
 obtain ⟨a,xs,rfl,hx,q⟩:=h
 cases rx
 obtain ⟨its,r,ht,hz⟩:=I.list hx
 have hlen:=r.length
 refine ⟨"list",_,slot_list_getitem.lookup,ht.isList.typeIs,?_⟩
 refine wpAny_getItem_list_slice ht.isList hs pl pu .none (by simp) ?_ (by rw [size_toArray]<;>omega)
 rw [Zf4,<- hlen]
 refine ⟨.ref s.heap.objs.size,_,I.laid (t':=s.toks) (o:=.lst (cutV xs lo hi)) (fun b ob q=>Heap.get?_push_of_some _ q) (Nat.le_refl _) ?_,rfl,q _ (I.hok.fresh (Nat.le_refl _))⟩
 exact ⟨le_trans (Zg8 xs lo hi) hz,_,0,(r.drop (HT.sIx xs.length 0 lo)).take (HT.sIx xs.length xs.length hi - HT.sIx xs.length 0 lo),Heap.get?_push_size _ rfl⟩
noncomputable def ZbX:V->Bool
 | .non=>true
 | .bl _=>true
 | .int _=>true
 | .str _=>true
 | _=>false
noncomputable def eqV:V->V->Bool
 | .non,.non=>true
 | .bl a,.bl b=>a == b
 | .bl a,.int b=>(if a then 1 else 0) == b
 | .int a,.bl b=>a == (if b then 1 else 0)
 | .int a,.int b=>a == b
 | .str a,.str b=>a == b
 | _,_=>false
theorem Znu(ry:RelV y u)(rx:RelV x v)(fy:ZbX y=true)(fx:ZbX x=true):SeqAt.EqAt A s u v (eqV y x):=by
 cases y with
 | non=>
  cases ry
  cases x with
  | non=>cases rx;exact SeqAt.EqAt.same _
  | bl b=>cases rx;exact SeqAt.EqAt.none_bool b
  | int b=>obtain ⟨t,rfl⟩:=rx;exact SeqAt.EqAt.none_int b t
  | str b=>obtain ⟨t,rfl⟩:=rx;exact SeqAt.EqAt.none_str b t
  | _=>exact absurd (show false=true from fx) Bool.false_ne_true
 | bl a=>
  cases ry
  cases x with
  | non=>cases rx;exact SeqAt.EqAt.bool_none a
  | bl b=>cases rx;exact SeqAt.EqAt.bool_bool a b
  | int b=>obtain ⟨t,rfl⟩:=rx;exact SeqAt.EqAt.bool_int a b t
  | str b=>obtain ⟨t,rfl⟩:=rx;exact SeqAt.EqAt.bool_str a b t
  | _=>exact absurd (show false=true from fx) Bool.false_ne_true
 | int a=>
  obtain ⟨t',rfl⟩:=ry
  cases x with
  | non=>cases rx;exact SeqAt.EqAt.int_none a t'
  | bl b=>cases rx;exact SeqAt.EqAt.int_bool a t' b
  | int b=>obtain ⟨t,rfl⟩:=rx;exact SeqAt.EqAt.int_int a t' b t
  | str b=>obtain ⟨t,rfl⟩:=rx;exact SeqAt.EqAt.int_str a t' b t
  | _=>exact absurd (show false=true from fx) Bool.false_ne_true
 | str a=>
  obtain ⟨t',rfl⟩:=ry
  cases x with
  | non=>cases rx;exact SeqAt.EqAt.str_none a t'
  | bl b=>cases rx;exact SeqAt.EqAt.str_bool a t' b
  | int b=>obtain ⟨t,rfl⟩:=rx;exact SeqAt.EqAt.str_int a t' b t
  | str b=>obtain ⟨t,rfl⟩:=rx;exact SeqAt.EqAt.str_str a t' b t
  | _=>exact absurd (show false=true from fx) Bool.false_ne_true
 | _=>exact absurd (show false=true from fy) Bool.false_ne_true
noncomputable def eqU(x:V)(u:Value):Bool:=match u with
 | .none=>eqV .non x
 | .bool b=>eqV (.bl b) x
 | .int i _=>eqV (.int i) x
 | .str z _=>eqV (.str z) x
 | _=>false
theorem Zi8(r:RelV y u)(f:ZbX y=true):eqU x u=eqV y x:=by
 cases y with
 | non=>cases r;rfl
 | bl b=>cases r;rfl
 | int i=>obtain ⟨t,rfl⟩:=r;rfl
 | str z=>obtain ⟨t,rfl⟩:=r;rfl
 | _=>exact absurd (show false=true from f) Bool.false_ne_true
theorem ZeH:∀{xs:List V}{us:List Value},Vals xs us->xs.all ZbX=true->us.any (eqU x)=xs.any fun y=>eqV y x
 | _,_,.nil,_=>rfl
 | y::xs,u::us,.cons r t,f=>by
  rw [List.all_cons,and_eq_true] at f
  rw [any_cons,any_cons,Zi8 r f.1,ZeH t f.2]
termination_by structural a=>a
theorem ZdU(rx:RelV x v)(fx:ZbX x=true):∀{xs:List V}{us:List Value},Vals xs us->xs.all ZbX=true->∀ u∈us,SeqAt.EqAt A s u v (eqU x u)
 | _,_,.nil,_=>fun u hu=>by cases hu
 | y::xs,u::us,.cons r t,f=>fun u' hu=>by
  rw [List.all_cons,and_eq_true] at f
  rcases List.mem_cons.mp hu with rfl|hu
  . rw [Zi8 r f.1];exact Znu r rx f.1 fx
  . exact ZdU rx fx t f.2 u' hu
noncomputable def inV(x:V)(xs:List V):Bool:=xs.any fun y=>eqV y x
def rIn(K:Fg)(neg:Bool):R2:=fun x y H Q=>∃ p xs,y=.ref p/\(SqL K H p xs\/SqT K H p xs)/\ZbX x=true/\xs.all ZbX=true/\Q (.bl (if neg then !inV x xs else inV x xs)) H
def Zdc:OpR X (compareOp .NotIn) (rIn X.K true):=by
 intro pins s σ H x y v u Q I rx ry h
 obtain ⟨p,xs,rfl,hq,fx,fs,q⟩:=h
 cases ry
 rcases hq with hq|hq
 . obtain ⟨its,r,pl,hz⟩:=I.list hq
   refine SeqAt.notIn_listAt (eqU x) pl.isList (fun w hw=>ZdU rx fx r fs w (by simpa using hw)) ⟨.bl _,H,I,rfl,?_⟩
   rw [show its.toArray.any (eqU x)=its.any (eqU x) by simp,ZeH r fs]
   exact q
 . obtain ⟨its,r,pl,hz⟩:=I.tuple hq
   refine SeqAt.notIn_tupleAt (eqU x) pl (fun w hw=>ZdU rx fx r fs w (by simpa using hw)) ⟨.bl _,H,I,rfl,?_⟩
   rw [show its.toArray.any (eqU x)=its.any (eqU x) by simp,ZeH r fs]
   exact q
def Zbs:ZZ X (.builtin "len") (fun xs H Q=>∃ p ys,xs=[.ref p]/\(SqL X.K H p ys\/SqT X.K H p ys)/\Q (.int ys.length) H):=by
 intro pins s σ H xs us Q I r h
 obtain ⟨p,ys,rfl,hq,q⟩:=h
 obtain ⟨u,rfl,rx⟩:=Zei r
 cases rx
 have hn:=Zdb
 rcases hq with hq|hq
 . obtain ⟨its,r',pl,hz⟩:=I.list hq
   have hlen:=r'.length
   exact Calls.call_len_list pl.isList (by simp only [size_toArray]<;>omega) ⟨.int ys.length,H,I.tok _,⟨s.toks+1,by rw [size_toArray,hlen]⟩,q⟩
 . obtain ⟨its,r',pl,hz⟩:=I.tuple hq
   have hlen:=r'.length
   exact len_tuple pl (by simp only [size_toArray]<;>omega) ⟨.int ys.length,H,I.tok _,⟨s.toks+1,by rw [size_toArray,hlen]⟩,q⟩
def Zbt:ZZ X (.type "list") (fun xs H Q=>∃ p ys,xs=[.ref p]/\(SqL X.K H p ys\/SqT X.K H p ys)/\∀ l,H l=none->Q (.ref l) (upd H l (.lst ys))):=by
 intro pins s σ H xs us Q I r h
 obtain ⟨p,ys,rfl,hq,q⟩:=h
 obtain ⟨u,rfl,rx⟩:=Zei r
 cases rx
 have fin:∀(its:List Value),Vals ys its->ys.length<=sizeLine->∀(h':Heap)(c':Nat),(∀ b o',s.heap.get? b=some o'->h'.get? b=some o')->
  h'.get? s.heap.objs.size=some { cls:=.type "list",dict:=none,data:=.seq its.toArray c',slots:=#[] }->EP X pins σ Q (.ref s.heap.objs.size) { s with heap:=h' }:=fun its r' hz h' c' kp e=>
  ⟨.ref s.heap.objs.size,_,I.laid (t':=s.toks) kp (Nat.le_refl _) (show Z2 X.prog X.w _ h' _ (.lst ys) from ⟨hz,its,c',r',e⟩),rfl,q _ (I.hok.fresh (Nat.le_refl _))⟩
 rcases hq with hq|hq
 . obtain ⟨its,r',pl,hz⟩:=I.list hq
   have hlen:=r'.length
   obtain ⟨o,ho,hc,n,hd⟩:=pl.isList
   exact call_list_seq p (.inl rfl) ho hc hd (fun h' c' kp e=>fin its r' hz h' c' kp e) (by simp only [size_toArray]<;>omega)
 . obtain ⟨its,r',pl,hz⟩:=I.tuple hq
   have hlen:=r'.length
   obtain ⟨o,ho,hc,n,hd⟩:=pl
   exact call_list_seq p (.inr rfl) ho hc hd (fun h' c' kp e=>fin its r' hz h' c' kp e) (by simp only [size_toArray]<;>omega)
def tyV(K:Fg)(T:String)(x:V)(H:Hp):Prop:=match x with
 | .str _=>T="str"
 | .int _=>T="int"
 | .ref p=>(T="list"/\∃ xs,SqL K H p xs)\/(T="tuple"/\∃ o,K.lookup p=some o/\o.cls=.type "tuple"/\o.dict=none)\/
  (T="dict"/\((∃ kvs,H p=some (.dK kvs))\/∃ kvs,H p=some (.dT kvs)))\/(T="set"/\∃ S n,H p=some (.set S n))
 | _=>False
theorem Znv(I:Inv X pins σ H s)(r:RelV x v)(ty:tyV X.K T x H):
 s.TypeIs v T/\∀ a,v=.ref a->∃ ob,s.heap.get? a=some ob/\ob.dict=none:=by
 cases x with
 | str z=>
  obtain ⟨t,rfl⟩:=r
  cases (show T="str" from ty)
  exact ⟨typeIs_str s z t,fun _ e=>nomatch e⟩
 | int i=>
  obtain ⟨t,rfl⟩:=r
  cases (show T="int" from ty)
  exact ⟨typeIs_int s i t,fun _ e=>nomatch e⟩
 | ref p=>
  cases r
  rcases ty with ⟨rfl,xs,hq⟩|⟨rfl,o,hk,hc,hd⟩|⟨rfl,hk⟩|⟨rfl,S,n,hk⟩
  . obtain ⟨its,_,pl,_⟩:=I.list hq
    refine ⟨pl.isList.typeIs,fun a e=>?_⟩
    cases e
    obtain ⟨o,n,e,c,hd,_⟩:=pl
    exact ⟨o,e,hd⟩
  . refine ⟨⟨o,I.kIn p o hk,hc⟩,fun a e=>?_⟩
    cases e
    exact ⟨o,I.kIn _ o hk,hd⟩
  . have z:∃ o,s.heap.get? p=some o/\o.ExactDict:=by
     rcases hk with ⟨kvs,hk⟩|⟨kvs,hk⟩
     . obtain ⟨_,_,_,_,o,_,_,e,ex,_⟩:=I.hok p _ hk
       exact ⟨o,e,ex⟩
     . obtain ⟨_,_,_,_,o,_,_,e,ex,_⟩:=I.hok p _ hk
       exact ⟨o,e,ex⟩
    obtain ⟨o,e,ex⟩:=z
    refine ⟨⟨o,e,ex.1⟩,fun a e2=>?_⟩
    cases e2
    exact ⟨o,e,ex.2.1⟩
  . obtain ⟨o,_,_,_,e,ex,_⟩:=I.hok p _ hk
    refine ⟨⟨o,e,ex.1⟩,fun a e2=>?_⟩
    cases e2
    exact ⟨o,e,ex.2.1⟩
 | _=>exact False.elim ty
def tBM(K:Fg)(T:String)(r:V->List V->Hp->VK->Prop)(to:TE)(t:TA):TE:=fun σ H Q=>to σ H fun x H1=>tyV K T x H1/\t σ H1 fun xs H2=>r x xs H2 Q
variable{o e:Expr}{es:List Expr}{to:TE}{t:TA}{name:Str}{apos cpos:Pos}{T id:String}{r:V->List V->Hp->VK->Prop}
def Zp7(pa:PlainAttrs T)(slot:Slot T name id)(hty:typeOf (.builtin id)=pure (.type "method_descriptor"))(hm:MtR X id r)(ho:PE X o to)(ha:PA X (e::es) t)
 (hbase:autoParam (attributeBase o name X.env (eval o X.env)=eval o X.env) Q9)
 (hfew:autoParam (((backTo cpos (starEach (e::es) X.env)).all (fun x=>!x.1) && (backToKw cpos (keywordEach [] X.env)).all (fun x=>x.1.isSome)
  && decide ((e::es).length+([]:List Keyword).length+(if ([]:List Keyword).isEmpty then 0 else 1) < 30))=true) Q9)
 (hline:autoParam ((apos.endLine == cpos.line)=true) Q9) (hs:autoParam (SE X e es) Q9) (hplain:autoParam ((backTo cpos (starEach es X.env)).any (·.1)=false) Q9):
 PE X (.Call (.Attribute o name apos) (e::es) [] cpos) (tBM X.K T r to t):=by
 intro pins s σ H Q I h
 refine wpAny_Call_method_late hbase hfew hline rfl (thn (ho pins s σ H _ I h) fun v s1 z0=>?_)
 obtain ⟨x,H1,I1,r1,ty,q1⟩:=z0
 obtain ⟨h1,h2⟩:=Znv I1 r1 ty
 refine ⟨T,id,pa,slot,hty,h1,h2,?_⟩
 have hA:=ha cpos pins s1 σ H1 _ I1 q1
 rw [hs] at hA ⊢
 refine Calls.callWith_builtin (by show (false || (backTo cpos (starEach es X.env)).any (·.1))=false;rw [hplain]<;>rfl) (Calls.evalArgs_plain ?_)
 exact thn hA fun us s2 z90=>by obtain ⟨vs,H2,I2,r2,q2⟩:=z90;exact hm pins s2 σ H2 x vs v us Q I2 r1 r2 q2
end
def MtM(X:Cx)(id:String)(r:V->List V->Hp->VK->Prop):Prop:=
 ∀(pins:Pn)(s:Shared)(σ:St)(H:Hp)(x:V)(xs:List V)(v:Value)(us:List Value)(Q:VK),Inv X pins σ H s->RelV x v->Vals xs us->r x xs H Q->
  wpAny (model X.prog X.w) X.A (call (.builtin id) (v::us)) (EP X pins σ Q) X.xe s
def Vals.one(h:Vals [x] us):∃ u,us=[u]/\RelV x u:=by
 cases h with|cons r h=>cases h;exact ⟨_,rfl,r⟩
def Vals.two(h:Vals [x,y] us):∃ u v,us=[u,v]/\RelV x u/\RelV y v:=by
 cases h with|cons r h=>cases h with|cons q h=>cases h;exact ⟨_,_,rfl,r,q⟩
theorem Vals.reverse(h:Vals xs us):Vals xs.reverse us.reverse:=by
 induction h with
 | nil=>exact .nil
 | cons r t ih=>rw [List.reverse_cons,List.reverse_cons];exact Vals.append ih (.cons r .nil)
theorem Vals.rep(h:Vals xs us):∀ k:Nat,Vals (replicate k xs).flatten (replicate k us).flatten
 | 0=>.nil
 | k+1=>by
  rw [replicate_succ,replicate_succ,flatten_cons,flatten_cons]
  exact Vals.append h (Vals.rep h k)
theorem Zfj(its:List Value):∀(k:Nat)(acc:List Value),
 foldl (fun x1 x2=>x1++x2) acc.toArray (replicate k its.toArray)=(acc++(replicate k its).flatten).toArray
 | 0,acc=>by simp
 | k+1,acc=>by
  have e:acc.toArray++its.toArray=(acc++its).toArray:=by simp
  have e2:(acc++its)++(replicate k its).flatten=acc++(replicate (k+1) its).flatten:=by
   rw [replicate_succ,flatten_cons,List.append_assoc]
  rw [<- e2,<- Zfj its k (acc++its),<- e,replicate_succ,List.foldl_cons]
section
variable{σ:St}{l b:Addr}{xs zs:List V}
def Inv.lset{its:List Value}{n:Nat}{f:Array Value->Array Value}{t':Nat}(I:Inv X pins σ H s)(hH:H l=some (.lst xs))
 (e:s.heap.get? l=some { cls:=.type "list",data:=.seq its.toArray n }) (hf:f its.toArray=its'.toArray) (hv:Vals ys its') (hz:ys.length<=sizeLine):
 Inv X pins σ (upd H l (.lst ys)) { s with heap:=s.heap.update l (Obj.mapSeq f),toks:=t' }:=by
 have q:=PySem.IsL.update e f
 rw [hf] at q
 refine I.write (x:=l) (e:=l) (by rw [hH];exact trivial) (.inl rfl) (fun b' u hb hu=>(Heap.get?_update_other s.heap (Obj.mapSeq f) (Ne.symm hb)).trans hu) ⟨_,q⟩ ?_
 exact ⟨hz,its',_,hv,q⟩
def Inv.lnew(I:Inv X pins σ H s)(hv:Vals ys its)(hz:ys.length<=sizeLine):
 Inv X pins σ (upd H s.heap.objs.size (.lst ys)) { s with heap:=s.heap.push { cls:=.type "list",data:=.seq its.toArray },toks:=t' }:=
 I.laid (fun _ _ q=>Heap.get?_push_of_some _ q) (Nat.le_refl _) ⟨hz,its,0,hv,Heap.get?_push_size _ rfl⟩
def Inv.fresh(I:Inv X pins σ H s):H s.heap.objs.size=none:=I.hok.fresh (Nat.le_refl _)
def Inv.lstM(I:Inv X pins σ H s)(hH:H l=some (.lst xs)):xs.length<=sizeLine/\∃(its:List Value)(n:Nat),Vals xs its/\xs.length=its.length/\s.heap.get? l=some { cls:=.type "list",data:=.seq its.toArray n }:=by
 obtain ⟨z,its,n,r,e⟩:=I.hok l _ hH
 exact ⟨z,its,n,r,r.length,e⟩
def ZjD(h:n<=sizeLine):Builtin.List.listTooLong n=false:=by
 unfold Builtin.List.listTooLong
 exact decide_eq_false (by omega)
end
section
def Zl5:V->List V->Hp->VK->Prop:=fun x vs H Q=>∃ l xs y,x=.ref l/\vs=[y]/\H l=some (.lst xs)/\xs.length < sizeLine/\Q .non (upd H l (.lst (xs++[y])))
def Zfk:MtM X "list.append" Zl5:=by
 intro pins s σ H x vs v us Q I rx rv h
 obtain ⟨l,xs,y,rfl,rfl,hH,hz,q⟩:=h
 cases rx
 obtain ⟨u,rfl,ru⟩:=rv.one
 obtain ⟨z,its,n,r,hl,e⟩:=I.lstM hH
 refine call_meets F.slot_list_append ⟨_,e,rfl⟩ F.entry_list_append (F.args_list_append_2 _ _) (PySem.list_append l its.toArray n u (by rw [size_toArray];omega)) ⟨e,?_⟩
 refine ⟨.non,_,I.lset (its':=its++[u]) hH e (by simp) (r.append (.cons ru .nil)) ?_,rfl,q⟩
 rw [length_append,length_singleton]
 omega
def rCat:R2:=fun x y H Q=>∃ l b xs zs,x=.ref l/\y=.ref b/\H l=some (.lst xs)/\H b=some (.lst zs)/\xs.length+zs.length<=sizeLine/\∀ p,H p=none->Q (.ref p) (upd H p (.lst (xs++zs)))
def Znw:OpR X (binaryOp .Add) rCat:=by
 intro pins s σ H x y v u Q I rx ry h
 obtain ⟨l,b,xs,zs,rfl,rfl,hH,hB,hz,q⟩:=h
 cases rx
 cases ry
 obtain ⟨z,its,n,r,hl,e⟩:=I.lstM hH
 obtain ⟨z2,its2,n2,r2,hl2,e2⟩:=I.lstM hB
 refine PySem.P.add_list e e2 ?_ (by rw [size_toArray,size_toArray];omega)
 have ea:its.toArray++its2.toArray=(its++its2).toArray:=by simp
 rw [ea]
 exact ⟨.ref _,_,I.lnew (t':=s.toks) (r.append r2) (by rw [length_append];omega),rfl,q _ I.fresh⟩
def rRep:R2:=fun x y H Q=>∃ l k xs,x=.ref l/\y=.int k/\H l=some (.lst xs)/\-(2 ^ 63)<=k/\k < 2 ^ 63/\xs.length * k.toNat<=sizeLine/\
 ∀ p,H p=none->Q (.ref p) (upd H p (.lst (replicate k.toNat xs).flatten))
theorem Zl6(xs:List α)(k:Nat):(replicate k xs).flatten.length=k * xs.length:=by
 induction k with
 | zero=>simp
 | succ k ih=>rw [replicate_succ,flatten_cons,length_append,ih,Nat.succ_mul,Nat.add_comm]
def Znx:OpR X (binaryOp .Mult) rRep:=by
 intro pins s σ H x y v u Q I rx ry h
 obtain ⟨l,k,xs,rfl,rfl,hH,h1,h2,hz,q⟩:=h
 cases rx
 obtain ⟨t,rfl⟩:=ry
 obtain ⟨z,its,n,r,hl,e⟩:=I.lstM hH
 have hlen:its.toArray.size * k.toNat<=sizeLine:=by rw [size_toArray,<- hl];exact hz
 have hcap:¬ its.toArray.size * k.toNat > (2 ^ 63 - 1) / 8:=by
  have:(sizeLine:Nat)<=(2 ^ 63 - 1) / 8:=by decide
  omega
 have hfit:¬ (!Builtin.List.listFitsIndex k)=true:=by
  rw [fitsIndex_both h1 h2]
  exact Bool.false_ne_true
 have hlong:¬ Builtin.List.listTooLong (its.toArray.size * k.toNat)=true:=by
  rw [ZjD hlen]
  exact Bool.false_ne_true
 have hnew:foldl (fun x1 x2=>x1++x2) #[] (replicate (if its.toArray.isEmpty=true then 0 else k.toNat) its.toArray)=(replicate k.toNat its).flatten.toArray:=by
  have f0:∀ m:Nat,foldl (fun x1 x2=>x1++x2) #[] (replicate m its.toArray)=(replicate m its).flatten.toArray:=fun m=>by
   have:=Zfj its m []
   rw [nil_append] at this
   exact this
  rw [f0]
  cases its with
  | nil=>simp
  | cons a r'=>rw [if_neg (by simp)]
 refine wpAny_binaryOp_repeat_ref (T:="list") (U:="int") (by decide) ⟨_,e,rfl⟩ (fun s'=>typeIs_int s' k t) noFill_list_mul F.fills_int_mul F.slot_int_rmul repeat_list F.slot_int_index.lookup
  (call_meets F.slot_int_rmul (typeIs_int s k t) F.entry_int_rmul (F.args_int_rmul_2 _ _) (int___rmul___int_list k t l its.toArray n)
   ⟨e,rfl,⟨_,e,rfl⟩,call_meets F.slot_list_mul ⟨_,e,rfl⟩ F.entry_list_mul (F.args_list_mul_2 _ _) (AutoListH.list___mul___list_int_3 l its.toArray n k t hfit hcap hlong) ⟨e,?_⟩⟩)
 rw [hnew]
 exact ⟨.ref _,_,I.lnew (t':=s.toks) (r.rep k.toNat) (by rw [Zl6,Nat.mul_comm];exact hz),rfl,q _ I.fresh⟩
end
section
variable{κ:Type}[DecidableEq κ]
noncomputable def valV(kvs:List (κ×V))(k:κ):Option V:=(kvs.find? fun kv=>decide (kv.1=k)).map (·.2)
noncomputable def putK(kvs:List (κ×V))(k:κ)(v:V):List (κ×V):=
 if (kvs.any fun kv=>decide (kv.1=k))=true then kvs.map (fun kv=>if kv.1=k then (kv.1,v) else kv) else kvs++[(k,v)]
def ZfG:valV ([]:List (κ×V)) k=none:=rfl
def ZcK{p:κ×V}{r:List (κ×V)}{k:κ}(e:p.1=k):valV (p::r) k=some p.2:=by simp [valV,find?_cons,e]
def ZcL{p:κ×V}{r:List (κ×V)}{k:κ}(e:¬ p.1=k):valV (p::r) k=valV r k:=by simp [valV,find?_cons,e]
theorem ZfH(k:κ):∀ kvs:List (κ×V),(kvs.any fun kv=>decide (kv.1=k))=(valV kvs k).isSome
 | []=>rfl
 | p::r=>by
  rw [any_cons]
  by_cases e:p.1=k
  . simp only [ZcK e,decide_eq_true e,Bool.true_or,Option.isSome_some]
  . rw [ZcL e,decide_eq_false e,Bool.false_or];exact ZfH k r
def ZdK(kvs:List (κ×V))(k:κ)(v:V):(putK kvs k v).length<=kvs.length+1:=by
 unfold putK
 split
 . rw [length_map];omega
 . rw [length_append,length_cons,length_nil];omega
theorem RelO.isSome_eq(r:RelO o u):o.isSome=u.isSome:=by
 cases o with
 | none=>cases u with
  | none=>rfl
  | some _=>exact (show False from r).elim
 | some _=>cases u with
  | none=>exact (show False from r).elim
  | some _=>rfl
theorem KV.val(r:KV kvs vs)(k:κ):RelO (valV kvs k) (valueAt vs k):=by
 unfold KV at r
 induction r with
 | nil=>exact True.intro
 | @cons p q ps qs h t ih=>
  obtain ⟨h1,h2⟩:=h
  by_cases e:p.1=k
  . have e':q.1=k:=h1.symm.trans e
    have b:valueAt (q::qs) k=some q.2:=by simp [valueAt,find?_cons,e']
    rw [ZcK e,b];exact h2
  . have e':¬ q.1=k:=fun z=>e (h1.trans z)
    have b:valueAt (q::qs) k=valueAt qs k:=by simp [valueAt,find?_cons,e']
    rw [ZcL e,b];exact ih
theorem KV.any(r:KV kvs vs)(k:κ):(kvs.any fun kv=>decide (kv.1=k))=vs.any fun kv=>decide (kv.1=k):=by
 unfold KV at r
 induction r with
 | nil=>rfl
 | cons h t ih=>rw [any_cons,any_cons,ih,h.1]
theorem KV.repl(r:KV kvs vs)(k:κ)(ry:RelV y u):
 KV (kvs.map fun kv=>if kv.1=k then (kv.1,y) else kv) (vs.map fun kv=>if kv.1=k then (kv.1,u) else kv):=by
 unfold KV at r ⊢
 induction r with
 | nil=>exact .nil
 | @cons p q ps qs h t ih=>
  rw [map_cons,map_cons]
  refine .cons ?_ ih
  obtain ⟨h1,h2⟩:=h
  by_cases e:p.1=k
  . rw [if_pos e,if_pos (h1.symm.trans e)];exact ⟨h1,ry⟩
  . rw [if_neg e,if_neg (fun z=>e (h1.trans z))];exact ⟨h1,h2⟩
def KV.put(r:KV kvs vs)(k:κ)(ry:RelV y u):KV (putK kvs k y) (stored vs k u):=by
 unfold putK stored
 rw [r.any k]
 by_cases e:(vs.any fun kv=>decide (kv.1=k))=true
 . rw [if_pos e,if_pos e];exact r.repl k ry
 . rw [if_neg e,if_neg e];exact Paired.snoc r ⟨rfl,ry⟩
def KV.length(r:KV kvs vs):kvs.length=vs.length:=Paired.length r
end
theorem Zem(r:RelV (kV k) u):(ZY P w).is k u=true:=by
 cases k with
 | inl i=>obtain ⟨t,e⟩:=(show ∃ t,u=Value.int i t from r);subst e;exact Zg4 P w i t
 | inr x=>obtain ⟨t,e⟩:=(show ∃ t,u=Value.str x t from r);subst e;exact Zg5 P w x t
theorem Zfl:∀{ks:List Key}{us:List Value},Vals (ks.map kV) us->ItemsAre (ZY P w) ks us
 | [],_,r=>by rw [map_nil] at r;cases r;exact .nil
 | k::ks,_,r=>by
  rw [map_cons] at r
  cases r with
  | cons h t=>exact .cons (Zem h) (Zfl t)
abbrev KT(H:Hp):List (List Key×V)->List (List Key×Addr×Value)->Prop:=Paired fun p q=>p.1=q.1/\H q.2.1=some (.tup (p.1.map kV))/\RelV p.2 q.2.2
theorem KT.val(r:KT H kvs xs)(k:List Key):RelO (valV kvs k) ((atKey xs k).map (·.2)):=by
 induction r with
 | nil=>exact True.intro
 | @cons p q ps qs h t ih=>
  obtain ⟨h1,_,h2⟩:=h
  by_cases e:p.1=k
  . have e':q.1=k:=h1.symm.trans e
    have b:atKey (q::qs) k=some q.2:=by simp [atKey,find?_cons,e']
    rw [ZcK e,b];exact h2
  . have e':¬ q.1=k:=fun z=>e (h1.trans z)
    have b:atKey (q::qs) k=atKey qs k:=by simp [atKey,find?_cons,e']
    rw [ZcL e,b];exact ih
theorem KT.repl(r:KT H kvs xs)(k:List Key)(ry:RelV y u):
 KT H (kvs.map fun kv=>if kv.1=k then (kv.1,y) else kv) (xs.map (putAt k u)):=by
 induction r with
 | nil=>exact .nil
 | @cons p q ps qs h t ih=>
  rw [map_cons,map_cons]
  refine .cons ?_ ih
  obtain ⟨h1,h2,h3⟩:=h
  unfold putAt
  by_cases e:p.1=k
  . rw [if_pos e,if_pos (h1.symm.trans e)];exact ⟨h1,h2,ry⟩
  . rw [if_neg e,if_neg (fun z=>e (h1.trans z))];exact ⟨h1,h2,h3⟩
def KT.put(r:KT H kvs xs)(k:List Key)(hb:H b=some (.tup (k.map kV)))(ry:RelV y u):
 KT H (putK kvs k y) (storedH xs k b u):=by
 have e:(kvs.any fun kv=>decide (kv.1=k))=(atKey xs k).isSome:=by
  rw [ZfH,(r.val k).isSome_eq,isSome_map]
 unfold putK storedH
 rw [e]
 by_cases q:(atKey xs k).isSome=true
 . rw [if_pos q,if_pos q];exact r.repl k ry
 . rw [if_neg q,if_neg q];exact Paired.snoc r ⟨rfl,hb,ry⟩
def KT.keeps(r:KT H kvs xs)(ht:∀ b ys,H b=some (.tup ys)->H' b=some (.tup ys)):KT H' kvs xs:=
 Paired.mapP r fun _ _ z=>⟨z.1,ht _ _ z.2.1,z.2.2⟩
section
def ZkH(ok:HOk P w H h)(e:Rd H a u):Z2 P w H h a u:=e.ok ok
def Zd4(ok:HOk P w H h)(e:Rd H a (.dK kvs)):kvs.length<=sizeLine/\(a == sysModules)=false/\∃ vs,KV kvs vs/\h.DictOf (ZY P w) a vs:=
 show Z2 P w H h a (.dK kvs) from ZkH ok e
def Zp8(ok:HOk P w H h)(e:H a=some (.dK kvs)):kvs.length<=sizeLine/\(a == sysModules)=false/\∃ vs,KV kvs vs/\h.DictOf (ZY P w) a vs:=Zd4 ok (.inl e)
def Zdd(ok:HOk P w H h)(e:H a=some (.tup (ks.map kV))):(tupleKind (ZY P w)).is h ks a:=by
 obtain ⟨_,its,r,o,h1,h2,n,h3⟩:=(show Z2 P w H h a (.tup (ks.map kV)) from ok a _ e)
 exact ⟨o,its.toArray,n,h1,h2,h3,by simpa using Zfl r⟩
def Zen(ok:HOk P w H h)(e:Rd H a (.dT kvs)):kvs.length<=sizeLine/\(a == sysModules)=false/\
 ∃ xs,KT H kvs xs/\h.DictOfH (tupleKind (ZY P w)) a xs:=by
 obtain ⟨z,y,xs,r,o,es,ep,h1,h2,h3,h4,h5⟩:=(show Z2 P w H h a (.dT kvs) from ZkH ok e)
 refine ⟨z,y,xs,r,o,es,ep,h1,h2,h3,h4,fun x hx=>?_,h5⟩
 have all:∀{l:List (List Key×V)}{m:List (List Key×Addr×Value)},KT H l m->∀ x∈m,(tupleKind (ZY P w)).is h x.1 x.2.1:=by
  intro l m q
  induction q with
  | nil=>intro x hx;exact nomatch hx
  | @cons p q ps qs hq t ih=>
   intro x hx
   rcases List.mem_cons.mp hx with e|hx
   . subst e
     exact Zdd ok (by rw [<- hq.1];exact hq.2.1)
   . exact ih x hx
 exact all r x hx
def Zp9(ok:HOk P w H h)(e:H a=some (.dT kvs)):kvs.length<=sizeLine/\(a == sysModules)=false/\
 ∃ xs,KT H kvs xs/\h.DictOfH (tupleKind (ZY P w)) a xs:=Zen ok (.inl e)
end
def DGet(H:Hp)(a:Addr)(y:V)(r:Option V):Prop:=
 (∃ kvs k,Rd H a (.dK kvs)/\y=kV k/\r=valV kvs k)\/∃ kvs k b,Rd H a (.dT kvs)/\y=.ref b/\H b=some (.tup (k.map kV))/\r=valV kvs k
def DPut(H:Hp)(a:Addr)(y v:V)(H':Hp):Prop:=
 (∃ kvs k,H a=some (.dK kvs)/\y=kV k/\kvs.length < sizeLine/\H'=upd H a (.dK (putK kvs k v)))\/
 ∃ kvs k b,H a=some (.dT kvs)/\y=.ref b/\H b=some (.tup (k.map kV))/\kvs.length < sizeLine/\H'=upd H a (.dT (putK kvs k v))
def DGet.k{a:Addr}{kvs:List (Key×V)}{k:Key}(e:H a=some (.dK kvs)):DGet H a (kV k) (valV kvs k):=.inl ⟨kvs,k,.inl e,rfl,rfl⟩
def DPut.k{a:Addr}{kvs:List (Key×V)}{k:Key}{v:V}(e:H a=some (.dK kvs))(hl:kvs.length < sizeLine):DPut H a (kV k) v (upd H a (.dK (putK kvs k v))):=.inl ⟨kvs,k,e,rfl,hl,rfl⟩
section
def Zi9(hu:A.units+1 < cLine)(I:Inv X pins σ H s)(g:DGet H a y (some v))(ry:RelV y u)(h:∀ w' s',Inv X pins σ H s'->RelV v w'->Q w' s'):
 wpAny (model X.prog X.w) A (getItem (.ref a) u) Q E s:=by
 rcases g with ⟨kvs,k,e,ey,l⟩|⟨kvs,k,b,e,ey,eb,l⟩
 . subst ey
   obtain ⟨z,hd,vs,rel,dd⟩:=Zd4 I.hok e
   obtain ⟨w',hw,rw'⟩:=RelO.some_of (v:=v) (o:=valueAt vs k) (by rw [l];exact rel.val k)
   exact wpAny_getItem_of (Zem ry) dd.mapOf hw (h w' _ (I.tok _) rw')
 . subst ey
   cases (show u=Value.ref b from ry)
   obtain ⟨z,hd,xs,rel,dd⟩:=Zen I.hok e
   obtain ⟨w',hw,rw'⟩:=RelO.some_of (v:=v) (o:=(atKey xs k).map (·.2)) (by rw [l];exact rel.val k)
   obtain ⟨p,hp,hp2⟩:=Option.map_eq_some_iff.mp hw
   refine wpAny_getItem_heap (tupleKind_room_in1 hu) (Zdd I.hok eb) dd hp ?_
   rw [hp2]
   exact h w' _ (I.tok _) rw'
def d_in(hu:A.units+1 < cLine)(I:Inv X pins σ H s)(g:DGet H a y o)(ry:RelV y u)(h:∀ s',Inv X pins σ H s'->Q (.bool o.isSome) s'):
 wpAny (model X.prog X.w) A (compareOp .In u (.ref a)) Q E s:=by
 rcases g with ⟨kvs,k,e,ey,l⟩|⟨kvs,k,b,e,ey,eb,l⟩
 . subst ey
   obtain ⟨z,hd,vs,rel,dd⟩:=Zd4 I.hok e
   refine wpAny_in_of (Zem ry) hd dd.mapOf ?_
   rw [<- (rel.val k).isSome_eq,<- l]
   exact h _ (I.tok _)
 . subst ey
   cases (show u=Value.ref b from ry)
   obtain ⟨z,hd,xs,rel,dd⟩:=Zen I.hok e
   refine wpAny_in_heap (tupleKind_room_in1 hu) (Zdd I.hok eb) hd dd ?_
   have q:=(rel.val k).isSome_eq
   rw [isSome_map] at q
   rw [<- q,<- l]
   exact h _ (I.tok _)
def Zl7(hu:A.units+1 < cLine)(I:Inv X pins σ H s)(g:DGet H a y o)(ry:RelV y u)(h:∀ s',Inv X pins σ H s'->Q (.bool (!o.isSome)) s'):
 wpAny (model X.prog X.w) A (compareOp .NotIn u (.ref a)) Q E s:=by
 rcases g with ⟨kvs,k,e,ey,l⟩|⟨kvs,k,b,e,ey,eb,l⟩
 . subst ey
   obtain ⟨z,hd,vs,rel,dd⟩:=Zd4 I.hok e
   refine wpAny_notIn_of (Zem ry) hd dd.mapOf ?_
   rw [<- (rel.val k).isSome_eq,<- l]
   exact h _ (I.tok _)
 . subst ey
   cases (show u=Value.ref b from ry)
   obtain ⟨z,hd,xs,rel,dd⟩:=Zen I.hok e
   refine wpAny_notIn_heap (tupleKind_room_in1 hu) (Zdd I.hok eb) hd dd ?_
   have q:=(rel.val k).isSome_eq
   rw [isSome_map] at q
   rw [<- q,<- l]
   exact h _ (I.tok _)
def Zhh(I:Inv X pins σ H s)(mu:Mut (H a))(hs:Heap.SameBut a s.heap h')(he:∃ q,h'.get? a=some q)(new:Z2 X.prog X.w (upd H a ob) h' a ob):
 Inv X pins σ (upd H a ob) { s with heap:=h',toks:=t' }:=
 I.write (x:=a) (e:=a) mu (.inl rfl) (fun b q hb z=>(hs.2 b hb).trans z) he new
def Zny(z:kvs.length<=sizeLine)(hd:(a == sysModules)=false)(rel:KV kvs vs)(dd:h'.DictOf (ZY P w) a vs):
 Z2 P w H' h' a (.dK kvs):=⟨z,hd,vs,rel,dd⟩
def ZiA(hu:A.units+1 < cLine)(I:Inv X pins σ H s)(g:DPut H a y v H')(ry:RelV y u)(rv:RelV v r)(h:∀ s',Inv X pins σ H' s'->Q () s'):
 wpAny (model X.prog X.w) A (setItem (.ref a) u r) Q E s:=by
 rcases g with ⟨kvs,k,e,ey,l,eH⟩|⟨kvs,k,b,e,ey,eb,l,eH⟩
 . subst ey eH
   obtain ⟨z,hd,vs,rel,dd⟩:=Zp8 I.hok e
   have hz:vs.length<=sizeLine:=by rw [<- rel.length];exact z
   have hl:(putK kvs k v).length<=sizeLine:=by have:=ZdK kvs k v;omega
   refine wpAny_setItem_pairs (hsz:=hz) (Zem ry) dd fun h' dd' hs=>h _ ?_
   have he:∃ q,h'.get? a=some q:=let ⟨q,_,_,hq,_⟩:=dd';⟨q,hq⟩
   exact Zhh I (by rw [e];exact True.intro) hs he (Zny hl hd (rel.put k rv) dd')
 . subst ey eH
   cases (show u=Value.ref b from ry)
   obtain ⟨z,hd,xs,rel,dd⟩:=Zp9 I.hok e
   have hz:xs.length<=sizeLine:=by rw [<- Paired.length rel];exact z
   have hl:(putK kvs k v).length<=sizeLine:=by have:=ZdK kvs k v;omega
   refine wpAny_setItem_heap (hsz:=hz) (tupleKind_room_in1 hu) (Zdd I.hok eb) dd fun h' dd' hs=>h _ ?_
   obtain ⟨q,es,ep,hq,h2,h3,h4,_,h5⟩:=dd'
   refine Zhh I (by rw [e];exact True.intro) hs ⟨q,hq⟩ ⟨hl,hd,_,(rel.put k eb rv).keeps fun c ys ec=>?_,q,es,ep,hq,h2,h3,h4,h5⟩
   rw [Zj (Zpk ec e (fun z=>nomatch z))]
   exact ec
end
section
def ZpA(I:Inv X pins σ H s)(e:Rd H a (.dK kvs))(h:∀ t s',Inv X pins σ H s'->Q (.int kvs.length t) s'):wpAny (model X.prog X.w) A (call (.builtin "len") [.ref a]) Q E s:=by
 obtain ⟨z,hd,vs,rel,dd⟩:=Zd4 I.hok e
 refine call_len_dict hd dd (by rw [<- rel.length];rw [sizeLine_eq] at z;omega) ?_
 rw [<- rel.length]
 exact h _ _ (I.tok _)
end
def NoSl(i:Expr):Prop:=∀ ov iv,subscripted i false ov iv=operate [ov,iv] (getItem ov iv)
def Zl8{prog:Program}{w:World}{A:Around}{E:VS}{env:Env}{value slice:Expr}{T id:String}{Q:VS}
 (hl:typeLookup (.type T) "__getitem__"=pure (some (.builtin id))) (hs:NoSl slice)
 (h:wpAny (model prog w) A (eval value env) (fun o s₁=>wpAny (model prog w) A (eval slice env) (fun i s₂=>s₂.TypeIs o T/\wpAny (model prog w) A (getItem o i) Q E s₂) E s₁) E s):
 wpAny (model prog w) A (eval (.Subscript value slice pos) env) Q E s:=by
 refine Subscript_ (wpAny_mono h (fun o s₁ h₁=>wpAny_mono h₁ (fun i s₂ h₂=>?_) fun _ _ x=>x) fun _ _ x=>x)
 obtain ⟨hT,h₂⟩:=h₂
 unfold subscriptTail
 refine wpAny_bind ?_
 rw [getitemInPython_of_ne hT.not_modules]
 refine wpAny_bind (wpAny_specialOf hT hl ?_)
 have fin:wpAny (model prog w) A (subscripted slice false o i) (fun r s₃=>wpAny (model prog w) A (letTemporaryGo value o r >>= fun _=>pure r) Q E s₃) E s₂:=by
  rw [hs o i]
  exact wpAny_operating (wpAny_mono h₂ (fun r s₃ h₃=>wpAny_bind (wpAny_letTemporaryGo (wpAny_pure h₃))) fun _ _ x=>x)
 first
  | exact wpAny_pure (wpAny_bind fin)
  | exact wpAny_bind (wpAny_pure (wpAny_bind fin))
  | exact wpAny_bind fin
def Zg9(I:Inv X pins σ H s)(g:DGet H a y o):s.TypeIs (.ref a) "dict":=by
 rcases g with ⟨kvs,k,e,_,_⟩|⟨kvs,k,b,e,_,_,_⟩
 . obtain ⟨_,_,vs,_,dd⟩:=Zd4 I.hok e
   exact dd.typeIs
 . obtain ⟨_,_,xs,_,dd⟩:=Zen I.hok e
   exact dd.typeIs
def ZpB(td ty:TE):TE:=fun σ H Q=>td σ H fun x H1=>ty σ H1 fun y H2=>∃ a v,x=.ref a/\DGet H2 a y (some v)/\Q v H2
section
def Zl9(hu:X.A.units+1 < cLine)(ho:PE X o td)(hi:PE X i ty)(hs:NoSl i):PE X (.Subscript o i pos) (ZpB td ty):=by
 intro pins s σ H Q I h
 refine Zl8 PySem.F.slot_dict_getitem.lookup hs (thn (ho pins s σ H _ I h) fun u s1 ⟨x,H1,I1,rx,q1⟩=>thn (hi pins s1 σ H1 _ I1 q1) fun iv s2 z90=>?_)
 obtain ⟨y,H2,I2,ry,a,v,ex,g,q2⟩:=z90
 subst ex
 obtain rfl:u=Value.ref a:=rx
 exact ⟨Zg9 I2 g,Zi9 hu I2 g ry fun w' s3 I3 rw'=>⟨v,H2,I3,rw',q2⟩⟩
end
structure M1(X:Cx)(o:Expr)(m:Str)(apos:Pos)(e:Expr)(cpos:Pos):Prop where
 base:attributeBase o m X.env (eval o X.env)=eval o X.env
 few:((backTo cpos (starEach [e] X.env)).all (fun x=>!x.1) && (backToKw cpos (keywordEach [] X.env)).all (fun x=>x.1.isSome)
  && decide (([e]:List Expr).length+([]:List Keyword).length+(if ([]:List Keyword).isEmpty then 0 else 1) < 30))=true
 line:(apos.endLine == cpos.line)=true
 trees:backTo cpos (starEach [e] X.env)=[(false,eval e X.env)]
structure M2(X:Cx)(o:Expr)(m:Str)(apos:Pos)(e f:Expr)(cpos:Pos):Prop where
 base:attributeBase o m X.env (eval o X.env)=eval o X.env
 few:((backTo cpos (starEach [e,f] X.env)).all (fun x=>!x.1) && (backToKw cpos (keywordEach [] X.env)).all (fun x=>x.1.isSome)
  && decide (([e,f]:List Expr).length+([]:List Keyword).length+(if ([]:List Keyword).isEmpty then 0 else 1) < 30))=true
 line:(apos.endLine == cpos.line)=true
 trees:backTo cpos (starEach [e,f] X.env)=[(false,eval e X.env),(false,eval f X.env)]
end L2
namespace Att
open PySem PySem.W PySem.Calls PyProof.Rows
theorem Zeo:∀(ns:List Int)(vs:List Value),WellAll P h vs (ns.map WData.int)->IntsAre vs ns:=by
 intro ns
 induction ns with
 | nil=>
  intro vs w
  rw [map_nil] at w
  cases w
  exact .nil
 | cons n ns ih=>
  intro vs w
  rw [map_cons] at w
  cases w with
  | cons a b=>
   cases a
   exact .cons _ _ (ih _ b)
theorem ZiB{l:OpenLaw}{n:Nat}(hn:l.most=some n){P:Params}{h:Heap}{args:List WData}{vals:List Value}
 (hpre:l.row.toRowW.claim.pre args=true) (hwl:WellAll P h vals args):
 ∃ a vs ns,vals=[Value.ref a]/\args=[WData.list (ns.map WData.int)]/\h.get? a=some { cls:=.type "list",data:=.seq vs.toArray }/\IntsAre vs ns/\ns.length<=n:=by
 have hsh:WShape.hasAll [] args [.list .int]=true:=(pre_splitW hpre).1
 have hc:l.pre.holds [] { args:=args }=true:=(pre_splitW hpre).2
 obtain ⟨d,r,rfl,h1,h2⟩:=hasAllW_cons hsh
 obtain rfl:=hasAllW_nil h2
 obtain ⟨xs,rfl,h3⟩:=hasW_list h1
 obtain ⟨ns,rfl⟩:=items_int h3
 have hlen:ns.length<=n:=by
  unfold OpenLaw.pre at hc
  have h4:(WTm.not (.lt (.lit (.int (n:Int))) (.len (.arg 0)))).holds [] { args:=[.list (ns.map .int)] }=true:=by
   have h4:=(holds_andW hc).1
   rw [hn] at h4
   exact h4
  have h5:=condW_of h4 (w_not (w_lt w_lit (w_len_list (w_arg rfl))))
  rw [length_map] at h5
  refine Nat.le_of_not_lt fun q=>?_
  have q':(n:Int) < ((ns.length:Nat):Int):=by omega
  first
   | (rw [decide_eq_true q'] at h5;exact absurd h5 (by decide))
   | (simp at h5;omega)
 cases hwl with
 | cons w1 w2=>
  cases w2
  cases w1 with
  | list ho hall=>exact ⟨_,_,ns,rfl,rfl,ho,Zeo ns _ hall,hlen⟩
def ZiC(l:OpenLaw)(args:List WData):l.row.toRowW.claim.post args (.bool true) args=true:=
 postW_of (r:=l.row.toRowW) (X:=(true == true))
  (show WShape.has [] (.bool true) .bool=true by first|rfl|decide|simp [WShape.has,WShape.arms,WShape.armsAll])
  (show (WTm.eq .res (.lit (.bool true))).value [] { args:=args,res:=some (.bool true),after:=args }=some (.bool (true == true)) from w_eq_bool (w_res rfl) w_lit) rfl
def ZgA{l:OpenLaw}{n:Nat}{q:Program}{loose:List Str}{XP:(Str->Option Value)->Heap->Prop}{YP:World->Heap->Prop}{d:DefRec}
 (hn:l.most=some n) (hdf:d.params.defaults=[])
 (call:∀(w:World)(s₀ s₁:Shared)(mg mb:SO)(fa:Addr)(o:Obj)(pm cd doc:Value)(a:Addr)(vs:List Value)(ns:List Int),
  Ground q loose [] XP w s₀ mg mb s₁.heap->YP w s₁.heap->
  s₁.heap.get? fa=some o->o.data=.func (docDef d.name d.params d.body d.scope pm cd doc)->s₁.heap.CodeRec cd d.name->mg d.name=some (.ref fa)->
  s₁.heap.get? a=some { cls:=.type "list",data:=.seq vs.toArray }->IntsAre vs ns->ns.length<=n->s₁.gens=#[]->
  codeAny (model l.prog w) callerA (.call (.ref fa) ⟨[.ref a],[]⟩) (fun r s'=>r=.ok (.ret (.bool true))/\OldK s₁.heap s'.heap/\s'.os=s₁.os/\AllBare s'.gens) s₁):
 WalkO q loose XP YP l.row.toRowW d [] (fun f vs=>PySem.call f vs):=by
 intro w s₀ s₁ mg mb G Y fa o pm cd doc dV kV ho hd hcd hD hmg hg args vals as hpre hlay hrd hwl hlo
 obtain rfl:dV=.none:=Dflts.none hD hdf
 obtain rfl:kV=.none:=Dflts.noKw hD
 obtain ⟨a,vs,ns,rfl,rfl,hobj,hints,hlen⟩:=ZiB hn hpre hwl
 refine enter_call (codeAny_mono (call w s₀ s₁ mg mb fa o pm cd doc a vs ns G Y ho (fd_plain hd) hcd hmg hobj hints hlen hg) fun r s' hq=>?_)
 obtain ⟨rfl,h2,h3,h4⟩:=hq
 exact ⟨.inl ⟨.bool true,.bool true,[],rfl,fun _=>rfl,.bool true,ZiC l _,fun _=>⟨List.Pairwise.nil,fun _ hm=>(nomatch hm)⟩⟩,h2,h3,h4⟩
end Att
namespace L2
open PySem PySem.Spec PyProof.Rows
variable{pos np:Pos}{ea D':Addr}{H H':Hp}{body:List Stmt}{qual name:Str}{X:Cx}{s:Shared}{fd:FuncData}{oe:Obj}{b₀:Stmt}{mg:SO}{dV oc doc pm cdv ct:Value}{ps loose N:List Str}{pins:Pn}{YP:World->Heap->Prop}{base:Heap}{an:Option Addr}{fr expr:Bool}{scope:Scope}{prog:Program}{os:OsState}{hs:List ExceptHandler}{gs:List HS}
theorem Zfm:∀{vs:List Value}{ns:List Int},IntsAre vs ns->Vals (ns.map V.int) vs
 | _,_,.nil=>.nil
 | _,_,.cons n t h=>.cons ⟨t,rfl⟩ (Zfm h)
termination_by structural a=>a
def Only(H:Hp):Prop:=∀ b,H b=none\/∃ o xs,H b=some (.frz o (.lst xs))
theorem ZjE{P:Program}{w:World}{K:Fg}{mb:SO}{CX:CXT}{k:Nat}{fa a:Addr}{x:Str}{sp:Sp}{s₁:Shared}{vs:List Value}{ns:List Int}
 (KX:K.In s₁.heap) (hns:s₁.heap.Ns mainGlobals mg) (hb:s₁.heap.Ns builtinsNs mb) (hbb:∀ x:Str,x≠"__name__"->mb x=bootBuiltins x) (hlim:s₁.heap.NoLimit) (hg:s₁.gens=#[])
 (ha:s₁.heap.get? a=some { cls:=.type "list",data:=.seq vs.toArray }) (hi:IntsAre vs ns) (hl:ns.length<=sizeLine) (hr:Room k callerA)
 (F:∀ base:Heap,K.In base->base.Ns mainGlobals mg->FnOk P w K mg base CX k fa fd [x] sp) (hbind:∀(s:Shared)(u:Value),BindsTo s fd ⟨[u],[]⟩ [(x,u)])
 (hsp:∀ H:Hp,Only H->SqL K H a (ns.map V.int)->sp [.ref a] H (fun v _=>v=.bl true) fun _ _ _=>False)
 (hCX:∀ H e s',CX [] H s₁ (fun _ _ _=>False) e s'->False):
 codeAny (model P w) callerA (.call (.ref fa) ⟨[.ref a],[]⟩) (fun r s'=>r=.ok (.ret (.bool true))/\OldK s₁.heap s'.heap/\s'.os=s₁.os/\AllBare s'.gens) s₁:=by
 have rv:=Zfm hi
 have lenV:=hi.length
 have core:∀ H:Hp,Only H->SqL K H a (ns.map V.int)->HOk P w H s₁.heap->(∀ b,H b≠none->b=a)->(H a≠none->K.lookup a=none)->
  codeAny (model P w) callerA (.call (.ref fa) ⟨[.ref a],[]⟩) (fun r s'=>r=.ok (.ret (.bool true))/\OldK s₁.heap s'.heap/\s'.os=s₁.os/\AllBare s'.gens) s₁:=by
  intro H hO hS hok hA hK
  have base_of:∀{b:Addr}{o:Obj},s₁.heap.get? b=some o->H b=none->(hidT s₁.heap H).get? b=some o:=fun e n=>Zj1 e n
  have noA:∀{b:Addr}{o:Obj}{es:Array DictEntry}{ep:Nat},s₁.heap.get? b=some o->o.data=.dict es ep->H b=none:=fun{b o es ep} e d=>by
   cases q:H b with
   | none=>rfl
   | some u=>
    have e':b=a:=hA b (by rw [q];simp)
    subst e'
    rw [ha] at e;cases e
    have d':Data.seq vs.toArray _=Data.dict es ep:=d
    cases d'
  have nsK:∀{b:Addr}{m:SO},s₁.heap.Ns b m->(hidT s₁.heap H).Ns b m:=fun{b m} ⟨o,es,ep,e,d,r⟩=>⟨o,es,ep,base_of e (noA e d),d,r⟩
  have hKb:K.In (hidT s₁.heap H):=fun b o e=>base_of (KX b o e) (by
   cases q:H b with
   | none=>rfl
   | some u=>
    have e':b=a:=hA b (by rw [q];simp)
    subst e'
    rw [hK (by rw [q];simp)] at e;cases e)
  have hM:Mod K mg (hidT s₁.heap H):=⟨hKb,nsK hns,⟨mb,nsK hb,hbb⟩,let ⟨mc,h1,h2⟩:=hlim;⟨mc,nsK h1,h2⟩⟩
  have e0:Env0 P w K mg (hidT s₁.heap H) callerA [] s₁ H:=⟨rfl,hM,fun b o e=>Zln e,Nat.le_of_eq (Zis _ _),trivial,fun b hb=>absurd (show b∈([]:List Addr) from hb) (by simp),hok,.of_eq hg⟩
  refine codeAny_mono ((F _ hKb (nsK hns)).run callerA [] s₁ H ⟨[.ref a],[]⟩ [.ref a] [.ref a] _ _ hr e0 (hbind s₁ (.ref a)) (.cons rfl .nil) (hsp H hO hS)) fun r s' h=>?_
  cases r with
  | error e=>exact (hCX H e s' h).elim
  | ok fl=>
   cases fl with
   | next=>exact False.elim h
   | brk=>exact False.elim h
   | cont=>exact False.elim h
   | ret u=>
    obtain ⟨v,H',os,bare,un,hok',r',q⟩:=h
    have q':v=.bl true:=q
    subst q'
    obtain rfl:u=Value.bool true:=r'
    refine ⟨rfl,OldK.of_keep fun b o e=>?_,os,bare⟩
    cases q:H b with
    | none=>exact un.keep b o e q (by intro z;exact absurd (show b∈([]:List Addr) from z) (by simp)) (by simp)
    | some u=>
     rcases hO b with z|⟨ob,xs,z⟩
     . rw [q] at z;cases z
     . have z2:=un.frzs b ob _ z
       obtain ⟨e1,_⟩:=hok b _ z
       obtain ⟨e2,_⟩:=hok' b _ z2
       rw [e] at e1;cases e1
       exact e2
 cases hk:K.lookup a with
 | some o=>
  have e:=KX a o hk
  rw [ha] at e
  cases e
  refine core (fun _=>none) (fun _=>.inl rfl) (.inr ⟨_,vs.toArray,_,hk,rfl,rfl,rfl,by rw [size_toArray,lenV];exact hl,by simpa using rv⟩) (fun b u z=>by have z':(none:Option HO)=some u:=z;cases z') (fun b z=>absurd rfl z) fun z=>absurd rfl z
 | none=>
  refine core (fun b=>if b=a then some (.frz { cls:=.type "list",data:=.seq vs.toArray } (.lst (ns.map V.int))) else none) (fun b=>?_) (.inl (.inr ⟨{ cls:=.type "list",data:=.seq vs.toArray },if_pos rfl⟩)) (fun b u z=>?_) (fun b z=>?_) fun _=>hk
  . by_cases hb:b=a
    . exact .inr ⟨_,_,if_pos hb⟩
    . exact .inl (if_neg hb)
  . by_cases hb:b=a
    . have z':=(if_pos hb).symm.trans z
      cases z'
      subst hb
      exact ⟨ha,by rw [length_map];exact hl,vs,_,rv,ha⟩
    . have z':=(if_neg hb).symm.trans z
      cases z'
  . by_cases hb:b=a
    . exact hb
    . exact absurd (if_neg hb) z
def ZlA{l:PySem.W.OpenLaw}{n k:Nat}{q:Program}{XP:(Str->Option Value)->Heap->Prop}{d:DefRec}{K:Params->Fg}{CX:World->CXT}{sp:World->Sp}{x:Str}
 (hn:l.most=some n) (hn2:n<=sizeLine) (hdf:d.params.defaults=[]) (hr:Room k callerA)
 (hY:∀(w:World)(h:Heap),YP w h->(K w.params).In h)
 (F:∀(w:World)(mg:SO)(fa:Addr)(h:Heap),(K w.params).In h->h.Ns mainGlobals mg->mg d.name=some (.ref fa)->
  ∃ fd:FuncData,(∀(s:Shared)(u:Value),BindsTo s fd ⟨[u],[]⟩ [(x,u)])/\
   ∀ base:Heap,(K w.params).In base->base.Ns mainGlobals mg->FnOk l.prog w (K w.params) mg base (CX w) k fa fd [x] (sp w))
 (hsp:∀(w:World)(H:Hp)(a:Addr)(ns:List Int),ns.length<=n->Only H->SqL (K w.params) H a (ns.map V.int)->sp w [.ref a] H (fun v _=>v=.bl true) fun _ _ _=>False)
 (hCX:∀(w:World)(H:Hp)(s:Shared)(e:Value)(s':Shared),CX w [] H s (fun _ _ _=>False) e s'->False):
 PySem.W.WalkO q loose XP YP l.row.toRowW d [] (fun f vs=>PySem.call f vs):=by
 refine Att.ZgA hn hdf fun w s₀ s₁ mg mb fa o pm cd doc a vs ns G Y ho hd hcd hmg hobj hints hlen hg=>?_
 have KX:=hY w _ Y
 obtain ⟨fd,hb,hF⟩:=F w mg fa _ KX G.T.g hmg
 exact ZjE KX G.T.g G.T.b G.T.builtins G.T.nolimit hg hobj hints (le_trans hlen hn2) hr hF hb (fun H hO hS=>hsp w H a ns hlen hO hS) fun H e s'=>hCX w H s₁ e s'
def ZjF{l:PySem.W.OpenLaw}{n k:Nat}{q:Program}{XP:(Str->Option Value)->Heap->Prop}{d:DefRec}{K:Params->Fg}{CX:CXT}{sp:Fg->Sp}{x:Str}
 (hn:l.most=some n) (hn2:n<=sizeLine) (hdf:d.params.defaults=[]) (hr:Room k callerA)
 (hY:∀(w:World)(h:Heap),YP w h->(K w.params).In h)
 (F:∀(w:World)(mg:SO)(fa:Addr)(h:Heap),(K w.params).In h->h.Ns mainGlobals mg->mg d.name=some (.ref fa)->
  ∃ fd:FuncData,(∀(s:Shared)(u:Value),BindsTo s fd ⟨[u],[]⟩ [(x,u)])/\
   ∀ base:Heap,(K w.params).In base->base.Ns mainGlobals mg->FnOk l.prog w (K w.params) mg base CX k fa fd [x] (sp (K w.params)))
 (hsp:∀(K:Fg)(H:Hp)(a:Addr)(ns:List Int),ns.length<=n->Only H->SqL K H a (ns.map V.int)->sp K [.ref a] H (fun v _=>v=.bl true) fun _ _ _=>False)
 (hCX:∀(H:Hp)(s:Shared)(e:Value)(s':Shared),CX [] H s (fun _ _ _=>False) e s'->False):
 PySem.W.WalkO q loose XP YP l.row.toRowW d [] (fun f vs=>PySem.call f vs):=
 ZlA (K:=K) (CX:=fun _=>CX) (sp:=fun w=>sp (K w.params)) hn hn2 hdf hr hY F (fun w H a ns h1 h2 h3=>hsp (K w.params) H a ns h1 h2 h3) fun _ H s e s'=>hCX H s e s'
noncomputable def Zaj(s:Stmt)(j:Nat):Stmt:=match s with
 | .ClassDef _ _ _ body _ _ _ _ _ _ _=>body.getD j (.Pass ⟨0,0,0,0⟩)
 | _=>.Pass ⟨0,0,0,0⟩
noncomputable def ZaS(s:Stmt):Arguments:=match s with
 | .FunctionDef _ a _ _ _ _ _ _ _ _=>a
 | _=>{ posonlyargs:=[],args:=[],vararg:=none,kwonlyargs:=[],kw_defaults:=[],kwarg:=none,defaults:=[] }
noncomputable def ZD(s:Stmt):List Stmt:=match s with
 | .FunctionDef _ _ b _ _ _ _ _ _ _=>b
 | _=>[]
noncomputable def Zl(s:Stmt):Scope:=match s with
 | .FunctionDef _ _ _ _ _ _ sc _ _ _=>sc
 | _=>{ kind:=.function,names:=[],isGenerator:=false,isCoroutine:=false }
noncomputable abbrev CX0:CXT:=fun _ _ _ _ _ _=>False
noncomputable abbrev E0:XK:=fun _ _ _=>False
def Zf8:Passes CX0 X E0:=fun _ _ _ _ _ _ _ h=>h.elim
structure FunV(dV:Value)(K:Fg)(x qual:Str)(st:Stmt)(f:Addr)(fd:FuncData):Prop where
 ex:∃(oc:Value)(od:Option Addr)(kV doc pm:Value)(an:Option Addr)(cdv ct:Value)(osl:Array (Option Value)),
  fd=fnOf x qual (ZaS st) (ZD st) (Zl st) dV kV doc pm an cdv ct/\K.lookup f=some ⟨oc,od,.func fd,osl⟩/\codeIn K cdv qual=true
 kp:keepIn K (.ref f)=true
noncomputable abbrev Fun:=FunV .none
section
variable{P:Program}{w:World}{K:Fg}
def FunV.ok{x:Str}{st:Stmt}{f:Addr}{k:Nat}{sp:Sp}(F:FunV dV K x qual st f fd)(S:FnScope N ps (Zl st))(len:∀ vs H Q E,sp vs H Q E->vs.length=ps.length)
 (hbody:∀(cdv:Value)(A:Around)(outer:List Env)(s:Shared)(H:Hp)(vs:List V)(Q:VK)(E:XK),Room k (A.deeper (envOfC qual (Zl st) s.heap.objs.size f cdv))->sp vs H Q E->
  ∃ t,PSs (cxOf CX0 P w K mg base N qual (Zl st) f cdv A outer s H E).nox (ZD st) t/\t { nx:=fun _ H'=>Q .non H',rt:=Q } (start N vs) H):FnOk P w K mg base CX0 (k+1) f fd ps sp:=by
 obtain ⟨oc,od,kV,doc,pm,an,cdv,ct,osl,rfl,lk,hcd⟩:=F.ex
 refine Zp4 lk hcd S len fun A outer s H vs Q E hr hsp=>?_
 obtain ⟨t,h,q⟩:=hbody cdv A outer s H vs Q E hr hsp
 exact ⟨t,h.nox,q⟩
def FunV.okH{x:Str}{st:Stmt}{f:Addr}{k:Nat}{sp:Sp}(F:FunV dV K x qual st f fd)(S:FnScope N ps (Zl st))(len:∀ vs H Q E,sp vs H Q E->vs.length=ps.length)
 (hbody:∀(cdv:Value)(A:Around)(outer:List Env)(s:Shared)(H:Hp)(vs:List V)(Q:VK)(E:XK)(p:Addr×Obj×HO),RoomH k (A.deeper (envOfC qual (Zl st) s.heap.objs.size f cdv))->A.handled=some (.ref p.1)->Lone p.2.1->sp vs H Q E->
  ∃ t,PSs ({ cxOf CX0 P w K mg base N qual (Zl st) f cdv A outer s H E with calm:=false,fz:=[p] }:Cx).nox (ZD st) t/\t { nx:=fun _ H'=>Q .non H',rt:=Q } (start N vs) H):FnOkH P w K mg base CX0 (k+1) f fd ps sp:=by
 obtain ⟨oc,od,kV,doc,pm,an,cdv,ct,osl,rfl,lk,hcd⟩:=F.ex
 refine Znt lk hcd S len fun A outer s H vs Q E p hr hh hl hsp=>?_
 obtain ⟨t,h,q⟩:=hbody cdv A outer s H vs Q E p hr hh hl hsp
 exact ⟨t,h.nox,q⟩
def FunV.binds{x:Str}{st:Stmt}{f:Addr}(F:Fun K x qual st f fd)
 (h:∀(kV doc pm:Value)(an:Option Addr)(cdv ct:Value)(us:List Value),us.length=ps.length->bindArgs (fnOf x qual (ZaS st) (ZD st) (Zl st) .none kV doc pm an cdv ct) ⟨us,[]⟩=pure (ps.zip us)):Binds K fd ps []:=by
 obtain ⟨oc,od,kV,doc,pm,an,cdv,ct,osl,rfl,lk,hcd⟩:=F.ex
 exact .all (h kV doc pm an cdv ct)
def ZfI{x:Str}{st:Stmt}{f:Addr}{od:Option Addr}{osl:Array (Option Value)}{kV:Value}(l:K.lookup f=some ⟨oc,od,.func (fnOf x qual (ZaS st) (ZD st) (Zl st) .none kV doc pm an cdv ct),osl⟩)
 (c:codeIn K cdv qual=true) (k:keepIn K (.ref f)=true):Fun K x qual st f (fnOf x qual (ZaS st) (ZD st) (Zl st) .none kV doc pm an cdv ct):=⟨⟨oc,od,kV,doc,pm,an,cdv,ct,osl,rfl,l,c⟩,k⟩
end
def Same(H H':Hp):Prop:=∀ b o,H b=some o->H' b=some o
def Same.refl(H:Hp):Same H H:=fun _ _ h=>h
def Same.trans(a:Same H H1)(b:Same H1 H2):Same H H2:=fun c o h=>b c o (a c o h)
def Same.seq{K:Fg}{a:Addr}{xs:List V}(e:Same H H')(h:SqL K H a xs):SqL K H' a xs:=by
 rcases h with (h|⟨o,h⟩)|h
 . exact .inl (.inl (e _ _ h))
 . exact .inl (.inr ⟨o,e _ _ h⟩)
 . exact .inr h
section
def ZiD:ZZ X (.builtin "len") (fun xs H Q=>∃ a kvs,xs=[V.ref a]/\H a=some (.dK kvs)/\Q (.int kvs.length) H):=by
 intro pins s σ H xs us Q I r h
 obtain ⟨a,kvs,rfl,ha,q⟩:=h
 obtain ⟨u,rfl,ru⟩:=Zei r
 cases ru
 exact ZpA I (.inl ha) fun t s' I'=>⟨.int kvs.length,H,I',⟨t,rfl⟩,q⟩
end
noncomputable def TB(T:Addr):HO:=.ext fun h=>∃ o ts,h.get? T=some o/\o.data=.fields ts/\3 < ts.size
def ZkI(e:h.get? T=some o)(d:o.data=.fields ts)(z:3 < ts.size):Z2 P w H h T (TB T):=
 ⟨⟨o,ts,e,d,z⟩,⟨o,e⟩,fun h1 h2 z90 k=>by obtain ⟨o,ts,e,d,z⟩:=z90;exact ⟨o,ts,k o e,d,z⟩⟩
structure FlyT(φ:Value->Prop)(H:Hp)(h:Heap)(ea:Addr):Prop where
 ex:∃(C:Addr)(dx:Option Addr)(fs:List (Str×V))(oe:Obj)(vs:Array Value)(T:Addr)(oT:Obj)(ts:Array Value)(fl:Value),H ea=some (.exc C dx false fs)/\h.get? ea=some oe/\oe.data=.fields vs/\vs.size=6/\vs[1]?=some (.ref T)/\
  H T=some (TB T)/\h.get? T=some oT/\oT.data=.fields ts/\ts[3]?=some fl/\φ fl
structure FlyN(H:Hp)(h:Heap)(ea:Addr):Prop where
 ex:∃(C:Addr)(dx:Option Addr)(fs:List (Str×V))(oe:Obj)(vs:Array Value),H ea=some (.exc C dx false fs)/\h.get? ea=some oe/\oe.data=.fields vs/\vs.size=6/\vs[1]?=some .none
def FlyT.mono(f:FlyT φ H h ea)(k:∀ v,φ v->ψ v):FlyT ψ H h ea:=by
 obtain ⟨C,dx,fs,oe,vs,T,oT,ts,fl,a1,a2,a3,a4,a5,a6,a7,a8,a9,a10⟩:=f.ex
 exact ⟨C,dx,fs,oe,vs,T,oT,ts,fl,a1,a2,a3,a4,a5,a6,a7,a8,a9,k _ a10⟩
def Fly(X:Cx)(H:Hp)(h:Heap)(ea:Addr):Prop:=FlyN H h ea\/FlyT (fun fl=>fl=.none\/fl=rawInt X.env.locals) H h ea
structure Fr0(X:Cx)(A:Around):Prop where
 stk:X.stack=X.env::X.outer
 frm:X.env.frame=some X.env.locals
 fms:A.frames=some X.stack
section
variable{A:Around}{M:Model}{E:VS}{σ:St}
def ZbY{h:Heap}{a:Addr}{o:Obj}{vs:Array Value}(f:Array Value->Array Value)(e:h.get? a=some o)(d:o.data=.fields vs):(h.update a (Obj.mapFields f)).get? a=some { o with data:=.fields (f vs) }:=by
 have q:Obj.mapFields f o={ o with data:=.fields (f vs) }:=by
  obtain ⟨c,di,da,sl⟩:=o
  cases d
  rfl
 rw [<- q]
 exact Heap.get?_update_self (Obj.mapFields f) e (Obj.isFreed_of_fields (vs:=f vs) (by rw [q]))
theorem Inv.excSet{C:Addr}{dx:Option Addr}{fr':Bool}{fs:List (Str×V)}{vs:Array Value}{f:Array Value->Array Value}(I:Inv X pins σ H s)(e1:H ea=some (.exc C dx fr fs))(e2:s.heap.get? ea=some oe)(e3:oe.data=.fields vs)(z:(f vs).size=6)
 (h2:(f vs)[2]?=vs[2]?) (hf:fr'=true->(f vs)[1]?=some .none):Inv X pins σ (upd H ea (.exc C dx fr' fs)) { s with heap:=s.heap.update ea (Obj.mapFields f) }:=by
 have g:=ZbY f e2 e3
 refine I.write (t':=s.toks) (x:=ea) (e:=ea) (by rw [e1];trivial) (.inl rfl) (fun b u hb q=>by rw [Heap.get?_update_other _ _ (Ne.symm hb)];exact q) ⟨_,g⟩ ?_
 obtain ⟨l,⟨o,vs',q1,q2,q3,q4,q5,q6⟩,r⟩:=(show Z2 X.prog X.w H s.heap ea (.exc C dx fr fs) from I.hok ea _ e1)
 rw [e2] at q1
 cases q1
 rw [e3] at q4
 cases q4
 refine ⟨l,⟨_,f vs,g,q2,q3,rfl,z,h2.trans q6.1,hf⟩,?_⟩
 cases dx with
 | none=>exact r
 | some d=>
  obtain ⟨r1,r2,mA,⟨od,es,ep,e4,c⟩,r3⟩:=r
  refine ⟨by rw [Zj r2];exact r1,r2,mA,⟨od,es,ep,by rw [Heap.get?_update_other _ _ (Ne.symm r2)];exact e4,c⟩,r3⟩
def ZfJ(e:H a=some o):upd H a o=H:=by
 funext b
 unfold upd
 split
 . rename_i q;subst q;exact e.symm
 . rfl
def Inv.tbSet{T:Addr}{oT:Obj}{ts:Array Value}{f:Array Value->Array Value}(I:Inv X pins σ H s)(e1:H T=some (TB T))(e2:s.heap.get? T=some oT)(e3:oT.data=.fields ts)(z:3 < (f ts).size):
 Inv X pins σ H { s with heap:=s.heap.update T (Obj.mapFields f) }:=by
 have g:=ZbY f e2 e3
 have J:Inv X pins σ (upd H T (TB T)) { s with heap:=s.heap.update T (Obj.mapFields f) }:=
  I.write (t':=s.toks) (x:=T) (e:=T) (by rw [e1];exact trivial) (.inl rfl) (fun b u hb q=>by rw [Heap.get?_update_other _ _ (Ne.symm hb)];exact q) ⟨_,g⟩ (ZkI g rfl z)
 rw [ZfJ e1] at J
 exact J
def ZkJ(e1:H ea=some (.exc C dx fr fs))(e2:H T=some (TB T)):T≠ea:=fun q=>by
 subst q
 rw [e1] at e2
 cases e2
def set6{vs:Array Value}{v:Value}{i:Nat}:(vs.setIfInBounds i v).size=vs.size:=Array.size_setIfInBounds
def ZfK{C:Addr}{dx:Option Addr}{fs:List (Str×V)}{vs:Array Value}{head:Value}{hadNext:Bool}(F:Fr0 X A)(I:Inv X pins σ H s)(e1:H ea=some (.exc C dx false fs))(e2:s.heap.get? ea=some oe)(e3:oe.data=.fields vs)(e4:vs.size=6):
 wpAny M A (do
  let a <- frameOf X.env
  let pl <- entryPlaceOf X.env.locals hadNext
  let b <- EntryCells.newEntry head a Value.none (rawInt ↑X.env.locals) Value.none pl
  setField (Value.ref ea) 1 b) (fun _ s'=>∃ H',Inv X pins σ H' s'/\Same H H'/\FlyT (fun fl=>fl=rawInt X.env.locals) H' s'.heap ea) E s:=by
 have hfr:A.frames=some (X.env::X.outer):=by rw [F.fms,F.stk]
 have hl:s.heap.FunFrames X.base (X.env::X.outer):=by rw [<- F.stk];exact I.stack
 refine wpAny_bind (wpAny_frameOf_fun hfr hl F.frm fun h₁ hs₁=>?_)
 have hfs:List.filterMap (fun x=>x.frame) (X.env::X.outer)=frs X.stack:=by rw [F.stk];rfl
 rw [hfs] at hs₁
 obtain ⟨_,k1,k2⟩:=hs₁
 have nfr:∀ b o,H b=some o->b∉frs X.stack:=fun b o e z=>by rw [I.stkFree b z] at e;cases e
 have un:Un (frs X.stack) [] H H s.heap h₁:=
  ⟨fun b o e n hb _=>by rw [k1 b hb];exact e,fun b o e n hb _=>k2 b o e,fun b o e n _=>n,fun b o e _=>let ⟨sl,q⟩:=k2 b o e;⟨_,q⟩,fun _ _ e=>e,fun _ _ _ e=>e,fun b ps e=>⟨#[],by rw [e];simp⟩⟩
 have hok1:HOk X.prog X.w H h₁:=fun a o e=>(I.hok a o e).stay (fun b u hb q=>by
  rw [k1 b]
  . exact q
  . rcases hb with z|z
    . rw [z];exact nfr a o e
    . exact nfr b _ z) (fun _ q=>q) fun _ _ q=>q
 have I1:Inv X pins σ H { s with heap:=h₁ }:=I.call (g':=s.gens) (d':=s.drawn) (t':=s.toks) un hok1 I.bare fun b z=>absurd z (by simp)
 have e2':h₁.get? ea=some oe:=by rw [k1 ea (nfr ea _ e1)];exact e2
 (refine wpAny_bind (wpAny_entryPlaceOf fun pl hpl=>?_))
 refine wpAny_bind ?_
 (unfold EntryCells.newEntry newFields)
 refine wpAny_newObj_type ?_ (IsPlace.sizeOk5 hpl _ _ _ _ _)
 have z4:3 < (([head,Value.ref X.env.locals,Value.none,rawInt ↑X.env.locals,Value.none]++if pl.isEmpty=true then replicate 6 Value.none else pl).toArray).size:=by simp
 have hg:=Heap.get?_push_size h₁ (o:={ cls:=Value.type "traceback",data:=.fields ([head,Value.ref X.env.locals,Value.none,rawInt ↑X.env.locals,Value.none]++if pl.isEmpty=true then replicate 6 Value.none else pl).toArray }) rfl
 have I2:=I1.laid (a:=h₁.objs.size) (o:=TB h₁.objs.size) (t':=s.toks) (h':=h₁.push { cls:=Value.type "traceback",data:=.fields ([head,Value.ref X.env.locals,Value.none,rawInt ↑X.env.locals,Value.none]++if pl.isEmpty=true then replicate 6 Value.none else pl).toArray })
  (fun b u q=>Heap.get?_push_of_some _ q) (Nat.le_refl _) (ZkI hg rfl z4)
 have hn:H h₁.objs.size=none:=I1.hok.fresh (Nat.le_refl _)
 have ne:ea≠h₁.objs.size:=ZN e1 hn
 have e1':upd H h₁.objs.size (TB h₁.objs.size) ea=some (.exc C dx false fs):=by rw [Zj ne];exact e1
 have e2'':=Heap.get?_push_of_some { cls:=Value.type "traceback",data:=.fields ([head,Value.ref X.env.locals,Value.none,rawInt ↑X.env.locals,Value.none]++if pl.isEmpty=true then replicate 6 Value.none else pl).toArray } e2'
 refine wpAny_setField e2'' e3 (by omega) ?_
 have I3:=Inv.excSet (fr':=false) (f:=fun x=>x.setIfInBounds 1 (Value.ref h₁.objs.size)) I2 e1' e2'' e3 (by rw [set6];exact e4) (by rw [getElem?_setIfInBounds];simp) (by simp)
 rw [ZfJ e1'] at I3
 refine ⟨_,I3,fun b o q=>by rw [Zj (ZN q hn)];exact q,⟨C,dx,fs,_,_,h₁.objs.size,_,_,rawInt X.env.locals,e1',ZbY _ e2'' e3,rfl,by rw [set6];exact e4,?_,Zk,(Heap.get?_update_other _ _ ne).trans hg,rfl,?_,rfl⟩⟩
 . rw [getElem?_setIfInBounds]
   simp [e4]
 . simp
def Zd5(F:Fr0 X A)(I:Inv X pins σ H s)(f:Fly X H s.heap ea):
 wpAny M A (noteFrame (.ref ea) X.env) (fun _ s'=>∃ H',Inv X pins σ H' s'/\Same H H'/\FlyT (fun fl=>fl=rawInt X.env.locals) H' s'.heap ea) E s:=by
 unfold noteFrame
 rw [F.frm]
 dsimp only
 rcases f with ⟨C,dx,fs,oe,vs,e1,e2,e3,e4,e5⟩|⟨C,dx,fs,oe,vs,T,oT,ts,fl,e1,e2,e3,e4,e5,e6,e7,e8,e9,e10⟩
 . refine wpAny_bind (wpAny_field e2 e3 e5 ?_)
   rw [if_neg (by decide)]
   exact ZfK F I e1 e2 e3 e4
 . refine wpAny_bind (wpAny_field e2 e3 e5 ?_)
   rw [if_pos (show (Value.ref T != Value.none)=true from rfl)]
   refine wpAny_bind (wpAny_field e7 e8 e9 ?_)
   have hz:3 < ts.size:=(Array.getElem?_eq_some_iff.mp e9).1
   rcases e10 with rfl|rfl
   . rw [if_neg (by simp [rawInt])]
     refine wpAny_bind (wpAny_setField e7 e8 hz ?_)
     have I1:=I.tbSet (f:=fun x=>x.setIfInBounds 3 Value.none) e6 e7 e8 (by rw [set6];exact hz)
     refine ZfK F I1 e1 ?_ e3 e4
     show (Heap.update _ _ _).get? _=_
     rw [Heap.get?_update_other _ _ (ZkJ e1 e6)]
     exact e2
   . rw [if_pos (by simp)]
     exact wpAny_pure ⟨H,I,Same.refl _,C,dx,fs,oe,vs,T,oT,ts,_,e1,e2,e3,e4,e5,e6,e7,e8,e9,rfl⟩
def ZaM{φ:Value->Prop}{o:Option Addr}(I:Inv X pins σ H s)(f:FlyT φ H s.heap ea):
 wpAny M A (setFlight (.ref ea) o) (fun _ s'=>Inv X pins σ H s'/\FlyT (fun fl=>fl=o.elim Value.none fun f=>rawInt f) H s'.heap ea) E s:=by
 obtain ⟨C,dx,fs,oe,vs,T,oT,ts,fl,e1,e2,e3,e4,e5,e6,e7,e8,e9,e10⟩:=f.ex
 unfold setFlight
 have hz:3 < ts.size:=(Array.getElem?_eq_some_iff.mp e9).1
 refine wpAny_bind (wpAny_field e2 e3 e5 ?_)
 rw [if_pos (show (Value.ref T != Value.none)=true from rfl)]
 refine wpAny_setField e7 e8 hz ?_
 have I1:=I.tbSet (f:=fun x=>x.setIfInBounds 3 (o.elim Value.none fun f=>rawInt f)) e6 e7 e8 (by rw [set6];exact hz)
 refine ⟨I1,C,dx,fs,oe,vs,T,_,_,_,e1,?_,e3,e4,e5,e6,ZbY _ e7 e8,rfl,?_,rfl⟩
 . show (Heap.update _ _ _).get? _=_
   rw [Heap.get?_update_other _ _ (ZkJ e1 e6)]
   exact e2
 . rw [getElem?_setIfInBounds]
   simp [hz]
def ZjG(F:Fr0 X A)(I:Inv X pins σ H s)(f:Fly X H s.heap ea):
 wpAny M A (leaving X.env (.ref ea)) (fun _ s'=>∃ H',Inv X pins σ H' s'/\Same H H'/\FlyT (fun fl=>fl=Value.none) H' s'.heap ea) E s:=by
 unfold leaving
 refine wpAny_bind (thn (Zd5 F I f) fun _ s1 z0=>?_)
 obtain ⟨H1,I1,k1,f1⟩:=z0
 exact thn (ZaM (o:=none) I1 f1) fun _ s2 z90=>by obtain ⟨I2,f2⟩:=z90;exact ⟨H1,I2,k1,f2⟩
structure EndX extends Ends where
 xc:Addr->St->Hp->Prop
abbrev TX:=EndX->St->Hp->Prop
def XP(X:Cx)(pins:Pn)(xc:Addr->St->Hp->Prop)(e:Value)(s':Shared):Prop:=
 X.xe e s'\/∃ ea σ' H',e=.ref ea/\Inv X pins σ' H' s'/\Fly X H' s'.heap ea/\∀ H'',Same H' H''->xc ea σ' H''
def PX(X:Cx)(st:Stmt)(t:TX):Prop:=
 ∀(pins:Pn)(s:Shared)(σ:St)(H:Hp)(D:EndX),Inv X pins σ H s->t D σ H->wpAny (model X.prog X.w) X.A (exec st X.env) (SP X pins D.toEnds) (XP X pins D.xc) s
def PXs(X:Cx)(st:List Stmt)(t:TX):Prop:=
 ∀(pins:Pn)(s:Shared)(σ:St)(H:Hp)(D:EndX),Inv X pins σ H s->t D σ H->wpAny (model X.prog X.w) X.A (execs st X.env) (SP X pins D.toEnds) (XP X pins D.xc) s
def PX.imp{st:Stmt}{t u:TX}(h:PX X st t)(k:∀ D σ H,u D σ H->t D σ H):PX X st u:=fun pins s σ H D I w=>h pins s σ H D I (k D σ H w)
def PXs.imp{st:List Stmt}{t u:TX}(h:PXs X st t)(k:∀ D σ H,u D σ H->t D σ H):PXs X st u:=fun pins s σ H D I w=>h pins s σ H D I (k D σ H w)
def PS.x{st:Stmt}{t:TS}(h:PS X st t):PX X st fun D=>t D.toEnds:=fun pins s σ H D I w=>wpAny_mono (h pins s σ H D.toEnds I w) (fun _ _ q=>q) fun _ _ q=>.inl q
def Znz(F:Fr0 X A)(hx:∀ e s,¬ X.xe e s):PassesOwn (model P w) A X.env (XP X pins xc):=fun e s' h=>by
 rcases h with h|⟨ea,σ',H',rfl,I,f,q⟩
 . exact absurd h (hx _ _)
 . refine wpAny_mono (Zd5 F I f) (fun _ s1 z90=>?_) fun _ _ z=>z
   obtain ⟨H1,I1,k1,f1⟩:=z90
   obtain ⟨C,dx,fs,oe,vs,T,oT,ts,fl,e1,e2,e3,e4,e5,e6,e7,e8,e9,e10⟩:=f1.ex
   show wpAny _ _ _ _ _ _
   refine wpAny_bind (wpAny_field e2 e3 e5 ?_)
   rw [if_neg (show ¬ (Value.ref T == Value.none)=true from Bool.false_ne_true)]
   refine thn (ZaM (o:=X.env.frame) I1 f1) fun _ s2 ⟨I2,f2⟩=>.inr ⟨ea,σ',H1,rfl,I2,.inr (f2.mono fun v hv=>.inr ?_),fun H2 k2=>q H2 (k1.trans k2)⟩
   rw [hv,F.frm]
   rfl
end
section
variable{A:Around}{σ:St}
def thnx(h:wpAny M A t Q X.xe s)(hQ:∀ a s,Q a s->Q' a s):wpAny M A t Q' (XP X pins xc) s:=wpAny_mono h hQ fun _ _ x=>.inl x
def ZpC(t u:TX):TX:=fun D σ H=>t { D with nx:=u D } σ H
def ZlB:PXs X [] fun D σ H=>D.nx σ H:=fun _ _ σ H _ I h=>wpAny_execs_nil ⟨σ,H,I,h⟩
theorem ZjH{st:Stmt}{rest:List Stmt}{t u:TX}(h1:PX X st t)(h2:PXs X rest u):PXs X (st::rest) (ZpC t u):=by
 intro pins s σ H D I h
 refine wpAny_execs_cons (thn (h1 pins s σ H { D with nx:=u D } I h) fun f s1 q=>?_)
 cases f with
 | next=>
  obtain ⟨σ',H',I',q⟩:=q
  exact h2 pins s1 σ' H' D I' q
 | ret v=>exact q
 | brk=>exact q
 | cont=>exact q
def tIfX(c:TT)(t u:TX):TX:=fun D σ H=>c σ H fun b H1=>if b=true then t D σ H1 else u D σ H1
theorem ZpD(hc:PT X c tc)(ha:PXs X a t)(hb:PXs X b u):PX X (.If c a b pos) (tIfX tc t u):=by
 intro pins s σ H D I h
 refine wpAny_If (thnx (hc pins s σ H _ I h) fun d s1 z0=>?_)
 obtain ⟨H1,I1,q1⟩:=z0
 cases d with
 | true=>exact ha pins s1 σ H1 D I1 q1
 | false=>exact hb pins s1 σ H1 D I1 q1
def XP.unpinned(h:XP X (pins++pl) xc e s):XP X pins xc e s:=by
 rcases h with h|⟨ea,σ',H',e,I,f,q⟩
 . exact .inl h
 . exact .inr ⟨ea,σ',H',e,I.unpinned,f,q⟩
def ZpE(wi:TI)(g:TG)(tb:TX):TX:=fun D σ H=>wi σ H fun J H1=>∃ W:Nat->Nat->St->Hp->Prop,(∃ m,W 0 m σ H1)/\∀ i m σ H,W i m σ H->
 (J.stop i H/\D.nx σ H)\/(J.go i H/\∃ N:St->Hp->Prop,(∀ σ' H',N σ' H'->∃ m',m' < m/\W (i+1) m' σ' H')/\∀ x H',J.yld i H x H'->g x σ H' fun σ2 H2=>tb { D with nx:=N,ct:=N,bk:=D.nx } σ2 H2)
def Zn0(F:Fr0 X X.A)(hx:∀ e s,¬ X.xe e s)(hc:X.calm=true)(hi:PI X tg iter wi)(hg:PG X tg g)(hb:PXs X body tb)
 (hs:∀ x,foldedSetIterable iter X.env x=pure x:=by intro _;rfl):PX X (.For tg iter body [] pos) (ZpE wi g tb):=by
 intro pins s σ H D I h
 have hp:PassesOwn (model X.prog X.w) X.A X.env (XP X pins D.xc):=Znz F hx
 refine wpAny_For (thnx (hi pins s σ H _ I h) fun v s1 h1=>thnx h1 fun itv s2 h2=>?_) hs
 obtain ⟨it,fp,tn,J,H2,e,I2,T,st2,f2,W,⟨m0,w0⟩,turn⟩:=h2
 subst e
 have stat:∀{H':Hp},(∀ b∈fp,H' b=none)->∀ b∈fp,FpOk X pins H' b:=fun hn b hb=>⟨hn b hb,(f2 b hb).2⟩
 refine codeAny_forLoop_any (fun n s'=>∃ i σ' H',Inv X pins σ' H' s'/\tn i s'.heap/\(∀ b∈fp,H' b=none)/\W i n σ' H') ?_ m0 ⟨0,σ,H2,I2,st2,fun b hb=>(f2 b hb).1,w0⟩
 rintro n s3 ⟨i,σ3,H3,I3,st3,fr3,w3⟩
 rcases turn i n σ3 H3 w3 with ⟨stop,qn⟩|⟨go,N,hN,step⟩
 . refine wpAny_passesOwn hp (thnx (T.done X rfl rfl rfl hc i pins s3 σ3 H3 X.xe I3 (stat fr3) st3 stop) fun r s4 z0=>?_)
   obtain ⟨hr,I4⟩:=z0
   subst hr
   exact wpAny_execs_nil ⟨σ3,H3,I4,qn⟩
 . refine wpAny_passesOwn hp (thnx (T.item X rfl rfl rfl hc i pins s3 σ3 H3 X.xe I3 (stat fr3) st3 go) fun r s4 z0=>?_)
   obtain ⟨u,hr,h4⟩:=z0
   subst hr
   refine wpAny_passesOwn hp (thnx h4 fun _ s5 z0=>?_)
   obtain ⟨x,H5,I5,r5,y5,st5,fr5⟩:=z0
   have I5':=I5.pinned (stat fr5) (T.obj _ _ st5)
   refine wpAny_passesOwn hp (thnx (hg _ s5 σ3 H5 x u _ I5' r5 (step x H5 y5)) fun _ s6 z0=>?_)
   obtain ⟨σ6,H6,I6,q6⟩:=z0
   refine wpAny_passesOwn hp (wpAny_mono (hb _ s6 σ6 H6 { D with nx:=N,ct:=N,bk:=D.nx } I6 q6) (fun f s7 q7=>?_) fun _ _ z=>z.unpinned)
   have again:∀{σ7:St}{H7:Hp},Inv X (pins++Zc7 fp s5.heap) σ7 H7 s7->N σ7 H7->∃ m,m < n/\∃ i σ' H',Inv X pins σ' H' s7/\tn i s7.heap/\(∀ b∈fp,H' b=none)/\W i m σ' H':=fun{σ7 H7} I7 n7=>by
    obtain ⟨m',hm,w7⟩:=hN σ7 H7 n7
    refine ⟨m',hm,i+1,σ7,H7,I7.unpinned,T.keep _ _ _ st5 fun b hb o e=>(I7.pin (b,o) (mem_append_right _ (mem_append_right _ (ZaR hb e)))).1,fun b hb=>?_,w7⟩
    obtain ⟨o,e,d⟩:=T.obj _ _ st5 b hb
    exact (I7.pin (b,o) (mem_append_right _ (mem_append_right _ (ZaR hb e)))).2.1
   cases f with
   | next=>obtain ⟨σ7,H7,I7,n7⟩:=q7;exact again I7 n7
   | cont=>obtain ⟨σ7,H7,I7,n7⟩:=q7;exact again I7 n7
   | brk=>obtain ⟨σ7,H7,I7,q7⟩:=q7;exact ⟨σ7,H7,I7.unpinned,q7⟩
   | ret v=>obtain ⟨x7,σ7,H7,I7,r7,q7⟩:=q7;exact ⟨x7,σ7,H7,I7.unpinned,r7,q7⟩
noncomputable def CXx(P:Program)(w:World):CXT:=fun outer H s E e s'=>∃ ea H',e=.ref ea/\s'.os=s.os/\AllBare s'.gens/\Un (frs outer) [] H H' s.heap s'.heap/\HOk P w H' s'.heap/\FlyT (fun fl=>fl=Value.none) H' s'.heap ea/\
 ∀ H'',Same H' H''->E (.ref ea) none H''
def Zn1{P:Program}{w:World}{K:Fg}{k:Nat}{f:Addr}{params:Arguments}{kV:Value}{od:Option Addr}
 {osl:Array (Option Value)} {N ps:List Str} {sp:Sp} (lk:K.lookup f=some ⟨oc,od,.func (fnOf name qual params body scope dV kV doc pm an cdv ct),osl⟩) (hcd:codeIn K cdv qual=true) (S:FnScope N ps scope)
 (len:∀ vs H Q E,sp vs H Q E->vs.length=ps.length)
 (hbody:∀(A:Around)(outer:List Env)(s:Shared)(H:Hp)(vs:List V)(Q:VK)(E:XK),Room k (A.deeper (envOfC qual scope s.heap.objs.size f cdv))->sp vs H Q E->
  ∃ t,(A.frames=some outer->PXs (cxOf CX0 P w K mg base N qual scope f cdv A outer s H E).nox body t)/\t { nx:=fun _ H'=>Q .non H',rt:=Q,xc:=fun ea _ H'=>E (.ref ea) none H' } (start N vs) H):
 FnOk P w K mg base (CXx P w) (k+1) f (fnOf name qual params body scope dV kV doc pm an cdv ct) ps sp:=by
 refine ⟨len,fun A outer s H args us vs Q E hr e0 hb r hsp=>?_⟩
 have hl:=len _ _ _ _ hsp
 have KX:K.In s.heap:=e0.mod.kin.keeps fun b o e=>(e0.bs b o e).1
 have lim:s.heap.NoLimit:=e0.mod.nolimit.keeps fun b o e=>(e0.bs b o e).1
 have hkind:∀ y∈ps.zip us,scope.names.lookup y.1=some .local\/(scope.names.lookup y.1=some .cell/\((cellsFrom (s.heap.objs.size+1) scope.names []).lookup y.1).isSome=true):=fun z90 hy=>by
  obtain ⟨n,v⟩:=z90
  rcases S.par n (of_mem_zip hy).1 with q|q
  . exact .inl q
  . exact .inr ⟨q,cellsFrom_some _ _ _ (.inl q)⟩
 refine codeAny_call_function hr.depth (KX _ _ lk) rfl S.co S.gen rfl (codeRec_of KX hcd) (hb _ _ _ _ ?_)
 refine wpAny_newFunctionEnv_cells S.kind hkind fun env he s1 x=>?_
 subst he
 refine ⟨lim.keeps x.toInCall.keep,codeAny_func ?_⟩
 obtain ⟨t,ht,hq⟩:=hbody A outer s H vs Q E (hr.deeper _) hsp
 have I:Inv (cxOf CX0 P w K mg base N qual scope f cdv A outer s H E) [] (start N vs) H s1:=Zfi S hr.hd e0 hl r x
 refine wpAny_mono (ht e0.frames [] s1 (start N vs) H _ (I.wish _) hq) (fun fl s' hs=>?_) fun e s' hs=>?_
 . have fin:∀{σ':St}{H':Hp}{v:V}{u:Value},Inv (cxOf CX0 P w K mg base N qual scope f cdv A outer s H E).nox [] σ' H' s'->RelV v u->Q v H'->CE outer P w H s Q u s':=
    fun{σ' H' v u} J rv q=>⟨v,H',J.os,J.bare,J.base,J.hok,rv,q⟩
   cases fl with
   | ret u=>
    obtain ⟨v,σ',H',J,rv,q⟩:=hs
    exact fin J rv q
   | next=>
    obtain ⟨σ',H',J,q⟩:=hs
    exact fin (v:=V.non) (u:=Value.none) J rfl q
   | brk=>
    obtain ⟨_,_,_,q⟩:=hs
    exact False.elim q
   | cont=>
    obtain ⟨_,_,_,q⟩:=hs
    exact False.elim q
 . rcases hs with hs|⟨ea,σ',H',rfl,J,fl,q⟩
   . exact False.elim hs
   . have F:Fr0 (cxOf CX0 P w K mg base N qual scope f cdv A outer s H E).nox (A.deeper (envOfC qual scope s.heap.objs.size f cdv)):=⟨rfl,rfl,Around.frames_deeper e0.frames⟩
     refine wpAny_mono (ZjG (M:=model P w) (E:=fun _ _=>False) F J fl) (fun _ s2 z91=>?_) fun _ _ z=>z.elim
     obtain ⟨H2,J2,k2,f2⟩:=z91
     exact ⟨ea,H2,rfl,J2.os,J2.bare,J2.base,J2.hok,f2,fun H'' k3=>q H'' (k2.trans k3)⟩
def EXP(X:Cx)(pins:Pn)(σ:St)(Ex:Addr->Hp->Prop)(e:Value)(s':Shared):Prop:=
 X.xe e s'\/∃ ea H',e=.ref ea/\Inv X pins σ H' s'/\Fly X H' s'.heap ea/\∀ H'',Same H' H''->Ex ea H''
abbrev TEX:=St->Hp->VK->(Addr->Hp->Prop)->Prop
def PEx(X:Cx)(e:Expr)(t:TEX):Prop:=
 ∀(pins:Pn)(s:Shared)(σ:St)(H:Hp)(Q:VK)(Ex:Addr->Hp->Prop),Inv X pins σ H s->t σ H Q Ex->wpAny (model X.prog X.w) X.A (eval e X.env) (EP X pins σ Q) (EXP X pins σ Ex) s
def PEx.imp(h:PEx X e t)(k:∀ σ H Q Ex,u σ H Q Ex->t σ H Q Ex):PEx X e u:=fun pins s σ H Q Ex I w=>h pins s σ H Q Ex I (k σ H Q Ex w)
def thne(h:wpAny M A t Q X.xe s)(hQ:∀ a s,Q a s->Q' a s):wpAny M A t Q' (EXP X pins σ Ex) s:=wpAny_mono h hQ fun _ _ x=>.inl x
def EXP.xp(h:EXP X pins σ Ex e s)(k:∀ ea H',Ex ea H'->xc ea σ H'):XP X pins xc e s:=by
 rcases h with h|⟨ea,H',e,I,f,q⟩
 . exact .inl h
 . exact .inr ⟨ea,σ,H',e,I,f,fun H'' z=>k ea H'' (q H'' z)⟩
theorem Zhi(F:FnOk X.prog X.w X.K X.mg X.base (CXx X.prog X.w) k f fd ps sp)(hr:Room k X.A)(hb:Binds X.K fd ps ds)(hd:Vals dvs ds)
 (I:Inv X pins σ H s) (r:Vals vs us) (h:sp (vs++dvs) H Q (fun v _ H'=>∃ ea,v=.ref ea/\Ex ea H')):wpAny (model X.prog X.w) X.A (call (.ref f) us) (EP X pins σ Q) (EXP X pins σ Ex) s:=by
 have r2:Vals (vs++dvs) (us++ds):=r.append hd
 have hl:(us++ds).length=ps.length:=by rw [<- r2.length];exact F.len _ _ _ _ h
 refine wpAny_call (codeAny_mono (F.run X.A X.stack s H ⟨us,[]⟩ (us++ds) (vs++dvs) Q _ hr I.env0 (hb s us I.kIn hl) r2 h) fun r s' hq=>?_)
 cases r with
 | error e=>
  obtain ⟨ea,H',rfl,os,bare,un,hok,fl,q⟩:=hq
  refine .inr ⟨ea,H',rfl,I.call' (ch:=[]) os un hok bare fun b z=>absurd z (by simp),.inr (fl.mono fun v z=>.inl z),fun H'' z=>?_⟩
  obtain ⟨ea',e,q⟩:=q H'' z
  cases e
  exact q
 | ok fl=>
  cases fl with
  | ret u=>exact I.after hq
  | next=>exact False.elim hq
  | brk=>exact False.elim hq
  | cont=>exact False.elim hq
noncomputable def Zn2(sp:Sp)(dvs:List V)(t:TA):TEX:=fun σ H Q Ex=>t σ H fun vs H1=>sp (vs++dvs) H1 Q (fun v _ H'=>∃ ea,v=.ref ea/\Ex ea H')
def ZjI(F:FnOk X.prog X.w X.K X.mg X.base (CXx X.prog X.w) k f fd ps sp)(hr:Room k X.A)(hg:Gl X x)(hm:X.mg x=some (.ref f))(hk:keepIn X.K (.ref f)=true)(hb:Binds X.K fd ps ds)(hd:Vals dvs ds)
 (ha:PA X (e::es) t) (hdb:autoParam ((x == ("__debug__":Str))=false) Q7) (he:autoParam (SE X e es) Q9) (hpl:autoParam (SFx X pos es) Q9):
 PEx X (.Call (.Name x p) (e::es) [] pos) (Zn2 sp dvs t):=by
 intro pins s σ H Q Ex I h
 refine wpAny_Call_Name_kw (ZaQ I hg hm ?_ hdb)
 refine callWith_K (h₀:=X.base) I.ok.mod.kin hk (thne (ha pos pins s σ H _ I h) fun us s1 ⟨vs,H1,I1,r,q⟩=>⟨I1.kIn,?_⟩) he hpl
 exact Zhi F hr hb hd I1 r q
def ZlC(he:PEx X e te)(hs:autoParam (swapsWith e none pos.line X.env=pure false) Q9):PX X (.Expr e pos) fun D σ H=>te σ H (fun _ H1=>D.nx σ H1) (fun ea H1=>D.xc ea σ H1):=by
 intro pins s σ H D I h
 exact wpAny_Expr_any (wpAny_mono (he pins s σ H _ _ I h) (fun v s1 z90=>by obtain ⟨x,H1,I1,r1,q1⟩:=z90;exact ⟨σ,H1,I1,q1⟩) fun _ _ z=>z.xp fun _ _ q=>q) I.quiet hs
end
noncomputable def bmV:List Value:=[.type "ValueError",.type "Exception",.type "BaseException",.type "object"]
noncomputable def ZbD:List Value->Bool
 | .ref _::l=>ZbD l
 | l=>l == bmV
theorem Zde(hv:bmV.contains v=true):∀{l:List Value},ZbD l=true->l.contains v=true
 | [],h=>by unfold ZbD at h;exact absurd h (by decide)
 | x::l,h=>by
  cases x with
  | ref a=>
   rw [List.contains_cons,Zde (l:=l) hv h,Bool.or_true]
  | _=>rw [beq_iff_eq.mp (show (_::l == bmV)=true from h)];exact hv
theorem Zdf(self:Value):∀{l:List Value},ZbD l=true->refuseLoop self (Str.ofString "__setattr__") l=pure ()
 | [],h=>by unfold ZbD at h;exact absurd h (by decide)
 | x::l,h=>by
  cases x with
  | ref a=>rw [refuseLoop_ref];exact Zdf self (l:=l) h
  | _=>rw [beq_iff_eq.mp (show (_::l == bmV)=true from h)];exact F.store_ValueError.passes self
structure XC(K:Fg)(C:Addr):Prop where
 obj:∃(nm q:Str)(N:Addr)(bs bm:List Value)(sn:List Str)(sub:List Value)(ab:Bool)(col:Option Bool)(dd:Option Addr)(k0 k1 k2 k3 k5:Option Value),
  K.lookup C=some (excClassObj nm q C N bs bm true sn sub ab col dd k0 k1 k2 k3 k5 "ValueError.__new__")/\tailIn K bmV bm=true/\ZbD bm=true
 sa:findIn K (.ref C) (Str.ofString "__setattr__")=some (some (.builtin "object.__setattr__"))
 ga:findIn K (.ref C) (Str.ofString "__getattribute__")=some (some (.builtin "BaseException.__getattribute__"))
 kp:keepIn K (.ref C)=true
section
variable{w:World}{A:Around}{E:VS}{K:Fg}{C f x:Addr}{h:Heap}{g:Array GenState}{d:Drawn}{t:Nat}{rest:List Value}
noncomputable abbrev ZI(C t:Addr):Obj:={ cls:=.ref C,data:=.fields #[.ref t,.none,.none,.none,.bool false,.none] }
noncomputable abbrev ZF(vs:List Value):Obj:={ cls:=.type "tuple",data:=.seq vs.toArray }
def ZiE(X:XC K C)(hK:K.In h)(hi:findIn K (.ref C) (Str.ofString "__init__")=some (some (.ref f)))(hf:typeIn K (.ref f)=some (.type "function"))(hr:rest.length<=sizeLine)
 (hq:wpAny (model prog w) (A.under (.builtin "type.__call__" ⟨.ref C::rest,[]⟩)) (call (.ref f) (.ref (h.objs.size+1)::rest)) (fun r s'=>r=.none/\Q (.ref (h.objs.size+1)) s') E ⟨(h.push (ZF rest)).push (ZI C h.objs.size),g,d,t,os⟩):wpAny (model prog w) A (call (.ref C) rest) Q E ⟨h,g,d,t,os⟩:=by
 obtain ⟨nm,q,N,bs,bm,sn,sub,ab,col,dd,k0,k1,k2,k3,k5,lk,tl,tv⟩:=X.obj
 have hC:h.get? C=some (excClassObj nm q C N bs bm true sn sub ab col dd k0 k1 k2 k3 k5 "ValueError.__new__"):=hK _ _ lk
 have T:OwnTail h bmV bm:=tail_of_in hK tl
 have f1:=tc_lookup
 have f2:=tc_bind (.ref C)
 have hT:Shared.TypeIs ⟨h,g,d,t,os⟩ (.ref C) "type":=⟨_,hC,rfl⟩
 (refine wpAny_call (codeAny_of_tree ?_))
 refine wpAny_bind (wpAny_load' hC ?_)
 refine wpAny_bind (wpAny_specialOf hT f1 (wpAny_bind (wpAny_of_eq f2 (wpAny_bind (wpAny_pure (wpAny_ite_true rfl (wpAny_pure ⟨rfl,?_⟩)))))))
 refine codeAny_call_builtin_at (Code.quiet_builtin _ (by decide +kernel)) entry_typeCall (wpAny_check_type_call_sub hC ?_)
 show wpAny _ _ (Builtin.«type.__call__» ⟨Value.ref C::rest,[]⟩) _ _ _
 (unfold Builtin.«type.__call__»)
 refine wpAny_ite_false rfl ?_
 refine wpAny_bind (wpAny_bind (wpAny_bind (wpAny_load' hC (wpAny_pure (wpAny_pure (wpAny_ite_false rfl (wpAny_bind (wpAny_madeBy_exc hC (wpAny_bind (wpAny_pure (wpAny_bind (wpAny_holding (wpAny_call ?_)))))))))))))
 have F:=F.excBase_ValueError
 have hB:bmV.contains (Value.type "ValueError")=true:=by decide +kernel
 refine codeAny_call_builtin_code (Code.quiet_builtin _ F.quiet) (wpAny_check_new_subU F hB T hC (codeAny_exc_new_subU F hB F T hC ?_ hr))
 have kk:∀ b o,h.get? b=some o->((h.push (ZF rest)).push (ZI C h.objs.size)).get? b=some o:=fun b o e=>Heap.get?_push_of_some _ (Heap.get?_push_of_some _ e)
 have hC₁:=kk _ _ hC
 have hget:((h.push (ZF rest)).push (ZI C h.objs.size)).get? (h.objs.size+1)=some (ZI C h.objs.size):=Heap.get?_push_at (by simp) rfl
 have J:PySem.W.InstAt ((h.push (ZF rest)).push (ZI C h.objs.size)) (h.objs.size+1) (ZI C h.objs.size) C none:=⟨hget,rfl,rfl,trivial⟩
 show wpAny _ _ _ _ _ _
 refine wpAny_bind (wpAny_bind (wpAny_bind (wpAny_loadPart_at hget (wpAny_pure (wpAny_isSubtype_exc hC₁ ?_)))))
 rw [show (Value.ref C::bm).contains (Value.ref C)=true by simp]
 refine wpAny_ite_false rfl (wpAny_bind (wpAny_holding (PySem.W.special_fn (hK.keeps kk) J hi hf (wpAny_mono hq (fun r s' z90=>?_) fun _ _ z=>z))))
 obtain ⟨e,q⟩:=z90
 subst e
 exact wpAny_ite_false rfl (wpAny_pure q)
def Zep(X:XC K C)(hK:K.In h)(he:h.get? e=some oe)(hc:oe.cls=.ref C)(hd:oe.data=.fields vs)(hz:vs.size=6)(hr:rest.length<=sizeLine)
 (hq:Q .none ⟨(h.push (ZF rest)).update e (Obj.mapFields fun x=>x.setIfInBounds 0 (.ref h.objs.size)),g,d,t,os⟩):
 wpAny (model prog w) A (call (.builtin "ValueError.__init__") (.ref e::rest)) Q E ⟨h,g,d,t,os⟩:=by
 obtain ⟨nm,q,N,bs,bm,sn,sub,ab,col,dd,k0,k1,k2,k3,k5,lk,tl,tv⟩:=X.obj
 have hC:h.get? C=some (excClassObj nm q C N bs bm true sn sub ab col dd k0 k1 k2 k3 k5 "ValueError.__new__"):=hK _ _ lk
 have T:OwnTail h bmV bm:=tail_of_in hK tl
 have F:=F.excBase_ValueError
 have he':=Heap.get?_push_of_some (ZF rest) he
 refine wpAny_call (codeAny_call_builtin F.init.plain F.initEntry (wpAny_check_init_subU F T hC he hc ?_))
 (unfold Builtin.«BaseException.__init__»)
 refine wpAny_ite_false rfl (wpAny_bind (wpAny_newTuple ?_ hr))
 refine wpAny_bind ?_
 unfold Builtin.BaseException.bexcPut
 obtain ⟨v0,h0⟩:∃ v0,vs[0]?=some v0:=⟨_,Array.getElem?_eq_getElem (by omega)⟩
 refine wpAny_bind (wpAny_field he' hd h0 (wpAny_bind (wpAny_setField he' hd (by omega) ?_)))
 cases v0<;>first
  | exact wpAny_letGo (wpAny_pure hq)
  | exact wpAny_pure (wpAny_pure hq)
def ZiF(X:XC K C)(hK:K.In h)(hi:findIn K (.ref C) (Str.ofString "__init__")=some (some (.builtin "ValueError.__init__")))(hr:rest.length<=sizeLine)
 (hq:Q (.ref (h.objs.size+1)) ⟨(((h.push (ZF rest)).push (ZI C h.objs.size)).push (ZF rest)).update (h.objs.size+1) (Obj.mapFields fun x=>x.setIfInBounds 0 (.ref (h.objs.size+2))),g,d,t,os⟩):wpAny (model prog w) A (call (.ref C) rest) Q E ⟨h,g,d,t,os⟩:=by
 obtain ⟨nm,q,N,bs,bm,sn,sub,ab,col,dd,k0,k1,k2,k3,k5,lk,tl,tv⟩:=X.obj
 have hC:h.get? C=some (excClassObj nm q C N bs bm true sn sub ab col dd k0 k1 k2 k3 k5 "ValueError.__new__"):=hK _ _ lk
 have T:OwnTail h bmV bm:=tail_of_in hK tl
 have f1:=tc_lookup
 have f2:=tc_bind (.ref C)
 have hT:Shared.TypeIs ⟨h,g,d,t,os⟩ (.ref C) "type":=⟨_,hC,rfl⟩
 (refine wpAny_call (codeAny_of_tree ?_))
 refine wpAny_bind (wpAny_load' hC ?_)
 refine wpAny_bind (wpAny_specialOf hT f1 (wpAny_bind (wpAny_of_eq f2 (wpAny_bind (wpAny_pure (wpAny_ite_true rfl (wpAny_pure ⟨rfl,?_⟩)))))))
 refine codeAny_call_builtin_at (Code.quiet_builtin _ (by decide +kernel)) entry_typeCall (wpAny_check_type_call_sub hC ?_)
 show wpAny _ _ (Builtin.«type.__call__» ⟨Value.ref C::rest,[]⟩) _ _ _
 (unfold Builtin.«type.__call__»)
 refine wpAny_ite_false rfl ?_
 refine wpAny_bind (wpAny_bind (wpAny_bind (wpAny_load' hC (wpAny_pure (wpAny_pure (wpAny_ite_false rfl (wpAny_bind (wpAny_madeBy_exc hC (wpAny_bind (wpAny_pure (wpAny_bind (wpAny_holding (wpAny_call ?_)))))))))))))
 have F:=F.excBase_ValueError
 have hB:bmV.contains (Value.type "ValueError")=true:=by decide +kernel
 refine codeAny_call_builtin_code (Code.quiet_builtin _ F.quiet) (wpAny_check_new_subU F hB T hC (codeAny_exc_new_subU F hB F T hC ?_ hr))
 have kk:∀ b o,h.get? b=some o->((h.push (ZF rest)).push (ZI C h.objs.size)).get? b=some o:=fun b o e=>Heap.get?_push_of_some _ (Heap.get?_push_of_some _ e)
 have hC₁:=kk _ _ hC
 have hget:((h.push (ZF rest)).push (ZI C h.objs.size)).get? (h.objs.size+1)=some (ZI C h.objs.size):=Heap.get?_push_at (by simp) rfl
 have J:PySem.W.InstAt ((h.push (ZF rest)).push (ZI C h.objs.size)) (h.objs.size+1) (ZI C h.objs.size) C none:=⟨hget,rfl,rfl,trivial⟩
 show wpAny _ _ _ _ _ _
 refine wpAny_bind (wpAny_bind (wpAny_bind (wpAny_loadPart_at hget (wpAny_pure (wpAny_isSubtype_exc hC₁ ?_)))))
 rw [show (Value.ref C::bm).contains (Value.ref C)=true by simp]
 refine wpAny_ite_false rfl (wpAny_bind (wpAny_holding ?_))
 refine wpAny_bind (wpAny_bind (here J.type (here (looks_findIn (hK.keeps kk) hi) (wpAny_holding (wpAny_bind (wpAny_of_eq (F.init.bind _) (wpAny_bind ?_)))))))
 refine Zep (vs:=#[.ref h.objs.size,.none,.none,.none,.bool false,.none]) X (hK.keeps kk) hget rfl rfl rfl hr ?_
 refine wpAny_pure (wpAny_ite_false rfl (wpAny_pure ?_))
 have z:((h.push (ZF rest)).push (ZI C h.objs.size)).objs.size=h.objs.size+2:=by simp
 rw [z]
 exact hq
def ZiG(hh:A.handled=none)
 (hx:wpAny M A y (fun v s₁=>∃(K:Fg)(C e:Addr)(oe:Obj)(vs:Array Value),XC K C/\K.In s₁.heap/\v=.ref e/\s₁.heap.get? e=some oe/\oe.cls=.ref C/\oe.data=.fields vs/\vs[1]?=some .none/\E (.ref e) s₁) E s):
 wpAny M A (raiseStmt env (some y) none) Q E s:=by
 unfold raiseStmt
 refine wpAny_bind (thn hx fun v s₁ z0=>?_)
 obtain ⟨K,C,e,oe,vs,X,hK,hv,he,hc,hd,h1,q⟩:=z0
 subst hv
 obtain ⟨nm,q',N,bs,bm,sn,sub,ab,col,dd,k0,k1,k2,k3,k5,lk,tl,tv⟩:=X.obj
 have hC:=hK _ _ lk
 have hbe:(Value.ref C::bm).contains (.type "BaseException")=true:=by rw [List.contains_cons,Zde (by decide +kernel) tv,Bool.or_true]
 (obtain ⟨hp,g,d,tk,os⟩:=s₁)
 obtain ⟨oc,odx,oda,osl⟩:=oe
 have hc:oc=.ref C:=hc
 have hd:oda=.fields vs:=hd
 subst hc hd
 refine wpAny_bind (wpAny_pure (wpAny_bind (wpAny_holding ?_)))
 unfold excFromValue
 refine wpAny_bind ?_
 unfold isExcClass
 refine wpAny_bind ?_
 refine wpAny_bind (wpAny_loadPart_at he (wpAny_pure (wpAny_ite_false rfl (wpAny_pure (wpAny_ite_false rfl (wpAny_bind ?_))))))
 refine wpAny_bind (wpAny_bind (wpAny_loadPart_at he (wpAny_pure (wpAny_isSubtype_exc hC ?_))))
 rw [hbe]
 refine wpAny_ite_true rfl (wpAny_pure (wpAny_bind (wpAny_bind (wpAny_loadPart_at he (wpAny_pure (wpAny_ite_false rfl (wpAny_bind ?_)))))))
 unfold raisedInstance
 refine wpAny_bind (wpAny_bind (wpAny_loadPart_at he (wpAny_pure (wpAny_bind (wpAny_bind (wpAny_loadPart_at hC (wpAny_pure ?_)))))))
 refine wpAny_ite_true rfl (wpAny_pure (wpAny_bind ?_))
 unfold setFlight
 refine wpAny_bind (wpAny_field he rfl h1 (wpAny_ite_false rfl (wpAny_pure ?_)))
 exact wpAny_raiseNew_none hh q
end
section
variable{w:World}{A:Around}{E:VS}{K:Fg}{C f a:Addr}{h:Heap}{g:Array GenState}{d:Drawn}{t:Nat}{rest:List Value}{od:Option Obj}{v:Value}
def ZeI:bmV.contains (.type "BaseException")=true:=by decide +kernel
def ZiH:bmV.contains (.type "object")=true:=by decide +kernel
def ZjJ:builtinKind "BaseException.__getattribute__"=some Manifest.AttrKind.slot:=by decide +kernel
def ZiI:splitId "BaseException.__getattribute__"=some ("BaseException","__getattribute__"):=by decide +kernel
def Zfn(sub:Looks M s.heap (isInstance (.ref a) (.type "BaseException")) true)(hq:Q () s):wpAny M A (checkBuiltinCall "BaseException.__getattribute__" ⟨[.ref a,nv],[]⟩) Q E s:=
 (@PySem.W.check_slot M A E s "BaseException.__getattribute__" "BaseException" "__getattribute__" (.ref a) [nv] [] Q ZjJ ZiI sub) (F.args_bexc_ga (.ref a) nv) hq
def XC.cls(X:XC K C):∃ cd bm,clsIn K C=some cd/\cd.mro=.ref C::bm/\ZbD bm=true/\cd.hasDict=true:=by
 obtain ⟨nm,q,N,bs,bm,sn,sub,ab,col,dd,k0,k1,k2,k3,k5,lk,tl,tv⟩:=X.obj
 exact ⟨_,bm,by unfold clsIn;rw [lk],rfl,tv,rfl⟩
def XC.sub(X:XC K C)(hn:bmV.contains (.type n)=true):mroIn K C (.type n)=some true:=by
 obtain ⟨cd,bm,h1,h2,h3,_⟩:=X.cls
 unfold mroIn
 rw [h1]
 show (if cd.mro.isEmpty=true then none else some (cd.mro.contains (.type n)))=_
 rw [h2,if_neg (by simp),List.contains_cons,Zde hn h3,Bool.or_true]
def Zn3(X:XC K C)(hK:K.In h)(J:PySem.W.InstAt h a oe C od)(hf:findObj K C od name=some (.value v))(hr:R (.ok (.ret v)) ⟨h,g,d,t,os⟩):
 codeAny (model prog w) A (.call (.builtin "BaseException.__getattribute__") ⟨[.ref a,.str name tk],[]⟩) R ⟨h,g,d,t,os⟩:=by
 have FA:=F.attrBase_ValueError
 have sub:Looks (model prog w) h (isInstance (.ref a) (.type "BaseException")) true:=andThen J.type (looks_mroIn hK (X.sub ZeI))
 refine codeAny_call_builtin FA.ga.plain F.entry_bexc_ga ?_
 refine Zfn sub ?_
 (unfold Builtin.«object.__getattribute__»)
 refine wpAny_bind (wpAny_of_eq (a:=(Value.ref a,[Value.str name tk])) rfl ?_)
 refine wpAny_bind (wpAny_pure (wpAny_bind (PySem.W.Looks.at J.type (wpAny_bind (PySem.W.Looks.at (PySem.W.looks_find hK J hf) (wpAny_pure hr))))))
def Zn4(X:XC K C)(hK:K.In h)(J:PySem.W.InstAt h a oe C od)(ha:findIn K (.ref C) "__class__"=some (some (.builtin "object.__class__")))
 (hn:specialIn K (.builtin "object.__class__") "__get__"=some (some (.builtin "getset_descriptor.__get__"))) (htk:takesIn K (.builtin "object.__class__")=some true) (hr:R (.ok (.ret (.ref C))) ⟨h,g,d,t,os⟩):
 codeAny (model prog w) A (.call (.builtin "BaseException.__getattribute__") ⟨[.ref a,.str (Str.ofString "__class__") tk],[]⟩) R ⟨h,g,d,t,os⟩:=by
 have FA:=F.attrBase_ValueError
 obtain ⟨cd,bm,h1,h2,h3,_⟩:=X.cls
 have hf:findObj K C od "__class__"=some (.bind (.builtin "getset_descriptor.__get__") (.builtin "object.__class__")):=by
  unfold findObj
  rw [h1,ha]
  simp only [bind_some]
  rw [hn]
  simp only [bind_some]
  rw [htk]
  rfl
 have sub:Looks (model prog w) h (isInstance (.ref a) (.type "BaseException")) true:=andThen J.type (looks_mroIn hK (X.sub ZeI))
 refine codeAny_call_builtin FA.ga.plain F.entry_bexc_ga ?_
 refine Zfn sub ?_
 (unfold Builtin.«object.__getattribute__»)
 refine wpAny_bind (wpAny_of_eq (a:=(Value.ref a,[Value.str (Str.ofString "__class__") tk])) rfl ?_)
 refine wpAny_bind (wpAny_pure (wpAny_bind (PySem.W.Looks.at J.type (wpAny_bind (PySem.W.Looks.at (PySem.W.looks_find hK J hf) ?_)))))
 exact wpAny_bind (wpAny_holding (wpAny_call (PySem.W.class_get hK J (X.sub ZiH) (wpAny_pure hr))))
def ZkK{tk:Tok}{fill:Bool}{Q:VS}(X:XC K C)(hK:K.In h)(J:PySem.W.InstAt h a oe C od)(hg:findIn K (.ref C) (Str.ofString "__getattr__")=some none)(hv:handedIn v=true)
 (hr:∀ R:Result->Shared->Prop,R (.ok (.ret v)) ⟨h,g,d,t,os⟩->codeAny (model prog w) A (.call (.builtin "BaseException.__getattribute__") ⟨[.ref a,.str name tk],[]⟩) R ⟨h,g,d,t,os⟩) (hq:Q v ⟨h,g,d,t,os⟩):
 wpAny (model prog w) A (getAttrBy (.ref a) (.str name tk) fill expr) Q E ⟨h,g,d,t,os⟩:=by
 have FA:=F.attrBase_ValueError
 (have hx0:(expr && onTheHeap (Value.builtin "BaseException.__getattribute__"))=false:=by cases expr<;>rfl)
 unfold getAttrBy
 refine wpAny_holding (wpAny_bind (PySem.W.Looks.at J.type (wpAny_bind (PySem.W.Looks.at (looks_findIn hK X.ga) (wpAny_ite_false (by show decide ((true && (Value.builtin "BaseException.__getattribute__" == Value.builtin "object.__getattribute__"))=true)=false;decide +kernel) ?_)))))
 unfold getAttrByItsOwn
 refine wpAny_bind (?_:wpAny _ _ (hookBefore _) _ _ _)
 unfold hookBefore
 refine wpAny_ite_true rfl (PySem.W.Looks.at (looks_findIn hK hg) (wpAny_bind (wpAny_attempt (wpAny_holding ?_))))
 unfold callGetattribute
 rw [hx0]
 refine wpAny_ite_false rfl ?_
 unfold boundAndCalled
 refine wpAny_bind (wpAny_of_eq (FA.ga.bind _) (wpAny_call (hr _ ?_)))
 exact PySem.W.handed_on hv hq
def ZlD{Q:VS}(X:XC K C)(hK:K.In s.heap)(J:PySem.W.InstAt s.heap a oe C od)(hg:findIn K (.ref C) (Str.ofString "__getattr__")=some none)(hv:handedIn v=true)
 (hf:findObj K C od name=some (.value v)) (hq:Q v { s with toks:=s.toks+1 }):wpAny (model prog w) A (getAttr (.ref a) name expr) Q E s:=by
 obtain ⟨h,g,d,t,os⟩:=s
 unfold getAttr
 exact wpAny_bind (wpAny_mkText (ZkK X hK J hg hv (fun R hr=>Zn3 X hK J hf hr) hq))
def ZjK{Q:Option Value->Shared->Prop}(X:XC K C)(hK:K.In s.heap)(J:PySem.W.InstAt s.heap a oe C od)(hg:findIn K (.ref C) (Str.ofString "__getattr__")=some none)(ha:findIn K (.ref C) "__class__"=some (some (.builtin "object.__class__")))
 (hn:specialIn K (.builtin "object.__class__") "__get__"=some (some (.builtin "getset_descriptor.__get__"))) (htk:takesIn K (.builtin "object.__class__")=some true) (hq:Q (some (.ref C)) { s with toks:=s.toks+1 }):
 wpAny (model prog w) A (getAttr? (.ref a) (Str.ofString "__class__")) Q E s:=by
 obtain ⟨h,g,d,t,os⟩:=s
 unfold getAttr?
 (refine wpAny_bind (wpAny_mkText ?_))
 unfold getAttrBy?
 exact wpAny_bind (wpAny_attempt (ZkK (v:=.ref C) X hK J hg rfl (fun R hr=>Zn4 X hK J ha hn htk hr) (wpAny_pure hq)))
structure XD(K:Fg)(C:Addr):Prop extends XC K C where
 hk:findIn K (.ref C) (Str.ofString "__getattr__")=some none
 hc:findIn K (.ref C) "__class__"=some (some (.builtin "object.__class__"))
 hn:specialIn K (.builtin "object.__class__") "__get__"=some (some (.builtin "getset_descriptor.__get__"))
 ht:takesIn K (.builtin "object.__class__")=some true
def ZjL(X:XD K C):PySem.W.KitX K (.ref a) (.ref C) fun h=>PySem.W.InstAt h a oe C od where
 ty:=fun M h hK J=>J.type
 it:=fun M h hK J=>by
  obtain ⟨nm,q,N,bs,bm,sn,sub,ab,col,dd,k0,k1,k2,k3,k5,lk,tl,tv⟩:=X.obj
  exact fun A Q E s k hq=>wpAny_bind (wpAny_loadPart (k _ _ (hK _ _ lk)) (wpAny_pure hq))
 ne:=fun h tp dd its n sl hK e=>by
  obtain ⟨nm,q,N,bs,bm,sn,sub,ab,col,dd,k0,k1,k2,k3,k5,lk,tl,tv⟩:=X.obj
  refine Bool.eq_false_iff.mpr fun z=>?_
  have:=Value.ref.inj (beq_iff_eq.mp z)
  subst this
  have:=congrArg (fun o=>match o with|some (Obj.mk _ _ (.cls _) _)=>true|_=>false) ((hK _ _ lk).symm.trans e)
  exact absurd this (by simp)
 ca:=fun hK J hq=>ZjK X.toXC hK J X.hk X.hc X.hn X.ht hq
def osaX(X:XC K C)(hK:K.In s.heap)(J:PySem.W.InstAt s.heap a oe C od)(ht:takerIn K C name=some none)
 (hs:∀ b:Bool,wpAny (model prog w) A.in1 (Builtin.ObjectAttr.storeInOwnDict (.ref a) (.ref C) (.str name tk) name v b) (fun fin s'=>match fin with
  | .done f=>R (.ok f) s'
  | .again c'=>c'.quiet=true/\codeAny (model prog w) A c' R s') (fun e s'=>R (.error e) s') s):
 codeAny (model prog w) A (.call (.builtin "object.__setattr__") ⟨[.ref a,.str name tk,v],[]⟩) R s:=by
 have SF:=F.store_object
 obtain ⟨cd,bm,h1,h2,h3,_⟩:=X.cls
 have sub:Looks (model prog w) s.heap (isInstance (.ref a) (.type "object")) true:=andThen J.type (looks_mroIn hK (X.sub ZiH))
 have hm:Looks (model prog w) s.heap (mroOf (.ref C)) cd.mro:=andThen (looks_clsIn hK h1) PySem.W.Looks.now
 refine codeAny_call_builtin SF.slot.plain SF.entry ?_
 refine (@PySem.W.check_slot (model prog w) A.in1 _ s "object.__setattr__" "object" "__setattr__" (.ref a) [.str name tk,v] [] _ SF.kind SF.split sub) (SF.args (.ref a) (.str name tk) v) ?_
 rw [PySem.W.osa_eq,refuse_eq]
 refine wpAny_bind (wpAny_bind (here J.type (wpAny_bind (here hm ?_))))
 rw [h2,refuseLoop_ref,Zdf _ h3]
 refine wpAny_pure (wpAny_bind (here J.type ?_))
 unfold takerIn at ht
 obtain ⟨attr,e1,e2⟩:=Option.bind_eq_some_iff.mp ht
 refine wpAny_bind (here (looks_findIn hK e1) ?_)
 have L3:Looks (model prog w) s.heap (Builtin.ObjectAttr.storeTaker? attr) none:=by
  cases attr with
  | none=>exact PySem.W.Looks.now
  | some x=>
   obtain ⟨b,hb,hz⟩:=Option.map_eq_some_iff.mp e2
   cases b with
   | true=>cases hz
   | false=>exact andThen (PySem.W.looks_takesIn hK hb) PySem.W.Looks.now
 exact wpAny_bind (here L3 (hs attr.isSome))
end
def GX(K:Fg)(n:Str)(C:Addr):Prop:=nsIn K mainGlobals n=some (some (.ref C))/\(clsIn K C).map (·.name)=some n
def bmOf(K:Fg):List Str->List Value->Prop
 | [],bm=>bm=bmV
 | n::ns,bm=>∃ L bm',bm=.ref L::bm'/\GX K n L/\bmOf K ns bm'
noncomputable def Zd6:List Str:=["row","number","length","numbers"]
structure XN(K:Fg)(ns:List Str)(C:Addr):Prop extends XD K C where
 nms:∃ cd,clsIn K C=some cd/\bmOf K ns cd.mro
 nof:∀ f∈Zd6,ZT K C f
def GX.ne{K:Fg}{n c:Str}{C D:Addr}(h:GX K n C)(h':GX K c D):(Value.ref D == Value.ref C)=decide (c=n):=by
 by_cases e:c=n
 . subst e
   have:=h.1.symm.trans h'.1
   cases this
   simp
 . rw [decide_eq_false e]
   refine Bool.eq_false_iff.mpr fun z=>e ?_
   have z:=Value.ref.inj (beq_iff_eq.mp z)
   subst z
   have:=h'.2.symm.trans h.2
   exact Option.some.inj this
theorem bmOf.has{K:Fg}{c:Str}{D:Addr}(h':GX K c D):∀{ns:List Str}{bm:List Value},bmOf K ns bm->bm.contains (.ref D)=decide (c∈ns)
 | [],bm,h=>by
  rw [show bm=bmV from h]
  rfl
 | n::ns,bm,h=>by
  obtain ⟨L,bm',rfl,g,r⟩:=h
  rw [List.contains_cons,bmOf.has h' r,GX.ne g h']
  by_cases e:c=n
  . simp [e]
  . simp [e]
def XN.isa{K:Fg}{ns:List Str}{c:Str}{C D:Addr}(h:XN K ns C)(h':GX K c D)(ht:typeIn K (.ref D)=some (.type "type")):kitOne K (.ref C) (.ref D)=some (decide (c∈ns)):=by
 obtain ⟨cd,h1,h2⟩:=h.nms
 obtain ⟨cd',bm,q1,q2,q3,_⟩:=h.toXC.cls
 rw [h1] at q1
 cases q1
 have hm:mroIn K C (.ref D)=some (decide (c∈ns)):=by
  unfold mroIn
  rw [h1]
  show (if cd.mro.isEmpty=true then none else some (cd.mro.contains (.ref D)))=_
  rw [if_neg (by rw [q2];simp),bmOf.has h' h2]
 unfold kitOne
 have hs:(clsIn K D).isSome=true:=by
  cases e:clsIn K D with
  | none=>have:=h'.2;rw [e] at this;cases this
  | some x=>rfl
 split
 . rename_i e
   have:=Value.ref.inj (beq_iff_eq.mp e)
   subst this
   have:cd.mro.contains (.ref C)=true:=by rw [q2];simp
   rw [bmOf.has h' h2] at this
   rw [this]
 . unfold kitCls
   dsimp only
   rw [if_pos (by rw [hs,ht];simp)]
   exact hm
def XN.isaB{K:Fg}{ns:List Str}{n:String}{C:Addr}(h:XN K ns C)(hb:bmV.contains (.type n)=true)(hm:kitMeta n=true):kitOne K (.ref C) (.type n)=some true:=by
 unfold kitOne
 rw [if_neg (by simp)]
 unfold kitCls
 dsimp only
 rw [if_pos hm]
 exact h.toXC.sub hb
section
theorem Zcd(I:Inv X pins σ H s)(e:Rd H a (.exc C dx fr fs)):∃(oe:Obj)(vs:Array Value)(od:Option Obj),s.heap.get? a=some oe/\oe.cls=.ref C/\oe.dict=dx/\oe.data=.fields vs/\vs.size=6/\(vs[2]?=some .none/\(fr=true->vs[1]?=some .none))/\PySem.W.InstAt s.heap a oe C od/\
 ∃ mA:Str->Option Value,(∀ f,RelO (fs.lookup f) (mA f))/\PySem.Within mA (fs.map (·.1))/\(∀ name,(match od with|some o=>lookIn name o|none=>some none)=some (mA name))/\
  ∀ d,dx=some d->H d=some (.own a)/\d≠a/\s.heap.Ns1 d mA:=by
 obtain ⟨l,⟨oe,vs,e1,e2,e3,e4,e5,e6⟩,r⟩:=(show Z2 X.prog X.w H s.heap a (.exc C dx fr fs) from by
  rcases e with e|⟨o,e⟩
  . exact I.hok a _ e
  . exact (show Z2 X.prog X.w H s.heap a (.frz o (.exc C dx fr fs)) from I.hok a _ e).2)
 have nc:notCls oe=true:=by unfold notCls;rw [e4]
 cases dx with
 | none=>
  have r:fs=[]:=r
  subst r
  exact ⟨oe,vs,none,e1,e2,e3,e4,e5,e6,⟨e1,e2,nc,by rw [e3];trivial⟩,fun _=>none,fun _=>trivial,fun y h=>absurd rfl h,fun _=>rfl,fun d h=>nomatch h⟩
 | some d=>
  obtain ⟨r1,r2,mA,r3,r4,r5⟩:=r
  obtain ⟨od,ho,hl⟩:=Zfc r3
  exact ⟨oe,vs,some od,e1,e2,e3,e4,e5,e6,⟨e1,e2,nc,by rw [e3];exact ho⟩,mA,r4,r5,hl,fun d' h=>by cases h;exact ⟨r1,r2,r3⟩⟩
def ZgB(I:Inv X pins σ H s)(e:Rd H a (.exc C dx fr fs))(c:XD X.K C)(n:ZT X.K C f)(l:fs.lookup f=some v)
 (h:∀ u s',Inv X pins σ H s'->RelV v u->Q u s'):wpAny (model X.prog X.w) A (getAttr (.ref a) f b) Q E s:=by
 obtain ⟨oe,vs,od,e1,e2,e3,e4,e5,e6,J,mA,r1,r2,r3,r4⟩:=Zcd I e
 obtain ⟨u,hu,ru⟩:=RelO.some_of (v:=v) (o:=mA f) (by rw [<- l];exact r1 f)
 refine ZlD c.toXC I.kIn J c.hk (Zfd ru) ?_ (h u _ (I.tok _) ru)
 obtain ⟨cd,bm,h1,h2,h3,h4⟩:=c.toXC.cls
 unfold findObj
 rw [h1,show findIn X.K (.ref C) f=some none from n]
 simp only [bind_some]
 have:PySem.W.ownOf cd od f=some (mA f):=by
  unfold PySem.W.ownOf
  rw [if_pos h4]
  have:=r3 f
  cases od with
  | none=>exact this
  | some o=>exact this
 rw [this,hu]
 rfl
def ZhL(I:Inv X pins σ H s)(e:Rd H a (.exc C dx fr fs))(x:XD X.K C)(k:kitOne X.K (.ref C) c=some b)(h:∀ tk,Q (.bool b) { s with toks:=tk }):
 wpAny (model X.prog X.w) A (call (.builtin "isinstance") [.ref a,c]) Q E s:=by
 obtain ⟨oe,vs,od,e1,e2,e3,e4,e5,e6,J,_⟩:=Zcd I e
 exact kia_one (ZjL x) I.kIn J k (fun z=>nomatch z) h
theorem ZgC(I:Inv X pins σ H s)(e:H a=some (.exc C dx fr fs))(c:XC X.K C)(n:ZT X.K C f)(hl:fs.length < 1000)(ry:RelV y u)
 (h:∀ s' H' d',H' a=some (.exc C (some d') fr (putF f y fs))->(∀ b o,b≠a->H b=some o->H' b=some o)->Inv X pins σ H' s'->Q () s'):wpAny (model X.prog X.w) A (setAttr (.ref a) f u) Q E s:=by
 obtain ⟨oe,vs,od,e1,e2,e3,e4,e5,e6,J,mA,r1,r2,r3,r4⟩:=Zcd I (.inl e)
 have hz:(fs.map (·.1)).length<=sizeLine:=by rw [length_map,sizeLine_eq];omega
 obtain ⟨cd,bm,h1,h2,h3,h4⟩:=c.cls
 refine PySem.W.set_plain I.kIn J c.sa (osaX (s:={ s with toks:=s.toks+1 }) c I.kIn J n.taker fun b=>?_)
 have rel:∀ g,RelO ((putF f y fs).lookup g) (if g=f then some u else mA g):=fun g=>by
  rw [Zc2]
  by_cases q:g=f
  . rw [if_pos q,if_pos q];exact ry
  . rw [if_neg q,if_neg q];exact r1 g
 have wi:PySem.Within (fun g=>if g=f then some u else mA g) ((putF f y fs).map (·.1)):=fun g hg=>by
  by_cases q:g=f
  . rw [q];exact (ZbJ f y fs).1
  . refine (ZbJ f y fs).2 g (r2 g fun z=>hg ?_)
    show (if g=f then some u else mA g)=none
    rw [if_neg q];exact z
 have le:(putF f y fs).length<=1000:=by have:=Zc3 f y fs;omega
 refine wpAny_bind (wpAny_pure (wpAny_bind (wpAny_bind (wpAny_loadPart e1 ?_))))
 rw [e2]
 refine wpAny_bind (here (s:={ s with toks:=s.toks+1 }) (looks_clsIn I.kIn h1) ?_)
 rw [h4]
 cases dx with
 | some d=>
  obtain ⟨q1,q2,q3⟩:=r4 d rfl
  rw [e3]
  refine wpAny_pure (a:=some d) (wpAny_bind (wpAny_pure (wpAny_bind ?_)))
  refine wpAny_nsSet1 (s:={ s with toks:=s.toks+1 }) q3 fun h' hn2 hs2=>?_
  obtain ⟨oD,esD,epD,hoD,hdD,hcD⟩:=hn2.count (PySem.Within.cons f u r2)
  refine wpAny_bind (wpAny_lookBehind hoD (by rw [hdD];exact pastItsLine_dict (le_trans hcD (by rw [length_cons];omega))) ?_)
  refine wpAny_pure (h _ _ d Zk (fun b o hb q=>by rw [Zj hb];exact q) (I.write (t':=s.toks+2) (x:=a) (e:=d) (o:=.exc C (some d) fr (putF f y fs)) (h':=h') (by rw [e];exact True.intro) (.inr q1) (fun b q hb z=>(hs2.2 b hb).trans z) ⟨oD,hoD⟩ ?_))
  exact ⟨le,⟨oe,vs,(hs2.2 _ (Ne.symm q2)).trans e1,e2,e3,e4,e5,e6⟩,by rw [Zj q2];exact q1,q2,_,hn2,rel,wi⟩
 | none=>
  have hfs:fs=[]:=by
   have:Z2 X.prog X.w H s.heap a (.exc C none fr fs):=I.hok a _ e
   exact this.2.2
  subst hfs
  rw [e3]
  refine wpAny_ite_false rfl ?_
  rw [e4]
  refine wpAny_bind (wpAny_alloc (wpAny_bind (wpAny_update (s:={ s with heap:=s.heap.push emptyDict,toks:=s.toks+1 }) (Heap.get?_push_of_some _ e1) ?_)))
  have nd:s.heap.objs.size≠a:=ne_of_gt (Heap.lt_size e1)
  have g1:((s.heap.push emptyDict).update a fun o=>{ o with dict:=some s.heap.objs.size }).get? a=some { oe with dict:=some s.heap.objs.size }:=Heap.get?_update_self _ (Heap.get?_push_of_some _ e1) (Obj.isFreed_of_fields (vs:=vs) e4)
  have g2:((s.heap.push emptyDict).update a fun o=>{ o with dict:=some s.heap.objs.size }).get? s.heap.objs.size=some emptyDict:=(Heap.get?_update_other _ _ (Ne.symm nd)).trans (Heap.get?_push_size _ rfl)
  have q3:Heap.Ns1 ((s.heap.push emptyDict).update a fun o=>{ o with dict:=some s.heap.objs.size }) s.heap.objs.size (fun _=>none):=⟨_,#[],_,g2,rfl,fun e he=>absurd he (by simp),by unfold UniqKeys;simp,fun _=>rfl⟩
  refine wpAny_pure (a:=some s.heap.objs.size) (wpAny_bind (wpAny_pure (wpAny_bind ?_)))
  refine wpAny_nsSet1 (s:=⟨_,s.gens,s.drawn,s.toks+1,s.os⟩) q3 fun h' hn2 hs2=>?_
  obtain ⟨oD,esD,epD,hoD,hdD,hcD⟩:=hn2.count (PySem.Within.cons (m:=fun _=>none) (ns:=[]) f u fun y h=>absurd rfl h)
  refine wpAny_bind (wpAny_lookBehind hoD (by rw [hdD];exact pastItsLine_dict (le_trans hcD (by rw [length_cons];decide))) ?_)
  have hn:H s.heap.objs.size=none:=I.hok.fresh (Nat.le_refl _)
  have g3:h'.get? a=some { oe with dict:=some s.heap.objs.size }:=(hs2.2 _ (Ne.symm nd)).trans g1
  have kk:∀ b o,b≠a->s.heap.get? b=some o->h'.get? b=some o:=fun b o hb q=>by
   have:b≠s.heap.objs.size:=ne_of_lt (Heap.lt_size q)
   exact (hs2.2 b this).trans ((Heap.get?_update_other _ _ (Ne.symm hb)).trans (Heap.get?_push_of_some _ q))
  have I1:=I.laid (a:=s.heap.objs.size) (o:=.own a) (t':=s.toks+1) (h':=s.heap.push emptyDict) (fun b u q=>Heap.get?_push_of_some _ q) (Nat.le_refl _) ⟨_,Heap.get?_push_size _ rfl⟩
  have e1':upd H s.heap.objs.size (.own a) a=some (.exc C none fr []):=by rw [Zj (Ne.symm nd)];exact e
  have I2:=I1.write (t':=s.toks+1) (x:=a) (e:=a) (o:=.exc C (some s.heap.objs.size) fr []) (h':=(s.heap.push emptyDict).update a fun o=>{ o with dict:=some s.heap.objs.size }) (by rw [e1'];exact True.intro) (.inl rfl)
   (fun b q hb z=>(Heap.get?_update_other _ _ (Ne.symm hb)).trans z) ⟨_,g1⟩ ⟨by simp,⟨_,vs,g1,e2,rfl,e4,e5,e6⟩,by rw [Zj nd];exact Zk,nd,_,q3,fun _=>trivial,fun y h=>absurd rfl h⟩
  have e2':upd (upd H s.heap.objs.size (.own a)) a (.exc C (some s.heap.objs.size) fr []) s.heap.objs.size=some (.own a):=by rw [Zj nd];exact Zk
  have I3:=I2.write (t':=s.toks+2) (x:=a) (e:=s.heap.objs.size) (o:=.exc C (some s.heap.objs.size) fr (putF f y [])) (h':=h') (by rw [Zk];exact True.intro) (.inr e2')
   (fun b q hb z=>(hs2.2 b hb).trans z) ⟨oD,hoD⟩ ⟨le,⟨_,vs,g3,e2,rfl,e4,e5,e6⟩,by rw [Zj nd];exact e2',nd,_,hn2,fun g=>?_,fun g hg=>?_⟩
  . exact wpAny_pure (h _ _ s.heap.objs.size Zk (fun b o hb q=>by rw [Zj hb,Zj hb,Zj (ZN q hn)];exact q) I3)
  . have:=rel g
    have hz:mA g=none:=by
     have:=r1 g
     cases q:mA g with
     | none=>rfl
     | some z=>rw [q] at this;exact this.elim
    rw [hz] at this
    exact this
  . refine wi g fun z=>hg ?_
    have z:(if g=f then some u else mA g)=none:=z
    show (if g=f then some u else none)=none
    by_cases q:g=f
    . rw [if_pos q] at z;cases z
    . rw [if_neg q]
end
section
def Inv.madeX(I:Inv X pins σ H s):Inv X pins σ (upd H (s.heap.objs.size+1) (.exc C none true [])) { s with heap:=(s.heap.push (ZF us)).push (ZI C s.heap.objs.size) }:=by
 have I1:Inv X pins σ H { s with heap:=s.heap.push (ZF us) }:=I.kept (t':=s.toks) fun b u e=>Heap.get?_push_of_some _ e
 have hget:((s.heap.push (ZF us)).push (ZI C s.heap.objs.size)).get? (s.heap.objs.size+1)=some (ZI C s.heap.objs.size):=Heap.get?_push_at (by simp) rfl
 exact I1.laid (a:=s.heap.objs.size+1) (o:=.exc C none true []) (t':=s.toks) (h':=(s.heap.push (ZF us)).push (ZI C s.heap.objs.size)) (fun b u e=>Heap.get?_push_of_some _ e) (by simp) ⟨by simp,⟨_,_,hget,rfl,rfl,rfl,rfl,rfl,fun _=>rfl⟩,rfl⟩
def ZpF(C:Addr)(sp:Sp)(dvs:List V)(t:TA):TE:=fun σ H Q=>t σ H fun vs H1=>vs.length<=sizeLine/\∀ x,H1 x=none->sp (.ref x::(vs++dvs)) (upd H1 x (.exc C none true [])) (fun v H2=>v=.non/\Q (.ref x) H2) E0
theorem ZjM(M:XC X.K C)(hi:findIn X.K (.ref C) (Str.ofString "__init__")=some (some (.ref f)))(hf:typeIn X.K (.ref f)=some (.type "function"))(F:FnOk X.prog X.w X.K X.mg X.base CX0 k f fd ps sp)(hr:Room (k+1) X.A)
 (hb:Binds X.K fd ps ds) (hd:Vals dvs ds) (I:Inv X pins σ H s) (r:Vals vs us) (hl:vs.length<=sizeLine) (h:∀ x,H x=none->sp (.ref x::(vs++dvs)) (upd H x (.exc C none true [])) (fun v H2=>v=.non/\Q (.ref x) H2) E0):
 wpAny (model X.prog X.w) X.A (call (.ref C) us) (EP X pins σ Q) X.xe s:=by
 have hq:=h (s.heap.objs.size+1) (I.hok.fresh (le_succ _))
 have I2:=Inv.madeX (C:=C) (us:=us) I
 have r2:Vals (V.ref (s.heap.objs.size+1)::(vs++dvs)) (Value.ref (s.heap.objs.size+1)::(us++ds)):=.cons rfl (r.append hd)
 have hl2:(Value.ref (s.heap.objs.size+1)::us++ds).length=ps.length:=by
  have e:=r2.length
  rw [F.len _ _ _ _ hq] at e
  exact e.symm
 refine ZiE (h:=s.heap) (g:=s.gens) (d:=s.drawn) (t:=s.toks) (os:=s.os) M I.kIn hi hf (by rw [<- r.length];exact hl) (wpAny_call (codeAny_mono (F.run _ X.stack _ _ ⟨Value.ref (s.heap.objs.size+1)::us,[]⟩ (Value.ref (s.heap.objs.size+1)::(us++ds)) _ _ E0 (hr.make C us [])
  (I2.env0.make C us []) (hb _ (Value.ref (s.heap.objs.size+1)::us) I2.kIn hl2) r2 hq) fun r s' hq'=>?_))
 cases r with
 | error e=>exact False.elim hq'
 | ok fl=>
  cases fl with
  | ret u=>
   obtain ⟨v,H',I3,rv,ev,q3⟩:=I2.after hq'
   subst ev
   exact ⟨rv,⟨V.ref (s.heap.objs.size+1),H',I3,rfl,q3⟩⟩
  | next=>exact False.elim hq'
  | brk=>exact False.elim hq'
  | cont=>exact False.elim hq'
def ZlE(M:XC X.K C)(hi:findIn X.K (.ref C) (Str.ofString "__init__")=some (some (.ref f)))(hf:typeIn X.K (.ref f)=some (.type "function"))(F:FnOk X.prog X.w X.K X.mg X.base CX0 k f fd ps sp)(hr:Room (k+1) X.A)(hg:Gl X x)(hm:X.mg x=some (.ref C))
 (hb:Binds X.K fd ps ds) (hd:Vals dvs ds) (ha:PA X (e::es) t) (hdb:autoParam ((x == ("__debug__":Str))=false) Q7) (he:autoParam (SE X e es) Q9) (hpl:autoParam (SFx X pos es) Q9):
 PE X (.Call (.Name x p) (e::es) [] pos) (ZpF C sp dvs t):=by
 intro pins s σ H Q I h
 refine wpAny_Call_Name_kw (ZaQ I hg hm ?_ hdb)
 refine callWith_K (h₀:=X.base) I.ok.mod.kin M.kp (thn (ha pos pins s σ H _ I h) fun us s1 ⟨vs,H1,I1,r,l,q⟩=>⟨I1.kIn,?_⟩) he hpl
 exact ZjM M hi hf F hr hb hd I1 r l q
def ZlF(M:XC X.K C)(hi:findIn X.K (.ref C) (Str.ofString "__init__")=some (some (.builtin "ValueError.__init__")))(hg:Gl X x)(hm:X.mg x=some (.ref C))(hdb:autoParam ((x == ("__debug__":Str))=false) Q7):
 PE X (.Call (.Name x p) [] [] pos) (fun σ H Q=>∀ a,H a=none->Q (.ref a) (upd H a (.exc C none true []))):=by
 intro pins s σ H Q I h
 refine wpAny_Call_Name_kw (ZaQ I hg hm ?_ hdb)
 refine PySem.W.callWith_K0 I.kIn M.kp ?_
 refine ZiF (h:=s.heap) (g:=s.gens) (d:=s.drawn) (t:=s.toks) (os:=s.os) M I.kIn hi (by simp) ?_
 have I2:=Inv.madeX (C:=C) (us:=[]) I
 have I3:Inv X pins σ (upd H (s.heap.objs.size+1) (.exc C none true [])) { s with heap:=((s.heap.push (ZF [])).push (ZI C s.heap.objs.size)).push (ZF []) }:=I2.kept (t':=s.toks) fun b u e=>Heap.get?_push_of_some _ e
 have hget:(((s.heap.push (ZF [])).push (ZI C s.heap.objs.size)).push (ZF [])).get? (s.heap.objs.size+1)=some (ZI C s.heap.objs.size):=Heap.get?_push_of_some _ (Heap.get?_push_at (by simp) rfl)
 have I4:=I3.excSet (fr':=true) (f:=fun x=>x.setIfInBounds 0 (.ref (s.heap.objs.size+2))) Zk hget rfl rfl rfl (fun _=>rfl)
 rw [ZgU] at I4
 exact ⟨.ref (s.heap.objs.size+1),_,I4,rfl,h _ (I.hok.fresh (le_succ _))⟩
structure XI(K:Fg)(L:Addr):Prop where
 sp:specialIn K (.ref L) (Str.ofString "__getattribute__")=some (some (.builtin "type.__getattribute__"))
 rd:PySem.W.readsIn K L (.type "type")=true
 fd:PySem.W.findCls K (.ref L) (.type "type") (Str.ofString "__init__")=some (.val (.builtin "ValueError.__init__"))
def Zn5(K:Fg)(t:TA):TE:=fun σ H Q=>t σ H fun vs H1=>∃ a v C dx fr fs,vs=[.ref a,v]/\XC K C/\H1 a=some (.exc C dx fr fs)/\Q .non H1
def ZjN(M:XI X.K L)(hg:Gl X x)(hm:X.mg x=some (.ref L))(ha:PA X (e::es) t)(hdb:autoParam ((x == ("__debug__":Str))=false) Q7)
 (hst:autoParam (SE X e es) Q9) (hpl:autoParam (SFx X pos es) Q9)
 (ht:autoParam (eval (.Call (.Attribute (.Name x p) "__init__" apos) (e::es) [] pos) X.env=(do
  let ov <- eval (.Name x p) X.env
  standAt apos.atName
  let (f,first) <- holding [ov] (getMethod ov "__init__" pl)
  callWith pos f first (backTo pos (starEach (e::es) X.env)) (backToKw pos (keywordEach [] X.env)))) Q9):
 PE X (.Call (.Attribute (.Name x p) "__init__" apos) (e::es) [] pos) (Zn5 X.K t):=by
 intro pins s σ H Q I h
 refine methodCall_KW (pl:=pl) (ZaQ I hg hm ?_ hdb) ht
 refine PySem.W.method_cls I.kIn M.sp (PySem.W.cls_value I.kIn M.rd M.fd (by decide +kernel) ?_)
 refine PyProof.Rows.callWith_builtin1 (thn (ha pos pins _ σ H _ (I.tok _) h) fun us s1 z0=>?_) hst hpl
 obtain ⟨vs,H1,I1,r1,a,v,C,dx,fr,fs,ev,M1,ea,q⟩:=z0
 subst ev
 obtain ⟨u,rfl⟩:∃ u,us=[.ref a,u]:=by
  cases r1 with
  | cons r r1=>
   cases r1 with
   | cons r' r1=>
    cases r1
    exact ⟨_,by rw [show _=Value.ref a from r]⟩
 obtain ⟨oe,ws,od,e1,e2,e3,e4,e5,e6,J,_⟩:=Zcd I1 (.inl ea)
 refine Zep (h:=s1.heap) (g:=s1.gens) (d:=s1.drawn) (t:=s1.toks) (os:=s1.os) M1 I1.kIn e1 e2 e4 e5 (show 1<=sizeLine by decide) ?_
 have I2:Inv X pins σ H1 { s1 with heap:=s1.heap.push (ZF [u]) }:=I1.kept (t':=s1.toks) fun b u e=>Heap.get?_push_of_some _ e
 have I3:=I2.excSet (fr':=fr) (f:=fun x=>x.setIfInBounds 0 (.ref s1.heap.objs.size)) ea (Heap.get?_push_of_some _ e1) e4 (by rw [set6];exact e5) (by rw [getElem?_setIfInBounds];simp) (fun hf=>by rw [getElem?_setIfInBounds];simpa using e6.2 hf)
 rw [ZfJ ea] at I3
 exact ⟨.non,H1,I3,rfl,q⟩
def ZfL(hc:X.calm=true)(he:PE X e te):PX X (.Raise (some e) none pos) fun D σ H=>te σ H fun v H1=>∃ a C dx fs,v=.ref a/\XC X.K C/\H1 a=some (.exc C dx true fs)/\∀ H'',Same (upd H1 a (.exc C dx false fs)) H''->D.xc a σ H'':=by
 intro pins s σ H D I h
 rw [arm_exec_Raise]
 refine wpAny_bind (wpAny_standAt (ZiG (I.ok.hd hc) (wpAny_bind (thnx (he pins s σ H _ I h) fun u s1 ⟨v,H1,I1,r1,a,C,dx,fs,ev,M,ea,q⟩=>wpAny_bind (wpAny_standAt (wpAny_pure ?_))))))
 subst ev
 obtain rfl:u=Value.ref a:=r1
 obtain ⟨oe,ws,od,e1,e2,e3,e4,e5,e6,J,mA,r2,r3,r4,r5⟩:=Zcd I1 (.inl ea)
 have I2:Inv X pins σ (upd H1 a (.exc C dx false fs)) s1:=by
  have:=I1.write (t':=s1.toks) (x:=a) (e:=a) (o:=.exc C dx false fs) (h':=s1.heap) (by rw [ea];exact True.intro) (.inl rfl) (fun _ _ _ z=>z) ⟨_,e1⟩ (by
   obtain ⟨l,⟨o,vs',q1,q2,q3,q4,q5,q6⟩,r⟩:=(show Z2 X.prog X.w H1 s1.heap a (.exc C dx true fs) from I1.hok a _ ea)
   refine ⟨l,⟨o,vs',q1,q2,q3,q4,q5,q6.1,fun z=>nomatch z⟩,?_⟩
   cases dx with
   | none=>exact r
   | some d=>obtain ⟨t1,t2,t3⟩:=r;exact ⟨by rw [Zj t2];exact t1,t2,t3⟩)
  exact this
 exact ⟨X.K,C,a,oe,ws,M,I1.kIn,rfl,e1,e2,e4,e6.2 rfl,.inr ⟨a,σ,_,rfl,I2,.inl ⟨C,dx,fs,oe,ws,Zk,e1,e4,e5,e6.2 rfl⟩,q⟩⟩
end
section
variable{σ:St}{A:Around}{M:Model}{E:VS}{i:Nat}{x:Str}
def Za0{v:V}{Q:Unit->Shared->Prop}(I:Inv X pins σ H s)(hN:X.N.Nodup)(hi:X.N[i]?=some x)(hx:X.env.scope.names.lookup x=some .local)
 (h:∀ s',Inv X pins (σ.set i none) H s'->Q () s'):wpAny M A (do bindName X.env x Value.none;unbindBehindTheSuite X.env x pos) Q E s:=by
 have hcls:(X.env.scope.kind == .class || (X.env.scope.kind == .module && X.env.locals != X.env.globals))=false:=by rw [I.ok.kind];rfl
 refine wpAny_bind (wpAny_bindName (Zb7 (v:=V.non) I hN hi (.inl hx) rfl (fun s1 I1=>?_) (.inr hx)))
 have hiσ:i < σ.length:=by rw [I.len];exact (List.getElem?_eq_some_iff.mp hi).1
 obtain ⟨m,hn,hl⟩:=id I1.loc
 obtain ⟨u,hu,lk⟩:=hl i x V.non hi (by rw [List.getElem?_set_self hiσ]) (.inl hx)
 have hm:m x=some u:=by
  rcases lk with ⟨_,e⟩|⟨k,_⟩
  . exact e
  . rcases k with k|k
    . have:some NameKind.local=some NameKind.cell:=hx.symm.trans k
      cases this
    . have:some NameKind.local=some NameKind.free:=hx.symm.trans k
      cases this
 unfold unbindBehindTheSuite
 refine wpAny_onRaise (wpAny_unbindName_local hx hn hm hcls fun h' u' hn' hs=>h _ ?_)
 have tracked:HOk X.prog X.w H h':=fun b ob e=>by
  obtain ⟨oL,_,_,hoL,_⟩:=id hn
  refine (I1.hok b ob e).stay (fun c w' hc q=>(hs.2 c ?_).trans q) (fun _ q=>q) fun _ _ q=>q
  rintro rfl
  rcases hc with rfl|hc
  . rw [I1.free] at e;cases e
  . rw [I1.free] at hc;cases hc
 refine ⟨I1.ok,I1.os,I1.bare,⟨fun b o e n hb hx=>?_,fun b o e n hb hx=>?_,I1.base.free,fun b o e hx=>?_,I1.base.tups,I1.base.frzs,I1.base.tbls⟩,⟨_,hn',fun j y v' e1 e2 e3=>?_⟩,fun y c e=>?_,I1.free,I1.freeC,fun p hp=>?_,tracked,by simpa using I.len,I1.fzd⟩
 . exact (hs.2 b (ne_of_lt (lt_of_lt_of_le (Heap.lt_size e) I1.ok.above))).trans (I1.base.keep b o e n hb hx)
 . obtain ⟨sl,e1⟩:=I1.base.slot b o e n hb hx
   exact ⟨sl,(hs.2 b (ne_of_lt (lt_of_lt_of_le (Heap.lt_size e) I1.ok.above))).trans e1⟩
 . obtain ⟨o',e1⟩:=I1.base.there b o e hx
   exact ⟨o',(hs.2 b (ne_of_lt (lt_of_lt_of_le (Heap.lt_size e) I1.ok.above))).trans e1⟩
 . by_cases hj:j=i
   . subst hj
     rw [List.getElem?_set_self hiσ] at e2
     cases e2
   . rw [getElem?_set_ne (Ne.symm hj)] at e2
     obtain ⟨u',r',q⟩:=hl j y v' e1 (by rw [getElem?_set_ne (Ne.symm hj)];exact e2) e3
     refine ⟨u',r',?_⟩
     rcases q with ⟨k,e⟩|⟨k,c,e,z⟩
     . refine .inl ⟨k,?_⟩
       have:y≠x:=fun e=>hj (ZdT hN e1 (e ▸ hi))
       simp [this,e]
     . exact .inr ⟨k,c,e,z.sameBut hs (I1.cne y c e)⟩
 . obtain ⟨w',z⟩:=I1.cell y c e
   exact ⟨w',z.sameBut hs (I1.cne y c e)⟩
 . obtain ⟨e,n,ne,nf,d⟩:=I1.pin p hp
   exact ⟨(hs.2 p.1 ne).trans e,n,ne,nf,d⟩
theorem ZhM{K:Fg}{ns:List Str}{c:Str}{C D:Addr}{od:Option Obj}{Q:Bool->Shared->Prop}(h:XN K ns C)(h':XC K D)(g:GX K c D)(hK:K.In s.heap)(J:PySem.W.InstAt s.heap ea oe C od)(hq:Q (decide (c∈ns)) s):wpAny M A (excMatches (.ref ea) (.ref D)) Q E s:=by
 obtain ⟨nm,q,N,bs,bm,sn,sub,ab,col,dd,k0,k1,k2,k3,k5,lk,tl,tv⟩:=h'.obj
 have hD:=hK _ _ lk
 obtain ⟨cd,h1,h2⟩:=h.nms
 obtain ⟨cd',bm',q1,q2,q3,_⟩:=h.toXC.cls
 rw [h1] at q1
 cases q1
 have hm:mroIn K C (.ref D)=some (decide (c∈ns)):=by
  unfold mroIn
  rw [h1]
  show (if cd.mro.isEmpty=true then none else some (cd.mro.contains (.ref D)))=_
  rw [if_neg (by rw [q2];simp),bmOf.has g h2]
 (obtain ⟨hp,gg,d,tk,os⟩:=s)
 unfold excMatches
 refine wpAny_bind (wpAny_bind (wpAny_bind (wpAny_loadPart_at hD (wpAny_pure (wpAny_of_eq tc_notTuple ?_)))))
 refine wpAny_ite_false rfl (wpAny_bind (wpAny_pure (wpAny_bind ?_)))
 (simp only [List.forIn_cons,List.forIn_nil])
 (refine wpAny_bind (wpAny_bind ?_))
 unfold isExcClass
 refine wpAny_bind (wpAny_bind (wpAny_loadPart_at hD (wpAny_pure (wpAny_ite_true rfl (PySem.W.Looks.at (looks_mroIn hK (h'.sub ZeI)) ?_)))))
 refine wpAny_ite_false rfl (wpAny_pure (wpAny_pure (wpAny_bind (PySem.W.Looks.at J.type (wpAny_bind (wpAny_bind (wpAny_bind (PySem.W.Looks.at (looks_mroIn hK hm) ?_))))))))
 cases e:decide (c∈ns) with
 | true=>rw [e] at hq;exact wpAny_ite_true rfl (wpAny_pure (wpAny_pure (wpAny_pure hq)))
 | false=>rw [e] at hq;exact wpAny_ite_false rfl (wpAny_pure (wpAny_pure (wpAny_pure hq)))
noncomputable abbrev Cx.inH(X:Cx)(v:Value):Cx:={ X with A:=X.A.mark (some v),calm:=false,xe:=fun _ _=>False }
def Inv.inH(I:Inv X pins σ H s)(v:Value):Inv (X.inH v) pins σ H s:=⟨⟨I.ok.mod,I.ok.kind,I.ok.glob,I.ok.blt,I.ok.above,I.ok.inj,I.ok.has,I.ok.cab,(fun z=>Bool.noConfusion z),I.ok.frames,I.ok.stk,I.ok.exf,I.ok.bs,I.ok.bsz,I.ok.noex,I.ok.exfs,I.ok.funs,I.ok.frf⟩,I.os,I.bare,I.base,I.loc,I.cell,I.free,I.freeC,I.pin,I.hok,I.len,I.fzd⟩
def Inv.outH{v:Value}(I:Inv (X.inH v) pins σ H s)(hh:X.calm=true->X.A.handled=none):Inv X pins σ H s:=⟨⟨I.ok.mod,I.ok.kind,I.ok.glob,I.ok.blt,I.ok.above,I.ok.inj,I.ok.has,I.ok.cab,hh,I.ok.frames,I.ok.stk,I.ok.exf,I.ok.bs,I.ok.bsz,I.ok.noex,I.ok.exfs,I.ok.funs,I.ok.frf⟩,I.os,I.bare,I.base,I.loc,I.cell,I.free,I.freeC,I.pin,I.hok,I.len,I.fzd⟩
noncomputable abbrev Cx.inHF(X:Cx)(p:Addr×Obj×HO):Cx:={ X with A:=X.A.mark (some (.ref p.1)),calm:=false,fz:=p::X.fz,xe:=fun _ _=>False }
def Inv.inHF{p:Addr×Obj×HO}(I:Inv X pins σ H s)(h:H p.1=some (.frz p.2.1 p.2.2)):Inv (X.inHF p) pins σ H s:=⟨⟨I.ok.mod,I.ok.kind,I.ok.glob,I.ok.blt,I.ok.above,I.ok.inj,I.ok.has,I.ok.cab,(fun z=>Bool.noConfusion z),I.ok.frames,I.ok.stk,I.ok.exf,I.ok.bs,I.ok.bsz,I.ok.noex,I.ok.exfs,I.ok.funs,I.ok.frf⟩,I.os,I.bare,I.base,I.loc,I.cell,I.free,I.freeC,I.pin,I.hok,I.len,fun q hq=>by
 (rcases List.mem_cons.mp hq with rfl|hq)
 . exact h
 . exact I.fzd q hq⟩
def Inv.outHF{p:Addr×Obj×HO}(I:Inv (X.inHF p) pins σ H s)(hh:X.calm=true->X.A.handled=none):Inv X pins σ H s:=⟨⟨I.ok.mod,I.ok.kind,I.ok.glob,I.ok.blt,I.ok.above,I.ok.inj,I.ok.has,I.ok.cab,hh,I.ok.frames,I.ok.stk,I.ok.exf,I.ok.bs,I.ok.bsz,I.ok.noex,I.ok.exfs,I.ok.funs,I.ok.frf⟩,I.os,I.bare,I.base,I.loc,I.cell,I.free,I.freeC,I.pin,I.hok,I.len,fun q hq=>I.fzd q (.tail _ hq)⟩
def ZhN{C:Addr}{dx:Option Addr}{fs:List (Str×V)}(I:Inv X pins σ H s)(e:H ea=some (.exc C dx fr fs)):∃ o,Lone o/\Inv X pins σ (upd H ea (.frz o (.exc C dx fr fs))) s:=by
 obtain ⟨l,⟨o,vs',q1,q2,q3,q4,q5,q6⟩,r⟩:=(show Z2 X.prog X.w H s.heap ea (.exc C dx fr fs) from I.hok ea _ e)
 refine ⟨o,⟨vs',q4,q6.1⟩,?_⟩
 have:=I.write (t':=s.toks) (x:=ea) (e:=ea) (o:=.frz o (.exc C dx fr fs)) (h':=s.heap) (by rw [e];exact True.intro) (.inl rfl) (fun _ _ _ z=>z) ⟨_,q1⟩ (by
  refine ⟨q1,l,⟨o,vs',q1,q2,q3,q4,q5,q6⟩,?_⟩
  cases dx with
  | none=>exact r
  | some d=>obtain ⟨t1,t2,t3⟩:=r;exact ⟨by rw [Zj t2];exact t1,t2,t3⟩)
 exact this
structure HS where
 c:Str
 nm:Option Nat
 ts:TS
noncomputable def HS.ends(h:HS)(D:Ends):Ends:=match h.nm with
 | none=>D
 | some i=>{ nx:=fun σ H=>D.nx (σ.set i none) H,rt:=D.rt,bk:=fun σ H=>D.bk (σ.set i none) H,ct:=fun σ H=>D.ct (σ.set i none) H }
noncomputable def HS.put(h:HS)(ea:Addr)(σ:St):St:=match h.nm with
 | none=>σ
 | some i=>σ.set i (some (.ref ea))
inductive PH(X:Cx):ExceptHandler->HS->Prop
 | plain {c:Str} {D:Addr} {b₀:Stmt} {body:List Stmt} {pos np:Pos} {ts:TS} (hg:Gl X c) (hm:X.mg c=some (.ref D)) (xc:XC X.K D) (gx:GX X.K c D) (hdb:(c == ("__debug__":Str))=false) (hs:∀ v,PSs (X.inH v) (b₀::body) ts):
  PH X (.ExceptHandler (some (.Name c np)) none (b₀::body) pos) ⟨c,none,ts⟩
 | as_ {c n:Str} {D:Addr} {i:Nat} {b₀:Stmt} {body:List Stmt} {pos np:Pos} {ts:TS} (hg:Gl X c) (hm:X.mg c=some (.ref D)) (xc:XC X.K D) (gx:GX X.K c D) (hdb:(c == ("__debug__":Str))=false) (hN:X.N.Nodup) (hi:X.N[i]?=some n) (hl:X.env.scope.names.lookup n=some .local) (hs:∀ v,PSs (X.inH v) (b₀::body) ts):
  PH X (.ExceptHandler (some (.Name c np)) (some n) (b₀::body) pos) ⟨c,some i,ts⟩
inductive PHs(X:Cx):List ExceptHandler->List HS->Prop
 | nil:PHs X [] []
 | cons {h:ExceptHandler} {hs:List ExceptHandler} {g:HS} {gs:List HS}:PH X h g->PHs X hs gs->PHs X (h::hs) (g::gs)
def Zcs(ns:List Str)(D:Ends)(ea:Addr)(σ:St)(H:Hp):List HS->Prop
 | []=>False
 | h::hs=>if h.c∈ns then h.ts (h.ends D) (h.put ea σ) H else Zcs ns D ea σ H hs
theorem SP.inH{v:Value}{D:Ends}{f:Flow}{s':Shared}(hh:X.calm=true->X.A.handled=none)(h:SP (X.inH v) pins D f s'):SP X pins D f s':=by
 cases f with
 | next=>obtain ⟨σ',H',I,q⟩:=h;exact ⟨σ',H',I.outH hh,q⟩
 | brk=>obtain ⟨σ',H',I,q⟩:=h;exact ⟨σ',H',I.outH hh,q⟩
 | cont=>obtain ⟨σ',H',I,q⟩:=h;exact ⟨σ',H',I.outH hh,q⟩
 | ret u=>obtain ⟨v,σ',H',I,r,q⟩:=h;exact ⟨v,σ',H',I.outH hh,r,q⟩
def Zdg{ns:List Str}{C:Addr}{dx:Option Addr}{fs:List (Str×V)}{c:Str}{R:Result->Shared->Prop}(XNh:XN X.K ns C)(I:Inv X pins σ H s)(e:H ea=some (.exc C dx false fs))(hg:Gl X c)(hm:X.mg c=some (.ref D'))(xc:XC X.K D')(gx:GX X.K c D')(hdb:(c == ("__debug__":Str))=false)
 (hR:R (.ok (if decide (c∈ns)=true then Flow.brk else Flow.next)) s):codeAny (model X.prog X.w) (X.A.mark (some (.ref ea))) (.handlers (.ref ea) [.ExceptHandler (some (.Name c np)) none [] pos] X.env) R s:=by
 obtain ⟨oe,vs,od,e1,e2,e3,e4,e5,e6,J,_⟩:=Zcd I (.inl e)
 exact codeAny_handlers_test (Calls.Name_function_global I.ok.kind hg (Calls.loadGlobal_global (by rw [I.ok.glob];exact I.mod.glob.keeps I.bk) hm (ZhM XNh xc gx I.kIn J hR)) hdb)
def ZbT{a:Addr}:Value.ref a≠byPass:=fun z=>by cases z
def ZhO{ns:List Str}{C:Addr}{dx:Option Addr}{fs:List (Str×V)}{D:Ends}{c:Str}{ts:TS}{rest:List ExceptHandler}(XNh:XN X.K ns C)(I:Inv X pins σ H s)(e:H ea=some (.exc C dx false fs))(f:FlyT (fun fl=>fl=Value.none) H s.heap ea)
 (hg:Gl X c) (hm:X.mg c=some (.ref D')) (xc:XC X.K D') (gx:GX X.K c D') (hdb:(c == ("__debug__":Str))=false) (hs:∀ v,PSs (X.inH v) (b₀::body) ts) (h1:c∈ns->ts D σ H) (h2:c∉ns->wpAny (model X.prog X.w) X.A (handleBy (.ref ea) X.env rest) (SP X pins D) E s):
 wpAny (model X.prog X.w) X.A (handleBy (.ref ea) X.env (.ExceptHandler (some (.Name c np)) none (b₀::body) pos::rest)) (SP X pins D) E s:=by
 refine wpAny_handleBy_cons (Zdg XNh I e hg hm xc gx hdb ?_) ZbT
 by_cases z:c∈ns
 . rw [decide_eq_true z,if_pos rfl]
   refine codeAny_handlers_suite (thn (ZaM (o:=none) I f) fun _ s1 z0=>?_)
   obtain ⟨I1,f1⟩:=z0
   exact wpAny_mono (hs (.ref ea) pins s1 σ H D (I1.inH _) (h1 z)) (fun fl s2 q=>q.inH I.ok.hd) fun _ _ z=>z.elim
 . rw [decide_eq_false z,if_neg Bool.false_ne_true]
   exact h2 z
def ZlG{ns:List Str}{C:Addr}{dx:Option Addr}{fs:List (Str×V)}{D:Ends}{c n:Str}{ts:TS}{rest:List ExceptHandler}(XNh:XN X.K ns C)(I:Inv X pins σ H s)(e:H ea=some (.exc C dx false fs))(f:FlyT (fun fl=>fl=Value.none) H s.heap ea)
 (hg:Gl X c) (hm:X.mg c=some (.ref D')) (xc:XC X.K D') (gx:GX X.K c D') (hdb:(c == ("__debug__":Str))=false) (hN:X.N.Nodup) (hi:X.N[i]?=some n) (hl:X.env.scope.names.lookup n=some .local) (hs:∀ v,PSs (X.inH v) (b₀::body) ts)
 (h1:c∈ns->ts { nx:=fun σ H=>D.nx (σ.set i none) H,rt:=D.rt,bk:=fun σ H=>D.bk (σ.set i none) H,ct:=fun σ H=>D.ct (σ.set i none) H } (σ.set i (some (.ref ea))) H) (h2:c∉ns->wpAny (model X.prog X.w) X.A (handleBy (.ref ea) X.env rest) (SP X pins D) E s):
 wpAny (model X.prog X.w) X.A (handleBy (.ref ea) X.env (.ExceptHandler (some (.Name c np)) (some n) (b₀::body) pos::rest)) (SP X pins D) E s:=by
 refine wpAny_handleBy_cons (Zdg XNh I e hg hm xc gx hdb ?_) ZbT
 by_cases z:c∈ns
 . rw [decide_eq_true z,if_pos rfl]
   refine codeAny_handlers_suite_as (thn (ZaM (o:=none) I f) fun _ s1 z0=>?_)
   obtain ⟨I1,f1⟩:=z0
   refine Zb7 (v:=.ref ea) I1 hN hi (.inl hl) rfl (fun s2 I2=>?_) (.inr hl)
   refine wpAny_mono (hs (.ref ea) pins s2 _ H _ (I2.inH _) (h1 z)) (fun fl s3 q=>?_) fun _ _ z=>z.elim
   cases fl with
   | next=>obtain ⟨σ',H',I3,q⟩:=q;exact Za0 (v:=.non) (I3.outH I.ok.hd) hN hi hl fun s4 I4=>⟨_,_,I4,q⟩
   | brk=>obtain ⟨σ',H',I3,q⟩:=q;exact Za0 (v:=.non) (I3.outH I.ok.hd) hN hi hl fun s4 I4=>⟨_,_,I4,q⟩
   | cont=>obtain ⟨σ',H',I3,q⟩:=q;exact Za0 (v:=.non) (I3.outH I.ok.hd) hN hi hl fun s4 I4=>⟨_,_,I4,q⟩
   | ret u=>obtain ⟨v,σ',H',I3,r,q⟩:=q;exact Za0 (v:=.non) (I3.outH I.ok.hd) hN hi hl fun s4 I4=>⟨v,_,_,I4,r,q⟩
 . rw [decide_eq_false z,if_neg Bool.false_ne_true]
   exact h2 z
theorem ZlH{ns:List Str}{C:Addr}{dx:Option Addr}{fs:List (Str×V)}{D:Ends}(XNh:XN X.K ns C)(hh:PHs X hs gs)(I:Inv X pins σ H s)(e:H ea=some (.exc C dx false fs))(f:FlyT (fun fl=>fl=Value.none) H s.heap ea)(h:Zcs ns D ea σ H gs):
 wpAny (model X.prog X.w) X.A (handleBy (.ref ea) X.env hs) (SP X pins D) E s:=by
 induction hh with
 | nil=>exact h.elim
 | cons p ps ih=>
  cases p with
  | plain hg hm xc gx hdb hs'=>
   refine ZhO XNh I e f hg hm xc gx hdb hs' (fun z=>?_) fun z=>ih ?_
   . unfold Zcs at h;rw [if_pos z] at h;exact h
   . unfold Zcs at h;rw [if_neg z] at h;exact h
  | as_ hg hm xc gx hdb hN hi hl hs'=>
   refine ZlG XNh I e f hg hm xc gx hdb hN hi hl hs' (fun z=>?_) fun z=>ih ?_
   . unfold Zcs at h;rw [if_pos z] at h;exact h
   . unfold Zcs at h;rw [if_neg z] at h;exact h
def ZjO{ns:List Str}{C:Addr}{dx:Option Addr}{fs:List (Str×V)}{D:Ends}{c n:Str}{ts:TS}{rest:List ExceptHandler}(XNh:XN X.K ns C)(I:Inv X pins σ H s)(e:H ea=some (.exc C dx false fs))(f:FlyT (fun fl=>fl=Value.none) H s.heap ea)
 (hg:Gl X c) (hm:X.mg c=some (.ref D')) (xc:XC X.K D') (gx:GX X.K c D') (hdb:(c == ("__debug__":Str))=false) (hN:X.N.Nodup) (hi:X.N[i]?=some n) (hl:X.env.scope.names.lookup n=some .local) (hs:∀ p:Addr×Obj×HO,Lone p.2.1->PSs (X.inHF p) (b₀::body) ts)
 (h1:c∈ns->∀ o,ts { nx:=fun σ H=>D.nx (σ.set i none) H,rt:=D.rt,bk:=fun σ H=>D.bk (σ.set i none) H,ct:=fun σ H=>D.ct (σ.set i none) H } (σ.set i (some (.ref ea))) (upd H ea (.frz o (.exc C dx false fs)))) (h2:c∉ns->wpAny (model X.prog X.w) X.A (handleBy (.ref ea) X.env rest) (SP X pins D) E s):
 wpAny (model X.prog X.w) X.A (handleBy (.ref ea) X.env (.ExceptHandler (some (.Name c np)) (some n) (b₀::body) pos::rest)) (SP X pins D) E s:=by
 refine wpAny_handleBy_cons (Zdg XNh I e hg hm xc gx hdb ?_) ZbT
 by_cases z:c∈ns
 . rw [decide_eq_true z,if_pos rfl]
   refine codeAny_handlers_suite_as (thn (ZaM (o:=none) I f) fun _ s1 z0=>?_)
   obtain ⟨I1,f1⟩:=z0
   refine Zb7 (v:=.ref ea) I1 hN hi (.inl hl) rfl (fun s2 I2=>?_) (.inr hl)
   obtain ⟨o,lo,I2⟩:=ZhN I2 e
   refine wpAny_mono (hs (ea,o,.exc C dx false fs) lo pins s2 _ _ _ (I2.inHF Zk) (h1 z o)) (fun fl s3 q=>?_) fun _ _ z=>z.elim
   cases fl with
   | next=>obtain ⟨σ',H',I3,q⟩:=q;exact Za0 (v:=.non) (I3.outHF I.ok.hd) hN hi hl fun s4 I4=>⟨_,_,I4,q⟩
   | brk=>obtain ⟨σ',H',I3,q⟩:=q;exact Za0 (v:=.non) (I3.outHF I.ok.hd) hN hi hl fun s4 I4=>⟨_,_,I4,q⟩
   | cont=>obtain ⟨σ',H',I3,q⟩:=q;exact Za0 (v:=.non) (I3.outHF I.ok.hd) hN hi hl fun s4 I4=>⟨_,_,I4,q⟩
   | ret u=>obtain ⟨v,σ',H',I3,r,q⟩:=q;exact Za0 (v:=.non) (I3.outHF I.ok.hd) hN hi hl fun s4 I4=>⟨v,_,_,I4,r,q⟩
 . rw [decide_eq_false z,if_neg Bool.false_ne_true]
   exact h2 z
def ZpG(K:Fg)(tb:TX)(c:Str)(i:Nat)(ts:TS):TX:=fun D σ H=>tb { D with xc:=fun ea σ' H'=>∃ C dx fs ns,XN K ns C/\H' ea=some (.exc C dx false fs)/\c∈ns/\∀ o,ts { nx:=fun σ H=>D.nx (σ.set i none) H,rt:=D.rt,bk:=fun σ H=>D.bk (σ.set i none) H,ct:=fun σ H=>D.ct (σ.set i none) H } (σ'.set i (some (.ref ea))) (upd H' ea (.frz o (.exc C dx false fs))) } σ H
def ZlI{tb:TX}{ts:TS}{c n:Str}{suite:List Stmt}{hp:Pos}(F:Fr0 X X.A)(hx:∀ e s,¬ X.xe e s)(hb:PXs X body tb)(hg:Gl X c)(hm:X.mg c=some (.ref D'))(xc:XC X.K D')(gx:GX X.K c D')(hdb:(c == ("__debug__":Str))=false)(hN:X.N.Nodup)(hi:X.N[i]?=some n)(hl:X.env.scope.names.lookup n=some .local)
 (hs:∀ p:Addr×Obj×HO,Lone p.2.1->PSs (X.inHF p) (b₀::suite) ts):PX X (.Try body [.ExceptHandler (some (.Name c np)) (some n) (b₀::suite) hp] [] [] pos) (ZpG X.K tb c i ts):=by
 intro pins s σ H D I h
 refine wpAny_Try_except (wpAny_mono (hb pins s σ H _ I h) (fun fl s1 q=>?_) fun e s1 q=>?_)
 . cases fl with
   | next=>exact wpAny_execs_nil q
   | ret v=>exact q
   | brk=>exact q
   | cont=>exact q
 . rcases q with q|⟨ea,σ',H',rfl,I1,f1,q⟩
   . exact absurd q (hx _ _)
   . refine thn (Zd5 F I1 f1) fun _ s2 ⟨H2,I2,k2,f2⟩=>thn (ZaM (o:=none) I2 f2) fun _ s3 ⟨I3,f3⟩=>?_
     obtain ⟨C,dx,fs,ns,xn,e,hc,th⟩:=q H2 k2
     exact ZjO xn I3 e f3 hg hm xc gx hdb hN hi hl hs (fun _=>th) fun z=>absurd hc z
def tTry(K:Fg)(tb:TX)(gs:List HS):TX:=fun D σ H=>tb { D with xc:=fun ea σ' H'=>∃ C dx fs ns,XN K ns C/\H' ea=some (.exc C dx false fs)/\Zcs ns D.toEnds ea σ' H' gs } σ H
def Zn6{h₀:ExceptHandler}{tb:TX}(F:Fr0 X X.A)(hx:∀ e s,¬ X.xe e s)(hb:PXs X body tb)(hh:PHs X (h₀::hs) gs):PX X (.Try body (h₀::hs) [] [] pos) (tTry X.K tb gs):=by
 intro pins s σ H D I h
 refine wpAny_Try_except (wpAny_mono (hb pins s σ H _ I h) (fun fl s1 q=>?_) fun e s1 q=>?_)
 . cases fl with
   | next=>exact wpAny_execs_nil q
   | ret v=>exact q
   | brk=>exact q
   | cont=>exact q
 . rcases q with q|⟨ea,σ',H',rfl,I1,f1,q⟩
   . exact absurd q (hx _ _)
   . refine thn (Zd5 F I1 f1) fun _ s2 ⟨H2,I2,k2,f2⟩=>thn (ZaM (o:=none) I2 f2) fun _ s3 ⟨I3,f3⟩=>?_
     obtain ⟨C,dx,fs,ns,xn,e,th⟩:=q H2 k2
     exact ZlH xn hh I3 e f3 th
end
section
noncomputable def Zn7(C:Addr)(m:Str)(sp:Sp)(dvs:List V)(ta:TE)(t:TA):TEX:=fun σ H Q Ex=>ta σ H fun x H1=>∃ a dx fs,x=.ref a/\H1 a=some (.ins C dx fs)/\fs.lookup m=none/\
 t σ H1 fun vs H2=>sp (x::(vs++dvs)) H2 Q (fun v _ H'=>∃ ea,v=.ref ea/\Ex ea H')
def ZjP(he:PE X o ta)(c:Cls X.K C)(hm:Meth X.K C m f)(F:FnOk X.prog X.w X.K X.mg X.base (CXx X.prog X.w) k f fd ps sp)(hr:Room k X.A)(hb:Binds X.K fd ps ds)(hd:Vals dvs ds)(ha:PA X (e::es) t)
 (hst:autoParam (SE X e es) Q9) (hpl:autoParam (SFx X pos es) Q9)
 (ht:autoParam (eval (.Call (.Attribute o m apos) (e::es) [] pos) X.env=(do
  let ov <- eval o X.env
  standAt apos.atName
  let (f,first) <- holding [ov] (getMethod ov m pl)
  callWith pos f first (backTo pos (starEach (e::es) X.env)) (backToKw pos (keywordEach [] X.env)))) Q9):
 PEx X (.Call (.Attribute o m apos) (e::es) [] pos) (Zn7 C m sp dvs ta t):=by
 intro pins s σ H Q Ex I h
 refine methodCall_KW (pl:=pl) (thne (he pins s σ H _ I h) fun u s1 z0=>?_) ht
 obtain ⟨x,H1,I1,rx,a,dx,fs,ex,ea,l,q⟩:=z0
 subst ex
 obtain rfl:u=Value.ref a:=rx
 refine Zej I1 ea c hm l ?_
 refine callWith_K (first:=[.ref a]) (h₀:=X.base) I.ok.mod.kin hm.kp (thne (ha pos pins s1 σ H1 _ I1 q) fun us s2 ⟨vs,H2,I2,r,q2⟩=>⟨I2.kIn,?_⟩) hst hpl
 exact Zhi (us:=.ref a::us) (vs:=.ref a::vs) F hr hb hd I2 (.cons rfl r) q2
theorem ZiJ(M:Mk X.K C f)(F:FnOk X.prog X.w X.K X.mg X.base (CXx X.prog X.w) k f fd ps sp)(hr:Room (k+1) X.A)(hb:Binds X.K fd ps ds)(hd:Vals dvs ds)
 (I:Inv X pins σ H s) (r:Vals vs us)
 (h:∀ x dx,H x=none->H dx=none->dx≠x->sp (.ref x::(vs++dvs)) (upd (upd H dx (.own x)) x (.ins C dx [])) (fun v H2=>v=.non/\Q (.ref x) H2) (fun v _ H'=>∃ ea,v=.ref ea/\Ex ea H')):
 wpAny (model X.prog X.w) X.A (call (.ref C) us) (EP X pins σ Q) (EXP X pins σ Ex) s:=by
 have hq:=h (s.heap.objs.size+1) s.heap.objs.size (I.hok.fresh (le_succ _)) (I.hok.fresh (Nat.le_refl _)) (ne_of_lt (Nat.lt_succ_self _))
 have I2:=Inv.made (C:=C) I
 have r2:Vals (V.ref (s.heap.objs.size+1)::(vs++dvs)) (Value.ref (s.heap.objs.size+1)::(us++ds)):=.cons rfl (r.append hd)
 have hl:(Value.ref (s.heap.objs.size+1)::us++ds).length=ps.length:=by
  have e:=r2.length
  rw [F.len _ _ _ _ hq] at e
  exact e.symm
 refine wpAny_call (ZfE (f:=f) I.kIn M.makes M.init (beq_iff_eq.mp M.fn) (codeAny_mono (F.run _ X.stack _ _ ⟨Value.ref (s.heap.objs.size+1)::us,[]⟩ (Value.ref (s.heap.objs.size+1)::(us++ds)) _ _ _ (hr.make C us [])
  (I2.env0.make C us []) (hb _ (Value.ref (s.heap.objs.size+1)::us) I2.kIn hl) r2 hq) fun r s' hq'=>?_))
 cases r with
 | error e=>
  obtain ⟨ea,H',rfl,os,bare,un,hok,fl,q⟩:=hq'
  refine .inr ⟨ea,H',rfl,I2.call' (ch:=[]) os un hok bare fun b z=>absurd z (by simp),.inr (fl.mono fun v z=>.inl z),fun H'' z=>?_⟩
  obtain ⟨ea',e,q⟩:=q H'' z
  cases e
  exact q
 | ok fl=>
  cases fl with
  | ret u=>
   obtain ⟨v,H',I3,rv,ev,q3⟩:=I2.after hq'
   subst ev
   exact ⟨rv,⟨V.ref (s.heap.objs.size+1),H',I3,rfl,q3⟩⟩
  | next=>exact False.elim hq'
  | brk=>exact False.elim hq'
  | cont=>exact False.elim hq'
noncomputable def Zn8(C:Addr)(sp:Sp)(dvs:List V)(t:TA):TEX:=fun σ H Q Ex=>t σ H fun vs H1=>∀ x dx,H1 x=none->H1 dx=none->dx≠x->
 sp (.ref x::(vs++dvs)) (upd (upd H1 dx (.own x)) x (.ins C dx [])) (fun v H2=>v=.non/\Q (.ref x) H2) (fun v _ H'=>∃ ea,v=.ref ea/\Ex ea H')
def ZjQ(M:Mk X.K C f)(F:FnOk X.prog X.w X.K X.mg X.base (CXx X.prog X.w) k f fd ps sp)(hr:Room (k+1) X.A)(hg:Gl X x)(hm:X.mg x=some (.ref C))(hb:Binds X.K fd ps ds)(hd:Vals dvs ds)
 (ha:PA X (e::es) t) (hdb:autoParam ((x == ("__debug__":Str))=false) Q7) (he:autoParam (SE X e es) Q9) (hpl:autoParam (SFx X pos es) Q9):
 PEx X (.Call (.Name x p) (e::es) [] pos) (Zn8 C sp dvs t):=by
 intro pins s σ H Q Ex I h
 refine wpAny_Call_Name_kw (ZaQ I hg hm ?_ hdb)
 refine callWith_K (h₀:=X.base) I.ok.mod.kin M.kp (thne (ha pos pins s σ H _ I h) fun us s1 ⟨vs,H1,I1,r,q⟩=>⟨I1.kIn,?_⟩) he hpl
 exact ZiJ M F hr hb hd I1 r q
end
noncomputable def Zn9(sc:Scope)(x:Str):Bool:=sc.names.lookup x == some .cell
theorem ZbK:∀(names:List (Str×NameKind))(n:Nat)(acc:List (Str×Addr)),cellsFrom n names acc=cellsFrom n names []++acc
 | [],_,_=>rfl
 | (x,k)::r,n,acc=>by
  unfold cellsFrom
  split
  . rw [ZbK r (n+1) ((x,n)::acc),ZbK r (n+1) [(x,n)],List.append_assoc];rfl
  . exact ZbK r n acc
theorem Zdh:∀(names:List (Str×NameKind))(n:Nat)(x:Str)(c:Addr),(x,c)∈cellsFrom n names []->(x,.cell)∈names
 | [],_,_,_,h=>by simp [cellsFrom] at h
 | (y,k)::r,n,x,c,h=>by
  unfold cellsFrom at h
  split at h
  . rename_i hk
    rw [ZbK] at h
    (rcases List.mem_append.mp h with h|h)
    . exact mem_cons_of_mem _ (Zdh r _ x c h)
    . have e:=List.mem_singleton.mp h
      cases e
      rw [eq_of_beq hk]
      exact mem_cons_self
  . exact mem_cons_of_mem _ (Zdh r _ x c h)
theorem Zeq:∀{names:List (Str×NameKind)}{x:Str}{k k':NameKind},(names.map (·.1)).Nodup->names.lookup x=some k->(x,k')∈names->k=k'
 | [],_,_,_,_,hn,_=>by simp at hn
 | (y,kd)::r,x,k,k',nd,h,hm=>by
  (obtain ⟨n1,n2⟩:=List.nodup_cons.mp nd)
  rw [lookup_cons] at h
  cases hb:x == y with
  | true=>
   rw [hb] at h
   have e:kd=k:=Option.some.inj h
   have hx:=eq_of_beq hb
   subst hx
   rcases List.mem_cons.mp hm with q|q
   . cases q;exact e.symm
   . exact absurd (List.mem_map.mpr ⟨_,q,rfl⟩) n1
  | false=>
   rw [hb] at h
   rcases List.mem_cons.mp hm with q|q
   . cases q;simp at hb
   . exact Zeq n2 h q
theorem Zbu(x:Str):∀(l r:List (Str×α)),(l++r).lookup x=match l.lookup x with|some c=>some c|none=>r.lookup x
 | [],r=>rfl
 | (y,c)::l,r=>by
  rw [cons_append,lookup_cons,lookup_cons]
  cases x == y with
  | true=>rfl
  | false=>exact Zbu x l r
noncomputable def cxC(X:Cx)(N':List Str)(scope:Scope)(cl:List (Str×Addr))(C:Addr)(s₀:Shared)(H₀:Hp)(ex:List Addr):Cx where
 prog:=X.prog
 w:=X.w
 K:=X.K
 mg:=X.mg
 base:=X.base
 A:=X.A
 N:=N'
 s₀:=s₀
 H₀:=H₀
 env:=compEnvC scope cl C X.env
 outer:=X.stack
 stack:=X.stack
 ex:=ex
 fn:=fun x=>Zn9 scope x
 calm:=X.calm
 fz:=X.fz
 pn:=[]
 xe:=fun _ _=>False
def Zer(h:∀ y∈scope.names,y.2=.free->∃ c,env.cells.lookup y.1=some c):
 ∃ cl,closureFor scope env=pure cl/\(∀ y c,cl.lookup y=some c->env.cells.lookup y=some c)/\∀ y∈scope.names,y.2=.free->∃ c,cl.lookup y.1=some c:=by
 have go:∀(names:List (Str×NameKind))(acc:List (Str×Addr)),(∀ y∈names,y.2=.free->∃ c,env.cells.lookup y.1=some c)->(∀ y c,acc.lookup y=some c->env.cells.lookup y=some c)->
  ∃ cl,(forIn names acc fun x r=>if (x.2 == NameKind.free)=true then do let c <- cellOf env x.1;pure (ForInStep.yield ((x.1,c)::r)) else pure (ForInStep.yield r):Sem _)=pure cl/\
   (∀ y c,cl.lookup y=some c->env.cells.lookup y=some c)/\(∀ y c,acc.lookup y=some c->∃ c,cl.lookup y=some c)/\∀ y∈names,y.2=.free->∃ c,cl.lookup y.1=some c:=by
  intro names
  induction names with
  | nil=>intro acc _ h2;exact ⟨acc,rfl,h2,fun y c e=>⟨c,e⟩,fun y hy=>nomatch hy⟩
  | cons z r ih=>
   intro acc h1 h2
   obtain ⟨n,k⟩:=z
   rw [List.forIn_cons]
   by_cases hk:k=.free
   . subst hk
     obtain ⟨c,hc⟩:=h1 (n,.free) mem_cons_self rfl
     obtain ⟨cl,e,a1,a2,a3⟩:=ih ((n,c)::acc) (fun y hy=>h1 y (mem_cons_of_mem _ hy)) (fun y d hd=>by
      rw [lookup_cons] at hd
      cases hb:y == n with
      | true=>rw [hb] at hd;simp only at hd;cases hd;rw [eq_of_beq hb];exact hc
      | false=>rw [hb] at hd;exact h2 y d hd)
     refine ⟨cl,?_,a1,fun y d hd=>?_,fun y hy hf=>?_⟩
     . rw [<- e]
       have e1:cellOf env n=pure c:=by
        unfold cellOf
        rw [hc]
       simp only [beq_self_eq_true,if_true,e1,pure_bind]
     . by_cases hyn:y=n
       . exact a2 y c (by rw [hyn,lookup_cons,beq_self_eq_true])
       . exact a2 y d (by rw [lookup_cons,show (y == n)=false by simpa using hyn];exact hd)
     . (rcases List.mem_cons.mp hy with rfl|hy)
       . exact a2 n c (by rw [lookup_cons,beq_self_eq_true])
       . exact a3 y hy hf
   . have hb:(k == NameKind.free)=false:=by simpa using hk
     obtain ⟨cl,e,a1,a2,a3⟩:=ih acc (fun y hy=>h1 y (mem_cons_of_mem _ hy)) h2
     refine ⟨cl,?_,a1,a2,fun y hy hf=>?_⟩
     . rw [<- e]
       simp only [hb,Bool.false_eq_true,if_false,pure_bind]
     . (rcases List.mem_cons.mp hy with rfl|hy)
       . exact absurd hf hk
       . exact a3 y hy hf
 obtain ⟨cl,e,a1,_,a3⟩:=go scope.names [] h (fun y c e=>nomatch e)
 refine ⟨cl,?_,a1,a3⟩
 unfold closureFor
 simp only [] at e ⊢
 rw [e]
 rfl
theorem Zdi{env:Env}:∀{names:List (Str×NameKind)}{x:Str},names.lookup x=some .free->
 (names.map fun(n,k)=>if (k == NameKind.free && env.scope.kind == .function && env.kindOf n == some .cell) then (n,NameKind.cell) else (n,k)).lookup x=some .cell\/
 (names.map fun(n,k)=>if (k == NameKind.free && env.scope.kind == .function && env.kindOf n == some .cell) then (n,NameKind.cell) else (n,k)).lookup x=some .free
 | [],_,h=>by simp at h
 | (n,k)::r,x,h=>by
  have ih:=@Zdi env r x
  show List.lookup x ((if (k == NameKind.free && env.scope.kind == .function && env.kindOf n == some .cell)=true then (n,NameKind.cell) else (n,k))::_)=_\/List.lookup x ((if (k == NameKind.free && env.scope.kind == .function && env.kindOf n == some .cell)=true then (n,NameKind.cell) else (n,k))::_)=_
  cases hx:x == n with
  | true=>
   (simp only [lookup_cons,hx] at h)
   cases h
   by_cases hc:(NameKind.free == NameKind.free && env.scope.kind == .function && env.kindOf n == some .cell)=true
   . rw [if_pos hc];left;simp only [lookup_cons,hx]
   . rw [if_neg hc];right;simp only [lookup_cons,hx]
  | false=>
   (simp only [lookup_cons,hx] at h)
   (by_cases hc:(k == NameKind.free && env.scope.kind == .function && env.kindOf n == some .cell)=true)
   . (rw [if_pos hc];simp only [lookup_cons,hx];exact ih h)
   . (rw [if_neg hc];simp only [lookup_cons,hx];exact ih h)
noncomputable def ZfM(osc:Scope)(oN:List Str)(k:Nat)(js:List Nat)(N':List Str)(scope:Scope):Bool:=
 scope.kind == .function && decide (scope.names.map (·.1)).Nodup && scope.names.all (fun y=>y.2 != .local || scope.names.lookup y.1 == some .local) &&
 scope.names.all (fun y=>y.2 != .free || osc.names.lookup y.1 == some .cell || osc.names.lookup y.1 == some .free) &&
 N'.length == k+js.length && decide N'.Nodup &&
 (List.range js.length).all fun i=>match js[i]? with
  | none=>false
  | some j=>match oN[j]? with
   | none=>false
   | some y=>N'[k+i]? == some y && scope.names.lookup y == some .free
structure CompScope(X:Cx)(k:Nat)(js:List Nat)(N':List Str)(scope:Scope):Prop where
 kind:scope.kind=.function
 ndn:(scope.names.map (·.1)).Nodup
 names:∀ y∈scope.names,y.2=.local->scope.names.lookup y.1=some .local
 free:∀ y∈scope.names,y.2=.free->X.env.kindOf y.1=some .cell\/X.env.kindOf y.1=some .free
 len:N'.length=k+js.length
 nd:N'.Nodup
 idx:∀ i j:Nat,js[i]?=some j->∃ y,X.N[j]?=some y/\N'[k+i]?=some y/\scope.names.lookup y=some .free
def CompScope.of(h:ZfM osc oN k js N' scope=true)(e:X.env.scope=osc)(eN:X.N=oN):CompScope X k js N' scope:=by
 subst e eN
 unfold ZfM at h
 (simp only [and_eq_true] at h)
 obtain ⟨⟨⟨⟨⟨⟨h1,h2⟩,h3⟩,h4⟩,h5⟩,h6⟩,h7⟩:=h
 refine ⟨eq_of_beq h1,of_decide_eq_true h2,fun y hy hl=>?_,fun y hy hf=>?_,eq_of_beq h5,of_decide_eq_true h6,fun i j hj=>?_⟩
 . have q:=List.all_eq_true.mp h3 y hy
   rw [hl] at q
   simpa using q
 . have q:=List.all_eq_true.mp h4 y hy
   rw [hf] at q
   simp at q
   exact q
 . have hi:i < js.length:=(List.getElem?_eq_some_iff.mp hj).1
   have q:=List.all_eq_true.mp h7 i (List.mem_range.mpr hi)
   rw [hj] at q
   simp only at q
   cases hN:X.N[j]? with
   | none=>rw [hN] at q;cases q
   | some y=>
    rw [hN] at q
    simp only [and_eq_true] at q
    exact ⟨y,rfl,eq_of_beq q.1,eq_of_beq q.2⟩
noncomputable def Zbv(js:List Nat)(σ:St):St:=js.map fun j=>(σ[j]?).join
noncomputable def Zbb(k:Nat)(js:List Nat)(σ:St):St:=replicate k none++Zbv js σ
section
def ZjR
 (I:Inv X pins σ H s) (S:CompScope X k js N' scope) (hf:∀ b∈fp,FpOk X pins H b) (hfo:∀ b∈fp,b < s.heap.objs.size)
 (c1:∀ y c,cl.lookup y=some c->X.env.cells.lookup y=some c) (c2:∀ y∈scope.names,y.2=.free->∃ c,cl.lookup y.1=some c)
 (ns:∃ m,h1.Ns (s.heap.objs.size+1) m) (kp:∀ b o,s.heap.get? b=some o->h1.get? b=some o) (hD:h1.get? s.heap.objs.size=some { cls:=.type "list",data:=.seq #[] }) (ck:CellsOk h1 (s.heap.objs.size+2) (cellsFrom (s.heap.objs.size+2) scope.names [])):
 Inv (cxC X N' scope (cellsFrom (s.heap.objs.size+2) scope.names cl) (s.heap.objs.size+1) s H fp) [] (Zbb k js σ) (upd H s.heap.objs.size (.lst [])) { s with heap:=h1,toks:=tk }:=by
 have hfr:H s.heap.objs.size=none:=I.hok.fresh (Nat.le_refl _)
 have hfr1:H (s.heap.objs.size+1)=none:=I.hok.fresh (le_succ _)
 have cells:∀ y c,cl.lookup y=some c->c < s.heap.objs.size:=fun y c e=>by
  obtain ⟨v,q⟩:=I.cell y c (c1 y c e)
  exact q.lt
 have exb:∀ b∈fp,∀ o,X.base.get? b=some o->False:=fun b hb o e=>by
  rcases (hf b hb).2.2.2.1 with z|z
  . exact I.ok.noex b o e z
  . exact absurd (lt_of_lt_of_le (Heap.lt_size (I.ok.bs b o e).1) z) (lt_irrefl _)
 have exs:∀ b∈fp,b∉frs X.stack:=fun b hb z=>by
  rcases List.mem_cons.mp (I.stkSub b z) with q|q
  . exact (hf b hb).2.1 q
  . exact (hf b hb).2.2.1 q
 obtain ⟨m1,hn1⟩:=ns
 rw [ZbK]
 generalize hL:cellsFrom (s.heap.objs.size+2) scope.names []=L at ck
 have memL:∀ x c,(x,c)∈L->scope.names.lookup x≠some .free:=fun x c h q=>by
  have:=Zeq S.ndn q (Zdh _ _ _ _ (by rw [hL];exact h))
  cases this
 have cel:∀ x c,(L++cl).lookup x=some c->((x,c)∈L/\s.heap.objs.size+2<=c/\h1.IsCell c none)\/(cl.lookup x=some c/\L.lookup x=none):=fun x c e=>by
  rw [Zbu] at e
  cases q:L.lookup x with
  | some c'=>
   rw [q] at e
   have e':c'=c:=Option.some.inj e
   subst e'
   have hm:=PySem.mem_of_lookup q
   exact .inl ⟨hm,(ck.empty _ _ hm).2,(ck.empty _ _ hm).1⟩
  | none=>rw [q] at e;exact .inr ⟨e,rfl⟩
 have freeL:∀ x,scope.names.lookup x=some .free->(L++cl).lookup x=cl.lookup x:=fun x hx=>by
  rw [Zbu]
  cases q:L.lookup x with
  | some c=>exact absurd hx (memL x c (PySem.mem_of_lookup q))
  | none=>rfl
 have upk:∀ y,scope.names.lookup y=some .free->((cxC X N' scope (L++cl) (s.heap.objs.size+1) s H fp).env.kindOf y=some .cell\/(cxC X N' scope (L++cl) (s.heap.objs.size+1) s H fp).env.kindOf y=some .free):=fun y hy=>Zdi hy
 have memf:∀ y,scope.names.lookup y=some .free->∃ c,cl.lookup y=some c:=fun y hy=>c2 (y,.free) (PySem.mem_of_lookup hy) rfl
 have back:∀ y,((cxC X N' scope (L++cl) (s.heap.objs.size+1) s H fp).env.kindOf y=some .cell\/(cxC X N' scope (L++cl) (s.heap.objs.size+1) s H fp).env.kindOf y=some .free)->scope.names.lookup y=some .free\/scope.names.lookup y=some .cell:=by
  intro y hy
  have key:∀ names:List (Str×NameKind),
   ((names.map fun(n,k)=>if (k == NameKind.free && X.env.scope.kind == .function && X.env.kindOf n == some .cell) then (n,NameKind.cell) else (n,k)).lookup y=some .cell\/
   (names.map fun(n,k)=>if (k == NameKind.free && X.env.scope.kind == .function && X.env.kindOf n == some .cell) then (n,NameKind.cell) else (n,k)).lookup y=some .free)->names.lookup y=some .free\/names.lookup y=some .cell:=by
   intro names
   induction names with
   | nil=>intro h;simp at h
   | cons z r ih=>
    intro h
    obtain ⟨n,kd⟩:=z
    have h':List.lookup y ((if (kd == NameKind.free && X.env.scope.kind == .function && X.env.kindOf n == some .cell)=true then (n,NameKind.cell) else (n,kd))::r.map _)=_\/
     List.lookup y ((if (kd == NameKind.free && X.env.scope.kind == .function && X.env.kindOf n == some .cell)=true then (n,NameKind.cell) else (n,kd))::r.map _)=_:=h
    rw [lookup_cons]
    cases hx:y == n with
    | true=>
     by_cases hc:(kd == NameKind.free && X.env.scope.kind == .function && X.env.kindOf n == some .cell)=true
     . have:(kd == NameKind.free)=true:=by
        (simp only [and_eq_true] at hc)
        exact hc.1.1
       rw [eq_of_beq this]
       exact .inl rfl
     . rw [if_neg hc] at h'
       simp only [lookup_cons,hx] at h'
       rcases h' with q|q
       . exact .inr q
       . exact .inl q
    | false=>
     simp only
     by_cases hc:(kd == NameKind.free && X.env.scope.kind == .function && X.env.kindOf n == some .cell)=true
     . rw [if_pos hc] at h'
       simp only [lookup_cons,hx] at h'
       exact ih h'
     . rw [if_neg hc] at h'
       simp only [lookup_cons,hx] at h'
       exact ih h'
  exact key scope.names hy
 have hasL:∀ y,∀ c,cl.lookup y=some c->∃ c,(L++cl).lookup y=some c:=fun y c e=>by
  rw [Zbu]
  cases q:L.lookup y with
  | some c'=>exact ⟨c',rfl⟩
  | none=>exact ⟨c,e⟩
 refine ⟨⟨I.mod,S.kind,I.ok.glob,I.ok.blt,le_succ _,fun x y c e1 e2=>?_,fun y hy=>?_,fun x c hx e=>?_,I.ok.hd,I.ok.frames,.inl rfl,
  fun b hb=>⟨ne_of_lt (Nat.lt_succ_of_lt (hfo b hb)),fun x c e=>?_⟩,I.bs,le_trans I.ok.bsz I.sz,fun b o e hb=>exb b hb o e,exs,I.stack,I.stkFree⟩,
  rfl,I.bare,Un.laid kp (Nat.le_refl _) hfr,⟨m1,hn1,fun i x v e1 e2 e3=>?_⟩,fun x c e=>?_,?_,fun x c e=>?_,fun p hp=>(nomatch hp),I.hok.laid kp (Nat.le_refl _) ⟨by simp,[],0,.nil,hD⟩,?_,fun p hp=>by rw [Zj (ZN (I.fzd p hp) (I.hok.fresh (Nat.le_refl _)))];exact I.fzd p hp⟩
 . rcases cel x c e1 with ⟨h1',h2',_⟩|⟨h1',_⟩<;>rcases cel y c e2 with ⟨g1',g2',_⟩|⟨g1',_⟩
   . exact name_of_addr ck.apart h1' g1'
   . exact absurd (lt_of_lt_of_le (cells y c g1') (le_trans (le_add_right _ _) h2')) (lt_irrefl _)
   . exact absurd (lt_of_lt_of_le (cells x c h1') (le_trans (le_add_right _ _) g2')) (lt_irrefl _)
   . exact I.ok.inj x y c (c1 x c h1') (c1 y c g1')
 . rcases back y hy with q|q
   . obtain ⟨c,hc⟩:=memf y q
     exact hasL y c hc
   . obtain ⟨c,hc⟩:=ZcI (sc:=scope) (n:=s.heap.objs.size+2) q
     rw [hL] at hc
     refine ⟨c,?_⟩
     show (L++cl).lookup y=some c
     rw [Zbu,hc]
 . have q:scope.names.lookup x=some .cell:=eq_of_beq hx
   obtain ⟨c',hc⟩:=ZcI (sc:=scope) (n:=s.heap.objs.size+2) q
   rw [hL] at hc
   rcases cel x c e with ⟨_,h2,_⟩|⟨_,h2⟩
   . exact le_trans (le_add_right _ _) h2
   . rw [hc] at h2;cases h2
 . rcases cel x c e with ⟨_,h2,_⟩|⟨h2,_⟩
   . exact fun z=>absurd (lt_of_lt_of_le (hfo b hb) (le_trans (le_add_right _ _) h2)) (by rw [z];exact lt_irrefl _)
   . exact (hf b hb).2.2.2.2.1 x c (c1 x c h2)
 . -- a name's value within the block
   have hi:¬ i < k:=fun hi=>by
    unfold Zbb at e2
    rw [List.getElem?_append_left (by simpa using hi),List.getElem?_replicate,if_pos hi] at e2
    cases e2
   have hik:k<=i:=Nat.le_of_not_lt hi
   have e2':(Zbv js σ)[i - k]?=some (some v):=by
    unfold Zbb at e2
    rw [List.getElem?_append_right (by simpa using hik),length_replicate] at e2
    exact e2
   unfold Zbv at e2'
   rw [getElem?_map] at e2'
   cases hj:js[i - k]? with
   | none=>rw [hj] at e2';cases e2'
   | some j=>
    rw [hj] at e2'
    have e4:(σ[j]?).join=some v:=Option.some.inj e2'
    obtain ⟨y,n1,n2,n3⟩:=S.idx (i - k) j hj
    rw [Nat.add_sub_cancel' hik] at n2
    have e1':N'[i]?=some x:=e1
    rw [e1'] at n2
    obtain rfl:x=y:=Option.some.inj n2
    have e5:σ[j]?=some (some v):=by
     cases q:σ[j]? with
     | none=>rw [q] at e4;cases e4
     | some o=>rw [q] at e4;exact congrArg some e4
    obtain ⟨m,hn,hl⟩:=I.loc
    have hk:=S.free (x,.free) (PySem.mem_of_lookup n3) rfl
    have hv:Vis X.env.scope x:=.inr hk
    obtain ⟨u,r,l⟩:=hl j x v n1 e5 hv
    refine ⟨u,r,.inr ⟨upk x n3,?_⟩⟩
    rcases l with ⟨q,_⟩|⟨_,c,hc,hcell⟩
    . rcases hk with z|z<;>(rw [show X.env.kindOf x=some NameKind.local from q] at z;cases z)
    . obtain ⟨c',hc'⟩:=memf x n3
      have:c'=c:=Option.some.inj ((c1 x c' hc').symm.trans hc)
      subst this
      obtain ⟨o,ho,hd⟩:=hcell
      exact ⟨c',(freeL x n3).trans hc',o,kp _ _ ho,hd⟩
 . rcases cel x c e with ⟨_,_,h3⟩|⟨h2,_⟩
   . exact ⟨_,h3⟩
   . obtain ⟨v,o,ho,hd⟩:=I.cell x c (c1 x c h2)
     exact ⟨v,o,kp _ _ ho,hd⟩
 . show upd H s.heap.objs.size (.lst []) (s.heap.objs.size+1)=none
   rw [Zj (Nat.succ_ne_self _)]
   exact hfr1
 . show upd H s.heap.objs.size (.lst []) c=none
   rcases cel x c e with ⟨_,h2,_⟩|⟨h2,_⟩
   . rw [Zj (fun z:c=s.heap.objs.size=>Nat.not_succ_le_self s.heap.objs.size (le_trans (le_succ _) (by rw [z] at h2;exact h2)))]
     exact I.hok.fresh (le_trans (le_add_right _ _) h2)
   . rw [Zj (ne_of_lt (cells x c h2))]
     exact I.freeC x c (c1 x c h2)
 . show (Zbb k js σ).length=N'.length
   unfold Zbb Zbv
   rw [length_append,length_replicate,length_map,S.len]
def PIf(X:Cx)(ifs:List Expr)(t:TT):Prop:=
 ∀(pins:Pn)(s:Shared)(σ:St)(H:Hp)(Q:Bool->Hp->Prop),Inv X pins σ H s->t σ H Q->
  wpAny (model X.prog X.w) X.A (forIn ifs true fun c r=>if r=true then do let ok <- isTrue c X.env (eval c X.env);pure (ForInStep.yield ok) else pure (ForInStep.yield r)) (TP X pins σ Q) X.xe s
def tIf0:TT:=fun _ H Q=>Q true H
def ZlJ:PIf X [] tIf0:=fun _ _ _ H _ I h=>wpAny_tests_nil ⟨H,I,h⟩
def ZlK(h:PT X c t):PIf X [c] t:=fun pins s σ H Q I q=>wpAny_tests_one (h pins s σ H Q I q)
def ZhP(J:It)(g:TG)(tif:TT)(te:TE)(D:Addr)(Q:VK)(W:Nat->Nat->St->List V->Hp->Prop):Prop:=
 ∀ i m σ ys H,W i m σ ys H->H D=some (.lst ys)->(J.stop i H/\Q (.ref D) H)\/(J.go i H/\∀ x H',J.yld i H x H'->g x σ H' fun σ2 H2=>tif σ2 H2 fun b H3=>
  if b=true then te σ2 H3 fun y H4=>H4 D=some (.lst ys)/\ys.length < sizeLine/\∃ m',m' < m/\W (i+1) m' σ2 (ys++[y]) (upd H4 D (.lst (ys++[y])))
  else H3 D=some (.lst ys)/\∃ m',m' < m/\W (i+1) m' σ2 ys H3)
def ZiK
 (hx:∀ e s',X.xe e s'->False) {q:Cx->Prop} (hc:q X) (T:TurnQ q X.prog X.w X.K tg J fp it tn) (hg:PG X tg g) (hif:PIf X ifs tif) (he:PE X elt te)
 (stat:∀{H':Hp},(∀ b∈fp,H' b=none)->∀ b∈fp,FpOk X [] H' b)
 (turn:ZhP J g tif te D Q W)
 (hR:∀ σ' H' s',Inv X [] σ' H' s'->Q (.ref D) H'->R (.ok .next) s')
 (I:Inv X [] σ H s) (st:tn 0 s.heap) (fr:∀ b∈fp,H b=none) (hD:H D=some (.lst [])) (w0:W 0 m σ [] H):
 codeAny (model X.prog X.w) X.A (.compLoop (.ListComp elt [⟨tg,iter,ifs,0⟩] scope pos) 0 (.ref it) (.ref D) X.env) R s:=by
 refine codeAny_loop rfl (fun n s'=>∃ i ys σ' H',Inv X [] σ' H' s'/\tn i s'.heap/\(∀ b∈fp,H' b=none)/\H' D=some (.lst ys)/\W i n σ' ys H') (fun n s3 hI=>?_) m ⟨0,[],σ,H,I,st,fr,hD,w0⟩
 obtain ⟨i,ys,σ3,H3,I3,st3,fr3,d3,w3⟩:=hI
 show wpAny _ X.A ((compTurn (.ListComp elt [⟨tg,iter,ifs,0⟩] scope pos) 0 (.ref it) (.ref D) X.env).onRaise (fun x=>do noteFrame x X.env;theTreesLotGoes x)) _ _ s3
 refine wpAny_noted ?_
 rw [compTurn_list]
 (refine wpAny_bind (wpAny_standAt (wpAny_bind ?_)))
 have sub:∀{α:Type}{t:Sem α}{P:α->Shared->Prop}{E':VS}{s:Shared},wpAny (model X.prog X.w) X.A t P X.xe s->wpAny (model X.prog X.w) X.A t P E' s:=fun h=>wpAny_mono h (fun _ _ q=>q) fun e s' q=>(hx e s' q).elim
 rcases turn i n σ3 ys H3 w3 d3 with ⟨stop,q⟩|⟨go,step⟩
 . refine sub (thn (T.done X rfl rfl rfl hc i [] s3 σ3 H3 X.xe I3 (stat fr3) st3 stop) fun r s4 z0=>?_)
   obtain ⟨hr,I4⟩:=z0
   subst hr
   exact wpAny_pure (hR σ3 H3 s4 I4 q)
 . refine sub (thn (T.item X rfl rfl rfl hc i [] s3 σ3 H3 X.xe I3 (stat fr3) st3 go) fun r s4 z0=>?_)
   obtain ⟨u,hr,h4⟩:=z0
   subst hr
   refine wpAny_bind (sub (thn h4 fun _ s5 z0=>?_))
   obtain ⟨x,H5,I5,r5,y5,st5,fr5⟩:=z0
   have I5':=I5.pinned (stat fr5) (T.obj _ _ st5)
   refine wpAny_bind (sub (thn (hg _ s5 σ3 H5 x u _ I5' r5 (step x H5 y5)) fun _ s6 z0=>?_))
   obtain ⟨σ6,H6,I6,q6⟩:=z0
   have again:∀{s7:Shared}{H7:Hp}{ys7:List V},Inv X ([]++Zc7 fp s5.heap) σ6 H7 s7->H7 D=some (.lst ys7)->(∃ m',m' < n/\W (i+1) m' σ6 ys7 H7)->
    ∃ m,m < n/\∃ i ys σ' H',Inv X [] σ' H' s7/\tn i s7.heap/\(∀ b∈fp,H' b=none)/\H' D=some (.lst ys)/\W i m σ' ys H':=fun{s7 H7 ys7} I7 d7 w7=>by
    obtain ⟨m',hm,w7⟩:=w7
    refine ⟨m',hm,i+1,ys7,σ6,H7,I7.unpinned,T.keep _ _ _ st5 fun b hb o e=>(I7.pin (b,o) (mem_append_right _ (mem_append_right _ (ZaR hb e)))).1,fun b hb=>?_,d7,w7⟩
    obtain ⟨o,e,d⟩:=T.obj _ _ st5 b hb
    exact (I7.pin (b,o) (mem_append_right _ (mem_append_right _ (ZaR hb e)))).2.1
   refine wpAny_bind (sub (thn (hif _ s6 σ6 H6 _ I6 q6) fun ok s7 z0=>?_))
   obtain ⟨H7,I7,q7⟩:=z0
   cases ok with
   | false=>
    rw [if_neg Bool.false_ne_true] at q7
    exact wpAny_pure ⟨rfl,again I7 q7.1 q7.2⟩
   | true=>
    rw [if_pos rfl] at q7
    refine wpAny_bind (wpAny_bind (sub (thn (he _ s7 σ6 H7 _ I7 q7) fun y s8 z0=>?_)))
    obtain ⟨v,H8,I8,r8,d8,z8,w8⟩:=z0
    have ap:=Zfk (X:=X) _ s8 σ6 H8 (.ref D) [v] (.ref D) [y] (fun _ H9=>H9=upd H8 D (.lst (ys++[v]))) I8 rfl (.cons r8 .nil) ⟨D,ys,v,rfl,rfl,d8,z8,rfl⟩
    refine wpAny_bind (sub (thn ap fun _ s9 z0=>?_))
    obtain ⟨_,H9,I9,_,e9⟩:=z0
    subst e9
    exact wpAny_pure (wpAny_pure ⟨rfl,again I9 Zk w8⟩)
def Zes(k:Nat)(js:List Nat)(wi:TI)(g:TG)(tif:TT)(te:TE):TE:=fun σ H Q=>wi σ H fun J H1=>∀ D,H1 D=none->∃ W:Nat->Nat->St->List V->Hp->Prop,
 (∃ m,W 0 m (Zbb k js σ) [] (upd H1 D (.lst [])))/\ZhP J g tif te D Q W
def ZgD
 (h:∀ h',(∃ m,h'.Ns s.heap.objs.size m)->(∀ b o,s.heap.get? b=some o->h'.get? b=some o)->CellsOk h' (s.heap.objs.size+1) (cellsFrom (s.heap.objs.size+1) scope.names [])->
  Q (newEnv scope s.heap.objs.size globals (cellsFrom (s.heap.objs.size+1) scope.names cl) qual none .none (some outer) builtinsNs) { s with heap:=h' }):
 wpAny M A (newFunctionEnv scope globals cl [] qual none .none (some outer)) Q E s:=by
 (simp only [newFunctionEnv,Option.isSome_some,if_true])
 (refine wpAny_bind (wpAny_alloc ?_))
 (refine wpAny_bind (wpAny_layCells _ (fun name kind cells=>by cases hkc:kind == NameKind.cell<;>simp [hkc]) _ _ _ _ ?_))
 have ok:=cellsFrom_ok scope.names (s.heap.push { cls:=.type "dict",data:=.dict #[] }) (s.heap.objs.size+1) [] ⟨fun _ _ hm=>(nomatch hm),List.Pairwise.nil⟩ (by rw [Heap.size_push];exact Nat.le_refl _)
 rw [Heap.size_push] at ok
 rw [show ({ s with heap:=s.heap.push { cls:=.type "dict",data:=.dict #[] } }:Shared).heap.objs.size=s.heap.objs.size+1 from Heap.size_push ..]
 refine wpAny_bind ?_
 rw [List.forIn_nil]
 exact wpAny_pure (wpAny_pure (h _ ⟨_,(Heap.Ns.new s.heap (.type "dict")).keeps (pushCells_keeps _ _)⟩ (fun b o e=>pushCells_keeps _ _ b o (Heap.get?_push_of_some _ e)) ok))
def Zet{elt tg iter:Expr}{ifs:List Expr}{k:Nat}{js:List Nat}{N':List Str}{J:It}{fp:List Addr}{tn:Nat->Heap->Prop}{it:Addr}{g:TG}{tif:TT}{te:TE}{Q:VK}{E:VS}
 {pins:Pn} {s:Shared} {σ:St} {H:Hp} {cl:List (Str×Addr)} {RR:Value->Addr->Result->Shared->Prop}
 {qq:Cx->Prop} (hc:∀(cl:List (Str×Addr))(C:Addr)(s₀:Shared)(H₀:Hp)(ex:List Addr),qq (cxC X N' scope cl C s₀ H₀ ex)) (S:CompScope X k js N' scope) (T:TurnQ qq X.prog X.w X.K tg J fp it tn) (st:tn 0 s.heap) (hf:∀ b∈fp,FpOk X pins H b)
 (c1:∀ y c,cl.lookup y=some c->X.env.cells.lookup y=some c) (c2:∀ y∈scope.names,y.2=.free->∃ c,cl.lookup y.1=some c)
 (hin:∀(cl:List (Str×Addr))(C:Addr)(s₀:Shared)(H₀:Hp)(ex:List Addr),PG (cxC X N' scope cl C s₀ H₀ ex) tg g/\PIf (cxC X N' scope cl C s₀ H₀ ex) ifs tif/\PE (cxC X N' scope cl C s₀ H₀ ex) elt te)
 (I:Inv X pins σ H s) (q:∀ D,H D=none->∃ W:Nat->Nat->St->List V->Hp->Prop,(∃ m,W 0 m (Zbb k js σ) [] (upd H D (.lst [])))/\ZhP J g tif te D Q W)
 (hRR:∀(D C:Addr)(s':Shared)(H':Hp),s.heap.get? C=none->(∃ m,s'.heap.Ns C m)->Inv X pins σ H' s'->FpOk X pins H' C->Q (.ref D) H'->RR (.ref D) C (.ok .next) s'):
 wpAny (model X.prog X.w) X.A (newList []) (fun acc s₃=>wpAny (model X.prog X.w) X.A (newFunctionEnv scope X.env.globals cl [] X.env.qual none .none (some X.env)) (fun cenv s₄=>
  codeAny (model X.prog X.w) X.A (.compStart (.ListComp elt [⟨tg,iter,ifs,0⟩] scope pos) 0 (.ref it) acc { cenv with scope:=relabel scope X.env }) (RR acc cenv.locals) s₄) E s₃) E s:=by
 refine wpAny_newObj_type (ZgD fun h₁ hns₁ hkp₁ hck₁=>?_)
 dsimp only at hns₁ hkp₁ hck₁ ⊢
 generalize hH2:s.heap.push { cls:=.type "list",dict:=none,data:=.seq ([]:List Value).toArray }=H2 at hns₁ hkp₁ hck₁ ⊢
 have hC:H2.objs.size=s.heap.objs.size+1:=by rw [<- hH2,Heap.size_push]
 rw [hC] at hns₁ hck₁ ⊢
 have kp:∀ b o,s.heap.get? b=some o->h₁.get? b=some o:=fun b o e=>hkp₁ b o (hH2 ▸ Heap.get?_push_of_some _ e)
 have hD:h₁.get? s.heap.objs.size=some { cls:=.type "list",data:=.seq #[] }:=hkp₁ _ _ (hH2 ▸ Heap.get?_push_size _ rfl)
 have hfo:∀ b∈fp,b < s.heap.objs.size:=fun b hb=>by obtain ⟨o,e,_⟩:=T.obj _ _ st b hb;exact Heap.lt_size e
 obtain ⟨W,⟨m0,w0⟩,turn⟩:=q s.heap.objs.size (I.hok.fresh (Nat.le_refl _))
 obtain ⟨gG,gI,gE⟩:=hin (cellsFrom (s.heap.objs.size+2) scope.names cl) (s.heap.objs.size+1) s H fp
 have fresh1:s.heap.get? (s.heap.objs.size+1)=none:=by
  cases e:s.heap.get? (s.heap.objs.size+1) with
  | none=>rfl
  | some o=>exact absurd (Heap.lt_size e) (Nat.not_lt.mpr (le_succ _))
 have I1:∀ tk,Inv (cxC X N' scope (cellsFrom (s.heap.objs.size+2) scope.names cl) (s.heap.objs.size+1) s H fp) [] (Zbb k js σ) (upd H s.heap.objs.size (.lst [])) { s with heap:=h₁,toks:=tk }:=fun tk=>ZjR I S hf hfo c1 c2 hns₁ kp hD hck₁
 have ffr:∀ b∈fp,upd H s.heap.objs.size (.lst []) b=none:=fun b hb=>by
  rw [Zj (ne_of_lt (hfo b hb))]
  exact (hf b hb).1
 have exs:∀ b∈fp,b∉frs X.stack:=(I1 0).ok.exfs
 have stat:∀{H':Hp},(∀ b∈fp,H' b=none)->∀ b∈fp,FpOk (cxC X N' scope (cellsFrom (s.heap.objs.size+2) scope.names cl) (s.heap.objs.size+1) s H fp) [] H' b:=fun hn b hb=>
  ⟨hn b hb,((I1 0).ok.exf b hb).1,exs b hb,.inl hb,((I1 0).ok.exf b hb).2,fun p hp=>(nomatch hp)⟩
 have st1:tn 0 h₁:=T.keep _ _ _ st fun b _ o e=>kp b o e
 have loop:∀ tk,codeAny (model X.prog X.w) X.A (.compLoop (.ListComp elt [⟨tg,iter,ifs,0⟩] scope pos) 0 (.ref it) (.ref s.heap.objs.size) (compEnvC scope (cellsFrom (s.heap.objs.size+2) scope.names cl) (s.heap.objs.size+1) X.env))
  (RR (.ref s.heap.objs.size) (s.heap.objs.size+1)) { s with heap:=h₁,toks:=tk }:=fun tk=>by
  refine ZiK (X:=cxC X N' scope (cellsFrom (s.heap.objs.size+2) scope.names cl) (s.heap.objs.size+1) s H fp) (fun _ _ z=>z) (hc _ _ _ _ _) T gG gI gE stat turn (fun σ' H' s' J q'=>?_) (I1 tk) st1 ffr Zk w0
  have u:Un (frs X.stack) fp H H' s.heap s'.heap:=J.base
  have J1:Inv X pins σ H' s':=I.call' J.os u J.hok J.bare fun b hb=>⟨(hf b hb).2.2.2.1,(hf b hb).2.1,(hf b hb).2.2.2.2.1,(hf b hb).2.2.2.2.2⟩
  obtain ⟨m',hn',_⟩:=J.loc
  refine hRR _ _ s' H' fresh1 ⟨m',hn'⟩ J1 ⟨J.free,ne_of_gt (Nat.lt_succ_of_lt I.lt),I.nofs (le_succ _),.inr (le_trans I.sz (le_succ _)),fun x c e z=>?_,fun p hp z=>?_⟩ q'
  . obtain ⟨v,qc⟩:=I.cell x c e
    have h1:=qc.lt
    rw [z] at h1
    exact absurd h1 (Nat.not_lt.mpr (le_succ _))
  . have h1:=Heap.lt_size (I.pin p hp).1
    rw [z] at h1
    exact absurd h1 (Nat.not_lt.mpr (le_succ _))
 exact codeAny_compStart_list (loop _) (T.self X.A 0 _ _ _ st1 (loop _))
def ZfN
 {qq:Cx->Prop} (hc:∀(cl:List (Str×Addr))(C:Addr)(s₀:Shared)(H₀:Hp)(ex:List Addr),qq (cxC X N' scope cl C s₀ H₀ ex)) (S:CompScope X k js N' scope) (hi:PIQ qq X tg iter wi)
 (hin:∀(cl:List (Str×Addr))(C:Addr)(s₀:Shared)(H₀:Hp)(ex:List Addr),PG (cxC X N' scope cl C s₀ H₀ ex) tg g/\PIf (cxC X N' scope cl C s₀ H₀ ex) ifs tif/\PE (cxC X N' scope cl C s₀ H₀ ex) elt te)
 (hs:∀ x,foldedSetIterable iter X.env x=pure x:=by intro _;rfl):PE X (.ListComp elt [⟨tg,iter,ifs,0⟩] scope pos) (Zes k js wi g tif te):=by
 intro pins s σ H Q I h
 obtain ⟨cl,ec,c1,c2⟩:=Zer (scope:=scope) (env:=X.env) fun y hy hf=>I.ok.has y.1 (S.free y hy hf)
 rw [eval_ListComp]
 refine wpAny_comprehension_free (use:=none) rfl hs ec S.kind S.names (thn (hi pins s σ H _ I h) fun xv s1 h1=>thn h1 fun itv s2 h2=>?_)
 obtain ⟨it,fp,tn,J,H2,e,I2,T,st2,f2,q⟩:=h2
 subst e
 refine Zet (RR:=fun acc C=>compPost (model X.prog X.w) X.A X.xe none (EP X pins σ Q) acc C) hc S T st2 f2 c1 c2 hin I2 q ?_
 intro D C s' H' _ hn J1 fC q'
 obtain ⟨m',hn⟩:=hn
 obtain ⟨f0,f1,f2,f3,f4,f5⟩:=fC
 exact ⟨m',hn,fun h' hs'=>⟨.ref D,H',J1.turned (t':=s'.toks) (fun b o hb e=>hs'.extBut b o hb e) f0 f1 f3 f4 f5,rfl,q'⟩⟩
def ZlL
 (hc:X.calm=true) (S:CompScope X k js N' scope) (hi:PI X tg iter wi)
 (hin:∀(cl:List (Str×Addr))(C:Addr)(s₀:Shared)(H₀:Hp)(ex:List Addr),PG (cxC X N' scope cl C s₀ H₀ ex) tg g/\PIf (cxC X N' scope cl C s₀ H₀ ex) ifs tif/\PE (cxC X N' scope cl C s₀ H₀ ex) elt te)
 (hs:∀ x,foldedSetIterable iter X.env x=pure x:=by intro _;rfl):PE X (.ListComp elt [⟨tg,iter,ifs,0⟩] scope pos) (Zes k js wi g tif te):=ZfN (fun _ _ _ _ _=>hc) S hi hin hs
def ZlM
 (hN:X.N.Nodup) (hi:X.N[i]?=some x) (hx:Loc X.env.scope x)
 (hc:X.calm=true) (S:CompScope X k js N' scope) (hit:PI X tg iter wi)
 (hin:∀(cl:List (Str×Addr))(C:Addr)(s₀:Shared)(H₀:Hp)(ex:List Addr),PG (cxC X N' scope cl C s₀ H₀ ex) tg g/\PIf (cxC X N' scope cl C s₀ H₀ ex) ifs tif/\PE (cxC X N' scope cl C s₀ H₀ ex) elt te)
 (hsw:autoParam (swapsWith (.ListComp elt [⟨tg,iter,ifs,0⟩] scope pos) (some (.Name x pos')) spos.line X.env=pure true) Q9)
 (hf:X.fn x=true\/X.env.scope.names.lookup x=some .local:=by first|exact .inl rfl|exact .inr rfl|assumption)
 (hs:∀ x,foldedSetIterable iter X.env x=pure x:=by intro _;rfl):PS X (.Assign [.Name x pos'] (.ListComp elt [⟨tg,iter,ifs,0⟩] scope pos) spos) (tAsg (Zes k js wi g tif te) (Zcr i)):=by
 intro pins s σ H D I h
 obtain ⟨cl,ec,c1,c2⟩:=Zer (scope:=scope) (env:=X.env) fun y hy hf=>I.ok.has y.1 (S.free y hy hf)
 (rw [exec_Assign_Name_used _ _ _ _ hsw])
 (refine wpAny_bind (wpAny_standAt (wpAny_bind ?_)))
 show wpAny _ X.A (do let _ <- comprehension (.ListComp elt [⟨tg,iter,ifs,0⟩] scope pos) scope X.env _ (newList []) false (eval iter X.env) (some (assign (.Name x pos') X.env))) _ _ s
 refine wpAny_bind (wpAny_mono (wpAny_comprehension_free (use:=some (assign (.Name x pos') X.env)) (Q:=fun _ s'=>SP X pins D .next s') rfl hs ec S.kind S.names
  (thn (hit pins s σ H _ I h) fun xv s1 h1=>thn h1 fun itv s2 h2=>?_)) (fun _ s' hq=>wpAny_pure (wpAny_pure hq)) fun _ _ e=>e)
 obtain ⟨it,fp,tn,J,H2,e,I2,T,st2,f2,q⟩:=h2
 subst e
 refine Zet (Q:=fun v H'=>Zcr i v σ H' D.nx) (RR:=fun acc C=>compPost (model X.prog X.w) X.A X.xe (some (assign (.Name x pos') X.env)) (fun _ s'=>SP X pins D .next s') acc C) (fun _ _ _ _ _=>hc) S T st2 f2 c1 c2 hin I2 q ?_
 intro Da C s' H' fr hn J1 fC q'
 obtain ⟨m',hn⟩:=hn
 obtain ⟨f0,f1,f2,f3,f4,f5⟩:=fC
 obtain ⟨oC,es,ep,hoC,hdC,hkC,hmC⟩:=id hn
 show wpAny _ X.A (assign (.Name x pos') X.env (.ref Da)) _ _ _
 have J2:Inv X (pins++[(C,oC)]) σ H' s':=J1.pins_of fun p hp=>by
  (rcases List.mem_append.mp hp with z|z)
  . exact J1.pin p (mem_append_right _ z)
  . have z':p=(C,oC):=by simpa using z
    subst z'
    exact ⟨hoC,f0,f1,f2,fun v e=>by rw [hdC] at e;cases e⟩
 refine wpAny_assign_Name (Zb7 J2 hN hi hx (v:=.ref Da) rfl (fun s'' I''=>?_) hf)
 have hC'':=(I''.pin (C,oC) (mem_append_right _ (mem_append_right _ (by simp)))).1
 refine ⟨m',⟨oC,es,ep,hC'',hdC,hkC,hmC⟩,fun h' hs'=>?_⟩
 have I3:Inv X pins (σ.set i (some (.ref Da))) H' s'':=I''.unpinned
 exact ⟨_,H',I3.turned (t':=s''.toks) (fun b o hb e=>hs'.extBut b o hb e) f0 f1 f3 f4 f5,q'⟩
end
mutual
inductive Den(K:Fg)(H:Hp):V->PyData->Prop
 | non:Den K H .non .none
 | bl (b:Bool):Den K H (.bl b) (.bool b)
 | int (i:Int):Den K H (.int i) (.int i)
 | str (x:Str):Den K H (.str x) (.str x)
 | lst {a:Addr} {vs:List V} {ds:List PyData}:SqL K H a vs->DenL K H vs ds->Den K H (.ref a) (.list ds)
 | tup {a:Addr} {vs:List V} {ds:List PyData}:SqT K H a vs->DenL K H vs ds->Den K H (.ref a) (.tuple ds)
inductive DenL(K:Fg)(H:Hp):List V->List PyData->Prop
 | nil:DenL K H [] []
 | cons {v:V} {d:PyData} {vs:List V} {ds:List PyData}:Den K H v d->DenL K H vs ds->DenL K H (v::vs) (d::ds)
end
def Same.tupq{K:Fg}{a:Addr}{xs:List V}(e:Same H H')(h:SqT K H a xs):SqT K H' a xs:=by
 rcases h with (h|⟨o,h⟩)|h
 . exact .inl (.inl (e _ _ h))
 . exact .inl (.inr ⟨o,e _ _ h⟩)
 . exact .inr h
mutual
theorem Den.same{K:Fg}(e:Same H H'):∀{v:V}{d:PyData},Den K H v d->Den K H' v d
 | _,_,.non=>.non
 | _,_,.bl b=>.bl b
 | _,_,.int i=>.int i
 | _,_,.str x=>.str x
 | _,_,.lst h r=>.lst (e.seq h) (DenL.same e r)
 | _,_,.tup h r=>.tup (e.tupq h) (DenL.same e r)
termination_by structural _ a=>a
theorem DenL.same{K:Fg}(e:Same H H'):∀{vs:List V}{ds:List PyData},DenL K H vs ds->DenL K H' vs ds
 | _,_,.nil=>.nil
 | _,_,.cons h r=>.cons (Den.same e h) (DenL.same e r)
termination_by structural _ a=>a
end
section
mutual
theorem Den.reads(I:Inv X pins σ H s):∀{v:V}{d:PyData}{u:Value},Den X.K H v d->RelV v u->∃ as,Reads s.heap u d as
 | _,_,_,.non,r=>by cases (show _=Value.none from r);exact ⟨_,.none⟩
 | _,_,_,.bl b,r=>by cases (show _=Value.bool b from r);exact ⟨_,.bool b⟩
 | _,_,_,.int i,r=>by obtain ⟨t,q⟩:=(show ∃ t,_=Value.int i t from r);cases q;exact ⟨_,.int i t⟩
 | _,_,_,.str x,r=>by obtain ⟨t,q⟩:=(show ∃ t,_=Value.str x t from r);cases q;exact ⟨_,.str x t⟩
 | _,_,_,.lst (a:=a) h q,r=>by
  cases (show _=Value.ref a from r)
  obtain ⟨its,rv,p,hz⟩:=I.list h
  obtain ⟨as,ra⟩:=DenL.reads I q rv
  obtain ⟨o,ho,hc,n,hd⟩:=p.isList
  exact ⟨_,.list ho hc hd (by simpa using ra)⟩
 | _,_,_,.tup (a:=a) h q,r=>by
  cases (show _=Value.ref a from r)
  obtain ⟨its,rv,p,hz⟩:=I.tuple h
  obtain ⟨as,ra⟩:=DenL.reads I q rv
  obtain ⟨o,ho,hc,n,hd⟩:=(show s.heap.IsTuple a its.toArray from p)
  exact ⟨_,.tuple ho hc hd (by simpa using ra)⟩
termination_by structural _ a=>a
theorem DenL.reads(I:Inv X pins σ H s):∀{vs:List V}{ds:List PyData}{us:List Value},DenL X.K H vs ds->Vals vs us->∃ as,ReadsAll s.heap us ds as
 | _,_,_,.nil,r=>by cases r;exact ⟨_,.nil⟩
 | _,_,_,.cons h q,r=>by
  cases r with
  | cons r1 r2=>
   obtain ⟨as,ra⟩:=Den.reads I h r1
   obtain ⟨bs,rb⟩:=DenL.reads I q r2
   exact ⟨_,.cons ra rb⟩
termination_by structural _ a=>a
end
end
section
def rEqD(K:Fg):R2:=fun x y H Q=>∃ d e,Den K H x d/\Den K H y e/\SeqAt.shaped d=true/\SeqAt.shaped e=true/\Q (.bl (PyData.eqv d e)) H
def rNeD(K:Fg):R2:=fun x y H Q=>∃ d e,Den K H x d/\Den K H y e/\SeqAt.shaped d=true/\SeqAt.shaped e=true/\Q (.bl (!PyData.eqv d e)) H
def ZnA(hu:X.A.units+64 < cLine):OpR X (compareOp .Eq) (rEqD X.K):=by
 intro pins s σ H x y v u Q I rx ry h
 obtain ⟨d,e,hd,he,s1,s2,q⟩:=h
 obtain ⟨as,ra⟩:=hd.reads I rx
 obtain ⟨bs,rb⟩:=he.reads I ry
 exact eq_dataH ra rb s1 s2 hu ⟨.bl _,H,I,rfl,q⟩
def ZnB(hu:X.A.units+64 < cLine):OpR X (compareOp .NotEq) (rNeD X.K):=by
 intro pins s σ H x y v u Q I rx ry h
 obtain ⟨d,e,hd,he,s1,s2,q⟩:=h
 obtain ⟨as,ra⟩:=hd.reads I rx
 obtain ⟨bs,rb⟩:=he.reads I ry
 exact ne_dataH ra rb s1 s2 hu ⟨.bl _,H,I,rfl,q⟩
def ZfO:ZZ X (.type "int") (fun xs H Q=>∃ z n,xs=[.str z]/\intText? z=some n/\z.length<=640/\Q (.int n) H):=by
 intro pins s σ H xs us Q I r h
 obtain ⟨z,n,rfl,hn,hl,q⟩:=h
 obtain ⟨u,rfl,ru⟩:=r.one
 obtain ⟨t,rfl⟩:=ru
 exact PySem.W.KIN.call_text hn hl ⟨.int n,H,I.tok _,⟨_,rfl⟩,q⟩
def ZjS(c:V)(cu:Value)(rc:RelV c cu)(huniq:∀ u,RelV c u->u=cu):ZZ X (.builtin "isinstance") (fun xs H Q=>∃ x t b,xs=[x,c]/\TyOf X.K H x t/\kitOne X.K t cu=some b/\Q (.bl b) H):=by
 intro pins s σ H xs us Q I r h
 obtain ⟨x,t,b,rfl,ty,e,q⟩:=h
 obtain ⟨u,w',rfl,ru,rw'⟩:=r.two
 obtain rfl:=huniq w' rw'
 exact Zi3 I ru ty e fun tk=>⟨.bl b,H,I.tok tk,rfl,q⟩
theorem Zeu:∀(bs:List Bool)(us:List Value),Vals (bs.map V.bl) us->us=bs.map Value.bool
 | [],us,r=>by cases r;rfl
 | b::bs,us,r=>by
  cases r with
  | cons r1 r2=>rw [Zeu bs _ r2,show _=Value.bool b from r1];rfl
def ZhQ(bs:List Bool):((List.range bs.length).all fun i=>(bs[i]?).getD true)=bs.all id:=by
 (rw [Bool.eq_iff_iff,List.all_eq_true,List.all_eq_true])
 constructor
 . intro h b hb
   obtain ⟨i,hi,e⟩:=List.mem_iff_getElem.mp hb
   have q:=h i (List.mem_range.mpr hi)
   rw [List.getElem?_eq_getElem hi,getD_some,e] at q
   exact q
 . intro h i hi
   (have hi':=List.mem_range.mp hi)
   rw [List.getElem?_eq_getElem hi',getD_some]
   (exact h _ (List.getElem_mem hi'))
def Zhj{h h':Heap}{o:Obj}(hk:∀ b x,b∉[h.objs.size]->(h.push o).get? b=some x->h'.get? b=some x):∀ b x,h.get? b=some x->h'.get? b=some x:=
 fun c o e=>hk c o (fun hm=>by rw [List.mem_singleton.mp hm] at e;exact lt_irrefl _ (Heap.lt_size e)) (Heap.get?_push_of_some _ e)
def ZjT(hc:X.calm=true):ZZ X (.builtin "all") (fun xs H Q=>∃(l:Addr)(bs:List Bool),xs=[.ref l]/\SqL X.K H l (bs.map V.bl)/\Q (.bl (bs.all id)) H):=by
 intro pins s σ H xs us Q I r h
 obtain ⟨l,bs,rfl,hl,q⟩:=h
 obtain ⟨u,rfl,ru⟩:=r.one
 cases (show u=Value.ref l from ru)
 obtain ⟨its,rv,p,hz⟩:=I.list hl
 have ei:=Zeu bs its rv
 have hlt:l < s.heap.objs.size:=by obtain ⟨_,e,_⟩:=p.isList;exact Heap.lt_size e
 refine call_all_walk (wpAny_pyIter_list p.isList ?_)
 refine ⟨s.heap.objs.size,[s.heap.objs.size,l],[s.heap.objs.size],its.toArray.size,_,_,fun i=>(bs[i]?).getD true,rfl,Walks.list (A:=X.A.in1) (I.ok.hd hc) _ l (ne_of_lt hlt) its.toArray,
  ⟨⟨_,Heap.get?_push_size _ rfl,rfl,rfl⟩,p.isList.push _⟩,fun i v s' Q' E' hP hQ=>?_,fun h' tk hk=>?_⟩
 . have hP':its[i]?=some v:=by simpa using hP
   rw [ei,getElem?_map] at hP'
   cases e:bs[i]? with
   | none=>rw [e] at hP';cases hP'
   | some b=>
    rw [e] at hP'
    cases hP'
    (simp only [e,getD_some] at hQ)
    exact wpAny_truthy_bool hQ
 . have e:((List.range its.toArray.size).all fun i=>(bs[i]?).getD true)=bs.all id:=by
    rw [size_toArray,<- rv.length,length_map]
    exact ZhQ bs
   rw [e]
   exact ⟨.bl _,H,I.kept (t':=tk) (Zhj hk),rfl,q⟩
noncomputable def fmtV:V->Option Str
 | .int i=>if i.natAbs.log2 < 1920 then some (toString i:String) else none
 | .str x=>some x
 | .non=>some ("None":String)
 | _=>none
def tFmt(te:TE):TE:=fun σ H Q=>te σ H fun x H1=>∃ z,fmtV x=some z/\z.length<=sizeLine/\Q (.str z) H1
theorem ZnC(h:PE X e te):PE X (.FormattedValue e (-1) none pos) (tFmt te):=by
 intro pins s σ H Q I hw
 refine PyProof.Rows.FormattedValue_plain (thn (h pins s σ H _ I hw) fun v s1 z0=>?_)
 obtain ⟨x,H1,I1,r1,z,e1,hz,q⟩:=z0
 have fin:∀ t' k,EP X pins σ Q (.str z t') { s1 with toks:=k }:=fun t' k=>⟨.str _,H1,I1.tok k,⟨t',rfl⟩,q⟩
 cases x with
 | int i=>
  obtain ⟨t,rfl⟩:=r1
  unfold fmtV at e1
  simp only at e1
  split at e1
  . rename_i hl
    cases e1
    exact PyProof.Rows.formatField_int_small hl (fin _ _)
  . cases e1
 | str y=>
  obtain ⟨t,rfl⟩:=r1
  cases e1
  exact PyProof.Rows.formatField_str (fun t' k=>fin t' k) hz
 | non=>
  cases (show v=Value.none from r1)
  cases e1
  exact wpAny_formatField_none (fin _ _)
 | _=>cases e1
noncomputable def Zf9:List TE->Str->TE
 | [],acc=>fun _ H Q=>Q (.str acc) H
 | t::r,acc=>fun σ H Q=>t σ H fun x H1=>∃ z,x=.str z/\(acc++z).length<=sizeLine/\Zf9 r (acc++z) σ H1 Q
def PEs(X:Cx):List Expr->List TE->Prop:=Paired (PE X)
theorem Zev:∀{es:List Expr}{ts:List TE}(acc:Str)(pins:Pn)(s:Shared)(σ:St)(H:Hp)(Q:VK),PEs X es ts->acc.length<=sizeLine->Inv X pins σ H s->Zf9 ts acc σ H Q->
 wpAny (model X.prog X.w) X.A (joinParts acc (es.map fun e=>eval e X.env)) (EP X pins σ Q) X.xe s
 | _,_,acc,pins,s,σ,H,Q,.nil,hz,I,h=>PyProof.Rows.joinParts_nil ⟨.str acc,H,I.tok _,⟨_,rfl⟩,h⟩ hz
 | _,_,acc,pins,s,σ,H,Q,.cons h1 h2,hz,I,h=>by
  refine PyProof.Rows.joinParts_cons (thn (h1 pins s σ H _ I h) fun v s1 z0=>?_)
  obtain ⟨x,H1,I1,r1,z,e,hl,q⟩:=z0
  subst e
  obtain ⟨t,rfl⟩:=r1
  exact ⟨hl,Zev (acc++z) pins s1 σ H1 Q h2 hl I1 q⟩
termination_by structural a=>a
theorem Zdj(env:Env):∀ es:List Expr,evalEach es env=es.map fun e=>eval e env
 | []=>rfl
 | e::es=>by
  have ih:=Zdj env es
  show eval e env::evalEach es env=_
  rw [ih,map_cons]
def ZlN(h:PEs X (a::b::es) ts):PE X (.JoinedStr (a::b::es) pos) (Zf9 ts Str.empty):=by
 intro pins s σ H Q I hw
 have q:=Zev (X:=X) Str.empty pins s σ H Q h (by decide) I hw
 refine PyProof.Rows.JoinedStr_many ?_
 rw [Zdj]
 exact q
end
structure FnAt(P:Program)(w:World)(K:Fg)(mg:SO)(base:Heap)(x:Str)(k:Nat)(ps:List Str)(sp:Sp):Prop where
 ex:∃(f:Addr)(fd:FuncData),FnOk P w K mg base CX0 k f fd ps sp/\mg x=some (.ref f)/\keepIn K (.ref f)=true/\Binds K fd ps []
structure FnAtH(P:Program)(w:World)(K:Fg)(mg:SO)(base:Heap)(x:Str)(k:Nat)(ps:List Str)(sp:Sp):Prop where
 ex:∃(f:Addr)(fd:FuncData),FnOkH P w K mg base CX0 k f fd ps sp/\mg x=some (.ref f)/\keepIn K (.ref f)=true/\Binds K fd ps []
structure MeAt(P:Program)(w:World)(K:Fg)(mg:SO)(base:Heap)(C:Addr)(m:Str)(k:Nat)(ps:List Str)(sp:Sp):Prop where
 ex:∃(f:Addr)(fd:FuncData),FnOk P w K mg base CX0 k f fd ps sp/\Meth K C m f/\Binds K fd ps []
 cl:Cls K C
structure MkAt(P:Program)(w:World)(K:Fg)(mg:SO)(base:Heap)(x:Str)(C:Addr)(k:Nat)(ps:List Str)(sp:Sp):Prop where
 ex:∃(f:Addr)(fd:FuncData),FnOk P w K mg base CX0 k f fd ps sp/\Mk K C f/\mg x=some (.ref C)/\Binds K fd ps []
section
def ZpH(G:FnAt X.prog X.w X.K X.mg X.base x j ps sp)(hr:Room n X.A)(ha:PA X (e::es) t)(hj:autoParam (j<=n) Q7)(hg:autoParam (Gl X x) Q9)(hdb:autoParam ((x == ("__debug__":Str))=false) Q7)
 (he:autoParam (SE X e es) Q9) (hpl:autoParam (SFx X pos es) Q9):PE X (.Call (.Name x p) (e::es) [] pos) (Zf7 sp [] E0 t):=by
 obtain ⟨f,fd,F,hm,hk,hb⟩:=G.ex
 exact Zly F (hr.mono hj) hg hm hk hb .nil Zf8 ha hdb he hpl
def ZnD(hq:Quiet X)(G:FnAtH X.prog X.w X.K X.mg X.base x j ps sp)(hr:RoomH n X.A)(ha:PA X (e::es) t)(hj:autoParam (j<=n) Q7)(hg:autoParam (Gl X x) Q9)(hdb:autoParam ((x == ("__debug__":Str))=false) Q7)
 (he:autoParam (SE X e es) Q9) (hpl:autoParam (SFx X pos es) Q9):PE X (.Call (.Name x p) (e::es) [] pos) (Zf7 sp [] E0 t):=by
 obtain ⟨f,fd,F,hm,hk,hb⟩:=G.ex
 exact Zj9 hq F (hr.mono hj) hg hm hk hb .nil Zf8 ha hdb he hpl
def ZpI(G:MeAt X.prog X.w X.K X.mg X.base C m j ps sp)(hr:Room n X.A)(ho:PE X o ta)(ha:PA X (e::es) t)(hj:autoParam (j<=n) Q7)
 (hst:autoParam (SE X e es) Q9) (hpl:autoParam (SFx X pos es) Q9)
 (ht:autoParam (eval (.Call (.Attribute o m apos) (e::es) [] pos) X.env=(do
  let ov <- eval o X.env
  standAt apos.atName
  let (f,first) <- holding [ov] (getMethod ov m pl)
  callWith pos f first (backTo pos (starEach (e::es) X.env)) (backToKw pos (keywordEach [] X.env)))) Q9):PE X (.Call (.Attribute o m apos) (e::es) [] pos) (ZkE C m sp [] E0 ta t):=by
 obtain ⟨f,fd,F,hm,hb⟩:=G.ex
 exact Zlz ho G.cl hm F (hr.mono hj) hb .nil Zf8 ha hst hpl ht
def ZpJ(G:MkAt X.prog X.w X.K X.mg X.base x C j ps sp)(hr:Room n X.A)(ha:PA X (e::es) t)(hj:autoParam (j+1<=n) Q7)(hg:autoParam (Gl X x) Q9)(hdb:autoParam ((x == ("__debug__":Str))=false) Q7)
 (he:autoParam (SE X e es) Q9) (hpl:autoParam (SFx X pos es) Q9):PE X (.Call (.Name x p) (e::es) [] pos) (ZkF C sp [] E0 t):=by
 obtain ⟨f,fd,F,M,hm,hb⟩:=G.ex
 exact Zl0 M F (hr.mono hj) hg hm hb .nil Zf8 ha hdb he hpl
end
def ZdL(j:Nat)(js:List Nat)(σ:St):Zbv (j::js) σ=(σ[j]?).join::Zbv js σ:=rfl
def Zcg:bootBuiltins "isinstance"=some (.builtin "isinstance"):=by decide +kernel
def ZhR:bootBuiltins "int"=some (.type "int"):=by decide +kernel
def ZfP:bootBuiltins "bool"=some (.type "bool"):=by decide +kernel
def ZiL:bootBuiltins "list"=some (.type "list"):=by decide +kernel
noncomputable def Zq(sc:Scope)(N:List Str)(i:Nat)(x:Str)(b:Bool):Bool:=N[i]? == some x && sc.names.lookup x == some (if b then .cell else .local) && !(x == ("__debug__":Str)) && !(x == ("__classdict__":Str))
noncomputable def ZfQ(sc:Scope)(N:List Str)(i:Nat)(x:Str):Bool:=N[i]? == some x && (sc.names.lookup x == some .cell || sc.names.lookup x == some .free) && !(x == ("__debug__":Str)) && !(x == ("__classdict__":Str))
noncomputable def glOk(sc:Scope)(x:Str):Bool:=sc.names.lookup x == some .globalImplicit && !(x == ("__debug__":Str)) && !(x == ("__name__":Str))
section
def Zq.at(h:Zq sc N i x b=true):N[i]?=some x/\sc.names.lookup x=some (if b then .cell else .local)/\(x == ("__debug__":Str))=false/\(x == ("__classdict__":Str))=false:=by
 unfold Zq at h
 (simp only [and_eq_true,not_eq_true'] at h)
 exact ⟨eq_of_beq h.1.1.1,eq_of_beq h.1.1.2,h.1.2,h.2⟩
def Zq.loc(h:Zq sc N i x b=true):Loc sc x:=by
 have q:=(Zq.at h).2.1
 cases b
 . exact .inl q
 . exact .inr q
def pvs(h:Zq sc N i x b=true)(e1:autoParam (X.env.scope=sc) Q9)(e2:autoParam (X.N=N) Q9):PE X (.Name x pos) (tVar i):=by
 obtain ⟨h1,h2,h3,h4⟩:=Zq.at h
 have l:=Zq.loc h
 subst e1 e2
 refine Ziu h1 ?_ h3 h4
 rcases l with l|l
 . exact .inl l
 . exact .inr (.inl l)
def pvf(h:ZfQ sc N i x=true)(e1:autoParam (X.env.scope=sc) Q9)(e2:autoParam (X.N=N) Q9):PE X (.Name x pos) (tVar i):=by
 unfold ZfQ at h
 simp only [and_eq_true,not_eq_true',or_eq_true] at h
 subst e1 e2
 refine Ziu (eq_of_beq h.1.1.1) ?_ h.1.2 h.2
 rcases h.1.1.2 with l|l
 . exact .inr (.inl (eq_of_beq l))
 . exact .inr (.inr (eq_of_beq l))
def glk(h:glOk sc x=true)(e1:autoParam (X.env.scope=sc) Q9):Gl X x:=by
 unfold glOk at h
 (simp only [and_eq_true] at h)
 subst e1
 exact eq_of_beq h.1.1
def dbk(h:glOk sc x=true):(x == ("__debug__":Str))=false:=by
 unfold glOk at h
 (simp only [and_eq_true,not_eq_true'] at h)
 exact h.1.2
def nmk(h:glOk sc x=true):x≠"__name__":=by
 unfold glOk at h
 (simp only [and_eq_true,not_eq_true'] at h)
 intro e
 have:=h.2
 rw [e,beq_self_eq_true] at this
 cases this
def ZjU(h:Zq sc N i x b=true)(nd:N.Nodup)(e1:autoParam (X.env.scope=sc) Q9)(e2:autoParam (X.N=N) Q9)(hf:X.fn x=true\/b=false:=by first|exact .inl rfl|exact .inr rfl):PG X (.Name x pos) (Zcr i):=by
 obtain ⟨h1,h2,h3,h4⟩:=Zq.at h
 have l:=Zq.loc h
 subst e1 e2
 refine ZgW nd h1 l ?_
 rcases hf with q|q
 . exact .inl q
 . subst q
   exact .inr h2
noncomputable def Zdk(osc scope:Scope)(x:Str):Bool:=osc.kind == .function && osc.names.lookup x == some .local && !(scope.names.any fun(n,k)=>n == x && (k == .local || k == .cell))
def ZhS(h:Zdk osc scope x=true)(hl:(pos'.line == pos.line)=true)(e:env.scope=osc):
 swapsWith (.ListComp elt gens scope pos) (some (.Name x pos')) line env=pure true:=by
 subst e
 unfold Zdk at h
 (simp only [and_eq_true,not_eq_true'] at h)
 obtain ⟨⟨h1,h2⟩,h3⟩:=h
 show (pure (env.blockKind == .function && env.kindOf x == some .local && pos'.line == pos.line && !(scope.names.any fun(n,k)=>n == x && (k == .local || k == .cell))):Sem Bool)=pure true
 have hb:(env.blockKind == ScopeKind.function)=true:=by
  unfold Env.blockKind
  rw [eq_of_beq h1]
  rfl
 have hk:(env.kindOf x == some NameKind.local)=true:=h2
 rw [hb,hk,hl,h3]
 rfl
def ZjV
 (h:Zq sc N i x false=true) (nd:N.Nodup) (hw:Zdk sc scope x=true)
 (hc:X.calm=true) (S:CompScope X k js N' scope) (hit:PI X tg iter wi)
 (hin:∀(cl:List (Str×Addr))(C:Addr)(s₀:Shared)(H₀:Hp)(ex:List Addr),PG (cxC X N' scope cl C s₀ H₀ ex) tg g/\PIf (cxC X N' scope cl C s₀ H₀ ex) ifs tif/\PE (cxC X N' scope cl C s₀ H₀ ex) elt te)
 (hl:autoParam ((pos'.line == pos.line)=true) Q9) (e1:autoParam (X.env.scope=sc) Q9) (e2:autoParam (X.N=N) Q9)
 (hs:∀ x,foldedSetIterable iter X.env x=pure x:=by intro _;rfl):PS X (.Assign [.Name x pos'] (.ListComp elt [⟨tg,iter,ifs,0⟩] scope pos) spos) (tAsg (Zes k js wi g tif te) (Zcr i)):=by
 obtain ⟨h1,h2,h3,h4⟩:=Zq.at h
 have l:=Zq.loc h
 have w:=fun(e:X.env.scope=sc)=>ZhS (elt:=elt) (gens:=[⟨tg,iter,ifs,0⟩]) (pos:=pos) (line:=spos.line) hw hl e
 have w1:=w e1
 subst e1 e2
 exact ZlM nd h1 l hc S hit hin w1 (.inr h2) hs
end
end L2
namespace L2
open PySem
variable{s:Shared}{k1 t':Nat}{pos:Pos}{X:Cx}{fp:List Addr}
section
def ZhT(h1:xs.any (·.1)=false)(h2:ks.any (·.1.isNone)=false)
 (h:wpAny M A (evalArgs (.type T) true xs ks) (fun a s1=>wpAny M A (call (.type T) a.pos a.kw) Q E s1) E s):wpAny M A (callWith q (.type T) [] xs ks) Q E s:=by
 unfold callWith
 refine wpAny_bind (wpAny_holding (wpAny_mono h (fun a s1 z=>wpAny_bind (wpAny_standAt ?_)) fun _ _ y=>y))
 simp only [h1,h2,Bool.or_false]
 exact wpAny_bind (wpAny_pure (wpAny_bind (wpAny_mono z (fun r s2 y=>wpAny_bind (wpAny_holding (wpAny_point (wpAny_pure y)))) fun _ _ y=>y)))
end
section
variable{prog:Program}{w:World}{A:Around}{E:VS}
theorem ZlO(hl:typeLookup (.type T) "__init__"=pure (some (.builtin "object.__init__")))(hm:Bind.madeBy (.type T)=pure (some newId))(hne:(some newId != some "object.__new__")=true)(hx:xs≠[]):
 Meets (Builtin.«object.__init__» ⟨o::xs,kw⟩) (fun _ R s=>s.TypeIs o T/\R (.ok (.ret .none)) s):=by
 refine Meets.of_wp fun prog w A R s z90=>?_
 obtain ⟨hT,hq⟩:=z90
 cases xs with
 | nil=>exact absurd rfl hx
 | cons a xs=>
  (repeat (any_goals (first|assumption|wp_step)))
  exact ⟨.none,rfl,hq⟩
theorem ZlP(ft:TypeCalled T newId "object.__init__")(hne:(some newId != some "object.__new__")=true)
 (c1:checkTypeCall T ⟨xs,kw⟩=pure ()) (c2:checkBuiltinCall newId ⟨.type T::xs,kw⟩=pure ()) (c3:∀ o,argsOk "object.__init__" ⟨o::xs,kw⟩) (hx:xs≠[]) (en:entryFor table newId=some Bn) (g:Meets (Bn ⟨.type T::xs,kw⟩) S)
 (h:S A.in1 (wants (fun o s1=>s1.TypeIs o T/\Q o s1) E) s):wpAny (model prog w) A (call (.type T) xs kw) Q E s:=by
 obtain ⟨c,tl,hm⟩:=ft.mro
 have hmd:=ft.made
 have hsb:=ft.sub
 refine wpAny_call (codeAny_of_tree (show wpAny _ _ (callAny (.type T) _) _ _ _ from ?_))
 refine wpAny_pure (And.intro (Code.quiet_builtin _ (by decide +kernel)) (codeAny_builtin F.entry_type_call ?_))
 rw [Around.under_plain (weight_type_call_type T xs kw) (units_type_call_type T xs kw)]
 have n1:=ft.notType
 have n2:=ft.canCreate
 (repeat (any_goals (first|assumption|wp_step)))
 refine codeAny_mono (codeAny_call_builtin ft.plain en (wpAny_of_eq c2 (g prog w A.in1 _ s h))) fun r s1 hr=>?_
 cases r with
 | error e=>exact hr
 | ok fl=>
  cases fl with
  | ret o=>
   obtain ⟨hT,hQ⟩:=hr
   have b1:=ft.init.lookup
   have b2:=ft.init.bind o
   (repeat (any_goals (first|assumption|wp_step)))
   refine codeAny_mono (codeAny_call_builtin ft.init.plain F.entry_object_init (ft.init.check _ _ _ _ _ _ _ _ hT (c3 o) (ZlO b1 hmd hne hx prog w A.in1 (wants (fun r s2=>r=.none/\Q o s2) E) s1 ⟨hT,rfl,hQ⟩))) fun r2 s2 hr2=>?_
   cases r2 with
   | error e=>exact hr2
   | ok fl2=>
    cases fl2 with
    | ret r=>
     obtain ⟨rfl,hq⟩:=hr2
     (repeat (any_goals (first|assumption|wp_step)))
    | _=>exact hr2.elim
  | _=>exact hr.elim
def ZnE{α β:Type}{M:Model}{A:Around}{E:VS}{Q:β->Shared->Prop}{f:α->Sem β}{x:α}(h:∀ a,wpAny M A (f a) Q E s):wpAny M A (f x) Q E s:=h x
def ZiM(a:Value)(c:Int)(t:Tok):checkTypeCall "enumerate" ⟨[a],[("start",.int c t)]⟩=pure ():=by kernel_rfl
def ZiN(a:Value)(c:Int)(t:Tok):checkBuiltinCall "enumerate.__new__" ⟨[.type "enumerate",a],[("start",.int c t)]⟩=pure ():=by kernel_rfl
def ZiO(o a:Value)(c:Int)(t:Tok):argsOk "object.__init__" ⟨[o,a],[("start",.int c t)]⟩:=by
 unfold argsOk;rw [signature?_of (id:="object.__init__") (n:=['_','_','t','i','n','i','_','_']) (o:=['t','c','e','j','b','o']) (by kernel_rfl) F.owner_object];kernel_rfl
def ZnF(l:Addr)(its:Array Value)(c:Int)(t:Tok)(hc:Builtin.SmallTypes.fitsIndex c=true):
 Meets (Builtin.«enumerate.__new__» ⟨[.type "enumerate",.ref l],[("start",.int c t)]⟩) (fun _ R s=>s.heap.IsList l its/\R (.ok (.ret (.ref (s.heap.push { cls:=.type "list_iterator",data:=.fields #[.ref l,.int 0 0] }).objs.size)))
  { s with heap:=(s.heap.push { cls:=.type "list_iterator",data:=.fields #[.ref l,.int 0 0] }).push { cls:=.type "enumerate",data:=.fields #[.none,.bool false,.ref s.heap.objs.size,rawInt c,.none,.none] } }):=
 .of_wp fun prog w A R s h=>by
  obtain ⟨hp,gs,dr,tk,os⟩:=s
  obtain ⟨hL,h⟩:=h
  obtain ⟨⟨cl,dct,dt,sl⟩,hl,e1,n,e2⟩:=id hL
  replace e1:cl=.type "list":=e1
  replace e2:dt=.seq its n:=e2
  subst e1 e2
  have hsub:=sub_enumerate
  wp_walk using AutoSeq1.wpAny_loadPart' hl
  (refine wpAny_stack_any fun st=>wpAny_pure ?_)
  refine ZnE fun short=>?_
  have hf:(!Builtin.SmallTypes.fitsIndex c)=false:=by rw [hc];rfl
  cases short
  . refine wpAny_bind (wpAny_of_eq (a:=(Value.ref l,some (Value.int c t))) (by kernel_rfl) ?_)
    wp_walk using wpAny_pyIter_list hL
    exact ⟨_,rfl,h⟩
  . refine wpAny_bind (wpAny_of_eq (a:=(Value.ref l,some (Value.int c t))) (by kernel_rfl) ?_)
    wp_walk using wpAny_pyIter_list hL
    exact ⟨_,rfl,h⟩
def ZlQ(he:IsEnum s.heap e it c old)(hi:s.heap.IsListIter it l i)(hl:s.heap.IsList l its)(hx:its[i]?=some x)(ne:e≠it)
 (hQ:∀ h',IsEnumOut h' e it (c+1) x s.heap.objs.size->h'.IsListIter it l (i+1)->h'.get? s.heap.objs.size=some { cls:=.type "tuple",data:=.seq #[.int c s.toks,x] }->
  (∀ b o,b≠e->b≠it->s.heap.get? b=some o->h'.get? b=some o)->Q (some (.ref s.heap.objs.size)) { s with heap:=h',toks:=s.toks+1 }):wpAny (model prog w) A (pyNext (.ref e)) Q E s:=by
 (have hT:s.TypeIs (.ref e) "enumerate":=⟨_,he,rfl⟩)
 unfold pyNext
 refine wpAny_bind (wpAny_attempt (wpAny_callSpecial?_slot (name:=Str.ofString "__next__") hT F.slot_enumerate_next (wpAny_call_entry F.slot_enumerate_next hT F.entry_enumerate_next ?_ (F.args_enumerate_next_1 _))))
 obtain ⟨hp,gs,dr,tk,os⟩:=s
 (have hel:e < hp.objs.size:=Heap.lt_size he)
 show wpAny (model prog w) A.in1 (field (.ref e) 2 >>= _) _ _ _
 refine wpAny_bind (wpAny_field he rfl (x:=.ref it) rfl (wpAny_bind (wpAny_nextOf_list_item hi hl hx fun g1 i1 k1=>?_)))
 replace k1:Heap.SameBut it hp g1:=k1
 have e1:IsEnum g1 e it c old:=(k1.2 e ne).trans he
 show wpAny (model prog w) A.in1 (field (.ref e) 3 >>= _) _ _ ⟨g1,gs,dr,tk,os⟩
 refine wpAny_bind (wpAny_field e1 rfl (x:=rawInt c) rfl ?_)
 show wpAny (model prog w) A.in1 (field (.ref e) 4 >>= _) _ _ ⟨g1,gs,dr,tk,os⟩
 refine wpAny_bind (wpAny_field e1 rfl (x:=.none) rfl ?_)
 show wpAny (model prog w) A.in1 (mkInt c >>= _) _ _ ⟨g1,gs,dr,tk,os⟩
 (refine wpAny_bind (wpAny_mkInt ?_))
 show wpAny (model prog w) A.in1 (setField (.ref e) 3 (rawInt (c+1)) >>= _) _ _ ⟨g1,gs,dr,tk+1,os⟩
 refine wpAny_bind (wpAny_setField_rec e1 (by simp) fun g2 e2 k2=>?_)
 replace k2:Heap.SameBut e g1 g2:=k2
 replace e2:IsEnum g2 e it (c+1) old:=e2
 show wpAny (model prog w) A.in1 (setField (.ref e) 4 .none >>= _) _ _ ⟨g2,gs,dr,tk+1,os⟩
 refine wpAny_bind (wpAny_setField_rec e2 (by simp) fun g3 e3 k3=>?_)
 replace k3:Heap.SameBut e g2 g3:=k3
 replace e3:IsEnum g3 e it (c+1) old:=e3
 have z3:g3.objs.size=hp.objs.size:=by rw [k3.1,k2.1,k1.1]
 show wpAny (model prog w) A.in1 (newTuple [.int c tk,x] >>= _) _ _ ⟨g3,gs,dr,tk+1,os⟩
 (refine wpAny_bind (wpAny_newTuple ?_))
 have e4:IsEnum (g3.push { cls:=.type "tuple",data:=.seq #[.int c tk,x] }) e it (c+1) old:=Heap.get?_push_of_some _ e3
 have t4:(g3.push { cls:=.type "tuple",data:=.seq #[.int c tk,x] }).get? hp.objs.size=some { cls:=.type "tuple",data:=.seq #[.int c tk,x] }:=by rw [<- z3];exact Heap.get?_push_size _ rfl
 have i4:(g3.push { cls:=.type "tuple",data:=.seq #[.int c tk,x] }).IsListIter it l (i+1):=by
  obtain ⟨o,ho,r⟩:=(i1.extBut k2.extBut (Ne.symm ne)).extBut k3.extBut (Ne.symm ne)
  exact ⟨o,Heap.get?_push_of_some _ ho,r⟩
 have b4:∀ b o,b≠e->b≠it->hp.get? b=some o->(g3.push { cls:=.type "tuple",data:=.seq #[.int c tk,x] }).get? b=some o:=fun b o n1 n2 y=>Heap.get?_push_of_some _ (k3.extBut b o n1 (k2.extBut b o n1 (k1.extBut b o n2 y)))
 generalize g3.push { cls:=.type "tuple",data:=.seq #[.int c tk,x] }=g4 at e4 t4 i4 b4 ⊢
 rw [z3]
 show wpAny (model prog w) A.in1 (Builtin.SmallTypes.ownedTupleIsFree (.ref e) >>= _) _ _ ⟨g4,gs,dr,tk+1,os⟩
 clear e3 k3 e2 k2 e1 k1 i1 z3 g3 g2 g1
 refine wpAny_bind ?_
 (unfold Builtin.SmallTypes.ownedTupleIsFree)
 refine wpAny_bind (wpAny_field e4 rfl (x:=.none) rfl (wpAny_pure ?_))
 simp only [if_true]
 refine wpAny_bind (wpAny_rule (wpAny_bind (wpAny_field e4 rfl (x:=old) rfl (wpAny_bind (wpAny_setField_rec e4 (by simp) fun g5 e5 k5=>?_)))))
 replace k5:Heap.SameBut e g4 g5:=k5
 replace e5:IsEnum g5 e it (c+1) x:=e5
 show wpAny (model prog w) A.in1 (Builtin.SmallTypes.ownedTupleHandOut (.ref e) (.ref hp.objs.size) >>= _) _ _ ⟨g5,gs,dr,tk+1,os⟩
 refine wpAny_bind ?_
 (unfold Builtin.SmallTypes.ownedTupleHandOut)
 refine wpAny_bind (wpAny_setField_rec e5 (by simp) fun g6 e6 k6=>?_)
 replace k6:Heap.SameBut e g5 g6:=k6
 replace e6:IsEnumOut g6 e it (c+1) x hp.objs.size:=e6
 refine wpAny_setField_rec e6 (by simp) fun g7 e7 k7=>?_
 replace k7:Heap.SameBut e g6 g7:=k7
 replace e7:IsEnumOut g7 e it (c+1) x hp.objs.size:=e7
 have up:∀ b o,b≠e->g4.get? b=some o->g7.get? b=some o:=fun b o n y=>k7.extBut b o n (k6.extBut b o n (k5.extBut b o n y))
 refine wpAny_bind (wpAny_letGo (wpAny_pure ⟨_,rfl,wpAny_pure (hQ g7 e7 ?_ (up _ _ (ne_of_gt hel) t4) fun b o n1 n2 y=>up b o n1 (b4 b o n1 n2 y))⟩))
 exact ((i4.extBut k5.extBut (Ne.symm ne)).extBut k6.extBut (Ne.symm ne)).extBut k7.extBut (Ne.symm ne)
def ZnG(hh:A.handled=none)(he:IsEnum s.heap e it c old)(hi:s.heap.IsListIter it l i)(hl:s.heap.IsList l its)(hx:its[i]?=none)
 (hQ:∀ g,Heap.ExtBut it s.heap g->Q none { s with heap:=g }):wpAny (model prog w) A (pyNext (.ref e)) Q E s:=by
 (have hT:s.TypeIs (.ref e) "enumerate":=⟨_,he,rfl⟩)
 unfold pyNext
 refine wpAny_bind (wpAny_attempt (wpAny_callSpecial?_slot (name:=Str.ofString "__next__") hT F.slot_enumerate_next (wpAny_call_entry F.slot_enumerate_next hT F.entry_enumerate_next ?_ (F.args_enumerate_next_1 _))))
 show wpAny (model prog w) A.in1 (field (.ref e) 2 >>= _) _ _ _
 refine wpAny_bind (wpAny_field he rfl (x:=.ref it) rfl (wpAny_bind (wpAny_nextOf_list_end hh hi hl hx fun h' y b1 z0=>?_)))
 obtain ⟨o,b2,b3⟩:=z0
 exact wpAny_bind (wpAny_isInstance (T:="StopIteration") (b:=true) ⟨o,b2,b3⟩ isSubtype_stop (wpAny_pure (hQ _ b1)))
def ZlR(hL:s.heap.IsList l its)(hc:Builtin.SmallTypes.fitsIndex c=true)
 (h:∀ h',IsEnum h' (s.heap.objs.size+1) s.heap.objs.size c .none->h'.IsListIter s.heap.objs.size l 0->(∀ b o,s.heap.get? b=some o->h'.get? b=some o)->Q (.ref (s.heap.objs.size+1)) { s with heap:=h' }):
 wpAny (model prog w) A (call (.type "enumerate") [.ref l] [("start",.int c t)]) Q E s:=by
 refine ZlP F.called_enumerate (by decide) (ZiM _ _ _) (ZiN _ _ _) (fun o=>ZiO o _ _ _) (by simp) F.entry_enumerate_new (ZnF l its c t hc) ⟨hL,?_⟩
 have hz:=Heap.size_push s.heap { cls:=.type "list_iterator",data:=.fields #[.ref l,.int 0 0] }
 show _/\Q (.ref _) _
 rw [hz]
 have y:=Heap.get?_push_size (s.heap.push { cls:=.type "list_iterator",data:=.fields #[.ref l,.int 0 0] }) (o:={ cls:=.type "enumerate",data:=.fields #[.none,.bool false,.ref s.heap.objs.size,rawInt c,.none,.none] }) rfl
 rw [hz] at y
 exact ⟨⟨_,y,rfl⟩,h _ y ⟨_,Heap.get?_push_of_some _ (Heap.get?_push_size _ rfl),rfl,rfl⟩ fun b o x=>Heap.get?_push_of_some _ (Heap.get?_push_of_some _ x)⟩
end
open PySem.Spec
section
variable{pins:Pn}{σ:St}{H:Hp}{h':Heap}
def Inv.turnedL(I:Inv X pins σ H s)(k:∀ b o,b∉fp->s.heap.get? b=some o->h'.get? b=some o)(hf:∀ b∈fp,FpOk X pins H b):Inv X pins σ H { s with heap:=h',toks:=t' }:=by
 have nf:∀ b u,H b=some u->b∉fp:=fun b u e z=>by rw [(hf b z).1] at e;cases e
 have hL:X.env.locals∉fp:=fun z=>(hf _ z).2.1 rfl
 refine I.step (g':=s.gens) (d':=s.drawn) (ch:=fp) (fun b hb=>?_) (fun b o _ _ hc e _=>k b o hc e) (fun b o _ _ hc e _=>⟨o.slots,k b o hc e⟩) (fun _ _ _ _ n=>n) (fun b o hc e=>⟨o,k b o hc e⟩)
  (fun _ _ e=>e) (fun _ _ _ e=>e) (fun b ps e=>⟨#[],by rw [e];simp⟩) (fun m hm=>?_) (fun b u e=>?_) I.bare
 . obtain ⟨f0,f1,f2,f3,f4,f5⟩:=hf b hb
   exact ⟨f3,f1,f4,f5⟩
 . obtain ⟨o,es,ep,ho,r⟩:=hm
   exact ⟨o,es,ep,k _ o hL ho,r⟩
 . refine (I.hok b u e).stay (fun c v hc q=>k c v ?_ q) (fun _ q=>q) fun _ _ q=>q
   exact hc.elim (fun z=>by rw [z];exact nf b u e) fun z=>nf c _ z
def ZgE{h:Heap}{o o':Obj}{b:Addr}(hb:b < h.objs.size)(e:(h.push o).get? b=some o'):h.get? b=some o':=by
 (obtain ⟨e1,e2⟩:=Heap.get?_some_iff.mp e)
 refine Heap.get?_some_iff.mpr ⟨?_,e2⟩
 cases h
 simpa [Heap.push,Array.getElem?_push,ne_of_lt hb] using e1
def Inv.laidT{xs:List V}{us:List Value}(I:Inv X pins σ H s)(r:Vals xs us)(hz:xs.length<=sizeLine)(ht:h'.get? s.heap.objs.size=some { cls:=.type "tuple",data:=.seq us.toArray })
 (k:∀ b o,b∉fp->s.heap.get? b=some o->h'.get? b=some o) (hf:∀ b∈fp,FpOk X pins H b) (hlt:∀ b∈fp,b < s.heap.objs.size):Inv X pins σ (upd H s.heap.objs.size (.tup xs)) { s with heap:=h',toks:=t' }:=by
 have I1:Inv X pins σ (upd H s.heap.objs.size (.tup xs)) { s with heap:=s.heap.push { cls:=.type "tuple",data:=.seq us.toArray },toks:=t' }:=
  I.laid (fun b u e=>Heap.get?_push_of_some _ e) (Nat.le_refl _) ⟨hz,us,r,⟨_,Heap.get?_push_size _ rfl,rfl,_,rfl⟩⟩
 refine (fun(go:∀ b o,b∉fp->(s.heap.push { cls:=.type "tuple",data:=.seq us.toArray }).get? b=some o->h'.get? b=some o)=>?_) fun b o hb e=>?_
 . exact Inv.turnedL (s:={ s with heap:=s.heap.push { cls:=.type "tuple",data:=.seq us.toArray },toks:=t' }) (fp:=fp) (t':=t') (h':=h') I1 go fun b hb=>⟨by rw [Zj (ne_of_lt (hlt b hb))];exact (hf b hb).1,(hf b hb).2⟩
 . by_cases hq:b=s.heap.objs.size
   . subst hq
     rw [Heap.get?_push_size _ rfl] at e
     rw [<- e]
     exact ht
   . have:b < s.heap.objs.size:=by
      have:=Heap.lt_size e
      rw [Heap.size_push] at this
      exact Nat.lt_of_le_of_ne (Nat.le_of_lt_succ this) hq
     exact k b o hb (ZgE this e)
end
noncomputable def Ite(K:Fg)(a:Addr)(c:Int):It where
 go i H:=∃ xs x,SqL K H a xs/\xs[i]?=some x
 yld i H x H':=∃ A y,x=.ref A/\H A=none/\H'=upd H A (.tup [.int (c+i),y])/\∀ xs,SqL K H a xs->xs[i]?=some y
 stop i H:=∃ xs,SqL K H a xs/\xs.length<=i
def ZiP{P:Program}{w:World}{K:Fg}{es:List Expr}(a e it:Addr)(c:Int)(ne:e≠it):Turn P w K (.Tuple es k1 pos) (Ite K a c) [e,it] e (fun i h=>(∃ old,IsEnum h e it (c+(i:Nat)) old)/\h.IsListIter it a i) where
 mem:=by simp
 obj:=fun i h st b hb=>by
  obtain ⟨⟨old,he⟩,o,e1,e2,e3⟩:=st
  (rcases List.mem_cons.mp hb with rfl|hb)
  . exact ⟨_,he,fun v z=>by
     have z':Data.fields _=Data.cell v:=z
     cases z'⟩
  . have:b=it:=by simpa using hb
    subst this
    exact ⟨o,e1,fun v z=>by rw [e3] at z;cases z⟩
 keep:=fun i h h' st k=>⟨st.1.imp fun old he=>k e (by simp) _ he,st.2.at fun o y=>k it (by simp) o y⟩
 item:=by
  intro X hP hw hK hc i pins s σ H E I hf st hg
  subst hP hw hK
  obtain ⟨xs,x,hq,hx⟩:=hg
  obtain ⟨its,rv,p,hz⟩:=I.list hq
  obtain ⟨u,hu,ru⟩:=rv.get hx
  obtain ⟨⟨old,he⟩,hi⟩:=st
  have le:e < s.heap.objs.size:=Heap.lt_size he
  have li:it < s.heap.objs.size:=by obtain ⟨_,y,_⟩:=hi;exact Heap.lt_size y
  have lt:∀ b∈[e,it],b < s.heap.objs.size:=fun b hb=>by
   (rcases List.mem_cons.mp hb with rfl|hb)
   . exact le
   . rw [List.mem_singleton.mp hb];exact li
  refine ZlQ he hi p.isList (x:=u) (by simpa using hu) ne fun h' ho hi' ht hk=>⟨_,rfl,?_⟩
  refine wpAny_letOwnedTupleGo_enum ho fun h2 he2 hs2=>?_
  have up:∀ b o,b≠e->h'.get? b=some o->h2.get? b=some o:=fun b o n y=>hs2.extBut b o n y
  have I2:=I.laidT (fp:=[e,it]) (h':=h2) (t':=s.toks+1) (xs:=[.int (c+i),x]) (us:=[.int (c+i) s.toks,u]) (.cons ⟨_,rfl⟩ (.cons ru .nil)) (by simp [sizeLine])
   (up _ _ (ne_of_gt le) ht) (fun b o hb y=>up b o (fun z=>hb (by simp [z])) (hk b o (fun z=>hb (by simp [z])) (fun z=>hb (by simp [z])) y)) hf lt
  refine ⟨.ref s.heap.objs.size,_,I2,rfl,⟨_,x,rfl,I.hok.fresh (Nat.le_refl _),rfl,fun ys hy=>by rw [I.list_inj hy hq];exact hx⟩,⟨⟨u,?_⟩,hi'.at fun o y=>up it o (Ne.symm ne) y⟩,fun b hb=>?_⟩
  . have z:c+((i+1:Nat):Int)=c+i+1:=by omega
    rw [z]
    exact he2
  . rw [Zj (ne_of_lt (lt b hb))]
    exact (hf b hb).1
 done:=by
  intro X hP hw hK hc i pins s σ H E I hf st hg
  subst hP hw hK
  obtain ⟨xs,hq,hx⟩:=hg
  obtain ⟨its,rv,p,hz⟩:=I.list hq
  obtain ⟨⟨old,he⟩,hi⟩:=st
  have hl:=rv.length
  exact ZnG (I.ok.hd hc) he hi p.isList (by simp;omega) fun h' eb=>⟨rfl,I.turnedL (t':=s.toks) (fun b o hb y=>eb b o (fun z=>hb (by simp [z])) y) hf⟩
 self:=fun _ _ _ _ _ st h=>by
  obtain ⟨⟨old,he⟩,_⟩:=st
  exact wpAny_pyIter_enum he h
section
noncomputable def ZhU(K:Fg)(c:Int)(t:TA):TI:=fun σ H R=>t σ H fun vs H1=>∃ a,vs=[.ref a]/\(∃ xs,SqL K H1 a xs)/\R (Ite K a c) H1
def ZkL(I:Inv X pins σ H s)(he:IsEnum h' (s.heap.objs.size+1) s.heap.objs.size c .none)(hi:h'.IsListIter s.heap.objs.size a 0)
 (hk:∀ b o,s.heap.get? b=some o->h'.get? b=some o) (z:R (Ite X.K a c) H):wpAny (model X.prog X.w) X.A (pyIter (.ref (s.heap.objs.size+1))) (PIE X pins σ (.Tuple es k1 q) R) E { s with heap:=h' }:=by
 refine wpAny_pyIter_enum he ⟨_,[s.heap.objs.size+1,s.heap.objs.size],_,_,H,rfl,I.kept (t':=s.toks) hk,ZiP a _ _ c (Nat.succ_ne_self _),⟨⟨_,by simpa using he⟩,hi⟩,fun b hb=>?_,z⟩
 have:s.heap.objs.size<=b:=by
  (rcases List.mem_cons.mp hb with rfl|hb)
  . omega
  . rw [List.mem_singleton.mp hb];exact Nat.le_refl _
 exact I.fpOk this (I.hok.fresh this)
theorem ZlS(hg:Gl X "enumerate")(hm:X.mg "enumerate"=none)(ha:PA X [l] t)(hs:autoParam (starEach [l] X.env=[(false,eval l X.env)]) Q9):PI X (.Tuple es k1 q) (.Call (.Name "enumerate" p) [l] [] pos) (ZhU X.K 0 t):=by
 intro pins s σ H R I h
 refine PyProof.Rows.Call_ (Zbr I hg hm boot_enumerate (PyProof.Rows.callWith_type1 (thn (ha pos pins s σ H _ I h) fun us s1 z0=>?_) hs rfl))
 obtain ⟨vs,H1,I1,r1,q1⟩:=z0
 obtain ⟨a,e,⟨xs,hq⟩,z⟩:=q1
 subst e
 cases r1 with
 | cons r rr=>
  cases rr
  cases r
  obtain ⟨its,rv,pl,hz⟩:=I1.list hq
  exact call_enumerate_list pl.isList fun h' he hi _ hk=>ZkL I1 he hi hk z
theorem ZjW(hg:Gl X "enumerate")(hm:X.mg "enumerate"=none)(ha:PA X [l] t)(hke:PE X ke (tC (.int c)))(hc:Builtin.SmallTypes.fitsIndex c=true)(hs:autoParam (starEach [l] X.env=[(false,eval l X.env)]) Q9):PI X (.Tuple es k1 q) (.Call (.Name "enumerate" p) [l] [⟨some "start",ke,kp⟩] pos) (ZhU X.K c t):=by
 intro pins s σ H R I h
 refine wpAny_Call_Name_kw (Zbr I hg hm boot_enumerate (ZhT (by show _=_;rw [hs];rfl) rfl ?_))
 rw [hs]
 refine PyProof.Rows.evalArgs_kwB rfl ?_
 have ha':=ha pos pins s σ H _ I h
 rw [hs] at ha'
 refine thn ha' fun us s1 z0=>?_
 obtain ⟨vs,H1,I1,r1,q1⟩:=z0
 obtain ⟨a,e,⟨xs,hq⟩,z⟩:=q1
 subst e
 cases r1 with
 | cons r rr=>
  cases rr
  cases r
  refine thn (Zl1 (nm:=some "start") (kpos:=kp) hke Zns pos pins s1 σ H1 (fun vs H2=>vs=[.int c]/\H2=H1) I1 ⟨rfl,rfl⟩) fun ws s2 z0=>?_
  obtain ⟨zs,H2,I2,r2,e1,e2⟩:=z0
  subst e1 e2
  cases r2 with
  | cons r rr=>
   cases rr
   obtain ⟨tt,rfl⟩:=r
   obtain ⟨its,rv,pl,hz⟩:=I2.list hq
   exact ZlR pl.isList hc fun h' he hi hk=>ZkL I2 he hi hk z
end
noncomputable def Itz(K:Fg)(a b:Addr):It where
 go i H:=∃ xs ys x y,SqL K H a xs/\SqL K H b ys/\xs[i]?=some x/\ys[i]?=some y
 yld i H x H':=∃ A u v,x=.ref A/\H A=none/\H'=upd H A (.tup [u,v])/\(∀ xs,SqL K H a xs->xs[i]?=some u)/\∀ ys,SqL K H b ys->ys[i]?=some v
 stop i H:=∃ xs ys,SqL K H a xs/\SqL K H b ys/\(xs.length<=i\/ys.length<=i)
def mem5{P:Addr->Prop}{z t u v w:Addr}(h1:P z)(h2:P t)(h3:P u)(h4:P v)(h5:P w):∀ b∈[z,t,u,v,w],P b:=fun b hb=>by
 (simp only [mem_cons,not_mem_nil,or_false] at hb)
 rcases hb with rfl|rfl|rfl|rfl|rfl<;>assumption
def ZjX{P:Program}{w:World}{K:Fg}{es:List Expr}(a b z TI TO i1 i2:Addr)(ap:ZipApart z TI TO i1 i2 a b):Turn P w K (.Tuple es k1 pos) (Itz K a b) [z,TI,TO,i1,i2] z
 (fun i h=>IsZip h z TI TO .none/\IsPair h TI (.ref i1) (.ref i2)/\(∃ u v,IsPair h TO u v)/\h.IsListIter i1 a i/\h.IsListIter i2 b i) where
 mem:=by simp
 obj:=fun i h st=>by
  obtain ⟨hz,hI,⟨u,v,hO⟩,⟨o1,e1,c1,d1⟩,⟨o2,e2,c2,d2⟩⟩:=st
  refine mem5 (P:=fun b=>∃ o,h.get? b=some o/\∀ v,o.data≠.cell v) ⟨_,hz,fun v q=>?_⟩ ⟨_,hI,fun v q=>?_⟩ ⟨_,hO,fun v q=>?_⟩ ⟨o1,e1,fun v q=>by rw [d1] at q;cases q⟩ ⟨o2,e2,fun v q=>by rw [d2] at q;cases q⟩
  . have q':Data.fields _=Data.cell v:=q
    cases q'
  . have q':Data.seq _ _=Data.cell v:=q
    cases q'
  . have q':Data.seq _ _=Data.cell _:=q
    cases q'
 keep:=fun i h h' st k=>⟨k z (by simp) _ st.1,k TI (by simp) _ st.2.1,st.2.2.1.imp fun u hu=>hu.imp fun v hv=>k TO (by simp) _ hv,st.2.2.2.1.at fun o y=>k i1 (by simp) o y,st.2.2.2.2.at fun o y=>k i2 (by simp) o y⟩
 item:=by
  intro X hP hw hK hc i pins s σ H E I hf st hg
  subst hP hw hK
  obtain ⟨xs,ys,x,y,hqx,hqy,hx,hy⟩:=hg
  obtain ⟨its,rv,p,_⟩:=I.list hqx
  obtain ⟨jts,rw',p',_⟩:=I.list hqy
  obtain ⟨u,hu,ru⟩:=rv.get hx
  obtain ⟨v,hv,rv'⟩:=rw'.get hy
  obtain ⟨hz,hI,⟨u0,v0,hO⟩,hi1,hi2⟩:=st
  have lt:∀ b∈[z,TI,TO,i1,i2],b < s.heap.objs.size:=mem5 (P:=fun b=>b < s.heap.objs.size) (Heap.lt_size hz) (Heap.lt_size hI) (Heap.lt_size hO) (by obtain ⟨_,q,_⟩:=hi1;exact Heap.lt_size q) (by obtain ⟨_,q,_⟩:=hi2;exact Heap.lt_size q)
  refine wpAny_pyNext_zip_item ap hz hI hO hi1 hi2 p.isList p'.isList (x:=u) (y:=v) (by simpa using hu) (by simpa using hv) fun h' ho hO' hi1' hi2' hT _ hk=>⟨_,rfl,?_⟩
  refine wpAny_letOwnedTupleGo_zip ho fun h2 hz2 hs2=>?_
  have up:∀ b o,b≠z->h'.get? b=some o->h2.get? b=some o:=fun b o n q=>hs2.extBut b o n q
  have zlt:=lt z (by simp)
  have I2:=I.laidT (fp:=[z,TI,TO,i1,i2]) (h':=h2) (t':=s.toks) (xs:=[x,y]) (us:=[u,v]) (.cons ru (.cons rv' .nil)) (by simp [sizeLine])
   (up _ _ (ne_of_gt zlt) hT) (fun b o hb q=>up b o (fun e=>hb (by simp [e])) (hk b o (fun e=>hb (by simp [e])) (fun e=>hb (by simp [e])) (fun e=>hb (by simp [e])) (fun e=>hb (by simp [e])) q)) hf lt
  have hI':IsPair h' TI (.ref i1) (.ref i2):=hk TI _ ap.TIz ap.TITO ap.TIi1 ap.TIi2 hI
  refine ⟨.ref s.heap.objs.size,_,I2,rfl,⟨_,x,y,rfl,I.hok.fresh (Nat.le_refl _),rfl,fun zs q=>by rw [I.list_inj q hqx];exact hx,fun zs q=>by rw [I.list_inj q hqy];exact hy⟩,
   ⟨hz2,up _ _ ap.TIz hI',⟨u,v,up _ _ ap.TOz hO'⟩,hi1'.at fun o q=>up i1 o ap.i1z q,hi2'.at fun o q=>up i2 o ap.i2z q⟩,fun b hb=>?_⟩
  rw [Zj (ne_of_lt (lt b hb))]
  exact (hf b hb).1
 done:=by
  intro X hP hw hK hc i pins s σ H E I hf st hg
  subst hP hw hK
  obtain ⟨xs,ys,hqx,hqy,hend⟩:=hg
  obtain ⟨its,rv,p,_⟩:=I.list hqx
  obtain ⟨jts,rw',p',_⟩:=I.list hqy
  obtain ⟨hz,hI,⟨u0,v0,hO⟩,hi1,hi2⟩:=st
  have l1:=rv.length
  have l2:=rw'.length
  refine wpAny_pyNext_zip_end (I.ok.hd hc) ap hz hI hO hi1 hi2 p.isList p'.isList ?_ fun h' hk=>⟨rfl,I.turnedL (t':=s.toks) (fun b o hb q=>hk b o (fun e=>hb (by simp [e])) (fun e=>hb (by simp [e])) (fun e=>hb (by simp [e])) (fun e=>hb (by simp [e])) q) hf⟩
  rcases hend with h|h
  . exact .inl (by simp;omega)
  . exact .inr (by simp;omega)
 self:=fun _ _ _ _ _ st h=>wpAny_pyIter_zip st.1 h
section
variable{es:List Expr}{l r:Expr}{t:TA}{p q:Pos}
noncomputable def iZip(K:Fg)(t:TA):TI:=fun σ H R=>t σ H fun vs H1=>∃ a b,vs=[.ref a,.ref b]/\(∃ xs,SqL K H1 a xs)/\(∃ ys,SqL K H1 b ys)/\R (Itz K a b) H1
theorem ZnH(hg:Gl X "zip")(hm:X.mg "zip"=none)(ha:PA X [l,r] t)(hs:autoParam (starEach [l,r] X.env=[(false,eval l X.env),(false,eval r X.env)]) Q9)(hs2:autoParam (starEach [r] X.env=[(false,eval r X.env)]) Q9):PI X (.Tuple es k1 q) (.Call (.Name "zip" p) [l,r] [] pos) (iZip X.K t):=by
 intro pins s σ H R I h
 refine PyProof.Rows.Call_ (Zbr I hg hm PyProof.Rows.boot_zip (PyProof.Rows.callWith_type1 (thn (ha pos pins s σ H _ I h) fun us s1 z0=>?_) (by show _=_;rw [hs,hs2]) (by show _=_;rw [hs2];rfl)))
 obtain ⟨vs,H1,I1,r1,q1⟩:=z0
 obtain ⟨a,b,e,⟨xs,hq⟩,⟨ys,hq'⟩,y⟩:=q1
 subst e
 cases r1 with
 | cons u uu=>
  cases uu with
  | cons u' uu=>
   cases uu
   cases u
   cases u'
   obtain ⟨its,rv,pl,_⟩:=I1.list hq
   obtain ⟨jts,rw',pl',_⟩:=I1.list hq'
   have la:@LT.lt Nat _ a s1.heap.objs.size:=by obtain ⟨o,n,e,_⟩:=pl;exact Heap.lt_size e
   have lb:@LT.lt Nat _ b s1.heap.objs.size:=by obtain ⟨o,n,e,_⟩:=pl';exact Heap.lt_size e
   refine call_zip_2 pl.isList pl'.isList fun h' hz hI hO hi1 hi2 _ hk=>wpAny_pyIter_zip hz ?_
   generalize hn:s1.heap.objs.size=n at *
   have ap:ZipApart (n+4) (n+2) (n+3) n (n+1) a b:=by
    have c1:@LT.lt Nat _ a n:=la
    have c2:@LT.lt Nat _ b n:=lb
    constructor<;>(first|exact ne_of_lt (by omega)|exact ne_of_gt (by omega))
   refine ⟨_,[n+4,n+2,n+3,n,n+1],_,_,H1,rfl,I1.kept (t':=s1.toks) hk,ZjX a b _ _ _ _ _ ap,⟨hz,hI,⟨_,_,hO⟩,hi1,hi2⟩,?_,y⟩
   refine mem5 (P:=fun b=>FpOk X pins H1 b) ?_ ?_ ?_ ?_ ?_<;>exact I1.fpOk (by rw [hn];omega) (I1.hok.fresh (by rw [hn];omega))
end
end L2
namespace T
open PySem L2
variable{H Hs H' H1 Hs1 Hs' H2 Hs2:Hp}{δ ds δ' δ1 δ2:List D}{X:Cx}{pos:Pos}{m1 m2 M' m':Bud}{fi:FI}{fr lend:Bool}{α:Type}{w1 w2:W}{j:Nat}
inductive Kd where
 | lst|frl|tup|ftp|dic (ks:List Key)|ins (C:Addr) (fs:List Str)|exc (ns:List Str) (fr:Bool) (fs:List Str)
 deriving DecidableEq
inductive D where
 | sc (v:V)|hole|node (k:Kd) (o:Bool) (ds:List D)
mutual
noncomputable def shr:D->D
 | .sc v=>.sc v
 | .hole=>.hole
 | .node k _ ds=>.node k false (shrL ds)
noncomputable def shrL:List D->List D
 | []=>[]
 | d::ds=>shr d::shrL ds
end
theorem ZdV:∀ ds:List D,shrL ds=ds.map shr
 | []=>rfl
 | d::ds=>by rw [shrL,ZdV ds];rfl
def RdX(fr:Bool)(H:Hp)(a:Addr)(u:HO):Prop:=H a=some u\/(fr=false/\∃ o,H a=some (.frz o u))
def RdX.rd{a:Addr}{u:HO}(h:RdX fr H a u):Rd H a u:=h.imp id fun h=>h.2
def RdX.t{a:Addr}{u:HO}(h:RdX true H a u):H a=some u:=h.elim id fun h=>nomatch h.1
def RdX.same{a:Addr}{u:HO}(e:Same H H')(h:RdX fr H a u):RdX fr H' a u:=h.imp (e _ _) fun ⟨f,o,q⟩=>⟨f,o,e _ _ q⟩
def ZcM(K:Fg)(H:Hp)(a:Addr)(vs:List V):Kd->Prop
 | .lst=>H a=some (.lst vs)
 | .frl=>SqL K H a vs
 | .tup=>H a=some (.tup vs)
 | .ftp=>SqT K H a vs
 | .dic ks=>ks.length=vs.length/\H a=some (.dK (ks.zip vs))
 | .ins C fs=>fs.length=vs.length/\∃ dx,H a=some (.ins C dx (fs.zip vs))
 | .exc ns fr fs=>fs.length=vs.length/\∃ C dx,XN K ns C/\RdX fr H a (.exc C dx fr (fs.zip vs))
def ZaH(K:Fg)(H:Hp)(a:Addr)(vs:List V):Kd->Prop
 | .lst=>H a=some (.lst vs)
 | .frl=>False
 | .tup=>H a=some (.tup vs)
 | .ftp=>False
 | .dic ks=>ks.length=vs.length/\H a=some (.dK (ks.zip vs))
 | .ins C fs=>fs.length=vs.length/\∃ dx,H a=some (.ins C dx (fs.zip vs))
 | .exc ns fr fs=>fs.length=vs.length/\∃ C dx,XN K ns C/\H a=some (.exc C dx fr (fs.zip vs))
theorem ZaH.r{K:Fg}{a:Addr}{vs:List V}{k:Kd}(h:ZaH K H a vs k):ZcM K H a vs k:=by
 cases k with
 | lst=>exact h
 | frl=>exact h.elim
 | tup=>exact h
 | ftp=>exact h.elim
 | dic ks=>exact h
 | ins C fs=>exact h
 | exc ns fr fs=>obtain ⟨l,C,dx,x,q⟩:=h;exact ⟨l,C,dx,x,.inl q⟩
theorem ZaH.at{K:Fg}{a:Addr}{vs:List V}{k:Kd}(h:ZaH K H a vs k):H a≠none:=by
 cases k with
 | lst=>rw [show H a=_ from h];simp
 | frl=>exact h.elim
 | tup=>rw [show H a=_ from h];simp
 | ftp=>exact h.elim
 | dic ks=>rw [h.2];simp
 | ins C fs=>obtain ⟨_,dx,e⟩:=h;rw [e];simp
 | exc ns fr fs=>obtain ⟨_,C,dx,_,e⟩:=h;rw [e];simp
theorem ZaH.eq{K:Fg}{a:Addr}{vs:List V}{k:Kd}(h:ZaH K H a vs k)(e:H' a=H a):ZaH K H' a vs k:=by
 cases k with
 | lst=>exact e.trans h
 | frl=>exact h.elim
 | tup=>exact e.trans h
 | ftp=>exact h.elim
 | dic ks=>exact ⟨h.1,e.trans h.2⟩
 | ins C fs=>obtain ⟨l,dx,q⟩:=h;exact ⟨l,dx,e.trans q⟩
 | exc ns fr fs=>obtain ⟨l,C,dx,x,q⟩:=h;exact ⟨l,C,dx,x,e.trans q⟩
def Same.tupq'{K:Fg}{a:Addr}{xs:List V}(e:Same H H')(h:SqT K H a xs):SqT K H' a xs:=by
 rcases h with (h|⟨o,h⟩)|h
 . exact .inl (.inl (e _ _ h))
 . exact .inl (.inr ⟨o,e _ _ h⟩)
 . exact .inr h
theorem ZcM.same{K:Fg}{a:Addr}{vs:List V}{k:Kd}(e:Same H H')(h:ZcM K H a vs k):ZcM K H' a vs k:=by
 cases k with
 | lst=>exact e _ _ h
 | frl=>exact e.seq h
 | tup=>exact e _ _ h
 | ftp=>exact Same.tupq' e h
 | dic ks=>exact ⟨h.1,e _ _ h.2⟩
 | ins C fs=>obtain ⟨l,dx,q⟩:=h;exact ⟨l,dx,e _ _ q⟩
 | exc ns fr fs=>obtain ⟨l,C,dx,x,q⟩:=h;exact ⟨l,C,dx,x,q.same e⟩
abbrev Bud:=Addr->Nat
noncomputable def one(a:Addr):Bud:=fun b=>if b=a then 1 else 0
mutual
inductive Rep(K:Fg)(H Hs:Hp):V->D->Bud->Prop
 | sc (v:V) (m:Bud):Rep K H Hs v (.sc v) m
 | hole (v:V) (m:Bud):Rep K H Hs v .hole m
 | own {a:Addr} {k:Kd} {vs:List V} {ds:List D} {m m':Bud}:ZaH K H a vs k->RepL K H Hs vs ds m'->(∀ b,one a b+m' b<=m b)->Rep K H Hs (.ref a) (.node k true ds) m
 | shd {a:Addr} {k:Kd} {vs:List V} {ds:List D} {m:Bud}:ZcM K Hs a vs k->RepL K H Hs vs ds (fun _=>0)->Rep K H Hs (.ref a) (.node k false ds) m
inductive RepL(K:Fg)(H Hs:Hp):List V->List D->Bud->Prop
 | nil (m:Bud):RepL K H Hs [] [] m
 | cons {v:V} {d:D} {vs:List V} {ds:List D} {m1 m2 m:Bud}:Rep K H Hs v d m1->RepL K H Hs vs ds m2->(∀ b,m1 b+m2 b<=m b)->RepL K H Hs (v::vs) (d::ds) m
end
structure Good(H Hs:Hp)(M:Bud):Prop where
 sub:Same Hs H
 le:∀ b,M b<=1
 ne:∀ b,M b=1->Hs b=none
 has:∀ b,M b=1->H b≠none
structure Stp(H Hs:Hp)(M:Bud)(H' Hs':Hp)(M':Bud):Prop where
 keep:∀ b o,H b=some o->M b=0->H' b=some o
 own:∀ b,M' b=1->M b=1\/H b=none
 grow:Same Hs Hs'
 shr:∀ b,Hs b=none->Hs' b≠none->M b=1\/H b=none
 stay:∀ b,H b≠none->H' b≠none
section
variable{K:Fg}{M M1 M2 m:Bud}
mutual
theorem Rep.mono:∀{v:V}{d:D}{m m':Bud},Rep K H Hs v d m->(∀ b,m b<=m' b)->Rep K H Hs v d m'
 | _,_,_,_,.sc v _,_=>.sc v _
 | _,_,_,_,.hole v _,_=>.hole v _
 | _,_,_,_,.own n r h,l=>.own n r fun b=>le_trans (h b) (l b)
 | _,_,_,_,.shd n r,_=>.shd n r
end
theorem RepL.mono{vs:List V}{m:Bud}(h:RepL K H Hs vs ds m)(l:∀ b,m b<=m' b):RepL K H Hs vs ds m':=by
 cases h with
 | nil=>exact .nil _
 | cons a b c=>exact .cons a b fun x=>le_trans (c x) (l x)
mutual
theorem Rep.frame(g:Same Hs Hs'):∀{v:V}{d:D}{m:Bud},(∀ b,m b≥1->H b≠none->H' b=H b)->Rep K H Hs v d m->Rep K H' Hs' v d m
 | _,_,_,_,.sc v _=>.sc v _
 | _,_,_,_,.hole v _=>.hole v _
 | _,_,m,k,.own (a:=a) (m':=m') n r h=>by
  have h1:m a≥1:=by have:=h a;simp only [one,if_pos] at this;omega
  refine .own (n.eq (k a h1 n.at)) (RepL.frame g (fun b hb hn=>k b ?_ hn) r) h
  have:=h b
  omega
 | _,_,_,k,.shd n r=>.shd (n.same g) (RepL.frame g (fun b hb=>absurd hb (by simp)) r)
termination_by structural _ a=>a
theorem RepL.frame(g:Same Hs Hs'):∀{vs:List V}{ds:List D}{m:Bud},(∀ b,m b≥1->H b≠none->H' b=H b)->RepL K H Hs vs ds m->RepL K H' Hs' vs ds m
 | _,_,_,_,.nil _=>.nil _
 | _,_,m,k,.cons (m1:=m1) (m2:=m2) x y h=>by
  refine .cons (Rep.frame g (fun b hb=>k b ?_) x) (RepL.frame g (fun b hb=>k b ?_) y) h
  . have:=h b;omega
  . have:=h b;omega
termination_by structural _ a=>a
end
def Good.drop(g:Good H Hs M)(l:∀ b,M' b<=M b):Good H Hs M':=
 ⟨g.sub,fun b=>le_trans (l b) (g.le b),fun b h=>g.ne b (by have:=l b;have:=g.le b;omega),fun b h=>g.has b (by have:=l b;have:=g.le b;omega)⟩
def Stp.drop(s:Stp H Hs M H' Hs' M1)(l:∀ b,M2 b<=M1 b)(le:∀ b,M1 b<=1):Stp H Hs M H' Hs' M2:=
 ⟨s.keep,fun b h=>s.own b (by have:=l b;have:=le b;omega),s.grow,s.shr,s.stay⟩
def Stp.refl(H Hs:Hp)(M:Bud):Stp H Hs M H Hs M:=⟨fun _ _ h _=>h,fun _ h=>.inl h,Same.refl _,fun _ h h'=>absurd h h',fun _ h=>h⟩
def Zo(g:Good H Hs M)(g1:Good H1 Hs1 (fun b=>m1 b+M1 b))(s1:Stp H Hs M H1 Hs1 (fun b=>m1 b+M1 b))(g2:Good H2 Hs2 M2)(s2:Stp H1 Hs1 M1 H2 Hs2 M2):
 Good H2 Hs2 (fun b=>m1 b+M2 b)/\Stp H Hs M H2 Hs2 (fun b=>m1 b+M2 b)/\(∀ b,m1 b≥1->H1 b≠none->H2 b=H1 b):=by
 have d:∀ b,m1 b=1->M2 b=0:=fun b h=>by
  have l1:m1 b+M1 b<=1:=g1.le b
  have l2:=g2.le b
  have:M2 b≠1:=fun e=>by
   rcases s2.own b e with q|q
   . omega
   . exact g1.has b (by show m1 b+M1 b=1;omega) q
  omega
 have k1:∀ b,m1 b≥1->H1 b≠none->H2 b=H1 b:=fun b h n=>by
  have l1:m1 b+M1 b<=1:=g1.le b
  cases q:H1 b with
  | none=>exact absurd q n
  | some o=>exact s2.keep b o q (by omega)
 refine ⟨⟨g2.sub,fun b=>?_,fun b h=>?_,fun b h=>?_⟩,⟨fun b o e z=>?_,fun b h=>?_,s1.grow.trans s2.grow,fun b n n'=>?_,fun b n=>s2.stay b (s1.stay b n)⟩,k1⟩
 . have l1:m1 b+M1 b<=1:=g1.le b
   have l2:=g2.le b
   show m1 b+M2 b<=1
   by_cases h:m1 b=1
   . have:=d b h;omega
   . omega
 . have h:m1 b+M2 b=1:=h
   have l1:m1 b+M1 b<=1:=g1.le b
   by_cases h1:m1 b=1
   . cases q:Hs2 b with
     | none=>rfl
     | some o=>
      have n1:Hs1 b=none:=g1.ne b (by show m1 b+M1 b=1;omega)
      rcases s2.shr b n1 (by rw [q];simp) with z|z
      . omega
      . exact absurd z (g1.has b (by show m1 b+M1 b=1;omega))
   . exact g2.ne b (by omega)
 . have h:m1 b+M2 b=1:=h
   have l1:m1 b+M1 b<=1:=g1.le b
   by_cases h1:m1 b=1
   . have n:=g1.has b (by show m1 b+M1 b=1;omega)
     rw [k1 b (by omega) n];exact n
   . exact g2.has b (by omega)
 . have e1:=s1.keep b o e z
   have:¬ (m1 b+M1 b=1):=fun q=>by
    rcases s1.own b q with w|w
    . omega
    . rw [e] at w;cases w
   have l1:m1 b+M1 b<=1:=g1.le b
   exact s2.keep b o e1 (by omega)
 . have h:m1 b+M2 b=1:=h
   have l1:m1 b+M1 b<=1:=g1.le b
   by_cases h1:m1 b=1
   . exact s1.own b (by show m1 b+M1 b=1;omega)
   . rcases s2.own b (by omega) with q|q
     . exact s1.own b (by show m1 b+M1 b=1;omega)
     . cases w:H b with
       | none=>exact .inr rfl
       | some o=>exact absurd q (s1.stay b (by rw [w];simp))
 . cases q:Hs1 b with
   | some o=>exact s1.shr b n (by rw [q];simp)
   | none=>
    rcases s2.shr b q n' with z|z
    . have l1:m1 b+M1 b<=1:=g1.le b
      exact s1.own b (by show m1 b+M1 b=1;omega)
    . cases w:H b with
      | none=>exact .inr rfl
      | some o=>exact absurd z (s1.stay b (by rw [w];simp))
end
inductive Rs(α:Type) where
 | ok (a:α)|exc (x:D) (δ:List D)|stuck
abbrev M(α:Type):=List D->Rs (α×List D)
noncomputable def M.ret{α:Type}(a:α):M α:=fun δ=>.ok (a,δ)
noncomputable def M.bnd{α β:Type}(c:M α)(f:α->M β):M β:=fun δ=>match c δ with
 | .ok (a,δ')=>f a δ'
 | .exc x δ'=>.exc x δ'
 | .stuck=>.stuck
noncomputable def lift{α:Type}:Option α->M α
 | some a=>M.ret a
 | none=>fun _=>.stuck
noncomputable def stk{α:Type}:M α:=fun _=>.stuck
inductive Ty where
 | int|bool|str|list|tuple|dict|own (C:Addr)
 deriving DecidableEq
inductive BF where
 | len|str|int|sum|min|max|list|all|any|sorted|isi (t:Ty)|isiX (c:Str)|isiV|xinit|xfld (f:Str)|minL
 deriving DecidableEq
inductive BM where
 | split|join
 deriving DecidableEq
inductive MM where
 | append|extend|pop|popAt|reverse|clear|insert|update|popKey|remove
 deriving DecidableEq
inductive IK where
 | rng1|rng2|rng3|val|valS|enum|zip|rev|items|values
 deriving DecidableEq
inductive Tg where
 | name (i:Nat)|tup (is:List Nat)
structure FI where
 lend:Bool
 run:List D->Rs (D×List D)
set_option genInjectivity false in
inductive E where
 | k (v:V)
 | g (d:D)
 | v (i:Nat)
 | bin (op:Operator) (a b:E)
 | neg (a:E)
 | cmp (op:CmpOp) (a b:E)
 | chain (op op':CmpOp) (a b c:E)
 | isN (p:Bool) (a:E)
 | nt (a:E)
 | and (a b:E)
 | or (a b:E)
 | ix (a i:E)
 | sl (a lo hi:E)
 | fld (a:E) (f:Str)
 | lst (es:List E)
 | tup (es:List E)
 | kl (vs:List V)
 | dct0
 | call (f:FI) (es:List E)
 | bf (f:BF) (es:List E)
 | mut (m:MM) (i:Nat) (ps:List E) (es:List E)
 | meth (A:Addr) (m:Str) (f:FI) (o:E) (es:List E)
 | new (A:Addr) (f:FI) (es:List E)
 | comp (k:Nat) (js:List Nat) (tg:Tg) (ik:IK) (ies:List E) (cond:List E) (elt:E)
 | fs (es:List E)
 | bor (e:E)
 | sdef (i:Nat) (k v:E)
 | dvals (i:Nat)
 | fsL (z:Str) (e:E)
set_option genInjectivity false in
inductive YE where
 | meth (A:Addr) (m:Str) (f:FI) (o:E) (es:List E)
 | new (A:Addr) (f:FI) (es:List E)
set_option genInjectivity false in
inductive S where
 | asg (i:Nat) (e:E)
 | unp (is:List Nat) (e:E)
 | sub (i:Nat) (ps:List E) (ix:E) (e:E)
 | attr (i:Nat) (f:Str) (e:E)
 | ex (e:E)
 | ret (e:E)
 | iff (c:E) (a b:List S)
 | for_ (tg:Tg) (ik:IK) (ies:List E) (body:List S)
 | pass|brk|cnt
 | raise (e:E)
 | asgY (i:Nat) (y:YE)
 | exY (y:YE)
 | exX (f:FI) (es:List E)
 | raise0 (ns:List Str)
 | raiseI (ns:List Str) (f:FI) (es:List E)
 | attrX (i:Nat) (f:Str) (e:E)
 | forX (tg:Tg) (ik:IK) (ies:List E) (body:List S)
 | lf (s:S)
 | ifX (c:E) (a b:List S)
 | try_ (body:List S) (c:Str) (nm:Option Nat) (suite:List S)
 | tryF (body:List S) (c:Str) (i:Nat) (suite:List S)
 | forY (tg:Tg) (ies:List E) (y:YE) (body:List S)
inductive Op where
 | late (i:Nat)|tmp (d:D)
inductive W where
 | sc (v:V)|nd (k:Kd) (ds:List D)
noncomputable def ZR(i:Nat):M Op:=fun δ=>match δ[i]? with
 | some (.sc _)=>.ok (.late i,δ)
 | some (.node _ _ _)=>.ok (.late i,δ)
 | _=>.stuck
noncomputable def Zn(e:E)(c:M D):M Op:=match e with
 | .v i=>ZR i
 | _=>c.bnd fun d=>M.ret (.tmp d)
noncomputable def view:Op->M W
 | .tmp (.sc v)=>M.ret (.sc v)
 | .tmp (.node k _ ds)=>M.ret (.nd k ds)
 | .tmp .hole=>stk
 | .late i=>fun δ=>match δ[i]? with
  | some (.sc v)=>.ok (.sc v,δ)
  | some (.node k false ds)=>.ok (.nd k ds,δ)
  | some (.node k true ds)=>.ok (.nd k (shrL ds),δ.set i (.node k true (shrL ds)))
  | _=>.stuck
noncomputable def views:List Op->M (List W)
 | []=>M.ret []
 | p::ps=>(view p).bnd fun w=>(views ps).bnd fun ws=>M.ret (w::ws)
noncomputable def valV(i:Nat):M D:=fun δ=>match δ[i]? with
 | some (.sc v)=>.ok (.sc v,δ)
 | some (.node k false ds)=>.ok (.node k false ds,δ)
 | some (.node k true ds)=>.ok (.node k false (shrL ds),δ.set i (.node k false (shrL ds)))
 | _=>.stuck
noncomputable def newL(ds:List D):Option D:=if ds.length<=sizeLine then some (.node .lst true ds) else none
noncomputable def newT(ds:List D):Option D:=if ds.length<=sizeLine then some (.node .tup true ds) else none
noncomputable def Zaq:List D->Option (List Int)
 | []=>some []
 | .sc (.int i)::r=>(Zaq r).map (i::·)
 | _=>none
noncomputable def binW(o:Operator)(x y:W):Option D:=match x,y with
 | .sc (.int i),.sc (.int j)=>match o with
  | .Add=>some (.sc (.int (i+j)))
  | .Sub=>some (.sc (.int (i - j)))
  | .Mult=>if (-(2 ^ 64) < i/\i < 2 ^ 64)\/(-(2 ^ 64) < j/\j < 2 ^ 64) then some (.sc (.int (i * j))) else none
  | .FloorDiv=>if 0 < j/\j < 18446744073709551616 then some (.sc (.int (i / j))) else none
  | .Mod=>if 0 < j then some (.sc (.int (i % j))) else none
  | .Pow=>if 0<=j/\j<=1000000/\i.natAbs < 2 ^ 64 then some (.sc (.int (i ^ j.toNat))) else none
  | _=>none
 | .nd .lst xs,.nd .lst ys=>match o with
  | .Add=>newL (xs++ys)
  | _=>none
 | .nd .lst xs,.sc (.int n)=>match o with
  | .Mult=>if -(2 ^ 63)<=n/\n < 2 ^ 63/\xs.length * n.toNat<=sizeLine then (Zaq xs).map fun is=>.node .lst true ((replicate n.toNat is).flatten.map fun i=>.sc (.int i)) else none
  | _=>none
 | _,_=>none
noncomputable def cmpI(op:CmpOp)(i j:Int):Option Bool:=match op with
 | .Lt=>some (decide (i < j))|.LtE=>some (decide (i<=j))|.Gt=>some (decide (j < i))|.GtE=>some (decide (j<=i))
 | _=>none
mutual
noncomputable def py:D->Option PyData
 | .sc .non=>some .none
 | .sc (.bl b)=>some (.bool b)
 | .sc (.int i)=>some (.int i)
 | .sc (.str x)=>some (.str x)
 | .node .lst _ ds=>(pyL ds).map .list
 | .node .frl _ ds=>(pyL ds).map .list
 | .node .tup _ ds=>(pyL ds).map .tuple
 | .node .ftp _ ds=>(pyL ds).map .tuple
 | _=>none
noncomputable def pyL:List D->Option (List PyData)
 | []=>some []
 | d::ds=>(py d).bind fun a=>(pyL ds).map (a::·)
end
noncomputable def toD:W->D
 | .sc v=>.sc v
 | .nd k ds=>.node k false ds
noncomputable def eqPy(a b:PyData):Option Bool:=if SeqAt.shaped a=true/\SeqAt.shaped b=true then some (PyData.eqv a b) else none
noncomputable def eqW:W->W->Option Bool
 | .sc u,.sc v=>if scal u v=true then some (decide (u=v)) else (py (.sc u)).bind fun a=>(py (.sc v)).bind fun b=>eqPy a b
 | x,y=>(py (toD x)).bind fun a=>(py (toD y)).bind fun b=>eqPy a b
noncomputable def cmpW(op:CmpOp)(x y:W):Option Bool:=match op with
 | .Eq=>eqW x y
 | .NotEq=>(eqW x y).map (!·)
 | op=>match x,y with
  | .sc (.int i),.sc (.int j)=>cmpI op i j
  | .sc (.int i),.nd .ftp ds=>match op with
   | .NotIn=>(Zaq ds).map fun is=>!decide (i∈is)
   | _=>none
  | .sc (.int i),.nd .lst ds=>match op with
   | .NotIn=>(Zaq ds).map fun is=>!decide (i∈is)
   | _=>none
  | _,_=>none
noncomputable def ixN'(n:Nat)(i:Int):Option Nat:=if 0<=i then (if i < n then some i.toNat else none) else if -(n:Int)<=i then some (i+n).toNat else none
noncomputable def ixW(x y:W):Option D:=match y with
 | .sc (.int i)=>match x with
  | .nd k ds=>match k with
   | .lst=>(ixN' ds.length i).bind fun j=>ds[j]?
   | .frl=>(ixN' ds.length i).bind fun j=>ds[j]?
   | .tup=>(ixN' ds.length i).bind fun j=>ds[j]?
   | .ftp=>(ixN' ds.length i).bind fun j=>ds[j]?
   | _=>none
  | _=>none
 | _=>none
noncomputable def keyD:V->Option Key
 | .int i=>some (.inl i)
 | .str x=>some (.inr x)
 | _=>none
noncomputable def ZaI{α:Type}(k:Key):List Key->List α->Option α
 | j::ks,d::ds=>if j=k then some d else ZaI k ks ds
 | _,_=>none
noncomputable def Zew{α:Type}(k:Key)(d:α):List Key->List α->Option (List Key×List α)
 | [],[]=>some ([k],[d])
 | j::ks,x::ds=>if j=k then (if (ks.any fun j=>decide (j=k))=true then none else some (j::ks,d::ds)) else (Zew k d ks ds).map fun r=>(j::r.1,x::r.2)
 | _,_=>none
noncomputable def ixD:W->W->Option D
 | .nd (.dic ks) ds,.sc v=>(keyD v).bind fun k=>ZaI k ks ds
 | _,_=>none
noncomputable def ixW2:W->W->Option D
 | .nd (.dic ks) ds,y=>ixD (.nd (.dic ks) ds) y
 | x,y=>ixW x y
noncomputable def inD(p:Bool):W->W->Option Bool
 | .sc v,.nd (.dic ks) ds=>(keyD v).map fun k=>(ZaI k ks ds).isSome == p
 | _,_=>none
noncomputable def Za2:CmpOp->W->W->Option Bool
 | .In,x,y=>inD true x y
 | .NotIn,x,.nd (.dic ks) ds=>inD false x (.nd (.dic ks) ds)
 | op,x,y=>cmpW op x y
noncomputable def Zct(f:Str):List Str->List D->Option D
 | g::fs,d::ds=>if g=f then some d else Zct f fs ds
 | _,_=>none
noncomputable def fldW(ok:Addr->Str->Bool)(f:Str):W->Option D
 | .nd (.ins C fs) ds=>if ok C f then Zct f fs ds else none
 | _=>none
noncomputable def truW:W->Option Bool
 | .sc (.bl b)=>some b
 | .sc (.int i)=>some (decide (i≠0))
 | .sc (.str x)=>if x.length<=sizeLine then some (decide (x.length≠0)) else none
 | .sc .non=>some false
 | .nd .lst ds=>some (!ds.isEmpty)
 | .nd .frl ds=>some (!ds.isEmpty)
 | .nd .tup ds=>some (!ds.isEmpty)
 | .nd .ftp ds=>some (!ds.isEmpty)
 | .nd (.dic _) ds=>some (!ds.isEmpty)
 | _=>none
noncomputable def tyW:Ty->W->Option Bool
 | .int,.sc (.int _)=>some true|.int,.sc (.bl _)=>some true|.int,.sc (.str _)=>some false|.int,.sc .non=>some false
 | .int,.nd .lst _=>some false|.int,.nd .tup _=>some false
 | .bool,.sc (.bl _)=>some true|.bool,.sc (.int _)=>some false|.bool,.sc (.str _)=>some false|.bool,.sc .non=>some false
 | .bool,.nd .lst _=>some false|.bool,.nd .tup _=>some false
 | .str,.sc (.str _)=>some true|.str,.sc (.int _)=>some false|.str,.sc (.bl _)=>some false|.str,.sc .non=>some false
 | .str,.nd .lst _=>some false|.str,.nd .tup _=>some false
 | .list,.nd .lst _=>some true|.list,.nd .tup _=>some false|.list,.sc (.int _)=>some false|.list,.sc (.bl _)=>some false|.list,.sc (.str _)=>some false|.list,.sc .non=>some false
 | .tuple,.nd .tup _=>some true|.tuple,.nd .lst _=>some false|.tuple,.sc (.int _)=>some false|.tuple,.sc (.bl _)=>some false|.tuple,.sc (.str _)=>some false|.tuple,.sc .non=>some false
 | _,_=>none
noncomputable def ZaT:List D->Option (List Bool)
 | []=>some []
 | .sc (.bl b)::r=>(ZaT r).map (b::·)
 | _=>none
noncomputable def cutD(xs:List D)(lo hi:Option Int):List D:=(xs.drop (HT.sIx xs.length 0 lo)).take (HT.sIx xs.length xs.length hi - HT.sIx xs.length 0 lo)
noncomputable def slD:W->Option Int->Option Int->Option D
 | .nd .lst ds,lo,hi=>some (.node .lst true (cutD ds lo hi))
 | .nd .frl ds,lo,hi=>some (.node .lst true (cutD ds lo hi))
 | _,_,_=>none
noncomputable def intP:W->Option (Option Int)
 | .sc (.int i)=>some (some i)
 | _=>none
noncomputable def Zcu(e:E)(c:M Op):M (Option Int):=match e with
 | .k .non=>M.ret none
 | _=>(c.bnd view).bnd fun w=>lift (intP w)
noncomputable def lenB(ws:List W):Option D:=match ws with
 | [w]=>match w with
  | .nd k ds=>match k with
   | .lst=>some (.sc (.int ds.length))
   | .frl=>some (.sc (.int ds.length))
   | .tup=>some (.sc (.int ds.length))
   | .ftp=>some (.sc (.int ds.length))
   | _=>none
  | _=>none
 | _=>none
noncomputable def strB:List W->Option D
 | [.sc (.int i)]=>if i.natAbs.log2 < 1920 then some (.sc (.str (Str.ofString (toString i)))) else none
 | _=>none
noncomputable def intB:List W->Option D
 | [.sc (.int i)]=>some (.sc (.int i))
 | [.sc (.bl b)]=>some (.sc (.int (if b then 1 else 0)))
 | [.sc (.str z)]=>match intText? z with
  | some n=>if z.length<=640 then some (.sc (.int n)) else none
  | none=>none
 | _=>none
noncomputable def ZhV(ws:List W):Option D:=match ws with
 | [w]=>match w with
  | .nd k ds=>match k with
   | .lst=>some (.node .lst true ds)
   | .frl=>some (.node .lst true ds)
   | .tup=>some (.node .lst true ds)
   | .ftp=>some (.node .lst true ds)
   | _=>none
  | _=>none
 | _=>none
noncomputable def isiB(t:Ty):List W->Option D
 | [w]=>(tyW t w).map fun b=>.sc (.bl b)
 | _=>none
noncomputable def allB:List W->Option D
 | [.nd .lst ds]=>(ZaT ds).map fun bs=>.sc (.bl (bs.all id))
 | _=>none
noncomputable def anyB:List W->Option D
 | [.nd .lst ds]=>(ZaT ds).map fun bs=>.sc (.bl (bs.any id))
 | _=>none
noncomputable def sumB:List W->Option D
 | [.nd .lst ds]=>(Zaq ds).map fun is=>.sc (.int is.sum)
 | _=>none
noncomputable def minB:List W->Option D
 | [.sc (.int i),.sc (.int j)]=>some (.sc (.int (if j < i then j else i)))
 | _=>none
noncomputable def maxB:List W->Option D
 | [.sc (.int i),.sc (.int j)]=>some (.sc (.int (if j > i then j else i)))
 | _=>none
noncomputable def ZhW(c:Str):List W->Option D
 | [.nd (.exc ns _ _) _]=>some (.sc (.bl (decide (c∈ns))))
 | _=>none
noncomputable def ZhX:List W->Option D
 | [.nd (.exc _ _ _) _]=>some (.sc (.bl true))
 | _=>none
noncomputable def ZfR:List W->Option D
 | [.nd (.exc _ true _) _,.sc _]=>some (.sc .non)
 | _=>none
noncomputable def ZhY(f:Str):List W->Option D
 | [.nd (.exc _ _ fs) ds]=>if f∈Zd6 then Zct f fs ds else none
 | _=>none
noncomputable def ZpK:List W->Option D
 | [.nd .lst ds]=>(Zaq ds).bind fun is=>match is with
  | []=>none
  | i::is=>some (.sc (.int (is.foldl (fun a b=>if b < a then b else a) i)))
 | _=>none
noncomputable def ZpL:List W->Option D
 | [.nd .lst ds]=>(Zaq ds).bind fun is=>if is.length < 64 then some (.node .lst true ((is.mergeSort fun a b=>decide (a<=b)).map fun i=>.sc (.int i))) else none
 | _=>none
noncomputable def bfW:BF->List W->Option D
 | .len,ws=>lenB ws
 | .str,ws=>strB ws
 | .int,ws=>intB ws
 | .list,ws=>ZhV ws
 | .isi t,ws=>isiB t ws
 | .all,ws=>allB ws
 | .any,ws=>anyB ws
 | .sum,ws=>sumB ws
 | .min,ws=>minB ws
 | .max,ws=>maxB ws
 | .isiX c,ws=>ZhW c ws
 | .isiV,ws=>ZhX ws
 | .xinit,ws=>ZfR ws
 | .xfld f,ws=>ZhY f ws
 | .minL,ws=>ZpK ws
 | .sorted,ws=>ZpL ws
noncomputable def rng(a b:Int):List D:=(List.range (b - a).toNat).map fun(k:Nat)=>.sc (.int (a+k))
noncomputable def okR(i:Int):Bool:=decide (-(2 ^ 62)<=i) && decide (i < 2 ^ 62)
noncomputable def Zaa:Int->List D->List D
 | _,[]=>[]
 | c,d::ds=>.node .tup false [.sc (.int c),d]::Zaa (c+1) ds
noncomputable def zipD:List D->List D->List D
 | d::ds,e::es=>.node .tup false [d,e]::zipD ds es
 | _,_=>[]
noncomputable def zipI:List W->Option (List D)
 | [.nd k ds,.nd k' es]=>if (k=.lst\/k=.frl)/\(k'=.lst\/k'=.frl) then some (zipD ds es) else none
 | _=>none
noncomputable def ZkM:List W->Option (List D)
 | [.nd k ds,.sc (.int c)]=>if (k=.lst\/k=.frl)/\okR c=true then some (Zaa c ds) else none
 | _=>none
noncomputable def ZhZ:List W->Option (List D)
 | [.sc (.int n)]=>if okR n then some (rng 0 n) else none
 | _=>none
noncomputable def Zia:List W->Option (List D)
 | [.sc (.int a),.sc (.int b)]=>if okR a && okR b then some (rng a b) else none
 | _=>none
noncomputable def rngS(a b c:Int):List Int:=(List.range (Builtin.Range.rangeSize a b c).toNat).map fun(k:Nat)=>a+k * c
noncomputable def Zib:List W->Option (List D)
 | [.sc (.int a),.sc (.int b),.sc (.int c)]=>if okR a && okR b && (decide (c≠0) && decide (-1000000<=c) && decide (c<=1000000)) then some ((rngS a b c).map fun i=>.sc (.int i)) else none
 | _=>none
noncomputable def valI:List W->Option (List D)
 | [.nd .lst ds]=>some ds
 | [.nd .frl ds]=>some ds
 | [.nd .tup ds]=>some ds
 | [.nd .ftp ds]=>some ds
 | _=>none
noncomputable def itW:IK->List W->Option (List D)
 | .zip,ws=>zipI ws
 | .enum,ws=>ZkM ws
 | .rng1,ws=>ZhZ ws
 | .rng2,ws=>Zia ws
 | .rng3,ws=>Zib ws
 | .val,ws=>valI ws
 | _,_=>none
noncomputable def holdV:Op->M (W×Option (Nat×D))
 | .tmp (.sc v)=>M.ret (.sc v,none)
 | .tmp (.node k _ ds)=>M.ret (.nd k (shrL ds),none)
 | .tmp .hole=>stk
 | .late i=>fun δ=>match δ[i]? with
  | some (.sc v)=>.ok ((.sc v,none),δ)
  | some (.node k false ds)=>.ok ((.nd k ds,none),δ)
  | some (.node k true ds)=>.ok ((.nd k (shrL ds),some (i,.node k true (shrL ds))),δ.set i .hole)
  | _=>.stuck
noncomputable def Zr:List Op->M (List W×List (Nat×D))
 | []=>M.ret ([],[])
 | p::ps=>(holdV p).bnd fun w=>(Zr ps).bnd fun ws=>M.ret (w.1::ws.1,w.2.toList++ws.2)
noncomputable def Z8:List (Nat×D)->M Unit
 | []=>M.ret ()
 | (i,d)::r=>fun δ=>Z8 r (δ.set i d)
noncomputable def walked:List E->Nat->Bool
 | [],_=>false
 | .v i::r,j=>i == j || walked r j
 | _::r,j=>walked r j
noncomputable def takeA(lend:Bool):Op->M D
 | .tmp d=>M.ret d
 | .late i=>fun δ=>match δ[i]? with
  | some (.sc v)=>.ok (.sc v,δ)
  | some (.node k false ds)=>.ok (.node k false ds,δ)
  | some (.node k true ds)=>if lend then .ok (.node k true ds,δ.set i .hole) else .ok (.node k false (shrL ds),δ.set i (.node k false (shrL ds)))
  | _=>.stuck
noncomputable def ZJ(lend:Bool):List Op->M (List D)
 | []=>M.ret []
 | p::ps=>(takeA lend p).bnd fun d=>(ZJ lend ps).bnd fun ds=>M.ret (d::ds)
noncomputable def Zav:Op->D->M Unit
 | .tmp _,_=>M.ret ()
 | .late i,d=>fun δ=>match δ[i]? with
  | some .hole=>.ok ((),δ.set i d)
  | _=>.ok ((),δ)
noncomputable def Z0:List Op->List D->M Unit
 | p::ps,d::ds=>(Zav p d).bnd fun _=>Z0 ps ds
 | _,_=>M.ret ()
noncomputable def ZaU(fi:FI)(ps:List Op):M D:=(ZJ fi.lend ps).bnd fun ds=>match fi.run ds with
 | .ok (d,ds')=>(Z0 ps ds').bnd fun _=>M.ret d
 | .exc _ _=>stk
 | .stuck=>stk
noncomputable def ZbE(fi:FI)(ps:List Op):M D:=(ZJ fi.lend ps).bnd fun ds=>match fi.run ds with
 | .ok (d,ds')=>(Z0 ps ds').bnd fun _=>M.ret d
 | .exc x ds'=>fun δ=>match Z0 ps ds' δ with
  | .ok (_,δ')=>.exc x δ'
  | _=>.stuck
 | .stuck=>stk
noncomputable def chkI(A:Addr)(m:Str):Op->M Unit
 | .late i=>fun δ=>match δ[i]? with
  | some (.node (.ins B fs) _ _)=>if B=A/\m∉fs then .ok ((),δ) else .stuck
  | _=>.stuck
 | .tmp (.node (.ins B fs) _ _)=>fun δ=>if B=A/\m∉fs then .ok ((),δ) else .stuck
 | _=>stk
noncomputable def newF(C:Addr)(fi:FI)(ps:List Op):M D:=(ZJ fi.lend ps).bnd fun ds=>match fi.run (.node (.ins C []) true []::ds) with
 | .ok (.sc .non,d::ds')=>(Z0 ps ds').bnd fun _=>M.ret d
 | .ok _=>stk
 | .exc _ _=>stk
 | .stuck=>stk
noncomputable def newX(ns:List Str)(fi:FI)(ps:List Op):M D:=if 1000 < ps.length then stk else (ZJ fi.lend ps).bnd fun ds=>match fi.run (.node (.exc ns true []) true []::ds) with
 | .ok (.sc .non,d::ds')=>(Z0 ps ds').bnd fun _=>M.ret d
 | .ok _=>stk
 | .exc _ _=>stk
 | .stuck=>stk
noncomputable def Zbc{α:Type}:D->M α
 | .node (.exc ns true fs) true ds=>fun δ=>.exc (.node (.exc ns false fs) true ds) δ
 | _=>stk
noncomputable def asgN(lock:Nat->Bool)(i:Nat)(d:D):M Unit:=fun δ=>if i < δ.length && !lock i then .ok ((),δ.set i d) else .stuck
noncomputable def Zbh(lock:Nat->Bool):List Nat->List D->M Unit
 | [],[]=>M.ret ()
 | i::is,d::ds=>(asgN lock i d).bnd fun _=>Zbh lock is ds
 | _,_=>stk
noncomputable def asgT(lock:Nat->Bool):Tg->D->M Unit
 | .name i,d=>asgN lock i d
 | .tup is,.node .tup _ ds=>Zbh lock is ds
 | .tup _,_=>stk
noncomputable def modS(i:Nat)(f:Kd->List D->Option (D×Kd×List D)):M D:=fun δ=>match δ[i]? with
 | some (.node k true ds)=>match f k ds with
  | some (r,k',ds')=>.ok (r,δ.set i (.node k' true ds'))
  | none=>.stuck
 | _=>.stuck
noncomputable def mutE(ws:List W)(ds:List D):Option (D×Kd×List D):=match ws with
 | [.nd .lst es]=>if ds.length+es.length<=sizeLine then some (.sc .non,.lst,ds++es) else none
 | _=>none
noncomputable def mutP(ws:List W)(ds:List D):Option (D×Kd×List D):=match ws with
 | [.sc (.int i)]=>if -(2 ^ 63)<=i/\i < 2 ^ 63 then (ixN' ds.length i).bind fun j=>ds[j]?.map fun d=>(d,.lst,ds.eraseIdx j) else none
 | _=>none
noncomputable def mut0(ws:List W)(r:Option (D×Kd×List D)):Option (D×Kd×List D):=match ws with
 | []=>r
 | _=>none
noncomputable def mutD(m:MM)(ws:List W)(k:Kd)(ds:List D):Option (D×Kd×List D):=match k with
 | .lst=>match m with
  | .extend=>mutE ws ds
  | .pop=>mut0 ws (ds.getLast?.map fun d=>(d,.lst,ds.dropLast))
  | .popAt=>mutP ws ds
  | .reverse=>mut0 ws (some (.sc .non,.lst,ds.reverse))
  | .clear=>mut0 ws (some (.sc .non,.lst,[]))
  | _=>none
 | _=>none
noncomputable def appD(d:D):Kd->List D->Option (D×Kd×List D)
 | .lst,ds=>if ds.length < sizeLine then some (.sc .non,.lst,ds++[d]) else none
 | _,_=>none
noncomputable def appM(i:Nat):List D->M D
 | [d]=>modS i (appD d)
 | _=>stk
noncomputable def chkL(i:Nat):M Unit:=fun δ=>match δ[i]? with
 | some (.node .lst _ _)=>.ok ((),δ)
 | _=>.stuck
noncomputable def setD(w:W)(d:D):Kd->List D->Option (D×Kd×List D)
 | .lst,ds=>match w with
  | .sc (.int i)=>(ixN' ds.length i).map fun j=>(.sc .non,.lst,ds.set j d)
  | _=>none
 | _,_=>none
noncomputable def Zcv(w:W)(d:D):Kd->List D->Option (D×Kd×List D)
 | .dic ks,ds=>match w with
  | .sc v=>if ds.length < sizeLine then (keyD v).bind fun k=>(Zew k d ks ds).map fun r=>(.sc .non,.dic r.1,r.2) else none
  | _=>none
 | k,ds=>setD w d k ds
noncomputable def putN(f:Str):List Str->List Str
 | []=>[f]
 | g::r=>if g=f then g::r else g::putN f r
noncomputable def putV{α:Type}(f:Str)(d:α):List Str->List α->List α
 | g::r,x::ds=>if g=f then d::ds else x::putV f d r ds
 | _,_=>[d]
noncomputable def putD(ok:Addr->Str->Bool)(f:Str)(d:D):Kd->List D->Option (D×Kd×List D)
 | .ins C fs,ds=>if fs.length < 1000/\ok C f=true then some (.sc .non,.ins C (putN f fs),putV f d fs ds) else none
 | _,_=>none
noncomputable def putX(f:Str)(d:D):Kd->List D->Option (D×Kd×List D)
 | .exc ns fr fs,ds=>if fs.length < 1000/\f∈Zd6 then some (.sc .non,.exc ns fr (putN f fs),putV f d fs ds) else none
 | _,_=>none
structure Ctx where
 lock:Nat->Bool
 fok:Addr->Str->Bool
 fuel:Nat
noncomputable def Zc9:List Nat->M (List D)
 | []=>M.ret []
 | j::js=>fun δ=>match δ[j]? with
  | some d=>((Zc9 js).bnd fun ds=>M.ret (d::ds)) (δ.set j .hole)
  | none=>.stuck
noncomputable def Zbn:List Nat->List D->M Unit
 | j::js,d::ds=>fun δ=>Zbn js ds (δ.set j d)
 | _,_=>M.ret ()
noncomputable def ZH(asg:D->M Unit)(cond:M Bool)(elt:M D):List D->List D->M (List D)
 | [],acc=>M.ret acc
 | d::ds,acc=>(asg d).bnd fun _=>cond.bnd fun b=>if b then elt.bnd fun x=>ZH asg cond elt ds (acc++[x]) else ZH asg cond elt ds acc
noncomputable def Zab(k:Nat)(js:List Nat)(loop:M (List D)):M D:=(Zc9 js).bnd fun caps δ=>match loop (replicate k .hole++caps) with
 | .ok (acc,δ')=>((Zbn js (δ'.drop k)).bnd fun _=>lift (newL acc)) δ
 | .exc _ _=>.stuck
 | .stuck=>.stuck
noncomputable def fmtD:V->Option Str
 | .int i=>if i.natAbs.log2 < 1920 then some (Str.ofString (toString i)) else none
 | .str x=>some x
 | .non=>some (Str.ofString "None")
 | _=>none
noncomputable def fmtW(acc:Str):W->Option Str
 | .sc v=>(fmtD v).bind fun z=>if z.length<=sizeLine/\(acc++z).length<=sizeLine then some (acc++z) else none
 | _=>none
noncomputable def isNW(p:Bool):W->D
 | .sc v=>.sc (.bl (decide (v=.non) == p))
 | .nd _ _=>.sc (.bl (!p))
noncomputable def negW:W->Option D
 | .sc (.int i)=>some (.sc (.int (-i)))
 | _=>none
noncomputable def notW:W->Option D
 | .sc (.bl t)=>some (.sc (.bl (!t)))
 | _=>none
noncomputable def andM(b:M D):W->M D
 | .sc (.bl true)=>b
 | .sc (.bl false)=>M.ret (.sc (.bl false))
 | _=>stk
noncomputable def orM(b:M D):W->M D
 | .sc (.bl false)=>b
 | .sc (.bl true)=>M.ret (.sc (.bl true))
 | _=>stk
noncomputable def Zcw(c:M D):M Bool:=c.bnd fun d=>lift (match d with|.sc (.bl b)=>some b|_=>none)
noncomputable def tdef(e:E)(c:M D):M Bool:=(Zn e c).bnd fun p=>(view p).bnd fun w=>lift (truW w)
noncomputable def vdef(e:E)(c:M D):M W:=(Zn e c).bnd view
noncomputable def borV(c:M D):M D:=fun δ=>match c (shrL δ) with
 | .ok (.sc v,_)=>.ok (.sc v,δ)
 | _=>.stuck
noncomputable def chkD(i:Nat):M Unit:=fun δ=>match δ[i]? with
 | some (.node k _ _)=>match k with
  | .dic _=>.ok ((),δ)
  | _=>.stuck
 | _=>.stuck
noncomputable def ZkN:D->Bool
 | .sc _=>true
 | .node _ o _=>!o
 | .hole=>false
noncomputable def ZpM(dk dv:D)(kd:Kd)(ds:List D):Option (D×Kd×List D):=match kd with
 | .dic ks=>match dk with
  | .sc v=>match keyD v with
   | some k=>match ZaI k ks ds with
    | some x=>if ZkN x then some (x,.dic ks,ds) else none
    | none=>if ZkN dv && decide (ds.length < sizeLine) then (Zew k dv ks ds).map fun r=>(dv,.dic r.1,r.2) else none
   | none=>none
  | _=>none
 | _=>none
noncomputable def ZpN(i:Nat)(ck cv:M D):M D:=(chkD i).bnd fun _=>ck.bnd fun dk=>cv.bnd fun dv=>modS i (ZpM dk dv)
noncomputable def ZpO(w:W):Option D:=match w with
 | .nd k ds=>match k with
  | .dic _=>some (.node .lst true ds)
  | _=>none
 | _=>none
noncomputable def ZkO(i:Nat):M D:=(view (.late i)).bnd fun w=>lift (ZpO w)
noncomputable def ZiQ(is:List Int):Str:=(PyData.list (is.map PyData.int)).shown
noncomputable def ZpP(z:Str)(w:W):Option D:=match w with
 | .nd k ds=>match k with
  | .lst=>(Zaq ds).bind fun is=>if (ZiQ is).length<=1000/\z.length<=1000/\(PyData.list (is.map PyData.int)).showable=true then some (.sc (.str (z++ZiQ is))) else none
  | _=>none
 | _=>none
mutual
noncomputable def evb(C:Ctx):E->M D×M Bool
 | .k v=>let c:M D:=M.ret (.sc v);(c,tdef (.k v) c)
 | .g d=>let c:M D:=M.ret d;(c,tdef (.g d) c)
 | .v i=>(valV i,tdef (.v i) (valV i))
 | .bin op a b=>
  let c:M D:=(Zn a (evb C a).1).bnd fun p=>(Zn b (evb C b).1).bnd fun q=>(view p).bnd fun x=>(view q).bnd fun y=>lift (binW op x y)
  (c,tdef (.bin op a b) c)
 | .neg a=>
  let c:M D:=(vdef a (evb C a).1).bnd fun x=>lift (negW x)
  (c,tdef (.neg a) c)
 | .cmp op a b=>
  let c:M D:=(Zn a (evb C a).1).bnd fun p=>(Zn b (evb C b).1).bnd fun q=>(view p).bnd fun x=>(view q).bnd fun y=>lift ((Za2 op x y).map fun t=>.sc (.bl t))
  (c,Zcw c)
 | .chain op op' a b e=>
  let c:M D:=(Zn a (evb C a).1).bnd fun p=>(Zn b (evb C b).1).bnd fun q=>(view p).bnd fun x=>(view q).bnd fun y=>(lift (cmpW op x y)).bnd fun t=>if t then (Zn e (evb C e).1).bnd fun r=>(view q).bnd fun y=>(view r).bnd fun z=>lift ((cmpW op' y z).map fun t=>.sc (.bl t)) else M.ret (.sc (.bl false))
  (c,Zcw c)
 | .isN p a=>
  let c:M D:=(vdef a (evb C a).1).bnd fun x=>M.ret (isNW p x)
  (c,tdef (.isN p a) c)
 | .nt a=>((vdef a (evb C a).1).bnd fun w=>lift (notW w),(evb C a).2.bnd fun b=>M.ret (!b))
 | .and a b=>((vdef a (evb C a).1).bnd (andM (evb C b).1),(evb C a).2.bnd fun t=>if t then (evb C b).2 else M.ret false)
 | .or a b=>((vdef a (evb C a).1).bnd (orM (evb C b).1),(evb C a).2.bnd fun t=>if t then M.ret true else (evb C b).2)
 | .ix a i=>
  let c:M D:=(Zn a (evb C a).1).bnd fun p=>(Zn i (evb C i).1).bnd fun q=>(view p).bnd fun x=>(view q).bnd fun y=>lift (ixW2 x y)
  (c,tdef (.ix a i) c)
 | .sl a lo hi=>
  let c:M D:=(Zn a (evb C a).1).bnd fun p=>(Zcu lo (Zn lo (evb C lo).1)).bnd fun l=>(Zcu hi (Zn hi (evb C hi).1)).bnd fun h=>(view p).bnd fun x=>lift (slD x l h)
  (c,tdef (.sl a lo hi) c)
 | .fld a f=>
  let c:M D:=(vdef a (evb C a).1).bnd fun x=>lift (fldW C.fok f x)
  (c,tdef (.fld a f) c)
 | .lst es=>
  let c:M D:=(evs C es).bnd fun ds=>lift (newL ds)
  (c,tdef (.lst es) c)
 | .tup es=>
  let c:M D:=(evs C es).bnd fun ds=>lift (newT ds)
  (c,tdef (.tup es) c)
 | .kl vs=>
  let c:M D:=lift (newL (vs.map D.sc))
  (c,tdef (.kl vs) c)
 | .dct0=>
  let c:M D:=M.ret (.node (.dic []) true [])
  (c,tdef .dct0 c)
 | .call f es=>
  let c:M D:=(opds C es).bnd fun ps=>ZaU f ps
  (c,tdef (.call f es) c)
 | .bf f es=>
  let c:M D:=(opds C es).bnd fun ps=>(views ps).bnd fun ws=>lift (bfW f ws)
  (c,tdef (.bf f es) c)
 | .mut m i ps es=>
  let c:M D:=match m,ps with
   | .append,[]=>(chkL i).bnd fun _=>(evs C es).bnd fun ds=>appM i ds
   | m,[]=>(chkL i).bnd fun _=>(opds C es).bnd fun ps=>(views ps).bnd fun ws=>modS i (mutD m ws)
   | _,_=>stk
  (c,tdef (.mut m i ps es) c)
 | .meth A m f o es=>
  let c:M D:=(Zn o (evb C o).1).bnd fun p=>(chkI A m p).bnd fun _=>(opds C es).bnd fun ps=>ZaU f (p::ps)
  (c,tdef (.meth A m f o es) c)
 | .new A f es=>
  let c:M D:=(opds C es).bnd fun ps=>newF A f ps
  (c,tdef (.new A f es) c)
 | .comp k js tg ik ies cond elt=>
  let C':Ctx:={ C with lock:=fun i=>decide (k<=i) }
  let loop (items:List D):M (List D):=ZH (asgT C'.lock tg) (tsts C' cond) (evb C' elt).1 items []
  let c:M D:=(opds C ies).bnd fun ps=>(Zr ps).bnd fun h=>(lift (itW ik h.1)).bnd fun items=>(Zab k js (loop items)).bnd fun d=>(Z8 h.2).bnd fun _=>M.ret d
  (c,tdef (.comp k js tg ik ies cond elt) c)
 | .fs es=>
  let c:M D:=fss C es Str.empty
  (c,tdef (.fs es) c)
 | .bor e=>
  let c:M D:=borV (evb C e).1
  (c,tdef (.bor e) c)
 | .sdef i k v=>
  let c:M D:=ZpN i (evb C k).1 (evb C v).1
  (c,tdef (.sdef i k v) c)
 | .dvals i=>(ZkO i,tdef (.dvals i) (ZkO i))
 | .fsL z e=>
  let c:M D:=(vdef e (evb C e).1).bnd fun w=>lift (ZpP z w)
  (c,tdef (.fsL z e) c)
noncomputable def fss(C:Ctx):List E->Str->M D
 | [],acc=>M.ret (.sc (.str acc))
 | e::es,acc=>(vdef e (evb C e).1).bnd fun w=>(lift (fmtW acc w)).bnd fun acc'=>fss C es acc'
noncomputable def opds(C:Ctx):List E->M (List Op)
 | []=>M.ret []
 | e::es=>(Zn e (evb C e).1).bnd fun p=>(opds C es).bnd fun ps=>M.ret (p::ps)
noncomputable def evs(C:Ctx):List E->M (List D)
 | []=>M.ret []
 | e::es=>(evb C e).1.bnd fun p=>(evs C es).bnd fun ps=>M.ret (p::ps)
noncomputable def tsts(C:Ctx):List E->M Bool
 | []=>M.ret true
 | e::es=>(evb C e).2.bnd fun b=>if b then tsts C es else M.ret false
end
noncomputable abbrev ev(C:Ctx)(e:E):M D:=(evb C e).1
noncomputable abbrev tst(C:Ctx)(e:E):M Bool:=(evb C e).2
noncomputable def clmR{α:Type}:Rs (α×List D)->Rs (α×List D)
 | .ok r=>.ok r
 | _=>.stuck
noncomputable def clm{α:Type}(c:M α):M α:=fun δ=>clmR (c δ)
noncomputable def makX(A:Addr)(fi:FI)(ps:List Op):M D:=(ZJ fi.lend ps).bnd fun ds=>match fi.run (.node (.ins A []) true []::ds) with
 | .ok (.sc .non,d::ds')=>(Z0 ps ds').bnd fun _=>M.ret d
 | .exc x (_::ds')=>fun δ=>match Z0 ps ds' δ with
  | .ok (_,δ')=>.exc x δ'
  | _=>.stuck
 | _=>stk
noncomputable def yev(C:Ctx):YE->M D
 | .meth A m f o es=>(clm (Zn o (evb C o).1)).bnd fun p=>(chkI A m p).bnd fun _=>(clm (opds C es)).bnd fun ps=>ZbE f (p::ps)
 | .new A f es=>(clm (opds C es)).bnd fun ps=>makX A f ps
inductive Fl where
 | nx|rt (d:D)|bk|ct
noncomputable def forL(asg:D->M Unit)(body:M Fl):List D->M Fl
 | []=>M.ret .nx
 | d::ds=>(asg d).bnd fun _=>body.bnd fun f=>match f with
  | .nx=>forL asg body ds
  | .ct=>forL asg body ds
  | .bk=>M.ret .nx
  | .rt x=>M.ret (.rt x)
noncomputable def movV(i:Nat):M D:=fun δ=>match δ[i]? with
 | some (.sc v)=>.ok (.sc v,δ)
 | some (.node k o ds)=>.ok (.node k o ds,δ.set i .hole)
 | _=>.stuck
noncomputable def retV(C:Ctx)(e:E):M D:=match e with
 | .v i=>if C.lock i then valV i else movV i
 | e=>ev C e
noncomputable def seqL(c:M Fl)(r:M Fl):M Fl:=c.bnd fun f=>match f with
 | .nx=>r
 | f=>M.ret f
noncomputable def unpM(lock:Nat->Bool)(is:List Nat):W->M Unit
 | .nd .tup ds=>Zbh lock is ds
 | .nd .lst ds=>Zbh lock is ds
 | _=>stk
noncomputable def finB(h:List (Nat×D)):Rs (Fl×List D)->Rs (Fl×List D)
 | .ok (f,δ)=>((Z8 h).bnd fun _=>M.ret f) δ
 | .exc x δ=>(match Z8 h δ with
  | .ok (_,δ')=>.exc x δ'
  | _=>.stuck)
 | .stuck=>.stuck
noncomputable def hits(c:Str):D->Bool
 | .node (.exc ns false _) true _=>decide (c∈ns)
 | _=>false
noncomputable def ZcN(i:Nat):Rs (Fl×List D)->Rs (Fl×List D)
 | .ok (f,δ)=>.ok (f,δ.set i .hole)
 | .exc _ _=>.stuck
 | .stuck=>.stuck
noncomputable def tryM(lock:Nat->Bool)(body:M Fl)(c:Str)(nm:Option Nat)(suite:M Fl):M Fl:=fun δ=>match body δ with
 | .ok r=>.ok r
 | .stuck=>.stuck
 | .exc x δ'=>if hits c x then (match nm with
  | none=>(match suite δ' with
   | .exc _ _=>.stuck
   | r=>r)
  | some i=>if i < δ'.length && !lock i then ZcN i (suite (δ'.set i x)) else .stuck) else .stuck
noncomputable def frzX(c:Str):D->Option D
 | .node (.exc ns false []) true []=>if c∈ns then some (.node (.exc ns false []) false []) else none
 | _=>none
noncomputable def ZcO(lock:Nat->Bool)(body:M Fl)(c:Str)(i:Nat)(suite:M Fl):M Fl:=fun δ=>match body δ with
 | .ok r=>.ok r
 | .stuck=>.stuck
 | .exc x δ'=>match frzX c x with
  | some d=>if i < δ'.length && !lock i then ZcN i (suite (δ'.set i d)) else .stuck
  | none=>.stuck
noncomputable def excR(k:M Fl)(δ:List D):Rs (D×List D)->Rs (Fl×List D)
 | .exc x δ'=>.exc x δ'
 | _=>k δ
noncomputable def ZpQ(c:M D)(k:M Fl):M Fl:=fun δ=>excR k δ (c δ)
mutual
noncomputable def ex(C:Ctx):S->M Fl
 | .asg i e=>(ev C e).bnd fun d=>(asgN C.lock i d).bnd fun _=>M.ret .nx
 | .unp is e=>(vdef e (ev C e)).bnd fun w=>(unpM C.lock is w).bnd fun _=>M.ret .nx
 | .sub i ps ix e=>match ps with
  | []=>(ev C e).bnd fun d=>(ZR i).bnd fun _=>(vdef ix (ev C ix)).bnd fun w=>(modS i (Zcv w d)).bnd fun _=>M.ret .nx
  | _=>stk
 | .attr i f e=>(ev C e).bnd fun d=>(ZR i).bnd fun _=>(modS i (putD C.fok f d)).bnd fun _=>M.ret .nx
 | .ex e=>(ev C e).bnd fun _=>M.ret .nx
 | .ret e=>(retV C e).bnd fun d=>M.ret (.rt d)
 | .iff c a b=>(tst C c).bnd fun t=>if t then exs C a else exs C b
 | .for_ tg ik ies body=>
  let lk:Nat->Bool:=fun j=>C.lock j || walked ies j
  (opds C ies).bnd fun ps=>(Zr ps).bnd fun h=>(lift (itW ik h.1)).bnd fun items=>(forL (asgT lk tg) (exs { C with lock:=lk } body) items).bnd fun f=>(Z8 h.2).bnd fun _=>M.ret f
 | .pass=>M.ret .nx
 | .brk=>M.ret .bk
 | .cnt=>M.ret .ct
 | .raise _=>stk
 | .asgY i y=>(yev C y).bnd fun d=>(asgN C.lock i d).bnd fun _=>M.ret .nx
 | .exY y=>(yev C y).bnd fun _=>M.ret .nx
 | .exX f es=>((clm (opds C es)).bnd fun ps=>ZbE f ps).bnd fun _=>M.ret .nx
 | .raise0 ns=>Zbc (.node (.exc ns true []) true [])
 | .raiseI ns f es=>((clm (opds C es)).bnd fun ps=>newX ns f ps).bnd Zbc
 | .attrX i f e=>(ev C e).bnd fun d=>(ZR i).bnd fun _=>(modS i (putX f d)).bnd fun _=>M.ret .nx
 | .forX tg ik ies body=>
  let lk:Nat->Bool:=fun j=>C.lock j || walked ies j
  (clm (opds C ies)).bnd fun ps=>(Zr ps).bnd fun h=>(lift (itW ik h.1)).bnd fun items δ=>finB h.2 (forL (asgT lk tg) (exs { C with lock:=lk } body) items δ)
 | .try_ body c nm suite=>tryM C.lock (exs C body) c nm (exs C suite)
 | .tryF body c i suite=>ZcO C.lock (exs C body) c i (exs C suite)
 | .lf s=>clm (ex C s)
 | .forY tg ies y body=>
  let lk:Nat->Bool:=fun j=>C.lock j || walked ies j
  ZpQ (yev C y) ((clm (opds C ies)).bnd fun ps=>(Zr ps).bnd fun h=>(lift (itW .val h.1)).bnd fun items δ=>finB h.2 (forL (asgT lk tg) (exs { C with lock:=lk } body) items δ))
 | .ifX c a b=>(clm (tst C c)).bnd fun t=>if t then exs C a else exs C b
noncomputable def exs(C:Ctx):List S->M Fl
 | []=>M.ret .nx
 | s::r=>seqL (ex C s) (exs C r)
end
noncomputable def Zch(n:Nat):Rs (Fl×List D)->Rs (D×List D)
 | .ok (.rt d,δ)=>.ok (d,δ.take n)
 | .ok (.nx,δ)=>.ok (.sc .non,δ.take n)
 | .ok _=>.stuck
 | .exc x δ=>.exc x (δ.take n)
 | .stuck=>.stuck
noncomputable def Zh(C:Ctx)(n N:Nat)(body:List S)(ds:List D):Rs (D×List D):=
 if ds.length=n then Zch n (exs { C with lock:=fun i=>decide (i < n) } body (ds++replicate (N - n) .hole)) else .stuck
inductive Sep{α:Type}(R:α->D->Bud->Prop):List α->List D->Bud->Prop
 | nil (m:Bud):Sep R [] [] m
 | cons {a:α} {d:D} {as:List α} {ds:List D} {m1 m2 m:Bud}:R a d m1->Sep R as ds m2->(∀ b,m1 b+m2 b<=m b)->Sep R (a::as) (d::ds) m
theorem RepL.sep:∀{vs:List V}{ds:List D}{m:Bud},RepL K H Hs vs ds m->Sep (Rep K H Hs) vs ds m
 | _,_,_,.nil _=>.nil _
 | _,_,_,.cons a b c=>.cons a b.sep c
termination_by structural a=>a
theorem Sep.repL:∀{vs:List V}{ds:List D}{m:Bud},Sep (Rep K H Hs) vs ds m->RepL K H Hs vs ds m
 | _,_,_,.nil _=>.nil _
 | _,_,_,.cons a b c=>.cons a b.repL c
termination_by structural a=>a
section
variable{β:Type}{R R':α->D->Bud->Prop}
theorem Sep.length:∀{as:List α}{ds:List D}{m:Bud},Sep R as ds m->as.length=ds.length
 | _,_,_,.nil _=>rfl
 | _,_,_,.cons _ b _=>by rw [length_cons,length_cons,b.length]
termination_by structural a=>a
theorem Sep.mono(h:Sep R as ds m)(l:∀ b,m b<=m' b):Sep R as ds m':=by
 cases h with
 | nil=>exact .nil _
 | cons a b c=>exact .cons a b fun x=>le_trans (c x) (l x)
theorem Sep.imp:∀{as:List α}{ds:List D}{m:Bud},(∀ a d m',(∀ b,m' b<=m b)->R a d m'->R' a d m')->Sep R as ds m->Sep R' as ds m
 | _,_,_,_,.nil _=>.nil _
 | _,_,m,f,.cons (m1:=m1) (m2:=m2) x y c=>.cons (f _ _ _ (fun b=>by have:=c b;omega) x) (y.imp fun a d m' l=>f a d m' fun b=>by have:=c b;have:=l b;(try dsimp only at *);omega) c
termination_by structural a=>a
theorem Sep.focus:∀{as:List α}{ds:List D}{m:Bud}{i:Nat}{d:D},Sep R as ds m->ds[i]?=some d->∃(a:α)(m1 m2:Bud),as[i]?=some a/\R a d m1/\(∀ b,m1 b+m2 b<=m b)/\
 ∀(R':α->D->Bud->Prop)(a':α)(d':D)(m':Bud),(∀ a d m',(∀ b,m' b<=m2 b)->R a d m'->R' a d m')->R' a' d' m'->Sep R' (as.set i a') (ds.set i d') (fun b=>m' b+m2 b)
 | _,_,_,_,_,.nil _,h=>by simp at h
 | _,_,m,0,_,.cons (a:=a) (m1:=m1) (m2:=m2) x y c,h=>by
  (simp only [List.getElem?_cons_zero,Option.some.injEq] at h)
  subst h
  exact ⟨a,m1,m2,rfl,x,c,fun R' a' d' m' f x'=>.cons x' (y.imp f) fun b=>Nat.le_refl _⟩
 | _,_,m,i+1,d,.cons (a:=a) (m1:=m1) (m2:=m2) x y c,h=>by
  obtain ⟨a',n1,n2,e,r,l,f⟩:=Sep.focus (i:=i) y (by simpa using h)
  refine ⟨a',n1,fun b=>m1 b+n2 b,by simpa using e,r,fun b=>by have:=c b;have:=l b;(try dsimp only at *);omega,fun R' a'' d'' m' g x'=>?_⟩
  have q:=f R' a'' d'' m' (fun a d m' l'=>g a d m' fun b=>by have:=l' b;(try dsimp only at *);omega) x'
  exact .cons (m2:=fun b=>m' b+n2 b) (g _ _ _ (fun b=>by (try dsimp only at *);omega) x) q fun b=>by (try dsimp only at *);omega
theorem Sep.append:∀{as bs:List α}{ds es:List D}{m1 m2:Bud},Sep R as ds m1->Sep R bs es m2->Sep R (as++bs) (ds++es) (fun b=>m1 b+m2 b)
 | _,_,_,_,_,_,.nil _,y=>y.mono fun b=>by (try dsimp only at *);omega
 | _,_,_,_,_,m2,.cons (m2:=n2) x y c,z=>.cons (m2:=fun b=>n2 b+m2 b) x (y.append z) fun b=>by have:=c b;omega
termination_by structural a=>a
def Sep.get{as:List α}{m:Bud}{i:Nat}{d:D}(h:Sep R as ds m)(e:ds[i]?=some d):∃(a:α)(m1:Bud),as[i]?=some a/\R a d m1/\∀ b,m1 b<=m b:=by
 obtain ⟨a,m1,m2,e,r,l,_⟩:=h.focus e
 exact ⟨a,m1,e,r,fun b=>by have:=l b;omega⟩
theorem Sep.split:∀{as:List α}{ds es:List D}{m:Bud},Sep R as (ds++es) m->∃(a1 a2:List α)(m1 m2:Bud),as=a1++a2/\Sep R a1 ds m1/\Sep R a2 es m2/\∀ b,m1 b+m2 b<=m b
 | as,[],es,m,h=>⟨[],as,fun _=>0,m,rfl,.nil _,h,fun b=>by (try dsimp only at *);omega⟩
 | _,d::ds,es,m,.cons (a:=a) (m1:=m1) x y c=>by
  obtain ⟨a1,a2,n1,n2,e,p,q,l⟩:=Sep.split (ds:=ds) (es:=es) y
  subst e
  exact ⟨a::a1,a2,fun b=>m1 b+n1 b,n2,rfl,.cons x p fun b=>Nat.le_refl _,q,fun b=>by have:=c b;have:=l b;(try dsimp only at *);omega⟩
def Sep.take(h:Sep R as ds m)(n:Nat):Sep R (as.take n) (ds.take n) m:=by
 have e:ds.take n++ds.drop n=ds:=List.take_append_drop n ds
 rw [<- e] at h
 obtain ⟨a1,a2,m1,m2,q,p,p',l⟩:=h.split
 have hl:=p.length
 have hd:=h.length
 subst q
 have:(a1++a2).take n=a1:=by
  by_cases hn:n<=ds.length
  . rw [List.take_left' (by rw [hl,length_take];omega)]
  . have e2:a2=[]:=by
     have:=p'.length
     rw [length_drop] at this
     exact List.length_eq_zero_iff.mp (by (try dsimp only at *);omega)
    rw [e2,append_nil]
    exact List.take_of_length_le (by rw [hl,length_take];omega)
 rw [this]
 exact p.mono fun b=>by have:=l b;omega
def Sep.drop(h:Sep R as ds m)(n:Nat):Sep R (as.drop n) (ds.drop n) m:=by
 have e:ds.take n++ds.drop n=ds:=List.take_append_drop n ds
 rw [<- e] at h
 obtain ⟨a1,a2,m1,m2,q,p,p',l⟩:=h.split
 have hl:=p.length
 subst q
 have:(a1++a2).drop n=a2:=by
  by_cases hn:n<=ds.length
  . rw [List.drop_left' (by rw [hl,length_take];omega)]
  . have e2:a2=[]:=by
     have:=p'.length
     rw [length_drop] at this
     exact List.length_eq_zero_iff.mp (by (try dsimp only at *);omega)
    rw [e2,append_nil]
    exact List.drop_of_length_le (by rw [hl,length_take];omega)
 rw [this]
 exact p'.mono fun b=>by have:=l b;omega
end
section
mutual
theorem Rep.share(g:Same Hs Hs'):∀{v:V}{d:D}{m:Bud},(∀ b,m b≥1->H b≠none->Hs' b=H b)->Rep K H Hs v d m->Rep K H Hs' v (shr d) (fun _=>0)
 | _,_,_,_,.sc v _=>.sc v _
 | _,_,_,_,.hole v _=>.hole v _
 | _,_,m,k,.own (a:=a) (m':=m') n r h=>by
  have h1:m a≥1:=by have:=h a;simp only [one,if_pos] at this;omega
  refine .shd (ZaH.r (n.eq (k a h1 n.at))) (RepL.share g (fun b hb=>k b ?_) r)
  have:=h b
  omega
 | _,_,_,_,.shd n r=>.shd (n.same g) (RepL.share g (fun b hb=>absurd hb (by simp)) r)
termination_by structural _ a=>a
theorem RepL.share(g:Same Hs Hs'):∀{vs:List V}{ds:List D}{m:Bud},(∀ b,m b≥1->H b≠none->Hs' b=H b)->RepL K H Hs vs ds m->RepL K H Hs' vs (shrL ds) (fun _=>0)
 | _,_,_,_,.nil _=>.nil _
 | _,_,m,k,.cons x y h=>by
  refine .cons (Rep.share g (fun b hb=>k b ?_) x) (RepL.share g (fun b hb=>k b ?_) y) fun b=>Nat.le_refl _
  . have:=h b;omega
  . have:=h b;omega
termination_by structural _ a=>a
end
noncomputable def shH(H Hs:Hp)(m:Bud):Hp:=fun b=>if m b≥1 then H b else Hs b
def Zbk{M:Bud}{m:Bud}(g:Good H Hs M)(l:∀ b,m b<=M b):Same Hs (shH H Hs m):=fun b o e=>by
 unfold shH
 split
 . exact g.sub b o e
 . exact e
def ZcA:∀ b,m b≥1->H b≠none->shH H Hs m b=H b:=fun b h _=>if_pos h
def Good.share{m M:Bud}(g:Good H Hs (fun b=>m b+M b)):Good H (shH H Hs m) M where
 sub:=fun b o e=>by
  unfold shH at e
  split at e
  . exact e
  . exact g.sub b o e
 le:=fun b=>by have:m b+M b<=1:=g.le b;omega
 ne:=fun b h=>by
  have:m b+M b<=1:=g.le b
  unfold shH
  rw [if_neg (by (try dsimp only at *);omega)]
  exact g.ne b (by show m b+M b=1;omega)
 has:=fun b h=>by
  have:m b+M b<=1:=g.le b
  exact g.has b (by show m b+M b=1;omega)
def Stp.share{m M:Bud}(g:Good H Hs (fun b=>m b+M b)):Stp H Hs (fun b=>m b+M b) H (shH H Hs m) M where
 keep:=fun _ _ h _=>h
 own:=fun b h=>.inl (by have:m b+M b<=1:=g.le b;show m b+M b=1;omega)
 grow:=Zbk g fun b=>by (try dsimp only at *);omega
 shr:=fun b h h'=>by
  unfold shH at h'
  split at h'
  . have:m b+M b<=1:=g.le b
    exact .inl (by show m b+M b=1;omega)
  . exact absurd h h'
 stay:=fun _ h=>h
end
def RepO(K:Fg)(H Hs:Hp)(o:Option V)(d:D)(m:Bud):Prop:=d=.hole\/∃ v,o=some v/\Rep K H Hs v d m
abbrev RepS(K:Fg)(H Hs:Hp)(σ:St)(δ:List D)(m:Bud):Prop:=Sep (RepO K H Hs) σ δ m
section
def RepO.frame(g:Same Hs Hs')(k:∀ b,m b≥1->H b≠none->H' b=H b)(h:RepO K H Hs o d m):RepO K H' Hs' o d m:=by
 rcases h with h|⟨v,e,r⟩
 . exact .inl h
 . exact .inr ⟨v,e,r.frame g k⟩
def RepS.frame(g:Same Hs Hs')(k:∀ b,m b≥1->H b≠none->H' b=H b)(h:RepS K H Hs σ δ m):RepS K H' Hs' σ δ m:=
 h.imp fun a d m' l r=>RepO.frame g (fun b hb=>k b (le_trans hb (l b))) r
theorem RepL.slots:∀{vs:List V}{ds:List D}{m:Bud},RepL K H Hs vs ds m->RepS K H Hs (vs.map some) ds m
 | _,_,_,.nil _=>.nil _
 | _,_,_,.cons x y c=>.cons (.inr ⟨_,rfl,x⟩) (RepL.slots y) c
theorem holes(o:Nat->Option V):∀(n:Nat)(m:Bud)(σ:St),σ.length=n->RepS K H Hs σ (replicate n .hole) m
 | 0,m,[],_=>.nil _
 | n+1,m,o::σ,h=>.cons (m1:=fun _=>0) (.inl rfl) (holes (fun _=>none) n m σ (by simpa using h)) fun b=>by (try dsimp only at *);omega
inductive SlotI(K:Fg)(H Hs:Hp)(σ:St)(δ:List D)(m:Bud)(i:Nat)(d:D):Prop
 | mk (v:V) (m1 m2:Bud) (h0:σ[i]?=some (some v)) (h1:Rep K H Hs v d m1) (h2:∀ b,m1 b+m2 b<=m b) (h3:∀(H' Hs':Hp)(o:Option V)(d':D)(m':Bud),Same Hs Hs'->(∀ b,m2 b≥1->H b≠none->H' b=H b)->RepO K H' Hs' o d' m'->RepS K H' Hs' (σ.set i o) (δ.set i d') (fun b=>m' b+m2 b)):SlotI K H Hs σ δ m i d
def RepS.slot(h:RepS K H Hs σ δ m)(e:δ[i]?=some d)(hd:d≠.hole):SlotI K H Hs σ δ m i d:=by
 obtain ⟨o,m1,m2,e1,r,l,f⟩:=h.focus e
 rcases r with r|⟨v,rfl,r⟩
 . exact absurd r hd
 . exact ⟨v,m1,m2,e1,r,l,fun H' Hs' o d' m' g k x=>f _ o d' m' (fun a d m'' l' q=>RepO.frame g (fun b hb=>k b (le_trans hb (l' b))) q) x⟩
theorem Zad:∀{l:List α}{i:Nat}{a:α},l[i]?=some a->l.set i a=l
 | [],_,_,h=>by simp at h
 | b::l,0,a,h=>by simp at h;subst h;rfl
 | b::l,i+1,a,h=>by rw [List.set_cons_succ,Zad (by simpa using h)]
end
open PySem.Spec
inductive BO{α β:Type}(c:M α)(f:α->M β)(δ:List D)(r:β×List D):Prop
 | mk (a:α) (δ':List D) (h:c δ=.ok (a,δ')) (k:f a δ'=.ok r):BO c f δ r
def Zb(h:c.bnd f δ=.ok r):BO c f δ r:=by
 unfold M.bnd at h
 split at h
 . rename_i a δ' e
   exact ⟨a,δ',e,h⟩
 . cases h
 . cases h
def Ze(h:M.ret a δ=.ok r):r=(a,δ):=by
 unfold M.ret at h
 injection h with h
 exact h.symm
theorem ZK(h:lift o δ=.ok (a,δ')):o=some a/\δ'=δ:=by
 cases o with
 | none=>cases h
 | some x=>
  have:=Ze h
  cases this
  exact ⟨rfl,rfl⟩
def RepP(K:Fg)(H Hs:Hp)(σ:St)(v:V):Op->Bud->Prop
 | .late i,_=>σ[i]?=some (some v)
 | .tmp d,m=>Rep K H Hs v d m
theorem RepP.frame(g:Same Hs Hs')(k:∀ b,m b≥1->H b≠none->H' b=H b)(h:RepP K H Hs σ v p m):RepP K H' Hs' σ v p m:=by
 cases p with
 | late i=>exact h
 | tmp d=>exact Rep.frame g k h
inductive View(K:Fg)(H Hs:Hp):V->W->Bud->Prop
 | sc (v:V) (m:Bud):View K H Hs v (.sc v) m
 | nd {a:Addr} {k:Kd} {vs:List V} {ds:List D} {m:Bud}:ZcM K H a vs k->RepL K H Hs vs ds m->View K H Hs (.ref a) (.nd k ds) m
theorem View.frame(g:Same Hs Hs')(h:View K H Hs v w m):View K H Hs' v w m:=by
 cases h with
 | sc v m=>exact .sc v m
 | nd n r=>exact .nd n (r.frame g fun _ _ _=>rfl)
section
variable{K:Fg}{σ:St}{M B m:Bud}
def Good.re(g:Good H Hs M)(l:∀ b,M' b<=M b:=by intro b;(try dsimp only);omega):Good H Hs M':=g.drop l
theorem Zaw(g:Good H Hs (fun b=>B b+M b))(s:RepS K H Hs σ δ M)(r:RepP K H Hs σ v p m)(e:view p δ=.ok (w,δ')):
 ∃ Hs' M',Good H Hs' (fun b=>B b+M' b)/\Stp H Hs (fun b=>B b+M b) H Hs' (fun b=>B b+M' b)/\View K H Hs' v w m/\RepS K H Hs' σ δ' M':=by
 cases p with
 | tmp d=>
  cases d with
  | sc u=>
   have:=Ze e
   cases this
   cases r
   exact ⟨Hs,M,g,Stp.refl _ _ _,.sc _ _,s⟩
  | hole=>cases e
  | node k o ds=>
   have:=Ze e
   cases this
   refine ⟨Hs,M,g,Stp.refl _ _ _,?_,s⟩
   cases r with
   | own n q l=>exact .nd n.r (q.mono fun b=>by have:=l b;omega)
   | shd n q=>exact .nd (n.same g.sub) (q.mono fun b=>zero_le _)
 | late i=>
  have r:σ[i]?=some (some v):=r
  unfold view at e
  dsimp only at e
  split at e
  . rename_i u hi
    cases e
    obtain ⟨v',m1,m2,e1,q,l,f⟩:=s.slot hi (by simp)
    rw [r] at e1
    cases e1
    cases q
    exact ⟨Hs,M,g,Stp.refl _ _ _,.sc _ _,s⟩
  . rename_i k ds hi
    cases e
    obtain ⟨v',m1,m2,e1,q,l,f⟩:=s.slot hi (by simp)
    rw [r] at e1
    cases e1
    cases q with
    | shd n q=>exact ⟨Hs,M,g,Stp.refl _ _ _,.nd (n.same g.sub) (q.mono fun b=>zero_le _),s⟩
  . rename_i k ds hi
    cases e
    obtain ⟨v',m1,m2,e1,q,l,f⟩:=s.slot hi (by simp)
    rw [r] at e1
    cases e1
    cases q with
    | @own a _ vs _ _ m' n q l'=>
     have g2:Good H Hs (fun b=>m' b+(B b+(one a b+m2 b))):=g.re fun b=>by have:=l b;have:=l' b;omega
     have hsame:=Zbk g2 (m:=m') fun b=>by omega
     have q2:=RepL.share hsame (ZcA (H:=H) (Hs:=Hs) (m:=m')) q
     refine ⟨shH H Hs m',fun b=>one a b+m2 b,g2.share,?_,.nd n.r (q2.mono fun b=>zero_le _),?_⟩
     . have s1:=Stp.share g2
       exact ⟨fun b o h z=>h,fun b h=>by
        rcases s1.own b h with q|q
        . left
          have:B b+M b<=1:=g.le b
          have h1:=l b
          have h2:=l' b
          have h3:m' b+(B b+(one a b+m2 b))=1:=q
          show B b+M b=1
          omega
        . exact .inr q,s1.grow,fun b h h'=>by
        rcases s1.shr b h h' with q|q
        . left
          have:B b+M b<=1:=g.le b
          have h1:=l b
          have h2:=l' b
          have h3:m' b+(B b+(one a b+m2 b))=1:=q
          show B b+M b=1
          omega
        . exact .inr q,fun b h=>h⟩
     . have z:=f H (shH H Hs m') (some (.ref a)) (.node k true (shrL ds)) (one a) hsame (fun _ _ _=>rfl) (.inr ⟨_,rfl,.own n q2 fun b=>by simp⟩)
       rw [Zad r] at z
       exact z
  . cases e
def Outs(K:Fg)(H Hs:Hp)(m:Bud)(d:D)(Q:VK):Prop:=∀(v:V)(H':Hp)(m':Bud),Same H H'->(∀ b,m' b<=1)->(∀ b,m' b=1->H' b≠none)->(∀ b,H b≠none->m' b<=m b)->Rep K H' Hs v d m'->Q v H'
def Outs.sc(h:Outs K H Hs m (.sc u) Q):Q u H:=h u H (fun _=>0) (Same.refl _) (fun _=>zero_le _) (fun _ h=>by simp at h) (fun _ _=>zero_le _) (.sc u _)
def ZfS(h:H p=none):Same H (upd H p o):=fun b u e=>by
 rw [Zj (ZN e h)]
 exact e
def Outs.new(h:Outs K H Hs m (.node k true ds) Q)(hm:∀ b,m b<=1)(hh:∀ b,m b=1->H b≠none)(hp:H p=none)(n:ZaH K (upd H p o) p vs k)(r:RepL K H Hs vs ds m):Q (.ref p) (upd H p o):=by
 have hs:=ZfS (o:=o) hp
 have mp:m p=0:=by
  have:=hm p
  by_cases q:m p=1
  . exact absurd hp (hh p q)
  . omega
 refine h (.ref p) (upd H p o) (fun b=>one p b+m b) hs (fun b=>?_) (fun b q=>?_) (fun b q=>?_) (.own n (r.frame (Same.refl _) fun b hb hn=>?_) fun b=>Nat.le_refl _)
 . unfold one
   have:=hm b
   split
   . rename_i e;subst e;omega
   . omega
 . by_cases e:b=p
   . subst e;rw [Zk];simp
   . rw [Zj e]
     exact hh b (by simp only [one,if_neg e] at q;omega)
 . have e:b≠p:=fun e=>by subst e;exact q hp
   simp only [one,if_neg e]
   omega
 . have e:b≠p:=fun e=>by subst e;exact hn hp
   rw [Zj e]
def Zce(st:Stp H0 Hs0 M0 H Hs (fun b=>B b+M b))(g:Good H Hs (fun b=>B b+M b))(s:RepS K H Hs σ δ M)
 (q:∀(v:V)(H' Hs':Hp)(m M':Bud),Good H' Hs' (fun b=>m b+M' b)->Stp H0 Hs0 M0 H' Hs' (fun b=>m b+M' b)->Rep K H' Hs' v d m->RepS K H' Hs' σ δ M'->Q v H'):Outs K H Hs B d Q:=by
 intro v H' m' hs h1 h2 h3 r
 have hz:∀ b,H b=none->M b=0/\B b=0:=fun b hb=>by
  have:=g.has b
  have l:B b+M b<=1:=g.le b
  by_cases e:B b+M b=1
  . exact absurd hb (this e)
  . omega
 have hst:∀ b,H b≠none->H' b≠none:=fun b hb=>by
  cases e:H b with
  | none=>exact absurd e hb
  | some o=>rw [hs b o e];simp
 refine q v H' Hs m' M ⟨fun b o e=>hs b o (g.sub b o e),fun b=>?_,fun b h=>?_,fun b h=>?_⟩ ⟨fun b o e z=>hs b o (st.keep b o e z),fun b h=>?_,st.grow,st.shr,fun b h=>hst b (st.stay b h)⟩ r (s.frame (Same.refl _) fun b hb hn=>?_)
 . have l:B b+M b<=1:=g.le b
   have:=h1 b
   by_cases e:H b=none
   . have:=hz b e;show m' b+M b<=1;omega
   . have:=h3 b e;show m' b+M b<=1;omega
 . have h:m' b+M b=1:=h
   have l:B b+M b<=1:=g.le b
   by_cases e:H b=none
   . cases q:Hs b with
     | none=>rfl
     | some o=>rw [g.sub b o q] at e;cases e
   . have:=h3 b e
     exact g.ne b (by show B b+M b=1;omega)
 . have h:m' b+M b=1:=h
   have l:B b+M b<=1:=g.le b
   by_cases e:m' b=1
   . exact h2 b e
   . exact hst b (g.has b (by show B b+M b=1;omega))
 . have h:m' b+M b=1:=h
   have l:B b+M b<=1:=g.le b
   by_cases e:H b=none
   . right
     cases w:H0 b with
     | none=>rfl
     | some o=>exact absurd e (st.stay b (by rw [w];simp))
   . have:=h3 b e
     exact st.own b (by show B b+M b=1;omega)
 . cases e:H b with
   | none=>exact absurd e hn
   | some o=>exact hs b o e
def RepL.app(a:RepL K H Hs vs ds m1)(b:RepL K H Hs ws es m2):RepL K H Hs (vs++ws) (ds++es) (fun b=>m1 b+m2 b):=(a.sep.append b.sep).repL
def RepL.len(a:RepL K H Hs vs ds m):vs.length=ds.length:=a.sep.length
end
inductive tG{α:Type}(K:Fg)(c:M α)(R:Hp->Hp->St->α->V->Bud->Prop)(σ:St)(H:Hp)(Q:VK):Prop
 | mk (δ:List D) (Hs:Hp) (M:Bud) (a:α) (δ':List D) (h0:Good H Hs M) (h1:RepS K H Hs σ δ M) (h2:c δ=.ok (a,δ')) (h3:∀(v:V)(H' Hs':Hp)(m M':Bud),Good H' Hs' (fun b=>m b+M' b)->Stp H Hs M H' Hs' (fun b=>m b+M' b)->R H' Hs' σ a v m->RepS K H' Hs' σ δ' M'->Q v H'):tG K c R σ H Q
def tM(K:Fg)(c:M D):TE:=tG K c fun H Hs _ d v m=>Rep K H Hs v d m
def tP(K:Fg)(c:M Op):TE:=tG K c fun H Hs σ p v m=>RepP K H Hs σ v p m
inductive tT(K:Fg)(c:M Bool)(σ:St)(H:Hp)(Q:Bool->Hp->Prop):Prop
 | mk (δ:List D) (Hs:Hp) (M:Bud) (b:Bool) (δ':List D) (h0:Good H Hs M) (h1:RepS K H Hs σ δ M) (h2:c δ=.ok (b,δ')) (h3:∀(H' Hs':Hp)(M':Bud),Good H' Hs' M'->Stp H Hs M H' Hs' M'->RepS K H' Hs' σ δ' M'->Q b H'):tT K c σ H Q
def Za3(K:Fg)(H Hs:Hp)(σ:St):List V->List Op->Bud->Prop
 | [],[],_=>True
 | v::vs,p::ps,m=>∃ m1 m2:Bud,RepP K H Hs σ v p m1/\Za3 K H Hs σ vs ps m2/\∀ b,m1 b+m2 b<=m b
 | _,_,_=>False
theorem Za3.frame(g:Same Hs Hs'):∀{vs:List V}{ps:List Op}{m:Bud},(∀ b,m b≥1->H b≠none->H' b=H b)->Za3 K H Hs σ vs ps m->Za3 K H' Hs' σ vs ps m
 | [],[],_,_,h=>h
 | v::vs,p::ps,m,k,⟨m1,m2,a,b,l⟩=>⟨m1,m2,a.frame g fun c hc=>k c (by have:=l c;omega),b.frame g fun c hc=>k c (by have:=l c;omega),l⟩
 | [],_::_,_,_,h=>h.elim
 | _::_,[],_,_,h=>h.elim
inductive tPs(K:Fg)(c:M (List Op))(σ:St)(H:Hp)(Q:List V->Hp->Prop):Prop
 | mk (δ:List D) (Hs:Hp) (M:Bud) (a:List Op) (δ':List D) (h0:Good H Hs M) (h1:RepS K H Hs σ δ M) (h2:c δ=.ok (a,δ')) (h3:∀(vs:List V)(H' Hs':Hp)(m M':Bud),Good H' Hs' (fun b=>m b+M' b)->Stp H Hs M H' Hs' (fun b=>m b+M' b)->Za3 K H' Hs' σ vs a m->RepS K H' Hs' σ δ' M'->Q vs H'):tPs K c σ H Q
inductive tDs(K:Fg)(c:M (List D))(σ:St)(H:Hp)(Q:List V->Hp->Prop):Prop
 | mk (δ:List D) (Hs:Hp) (M:Bud) (a:List D) (δ':List D) (h0:Good H Hs M) (h1:RepS K H Hs σ δ M) (h2:c δ=.ok (a,δ')) (h3:∀(vs:List V)(H' Hs':Hp)(m M':Bud),Good H' Hs' (fun b=>m b+M' b)->Stp H Hs M H' Hs' (fun b=>m b+M' b)->RepL K H' Hs' vs a m->RepS K H' Hs' σ δ' M'->Q vs H'):tDs K c σ H Q
section
variable{e a b:Expr}{es:List Expr}
def PE.imp(h:PE X e t)(w:∀ σ H Q,t' σ H Q->t σ H Q):PE X e t':=fun pins s σ H Q I q=>h pins s σ H Q I (w σ H Q q)
def PT.imp(h:PT X e t)(w:∀ σ H Q,t' σ H Q->t σ H Q):PT X e t':=fun pins s σ H Q I q=>h pins s σ H Q I (w σ H Q q)
def PA.imp(h:PA X es t)(w:∀ σ H Q,t' σ H Q->t σ H Q):PA X es t':=fun pos pins s σ H Q I q=>h pos pins s σ H Q I (w σ H Q q)
def Za4{M:Bud}(g:Good H Hs M):Good H Hs (fun b=>(fun _=>0) b+M b):=g.drop fun b=>by simp
def stp0(H Hs:Hp)(M:Bud):Stp H Hs M H Hs (fun b=>(fun _=>0) b+M b):=by
 have e:(fun b=>(fun _=>0) b+M b)=M:=by funext b;simp
 rw [e]
 exact Stp.refl H Hs M
def ok_k{v:V}(h:PE X e (tC v)):PE X e (tM X.K (M.ret (.sc v))):=PE.imp h fun σ H Q z0=>by
 obtain ⟨δ,Hs,M,d,δ',g,r,e,q⟩:=z0
 have:=Ze e
 cases this
 exact q v H Hs (fun _=>0) M (Za4 g) (stp0 H Hs M) (.sc v _) r
def Zhk{i:Nat}(h:PE X e (tVar i)):PE X e (tP X.K (ZR i)):=PE.imp h fun σ H Q z0=>by
 obtain ⟨δ,Hs,M,p,δ',g,r,e,q⟩:=z0
 have fin:∀{d:D},δ[i]?=some d->d≠.hole->p=.late i->δ'=δ->tVar i σ H Q:=fun hd hn e1 e2=>by
  subst e1 e2
  obtain ⟨v,m1,m2,e3,_⟩:=r.slot hd hn
  exact ⟨v,e3,q v H Hs (fun _=>0) M (Za4 g) (stp0 H Hs M) e3 r⟩
 unfold ZR at e
 split at e
 . rename_i hd
   injection e with e
   cases e
   exact fin hd (by simp) rfl rfl
 . rename_i hd
   injection e with e
   cases e
   exact fin hd (by simp) rfl rfl
 . cases e
def ok_v{i:Nat}(h:PE X e (tVar i)):PE X e (tM X.K (valV i)):=PE.imp h fun σ H Q z0=>by
 obtain ⟨δ,Hs,M,d,δ',g,s,e,q⟩:=z0
 unfold valV at e
 split at e
 . rename_i u hd
   injection e with e
   cases e
   obtain ⟨v,m1,m2,e3,r,_⟩:=s.slot hd (by simp)
   cases r
   exact ⟨u,e3,q u H Hs (fun _=>0) M (Za4 g) (stp0 H Hs M) (.sc _ _) s⟩
 . rename_i k ds hd
   injection e with e
   cases e
   obtain ⟨v,m1,m2,e3,r,_⟩:=s.slot hd (by simp)
   cases r with
   | shd n r=>exact ⟨_,e3,q _ H Hs (fun _=>0) M (Za4 g) (stp0 H Hs M) (.shd n r) s⟩
 . rename_i k ds hd
   injection e with e
   cases e
   obtain ⟨v,m1,m2,e3,r,l,f⟩:=s.slot hd (by simp)
   refine ⟨v,e3,?_⟩
   have g2:Good H Hs (fun b=>m1 b+m2 b):=g.re fun b=>by have:=l b;omega
   have hsame:=Zbk g2 (m:=m1) fun b=>by omega
   have r2:=Rep.share hsame (ZcA (H:=H) (Hs:=Hs) (m:=m1)) r
   have st:=Stp.share g2
   refine q v H (shH H Hs m1) (fun _=>0) m2 (Za4 g2.share) ⟨fun b o h _=>h,fun b h=>?_,st.grow,fun b h h'=>?_,fun b h=>h⟩ r2 ?_
   . have h:(fun _=>0) b+m2 b=1:=h
     have:=l b
     have:=g.le b
     left;simp at h;omega
   . rcases st.shr b h h' with z|z
     . have z:m1 b+m2 b=1:=z
       have:=l b
       have:=g.le b
       left;omega
     . exact .inr z
   . have z:=f H (shH H Hs m1) (some v) (.node k false (shrL ds)) (fun _=>0) hsame (fun _ _ _=>rfl) (.inr ⟨v,rfl,r2⟩)
     rw [Zad e3] at z
     exact z.mono fun b=>by simp
 . cases e
def Za(h:PE X e (tM X.K c)):PE X e (tP X.K (c.bnd fun d=>M.ret (.tmp d))):=PE.imp h fun σ H Q z0=>by
 obtain ⟨δ,Hs,M,p,δ',g,s,e,q⟩:=z0
 obtain ⟨d,δ1,e1,e2⟩:=Zb e
 have:=Ze e2
 cases this
 exact ⟨δ,Hs,M,d,_,g,s,e1,fun v H' Hs' m M' g' st r s'=>q v H' Hs' m M' g' st r s'⟩
def seq2{K:Fg}{ca cb:M Op}{σ:St}{M:Bud}{p q:Op}{R:V->V->Hp->Prop}(g:Good H Hs M)(s:RepS K H Hs σ δ M)(e1:ca δ=.ok (p,δ1))(e2:cb δ1=.ok (q,δ2))
 (h:∀(x y:V)(H2 Hs2:Hp)(m1 m2 M2:Bud),Good H2 Hs2 (fun b=>(m1 b+m2 b)+M2 b)->Stp H Hs M H2 Hs2 (fun b=>(m1 b+m2 b)+M2 b)->RepP K H2 Hs2 σ x p m1->RepP K H2 Hs2 σ y q m2->RepS K H2 Hs2 σ δ2 M2->R x y H2):
 tP K ca σ H fun x H1=>tP K cb σ H1 fun y H2=>R x y H2:=by
 refine ⟨δ,Hs,M,p,δ1,g,s,e1,fun x H1 Hs1 m1 M1 g1 st1 r1 s1=>⟨δ1,Hs1,M1,q,δ2,g1.re,s1,e2,fun y H2 Hs2 m2 M2 g2 st2 r2 s2=>?_⟩⟩
 obtain ⟨G,S,k⟩:=Zo g g1 st1 g2 st2
 have le:∀ b,m1 b+(m2 b+M2 b)<=1:=G.le
 exact h x y H2 Hs2 m1 m2 M2 G.re (S.drop (fun b=>by omega) le) (r1.frame st2.grow k) r2 s2
def Zic{K:Fg}{σ:St}{M:Bud}{p q:Op}{x y:V}(g:Good H Hs (fun b=>(m1 b+m2 b)+M b))(s:RepS K H Hs σ δ M)(r1:RepP K H Hs σ x p m1)(r2:RepP K H Hs σ y q m2)
 (e1:view p δ=.ok (w1,δ1)) (e2:view q δ1=.ok (w2,δ2)):∃ Hs' M',Good H Hs' (fun b=>(m1 b+m2 b)+M' b)/\Stp H Hs (fun b=>(m1 b+m2 b)+M b) H Hs' (fun b=>(m1 b+m2 b)+M' b)/\View K H Hs' x w1 m1/\View K H Hs' y w2 m2/\RepS K H Hs' σ δ2 M':=by
 obtain ⟨Hs1,M1,g1,st1,v1,s1⟩:=Zaw (B:=fun b=>m1 b+m2 b) g s r1 e1
 obtain ⟨Hs2,M2,g2,st2,v2,s2⟩:=Zaw (B:=fun b=>m1 b+m2 b) g1 s1 (r2.frame st1.grow fun _ _ _=>rfl) e2
 refine ⟨Hs2,M2,g2,?_,v1.frame st2.grow,v2,s2⟩
 have z:=Zo (m1:=fun _=>0) g (g1.re fun b=>by simp) (st1.drop (fun b=>by simp) g1.le) g2 st2
 exact z.2.1.drop (fun b=>by simp) z.1.le
inductive r2W(K:Fg)(f:W->W->Option D)(x y:V)(H:Hp)(Q:VK):Prop
 | mk (Hs:Hp) (w1 w2:W) (m1 m2:Bud) (d:D) (h0:Same Hs H) (h1:(∀ b,m1 b+m2 b<=1)) (h2:(∀ b,m1 b+m2 b=1->H b≠none)) (h3:View K H Hs x w1 m1) (h4:View K H Hs y w2 m2) (h5:f w1 w2=some d) (h6:Outs K H Hs (fun b=>m1 b+m2 b) d Q):r2W K f x y H Q
def op2(h:tM K (ca.bnd fun p=>cb.bnd fun q=>(view p).bnd fun x=>(view q).bnd fun y=>lift (f x y)) σ H Q):tOp (r2W K f) (tP K ca) (tP K cb) σ H Q:=by
 obtain ⟨δ,Hs,M,d,δ',g,s,e,q⟩:=h
 obtain ⟨p,δ1,e1,e⟩:=Zb e
 obtain ⟨p2,δ2,e2,e⟩:=Zb e
 obtain ⟨w1,δ3,e3,e⟩:=Zb e
 obtain ⟨w2,δ4,e4,e⟩:=Zb e
 obtain ⟨e5,rfl⟩:=ZK e
 refine seq2 g s e1 e2 fun x y H2 Hs2 m1 m2 M2 g2 st2 r1 r2 s2=>?_
 obtain ⟨Hs3,M3,g3,st3,v1,v2,s3⟩:=Zic g2 s2 r1 r2 e3 e4
 have z:=Zo (m1:=fun _=>0) g (g2.re fun b=>by simp) (st2.drop (fun b=>by simp) g2.le) g3 st3
 have st:Stp H Hs M H2 Hs3 (fun b=>(m1 b+m2 b)+M3 b):=z.2.1.drop (fun b=>by simp) z.1.le
 exact ⟨Hs3,w1,w2,m1,m2,d,g3.sub,fun b=>by have:(m1 b+m2 b)+M3 b<=1:=g3.le b;omega,fun b hb=>g3.has b (by have:(m1 b+m2 b)+M3 b<=1:=g3.le b;show (m1 b+m2 b)+M3 b=1;omega),v1,v2,e5,Zce st g3 s3 q⟩
def ZnI(ho:OpR X (binaryOp op) (r2W X.K (binW op)))(ha:PE X a (tP X.K ca))(hb:PE X b (tP X.K cb)):
 PE X (.BinOp a op b pos) (tM X.K (ca.bnd fun p=>cb.bnd fun q=>(view p).bnd fun x=>(view q).bnd fun y=>lift (binW op x y))):=PE.imp (Zpu ho ha hb) fun σ H Q h=>op2 h
def ZjY:OpR X (binaryOp .FloorDiv) (rI (fun _ j=>0 < j/\j < 18446744073709551616) fun i j=>.int (i / j)):=opI fun i j _ _ _ _ _ hc q=>by
 have h1:(0:Int) < j:=hc.1
 have h2:j < 18446744073709551616:=hc.2
 refine PyProof.Rows.floordiv_int (by omega) (by rw [Int.fdiv_eq_ediv_of_nonneg i (by omega)];exact q) (.inl (PyProof.noPylong_of_log2 ?_))
 by_cases h0:j.natAbs=0
 . rw [h0];decide +kernel
 . have:j.natAbs.log2 < 64:=(Nat.log2_lt h0).mpr (by omega)
   omega
theorem Zci:∀{ds:List D}{vs:List V}{m:Bud}{is:List Int},RepL K H Hs vs ds m->Zaq ds=some is->vs=is.map V.int
 | [],_,_,is,.nil _,h=>by simp only [Zaq,Option.some.injEq] at h;subst h;rfl
 | d::ds,_,_,is,.cons x y _,h=>by
  unfold Zaq at h
  split at h
  . rename_i hh;cases hh
  . rename_i i r hh
    injection hh with h1 h2
    subst h1 h2
    (simp only [map_eq_some_iff] at h)
    obtain ⟨js,h,rfl⟩:=h
    cases x
    rw [Zci y h]
    rfl
  . cases h
termination_by structural a=>a
theorem ZcP:∀(l:List Int),RepL K H Hs (l.map V.int) (l.map fun i=>D.sc (.int i)) (fun _=>0)
 | []=>.nil _
 | i::l=>.cons (m1:=fun _=>0) (m2:=fun _=>0) (.sc _ _) (ZcP l) fun b=>by simp
def ZjZ(k:Nat)(is:List Int):RepL K H Hs (replicate k (is.map V.int)).flatten ((replicate k is).flatten.map fun i=>D.sc (.int i)) (fun _=>0):=by
 have z:=ZcP (K:=K) (H:=H) (Hs:=Hs) (replicate k is).flatten
 rw [List.map_flatten,List.map_replicate] at z
 exact z
def ZnJ (op:Operator):OpR X (binaryOp op) (r2W X.K (binW op)):=by
 intro pins s σ H x y v u Q I rx ry h
 obtain ⟨Hs,w1,w2,m1,m2,d,hs,h1,h2,v1,v2,e,o⟩:=h
 unfold binW at e
 split at e
 . split at e
   . cases e;cases v1;cases v2;exact Zni pins s σ H _ _ v u Q I rx ry ⟨_,_,rfl,rfl,o.sc⟩
   . cases e;cases v1;cases v2;exact Znj pins s σ H _ _ v u Q I rx ry ⟨_,_,rfl,rfl,o.sc⟩
   . split at e
     . rename_i hc;cases e;cases v1;cases v2;exact Znk pins s σ H _ _ v u Q I rx ry ⟨_,_,rfl,rfl,hc,o.sc⟩
     . cases e
   . split at e
     . rename_i hc;cases e;cases v1;cases v2;exact ZjY pins s σ H _ _ v u Q I rx ry ⟨_,_,rfl,rfl,hc,o.sc⟩
     . cases e
   . split at e
     . rename_i hc;cases e;cases v1;cases v2;exact Znl pins s σ H _ _ v u Q I rx ry ⟨_,_,rfl,rfl,hc,o.sc⟩
     . cases e
   . split at e
     . rename_i hc;cases e;cases v1;cases v2;exact Znm pins s σ H _ _ v u Q I rx ry ⟨_,_,rfl,rfl,hc,o.sc⟩
     . cases e
   . cases e
 . split at e
   . unfold newL at e
     split at e
     . rename_i hc
       cases e
       cases v1 with
       | nd n1 r1=>cases v2 with
        | nd n2 r2=>
         have l1:=r1.len
         have l2:=r2.len
         rw [length_append] at hc
         exact Znw pins s σ H _ _ v u Q I rx ry ⟨_,_,_,_,rfl,rfl,n1,n2,by omega,fun p hp=>o.new h1 h2 hp (show upd H p _ p=_ from Zk) (r1.app r2)⟩
     . cases e
   . cases e
 . split at e
   . split at e
     . rename_i hc
       simp only [map_eq_some_iff] at e
       obtain ⟨is,ei,rfl⟩:=e
       cases v1 with
       | nd n1 r1=>
        cases v2
        have hl:=r1.len
        have ex:=Zci r1 ei
        subst ex
        refine Znx pins s σ H _ _ v u Q I rx ry ⟨_,_,_,rfl,rfl,n1,hc.1,hc.2.1,by rw [hl];exact hc.2.2,fun p hp=>o.new h1 h2 hp (show upd H p _ p=_ from Zk) ?_⟩
        exact (ZjZ _ is).mono fun b=>zero_le _
     . cases e
   . cases e
 . cases e
end
mutual
theorem Rep.den(g:Same Hs H):∀{v:V}{d:D}{m:Bud}{a:PyData},Rep K H Hs v d m->py d=some a->Den K H v a
 | _,_,_,_,.sc .non _,h=>by cases h;exact .non
 | _,_,_,_,.sc (.bl b) _,h=>by cases h;exact .bl b
 | _,_,_,_,.sc (.int b) _,h=>by cases h;exact .int b
 | _,_,_,_,.sc (.str b) _,h=>by cases h;exact .str b
 | _,_,_,_,.sc (.byt b) _,h=>by cases h
 | _,_,_,_,.sc (.flt b) _,h=>by cases h
 | _,_,_,_,.sc (.ref b) _,h=>by cases h
 | _,_,_,_,.sc (.ty b) _,h=>by cases h
 | _,_,_,_,.hole v _,h=>by cases h
 | _,_,_,_,.own (k:=.lst) n r _,h=>by
  replace h:=Option.map_eq_some_iff.mp h
  obtain ⟨x,h,rfl⟩:=h
  exact .lst (.inl (.inl n)) (RepL.den g r h)
 | _,_,_,_,.own (k:=.frl) n r _,h=>n.elim
 | _,_,_,_,.own (k:=.tup) n r _,h=>by
  replace h:=Option.map_eq_some_iff.mp h
  obtain ⟨x,h,rfl⟩:=h
  exact .tup (.inl (.inl n)) (RepL.den g r h)
 | _,_,_,_,.own (k:=.ftp) n r _,h=>n.elim
 | _,_,_,_,.own (k:=.dic _) n r _,h=>by cases h
 | _,_,_,_,.own (k:=.ins _ _) n r _,h=>by cases h
 | _,_,_,_,.own (k:=.exc _ _ _) n r _,h=>by cases h
 | _,_,_,_,.shd (k:=.lst) n r,h=>by
  replace h:=Option.map_eq_some_iff.mp h
  obtain ⟨x,h,rfl⟩:=h
  exact .lst (.inl (.inl (g _ _ n))) (RepL.den g r h)
 | _,_,_,_,.shd (k:=.frl) n r,h=>by
  replace h:=Option.map_eq_some_iff.mp h
  obtain ⟨x,h,rfl⟩:=h
  exact .lst (g.seq n) (RepL.den g r h)
 | _,_,_,_,.shd (k:=.tup) n r,h=>by
  replace h:=Option.map_eq_some_iff.mp h
  obtain ⟨x,h,rfl⟩:=h
  exact .tup (.inl (.inl (g _ _ n))) (RepL.den g r h)
 | _,_,_,_,.shd (k:=.ftp) n r,h=>by
  replace h:=Option.map_eq_some_iff.mp h
  obtain ⟨x,h,rfl⟩:=h
  exact .tup (Same.tupq' g n) (RepL.den g r h)
 | _,_,_,_,.shd (k:=.dic _) n r,h=>by cases h
 | _,_,_,_,.shd (k:=.ins _ _) n r,h=>by cases h
 | _,_,_,_,.shd (k:=.exc _ _ _) n r,h=>by cases h
termination_by structural _ a=>a
theorem RepL.den(g:Same Hs H):∀{vs:List V}{ds:List D}{m:Bud}{as:List PyData},RepL K H Hs vs ds m->pyL ds=some as->DenL K H vs as
 | _,_,_,_,.nil _,h=>by cases h;exact .nil
 | _,_,_,_,.cons x y _,h=>by
  obtain ⟨a,h1,h⟩:=Option.bind_eq_some_iff.mp h
  obtain ⟨as,h2,rfl⟩:=Option.map_eq_some_iff.mp h
  exact .cons (Rep.den g x h1) (RepL.den g y h2)
termination_by structural _ a=>a
end
theorem View.den(g:Same Hs H)(h:View K H Hs v w m)(e:py (toD w)=some a):Den K H v a:=by
 cases h with
 | sc v m=>exact Rep.den g (.sc v m) e
 | @nd ad k vs ds m n r=>
  cases k with
  | lst=>
   simp only [toD,py,map_eq_some_iff] at e
   obtain ⟨x,e,rfl⟩:=e
   exact .lst (.inl (.inl n)) (r.den g e)
  | frl=>
   simp only [toD,py,map_eq_some_iff] at e
   obtain ⟨x,e,rfl⟩:=e
   exact .lst n (r.den g e)
  | tup=>
   simp only [toD,py,map_eq_some_iff] at e
   obtain ⟨x,e,rfl⟩:=e
   exact .tup (.inl (.inl n)) (r.den g e)
  | ftp=>
   simp only [toD,py,map_eq_some_iff] at e
   obtain ⟨x,e,rfl⟩:=e
   exact .tup n (r.den g e)
  | dic ks=>simp [toD,py] at e
  | ins C fs=>simp [toD,py] at e
  | exc ns fr fs=>simp [toD,py] at e
section
variable{e a b c:Expr}{es rest:List Expr}
def ZlT{a b:PyData}{t:Bool}(h:eqPy a b=some t):SeqAt.shaped a=true/\SeqAt.shaped b=true/\PyData.eqv a b=t:=by
 unfold eqPy at h
 split at h
 . rename_i q
   exact ⟨q.1,q.2,Option.some.inj h⟩
 . cases h
theorem ZiR{K:Fg}(g:Same Hs H){x y:V}{t:Bool}(v1:View K H Hs x w1 m1)(v2:View K H Hs y w2 m2)(h:eqW w1 w2=some t):
 (scal x y=true/\decide (x=y)=t)\/∃ d e,Den K H x d/\Den K H y e/\SeqAt.shaped d=true/\SeqAt.shaped e=true/\PyData.eqv d e=t:=by
 have go:((py (toD w1)).bind fun a=>(py (toD w2)).bind fun b=>eqPy a b)=some t->∃ d e,Den K H x d/\Den K H y e/\SeqAt.shaped d=true/\SeqAt.shaped e=true/\PyData.eqv d e=t:=fun q=>by
  simp only [bind_eq_some_iff] at q
  obtain ⟨d,q1,e,q2,q3⟩:=q
  obtain ⟨s1,s2,s3⟩:=ZlT q3
  exact ⟨d,e,v1.den g q1,v2.den g q2,s1,s2,s3⟩
 cases v1 with
 | sc u _=>cases v2 with
  | sc v _=>
   have h:(if scal x y=true then some (decide (x=y)) else (py (.sc x)).bind fun a=>(py (.sc y)).bind fun b=>eqPy a b)=some t:=h
   by_cases q:scal x y=true
   . rw [if_pos q] at h
     exact .inl ⟨q,Option.some.inj h⟩
   . rw [if_neg q] at h
     exact .inr (go h)
  | nd n r=>exact .inr (go h)
 | nd n r=>exact .inr (go h)
theorem ZdW(i:Int):∀ is:List Int,inV (.int i) (is.map V.int)=decide (i∈is)
 | []=>rfl
 | j::is=>by
  have h:=ZdW i is
  unfold inV at h ⊢
  rw [map_cons,any_cons,h,show eqV (V.int j) (V.int i)=decide (j=i) from rfl]
  by_cases e:j=i
  . subst e;simp
  . have e':¬ i=j:=fun q=>e q.symm
    simp [e,e']
theorem Zdl:∀ is:List Int,(is.map V.int).all ZbX=true
 | []=>rfl
 | j::is=>by rw [map_cons,List.all_cons,Zdl is];rfl
theorem Zka{c:M D}{r:Bool×List D}(h:Zcw c δ=.ok r):c δ=.ok (.sc (.bl r.1),r.2):=by
 obtain ⟨d,δ1,e1,e2⟩:=Zb h
 obtain ⟨b,δ2⟩:=r
 obtain ⟨e3,rfl⟩:=ZK e2
 cases d with
 | sc v=>cases v with
  | bl t=>cases e3;exact e1
  | _=>cases e3
 | _=>cases e3
def Zhl{c:M D}{σ:St}{Q:Bool->Hp->Prop}{K:Fg}(h:tT K (Zcw c) σ H Q):tM K c σ H fun x H'=>∃ k,x=.bl k/\Q k H':=by
 obtain ⟨δ,Hs,M,b,δ',g,s,e,q⟩:=h
 refine ⟨δ,Hs,M,.sc (.bl b),δ',g,s,Zka e,fun v H' Hs' m M' g' st r s'=>?_⟩
 cases r
 exact ⟨b,rfl,q H' Hs' M' g'.re (st.drop (fun b=>by omega) g'.le) s'⟩
def op1{K:Fg}{ca:M Op}{f:W->Option D}{σ:St}{Q:VK}{r:V->Hp->VK->Prop}(h:tM K ((ca.bnd view).bnd fun x=>lift (f x)) σ H Q)
 (hr:∀(x:V)(H Hs:Hp)(w:W)(m:Bud)(d:D),Same Hs H->(∀ b,m b<=1)->(∀ b,m b=1->H b≠none)->View K H Hs x w m->f w=some d->Outs K H Hs m d Q->r x H Q):tUn r (tP K ca) σ H Q:=by
 obtain ⟨δ,Hs,M,d,δ',g,s,e,q⟩:=h
 obtain ⟨w,δ2,e,e5⟩:=Zb e
 obtain ⟨p,δ1,e1,e3⟩:=Zb e
 obtain ⟨e6,rfl⟩:=ZK e5
 refine ⟨δ,Hs,M,p,δ1,g,s,e1,fun x H2 Hs2 m1 M2 g2 st2 r1 s2=>?_⟩
 obtain ⟨Hs3,M3,g3,st3,v1,s3⟩:=Zaw (B:=m1) g2 s2 r1 e3
 have z:=Zo (m1:=fun _=>0) g (g2.re fun b=>by simp) (st2.drop (fun b=>by simp) g2.le) g3 st3
 have st:Stp H Hs M H2 Hs3 (fun b=>m1 b+M3 b):=z.2.1.drop (fun b=>by simp) z.1.le
 exact hr x H2 Hs3 w m1 d g3.sub (fun b=>by have:m1 b+M3 b<=1:=g3.le b;omega) (fun b hb=>g3.has b (by have:m1 b+M3 b<=1:=g3.le b;show m1 b+M3 b=1;omega)) v1 e6 (Zce st g3 s3 q)
def Zdm(ha:PE X a (tP X.K ca)):PE X (.UnaryOp .USub a pos) (tM X.K ((ca.bnd view).bnd fun x=>lift (negW x))):=
 PE.imp (Zpv Znn ha) fun σ H Q h=>op1 h fun x H Hs w m d g h1 h2 v e o=>by
  unfold negW at e
  split at e
  . cases e;cases v;exact ⟨_,rfl,o.sc⟩
  . cases e
theorem ZnK(h:View K H Hs v w m)(e:truW w=some t):TruV K v H t:=by
 cases h with
 | sc v m=>
  cases v with
  | bl b=>cases e;rfl
  | int i=>cases e;show decide (i≠0)=(i != 0);rw [Bool.eq_iff_iff];simp
  | str x=>
   have e:(if x.length<=sizeLine then some (decide (x.length≠0)) else none)=some t:=e
   split at e
   . rename_i q
     cases e
     exact ⟨q,by rw [Bool.eq_iff_iff];simp⟩
   . cases e
  | non=>cases e;rfl
  | _=>cases e
 | @nd a k vs ds m n r=>
  have l:(!vs.isEmpty)=!ds.isEmpty:=by
   have:=r.len
   cases vs<;>cases ds<;>simp at this ⊢
  cases k with
  | lst=>cases e;exact .inl ⟨vs,.inl (.inl n),by rw [l]⟩
  | frl=>cases e;exact .inl ⟨vs,n,by rw [l]⟩
  | tup=>cases e;exact .inr (.inl ⟨vs,.inl (.inl n),by rw [l]⟩)
  | ftp=>cases e;exact .inr (.inl ⟨vs,n,by rw [l]⟩)
  | dic ks=>
   cases e
   obtain ⟨hl,n⟩:=n
   refine .inr (.inr ⟨_,n,?_⟩)
   rw [<- l]
   cases ks<;>cases vs<;>simp at hl ⊢
  | ins C fs=>cases e
  | exc ns fr fs=>cases e
def Zbw(ha:PE X e (tP X.K ca))(he:∀ whole,isTrue e X.env whole=(do let v <- whole;standAt e.pos;holding [v] (truthy v)):=by intro _;rfl):
 PT X e (tT X.K (ca.bnd fun p=>(view p).bnd fun w=>lift (truW w))):=PT.imp (Zj7 ha he) fun σ H Q h=>by
 obtain ⟨δ,Hs,M,t,δ',g,s,e,q⟩:=h
 obtain ⟨p,δ1,e1,e⟩:=Zb e
 obtain ⟨w,δ2,e3,e5⟩:=Zb e
 obtain ⟨e6,rfl⟩:=ZK e5
 refine ⟨δ,Hs,M,p,δ1,g,s,e1,fun x H2 Hs2 m1 M2 g2 st2 r1 s2=>?_⟩
 obtain ⟨Hs3,M3,g3,st3,v1,s3⟩:=Zaw (B:=m1) g2 s2 r1 e3
 have z:=Zo (m1:=fun _=>0) g (g2.re fun b=>by simp) (st2.drop (fun b=>by simp) g2.le) g3 st3
 exact ⟨t,ZnK v1 e6,q H2 Hs3 M3 g3.re (z.2.1.drop (fun b=>by simp) z.1.le) s3⟩
end
section
variable{e a b c:Expr}{es rest:List Expr}
def PW.imp(h:PW X e t)(w:∀ σ H Q,t' σ H Q->t σ H Q):PW X e t':=fun wh pins s σ H Q I q=>h wh pins s σ H Q I (w σ H Q q)
def ZiS(h:tT K (ca.bnd f) σ H Q):tT K ca σ H fun t H1=>tT K (f t) σ H1 Q:=by
 obtain ⟨δ,Hs,M,b,δ',g,s,e,q⟩:=h
 obtain ⟨t,δ1,e1,e2⟩:=Zb e
 refine ⟨δ,Hs,M,t,δ1,g,s,e1,fun H1 Hs1 M1 g1 st1 s1=>⟨δ1,Hs1,M1,b,δ',g1,s1,e2,fun H2 Hs2 M2 g2 st2 s2=>?_⟩⟩
 have z:=Zo (m1:=fun _=>0) g (g1.re fun b=>by simp) (st1.drop (fun b=>by simp) g1.le) g2 st2
 exact q H2 Hs2 M2 g2 (z.2.1.drop (fun b=>by simp) z.1.le) s2
def ZfT(h:tT K (M.ret t) σ H Q):Q t H:=by
 obtain ⟨δ,Hs,M,b,δ',g,s,e,q⟩:=h
 have:=Ze e
 cases this
 exact q H Hs M g (Stp.refl _ _ _) s
def Zex(ha:PT X a (tT X.K ca)):PW X (.BoolOp .Or [a] pos) (tT X.K ca):=ZmX ha
def Zey(ha:PT X a (tT X.K ca))(hb:PW X (.BoolOp .Or (b::rest) pos) (tT X.K cb)):PW X (.BoolOp .Or (a::b::rest) pos) (tT X.K (ca.bnd fun t=>if t then M.ret true else cb)):=
 PW.imp (Zpl ha hb) fun σ H Q h=>by
  obtain ⟨δ,Hs,M,t,δ',g,s,e,q⟩:=ZiS h
  refine ⟨δ,Hs,M,t,δ',g,s,e,fun H' Hs' M' g' st s'=>?_⟩
  have z:=q H' Hs' M' g' st s'
  cases t with
  | false=>exact z
  | true=>exact ZfT z
def Zbo(ha:PT X a (tT X.K ca)):PT X (.UnaryOp .Not a pos) (tT X.K (ca.bnd fun t=>M.ret (!t))):=
 PT.imp (ZmY ha) fun σ H Q h=>by
  obtain ⟨δ,Hs,M,t,δ',g,s,e,q⟩:=ZiS h
  exact ⟨δ,Hs,M,t,δ',g,s,e,fun H' Hs' M' g' st s'=>ZfT (q H' Hs' M' g' st s')⟩
def ZiT(h:tM K ((ca.bnd view).bnd f) σ H Q):tP K ca σ H fun x H1=>∃(Hs:Hp)(w:W)(m:Bud),View K H1 Hs x w m/\tM K (f w) σ H1 Q:=by
 obtain ⟨δ,Hs,M,d,δ',g,s,e,q⟩:=h
 obtain ⟨w,δ2,e,e5⟩:=Zb e
 obtain ⟨p,δ1,e1,e3⟩:=Zb e
 refine ⟨δ,Hs,M,p,δ1,g,s,e1,fun x H2 Hs2 m1 M2 g2 st2 r1 s2=>?_⟩
 obtain ⟨Hs3,M3,g3,st3,v1,s3⟩:=Zaw (B:=m1) g2 s2 r1 e3
 refine ⟨Hs3,w,m1,v1,δ2,Hs3,M3,d,δ',g3.re,s3,e5,fun v H4 Hs4 m4 M4 g4 st4 r4 s4=>?_⟩
 have z:=Zo (m1:=fun _=>0) g (g2.re fun b=>by simp) (st2.drop (fun b=>by simp) g2.le) g3 st3
 have st:Stp H Hs M H2 Hs3 (fun b=>m1 b+M3 b):=z.2.1.drop (fun b=>by simp) z.1.le
 have z:=Zo (m1:=m1) (M1:=M3) g g3 st g4 st4
 exact q v H4 Hs4 m4 M4 g4 (z.2.1.drop (fun b=>by omega) z.1.le) r4 s4
def ZiU(h:tM K (M.ret (.sc v)) σ H Q):Q v H:=by
 obtain ⟨δ,Hs,M,b,δ',g,s,e,q⟩:=h
 have:=Ze e
 cases this
 exact q v H Hs (fun _=>0) M (Za4 g) (stp0 _ _ _) (.sc v _) s
def Zez(h:tM K stk σ H Q):False:=by
 obtain ⟨δ,Hs,M,b,δ',g,s,e,q⟩:=h
 cases e
def Zcj{op}(ha:PE X a (tM X.K ca)):PE X (.BoolOp op [a] pos) (tM X.K ca):=ZmZ ha
def ZaV(ha:PE X a (tP X.K ca))(hb:PE X (.BoolOp .And (b::rest) pos) (tM X.K cb)):PE X (.BoolOp .And (a::b::rest) pos) (tM X.K ((ca.bnd view).bnd (andM cb))):=
 PE.imp (Zna ha hb) fun σ H Q h=>by
  obtain ⟨δ,Hs,M,t,δ',g,s,e,q⟩:=ZiT h
  refine ⟨δ,Hs,M,t,δ',g,s,e,fun v H' Hs' m M' g' st r s'=>?_⟩
  obtain ⟨Hs2,w,m2,v2,z⟩:=q v H' Hs' m M' g' st r s'
  cases v2 with
  | sc u _=>cases v with
   | bl t=>cases t with
    | true=>exact ⟨true,rfl,z⟩
    | false=>exact ⟨false,rfl,ZiU z⟩
   | _=>exact (Zez z).elim
  | nd n r=>exact (Zez z).elim
def ZeJ(ha:PE X a (tP X.K ca)):PE X (.UnaryOp .Not a pos) (tM X.K ((ca.bnd view).bnd fun w=>lift (notW w))):=
 PE.imp (Znb ha) fun σ H Q h=>by
  obtain ⟨δ,Hs,M,t,δ',g,s,e,q⟩:=ZiT h
  refine ⟨δ,Hs,M,t,δ',g,s,e,fun v H' Hs' m M' g' st r s'=>?_⟩
  obtain ⟨Hs2,w,m2,v2,z⟩:=q v H' Hs' m M' g' st r s'
  cases v2 with
  | sc u _=>cases v with
   | bl t=>exact ⟨t,rfl,ZiU z⟩
   | _=>exact (Zez z).elim
  | nd n r=>exact (Zez z).elim
def RepL.at{K:Fg}{vs:List V}{m:Bud}{d:D}(r:RepL K H Hs vs ds m)(e:ds[j]?=some d):∃(v:V)(m1:Bud),vs[j]?=some v/\Rep K H Hs v d m1/\∀ b,m1 b<=m b:=r.sep.get e
def Outs.part(h:Outs K H Hs m d Q)(hm:∀ b,m b<=1)(hh:∀ b,m b=1->H b≠none)(l:∀ b,m1 b<=m b)(r:Rep K H Hs v d m1):Q v H:=
 h v H m1 (Same.refl _) (fun b=>le_trans (l b) (hm b)) (fun b e=>hh b (by have:=l b;have:=hm b;omega)) (fun b _=>l b) r
def ZnL(n:Nat)(i:Int):ixN' n i=ixN n i:=rfl
def ZpR:IxR X (r2W X.K ixW):=by
 intro value slice pins s σ H x y v u Q I rx ry h hsl
 obtain ⟨Hs,w1,w2,m1,m2,d,hs,h1,h2,v1,v2,e,o⟩:=h
 have fin:∀{ds:List D}{vs:List V}{i:Int},RepL X.K H Hs vs ds m1->((ixN' ds.length i).bind fun j=>ds[j]?)=some d->∃ z,atI vs i=some z/\Q z H:=fun{ds vs i} r e=>by
  simp only [bind_eq_some_iff] at e
  obtain ⟨j,e1,e2⟩:=e
  obtain ⟨z,m3,e3,rz,l⟩:=r.at e2
  refine ⟨z,?_,o.part h1 h2 (fun b=>by have:=l b;omega) rz⟩
  unfold atI
  rw [r.len,<- ZnL,e1]
  exact e3
 unfold ixW at e
 split at e
 . split at e
   . split at e
     . cases v1 with
       | nd n r=>cases v2;obtain ⟨z,e1,q⟩:=fin r e;exact Zhf value slice pins s σ H _ _ v u Q I rx ry ⟨_,_,_,z,rfl,rfl,.inl (.inl n),e1,q⟩ hsl
     . cases v1 with
       | nd n r=>cases v2;obtain ⟨z,e1,q⟩:=fin r e;exact Zhf value slice pins s σ H _ _ v u Q I rx ry ⟨_,_,_,z,rfl,rfl,n,e1,q⟩ hsl
     . cases v1 with
       | nd n r=>cases v2;obtain ⟨z,e1,q⟩:=fin r e;exact Zi7 value slice pins s σ H _ _ v u Q I rx ry ⟨_,_,_,z,rfl,rfl,.inl (.inl n),e1,q⟩ hsl
     . cases v1 with
       | nd n r=>cases v2;obtain ⟨z,e1,q⟩:=fin r e;exact Zi7 value slice pins s σ H _ _ v u Q I rx ry ⟨_,_,_,z,rfl,rfl,n,e1,q⟩ hsl
     . cases e
   all_goals cases e
 all_goals cases e
end
section
variable{e a b c:Expr}{es rest:List Expr}
def tG.mono{K:Fg}{c:M α}{R:Hp->Hp->St->α->V->Bud->Prop}{σ:St}{Q Q':VK}(h:tG K c R σ H Q)(w:∀ v H',Q v H'->Q' v H'):tG K c R σ H Q':=by
 obtain ⟨δ,Hs,M,a,δ',g,s,e,q⟩:=h
 exact ⟨δ,Hs,M,a,δ',g,s,e,fun v H' Hs' m M' g' st r s'=>w v H' (q v H' Hs' m M' g' st r s')⟩
def RepL.take(r:RepL K H Hs vs ds m)(n:Nat):RepL K H Hs (vs.take n) (ds.take n) m:=(r.sep.take n).repL
def RepL.drop(r:RepL K H Hs vs ds m)(n:Nat):RepL K H Hs (vs.drop n) (ds.drop n) m:=(r.sep.drop n).repL
def rSlW(K:Fg):V->Option Int->Option Int->Hp->VK->Prop:=fun x lo hi H Q=>∃(Hs:Hp)(w:W)(m:Bud)(d:D),Same Hs H/\(∀ b,m b<=1)/\(∀ b,m b=1->H b≠none)/\View K H Hs x w m/\slD w lo hi=some d/\Outs K H Hs m d Q
def ZpS:SlR X (rSlW X.K):=by
 intro pins s σ H x v vl vu lo hi sl Q I rx hsl pl pu h
 obtain ⟨Hs,w,m,d,hs,h1,h2,v1,e,o⟩:=h
 have go:∀{a:Addr}{vs:List V}{ds:List D},RepL X.K H Hs vs ds m->d=.node .lst true (cutD ds lo hi)->∀ p,H p=none->Q (.ref p) (upd H p (.lst (cutV vs lo hi))):=fun{a vs ds} r e p hp=>by
  subst e
  refine o.new h1 h2 hp (vs:=cutV vs lo hi) Zk ?_
  unfold cutV cutD
  rw [r.len]
  exact (r.drop _).take _
 unfold slD at e
 split at e
 . cases v1 with
   | nd n r=>exact Zhg pins s σ H _ v vl vu lo hi sl Q I rx hsl pl pu ⟨_,_,rfl,.inl (.inl n),go (a:=0) r (Option.some.inj e).symm⟩
 . cases v1 with
   | nd n r=>exact Zhg pins s σ H _ v vl vu lo hi sl Q I rx hsl pl pu ⟨_,_,rfl,n,go (a:=0) r (Option.some.inj e).symm⟩
 all_goals cases e
inductive tW(K:Fg)(c:M (Option Int))(σ:St)(H:Hp)(Q:Option Int->Hp->Prop):Prop
 | mk (δ:List D) (Hs:Hp) (M:Bud) (l:Option Int) (δ':List D) (h0:Good H Hs M) (h1:RepS K H Hs σ δ M) (h2:c δ=.ok (l,δ')) (h3:∀(H' Hs':Hp)(M':Bud),Good H' Hs' M'->Stp H Hs M H' Hs' M'->RepS K H' Hs' σ δ' M'->Q l H'):tW K c σ H Q
def PO.imp(h:PO X o t)(w:∀ σ H Q,t' σ H Q->t σ H Q):PO X o t':=fun pins s σ H Q I q=>h pins s σ H Q I (w σ H Q q)
def Zid:PO X none (tW X.K (M.ret none)):=PO.imp Zl3 fun σ H Q h=>by
 obtain ⟨δ,Hs,M,b,δ',g,s,e,q⟩:=h
 have:=Ze e
 cases this
 exact q H Hs M g (Stp.refl _ _ _) s
theorem Zax(ha:PE X a (tP X.K ca)):PO X (some a) (tW X.K ((ca.bnd view).bnd fun w=>lift (intP w))):=PO.imp (Zl4 ha) fun σ H Q h=>by
 obtain ⟨δ,Hs,M,l,δ',g,s,e,q⟩:=h
 obtain ⟨w,δ2,e,e5⟩:=Zb e
 obtain ⟨p,δ1,e1,e3⟩:=Zb e
 obtain ⟨e6,rfl⟩:=ZK e5
 refine ⟨δ,Hs,M,p,δ1,g,s,e1,fun x H2 Hs2 m1 M2 g2 st2 r1 s2=>?_⟩
 obtain ⟨Hs3,M3,g3,st3,v1,s3⟩:=Zaw (B:=m1) g2 s2 r1 e3
 have z:=Zo (m1:=fun _=>0) g (g2.re fun b=>by simp) (st2.drop (fun b=>by simp) g2.le) g3 st3
 have fin:=q H2 Hs3 M3 g3.re (z.2.1.drop (fun b=>by simp) z.1.le) s3
 cases v1 with
 | sc u _=>cases x with
  | int i=>cases e6;exact ⟨i,rfl,fin⟩
  | _=>cases e6
 | nd n r=>cases e6
variable{lo hi:Option Expr}{ca:M Op}{cl ch:M (Option Int)}{p2:Pos}
def ZcQ(ha:PE X a (tP X.K ca))(hl:PO X lo (tW X.K cl))(hh:PO X hi (tW X.K ch)):
 PE X (.Subscript a (.Slice lo hi none p2) pos) (tM X.K (ca.bnd fun p=>cl.bnd fun l=>ch.bnd fun h=>(view p).bnd fun x=>lift (slD x l h))):=
 PE.imp (ZjB ZpS ha hl hh) fun σ H Q h=>by
  obtain ⟨δ,Hs,M,d,δ',g,s,e,q⟩:=h
  obtain ⟨p,δ1,e1,e⟩:=Zb e
  obtain ⟨l,δ2,e2,e⟩:=Zb e
  obtain ⟨u,δ3,e3,e⟩:=Zb e
  obtain ⟨w,δ4,e4,e⟩:=Zb e
  obtain ⟨e7,rfl⟩:=ZK e
  refine ⟨δ,Hs,M,p,δ1,g,s,e1,fun x H1 Hs1 m1 M1 g1 st1 r1 s1=>⟨δ1,Hs1,M1,l,δ2,g1.re,s1,e2,fun H2 Hs2 M2 g2 st2 s2=>⟨δ2,Hs2,M2,u,δ3,g2,s2,e3,fun H3 Hs3 M3 g3 st3 s3=>?_⟩⟩⟩
  obtain ⟨G2,S2,k2⟩:=Zo g g1 st1 g2 st2
  obtain ⟨G3,S3,k3⟩:=Zo g G2 S2 g3 st3
  have r2:=RepP.frame st2.grow k2 r1
  have r3:=RepP.frame st3.grow (fun b hb hn=>k3 b hb hn) r2
  obtain ⟨Hs4,M4,g4,st4,v4,s4⟩:=Zaw (B:=m1) G3 s3 r3 e4
  have z:=Zo (m1:=fun _=>0) g (G3.re fun b=>by simp) (S3.drop (fun b=>by simp) G3.le) g4 st4
  have S4:Stp H Hs M H3 Hs4 (fun b=>m1 b+M4 b):=z.2.1.drop (fun b=>by simp) z.1.le
  have le:∀ b,m1 b+M4 b<=1:=g4.le
  exact ⟨Hs4,w,m1,d,g4.sub,fun b=>by have:=le b;omega,fun b hb=>g4.has b (by have:=le b;show m1 b+M4 b=1;omega),v4,e7,Zce S4 g4 s4 q⟩
theorem ZeK:∀{fs:List Str}{vs:List V}{ds:List D}{m:Bud}{d:D},RepL K H Hs vs ds m->fs.length=vs.length->Zct f fs ds=some d->∃(v:V)(m1:Bud),(fs.zip vs).lookup f=some v/\Rep K H Hs v d m1/\∀ b,m1 b<=m b
 | [],_,_,_,_,_,_,h=>by simp [Zct] at h
 | _::_,_,_,_,_,.nil _,hl,h=>by simp at hl
 | g::fs,v::vs,d'::ds,m,d,.cons (m1:=m1) (m2:=m2) x y c,hl,h=>by
  simp only [Zct] at h
  by_cases e:g=f
  . rw [if_pos e] at h
    cases h
    refine ⟨v,m1,?_,x,fun b=>by have:=c b;omega⟩
    subst e
    simp [List.lookup]
  . rw [if_neg e] at h
    obtain ⟨v',m',h1,h2,h3⟩:=ZeK y (by simpa using hl) h
    refine ⟨v',m',?_,h2,fun b=>by have:=c b;have:=h3 b;omega⟩
    rw [zip_cons_cons]
    have hb:(f == g)=false:=beq_eq_false_iff_ne.mpr (fun q=>e q.symm)
    simp only [List.lookup,hb]
    exact h1
def ZbL(hf:∀ C f,ok C f=true->Cls X.K C/\ZT X.K C f)(ha:PE X a (tP X.K ca))(hb:autoParam (attributeBase a f X.env (eval a X.env)=eval a X.env) Q9):
 PE X (.Attribute a f pos) (tM X.K ((ca.bnd view).bnd fun x=>lift (fldW ok f x))):=
 PE.imp (Znp ha hb) fun σ H Q h=>op1 (r:=fun x H1 Q=>∃ a C dx fs v,x=.ref a/\H1 a=some (.ins C dx fs)/\Cls X.K C/\ZT X.K C f/\fs.lookup f=some v/\Q v H1) h fun x H Hs w m d g h1 h2 v e o=>by
  unfold fldW at e
  split at e
  . split at e
    . rename_i C fs ds hok
      cases v with
      | nd n r=>
       obtain ⟨hl,dx,n⟩:=n
       obtain ⟨z,m1,e1,rz,l⟩:=ZeK r hl e
       exact ⟨_,C,dx,_,z,rfl,n,(hf C f hok).1,(hf C f hok).2,e1,o.part h1 h2 l rz⟩
    . cases e
  . cases e
def Zf:PA X [] (tPs X.K (M.ret [])):=PA.imp ZaL fun σ H Q h=>by
 obtain ⟨δ,Hs,M,b,δ',g,s,e,q⟩:=h
 have:=Ze e
 cases this
 exact q [] H Hs (fun _=>0) M (Za4 g) (stp0 _ _ _) trivial s
def Zd(ha:PE X e (tP X.K ca))(hr:PA X es (tPs X.K cs))(hs:autoParam (SE X e es) Q9):
 PA X (e::es) (tPs X.K (ca.bnd fun p=>cs.bnd fun ps=>M.ret (p::ps))):=PA.imp (ZP ha hr hs) fun σ H Q h=>by
 obtain ⟨δ,Hs,M,b,δ',g,s,e,q⟩:=h
 obtain ⟨p,δ1,e1,e⟩:=Zb e
 obtain ⟨ps,δ2,e2,e⟩:=Zb e
 have:=Ze e
 cases this
 refine ⟨δ,Hs,M,p,δ1,g,s,e1,fun x H1 Hs1 m1 M1 g1 st1 r1 s1=>⟨δ1,Hs1,M1,ps,_,g1.re,s1,e2,fun xs H2 Hs2 m2 M2 g2 st2 r2 s2=>?_⟩⟩
 obtain ⟨G2,S2,k2⟩:=Zo g g1 st1 g2 st2
 exact q (x::xs) H2 Hs2 (fun b=>m1 b+m2 b) M2 (G2.re fun b=>by omega) (S2.drop (fun b=>by omega) G2.le) ⟨m1,m2,r1.frame st2.grow k2,r2,fun b=>Nat.le_refl _⟩ s2
def Zu:PA X [] (tDs X.K (M.ret [])):=PA.imp ZaL fun σ H Q h=>by
 obtain ⟨δ,Hs,M,b,δ',g,s,e,q⟩:=h
 have:=Ze e
 cases this
 exact q [] H Hs (fun _=>0) M (Za4 g) (stp0 _ _ _) (.nil _) s
def Zg{c:M D}{cs:M (List D)}(ha:PE X e (tM X.K c))(hr:PA X es (tDs X.K cs))(hs:autoParam (SE X e es) Q9):
 PA X (e::es) (tDs X.K (c.bnd fun p=>cs.bnd fun ps=>M.ret (p::ps))):=PA.imp (ZP ha hr hs) fun σ H Q h=>by
 obtain ⟨δ,Hs,M,b,δ',g,s,e,q⟩:=h
 obtain ⟨p,δ1,e1,e⟩:=Zb e
 obtain ⟨ps,δ2,e2,e⟩:=Zb e
 have:=Ze e
 cases this
 refine ⟨δ,Hs,M,p,δ1,g,s,e1,fun x H1 Hs1 m1 M1 g1 st1 r1 s1=>⟨δ1,Hs1,M1,ps,_,g1.re,s1,e2,fun xs H2 Hs2 m2 M2 g2 st2 r2 s2=>?_⟩⟩
 obtain ⟨G2,S2,k2⟩:=Zo g g1 st1 g2 st2
 exact q (x::xs) H2 Hs2 (fun b=>m1 b+m2 b) M2 (G2.re fun b=>by omega) (S2.drop (fun b=>by omega) G2.le) (.cons (r1.frame st2.grow k2) r2 fun b=>Nat.le_refl _) s2
def Zhm{K:Fg}{cs:M (List D)}{f:List D->Option D}{σ:St}{Q:VK}(h:tM K (cs.bnd fun ds=>lift (f ds)) σ H Q):tDs K cs σ H fun vs H1=>∃(Hs:Hp)(m:Bud)(ds:List D)(d:D),(∀ b,m b<=1)/\(∀ b,m b=1->H1 b≠none)/\RepL K H1 Hs vs ds m/\f ds=some d/\Outs K H1 Hs m d Q:=by
 obtain ⟨δ,Hs,M,b,δ',g,s,e,q⟩:=h
 obtain ⟨ds,δ1,e1,e⟩:=Zb e
 obtain ⟨e2,rfl⟩:=ZK e
 refine ⟨δ,Hs,M,ds,_,g,s,e1,fun vs H1 Hs1 m1 M1 g1 st1 r1 s1=>⟨Hs1,m1,ds,b,fun b=>by have:m1 b+M1 b<=1:=g1.le b;omega,fun b hb=>g1.has b (by have:m1 b+M1 b<=1:=g1.le b;show m1 b+M1 b=1;omega),r1,e2,Zce st1 g1 s1 q⟩⟩
def Z1(h:PA X es (tDs X.K cs)):PE X (.List es pos) (tM X.K (cs.bnd fun ds=>lift (newL ds))):=PE.imp (Zi4 h) fun σ H Q hq=>by
 obtain ⟨δ,Hs,M,ds,δ',g,s,e,q⟩:=Zhm hq
 refine ⟨δ,Hs,M,ds,δ',g,s,e,fun vs H1 Hs1 m1 M1 g1 st1 r1 s1=>?_⟩
 obtain ⟨Hs2,m,ds,d,h1,h2,r,e,o⟩:=q vs H1 Hs1 m1 M1 g1 st1 r1 s1
 unfold newL at e
 split at e
 . rename_i hl
   cases e
   exact ⟨by rw [r.len];exact hl,fun p hp=>o.new h1 h2 hp (vs:=vs) Zk r⟩
 . cases e
def ZnM(h:PA X es (tDs X.K cs)):PE X (.Tuple es k pos) (tM X.K (cs.bnd fun ds=>lift (newT ds))):=PE.imp (Znr h) fun σ H Q hq=>by
 obtain ⟨δ,Hs,M,ds,δ',g,s,e,q⟩:=Zhm hq
 refine ⟨δ,Hs,M,ds,δ',g,s,e,fun vs H1 Hs1 m1 M1 g1 st1 r1 s1=>?_⟩
 obtain ⟨Hs2,m,ds,d,h1,h2,r,e,o⟩:=q vs H1 Hs1 m1 M1 g1 st1 r1 s1
 unfold newT at e
 split at e
 . rename_i hl
   cases e
   exact ⟨by rw [r.len];exact hl,fun p hp=>o.new h1 h2 hp (vs:=vs) Zk r⟩
 . cases e
end
def Views(K:Fg)(H Hs:Hp):List V->List W->Bud->Prop
 | [],[],_=>True
 | v::vs,w::ws,m=>∃ m1 m2:Bud,View K H Hs v w m1/\Views K H Hs vs ws m2/\∀ b,m1 b+m2 b<=m b
 | _,_,_=>False
theorem ZfU{K:Fg}{σ:St}{B:Bud}:∀{ps:List Op}{vs:List V}{Hs:Hp}{δ δ':List D}{M m:Bud}{ws:List W},Good H Hs (fun b=>B b+M b)->RepS K H Hs σ δ M->Za3 K H Hs σ vs ps m->views ps δ=.ok (ws,δ')->
 ∃ Hs' M',Good H Hs' (fun b=>B b+M' b)/\Stp H Hs (fun b=>B b+M b) H Hs' (fun b=>B b+M' b)/\Views K H Hs' vs ws m/\RepS K H Hs' σ δ' M'
 | [],[],Hs,δ,δ',M,m,ws,g,s,r,e=>by
  have:=Ze e
  cases this
  exact ⟨Hs,M,g,Stp.refl _ _ _,trivial,s⟩
 | [],_::_,_,_,_,_,_,_,_,_,r,_=>r.elim
 | _::_,[],_,_,_,_,_,_,_,_,r,_=>r.elim
 | p::ps,v::vs,Hs,δ,δ',M,m,ws,g,s,⟨m1,m2,r1,r2,l⟩,e=>by
  obtain ⟨w,δ1,e1,e⟩:=Zb e
  obtain ⟨ws',δ2,e2,e⟩:=Zb e
  have:=Ze e
  cases this
  obtain ⟨Hs1,M1,g1,st1,v1,s1⟩:=Zaw g s r1 e1
  obtain ⟨Hs2,M2,g2,st2,v2,s2⟩:=ZfU g1 s1 (r2.frame st1.grow fun _ _ _=>rfl) e2
  have z:=Zo (m1:=fun _=>0) g (g1.re fun b=>by simp) (st1.drop (fun b=>by simp) g1.le) g2 st2
  exact ⟨Hs2,M2,g2,z.2.1.drop (fun b=>by simp) z.1.le,⟨m1,m2,v1.frame st2.grow,v2,l⟩,s2⟩
inductive rNW(K:Fg)(f:List W->Option D)(vs:List V)(H:Hp)(Q:VK):Prop
 | mk (Hs:Hp) (ws:List W) (m:Bud) (d:D) (h0:Same Hs H) (h1:(∀ b,m b<=1)) (h2:(∀ b,m b=1->H b≠none)) (h3:Views K H Hs vs ws m) (h4:f ws=some d) (h5:Outs K H Hs m d Q):rNW K f vs H Q
def opN(h:tM K (cs.bnd fun ps=>(views ps).bnd fun ws=>lift (f ws)) σ H Q):tPs K cs σ H fun vs H1=>rNW K f vs H1 Q:=by
 obtain ⟨δ,Hs,M,d,δ',g,s,e,q⟩:=h
 obtain ⟨ps,δ1,e1,e⟩:=Zb e
 obtain ⟨ws,δ2,e2,e⟩:=Zb e
 obtain ⟨e3,rfl⟩:=ZK e
 refine ⟨δ,Hs,M,ps,δ1,g,s,e1,fun vs H1 Hs1 m1 M1 g1 st1 r1 s1=>?_⟩
 obtain ⟨Hs2,M2,g2,st2,v2,s2⟩:=ZfU (B:=m1) g1 s1 r1 e2
 have z:=Zo (m1:=fun _=>0) g (g1.re fun b=>by simp) (st1.drop (fun b=>by simp) g1.le) g2 st2
 have S:Stp H Hs M H1 Hs2 (fun b=>m1 b+M2 b):=z.2.1.drop (fun b=>by simp) z.1.le
 have le:∀ b,m1 b+M2 b<=1:=g2.le
 exact ⟨Hs2,ws,m1,d,g2.sub,fun b=>by have:=le b;omega,fun b hb=>g2.has b (by have:=le b;show m1 b+M2 b=1;omega),v2,e3,Zce S g2 s2 q⟩
theorem Views.one(h:Views K H Hs vs [w] m):∃(v:V)(m1:Bud),vs=[v]/\View K H Hs v w m1/\∀ b,m1 b<=m b:=by
 cases vs with
 | nil=>exact h.elim
 | cons v vs=>
  obtain ⟨m1,m2,h1,h2,l⟩:=h
  cases vs with
  | nil=>exact ⟨v,m1,rfl,h1,fun b=>by have:=l b;omega⟩
  | cons _ _=>exact h2.elim
theorem Views.two(h:Views K H Hs vs [w,w'] m):∃(v v':V)(m1 m2:Bud),vs=[v,v']/\View K H Hs v w m1/\View K H Hs v' w' m2/\∀ b,m1 b+m2 b<=m b:=by
 cases vs with
 | nil=>exact h.elim
 | cons v vs=>
  obtain ⟨m1,m2,h1,h2,l⟩:=h
  obtain ⟨v',m3,rfl,h3,l'⟩:=Views.one h2
  exact ⟨v,v',m1,m3,rfl,h1,h3,fun b=>by have:=l b;have:=l' b;omega⟩
section
variable{e:Expr}{es:List Expr}{p:Pos}{x:Str}{id ty:String}{f:BF}{cs:M (List Op)}
def Z5(hc:ZZ X (.builtin id) (rNW X.K (bfW f)))(hm:X.mg x=none)(hv:bootBuiltins x=some (.builtin id))(ha:PA X (e::es) (tPs X.K cs))(hz:autoParam (glOk X.env.scope x=true) Q8)(he:autoParam (SE X e es) Q9)(hpl:autoParam (SFx X pos es) Q9):
 PE X (.Call (.Name x p) (e::es) [] pos) (tM X.K (cs.bnd fun ps=>(views ps).bnd fun ws=>lift (bfW f ws))):=PE.imp (ZcJ hc (glk hz) hm hv ha (nmk hz) (dbk hz) he hpl) fun σ H Q h=>opN h
def ZfV(hc:ZZ X (.type ty) (rNW X.K (bfW f)))(hm:X.mg x=none)(hv:bootBuiltins x=some (.type ty))(ha:PA X (e::es) (tPs X.K cs))(hz:autoParam (glOk X.env.scope x=true) Q8)(he:autoParam (SE X e es) Q9)(hpl:autoParam (SFx X pos es) Q9):
 PE X (.Call (.Name x p) (e::es) [] pos) (tM X.K (cs.bnd fun ps=>(views ps).bnd fun ws=>lift (bfW f ws))):=PE.imp (Zi6 hc (glk hz) hm hv ha (nmk hz) (dbk hz) he hpl) fun σ H Q h=>opN h
def Zan:ZZ X (.builtin "len") (rNW X.K (bfW .len)):=by
 intro pins s σ H xs us Q I r h
 obtain ⟨Hs,ws,m,d,hs,h1,h2,v,e,o⟩:=h
 replace e:lenB _=_:=e
 unfold lenB at e
 split at e
 . obtain ⟨y,m1,rfl,v,l⟩:=v.one
   split at e
   . split at e
     all_goals first
      | (cases e;done)
      | (cases v with
      | nd n r'=>
       have hl:=r'.len
       cases e
       first
       | exact Zbs pins s σ H _ us Q I r ⟨_,_,rfl,.inl (.inl (.inl n)),by rw [hl];exact o.sc⟩
       | exact Zbs pins s σ H _ us Q I r ⟨_,_,rfl,.inl n,by rw [hl];exact o.sc⟩
       | exact Zbs pins s σ H _ us Q I r ⟨_,_,rfl,.inr n,by rw [hl];exact o.sc⟩
       | exact Zbs pins s σ H _ us Q I r ⟨_,_,rfl,.inr (.inl (.inl n)),by rw [hl];exact o.sc⟩
       | (obtain ⟨n1,n2⟩:=n
          exact ZiD pins s σ H _ us Q I r ⟨_,_,rfl,n2,by rw [length_zip,n1,Nat.min_self,hl];exact o.sc⟩))
   all_goals cases e
 all_goals cases e
def ZiV:ZZ X (.type "int") (rNW X.K (bfW .int)):=by
 intro pins s σ H xs us Q I r h
 obtain ⟨Hs,ws,m,d,hs,h1,h2,v,e,o⟩:=h
 replace e:intB _=_:=e
 unfold intB at e
 split at e<;>first|(rename_i z;cases z;done)|skip
 all_goals first
  | (obtain ⟨y,m1,rfl,v,l⟩:=v.one
     cases v
     cases e
     first
     | exact Zfb pins s σ H _ us Q I r (.inl ⟨_,rfl,o.sc⟩)
     | exact Zfb pins s σ H _ us Q I r (.inr ⟨_,rfl,o.sc⟩))
  | (obtain ⟨y,m1,rfl,v,l⟩:=v.one
     cases v
     split at e
     . rename_i n hz
       split at e
       . rename_i hl
         cases e
         exact ZfO pins s σ H _ us Q I r ⟨_,n,rfl,hz,hl,o.sc⟩
       . cases e
     . cases e)
  | cases e
def ZlU:ZZ X (.type "list") (rNW X.K (bfW .list)):=by
 intro pins s σ H xs us Q I r h
 obtain ⟨Hs,ws,m,d,hs,h1,h2,v,e,o⟩:=h
 replace e:ZhV _=_:=e
 unfold ZhV at e
 split at e
 . obtain ⟨y,m1,rfl,v,l⟩:=v.one
   split at e
   . split at e
     all_goals first
      | (cases e;done)
      | (cases v with
      | nd n r'=>
       cases e
       have go:∀ p,H p=none->Q (.ref p) (upd H p (.lst _)):=fun p hp=>o.new h1 h2 hp Zk (r'.mono l)
       first
       | exact Zbt pins s σ H _ us Q I r ⟨_,_,rfl,.inl (.inl (.inl n)),go⟩
       | exact Zbt pins s σ H _ us Q I r ⟨_,_,rfl,.inl n,go⟩
       | exact Zbt pins s σ H _ us Q I r ⟨_,_,rfl,.inr n,go⟩
       | exact Zbt pins s σ H _ us Q I r ⟨_,_,rfl,.inr (.inl (.inl n)),go⟩)
   . cases e
 . cases e
theorem Zfo:∀{ds:List D}{vs:List V}{m:Bud}{is:List Bool},RepL K H Hs vs ds m->ZaT ds=some is->vs=is.map V.bl
 | [],_,_,is,.nil _,h=>by simp only [ZaT,Option.some.injEq] at h;subst h;rfl
 | d::ds,_,_,is,.cons x y _,h=>by
  unfold ZaT at h
  split at h
  . rename_i hh;cases hh
  . rename_i i r hh
    injection hh with h1 h2
    subst h1 h2
    (simp only [map_eq_some_iff] at h)
    obtain ⟨js,h,rfl⟩:=h
    cases x
    rw [Zfo y h]
    rfl
  . cases h
termination_by structural a=>a
theorem Zfp:∀(is:List Int)(us:List Value),Vals (is.map V.int) us->∀(i:Nat)(v:Value),us[i]?=some v->∃ t,v=.int (is.getD i 0) t
 | [],us,r,i,v,h=>by cases r;simp at h
 | n::is,us,r,i,v,h=>by
  cases r with
  | cons r rr=>
   cases i with
   | zero=>
    simp at h
    subst h
    obtain ⟨t,rfl⟩:=r
    exact ⟨t,rfl⟩
   | succ i=>exact Zfp is _ rr i v (by simpa using h)
def ZgF:∀(is:List Int),preSum (fun i=>is.getD i 0) is.length=is.sum:=by
 intro is
 have h:∀ n,n<=is.length->preSum (fun i=>is.getD i 0) n=(is.take n).sum:=by
  intro n
  induction n with
  | zero=>intro _;simp [preSum]
  | succ n ih=>
   intro hn
   have:=ih (by omega)
   show preSum (fun i=>is.getD i 0) n+is.getD n 0=_
   rw [this,PyProof.Rows.take_sum_succ is n (by omega)]
 have:=h is.length (Nat.le_refl _)
 rw [List.take_length] at this
 exact this
def Zf5(hc:X.calm=true):ZZ X (.builtin "sum") (fun xs H Q=>∃(l:Addr)(is:List Int),xs=[.ref l]/\SqL X.K H l (is.map V.int)/\Q (.int is.sum) H):=by
 intro pins s σ H xs us Q I r h
 obtain ⟨l,is,rfl,hl,q⟩:=h
 obtain ⟨u,rfl,ru⟩:=r.one
 cases (show u=Value.ref l from ru)
 obtain ⟨its,rv,p,hz⟩:=I.list hl
 have hlt:l < s.heap.objs.size:=by obtain ⟨_,e,_⟩:=p.isList;exact Heap.lt_size e
 refine call_sum_walkG (wpAny_pyIter_list p.isList ?_)
 refine ⟨s.heap.objs.size,[s.heap.objs.size,l],[s.heap.objs.size],its.toArray.size,_,_,fun i=>is.getD i 0,rfl,Walks.list (A:=X.A.in1) (I.ok.hd hc) _ l (ne_of_lt hlt) its.toArray,
  ⟨⟨_,Heap.get?_push_size _ rfl,rfl,rfl⟩,p.isList.push _⟩,fun b hb=>?_,fun i v hP=>?_,fun h' tk t' hk=>?_⟩
 . have e:∀ o,(s.heap.push o).objs.size=s.heap.objs.size+1:=fun o=>by simp [Heap.push]
   rw [e]
   rcases List.mem_cons.mp hb with q|q
   . rw [q]
     exact Nat.lt_succ_self _
   . rw [List.mem_singleton.mp q]
     exact Nat.lt_succ_of_lt hlt
 . exact Zfp is its rv i v (by simpa using hP)
 . have e:preSum (fun i=>is.getD i 0) its.toArray.size=is.sum:=by
    rw [size_toArray,<- rv.length,length_map]
    exact ZgF is
   rw [e]
   exact ⟨.int _,H,I.kept (t':=tk) (Zhj hk),⟨_,rfl⟩,q⟩
def Zck(hc:X.calm=true):ZZ X (.builtin "sum") (rNW X.K (bfW .sum)):=by
 intro pins s σ H xs us Q I r h
 obtain ⟨Hs,ws,m,d,hs,h1,h2,v,e,o⟩:=h
 replace e:sumB _=_:=e
 unfold sumB at e
 split at e<;>first|(rename_i z;cases z;done)|skip
 all_goals first
  | (obtain ⟨y,m1,rfl,v,l⟩:=v.one
     cases v with
     | nd n r'=>
      simp only [map_eq_some_iff] at e
      obtain ⟨is,e,rfl⟩:=e
      have ei:=Zci r' e
      subst ei
      exact Zf5 hc pins s σ H _ us Q I r ⟨_,_,rfl,.inl (.inl n),o.sc⟩)
  | cases e
def ZnN(hc:X.calm=true):ZZ X (.builtin "all") (rNW X.K (bfW .all)):=by
 intro pins s σ H xs us Q I r h
 obtain ⟨Hs,ws,m,d,hs,h1,h2,v,e,o⟩:=h
 replace e:allB _=_:=e
 unfold allB at e
 split at e<;>first|(rename_i z;cases z;done)|skip
 all_goals first
  | (obtain ⟨y,m1,rfl,v,l⟩:=v.one
     cases v with
     | nd n r'=>
      simp only [map_eq_some_iff] at e
      obtain ⟨is,e,rfl⟩:=e
      have ei:=Zfo r' e
      subst ei
      exact ZjT hc pins s σ H _ us Q I r ⟨_,_,rfl,.inl (.inl n),o.sc⟩)
  | cases e
def ZiW(hc:X.calm=true):ZZ X (.builtin "max") (rNW X.K (bfW .max)):=by
 intro pins s σ H xs us Q I r h
 obtain ⟨Hs,ws,m,d,hs,h1,h2,v,e,o⟩:=h
 replace e:maxB _=_:=e
 unfold maxB at e
 split at e<;>first|(rename_i z;cases z;done)|skip
 all_goals first
  | (obtain ⟨y,y',m1,m2,rfl,v,v',l⟩:=v.two
     cases v
     cases v'
     cases e
     exact Zi2 hc pins s σ H _ us Q I r ⟨_,_,rfl,o.sc⟩)
  | cases e
end
noncomputable def kitB(a b:String):Option Bool:=if (Value.type a == Value.type b)=true then some true else if kitMeta b=true then (PySem.fastBuiltinMro a).map (·.contains (.type b)) else none
def Zcf(K:Fg)(a b:String):kitOne K (.type a) (.type b)=kitB a b:=rfl
noncomputable def tyS:Ty->Option String
 | .int=>some "int"|.bool=>some "bool"|.str=>some "str"|.list=>some "list"|.tuple=>some "tuple"|.dict=>some "dict"|.own _=>none
def ZpT:kitB "int" "int"=some true:=by decide +kernel
def ZpU:kitB "bool" "int"=some true:=by decide +kernel
def ZpV:kitB "str" "int"=some false:=by decide +kernel
def ZpW:kitB "NoneType" "int"=some false:=by decide +kernel
def ZpX:kitB "list" "int"=some false:=by decide +kernel
def ZpY:kitB "tuple" "int"=some false:=by decide +kernel
def ZpZ:kitB "bool" "bool"=some true:=by decide +kernel
def Zqa:kitB "int" "bool"=some false:=by decide +kernel
def Zqb:kitB "str" "bool"=some false:=by decide +kernel
def Zqc:kitB "NoneType" "bool"=some false:=by decide +kernel
def Zqd:kitB "list" "bool"=some false:=by decide +kernel
def Zqe:kitB "tuple" "bool"=some false:=by decide +kernel
def Zqf:kitB "str" "str"=some true:=by decide +kernel
def Zqg:kitB "int" "str"=some false:=by decide +kernel
def Zqh:kitB "bool" "str"=some false:=by decide +kernel
def Zqi:kitB "NoneType" "str"=some false:=by decide +kernel
def Zqj:kitB "list" "str"=some false:=by decide +kernel
def Zqk:kitB "tuple" "str"=some false:=by decide +kernel
def Zql:kitB "list" "list"=some true:=by decide +kernel
def Zqm:kitB "tuple" "list"=some false:=by decide +kernel
def Zqn:kitB "int" "list"=some false:=by decide +kernel
def Zqo:kitB "bool" "list"=some false:=by decide +kernel
def Zqp:kitB "str" "list"=some false:=by decide +kernel
def Zqq:kitB "NoneType" "list"=some false:=by decide +kernel
def Zqr:kitB "tuple" "tuple"=some true:=by decide +kernel
def Zqs:kitB "list" "tuple"=some false:=by decide +kernel
def Zqt:kitB "int" "tuple"=some false:=by decide +kernel
def Zqu:kitB "bool" "tuple"=some false:=by decide +kernel
def Zqv:kitB "str" "tuple"=some false:=by decide +kernel
def Zqw:kitB "NoneType" "tuple"=some false:=by decide +kernel
theorem Zqx(hn:tyS t=some n)(hv:View K H Hs v w m)(h:tyW t w=some b):∃ tv,TyOf K H v tv/\kitOne K tv (.type n)=some b:=by
 cases hv with
 | sc v _=>
  cases t<;>cases hn<;>cases v<;>cases h<;>first
   | exact ⟨_,.int _,by rw [Zcf];first|exact ZpT|exact Zqa|exact Zqg|exact Zqn|exact Zqt⟩
   | exact ⟨_,.bl _,by rw [Zcf];first|exact ZpU|exact ZpZ|exact Zqh|exact Zqo|exact Zqu⟩
   | exact ⟨_,.str _,by rw [Zcf];first|exact ZpV|exact Zqb|exact Zqf|exact Zqp|exact Zqv⟩
   | exact ⟨_,.non,by rw [Zcf];first|exact ZpW|exact Zqc|exact Zqi|exact Zqq|exact Zqw⟩
 | @nd a k vs ds m n r=>
  cases t<;>cases hn<;>cases k<;>cases h<;>first
   | exact ⟨_,.lst n,by rw [Zcf];first|exact ZpX|exact Zqd|exact Zqj|exact Zql|exact Zqs⟩
   | exact ⟨_,.tup n,by rw [Zcf];first|exact ZpY|exact Zqe|exact Zqk|exact Zqm|exact Zqr⟩
section
def ZnO(hn:tyS t=some n)(hg:Gl X "isinstance")(hm:X.mg "isinstance"=none)(ha:PE X a (tP X.K ca))(hc:PE X c (tC (.ty n)))(hs:autoParam (starEach [a,c] X.env=[(false,eval a X.env),(false,eval c X.env)]) Q9)
 (hs1:autoParam (starEach [c] X.env=[(false,eval c X.env)]) Q9):
 PE X (.Call (.Name "isinstance" p) [a,c] [] pos) (tM X.K ((ca.bnd fun p=>(M.ret ([]:List Op)).bnd fun ps=>M.ret (p::ps)).bnd fun ps=>(views ps).bnd fun ws=>lift (bfW (.isi t) ws))):=
 PE.imp (ZcJ (ZjS (.ty n) (.type n) rfl fun u h=>h) hg hm Zcg (ZP ha (ZP hc ZaL (by show _=_;rw [hs1];rfl)) (by show _=_;rw [hs,hs1])) (by decide) (by decide) (by show _=_;rw [hs,hs1]) (by show _=_;rw [hs1];rfl)) fun σ H Q h=>by
  have h2:tM X.K ((ca.bnd view).bnd fun w=>lift (bfW (.isi t) [w])) σ H Q:=by
   obtain ⟨δ,Hs,M,d,δ',g,s,e,q⟩:=h
   refine ⟨δ,Hs,M,d,δ',g,s,?_,q⟩
   obtain ⟨ps,δ1,e1,e⟩:=Zb e
   obtain ⟨pp,δ2,e2,e3⟩:=Zb e1
   obtain ⟨z,δ3,e4,e5⟩:=Zb e3
   have:=Ze e4
   cases this
   have:=Ze e5
   cases this
   obtain ⟨ws,δ4,e6,e⟩:=Zb e
   obtain ⟨w,δ5,e7,e8⟩:=Zb e6
   obtain ⟨z,δ6,e9,e10⟩:=Zb e8
   have:=Ze e9
   cases this
   have:=Ze e10
   cases this
   show T.M.bnd (ca.bnd view) _ δ=_
   unfold T.M.bnd
   rw [e2]
   dsimp only
   rw [e7]
   exact e
  refine op1 (r:=fun x H1 Q=>∃ x' t' b,[x,V.ty n]=[x',V.ty n]/\TyOf X.K H1 x' t'/\kitOne X.K t' (.type n)=some b/\Q (.bl b) H1) h2 fun x H Hs w m d g h1 h2 v e o=>?_
  replace e:=Option.map_eq_some_iff.mp (show Option.map _ (tyW _ _)=_ from e)
  obtain ⟨b,e,rfl⟩:=e
  obtain ⟨tv,h3,h4⟩:=Zqx hn v e
  exact ⟨x,tv,b,rfl,h3,h4,o.sc⟩
end
inductive spF(K:Fg)(F:List D->Rs (D×List D))(vs:List V)(H:Hp)(Q:VK)(E:XK):Prop
 | mk (ds:List D) (Hs:Hp) (m:Bud) (d:D) (ds':List D) (h0:Good H Hs m) (h1:RepL K H Hs vs ds m) (h2:F ds=.ok (d,ds')) (h3:∀(v:V)(H' Hs':Hp)(m1 m':Bud),Good H' Hs' (fun b=>m1 b+m' b)->Stp H Hs m H' Hs' (fun b=>m1 b+m' b)->Rep K H' Hs' v d m1->RepL K H' Hs' vs ds' m'->Q v H'):spF K F vs H Q E
theorem ZlV{K:Fg}{σ:St}{B m M:Bud}{p:Op}{v:V}{d:D}(g:Good H Hs (fun b=>B b+(m b+M b)))(s:RepS K H Hs σ δ M)(r:RepP K H Hs σ v p m)(e:takeA lend p δ=.ok (d,δ')):
 ∃ Hs' m' M',Good H Hs' (fun b=>B b+(m' b+M' b))/\Stp H Hs (fun b=>B b+(m b+M b)) H Hs' (fun b=>B b+(m' b+M' b))/\Rep K H Hs' v d m'/\RepS K H Hs' σ δ' M'/\∀ b,m' b+M' b<=m b+M b:=by
 cases p with
 | tmp d'=>
  have:=Ze e
  cases this
  exact ⟨Hs,m,M,g,Stp.refl _ _ _,r,s,fun b=>Nat.le_refl _⟩
 | late i=>
  have r:σ[i]?=some (some v):=r
  have same:∀{d:D},δ[i]?=some d->d≠.hole->(∀ m1,Rep K H Hs v d m1->Rep K H Hs v d (fun _=>0))->∃ Hs' m' M',Good H Hs' (fun b=>B b+(m' b+M' b))/\Stp H Hs (fun b=>B b+(m b+M b)) H Hs' (fun b=>B b+(m' b+M' b))/\Rep K H Hs' v d m'/\RepS K H Hs' σ δ M'/\∀ b,m' b+M' b<=m b+M b:=fun{d} hi hn hz=>by
   obtain ⟨v',m1,m2,e1,q,l,f⟩:=s.slot hi hn
   rw [r] at e1
   cases e1
   exact ⟨Hs,fun _=>0,M,g.re fun b=>by (try simp);(try omega),(Stp.refl H Hs _).drop (fun b=>by (try simp);(try omega)) g.le,hz _ q,s,fun b=>by (try simp);(try omega)⟩
  unfold takeA at e
  dsimp only at e
  split at e
  . rename_i u hi
    cases e
    exact same hi (by simp) fun m1 q=>by cases q;exact .sc _ _
  . rename_i k ds hi
    cases e
    exact same hi (by simp) fun m1 q=>by cases q with|shd n q=>exact .shd n q
  . rename_i k ds hi
    obtain ⟨v',m1,m2,e1,q,l,f⟩:=s.slot hi (by simp)
    rw [r] at e1
    cases e1
    split at e
    . cases e
      refine ⟨Hs,m1,m2,g.re fun b=>by have:=l b;omega,(Stp.refl H Hs _).drop (fun b=>by have:=l b;omega) g.le,q,?_,fun b=>by have:=l b;omega⟩
      have z:=f H Hs (some v) .hole (fun _=>0) (Same.refl _) (fun _ _ _=>rfl) (.inl rfl)
      rw [Zad r] at z
      exact z.mono fun b=>by simp
    . cases e
      have g2:Good H Hs (fun b=>m1 b+(B b+m2 b)):=g.re fun b=>by have:=l b;omega
      have hsame:=Zbk g2 (m:=m1) fun b=>by omega
      have r2:=Rep.share hsame (ZcA (H:=H) (Hs:=Hs) (m:=m1)) q
      have st:=Stp.share g2
      refine ⟨shH H Hs m1,fun _=>0,m2,g2.share.re fun b=>by simp,⟨fun b o h _=>h,fun b h=>?_,st.grow,fun b h h'=>?_,fun b h=>h⟩,r2,?_,fun b=>by have:=l b;simp;omega⟩
      . have h:B b+(0+m2 b)=1:=h
        have l0:B b+(m b+M b)<=1:=g.le b
        have:=l b
        left
        show B b+(m b+M b)=1
        omega
      . rcases st.shr b h h' with z|z
        . have z:m1 b+(B b+m2 b)=1:=z
          have l0:B b+(m b+M b)<=1:=g.le b
          have:=l b
          left
          show B b+(m b+M b)=1
          omega
        . exact .inr z
      . have z:=f H (shH H Hs m1) (some v) (.node k false (shrL ds)) (fun _=>0) hsame (fun _ _ _=>rfl) (.inr ⟨v,rfl,r2⟩)
        rw [Zad r] at z
        exact z.mono fun b=>by simp
  . cases e
theorem Zb8{K:Fg}{σ:St}:∀{ps:List Op}{vs:List V}{Hs:Hp}{δ δ':List D}{B M m:Bud}{ds:List D},Good H Hs (fun b=>B b+(m b+M b))->RepS K H Hs σ δ M->Za3 K H Hs σ vs ps m->ZJ lend ps δ=.ok (ds,δ')->
 ∃ Hs' m' M',Good H Hs' (fun b=>B b+(m' b+M' b))/\Stp H Hs (fun b=>B b+(m b+M b)) H Hs' (fun b=>B b+(m' b+M' b))/\RepL K H Hs' vs ds m'/\RepS K H Hs' σ δ' M'
 | [],[],Hs,δ,δ',B,M,m,ds,g,s,r,e=>by
  have:=Ze e
  cases this
  exact ⟨Hs,m,M,g,Stp.refl _ _ _,.nil _,s⟩
 | [],_::_,_,_,_,_,_,_,_,_,_,r,_=>r.elim
 | _::_,[],_,_,_,_,_,_,_,_,_,r,_=>r.elim
 | p::ps,v::vs,Hs,δ,δ',B,M,m,ds,g,s,⟨n1,n2,r1,r2,l⟩,e=>by
  obtain ⟨d,δ1,e1,e⟩:=Zb e
  obtain ⟨ds',δ2,e2,e⟩:=Zb e
  have:=Ze e
  cases this
  have g0:Good H Hs (fun b=>(B b+n2 b)+(n1 b+M b)):=g.re fun b=>by have:=l b;omega
  obtain ⟨Hs1,m1,M1,g1,st1,q1,s1,l1⟩:=ZlV g0 s r1 e1
  have g1':Good H Hs1 (fun b=>(B b+m1 b)+(n2 b+M1 b)):=g1.re fun b=>by omega
  obtain ⟨Hs2,m2,M2,g2,st2,q2,s2⟩:=Zb8 g1' s1 (r2.frame st1.grow fun _ _ _=>rfl) e2
  have S0:Stp H Hs (fun b=>B b+(m b+M b)) H Hs1 (fun b=>(B b+m1 b)+(n2 b+M1 b)):=by
   refine ⟨fun b o h _=>h,fun b h=>?_,st1.grow,fun b h h'=>?_,fun b h=>h⟩
   . have h:(B b+m1 b)+(n2 b+M1 b)=1:=h
     rcases st1.own b (show (B b+n2 b)+(m1 b+M1 b)=1 by omega) with z|z
     . have z:(B b+n2 b)+(n1 b+M b)=1:=z
       have l0:B b+(m b+M b)<=1:=g.le b
       have:=l b
       left
       show B b+(m b+M b)=1
       omega
     . exact .inr z
   . rcases st1.shr b h h' with z|z
     . have z:(B b+n2 b)+(n1 b+M b)=1:=z
       have l0:B b+(m b+M b)<=1:=g.le b
       have:=l b
       left
       show B b+(m b+M b)=1
       omega
     . exact .inr z
  have z:=Zo (m1:=fun _=>0) g (g1'.re fun b=>by simp) (S0.drop (fun b=>by simp) g1'.le) g2 st2
  have S:Stp H Hs (fun b=>B b+(m b+M b)) H Hs2 (fun b=>(B b+m1 b)+(m2 b+M2 b)):=z.2.1.drop (fun b=>by simp) z.1.le
  exact ⟨Hs2,fun b=>m1 b+m2 b,M2,g2.re fun b=>by dsimp only;omega,S.drop (fun b=>by dsimp only;omega) g2.le,.cons (q1.frame st2.grow fun _ _ _=>rfl) q2 fun b=>Nat.le_refl _,s2⟩
theorem ZaN:∀{ps:List Op}{vs:List V}{δ δ':List D}{M m:Bud}{ds:List D}{u:Unit},RepS K H Hs σ δ M->RepL K H Hs vs ds m->(∀ i v,(.late i,v)∈ps.zip vs->σ[i]?=some (some v))->Z0 ps ds δ=.ok (u,δ')->RepS K H Hs σ δ' (fun b=>m b+M b)
 | [],vs,δ,δ',M,m,ds,u,s,r,hl,e=>by
  have:=Ze (show T.M.ret () δ=Rs.ok (u,δ') by unfold Z0 at e;exact e)
  cases this
  exact s.mono fun b=>by omega
 | p::ps,[],δ,δ',M,m,ds,u,s,r,hl,e=>by
  cases r
  have:=Ze (show T.M.ret () δ=Rs.ok (u,δ') by unfold Z0 at e;exact e)
  cases this
  exact s.mono fun b=>by omega
 | p::ps,v::vs,δ,δ',M,m,ds,u,s,r,hl,e=>by
  cases r with
  | @cons _ d _ ds' m1 m2 _ x y l=>
   unfold Z0 at e
   obtain ⟨_,δ1,e1,e2⟩:=Zb e
   have hl':∀ i v,(.late i,v)∈ps.zip vs->σ[i]?=some (some v):=fun i v h=>hl i v (by rw [zip_cons_cons];exact mem_cons_of_mem _ h)
   have go:∀{M1:Bud},RepS K H Hs σ δ1 M1->(∀ b,M1 b<=m1 b+M b)->RepS K H Hs σ δ' (fun b=>m b+M b):=fun{M1} s1 l1=>
    (ZaN s1 y hl' e2).mono fun b=>by have:=l b;have:=l1 b;omega
   cases p with
   | tmp d'=>
    have:=Ze e1
    cases this
    exact go s fun b=>by omega
   | late i=>
    have hi:=hl i v (by rw [zip_cons_cons];exact mem_cons_self)
    unfold Zav at e1
    dsimp only at e1
    split at e1
    . rename_i hh
      cases e1
      obtain ⟨o,n1,n2,q1,q2,q3,f⟩:=s.focus hh
      have z:=f (RepO K H Hs) (some v) d m1 (fun a d m' _ q=>q) (.inr ⟨v,rfl,x⟩)
      rw [Zad hi] at z
      exact go z fun b=>by have:=q3 b;omega
    . cases e1
      exact go s fun b=>by omega
theorem lates:∀{ps:List Op}{vs:List V}{m:Bud},Za3 K H Hs σ vs ps m->∀ i v,(.late i,v)∈ps.zip vs->σ[i]?=some (some v)
 | [],[],_,_,i,v,h=>by simp at h
 | [],_::_,_,r,_,_,_=>r.elim
 | _::_,[],_,r,_,_,_=>r.elim
 | p::ps,w::vs,_,⟨m1,m2,r1,r2,_⟩,i,v,h=>by
  rw [zip_cons_cons] at h
  rcases List.mem_cons.mp h with e|e
  . injection e with e1 e2
    subst e1 e2
    exact r1
  . exact lates r2 i v e
theorem ZfW{K:Fg}{σ:St}{M M1:Bud}{d:D}{ps:List Op}{vs:List V}{Q:VK}{E:XK}(g:Good H Hs M)(g1:Good H1 Hs1 (fun b=>m1 b+M1 b))(st1:Stp H Hs M H1 Hs1 (fun b=>m1 b+M1 b))
 (r1:Za3 K H1 Hs1 σ vs ps m1) (s1:RepS K H1 Hs1 σ δ1 M1) (e:ZaU fi ps δ1=.ok (d,δ'))
 (q:∀(v:V)(H' Hs':Hp)(m M':Bud),Good H' Hs' (fun b=>m b+M' b)->Stp H Hs M H' Hs' (fun b=>m b+M' b)->Rep K H' Hs' v d m->RepS K H' Hs' σ δ' M'->Q v H'):spF K fi.run vs H1 Q E:=by
 unfold ZaU at e
 obtain ⟨ds,δ2,e2,e⟩:=Zb e
 cases hF:fi.run ds with
 | ok r=>
  obtain ⟨d',ds'⟩:=r
  rw [hF] at e
  dsimp only at e
  obtain ⟨u,δ3,e3,e⟩:=Zb e
  have:=Ze e
  cases this
  obtain ⟨Hs2,m2,M2,g2,st2,q2,s2⟩:=Zb8 (B:=fun _=>0) (g1.re fun b=>by simp) s1 r1 e2
  have z0:=Zo (m1:=fun _=>0) g (g1.re fun b=>by simp) (st1.drop (fun b=>by simp) g1.le) (g2.re fun b=>by simp) (M1:=fun b=>m1 b+M1 b) (M2:=fun b=>m2 b+M2 b) (by
   have:=st2
   exact ⟨fun b o h z=>this.keep b o h (by simpa using z),fun b h=>by have:=this.own b (by simpa using h);simpa using this,this.grow,fun b h h'=>by have:=this.shr b h h';simpa using this,this.stay⟩)
  have G2:Good H1 Hs2 (fun b=>M2 b+m2 b):=g2.re fun b=>by simp;omega
  have S2:Stp H Hs M H1 Hs2 (fun b=>M2 b+m2 b):=z0.2.1.drop (fun b=>by simp;omega) z0.1.le
  refine ⟨ds,Hs2,m2,_,ds',G2.re fun b=>by omega,q2,hF,fun v H3 Hs3 n1 n2 g3 st3 r3 r4=>?_⟩
  obtain ⟨G,S,k⟩:=Zo g G2 S2 g3 st3
  have s3:=RepS.frame st3.grow k s2
  have fin:=ZaN s3 r4 (lates r1) e3
  exact q v H3 Hs3 n1 (fun b=>n2 b+M2 b) (G.re fun b=>by (try dsimp only);omega) (S.drop (fun b=>by (try dsimp only);omega) G.le) r3 fin
 | exc x y=>rw [hF] at e;cases e
 | stuck=>rw [hF] at e;cases e
def Zhn{K:Fg}{cs:M (List Op)}{σ:St}{Q:VK}{E:XK}(h:tM K (cs.bnd fun ps=>ZaU fi ps) σ H Q):tPs K cs σ H fun vs H1=>spF K fi.run vs H1 Q E:=by
 obtain ⟨δ,Hs,M,d,δ',g,s,e,q⟩:=h
 obtain ⟨ps,δ1,e1,e⟩:=Zb e
 exact ⟨δ,Hs,M,ps,δ1,g,s,e1,fun vs H1 Hs1 m1 M1 g1 st1 r1 s1=>ZfW g g1 st1 r1 s1 e q⟩
section
variable{a e c:Expr}{es:List Expr}{p:Pos}{x:Str}{n:Nat}{ps:List Str}{cs:M (List Op)}
def Z3(G:FnAt X.prog X.w X.K X.mg X.base x j ps (spF X.K fi.run))(hr:Room n X.A)(ha:PA X (e::es) (tPs X.K cs))(hj:autoParam (j<=n) Q7)(hz:autoParam (glOk X.env.scope x=true) Q8)(he:autoParam (SE X e es) Q9)(hpl:autoParam (SFx X pos es) Q9):
 PE X (.Call (.Name x p) (e::es) [] pos) (tM X.K (cs.bnd fun ps=>ZaU fi ps)):=PE.imp (ZpH G hr ha hj (glk hz) (dbk hz) he hpl) fun σ H Q h=>by
 obtain ⟨δ,Hs,M,a,δ',g,s,e,q⟩:=Zhn (E:=E0) h
 refine ⟨δ,Hs,M,a,δ',g,s,e,fun vs H' Hs' m M' g' st r s'=>?_⟩
 show spF X.K fi.run (vs++[]) H' Q E0
 rw [append_nil]
 exact q vs H' Hs' m M' g' st r s'
def ZnP(hq:Quiet X)(G:FnAtH X.prog X.w X.K X.mg X.base x j ps (spF X.K fi.run))(hr:RoomH n X.A)(ha:PA X (e::es) (tPs X.K cs))(hj:autoParam (j<=n) Q7)(hz:autoParam (glOk X.env.scope x=true) Q8)(he:autoParam (SE X e es) Q9)(hpl:autoParam (SFx X pos es) Q9):
 PE X (.Call (.Name x p) (e::es) [] pos) (tM X.K (cs.bnd fun ps=>ZaU fi ps)):=PE.imp (ZnD hq G hr ha hj (glk hz) (dbk hz) he hpl) fun σ H Q h=>by
 obtain ⟨δ,Hs,M,a,δ',g,s,e,q⟩:=Zhn (E:=E0) h
 refine ⟨δ,Hs,M,a,δ',g,s,e,fun vs H' Hs' m M' g' st r s'=>?_⟩
 show spF X.K fi.run (vs++[]) H' Q E0
 rw [append_nil]
 exact q vs H' Hs' m M' g' st r s'
end
theorem modL{K:Fg}{σ:St}{B M:Bud}{i:Nat}{k:Kd}(g:Good H Hs (fun b=>B b+M b))(s:RepS K H Hs σ δ M)(hi:δ[i]?=some (.node k true ds)):
 ∃(p:Addr)(vs:List V)(m' m2:Bud),σ[i]?=some (some (.ref p))/\ZaH K H p vs k/\RepL K H Hs vs ds m'/\(∀ b,one p b+m' b+m2 b<=M b)/\
  ∀(o':HO)(k':Kd)(vs':List V)(ds':List D)(n' nr:Bud)(rv:V)(r:D),(∀ b,n' b+nr b<=m' b+B b)->ZaH K (upd H p o') p vs' k'->RepL K H Hs vs' ds' n'->Rep K H Hs rv r nr->
   Good (upd H p o') Hs (fun b=>nr b+(one p b+n' b+m2 b))/\Stp H Hs (fun b=>B b+M b) (upd H p o') Hs (fun b=>nr b+(one p b+n' b+m2 b))/\Rep K (upd H p o') Hs rv r nr/\
   RepS K (upd H p o') Hs σ (δ.set i (.node k' true ds')) (fun b=>one p b+n' b+m2 b):=by
 obtain ⟨v,m1,m2,e1,q,l,f⟩:=s.slot hi (by simp)
 cases q with
 | @own p _ vs _ _ m' n r l'=>
  have le:∀ b,one p b+m' b+m2 b<=M b:=fun b=>by have:=l b;have:=l' b;omega
  refine ⟨p,vs,m',m2,e1,n,r,le,fun o' k' vs' ds' n' nr rv rd h1 hn hr hq=>?_⟩
  have one_p:one p p=1:=by simp [one]
  have tot:∀ b,nr b+(one p b+n' b+m2 b)<=B b+M b:=fun b=>by have:=le b;have:=h1 b;omega
  have zp:m' p=0/\B p=0/\m2 p=0:=by
   have:=le p
   have:=g.le p
   try dsimp only at this
   omega
  have zp2:n' p=0/\nr p=0:=by have:=h1 p;omega
  have Hp:H p≠none:=n.at
  have eqH:∀ b,b≠p->upd H p o' b=H b:=fun b hb=>Zj hb
  have hs2:Hs p=none:=g.ne p (by have:=le p;have:=g.le p;(try dsimp only at this ⊢);omega)
  refine ⟨⟨fun b o e=>?_,fun b=>?_,fun b h=>?_,fun b h=>?_⟩,⟨fun b o e z=>?_,fun b h=>?_,Same.refl _,fun b h h'=>absurd h h',fun b h=>?_⟩,?_,?_⟩
  . have hb:b≠p:=fun q=>by subst q;rw [hs2] at e;cases e
    rw [eqH b hb]
    exact g.sub b o e
  . have:=g.le b
    have:=tot b
    (try dsimp only at *)
    omega
  . have:=g.le b
    have:=tot b
    exact g.ne b (by (try dsimp only at *);omega)
  . by_cases hb:b=p
    . subst hb;rw [Zk];simp
    . rw [eqH b hb]
      have:=g.le b
      have:=tot b
      exact g.has b (by (try dsimp only at *);omega)
  . have hb:b≠p:=fun q=>by
     subst q
     have:=le b
     have:=g.le b
     (try dsimp only at *)
     omega
    rw [eqH b hb]
    exact e
  . have:=g.le b
    have:=tot b
    left
    (try dsimp only at *)
    omega
  . by_cases hb:b=p
    . subst hb;rw [Zk];simp
    . rw [eqH b hb];exact h
  . exact hq.frame (Same.refl _) fun b hb hn'=>eqH b fun q=>by subst q;omega
  . have r':RepL K (upd H p o') Hs vs' ds' n':=hr.frame (Same.refl _) fun b hb hn'=>eqH b fun q=>by subst q;omega
    have z:=f (upd H p o') Hs (some (.ref p)) (.node k' true ds') (fun b=>one p b+n' b) (Same.refl _) (fun b hb hn'=>eqH b fun q=>by subst q;omega) (.inr ⟨_,rfl,.own hn r' fun b=>Nat.le_refl _⟩)
    rw [Zad e1] at z
    exact z.mono fun b=>by (try dsimp only);omega
def Zd7(h:modS i f δ=.ok (d,δ')):∃ k ds k' ds',δ[i]?=some (.node k true ds)/\f k ds=some (d,k',ds')/\δ'=δ.set i (.node k' true ds'):=by
 unfold modS at h
 split at h
 . rename_i k ds hi
   split at h
   . rename_i r k' ds' hf
     cases h
     exact ⟨k,ds,k',ds',hi,hf,rfl⟩
   . cases h
 . cases h
section
variable{o e:Expr}{es:List Expr}{cpos apos:Pos}{i:Nat}{name:Str}{id:String}
def ZnQ{K:Fg}{σ:St}{M:Bud}{u:Unit}(g:Good H Hs M)(s:RepS K H Hs σ δ M)(h:chkL i δ=.ok (u,δ')):δ'=δ/\∃ p,σ[i]?=some (some (.ref p))/\tyV K "list" (.ref p) H:=by
 unfold chkL at h
 split at h
 . rename_i oo ds hi
   cases h
   obtain ⟨v,m1,m2,e1,q,l,f⟩:=s.slot hi (by simp)
   refine ⟨rfl,?_⟩
   cases q with
   | own n r _=>exact ⟨_,e1,.inl ⟨rfl,_,.inl (.inl n)⟩⟩
   | shd n r=>exact ⟨_,e1,.inl ⟨rfl,_,.inl (.inl (g.sub _ _ n))⟩⟩
 . cases h
def ZbM (ho:PE X o (tVar i)) (ha:PA X [e] (tDs X.K cs))
 (hbase:autoParam (attributeBase o "append" X.env (eval o X.env)=eval o X.env) Q9)
 (hfew:autoParam (((backTo cpos (starEach [e] X.env)).all (fun x=>!x.1) && (backToKw cpos (keywordEach [] X.env)).all (fun x=>x.1.isSome)
  && decide ([e].length+([]:List Keyword).length+(if ([]:List Keyword).isEmpty then 0 else 1) < 30))=true) Q9)
 (hline:autoParam ((apos.endLine == cpos.line)=true) Q9) (hs:autoParam (starEach [e] X.env=(false,eval e X.env)::starEach [] X.env) Q9) (hplain:autoParam ((backTo cpos (starEach [] X.env)).any (·.1)=false) Q9):
 PE X (.Call (.Attribute o "append" apos) [e] [] cpos) (tM X.K ((chkL i).bnd fun _=>cs.bnd fun ds=>appM i ds)):=
 PE.imp (Zp7 PySem.F.plainAttrs_list PySem.F.slot_list_append PySem.F.type_list_append Zfk ho ha hbase hfew hline hs hplain) fun σ H Q h=>by
  obtain ⟨δ,Hs,M,d,δ',g,s,ea,q⟩:=h
  obtain ⟨u,δ0,e0,eb⟩:=Zb ea
  obtain ⟨ds,δ1,e1,ec⟩:=Zb eb
  obtain ⟨rfl,p0,h1,h2⟩:=ZnQ g s e0
  refine ⟨_,h1,h2,δ0,Hs,M,ds,δ1,g,s,e1,fun vs H1 Hs1 m1 M1 g1 st1 r1 s1=>?_⟩
  unfold appM at ec
  split at ec
  . rename_i x
    obtain ⟨k,ds0,k',ds',hi,hf,rfl⟩:=Zd7 ec
    unfold appD at hf
    split at hf
    . split at hf
      . rename_i hl
        cases hf
        cases r1 with
        | @cons y _ _ _ a1 a2 _ rx r2 la=>
         cases r2
         obtain ⟨p,ws,m',m2,e2,n,rl,le,fin⟩:=modL g1 s1 hi
         have e3:some (some (V.ref p))=some (some (V.ref p0)):=by rw [<- e2,h1]
         cases e3
         obtain ⟨G,S,R,SS⟩:=fin (.lst (ws++[y])) .lst (ws++[y]) (ds0++[x]) (fun b=>m' b+a1 b) (fun _=>0) .non (.sc .non) (fun b=>by have:=la b;(try dsimp only);omega) Zk (rl.app (.cons rx (.nil (fun _=>0)) fun b=>by simp)) (.sc _ _)
         have z:=Zo (m1:=fun _=>0) g (g1.re fun b=>by simp) (st1.drop (fun b=>by simp) g1.le) G S
         exact ⟨_,ws,y,rfl,rfl,n,by rw [rl.len];exact hl,q _ _ Hs1 _ _ G (z.2.1.drop (fun b=>by simp) z.1.le) R SS⟩
      . cases hf
    . cases hf
  . cases ec
end
end T
namespace L2
open PySem PySem.Spec PyProof.Rows
section
theorem ZkP(ne:a≠it):∀(m j:Nat)(s:Shared)(Q:List Value->Shared->Prop),s.heap.IsListIter it a j->s.heap.IsList a us->j+m<=us.size->
 (∀ g,Heap.IsListIter g it a (j+m)->Heap.SameBut it s.heap g->Q ((us.toList.drop j).take m) { s with heap:=g })->wpAny (model prog w) A (draw (.ref it) m) Q E s
 | 0,j,s,Q,st,_,_,q=>wpAny_pure (by simpa using q s.heap st (Heap.SameBut.refl ..))
 | m+1,j,s,Q,st,hl,le,q=>by
  have lt:j < us.size:=by omega
  refine wpAny_bind (wpAny_pyNext_list_item st hl (x:=us[j]) (by simp [lt]) fun g1 st1 k1=>?_)
  refine wpAny_bind (wpAny_holding (ZkP ne m (j+1) _ _ st1 (hl.extBut k1.extBut ne) (by omega) fun g2 st2 k2=>wpAny_pure ?_))
  have z:=q g2 (by rw [show j+(m+1)=j+1+m by omega];exact st2) (k1.trans k2)
  rw [show us.toList.drop j=us[j]::us.toList.drop (j+1) by simp [List.drop_eq_getElem_cons,lt],List.take_succ_cons] at z
  exact z
def ZlW(hh:A.handled=none)(hl:s.heap.IsList a us)
 (q:∀ g,Heap.ExtBut s.heap.objs.size s.heap g->Q us.toList { s with heap:=g }):wpAny (model prog w) A (unpackItems (.ref a) us.size none) Q E s:=by
 have ne:a≠s.heap.objs.size:=ne_of_lt (by obtain ⟨o,e,_⟩:=hl;exact Heap.lt_size e)
 unfold unpackItems
 refine wpAny_bind (?_:wpAny _ _ _ _ _ _)
 unfold notIterableAtAll
 refine wpAny_bind (wpAny_specialOf hl.typeIs slot_list_iter.lookup (wpAny_pure ?_))
 simp only [if_false,Bool.false_eq_true]
 refine wpAny_bind (wpAny_holding (wpAny_pyIter_list hl (wpAny_bind (wpAny_holding (ZkP ne us.size 0 _ _ ⟨_,Heap.get?_push_size _ rfl,rfl,rfl⟩ (hl.push _) (by omega) fun g1 st1 k1=>?_)))))
 rw [show List.take us.size (List.drop 0 us.toList)=us.toList from by rw [drop_zero,List.take_of_length_le (by simp)],if_neg (by simp)]
 refine wpAny_bind (wpAny_holding (wpAny_pyNext_list_end hh st1 ((hl.push _).extBut k1.extBut ne) (by simp) fun g2 k2=>?_))
 simp only [if_false,Bool.false_eq_true,Option.isSome_none]
 exact wpAny_pure (q g2 fun b o hb e=>k2 b o hb (k1.extBut b o hb (Heap.get?_push_of_some _ e)))
def ZlX(hh:A.handled=none)(hl:s.heap.IsList a us)(hn:(assignEach es env).length=us.size)(hst:(assignEach es env).findIdx? (·.1)=none)
 (q:∀ g,Heap.ExtBut s.heap.objs.size s.heap g->wpAny (model prog w) A (assignInOrder ((assignEach es env).map (·.2)) us.toList) Q E { s with heap:=g }):wpAny (model prog w) A (assign (.Tuple es k p) env (.ref a)) Q E s:=by
 rw [assign_Tuple]
 refine wpAny_bind (wpAny_standAt ?_)
 unfold unpack
 rw [hn,hst]
 exact wpAny_bind (wpAny_holding (ZlW hh hl q))
end
noncomputable def gSeq(K:Fg)(n:Nat)(t:TGs):TG:=fun v σ H Q=>∃ a xs,v=.ref a/\(SqT K H a xs\/SqL K H a xs)/\xs.length=n/\t xs σ H Q
def ZiX(hc:X.calm=true)(h:PGs X es t)
 (hn:autoParam ((assignEach es X.env).length=n) Q9) (hst:autoParam ((assignEach es X.env).findIdx? (·.1)=none) Q9):PG X (.Tuple es k pos) (gSeq X.K n t):=by
 intro pins s σ H v u Q I r hw
 obtain ⟨a,xs,e1,hq,hl,hw⟩:=hw
 rcases hq with hq|hq
 . exact Znd hc h hn hst pins s σ H v u Q I r ⟨a,xs,e1,hq,hl,hw⟩
 . subst e1
   cases r
   obtain ⟨its,rv,ht,hz⟩:=I.list hq
   refine ZlX (I.ok.hd hc) ht.isList (by simp [hn,<- hl,rv.length]) hst fun h' hx=>?_
   have I1:Inv X pins σ H { s with heap:=h' }:=I.kept (t':=s.toks) fun b o e=>hx b o (ne_of_lt (Heap.lt_size e)) e
   exact h pins _ σ H xs _ Q I1 (by simpa using rv) hw
end L2
namespace T
open PySem PySem.Spec L2
variable{H Hs H' Hs' H0 Hs0:Hp}{δ' δ:List D}{lk:Nat->Bool}{X:Cx}{pos pos':Pos}{j:Nat}{M0:Bud}
def Keeps(lk:Nat->Bool)(σ σ':St):Prop:=∀ i,lk i=true->σ'[i]?=σ[i]?
def Keeps.refl(lk:Nat->Bool)(σ:St):Keeps lk σ σ:=fun _ _=>rfl
def Keeps.trans(a:Keeps lk σ σ1)(b:Keeps lk σ1 σ2):Keeps lk σ σ2:=fun i h=>(b i h).trans (a i h)
def Post(K:Fg)(lk:Nat->Bool)(E:Ends)(σ:St)(H Hs:Hp)(M:Bud)(f:Fl)(δ':List D):Prop:=match f with
 | .nx=>∀(σ':St)(H' Hs':Hp)(M':Bud),Keeps lk σ σ'->Good H' Hs' M'->Stp H Hs M H' Hs' M'->RepS K H' Hs' σ' δ' M'->E.nx σ' H'
 | .bk=>∀(σ':St)(H' Hs':Hp)(M':Bud),Keeps lk σ σ'->Good H' Hs' M'->Stp H Hs M H' Hs' M'->RepS K H' Hs' σ' δ' M'->E.bk σ' H'
 | .ct=>∀(σ':St)(H' Hs':Hp)(M':Bud),Keeps lk σ σ'->Good H' Hs' M'->Stp H Hs M H' Hs' M'->RepS K H' Hs' σ' δ' M'->E.ct σ' H'
 | .rt d=>∀(v:V)(σ':St)(H' Hs':Hp)(m M':Bud),Keeps lk σ σ'->Good H' Hs' (fun b=>m b+M' b)->Stp H Hs M H' Hs' (fun b=>m b+M' b)->Rep K H' Hs' v d m->RepS K H' Hs' σ' δ' M'->E.rt v H'
inductive tS(K:Fg)(lk:Nat->Bool)(c:M Fl)(E:Ends)(σ:St)(H:Hp):Prop
 | mk (δ:List D) (Hs:Hp) (M:Bud) (f:Fl) (δ':List D) (h0:Good H Hs M) (h1:RepS K H Hs σ δ M) (h2:c δ=.ok (f,δ')) (h3:Post K lk E σ H Hs M f δ'):tS K lk c E σ H
theorem Post.ahead{K:Fg}{E:Ends}{σ σ1:St}{H1 Hs1:Hp}{M M1:Bud}{f:Fl}(k:Keeps lk σ σ1)(g:Good H Hs M)(g1:Good H1 Hs1 M1)(st:Stp H Hs M H1 Hs1 M1)(h:Post K lk E σ H Hs M f δ'):Post K lk E σ1 H1 Hs1 M1 f δ':=by
 have tr:∀{H' Hs':Hp}{M':Bud},Good H' Hs' M'->Stp H1 Hs1 M1 H' Hs' M'->Stp H Hs M H' Hs' M':=fun{H' Hs' M'} g' st'=>by
  have z:=Zo (m1:=fun _=>0) g (g1.re fun b=>by simp) (st.drop (fun b=>by simp) g1.le) g' st'
  exact z.2.1.drop (fun b=>by simp) z.1.le
 cases f with
 | nx=>exact fun σ' H' Hs' M' k' g' st' r=>h σ' H' Hs' M' (k.trans k') g' (tr g' st') r
 | bk=>exact fun σ' H' Hs' M' k' g' st' r=>h σ' H' Hs' M' (k.trans k') g' (tr g' st') r
 | ct=>exact fun σ' H' Hs' M' k' g' st' r=>h σ' H' Hs' M' (k.trans k') g' (tr g' st') r
 | rt d=>exact fun v σ' H' Hs' m M' k' g' st' rv r=>h v σ' H' Hs' m M' (k.trans k') g' (tr g' st') rv r
section
variable{e a b c o:Expr}{st:Stmt}{rest:List Stmt}{i:Nat}{x:Str}
def PS.imp(h:PS X st t)(w:∀ E σ H,t' E σ H->t E σ H):PS X st t':=fun pins s σ H E I q=>h pins s σ H E I (w E σ H q)
def PSs.imp(h:PSs X rest t)(w:∀ E σ H,t' E σ H->t E σ H):PSs X rest t':=fun pins s σ H E I q=>h pins s σ H E I (w E σ H q)
def Zm:PSs X [] (tS X.K lk (M.ret .nx)):=PSs.imp Zlp fun E σ H h=>by
 obtain ⟨δ,Hs,M,f,δ',g,s,e,q⟩:=h
 have:=Ze e
 cases this
 exact q σ H Hs M (Keeps.refl _ _) g (Stp.refl _ _ _) s
theorem Zc{c r:M Fl}(h1:PS X st (tS X.K lk c))(h2:PSs X rest (tS X.K lk r)):PSs X (st::rest) (tS X.K lk (seqL c r)):=PSs.imp (Zj3 h1 h2) fun E σ H h=>by
 obtain ⟨δ,Hs,M,f,δ',g,s,e,q⟩:=h
 obtain ⟨f1,δ1,e1,e2⟩:=Zb e
 refine ⟨δ,Hs,M,f1,δ1,g,s,e1,?_⟩
 cases f1 with
 | nx=>exact fun σ' H' Hs' M' k g' st' r=>⟨δ1,Hs',M',f,δ',g',r,e2,q.ahead k g g' st'⟩
 | bk=>have:=Ze e2;cases this;exact q
 | ct=>have:=Ze e2;cases this;exact q
 | rt d=>have:=Ze e2;cases this;exact q
def Zkb:PS X st (tS X.K lk stk):=fun pins s σ H E I z0=>by obtain ⟨δ,Hs,M,f,δ',g,_,e,q⟩:=z0;cases e
def Zbp{c:M D}(he:PE X e (tM X.K c))(hs:autoParam (swapsWith e none pos.line X.env=pure false) Q9):PS X (.Expr e pos) (tS X.K lk (c.bnd fun _=>M.ret .nx)):=PS.imp (Zlq he hs) fun E σ H h=>by
 obtain ⟨δ,Hs,M,f,δ',g,s,e,q⟩:=h
 obtain ⟨d,δ1,e1,e2⟩:=Zb e
 have:=Ze e2
 cases this
 exact ⟨δ,Hs,M,d,_,g,s,e1,fun v H' Hs' m M' g' st' r s'=>q σ H' Hs' M' (Keeps.refl _ _) g'.re (st'.drop (fun b=>by omega) g'.le) s'⟩
def Zs{c:M D}(he:PE X e (tM X.K c)):PS X (.Return (some e) pos) (tS X.K lk (c.bnd fun d=>M.ret (.rt d))):=PS.imp (Znc he) fun E σ H h=>by
 obtain ⟨δ,Hs,M,f,δ',g,s,e,q⟩:=h
 obtain ⟨d,δ1,e1,e2⟩:=Zb e
 have:=Ze e2
 cases this
 exact ⟨δ,Hs,M,d,_,g,s,e1,fun v H' Hs' m M' g' st' r s'=>q v σ H' Hs' m M' (Keeps.refl _ _) g' st' r s'⟩
def Zdn(h:PE X e (tVar i)):PE X e (tM X.K (movV i)):=PE.imp h fun σ H Q z0=>by
 obtain ⟨δ,Hs,M,d,δ',g,s,e,q⟩:=z0
 unfold movV at e
 split at e
 . rename_i u hd
   cases e
   obtain ⟨v,m1,m2,e3,r,_⟩:=s.slot hd (by simp)
   cases r
   exact ⟨u,e3,q u H Hs (fun _=>0) M (Za4 g) (stp0 H Hs M) (.sc _ _) s⟩
 . rename_i k oo ds hd
   cases e
   obtain ⟨v,m1,m2,e3,r,l,f⟩:=s.slot hd (by simp)
   have z:=f H Hs (some v) .hole (fun _=>0) (Same.refl _) (fun _ _ _=>rfl) (.inl rfl)
   rw [Zad e3] at z
   exact ⟨v,e3,q v H Hs m1 m2 (g.re fun b=>by have:=l b;omega) ((Stp.refl H Hs M).drop (fun b=>by have:=l b;omega) g.le) r (z.mono fun b=>by simp)⟩
 . cases e
theorem Zbi(hc:PT X c (tT X.K cc))(ha:PSs X A (tS X.K lk ca))(hb:PSs X B (tS X.K lk cb)):PS X (.If c A B pos) (tS X.K lk (cc.bnd fun t=>if t then ca else cb)):=PS.imp (Zpq hc ha hb) fun E σ H h=>by
 obtain ⟨δ,Hs,M,f,δ',g,s,e,q⟩:=h
 obtain ⟨t,δ1,e1,e2⟩:=Zb e
 refine ⟨δ,Hs,M,t,δ1,g,s,e1,fun H' Hs' M' g' st' s'=>?_⟩
 cases t with
 | true=>exact ⟨δ1,Hs',M',f,δ',g',s',e2,q.ahead (Keeps.refl _ _) g g' st'⟩
 | false=>exact ⟨δ1,Hs',M',f,δ',g',s',e2,q.ahead (Keeps.refl _ _) g g' st'⟩
def Zbl{K:Fg}{σ:St}{m M:Bud}{v:V}{d:D}(s:RepS K H Hs σ δ M)(hi:i < δ.length)(r:Rep K H Hs v d m):RepS K H Hs (σ.set i (some v)) (δ.set i d) (fun b=>m b+M b):=by
 obtain ⟨o,m1,m2,e1,q,l,f⟩:=s.focus (List.getElem?_eq_getElem hi)
 exact (f (RepO K H Hs) (some v) d m (fun a d m' _ q=>q) (.inr ⟨v,rfl,r⟩)).mono fun b=>by have:=l b;(try dsimp only);omega
def Zd8(h:asgN lk i d δ=.ok (u,δ')):i < δ.length/\lk i=false/\δ'=δ.set i d:=by
 unfold asgN at h
 split at h
 . rename_i hc
   simp only [and_eq_true,decide_eq_true_eq,not_eq_true'] at hc
   cases h
   exact ⟨hc.1,hc.2,rfl⟩
 . cases h
def Za1(h:lk i=false):Keeps lk σ (σ.set i v):=fun j hj=>by
 have:i≠j:=fun q=>by subst q;rw [h] at hj;cases hj
 rw [getElem?_set_ne this]
def ZnR{c:M D}(hN:X.N.Nodup)(hi:X.N[i]?=some x)(hx:Loc X.env.scope x)(he:PE X e (tM X.K c))(hs:autoParam (swapsWith e (some (.Name x pos')) pos.line X.env=pure false) Q9)
 (hf:X.fn x=true\/X.env.scope.names.lookup x=some .local:=by first|exact .inl rfl|exact .inr rfl|assumption):
 PS X (.Assign [.Name x pos'] e pos) (tS X.K lk (c.bnd fun d=>(asgN lk i d).bnd fun _=>M.ret .nx)):=PS.imp (Znf hN hi hx he hs hf) fun E σ H h=>by
 obtain ⟨δ,Hs,M,f,δ',g,s,e,q⟩:=h
 obtain ⟨d,δ1,e1,e2⟩:=Zb e
 obtain ⟨u,δ2,e3,e4⟩:=Zb e2
 have:=Ze e4
 cases this
 obtain ⟨h1,h2,rfl⟩:=Zd8 e3
 exact ⟨δ,Hs,M,d,δ1,g,s,e1,fun v H' Hs' m M' g' st' r s'=>q _ H' Hs' _ (Za1 h2) g' st' (Zbl s' h1 r)⟩
end
noncomputable def gNs:List Nat->TGs
 | []=>gNil
 | i::is=>ZkD (Zcr i) (gNs is)
theorem Zd9:∀{is:List Nat}{ds:List D}{vs:List V}{σ:St}{δ δ':List D}{m M:Bud}{u:Unit}{Q:St->Hp->Prop},Zbh lk is ds δ=.ok (u,δ')->RepL K H Hs vs ds m->RepS K H Hs σ δ M->
 (∀ σ',Keeps lk σ σ'->RepS K H Hs σ' δ' (fun b=>m b+M b)->Q σ' H)->vs.length=is.length/\gNs is vs σ H Q
 | [],[],_,σ,δ,δ',m,M,u,Q,e,.nil _,s,q=>by
  have:=Ze e
  cases this
  exact ⟨rfl,rfl,q σ (Keeps.refl _ _) (s.mono fun b=>by omega)⟩
 | [],_::_,_,_,_,_,_,_,_,_,e,_,_,_=>by cases e
 | _::_,[],_,_,_,_,_,_,_,_,e,_,_,_=>by cases e
 | i::is,d::ds,_,σ,δ,δ',m,M,u,Q,e,.cons (v:=v) (vs:=vs) (m1:=m1) (m2:=m2) x y l,s,q=>by
  obtain ⟨u1,δ1,e1,e2⟩:=Zb e
  obtain ⟨h1,h2,rfl⟩:=Zd8 e1
  obtain ⟨hl,hq⟩:=Zd9 (Q:=Q) e2 y (Zbl s h1 x) fun σ' k r=>q σ' ((Za1 h2).trans k) (r.mono fun b=>by have:=l b;(try dsimp only);omega)
  exact ⟨by rw [length_cons,length_cons,hl],v,vs,rfl,hq⟩
section
variable{e o k:Expr}{es:List Expr}{i:Nat}{is:List Nat}{x:Str}
def Ze0:PGs X [] (gNs []):=Zlr
def ok_g(hN:X.N.Nodup)(hi:X.N[i]?=some x)(hx:Loc X.env.scope x)(hr:PGs X es (gNs is))(hf:X.fn x=true\/X.env.scope.names.lookup x=some .local:=by first|exact .inl rfl|exact .inr rfl|assumption)
 (hs:autoParam ((assignEach (.Name x pos::es) X.env).map (·.2)=assign (.Name x pos) X.env::(assignEach es X.env).map (·.2)) Q9):PGs X (.Name x pos::es) (gNs (i::is)):=Zj4 (ZgW hN hi hx hf) hr hs
def ZlY{K:Fg}{σ:St}{m M:Bud}{x:V}{w:W}{u:Unit}{Q:St->Hp->Prop}(v:View K H Hs x w m)(s:RepS K H Hs σ δ M)(e:unpM lk is w δ=.ok (u,δ'))
 (q:∀ σ',Keeps lk σ σ'->RepS K H Hs σ' δ' (fun b=>m b+M b)->Q σ' H):gSeq K is.length (gNs is) x σ H Q:=by
 unfold unpM at e
 split at e
 . cases v with
   | nd n r=>
    obtain ⟨hl,hq⟩:=Zd9 e r s q
    exact ⟨_,_,rfl,.inl (.inl (.inl n)),hl,hq⟩
 . cases v with
   | nd n r=>
    obtain ⟨hl,hq⟩:=Zd9 e r s q
    exact ⟨_,_,rfl,.inr (.inl (.inl n)),hl,hq⟩
 . cases e
def ZnS(hc:X.calm=true)(he:PE X e (tP X.K ca))(hg:PGs X es (gNs is))(hn:autoParam ((assignEach es X.env).length=is.length) Q9)(hst:autoParam ((assignEach es X.env).findIdx? (·.1)=none) Q9)
 (hs:autoParam (swapsWithSole [.Tuple es j pos'] e pos.line X.env=pure false) Q9) (hw:autoParam (swappedStores [.Tuple es j pos'] e X.env=pure none) Q9)
 (h1:autoParam ((assignEach [.Tuple es j pos'] X.env).map (·.2)=[assign (.Tuple es j pos') X.env]) Q9):
 PS X (.Assign [.Tuple es j pos'] e pos) (tS X.K lk ((ca.bnd view).bnd fun w=>(unpM lk is w).bnd fun _=>M.ret .nx)):=PS.imp (Ziv he (ZiX hc hg hn hst) hs hw h1) fun E σ H h=>by
 obtain ⟨δ,Hs,M,f,δ',g,s,ea,q⟩:=h
 obtain ⟨w,δ2,eb,ec⟩:=Zb ea
 obtain ⟨p,δ1,e1,e2⟩:=Zb eb
 obtain ⟨u,δ3,e3,e4⟩:=Zb ec
 have:=Ze e4
 cases this
 refine ⟨δ,Hs,M,p,δ1,g,s,e1,fun x H2 Hs2 m1 M2 g2 st2 r1 s2=>?_⟩
 obtain ⟨Hs3,M3,g3,st3,v1,s3⟩:=Zaw (B:=m1) g2 s2 r1 e2
 have z:=Zo (m1:=fun _=>0) g (g2.re fun b=>by simp) (st2.drop (fun b=>by simp) g2.le) g3 st3
 exact ZlY v1 s3 e3 fun σ' kk r=>q σ' H2 Hs3 _ kk g3 (z.2.1.drop (fun b=>by simp) z.1.le) r
def RepL.set(r:RepL K H Hs vs ds m)(hn:ds[n]?=some d0)(x:Rep K H Hs v d m1):RepL K H Hs (vs.set n v) (ds.set n d) (fun b=>m b+m1 b):=by
 obtain ⟨a,n1,n2,e1,q,l,f⟩:=r.sep.focus hn
 exact ((f (Rep K H Hs) v d m1 (fun a d m' _ q=>q) x).mono fun b=>by have:=l b;(try dsimp only);omega).repL
def ZeL{K:Fg}{σ:St}{M:Bud}{p:Op}(s:RepS K H Hs σ δ M)(h:ZR i δ=.ok (p,δ')):δ'=δ/\∃ v,σ[i]?=some (some v):=by
 unfold ZR at h
 split at h
 . rename_i hd
   cases h
   obtain ⟨v,_,_,e,_⟩:=s.slot hd (by simp)
   exact ⟨rfl,v,e⟩
 . rename_i hd
   cases h
   obtain ⟨v,_,_,e,_⟩:=s.slot hd (by simp)
   exact ⟨rfl,v,e⟩
 . cases h
end
structure WalkV(J:It)(vs:List V)(B:Bud)(Pp:Hp->Hp->Prop):Prop where
 stay:∀{H Hs H' Hs':Hp},Pp H Hs->Same Hs Hs'->(∀ b,B b≥1->H b≠none->H' b=H b)->Pp H' Hs'
 go:∀{H Hs:Hp}{i:Nat}{v:V},Same Hs H->Pp H Hs->vs[i]?=some v->J.go i H
 yld:∀{H Hs H':Hp}{i:Nat}{x v:V},Same Hs H->Pp H Hs->vs[i]?=some v->J.yld i H x H'->H'=H/\x=v
 stop:∀{H Hs:Hp}{i:Nat},Same Hs H->Pp H Hs->vs.length<=i->J.stop i H
def Grow(H Hs H' Hs':Hp):Prop:=(H'=H/\Hs'=Hs)\/∃ A o,H A=none/\H'=upd H A o/\Hs'=upd Hs A o
def Grow.same(w:Grow H Hs H' Hs')(g:Same Hs H):Same Hs Hs'/\(∀ b,H b≠none->H' b=H b)/\Same Hs' H':=by
 rcases w with ⟨rfl,rfl⟩|⟨A,o,h,rfl,rfl⟩
 . exact ⟨Same.refl _,fun _ _=>rfl,g⟩
 . have hs:Hs A=none:=by
    cases q:Hs A with
    | none=>rfl
    | some u=>rw [g A u q] at h;cases h
   have ne:∀ b u,Hs b=some u->b≠A:=fun b u e z=>by subst z;rw [hs] at e;cases e
   refine ⟨fun b u e=>?_,fun b n=>Zj fun z=>n (by rw [z];exact h),fun b u e=>?_⟩
   . rw [Zj (ne b u e)];exact e
   . by_cases z:b=A
     . subst z;rw [Zk] at e ⊢;exact e
     . rw [Zj z] at e ⊢;exact g b u e
def Grow.good{M:Bud}(w:Grow H Hs H' Hs')(g:Good H Hs M):Good H' Hs' M:=by
 obtain ⟨s1,s2,s3⟩:=w.same g.sub
 refine ⟨s3,g.le,fun b h=>?_,fun b h=>?_⟩
 . rcases w with ⟨rfl,rfl⟩|⟨A,o,n,rfl,rfl⟩
   . exact g.ne b h
   . rw [Zj fun z=>g.has b h (by rw [z];exact n)];exact g.ne b h
 . rw [s2 b (g.has b h)];exact g.has b h
def Grow.stp{M:Bud}(w:Grow H Hs H' Hs')(g:Good H Hs M)(t:Stp H0 Hs0 M0 H Hs M):Stp H0 Hs0 M0 H' Hs' M:=by
 obtain ⟨s1,s2,s3⟩:=w.same g.sub
 refine ⟨fun b o e z=>?_,t.own,t.grow.trans s1,fun b n n'=>?_,fun b n=>?_⟩
 . have e1:=t.keep b o e z
   rw [s2 b (by rw [e1];simp)];exact e1
 . by_cases q:Hs b=none
   . rcases w with ⟨rfl,rfl⟩|⟨A,o,h,rfl,rfl⟩
     . exact absurd q n'
     . by_cases z:b=A
       . subst z
         cases y:H0 b with
         | none=>exact .inr rfl
         | some u=>exact absurd h (t.stay b (by rw [y];simp))
       . rw [Zj z] at n';exact absurd q n'
   . exact t.shr b n q
 . have:=t.stay b n
   rw [s2 b this];exact this
structure Walk(K:Fg)(J:It)(items:List D)(B:Bud)(Pp:Hp->Hp->Prop):Prop where
 stay:∀{H Hs H' Hs':Hp},Pp H Hs->Same Hs Hs'->(∀ b,B b≥1->H b≠none->H' b=H b)->Pp H' Hs'
 go:∀{H Hs:Hp}{i:Nat},Same Hs H->Pp H Hs->i < items.length->J.go i H
 yld:∀{H Hs H':Hp}{i:Nat}{x:V}{d:D},Same Hs H->Pp H Hs->items[i]?=some d->J.yld i H x H'->∃ Hs',Grow H Hs H' Hs'/\Rep K H' Hs' x d (fun _=>0)
 stop:∀{H Hs:Hp}{i:Nat},Same Hs H->Pp H Hs->items.length<=i->J.stop i H
def WalkV.w(w:WalkV J vs B Pp):Walk K J items B (fun H Hs=>Pp H Hs/\RepL K H Hs vs items (fun _=>0)) where
 stay:=fun h g k=>⟨w.stay h.1 g k,h.2.frame g fun b hb=>absurd hb (by simp)⟩
 go:=fun{H Hs i} g h l=>by
  have e:=h.2.len
  exact w.go g h.1 (List.getElem?_eq_getElem (show i < vs.length by omega))
 yld:=fun{H Hs H' i x d} g h e y=>by
  obtain ⟨v,m1,ev,rv,lv⟩:=h.2.at e
  obtain ⟨rfl,rfl⟩:=w.yld g h.1 ev y
  exact ⟨Hs,.inl ⟨rfl,rfl⟩,rv.mono lv⟩
 stop:=fun{H Hs i} g h l=>w.stop g h.1 (by have:=h.2.len;omega)
def Held(K:Fg)(H Hs:Hp)(σ:St):List (Nat×D)->Bud->Prop
 | [],_=>True
 | (i,d)::r,m=>∃(v:V)(m1 m2:Bud),σ[i]?=some (some v)/\Rep K H Hs v d m1/\Held K H Hs σ r m2/\∀ b,m1 b+m2 b<=m b
theorem Held.frame(g:Same Hs Hs'):∀{hs:List (Nat×D)}{m:Bud},(∀ b,m b≥1->H b≠none->H' b=H b)->Held K H Hs σ hs m->Held K H' Hs' σ hs m
 | [],_,_,h=>h
 | (i,d)::r,m,k,⟨v,m1,m2,e,x,y,l⟩=>⟨v,m1,m2,e,x.frame g fun b hb=>k b (by have:=l b;omega),y.frame g fun b hb=>k b (by have:=l b;omega),l⟩
theorem Held.keeps(k:Keeps lk σ σ'):∀{hs:List (Nat×D)}{m:Bud},(∀ p∈hs,lk p.1=true)->Held K H Hs σ hs m->Held K H Hs σ' hs m
 | [],_,_,h=>h
 | (i,d)::r,m,hl,⟨v,m1,m2,e,x,y,l⟩=>⟨v,m1,m2,(k i (hl (i,d) mem_cons_self)).trans e,x,y.keeps k fun p hp=>hl p (mem_cons_of_mem _ hp),l⟩
theorem ZaO:∀{hs:List (Nat×D)}{m M:Bud}{δ δ':List D}{u:Unit},Z8 hs δ=.ok (u,δ')->Held K H Hs σ hs m->RepS K H Hs σ δ M->RepS K H Hs σ δ' (fun b=>m b+M b)
 | [],m,M,δ,δ',u,e,h,s=>by
  have:=Ze e
  cases this
  exact s.mono fun b=>by omega
 | (i,d)::r,m,M,δ,δ',u,e,⟨v,m1,m2,e1,x,y,l⟩,s=>by
  have hi:i < δ.length:=by
   have:=s.length
   have:=(List.getElem?_eq_some_iff.mp e1).1
   omega
  have z:=Zbl s hi x
  rw [Zad e1] at z
  exact (ZaO (show Z8 r (δ.set i d)=_ from e) y z).mono fun b=>by have:=l b;(try dsimp only);omega
inductive tI(K:Fg)(ik:IK)(cs:M (List Op))(σ:St)(H:Hp)(R:It->Hp->Prop):Prop
 | mk (δ:List D) (Hs:Hp) (M:Bud) (h:List W×List (Nat×D)) (items:List D) (δ':List D) (h0:Good H Hs M) (h1:RepS K H Hs σ δ M) (h2:(cs.bnd Zr) δ=.ok (h,δ')) (h3:itW ik h.1=some items) (h4:∀(J:It)(Pp:Hp->Hp->Prop)(H' Hs':Hp)(B M':Bud),Good H' Hs' (fun b=>B b+M' b)->Stp H Hs M H' Hs' (fun b=>B b+M' b)->RepS K H' Hs' σ δ' M'->Held K H' Hs' σ h.2 B->Walk K J items B Pp->Pp H' Hs'->R J H'):tI K ik cs σ H R
def PIQ.imp{qq:Cx->Prop}(h:PIQ qq X tg it w)(q:∀ σ H R,w' σ H R->w σ H R):PIQ qq X tg it w':=fun pins s σ H R I z=>h pins s σ H R I (q σ H R z)
def PI.imp(h:PI X tg it w)(q:∀ σ H R,w' σ H R->w σ H R):PI X tg it w':=fun pins s σ H R I z=>h pins s σ H R I (q σ H R z)
def HW(K:Fg)(H Hs:Hp)(B:Bud)(v:V):W->Prop
 | .sc u=>v=u
 | .nd k ds=>∃ a vs,v=.ref a/\RepL K H Hs vs ds (fun _=>0)/\(ZcM K Hs a vs k\/(ZaH K H a vs k/\B a≥1))
theorem Zb9{K:Fg}{σ:St}{m M:Bud}{p:Op}{v:V}{w:W×Option (Nat×D)}(g:Good H Hs (fun b=>m b+M b))(s:RepS K H Hs σ δ M)(r:RepP K H Hs σ v p m)(e:holdV p δ=.ok (w,δ')):
 ∃ Hs' B M',Good H Hs' (fun b=>B b+M' b)/\Stp H Hs (fun b=>m b+M b) H Hs' (fun b=>B b+M' b)/\RepS K H Hs' σ δ' M'/\Held K H Hs' σ w.2.toList B/\HW K H Hs' B v w.1:=by
 have dropM:∀{Hs':Hp}{M':Bud},Good H Hs' M'->Good H Hs' (fun b=>(fun _=>0) b+M' b):=fun g=>g.re fun b=>by simp
 cases p with
 | tmp d=>
  cases d with
  | hole=>cases e
  | sc u=>
   have:=Ze e
   cases this
   cases r
   exact ⟨Hs,fun _=>0,M,g.re fun b=>by simp,(Stp.refl H Hs _).drop (fun b=>by simp) g.le,s,trivial,rfl⟩
  | node k o ds=>
   have:=Ze e
   cases this
   have hsame:=Zbk g (m:=m) fun b=>by omega
   have r2:=Rep.share hsame (ZcA (H:=H) (Hs:=Hs) (m:=m)) r
   refine ⟨shH H Hs m,fun _=>0,M,dropM g.share,(Stp.share g).drop (fun b=>by simp) g.share.le,s.frame hsame fun _ _ _=>rfl,trivial,?_⟩
   simp only [shr] at r2
   cases r2 with
   | shd n r3=>exact ⟨_,_,rfl,r3,.inl n⟩
 | late i=>
  have r:σ[i]?=some (some v):=r
  unfold holdV at e
  dsimp only at e
  split at e
  . rename_i u hi
    cases e
    obtain ⟨v',m1,m2,e1,q,l,f⟩:=s.slot hi (by simp)
    rw [r] at e1
    cases e1
    cases q
    exact ⟨Hs,fun _=>0,M,g.re fun b=>by simp,(Stp.refl H Hs _).drop (fun b=>by simp) g.le,s,trivial,rfl⟩
  . rename_i k ds hi
    cases e
    obtain ⟨v',m1,m2,e1,q,l,f⟩:=s.slot hi (by simp)
    rw [r] at e1
    cases e1
    cases q with
    | shd n q=>exact ⟨Hs,fun _=>0,M,g.re fun b=>by simp,(Stp.refl H Hs _).drop (fun b=>by simp) g.le,s,trivial,_,_,rfl,q,.inl n⟩
  . rename_i k ds hi
    cases e
    obtain ⟨v',m1,m2,e1,q,l,f⟩:=s.slot hi (by simp)
    rw [r] at e1
    cases e1
    cases q with
    | @own a _ vs _ _ m' n q l'=>
     have g2:Good H Hs (fun b=>m' b+(one a b+m2 b)):=g.re fun b=>by have:=l b;have:=l' b;omega
     have hsame:=Zbk g2 (m:=m') fun b=>by omega
     have q2:=RepL.share hsame (ZcA (H:=H) (Hs:=Hs) (m:=m')) q
     have st:=Stp.share g2
     have z:=f H (shH H Hs m') (some (.ref a)) .hole (fun _=>0) hsame (fun _ _ _=>rfl) (.inl rfl)
     rw [Zad r] at z
     refine ⟨shH H Hs m',one a,m2,g2.share,⟨fun b o h _=>h,fun b h=>?_,st.grow,fun b h h'=>?_,fun b h=>h⟩,z.mono fun b=>by simp,⟨_,one a,fun _=>0,r,.own n q2 fun b=>by simp,trivial,fun b=>by simp⟩,_,_,rfl,q2,.inr ⟨n,by simp [one]⟩⟩
     . have h:one a b+m2 b=1:=h
       have l0:m b+M b<=1:=g.le b
       have:=l b
       have:=l' b
       left
       show m b+M b=1
       omega
     . rcases st.shr b h h' with z|z
       . have z:m' b+(one a b+m2 b)=1:=z
         have l0:m b+M b<=1:=g.le b
         have:=l b
         have:=l' b
         left
         show m b+M b=1
         omega
       . exact .inr z
  . cases e
def Ze1(lo:Int)(n:Nat)(B:Bud):WalkV (Itr lo n) ((List.range n).map fun(k:Nat)=>V.int (lo+k)) B (fun _ _=>True) where
 stay:=fun _ _ _=>trivial
 go:=fun{H Hs i v} _ _ h=>by
  have:=(List.getElem?_eq_some_iff.mp h).1
  simp only [length_map,length_range] at this
  exact this
 yld:=fun{H Hs H' i x v} _ _ h y=>by
  obtain ⟨e,y⟩:=y
  have:=(List.getElem?_eq_some_iff.mp h).1
  simp only [length_map,length_range] at this
  rw [getElem?_map,List.getElem?_range this] at h
  simp only [map_some,Option.some.injEq] at h
  exact ⟨e,y.trans h⟩
 stop:=fun{H Hs i} _ _ h=>by
  simp only [length_map,length_range] at h
  exact h
def Zfq:WalkV (Itl K a) vs B (fun H Hs=>SqL K Hs a vs\/(H a=some (.lst vs)/\B a≥1)):=by
 have sq:∀{H Hs:Hp},Same Hs H->(SqL K Hs a vs\/(H a=some (.lst vs)/\B a≥1))->SqL K H a vs:=fun g h=>by
  rcases h with h|h
  . exact g.seq h
  . exact .inl (.inl h.1)
 refine ⟨fun h g k=>?_,fun g h e=>⟨vs,_,sq g h,e⟩,fun g h e y=>?_,fun g h e=>⟨vs,sq g h,e⟩⟩
 . rcases h with h|⟨h,hb⟩
   . exact .inl (g.seq h)
   . exact .inr ⟨(k a hb (by rw [h];simp)).trans h,hb⟩
 . obtain ⟨e1,y⟩:=y
   have:=y vs (sq g h)
   rw [e] at this
   exact ⟨e1,(Option.some.inj this).symm⟩
def ZfX:WalkV (Itt K a) vs B (fun H Hs=>SqT K Hs a vs\/(H a=some (.tup vs)/\B a≥1)):=by
 have sq:∀{H Hs:Hp},Same Hs H->(SqT K Hs a vs\/(H a=some (.tup vs)/\B a≥1))->SqT K H a vs:=fun g h=>by
  rcases h with h|h
  . exact Same.tupq' g h
  . exact .inl (.inl h.1)
 refine ⟨fun h g k=>?_,fun g h e=>⟨vs,_,sq g h,e⟩,fun g h e y=>?_,fun g h e=>⟨vs,sq g h,e⟩⟩
 . rcases h with h|⟨h,hb⟩
   . exact .inl (Same.tupq' g h)
   . exact .inr ⟨(k a hb (by rw [h];simp)).trans h,hb⟩
 . obtain ⟨e1,y⟩:=y
   have:=y vs (sq g h)
   rw [e] at this
   exact ⟨e1,(Option.some.inj this).symm⟩
section
variable{tg a b l:Expr}{ca cb:M Op}{p:Pos}
def Zie{c:M Op}{h:List W×List (Nat×D)}(e:((c.bnd fun p=>(M.ret ([]:List Op)).bnd fun ps=>M.ret (p::ps)).bnd Zr) δ=.ok (h,δ')):∃ p δ1 w,c δ=.ok (p,δ1)/\holdV p δ1=.ok (w,δ')/\h=([w.1],w.2.toList):=by
 obtain ⟨ps,δ1,e1,e2⟩:=Zb e
 obtain ⟨p,δ2,e3,e4⟩:=Zb e1
 obtain ⟨z,δ3,e5,e6⟩:=Zb e4
 have:=Ze e5
 cases this
 have:=Ze e6
 cases this
 obtain ⟨w,δ4,e7,e8⟩:=Zb e2
 obtain ⟨z,δ5,e9,e10⟩:=Zb e8
 have:=Ze e9
 cases this
 have:=Ze e10
 cases this
 exact ⟨p,δ1,w,e3,e7,by simp⟩
theorem Zdo:∀(l:List Int),RepL K H Hs (l.map V.int) (l.map fun i=>D.sc (.int i)) (fun _=>0)
 | []=>.nil _
 | i::l=>.cons (m1:=fun _=>0) (m2:=fun _=>0) (.sc _ _) (Zdo l) fun b=>by simp
def Zho(lo hi:Int):RepL K H Hs ((List.range (hi - lo).toNat).map fun(k:Nat)=>V.int (lo+k)) (rng lo hi) (fun _=>0):=by
 have z:=Zdo (K:=K) (H:=H) (Hs:=Hs) ((List.range (hi - lo).toNat).map fun(k:Nat)=>lo+k)
 rw [map_map,map_map] at z
 exact z
def ZfY{qq:Cx->Prop}(TT0:∀ (it:Addr) (lo:Int) (n:Nat),TurnQ qq X.prog X.w X.K tg (Itr lo n) [it] it (fun i h=>IsRangeIter h it (lo+(i:Nat) * 1) ((n:Int) - (i:Nat)) 1))(hm:X.mg "range"=none)(ha:PE X a (tP X.K ca))(hz:autoParam (glOk X.env.scope "range"=true) Q8)(hs:autoParam (starEach [a] X.env=[(false,eval a X.env)]) Q9):
 PIQ qq X tg (.Call (.Name "range" p) [a] [] pos) (tI X.K .rng1 (ca.bnd fun p=>(M.ret ([]:List Op)).bnd fun ps=>M.ret (p::ps))):=PIQ.imp (ZhE TT0 (glk hz) hm (ZP ha ZaL (by show _=_;rw [hs];rfl)) hs) fun σ H R h=>by
 obtain ⟨δ,Hs,M,h,items,δ',g,s,e,ei,q⟩:=h
 obtain ⟨p,δ1,w,e1,e2,rfl⟩:=Zie e
 refine ⟨δ,Hs,M,p,δ1,g,s,e1,fun x H2 Hs2 m1 M2 g2 st2 r1 s2=>?_⟩
 obtain ⟨Hs3,B,M3,g3,st3,s3,hh,hw⟩:=Zb9 g2 s2 r1 e2
 have z:=Zo (m1:=fun _=>0) g (g2.re fun b=>by simp) (st2.drop (fun b=>by simp) g2.le) g3 st3
 obtain ⟨w1,w2⟩:=w
 replace ei:ZhZ _=_:=ei
 unfold ZhZ at ei
 split at ei
 rotate_left
 . cases ei
 rename_i n hx
 cases hx
 split at ei
 . rename_i hok
   cases ei
   obtain rfl:=hw
   simp only [okR,and_eq_true,decide_eq_true_eq] at hok
   have hz:(n - 0).toNat=n.toNat:=by omega
   refine ⟨n,rfl,hok.1,hok.2,?_⟩
   have:=Zho (K:=X.K) (H:=H2) (Hs:=Hs3) 0 n
   rw [hz] at this
   exact q _ _ H2 Hs3 B M3 g3 (z.2.1.drop (fun b=>by simp) z.1.le) s3 hh (Ze1 0 n.toNat B).w ⟨trivial,this⟩
 . cases ei
def ZbA(hm:X.mg "range"=none)(ha:PE X a (tP X.K ca))(hz:autoParam (glOk X.env.scope "range"=true) Q8)(hs:autoParam (starEach [a] X.env=[(false,eval a X.env)]) Q9):
 PI X tg (.Call (.Name "range" p) [a] [] pos) (tI X.K .rng1 (ca.bnd fun p=>(M.ret ([]:List Op)).bnd fun ps=>M.ret (p::ps))):=ZfY (fun it lo n=>Zeg it lo n) hm ha hz hs
def ZlZ(hm:X.mg "range"=none)(ha:PE X a (tP X.K ca))(hz:autoParam (glOk X.env.scope "range"=true) Q8)(hs:autoParam (starEach [a] X.env=[(false,eval a X.env)]) Q9):
 PIQ Quiet X tg (.Call (.Name "range" p) [a] [] pos) (tI X.K .rng1 (ca.bnd fun p=>(M.ret ([]:List Op)).bnd fun ps=>M.ret (p::ps))):=ZfY (fun it lo n=>Zg7 it lo n) hm ha hz hs
def Zma(hm:X.mg "range"=none)(ha:PE X a (tP X.K ca))(hb:PE X b (tP X.K cb))(hz:autoParam (glOk X.env.scope "range"=true) Q8)(hs:autoParam (starEach [a,b] X.env=[(false,eval a X.env),(false,eval b X.env)]) Q9)(hs2:autoParam (starEach [b] X.env=[(false,eval b X.env)]) Q9):
 PI X tg (.Call (.Name "range" p) [a,b] [] pos) (tI X.K .rng2 (ca.bnd fun p=>(cb.bnd fun p=>(M.ret ([]:List Op)).bnd fun ps=>M.ret (p::ps)).bnd fun ps=>M.ret (p::ps))):=PI.imp (Ziy (glk hz) hm (ZP ha (ZP hb ZaL (by show _=_;rw [hs2];rfl)) (by show _=_;rw [hs,hs2])) hs hs2) fun σ H R h=>by
 obtain ⟨δ,Hs,M,h,items,δ',g,s,e,ei,q⟩:=h
 obtain ⟨ps,δ1,e1,e2⟩:=Zb e
 obtain ⟨p1,δ2,e3,e4⟩:=Zb e1
 obtain ⟨qs,δ3,e5,e6⟩:=Zb e4
 obtain ⟨p2,δ4,e7,e8⟩:=Zb e5
 obtain ⟨z,δ5,e9,e10⟩:=Zb e8
 have:=Ze e9
 cases this
 have:=Ze e10
 cases this
 have:=Ze e6
 cases this
 obtain ⟨w1,δ6,e11,e12⟩:=Zb e2
 obtain ⟨ws,δ7,e13,e14⟩:=Zb e12
 obtain ⟨w2,δ8,e15,e16⟩:=Zb e13
 obtain ⟨z,δ9,e17,e18⟩:=Zb e16
 have:=Ze e17
 cases this
 have:=Ze e18
 cases this
 have:=Ze e14
 cases this
 obtain ⟨w1,h1⟩:=w1
 obtain ⟨w2,h2⟩:=w2
 replace ei:Zia _=_:=ei
 unfold Zia at ei
 split at ei
 rotate_left
 . cases ei
 rename_i lo hi hx
 cases hx
 split at ei
 . rename_i hok
   cases ei
   simp only [okR,and_eq_true,decide_eq_true_eq] at hok
   refine ⟨δ,Hs,M,p1,δ2,g,s,e3,fun x H1 Hs1 m1 M1 g1 st1 r1 s1=>⟨δ2,Hs1,M1,p2,_,g1.re,s1,e7,fun y H2 Hs2 m2 M2 g2 st2 r2 s2=>?_⟩⟩
   obtain ⟨G2,S2,k2⟩:=Zo g g1 st1 g2 st2
   have r1':=RepP.frame st2.grow k2 r1
   have r2b:RepP X.K H2 Hs2 σ x p1 (fun b=>m1 b+m2 b):=by
    cases p1 with
    | late i=>exact r1'
    | tmp d=>exact Rep.mono r1' fun b=>by omega
   obtain ⟨Hs3,B3,M3,g3,st3,s3,hh3,hw3⟩:=Zb9 (m:=fun b=>m1 b+m2 b) (G2.re fun b=>by (try dsimp only);omega) s2 r2b e11
   obtain rfl:=hw3
   have r2':RepP X.K H2 Hs3 σ y p2 (fun _=>0):=by
    cases p2 with
    | late i=>exact r2
    | tmp d=>
     cases d with
     | sc u=>cases r2;exact .sc _ _
     | hole=>cases e15
     | node k o ds=>cases e15
   have nh1:h1=none:=by
    cases p1 with
    | tmp d=>cases d with
     | sc u=>cases e11;rfl
     | hole=>cases e11
     | node k o ds=>cases e11
    | late i=>
     unfold holdV at e11
     dsimp only at e11
     split at e11<;>cases e11
     rfl
   have nh2:h2=none:=by
    cases p2 with
    | tmp d=>cases d with
     | sc u=>cases e15;rfl
     | hole=>cases e15
     | node k o ds=>cases e15
    | late i=>
     unfold holdV at e15
     dsimp only at e15
     split at e15<;>cases e15
     rfl
   subst nh1 nh2
   obtain ⟨Hs4,B4,M4,g4,st4,s4,hh4,hw4⟩:=Zb9 (m:=fun _=>0) (g3.re fun b=>by simp) s3 r2' e15
   obtain rfl:=hw4
   have S2':Stp H Hs M H2 Hs2 (fun b=>m1 b+m2 b+M2 b):=S2.drop (fun b=>by omega) G2.le
   have G2':Good H2 Hs2 (fun b=>m1 b+m2 b+M2 b):=G2.re fun b=>by omega
   have z3:=Zo (m1:=fun _=>0) g (G2'.re fun b=>by simp) (S2'.drop (fun b=>by simp) G2'.le) g3 st3
   have S3:Stp H Hs M H2 Hs3 (fun b=>B3 b+M3 b):=z3.2.1.drop (fun b=>by simp) z3.1.le
   have st4':Stp H2 Hs3 (fun b=>B3 b+M3 b) H2 Hs4 (fun b=>B4 b+M4 b):=⟨fun b o h _=>h,fun b h=>by
    rcases st4.own b h with z|z
    . have z:0+M3 b=1:=z
      have:B3 b+M3 b<=1:=g3.le b
      left;show B3 b+M3 b=1;omega
    . exact .inr z,st4.grow,fun b h h'=>by
    rcases st4.shr b h h' with z|z
    . have z:0+M3 b=1:=z
      have:B3 b+M3 b<=1:=g3.le b
      left;show B3 b+M3 b=1;omega
    . exact .inr z,fun b h=>h⟩
   have z4:=Zo (m1:=fun _=>0) g (g3.re fun b=>by simp) (S3.drop (fun b=>by simp) g3.le) g4 st4'
   exact ⟨lo,hi,rfl,⟨hok.1.1,hok.1.2,hok.2.1,hok.2.2⟩,q _ _ H2 Hs4 B4 M4 g4 (z4.2.1.drop (fun b=>by simp) z4.1.le) s4 trivial (Ze1 lo _ B4).w ⟨trivial,Zho lo hi⟩⟩
 . cases ei
theorem Zdp(hl:PE X l (tP X.K ca)):PI X tg l (tI X.K .val (ca.bnd fun p=>(M.ret ([]:List Op)).bnd fun ps=>M.ret (p::ps))):=by
 intro pins st0 σ H R I hh0
 obtain ⟨δ,Hs,M,h,items,δ',g,s,e,ei,q⟩:=hh0
 obtain ⟨p,δ1,w,e1,e2,rfl⟩:=Zie e
 obtain ⟨w1,w2⟩:=w
 have core:∀(x:V)(H2 Hs2:Hp)(m1 M2:Bud),Good H2 Hs2 (fun b=>m1 b+M2 b)->Stp H Hs M H2 Hs2 (fun b=>m1 b+M2 b)->RepP X.K H2 Hs2 σ x p m1->RepS X.K H2 Hs2 σ δ1 M2->
  ∃ Hs3 B M3,Good H2 Hs3 (fun b=>B b+M3 b)/\Stp H Hs M H2 Hs3 (fun b=>B b+M3 b)/\RepS X.K H2 Hs3 σ δ' M3/\Held X.K H2 Hs3 σ w2.toList B/\HW X.K H2 Hs3 B x w1:=fun x H2 Hs2 m1 M2 g2 st2 r1 s2=>by
  obtain ⟨Hs3,B,M3,g3,st3,s3,hh,hw⟩:=Zb9 g2 s2 r1 e2
  have z:=Zo (m1:=fun _=>0) g (g2.re fun b=>by simp) (st2.drop (fun b=>by simp) g2.le) g3 st3
  exact ⟨Hs3,B,M3,g3,z.2.1.drop (fun b=>by simp) z.1.le,s3,hh,hw⟩
 cases w1 with
 | sc u=>
  cases ei
 | nd k ds=>
  cases k with
  | lst=>
   cases ei
   refine ZgX hl pins st0 σ H R I ⟨δ,Hs,M,p,δ1,g,s,e1,fun x H2 Hs2 m1 M2 g2 st2 r1 s2=>?_⟩
   obtain ⟨Hs3,B,M3,g3,st3,s3,hh,a,vs,hx,hr,hn⟩:=core x H2 Hs2 m1 M2 g2 st2 r1 s2
   have hp:SqL X.K Hs3 a vs\/(H2 a=some (.lst vs)/\B a≥1):=hn.elim (fun n=>.inl (.inl (.inl n))) fun n=>.inr n
   refine ⟨a,hx,⟨vs,?_⟩,q _ _ H2 Hs3 B M3 g3 st3 s3 hh Zfq.w ⟨hp,hr⟩⟩
   rcases hp with hp|hp
   . exact g3.sub.seq hp
   . exact .inl (.inl hp.1)
  | frl=>
   cases ei
   refine ZgX hl pins st0 σ H R I ⟨δ,Hs,M,p,δ1,g,s,e1,fun x H2 Hs2 m1 M2 g2 st2 r1 s2=>?_⟩
   obtain ⟨Hs3,B,M3,g3,st3,s3,hh,a,vs,hx,hr,hn⟩:=core x H2 Hs2 m1 M2 g2 st2 r1 s2
   have hp:SqL X.K Hs3 a vs\/(H2 a=some (.lst vs)/\B a≥1):=hn.elim (fun n=>.inl n) fun n=>n.1.elim
   refine ⟨a,hx,⟨vs,?_⟩,q _ _ H2 Hs3 B M3 g3 st3 s3 hh Zfq.w ⟨hp,hr⟩⟩
   rcases hp with hp|hp
   . exact g3.sub.seq hp
   . exact .inl (.inl hp.1)
  | tup=>
   cases ei
   refine Zix hl pins st0 σ H R I ⟨δ,Hs,M,p,δ1,g,s,e1,fun x H2 Hs2 m1 M2 g2 st2 r1 s2=>?_⟩
   obtain ⟨Hs3,B,M3,g3,st3,s3,hh,a,vs,hx,hr,hn⟩:=core x H2 Hs2 m1 M2 g2 st2 r1 s2
   have hp:SqT X.K Hs3 a vs\/(H2 a=some (.tup vs)/\B a≥1):=hn.elim (fun n=>.inl (.inl (.inl n))) fun n=>.inr n
   refine ⟨a,hx,⟨vs,?_⟩,q _ _ H2 Hs3 B M3 g3 st3 s3 hh ZfX.w ⟨hp,hr⟩⟩
   rcases hp with hp|hp
   . exact Same.tupq' g3.sub hp
   . exact .inl (.inl hp.1)
  | ftp=>
   cases ei
   refine Zix hl pins st0 σ H R I ⟨δ,Hs,M,p,δ1,g,s,e1,fun x H2 Hs2 m1 M2 g2 st2 r1 s2=>?_⟩
   obtain ⟨Hs3,B,M3,g3,st3,s3,hh,a,vs,hx,hr,hn⟩:=core x H2 Hs2 m1 M2 g2 st2 r1 s2
   have hp:SqT X.K Hs3 a vs\/(H2 a=some (.tup vs)/\B a≥1):=hn.elim (fun n=>.inl n) fun n=>n.1.elim
   refine ⟨a,hx,⟨vs,?_⟩,q _ _ H2 Hs3 B M3 g3 st3 s3 hh ZfX.w ⟨hp,hr⟩⟩
   rcases hp with hp|hp
   . exact Same.tupq' g3.sub hp
   . exact .inl (.inl hp.1)
  | dic ks=>cases ei
  | ins C fs=>cases ei
  | exc ns fr fs=>cases ei
end
noncomputable def gT(K:Fg):Tg->TG
 | .name i=>Zcr i
 | .tup is=>gSeq K is.length (gNs is)
theorem ZeM{K:Fg}{tg:Tg}{d:D}{v:V}{σ:St}{M:Bud}{u:Unit}{Q:St->Hp->Prop}(hs:Same Hs H)(e:asgT lk tg d δ=.ok (u,δ'))(r:Rep K H Hs v d (fun _=>0))(s:RepS K H Hs σ δ M)
 (q:∀ σ',Keeps lk σ σ'->RepS K H Hs σ' δ' M->Q σ' H):gT K tg v σ H Q:=by
 cases tg with
 | name i=>
  obtain ⟨h1,h2,rfl⟩:=Zd8 e
  exact q _ (Za1 h2) ((Zbl s h1 r).mono fun b=>by simp)
 | tup is=>
  cases d with
  | sc v=>cases e
  | hole=>cases e
  | node k o ds=>
   cases k with
   | tup=>
    have e:Zbh lk is ds δ=.ok (u,δ'):=e
    cases r with
    | own n r l=>
     rename_i a _ _
     have:=l a
     simp [one] at this
    | shd n r=>
     obtain ⟨hl,hq⟩:=Zd9 (Q:=Q) e r s fun σ' k z=>q σ' k (z.mono fun b=>by simp)
     exact ⟨_,_,rfl,.inl (.inl (.inl (hs _ _ n))),hl,hq⟩
   | _=>cases e
def Zmb(h:∀ j,a≠.v j):Zn a c=c.bnd fun d=>M.ret (.tmp d):=by
 cases a<;>first|rfl|exact absurd rfl (h _)
theorem Zc4:∀{ps:List Op}{δ δ':List D}{h:List W×List (Nat×D)},Zr ps δ=.ok (h,δ')->∀ q∈h.2,.late q.1∈ps
 | [],δ,δ',h,e,q,hq=>by
  have:=Ze (show T.M.ret (([]:List W),([]:List (Nat×D))) δ=.ok (h,δ') from e)
  cases this
  simp at hq
 | p::ps,δ,δ',h,e,q,hq=>by
  obtain ⟨w,δ1,e1,e2⟩:=Zb e
  obtain ⟨ws,δ2,e3,e4⟩:=Zb e2
  have:=Ze e4
  cases this
  rcases List.mem_append.mp hq with h|h
  . have:p=.late q.1:=by
     cases p with
     | tmp d=>cases d<;>cases e1<;>simp at h
     | late i=>
      unfold holdV at e1
      dsimp only at e1
      split at e1<;>cases e1<;>simp at h
      subst h
      rfl
    rw [this]
    exact mem_cons_self
  . exact mem_cons_of_mem _ (Zc4 e3 q h)
def HWs(cs:M (List Op))(lk:Nat->Bool):Prop:=∀ δ h δ',(cs.bnd Zr) δ=.ok (h,δ')->∀ q∈h.2,lk q.1=true
def LkLe(lk lk':Nat->Bool):Prop:=∀ i,lk i=true->lk' i=true
def ZcR(lk f:Nat->Bool):LkLe lk (fun j=>lk j || f j):=fun i h=>by
 show (lk i || f i)=true
 rw [h]
 rfl
section
def ZcB(hp:PassesOwn (model X.prog X.w) X.A X.env X.xe)(hc:X.calm=true)(hl:LkLe lk lk')(hw:HWs cs lk')
 (hi:PI X tg iter (tI X.K ik cs)) (hg:PG X tg (gT X.K tgt)) (hb:PSs X body (tS X.K lk' cb)) (hs:∀ x,foldedSetIterable iter X.env x=pure x:=by intro _;rfl):
 PS X (.For tg iter body [] pos) (tS X.K lk (cs.bnd fun ps=>(Zr ps).bnd fun h=>(lift (itW ik h.1)).bnd fun items=>(forL (asgT lk' tgt) cb items).bnd fun f=>(Z8 h.2).bnd fun _=>M.ret f)):=
 PS.imp (Znh hp hc hi hg hb hs) fun E σ H h=>by
 obtain ⟨δ,Hs,M,f,δ',g,s,ea,q⟩:=h
 obtain ⟨ps,δ1,e1,eb⟩:=Zb ea
 obtain ⟨hh,δ2,e2,ec⟩:=Zb eb
 obtain ⟨items,δ3,e3,ed⟩:=Zb ec
 obtain ⟨e3',rfl⟩:=ZK e3
 obtain ⟨f1,δ4,e4,ee⟩:=Zb ed
 obtain ⟨u,δ5,e5,e6⟩:=Zb ee
 have:=Ze e6
 cases this
 have e12:(cs.bnd Zr) δ=.ok (hh,δ3):=by
  show T.M.bnd cs Zr δ=_
  unfold T.M.bnd
  rw [e1]
  exact e2
 have locked:=hw _ _ _ e12
 refine ⟨δ,Hs,M,hh,items,δ3,g,s,e12,e3',fun J Pp H1 Hs1 B M1 g1 st1 s1 held wk pp=>?_⟩
 have kl:∀{σ1 σ2:St},Keeps lk' σ1 σ2->Keeps lk σ1 σ2:=fun k i h=>k i (hl i h)
 refine ⟨fun i m σ2 H2=>m=items.length - i/\i<=items.length/\Keeps lk' σ σ2/\∃(δ2:List D)(Hs2:Hp)(M2:Bud),Good H2 Hs2 (fun b=>B b+M2 b)/\Stp H Hs M H2 Hs2 (fun b=>B b+M2 b)/\RepS X.K H2 Hs2 σ2 δ2 M2/\Held X.K H2 Hs2 σ2 hh.2 B/\Pp H2 Hs2/\forL (asgT lk' tgt) cb (items.drop i) δ2=.ok (f,δ4),
  ⟨items.length,by simp,zero_le _,Keeps.refl _ _,δ3,Hs1,M1,g1,st1,s1,held,pp,by rw [drop_zero];exact e4⟩,?_⟩
 rintro i m σ2 H2 ⟨rfl,hle,k2,δ2,Hs2,M2,g2,st2,s2,held2,pp2,e7⟩
 have fin_nx:∀{σ3:St}{H3 Hs3:Hp}{M3:Bud},f=.nx->Keeps lk' σ σ3->Good H3 Hs3 (fun b=>B b+M3 b)->Stp H Hs M H3 Hs3 (fun b=>B b+M3 b)->RepS X.K H3 Hs3 σ3 δ4 M3->Held X.K H3 Hs3 σ3 hh.2 B->E.nx σ3 H3:=fun{σ3 H3 Hs3 M3} ef k3 g3 st3 s3 held3=>by
  subst ef
  exact q σ3 H3 Hs3 _ (kl k3) g3 st3 (ZaO e5 held3 s3)
 by_cases hlt:i < items.length
 . right
   have hd:items[i]?=some (items[i]'(by omega)):=List.getElem?_eq_getElem (by omega)
   have hdrop:items.drop i=items[i]'(by omega)::items.drop (i+1):=List.drop_eq_getElem_cons (by omega)
   rw [hdrop] at e7
   obtain ⟨u1,δ5',e8,e9⟩:=Zb e7
   obtain ⟨fl,δ6,e10,e11⟩:=Zb e9
   refine ⟨wk.go g2.sub pp2 hlt,fun σ3 H3=>Keeps lk' σ σ3/\∃(δ2:List D)(Hs2:Hp)(M2:Bud),Good H3 Hs2 (fun b=>B b+M2 b)/\Stp H Hs M H3 Hs2 (fun b=>B b+M2 b)/\RepS X.K H3 Hs2 σ3 δ2 M2/\Held X.K H3 Hs2 σ3 hh.2 B/\Pp H3 Hs2/\forL (asgT lk' tgt) cb (items.drop (i+1)) δ2=.ok (f,δ4),
    fun σ3 H3 z90=>by obtain ⟨k3,z⟩:=z90;exact ⟨items.length - (i+1),by omega,rfl,hlt,k3,z⟩,fun x H' y=>?_⟩
   obtain ⟨Hs3,gr,rv⟩:=wk.yld g2.sub pp2 hd y
   obtain ⟨sm,fr,_⟩:=gr.same g2.sub
   have pp2:=wk.stay pp2 sm fun b _ n=>fr b n
   have s2:=RepS.frame sm (fun b _ n=>fr b n) s2
   have held2:=held2.frame sm fun b _ n=>fr b n
   have st2:=gr.stp g2 st2
   have g2:=gr.good g2
   clear gr sm fr y
   generalize Hs3=Hs2 at *
   refine ZeM (Hs:=Hs2) g2.sub e8 rv s2 fun σ3 k3 s3=>?_
   refine ⟨δ5',Hs2,M2,fl,δ6,g2.re,s3,e10,?_⟩
   have held3:Held X.K H' Hs2 σ3 hh.2 B:=held2.keeps k3 locked
   have nxt:∀{σ4:St}{H4 Hs4:Hp}{M4:Bud},Keeps lk' σ3 σ4->Good H4 Hs4 M4->Stp H' Hs2 M2 H4 Hs4 M4->
    Keeps lk' σ σ4/\Good H4 Hs4 (fun b=>B b+M4 b)/\Stp H Hs M H4 Hs4 (fun b=>B b+M4 b)/\Held X.K H4 Hs4 σ4 hh.2 B/\Pp H4 Hs4:=fun{σ4 H4 Hs4 M4} k4 g4 st4=>by
    obtain ⟨G,S,kk⟩:=Zo g g2 st2 g4 st4
    exact ⟨k2.trans (k3.trans k4),G,S,(held3.keeps k4 locked).frame st4.grow kk,wk.stay pp2 st4.grow kk⟩
   cases fl with
   | nx=>
    refine fun σ4 H4 Hs4 M4 k4 g4 st4 s4=>?_
    obtain ⟨a1,a2,a3,a4,a6⟩:=nxt k4 g4 st4
    exact ⟨a1,δ6,Hs4,M4,a2,a3,s4,a4,a6,e11⟩
   | ct=>
    refine fun σ4 H4 Hs4 M4 k4 g4 st4 s4=>?_
    obtain ⟨a1,a2,a3,a4,a6⟩:=nxt k4 g4 st4
    exact ⟨a1,δ6,Hs4,M4,a2,a3,s4,a4,a6,e11⟩
   | bk=>
    refine fun σ4 H4 Hs4 M4 k4 g4 st4 s4=>?_
    obtain ⟨a1,a2,a3,a4,a6⟩:=nxt k4 g4 st4
    have:=Ze e11
    cases this
    exact fin_nx rfl a1 a2 a3 s4 a4
   | rt d=>
    refine fun v σ4 H4 Hs4 m4 M4 k4 g4 st4 rd s4=>?_
    obtain ⟨a1,a2,a3,a4,a6⟩:=nxt k4 g4 st4
    have:=Ze e11
    cases this
    exact q v σ4 H4 Hs4 m4 (fun b=>B b+M4 b) (kl a1) (a2.re fun b=>by (try dsimp only);omega) (a3.drop (fun b=>by (try dsimp only);omega) a2.le) rd (ZaO e5 a4 s4)
 . left
   have e0:items.drop i=[]:=List.drop_of_length_le (by omega)
   rw [e0] at e7
   have:=Ze e7
   cases this
   exact ⟨wk.stop g2.sub pp2 (by omega),fin_nx rfl k2 g2 st2 s2 held2⟩
end
theorem RepS.toL:∀{vs:List V}{ds:List D}{m:Bud},RepS K H Hs (vs.map some) ds m->RepL K H Hs vs ds m
 | [],_,_,h=>by cases h;exact .nil _
 | v::vs,_,_,h=>by
  cases h with
  | cons x y l=>
   refine .cons ?_ (RepS.toL y) l
   rcases x with rfl|⟨w,e,r⟩
   . exact .hole _ _
   . cases e
     exact r
section
def Ze2(hn:vs.length=n)(k:Keeps (fun i=>decide (i < n)) (L2.start N vs) σ'):σ'.take n=vs.map some:=by
 apply List.ext_getElem?
 intro i
 by_cases hi:i < n
 . rw [List.getElem?_take_of_lt hi,k i (by simpa using hi)]
   unfold L2.start
   rw [List.getElem?_append_left (by rw [length_map];omega)]
 . rw [List.getElem?_eq_none (by rw [length_take];omega),List.getElem?_eq_none (by rw [length_map];omega)]
def Zfr(r:RepL K H Hs vs ds m):RepS K H Hs (L2.start N vs) (ds++replicate (N.length - ds.length) .hole) m:=by
 unfold L2.start
 rw [r.len]
 have z:=Sep.append (RepL.slots r) (holes (K:=K) (H:=H) (Hs:=Hs) (fun _=>none) (N.length - ds.length) (fun _=>0) (replicate (N.length - ds.length) none) (by simp))
 exact z.mono fun b=>by simp
def Zhp{K:Fg}{C:Ctx}{body:List S}{N ps:List Str}{vs:List V}{Q:VK}{E:XK}(h:spF K (Zh C ps.length N.length body) vs H Q E):vs.length=ps.length:=by
 obtain ⟨ds,Hs,m,d,ds',g,r,e,q⟩:=h
 unfold Zh at e
 split at e
 . rename_i hl
   rw [r.len]
   exact hl
 . cases e
def ZiY{K:Fg}{C:Ctx}{body:List S}{N ps:List Str}{vs:List V}{Q:VK}{E:XK}(h:spF K (Zh C ps.length N.length body) vs H Q E):tS K (fun i=>decide (i < ps.length)) (exs { C with lock:=fun i=>decide (i < ps.length) } body) { nx:=fun _ H'=>Q .non H',rt:=Q } (L2.start N vs) H:=by
 obtain ⟨ds,Hs,m,d,ds',g,r,e,q⟩:=h
 unfold Zh at e
 split at e
 . rename_i hl
   have hv:vs.length=ps.length:=by rw [r.len];exact hl
   have hr0:=Zfr (N:=N) r
   rw [hl] at hr0
   cases he:exs { C with lock:=fun i=>decide (i < ps.length) } body (ds++replicate (N.length - ps.length) .hole) with
   | ok z=>
    obtain ⟨fl,δ'⟩:=z
    rw [he] at e
    refine ⟨_,Hs,m,fl,δ',g,hr0,he,?_⟩
    have back:∀{σ':St}{H' Hs':Hp}{M':Bud},Keeps (fun i=>decide (i < ps.length)) (L2.start N vs) σ'->RepS K H' Hs' σ' δ' M'->RepL K H' Hs' vs (δ'.take ps.length) M':=fun k' s'=>by
     have z:=s'.take ps.length
     rw [Ze2 hv k'] at z
     exact RepS.toL z
    cases fl with
    | nx=>
     cases e
     exact fun σ' H' Hs' M' k' g' st' s'=>q .non H' Hs' (fun _=>0) M' (Za4 g') (st'.drop (fun b=>by simp) g'.le) (.sc _ _) (back k' s')
    | rt dd=>
     cases e
     exact fun v σ' H' Hs' m1 M' k' g' st' rv s'=>q v H' Hs' m1 M' g' st' rv (back k' s')
    | bk=>cases e
    | ct=>cases e
   | exc x y=>rw [he] at e;cases e
   | stuck=>rw [he] at e;cases e
 . cases e
def ZnT(F:FunV dV K x qual st f fd)(Sc:FnScope N ps (Zl st))
 (hb:∀(cdv:Value)(A:Around)(outer:List Env)(s:Shared)(H:Hp)(E:XK),Room k (A.deeper (PyProof.Rows.envOfC qual (Zl st) s.heap.objs.size f cdv))->
  PSs (cxOf CX0 P w K mg base N qual (Zl st) f cdv A outer s H E).nox (ZD st) (tS K (fun i=>decide (i < ps.length)) (exs { C with lock:=fun i=>decide (i < ps.length) } body))):
 FnOk P w K mg base CX0 (k+1) f fd ps (spF K (Zh C ps.length N.length body)):=by
 exact F.ok Sc (fun vs H Q E h=>Zhp h) fun cdv A outer s H vs Q E hr h=>⟨_,hb cdv A outer s H E hr,ZiY h⟩
def Zmc(F:FunV dV K x qual st f fd)(Sc:FnScope N ps (Zl st))
 (hb:∀(cdv:Value)(A:Around)(outer:List Env)(s:Shared)(H:Hp)(E:XK)(p:Addr×Obj×HO),RoomH k (A.deeper (PyProof.Rows.envOfC qual (Zl st) s.heap.objs.size f cdv))->A.handled=some (.ref p.1)->Lone p.2.1->
  PSs ({ cxOf CX0 P w K mg base N qual (Zl st) f cdv A outer s H E with calm:=false,fz:=[p] }:Cx).nox (ZD st) (tS K (fun i=>decide (i < ps.length)) (exs { C with lock:=fun i=>decide (i < ps.length) } body))):
 FnOkH P w K mg base CX0 (k+1) f fd ps (spF K (Zh C ps.length N.length body)):=by
 exact F.okH Sc (fun vs H Q E h=>Zhp h) fun cdv A outer s H vs Q E p hr hh hl h=>⟨_,hb cdv A outer s H E p hr hh hl,ZiY h⟩
def ZdA(F:FunV dV K x qual st f fd)(Sc:FnScope N ps (Zl st))(hn:ps.length=n)(hN:N.length=nN)
 (hb:∀(cdv:Value)(A:Around)(outer:List Env)(s:Shared)(H:Hp)(E:XK),Room k (A.deeper (PyProof.Rows.envOfC qual (Zl st) s.heap.objs.size f cdv))->
  PSs (cxOf CX0 P w K mg base N qual (Zl st) f cdv A outer s H E).nox (ZD st) (tS K (fun i=>decide (i < n)) (exs { C with lock:=fun i=>decide (i < n) } body))):
 FnOk P w K mg base CX0 (k+1) f fd ps (spF K (Zh C n nN body)):=by
 subst hn hN
 exact ZnT F Sc hb
end
theorem Ze3:∀{js:List Nat}{δ δ':List D}{caps:List D}{M:Bud},Zc9 js δ=.ok (caps,δ')->RepS K H Hs σ δ M->∃ mc M',RepS K H Hs (Zbv js σ) caps mc/\RepS K H Hs σ δ' M'/\(∀ b,mc b+M' b<=M b)/\∀ j∈js,j < σ.length
 | [],δ,δ',caps,M,e,s=>by
  have:=Ze e
  cases this
  exact ⟨fun _=>0,M,.nil _,s,fun b=>by simp,fun j hj=>by simp at hj⟩
 | j::js,δ,δ',caps,M,e,s=>by
  unfold Zc9 at e
  split at e
  . rename_i d hd
    obtain ⟨ds,δ1,e1,e2⟩:=Zb e
    have:=Ze e2
    cases this
    obtain ⟨o,m1,m2,q1,q2,l,f⟩:=s.focus hd
    have z:=f (RepO K H Hs) o .hole (fun _=>0) (fun a d m' _ q=>q) (.inl rfl)
    rw [Zad q1] at z
    obtain ⟨mc,M',h1,h2,h3,h4⟩:=Ze3 e1 z
    refine ⟨fun b=>m1 b+mc b,M',?_,h2,fun b=>by have:=l b;have:=h3 b;dsimp only at *;omega,fun i hi=>?_⟩
    . rw [ZdL]
      have ho:(σ[j]?).join=o:=by rw [q1];rfl
      rw [ho]
      exact .cons q2 h1 fun b=>Nat.le_refl _
    . rcases List.mem_cons.mp hi with rfl|hi
      . exact (List.getElem?_eq_some_iff.mp q1).1
      . exact h4 i hi
  . cases e
def ZbF(caps:List D):Zbn [] caps=M.ret ():=by cases caps<;>rfl
def ZfZ(j:Nat)(js:List Nat)(d:D)(ds δ:List D):Zbn (j::js) (d::ds) δ=Zbn js ds (δ.set j d):=rfl
theorem Zif(js:List Nat):∀(caps δ δ':List D)(mc M:Bud)(u:Unit),(∀ j∈js,j < σ.length)->Zbn js caps δ=.ok (u,δ')->RepS K H Hs (Zbv js σ) caps mc->RepS K H Hs σ δ M->RepS K H Hs σ δ' (fun b=>mc b+M b):=by
 induction js with
 | nil=>
  intro caps δ δ' mc M u hj e c s
  rw [ZbF] at e
  have:=Ze e
  cases this
  exact s.mono fun b=>by omega
 | cons j js ih=>
  intro caps δ δ' mc M u hj e c s
  rw [ZdL] at c
  cases c with
  | @cons _ d _ ds m1 m2 _ x y l=>
   rw [ZfZ] at e
   have hlt:=hj j mem_cons_self
   have hlt2:j < δ.length:=by rw [<- s.length];exact hlt
   obtain ⟨o,n1,n2,q1,q2,l2,f⟩:=s.focus (List.getElem?_eq_getElem hlt2)
   have ho:(σ[j]?).join=o:=by rw [q1];rfl
   rw [ho] at x
   have z:=f (RepO K H Hs) o d m1 (fun a d m' _ q=>q) x
   rw [Zad q1] at z
   have fin:=ih ds (δ.set j d) δ' m2 _ u (fun i hi=>hj i (mem_cons_of_mem _ hi)) e y z
   exact fin.mono fun b=>by have:=l b;have:=l2 b;(try dsimp only);omega
def Zkc{N:Bud}{A:Addr}{o:HO}(hA0:H0 A=none)(hA:Hs A=none)(g:Good H Hs (fun b=>one A b+N b))(st:Stp H0 Hs0 M0 H Hs (fun b=>one A b+N b)):Good (upd H A o) Hs (fun b=>one A b+N b)/\Stp H0 Hs0 M0 (upd H A o) Hs (fun b=>one A b+N b)/\∀ b,N b≥1->upd H A o b=H b:=by
 have hn:N A=0:=by have:one A A+N A<=1:=g.le A;simp [one] at this;omega
 have ne:∀ b,b≠A->upd H A o b=H b:=fun b hb=>Zj hb
 refine ⟨⟨fun b u e=>?_,g.le,g.ne,fun b h=>?_⟩,⟨fun b u e z=>?_,st.own,st.grow,st.shr,fun b h=>?_⟩,fun b hb=>ne b fun q=>by subst q;omega⟩
 . have hb:b≠A:=fun q=>by subst q;rw [hA] at e;cases e
   rw [ne b hb]
   exact g.sub b u e
 . by_cases hb:b=A
   . subst hb;rw [Zk];simp
   . rw [ne b hb];exact g.has b h
 . have hb:b≠A:=fun q=>by subst q;rw [hA0] at e;cases e
   rw [ne b hb]
   exact st.keep b u e z
 . by_cases hb:b=A
   . subst hb;rw [Zk];simp
   . rw [ne b hb];exact st.stay b h
theorem ZeN
 (h:tM K (cs.bnd fun ps=>(Zr ps).bnd fun h=>(lift (itW ik h.1)).bnd fun items=>(Zab k js (ZH (asgT (fun i=>decide (k<=i)) tgt) cc celt items [])).bnd fun d=>(Z8 h.2).bnd fun _=>M.ret d) σ H Q):
 Zes k js (tI K ik cs) (gT K tgt) (tT K cc) (tM K celt) σ H Q:=by
 obtain ⟨δ,Hs,M,d,δ',g,s,ea,q⟩:=h
 obtain ⟨ps,δ1,e1,eb⟩:=Zb ea
 obtain ⟨hh,δ2,e2,ec⟩:=Zb eb
 obtain ⟨items,δ3,e3,ed⟩:=Zb ec
 obtain ⟨e3',rfl⟩:=ZK e3
 obtain ⟨dd,δ4,e4,ee⟩:=Zb ed
 obtain ⟨u,δ5,e5,e6⟩:=Zb ee
 have:=Ze e6
 cases this
 have e12:(cs.bnd Zr) δ=.ok (hh,δ3):=by
  show T.M.bnd cs Zr δ=_
  unfold T.M.bnd
  rw [e1]
  exact e2
 refine ⟨δ,Hs,M,hh,items,δ3,g,s,e12,e3',fun J Pp H1 Hs1 B M1 g1 st1 s1 held wk pp A hA=>?_⟩
 unfold Zab at e4
 obtain ⟨caps,δ6,e7,e8⟩:=Zb e4
 obtain ⟨mc,M2,c1,c2,c3,c4⟩:=Ze3 e7 s1
 have hA0:H A=none:=by
  cases q:H A with
  | none=>rfl
  | some o=>exact absurd hA (st1.stay A (by rw [q];simp))
 cases hL:ZH (asgT (fun i=>decide (k<=i)) tgt) cc celt items [] (replicate k .hole++caps) with
 | exc x y=>rw [hL] at e8;cases e8
 | stuck=>rw [hL] at e8;cases e8
 | ok r=>
 obtain ⟨accF,δF⟩:=r
 rw [hL] at e8
 obtain ⟨u2,δ7,e9,e10⟩:=Zb e8
 obtain ⟨e11,rfl⟩:=ZK e10
 have hs1A:Hs1 A=none:=by
  cases q:Hs1 A with
  | none=>rfl
  | some o=>rw [g1.sub A o q] at hA;cases hA
 have zA:B A=0/\M1 A=0:=by
  have l:B A+M1 A<=1:=g1.le A
  have:B A+M1 A≠1:=fun e=>g1.has A e hA
  omega
 have z2:mc A=0/\M2 A=0:=by have:=c3 A;omega
 have fr:∀ b,b≠A->upd H1 A (.lst []) b=H1 b:=fun b hb=>Zj hb
 have g2:Good (upd H1 A (.lst [])) Hs1 (fun b=>(one A b+(B b+M2 b))+mc b):=by
  refine ⟨fun b o e=>?_,fun b=>?_,fun b hb=>?_,fun b hb=>?_⟩
  . have hb:b≠A:=fun q=>by subst q;rw [hs1A] at e;cases e
    rw [fr b hb];exact g1.sub b o e
  . have l:B b+M1 b<=1:=g1.le b
    have:=c3 b
    unfold one
    (try dsimp only)
    split
    . rename_i e;subst e;omega
    . omega
  . by_cases e:b=A
    . subst e;exact hs1A
    . have hb:(one A b+(B b+M2 b))+mc b=1:=hb
      simp only [one,if_neg e] at hb
      have l:B b+M1 b<=1:=g1.le b
      have:=c3 b
      exact g1.ne b (by show B b+M1 b=1;omega)
  . by_cases e:b=A
    . subst e;rw [Zk];simp
    . rw [fr b e]
      have hb:(one A b+(B b+M2 b))+mc b=1:=hb
      simp only [one,if_neg e] at hb
      have l:B b+M1 b<=1:=g1.le b
      have:=c3 b
      exact g1.has b (by show B b+M1 b=1;omega)
 have st2:Stp H Hs M (upd H1 A (.lst [])) Hs1 (fun b=>(one A b+(B b+M2 b))+mc b):=by
  refine ⟨fun b o e z=>?_,fun b hb=>?_,st1.grow,st1.shr,fun b hb=>?_⟩
  . have hb:b≠A:=fun q=>by subst q;rw [hA0] at e;cases e
    rw [fr b hb];exact st1.keep b o e z
  . by_cases e:b=A
    . subst e;exact .inr hA0
    . have hb:(one A b+(B b+M2 b))+mc b=1:=hb
      simp only [one,if_neg e] at hb
      have l:B b+M1 b<=1:=g1.le b
      have:=c3 b
      exact st1.own b (by show B b+M1 b=1;omega)
  . by_cases e:b=A
    . subst e;rw [Zk];simp
    . rw [fr b e];exact st1.stay b hb
 have keepA:∀(N:Bud),N A=0->∀ b,N b≥1->H1 b≠none->upd H1 A (.lst []) b=H1 b:=fun N hN b hb _=>fr b fun q=>by subst q;omega
 refine ⟨fun i m σ2 ys H2=>m=items.length - i/\i<=items.length/\Keeps (fun i=>decide (k<=i)) (Zbb k js σ) σ2/\∃(δ2:List D)(Hs2:Hp)(N ma:Bud)(acc:List D),Good H2 Hs2 (fun b=>(one A b+(B b+M2 b+ma b))+N b)/\Stp H Hs M H2 Hs2 (fun b=>(one A b+(B b+M2 b+ma b))+N b)/\RepS K H2 Hs2 σ2 δ2 N/\
  RepL K H2 Hs2 ys acc ma/\RepS K H2 Hs2 σ δ6 M2/\Held K H2 Hs2 σ hh.2 B/\Pp H2 Hs2/\ZH (asgT (fun i=>decide (k<=i)) tgt) cc celt (items.drop i) acc δ2=.ok (accF,δF),
  ⟨items.length,by simp,zero_le _,Keeps.refl _ _,replicate k .hole++caps,Hs1,mc,fun _=>0,[],g2.re fun b=>by (try dsimp only);omega,st2.drop (fun b=>by (try dsimp only);omega) g2.le,?_,.nil _,c2.frame (Same.refl _) (keepA M2 z2.2),held.frame (Same.refl _) (keepA B zA.1),wk.stay pp (Same.refl _) (keepA B zA.1),by rw [drop_zero];exact hL⟩,?_⟩
 . have z:=Sep.append (holes (K:=K) (H:=H1) (Hs:=Hs1) (fun _=>none) k (fun _=>0) (replicate k none) (by simp)) c1
   exact RepS.frame (Same.refl _) (keepA mc z2.1) (z.mono fun b=>by simp)
 rintro i m σ2 ys H2 ⟨rfl,hle,k2,δ2,Hs2,N,ma,acc,g3,st3,s3,ra,so,held2,pp2,e13⟩ hD
 have hsA:Hs2 A=none:=g3.ne A (by have:=g3.le A;(try dsimp only at this ⊢);simp only [one,if_pos] at this ⊢;omega)
 by_cases hlt:i < items.length
 . right
   have hd:items[i]?=some (items[i]'(by omega)):=List.getElem?_eq_getElem (by omega)
   have hdrop:items.drop i=items[i]'(by omega)::items.drop (i+1):=List.drop_eq_getElem_cons (by omega)
   rw [hdrop] at e13
   obtain ⟨u3,δ8,e14,e15⟩:=Zb e13
   obtain ⟨t,δ9,e16,e17⟩:=Zb e15
   refine ⟨wk.go g3.sub pp2 hlt,fun x H' y=>?_⟩
   obtain ⟨Hs3,gr,rv⟩:=wk.yld g3.sub pp2 hd y
   obtain ⟨sm,fr,_⟩:=gr.same g3.sub
   have pp2:=wk.stay pp2 sm fun b _ n=>fr b n
   have s3:=RepS.frame sm (fun b _ n=>fr b n) s3
   have so:=RepS.frame sm (fun b _ n=>fr b n) so
   have ra:=ra.frame sm fun b _ n=>fr b n
   have held2:=held2.frame sm fun b _ n=>fr b n
   have hD:H' A=some (.lst ys):=(fr A (by rw [hD];simp)).trans hD
   have st3:=gr.stp g3 st3
   have g3:=gr.good g3
   clear gr sm fr y hsA
   generalize Hs3=Hs2 at *
   generalize H'=H2 at *
   refine ZeM (Hs:=Hs2) g3.sub e14 rv s3 fun σ3 k3 s4=>?_
   refine ⟨δ8,Hs2,N,t,δ9,g3.re fun b=>by (try dsimp only);omega,s4,e16,fun H4 Hs4 M4 g4 st4 s5=>?_⟩
   obtain ⟨G,S,kk⟩:=Zo (m1:=fun b=>one A b+(B b+M2 b+ma b)) g g3 st3 g4 st4
   have kA:H4 A=some (.lst ys):=by rw [<- hD];exact kk A (by simp [one]) (by rw [hD];simp)
   have ra4:=ra.frame st4.grow fun b hb=>kk b (by (try dsimp only);omega)
   have so4:=RepS.frame st4.grow (fun b hb=>kk b (by (try dsimp only);omega)) so
   have held4:=held2.frame st4.grow fun b hb=>kk b (by (try dsimp only);omega)
   have pp4:=wk.stay pp2 st4.grow fun b hb=>kk b (by (try dsimp only);omega)
   have lmeas:items.length - (i+1) < items.length - i:=by omega
   cases t with
   | false=>
    dsimp only
    rw [if_neg Bool.false_ne_true]
    exact ⟨kA,_,lmeas,rfl,hlt,k2.trans k3,δ9,Hs4,M4,ma,acc,G,S,s5,ra4,so4,held4,pp4,e17⟩
   | true=>
    dsimp only
    rw [if_pos rfl]
    rw [if_pos rfl] at e17
    obtain ⟨xd,δ10,e18,e19⟩:=Zb e17
    refine ⟨δ9,Hs4,M4,xd,δ10,g4,s5,e18,fun yv H5 Hs5 m5 M5 g5 st5 r5 s6=>?_⟩
    obtain ⟨G5,S5,kk5⟩:=Zo (m1:=fun b=>one A b+(B b+M2 b+ma b)) g G S g5 st5
    have kA5:H5 A=some (.lst ys):=by rw [<- kA];exact kk5 A (by simp [one]) (by rw [kA];simp)
    have hsz:ys.length < sizeLine:=by
     have e20:accF.length<=sizeLine:=by
      unfold newL at e11
      split at e11
      . rename_i hz;exact hz
      . cases e11
     have grow:∀(its acc:List D)(δ:List D)(r:List D×List D),ZH (asgT (fun i=>decide (k<=i)) tgt) cc celt its acc δ=.ok r->acc.length<=r.1.length:=by
      intro its
      induction its with
      | nil=>intro acc δ r e;have:=Ze e;subst this;exact Nat.le_refl _
      | cons a its ih=>
       intro acc δ r e
       obtain ⟨_,_,_,f1⟩:=Zb e
       obtain ⟨tt,_,_,f2⟩:=Zb f1
       cases tt with
       | false=>exact ih _ _ _ f2
       | true=>
        rw [if_pos rfl] at f2
        obtain ⟨_,_,_,f3⟩:=Zb f2
        have:=ih _ _ _ f3
        rw [length_append,length_singleton] at this
        omega
     have:=grow _ _ _ _ e19
     dsimp only at this
     rw [length_append,length_singleton] at this
     have:=ra.len
     omega
    have hsA5:Hs5 A=none:=G5.ne A (by have:=G5.le A;(try dsimp only at this ⊢);simp only [one,if_pos] at this ⊢;omega)
    have G5':Good H5 Hs5 (fun b=>one A b+(B b+M2 b+ma b+(m5 b+M5 b))):=G5.re fun b=>by (try dsimp only);omega
    obtain ⟨G6,S6,k6⟩:=Zkc (o:=.lst (ys++[yv])) hA0 hsA5 G5' (S5.drop (fun b=>by (try dsimp only);omega) G5.le)
    have fr6:∀(R:Bud),(∀ b,R b<=B b+M2 b+ma b+(m5 b+M5 b))->∀ b,R b≥1->H5 b≠none->upd H5 A (.lst (ys++[yv])) b=H5 b:=fun R hR b hb _=>k6 b (by have:=hR b;omega)
    refine ⟨kA5,hsz,_,lmeas,rfl,hlt,k2.trans k3,δ10,Hs5,M5,fun b=>ma b+m5 b,acc++[xd],G6.re fun b=>by (try dsimp only);omega,S6.drop (fun b=>by (try dsimp only);omega) G6.le,RepS.frame (Same.refl _) (fr6 M5 fun b=>by omega) s6,?_,?_,?_,?_,e19⟩
    . exact RepL.frame (Same.refl _) (fr6 _ fun b=>by (try dsimp only);omega) ((ra4.frame st5.grow fun b hb=>kk5 b (by (try dsimp only);omega)).app (.cons r5 (.nil (fun _=>0)) fun b=>by simp))
    . exact RepS.frame (Same.refl _) (fr6 M2 fun b=>by omega) (RepS.frame st5.grow (fun b hb=>kk5 b (by (try dsimp only);omega)) so4)
    . exact (held4.frame st5.grow fun b hb=>kk5 b (by (try dsimp only);omega)).frame (Same.refl _) (fr6 B fun b=>by omega)
    . exact wk.stay (wk.stay pp4 st5.grow fun b hb=>kk5 b (by (try dsimp only);omega)) (Same.refl _) (fr6 B fun b=>by omega)
 . left
   have e0:items.drop i=[]:=List.drop_of_length_le (by omega)
   rw [e0] at e13
   have:=Ze e13
   cases this
   refine ⟨wk.stop g3.sub pp2 (by omega),?_⟩
   have hdrop:σ2.drop k=Zbv js σ:=by
    have hl2:σ2.length=δF.length:=s3.length
    apply List.ext_getElem?
    intro j
    rw [List.getElem?_drop,k2 (k+j) (by simp)]
    unfold Zbb
    rw [List.getElem?_append_right (by simp)]
    simp
   have sd:=s3.drop k
   rw [hdrop] at sd
   have so':=Zif js _ _ _ _ _ _ c4 e9 sd so
   unfold newL at e11
   split at e11
   . cases e11
     have rD:Rep K H2 Hs2 (.ref A) (.node .lst true accF) (fun b=>one A b+ma b):=.own hD ra fun b=>Nat.le_refl _
     exact q _ H2 Hs2 (fun b=>one A b+ma b) (fun b=>B b+(N b+M2 b)) (g3.re fun b=>by (try dsimp only);omega) (st3.drop (fun b=>by (try dsimp only);omega) g3.le) rD (ZaO e5 held2 so')
   . cases e11
section
def PIf.imp(h:PIf X ifs t)(w:∀ σ H Q,t' σ H Q->t σ H Q):PIf X ifs t':=fun pins s σ H Q I q=>h pins s σ H Q I (w σ H Q q)
def ZaA:PIf X [] (tT X.K (M.ret true)):=PIf.imp ZlJ fun σ H Q h=>ZfT h
theorem ZnU(h:PT X c (tT X.K ct)):PIf X [c] (tT X.K (ct.bnd fun b=>if b then M.ret true else M.ret false)):=PIf.imp (ZlK h) fun σ H Q h=>by
 obtain ⟨δ,Hs,M,b,δ',g,s,e,q⟩:=h
 obtain ⟨t,δ1,e1,e2⟩:=Zb e
 refine ⟨δ,Hs,M,t,δ1,g,s,e1,fun H' Hs' M' g' st s'=>?_⟩
 cases t with
 | true=>have:=Ze e2;cases this;exact q H' Hs' M' g' st s'
 | false=>have:=Ze e2;cases this;exact q H' Hs' M' g' st s'
def ZaE(hc:X.calm=true)(S:CompScope X k js N' scope)(hi:PI X tg iter (tI X.K ik cs))
 (hin:∀(cl:List (Str×Addr))(C:Addr)(s₀:Shared)(H₀:Hp)(ex:List Addr),PG (cxC X N' scope cl C s₀ H₀ ex) tg (gT X.K tgt)/\PIf (cxC X N' scope cl C s₀ H₀ ex) ifs (tT X.K cc)/\PE (cxC X N' scope cl C s₀ H₀ ex) elt (tM X.K celt))
 (hs:∀ x,foldedSetIterable iter X.env x=pure x:=by intro _;rfl):
 PE X (.ListComp elt [⟨tg,iter,ifs,0⟩] scope pos) (tM X.K (cs.bnd fun ps=>(Zr ps).bnd fun h=>(lift (itW ik h.1)).bnd fun items=>(Zab k js (ZH (asgT (fun i=>decide (k<=i)) tgt) cc celt items [])).bnd fun d=>(Z8 h.2).bnd fun _=>M.ret d)):=
 PE.imp (ZlL hc S hi hin hs) fun σ H Q h=>ZeN h
def Zkd(hc:Quiet X)(S:CompScope X k js N' scope)(hi:PIQ Quiet X tg iter (tI X.K ik cs))
 (hin:∀(cl:List (Str×Addr))(C:Addr)(s₀:Shared)(H₀:Hp)(ex:List Addr),PG (cxC X N' scope cl C s₀ H₀ ex) tg (gT X.K tgt)/\PIf (cxC X N' scope cl C s₀ H₀ ex) ifs (tT X.K cc)/\PE (cxC X N' scope cl C s₀ H₀ ex) elt (tM X.K celt))
 (hs:∀ x,foldedSetIterable iter X.env x=pure x:=by intro _;rfl):
 PE X (.ListComp elt [⟨tg,iter,ifs,0⟩] scope pos) (tM X.K (cs.bnd fun ps=>(Zr ps).bnd fun h=>(lift (itW ik h.1)).bnd fun items=>(Zab k js (ZH (asgT (fun i=>decide (k<=i)) tgt) cc celt items [])).bnd fun d=>(Z8 h.2).bnd fun _=>M.ret d)):=
 PE.imp (ZfN (fun _ _ _ _ _=>hc) S hi hin hs) fun σ H Q h=>ZeN h
def Zmd(h:Zq sc N i x false=true)(nd:N.Nodup)(hw:Zdk sc scope x=true)(hc:X.calm=true)(S:CompScope X k js N' scope)(hi:PI X tg iter (tI X.K ik cs))
 (hin:∀(cl:List (Str×Addr))(C:Addr)(s₀:Shared)(H₀:Hp)(ex:List Addr),PG (cxC X N' scope cl C s₀ H₀ ex) tg (gT X.K tgt)/\PIf (cxC X N' scope cl C s₀ H₀ ex) ifs (tT X.K cc)/\PE (cxC X N' scope cl C s₀ H₀ ex) elt (tM X.K celt))
 (hl:autoParam ((pos'.line == pos.line)=true) Q9) (e1:autoParam (X.env.scope=sc) Q9) (e2:autoParam (X.N=N) Q9) (hs:∀ x,foldedSetIterable iter X.env x=pure x:=by intro _;rfl):
 PS X (.Assign [.Name x pos'] (.ListComp elt [⟨tg,iter,ifs,0⟩] scope pos) spos) (tS X.K lk ((cs.bnd fun ps=>(Zr ps).bnd fun h=>(lift (itW ik h.1)).bnd fun items=>(Zab k js (ZH (asgT (fun i=>decide (k<=i)) tgt) cc celt items [])).bnd fun d=>(Z8 h.2).bnd fun _=>M.ret d).bnd fun d=>(asgN lk i d).bnd fun _=>M.ret .nx)):=
 PS.imp (ZjV h nd hw hc S hi hin hl e1 e2 hs) fun E σ H hh=>by
 obtain ⟨δ,Hs,M,f,δ',g,s,e,q⟩:=hh
 obtain ⟨d,δ1,e1,e2⟩:=Zb e
 obtain ⟨u,δ2,e3,e4⟩:=Zb e2
 have:=Ze e4
 cases this
 obtain ⟨h1,h2,rfl⟩:=Zd8 e3
 exact ZeN ⟨δ,Hs,M,d,δ1,g,s,e1,fun v H' Hs' m M' g' st' r s'=>q _ H' Hs' _ (Za1 h2) g' st' (Zbl s' h1 r)⟩
def Zme(h:Zq sc N i x b=true)(nd:N.Nodup)(he:PE X e (tM X.K c))(hs:autoParam (swapsWith e (some (.Name x pos')) pos.line X.env=pure false) Q9)(e1:autoParam (X.env.scope=sc) Q9)(e2:autoParam (X.N=N) Q9)
 (hf:X.fn x=true\/b=false:=by first|exact .inl rfl|exact .inr rfl):PS X (.Assign [.Name x pos'] e pos) (tS X.K lk (c.bnd fun d=>(asgN lk i d).bnd fun _=>M.ret .nx)):=by
 obtain ⟨h1,h2,h3,h4⟩:=Zq.at h
 have l:=Zq.loc h
 subst e1 e2
 refine ZnR nd h1 l he hs ?_
 rcases hf with q|q
 . exact .inl q
 . subst q
   exact .inr h2
def Zqy(h:Zq sc N i x b=true)(nd:N.Nodup)(hr:PGs X es (gNs is))(e1:autoParam (X.env.scope=sc) Q9)(e2:autoParam (X.N=N) Q9)(hf:X.fn x=true\/b=false:=by first|exact .inl rfl|exact .inr rfl)
 (hs:autoParam ((assignEach (.Name x pos::es) X.env).map (·.2)=assign (.Name x pos) X.env::(assignEach es X.env).map (·.2)) Q9):PGs X (.Name x pos::es) (gNs (i::is)):=by
 obtain ⟨h1,h2,h3,h4⟩:=Zq.at h
 have l:=Zq.loc h
 subst e1 e2
 refine ok_g nd h1 l hr ?_ hs
 rcases hf with q|q
 . exact .inl q
 . subst q
   exact .inr h2
def Zqz(h:Zq sc N i x b=true)(nd:N.Nodup)(e1:autoParam (X.env.scope=sc) Q9)(e2:autoParam (X.N=N) Q9)(hf:X.fn x=true\/b=false:=by first|exact .inl rfl|exact .inr rfl):PG X (.Name x pos) (gT X.K (.name i)):=ZjU h nd e1 e2 hf
end
def ZaW(ca:M Op)(lk:Nat->Bool):Prop:=∀ δ p δ',ca δ=.ok (p,δ')->∀ i,p=.late i->lk i=true
def ZeO(h:lk i=true):ZaW (ZR i) lk:=fun δ p δ' e j hj=>by
 unfold ZR at e
 split at e<;>cases e<;>cases hj<;>exact h
def ZnV{c:M D}:ZaW (c.bnd fun d=>M.ret (.tmp d)) lk:=fun δ p δ' e j hj=>by
 obtain ⟨d,δ1,e1,e2⟩:=Zb e
 have:=Ze e2
 cases this
 cases hj
theorem ZiZ(e:holdV p δ=.ok (w,δ')):∀ q∈w.2.toList,p=.late q.1:=fun q hq=>by
 cases p with
 | tmp d=>cases d<;>cases e<;>simp at hq
 | late i=>
  unfold holdV at e
  dsimp only at e
  split at e<;>cases e<;>simp at hq
  subst hq
  rfl
def hw_1(h:ZaW ca lk):HWs (ca.bnd fun p=>(M.ret ([]:List Op)).bnd fun ps=>M.ret (p::ps)) lk:=fun δ w δ' e q hq=>by
 obtain ⟨p,δ1,w1,e1,e2,rfl⟩:=Zie e
 exact h _ _ _ e1 _ (ZiZ e2 q hq)
def hw_2(h1:ZaW ca lk)(h2:ZaW cb lk):HWs (ca.bnd fun p=>(cb.bnd fun p=>(M.ret ([]:List Op)).bnd fun ps=>M.ret (p::ps)).bnd fun ps=>M.ret (p::ps)) lk:=fun δ w δ' e q hq=>by
 obtain ⟨ps,δ1,e1,e2⟩:=Zb e
 obtain ⟨p1,δ2,e3,e4⟩:=Zb e1
 obtain ⟨qs,δ3,e5,e6⟩:=Zb e4
 obtain ⟨p2,δ4,e7,e8⟩:=Zb e5
 obtain ⟨z,δ5,e9,e10⟩:=Zb e8
 have:=Ze e9
 cases this
 have:=Ze e10
 cases this
 have:=Ze e6
 cases this
 have:=Zc4 e2 q hq
 rcases List.mem_cons.mp this with z|z
 . exact h1 _ _ _ e3 _ z.symm
 . exact h2 _ _ _ e7 _ (List.mem_singleton.mp z).symm
section
def Zq0(h:PE X e (tC v))(hr:∀ H Hs m,Rep X.K H Hs v d m):PE X e (tM X.K (M.ret d)):=PE.imp h fun σ H Q z0=>by
 obtain ⟨δ,Hs,M,d',δ',g,r,e,q⟩:=z0
 have:=Ze e
 cases this
 exact q v H Hs (fun _=>0) M (Za4 g) (stp0 H Hs M) (hr H Hs _) r
theorem Zmf(h:View K H Hs x w m):isNW true w=.sc (.bl (decide (x=.non)))/\isNW false w=.sc (.bl (!decide (x=.non))):=by
 cases h with
 | sc v m=>constructor<;>simp only [isNW]<;>cases decide (x=V.non)<;>rfl
 | nd n r=>constructor<;>simp [isNW]
end
noncomputable def ZeP:Expr->Option V
 | .Constant (.int n) _ _=>some (.int n)
 | .Constant (.str z) _ _=>some (.str z)
 | .Constant (.bool b) _ _=>some (.bl b)
 | .Constant .none _ _=>some .non
 | _=>none
noncomputable def Zcl:List Expr->Option (List V)
 | []=>some []
 | e::es=>(ZeP e).bind fun v=>(Zcl es).map (v::·)
def Zke(h:ZeP e=some v):PE X e (tC v)/\∀ es:List Expr,starEach (e::es) X.env=(false,eval e X.env)::starEach es X.env:=by
 unfold ZeP at h
 split at h
 . cases h;exact ⟨ZO,fun es=>rfl⟩
 . cases h;exact ⟨ZaK,fun es=>rfl⟩
 . cases h;exact ⟨ZaG,fun es=>rfl⟩
 . cases h;exact ⟨Zc6,fun es=>rfl⟩
 . cases h
theorem Zfs:∀{es:List Expr}{vs:List V},Zcl es=some vs->PA X es (fun _ H Q=>Q vs H)
 | [],vs,h=>by
  simp only [Zcl,Option.some.injEq] at h
  subst h
  exact ZaL
 | e::es,vs,h=>by
  simp only [Zcl,bind_eq_some_iff,map_eq_some_iff] at h
  obtain ⟨v,h1,ws,h2,rfl⟩:=h
  obtain ⟨c1,c2⟩:=Zke (X:=X) h1
  exact ZP c1 (Zfs h2) (c2 es)
theorem ZeQ:∀(vs:List V),RepL K H Hs vs (vs.map D.sc) (fun _=>0)
 | []=>.nil _
 | v::vs=>.cons (m1:=fun _=>0) (m2:=fun _=>0) (.sc v _) (ZeQ vs) fun b=>by simp
def ZkQ(h:Zcl es=some vs):PE X (.List es pos) (tM X.K (lift (newL (vs.map D.sc)))):=PE.imp (Zi4 (Zfs h)) fun σ H Q hq=>by
 obtain ⟨δ,Hs,M,d,δ',g,s,e,q⟩:=hq
 obtain ⟨e1,rfl⟩:=ZK e
 unfold newL at e1
 split at e1
 . rename_i hl
   cases e1
   have o:Outs X.K H Hs (fun _=>0) _ Q:=Zce (B:=fun _=>0) (M:=M) (stp0 H Hs M) (Za4 g) s q
   exact ⟨by simpa using hl,fun p hp=>o.new (fun b=>by simp) (fun b hb=>by simp at hb) hp (vs:=vs) Zk (ZeQ vs)⟩
 . cases e1
def Zao:bootBuiltins "len"=some (.builtin "len"):=by decide +kernel
def Zcm:bootBuiltins "sum"=some (.builtin "sum"):=by decide +kernel
def ZnW:bootBuiltins "all"=some (.builtin "all"):=by decide +kernel
def Zja:bootBuiltins "max"=some (.builtin "max"):=by decide +kernel
def Zjb:bootBuiltins "int"=some (.type "int"):=by decide +kernel
def Zmg:bootBuiltins "list"=some (.type "list"):=by decide +kernel
noncomputable def C0:Ctx:={ lock:=fun _=>false,fok:=fun _ _=>false,fuel:=0 }
section
variable{o e a:Expr}{es:List Expr}{cpos apos p:Pos}{ca:M Op}{cs:M (List Op)}{i:Nat}{name m x f:Str}{A:Addr}{fi:FI}{n:Nat}{ps:List Str}
theorem Zhq{K:Fg}{σ:St}{m0 M:Bud}{p:Op}{v:V}{u:Unit}(g:Good H Hs (fun b=>m0 b+M b))(s:RepS K H Hs σ δ M)(r:RepP K H Hs σ v p m0)(h:chkI A m p δ=.ok (u,δ')):
 δ'=δ/\∃ a dx fs,v=.ref a/\H a=some (.ins A dx fs)/\fs.lookup m=none:=by
 have fin:∀{B:Addr}{fs:List Str}{o:Bool}{ds:List D}{m1:Bud},Rep K H Hs v (.node (.ins B fs) o ds) m1->B=A->m∉fs->∃ a dx fs,v=.ref a/\H a=some (.ins A dx fs)/\fs.lookup m=none:=fun{B fs o ds m1} q hB hm=>by
  subst hB
  have nl:∀{vs:List V},fs.length=vs.length->(fs.zip vs).lookup m=none:=fun{vs} hl=>by
   rw [List.lookup_eq_none_iff]
   intro p hp
   have:=(of_mem_zip (a:=p.1) (b:=p.2) hp).1
   have hne:m≠p.1:=fun q=>hm (by rw [q];exact this)
   simpa using hne
  cases q with
  | own n q _=>obtain ⟨hl,dx,e⟩:=n;exact ⟨_,dx,_,rfl,e,nl hl⟩
  | shd n q=>obtain ⟨hl,dx,e⟩:=n;exact ⟨_,dx,_,rfl,g.sub _ _ e,nl hl⟩
 cases p with
 | late i=>
  unfold chkI at h
  dsimp only at h
  split at h
  . rename_i B fs oo ds hi
    split at h
    . rename_i hc
      cases h
      obtain ⟨v',m1,m2,e1,q,l,f⟩:=s.slot hi (by simp)
      rw [show σ[i]?=some (some v) from r] at e1
      cases e1
      exact ⟨rfl,fin q hc.1 hc.2⟩
    . cases h
  . cases h
 | tmp d=>
  cases d with
  | sc u=>cases h
  | hole=>cases h
  | node k oo ds=>
   cases k with
   | ins B fs=>
    unfold chkI at h
    dsimp only at h
    split at h
    . rename_i hc
      cases h
      exact ⟨rfl,fin r hc.1 hc.2⟩
    . cases h
   | _=>cases h
def Zmh{K:Fg}{σ:St}{Q:VK}{E:XK}(h:tM K (ca.bnd fun p=>(chkI A m p).bnd fun _=>cs.bnd fun ps=>ZaU fi (p::ps)) σ H Q):
 tP K ca σ H fun x H1=>∃ a dx fs,x=.ref a/\H1 a=some (.ins A dx fs)/\fs.lookup m=none/\tPs K cs σ H1 fun vs H2=>spF K fi.run (x::vs) H2 Q E:=by
 obtain ⟨δ,Hs,M,d,δ',g,s,ea,q⟩:=h
 obtain ⟨p,δ1,e1,eb⟩:=Zb ea
 obtain ⟨u,δ2,e2,ec⟩:=Zb eb
 obtain ⟨ps,δ3,e3,ed⟩:=Zb ec
 refine ⟨δ,Hs,M,p,δ1,g,s,e1,fun x H1 Hs1 m1 M1 g1 st1 r1 s1=>?_⟩
 obtain ⟨rfl,a,dx,fs,hx,ha,hl⟩:=Zhq g1 s1 r1 e2
 refine ⟨a,dx,fs,hx,ha,hl,δ2,Hs1,M1,ps,δ3,g1.re,s1,e3,fun vs H2 Hs2 m2 M2 g2 st2 r2 s2=>?_⟩
 obtain ⟨G2,S2,k2⟩:=Zo g g1 st1 g2 st2
 have r1':=RepP.frame st2.grow k2 r1
 exact ZfW (m1:=fun b=>m1 b+m2 b) g (G2.re fun b=>by (try dsimp only);omega) (S2.drop (fun b=>by (try dsimp only);omega) G2.le) (show Za3 K H2 Hs2 σ (x::vs) (p::ps) (fun b=>m1 b+m2 b) from ⟨m1,m2,r1',r2,fun b=>Nat.le_refl _⟩) s2 ed q
def ZdB{pl:Sem Bool}(G:MeAt X.prog X.w X.K X.mg X.base A m j ps (spF X.K fi.run))(hr:Room n X.A)(ho:PE X o (tP X.K ca))(ha:PA X (e::es) (tPs X.K cs))(hj:autoParam (j<=n) Q7)
 (hst:autoParam (SE X e es) Q9) (hpl:autoParam (SFx X pos es) Q9)
 (ht:autoParam (eval (.Call (.Attribute o m apos) (e::es) [] pos) X.env=(do
  let ov <- eval o X.env
  standAt apos.atName
  let (f,first) <- holding [ov] (getMethod ov m pl)
  callWith pos f first (backTo pos (starEach (e::es) X.env)) (backToKw pos (keywordEach [] X.env)))) Q9):
 PE X (.Call (.Attribute o m apos) (e::es) [] pos) (tM X.K (ca.bnd fun p=>(chkI A m p).bnd fun _=>cs.bnd fun ps=>ZaU fi (p::ps))):=PE.imp (ZpI G hr ho ha hj hst hpl ht) fun σ H Q h=>by
 refine tG.mono (Zmh (E:=E0) h) fun x H1 ⟨a,dx,fs,hx,hh,hl,z⟩=>⟨a,dx,fs,hx,hh,hl,?_⟩
 obtain ⟨δ,Hs,M,aa,δ',g,s,e,q⟩:=z
 refine ⟨δ,Hs,M,aa,δ',g,s,e,fun vs H' Hs' m M' g' st r s'=>?_⟩
 show spF X.K fi.run (x::(vs++[])) H' Q E0
 rw [append_nil]
 exact q vs H' Hs' m M' g' st r s'
theorem ZnX{K:Fg}{σ:St}{Q:VK}{E:XK}(h:tM K (cs.bnd fun ps=>newF A fi ps) σ H Q):
 tPs K cs σ H fun vs H1=>∀ x dx,H1 x=none->H1 dx=none->dx≠x->spF K fi.run (.ref x::vs) (upd (upd H1 dx (.own x)) x (.ins A dx [])) (fun v H2=>v=.non/\Q (.ref x) H2) E:=by
 obtain ⟨δ,Hs,M,d,δ',g,s,e,q⟩:=h
 obtain ⟨ps,δ1,e1,e⟩:=Zb e
 refine ⟨δ,Hs,M,ps,δ1,g,s,e1,fun vs H1 Hs1 m1 M1 g1 st1 r1 s1 x dx hx hdx hne=>?_⟩
 unfold newF at e
 obtain ⟨ds,δ2,e2,e⟩:=Zb e
 cases hF:fi.run (.node (.ins A []) true []::ds) with
 | exc x y=>rw [hF] at e;cases e
 | stuck=>rw [hF] at e;cases e
 | ok r=>
  obtain ⟨d',ds'⟩:=r
  rw [hF] at e
  match d',ds',e,hF with
  | .sc .non,dI::ds',e,hF=>
   dsimp only at e
   obtain ⟨u,δ3,e3,e⟩:=Zb e
   have:=Ze e
   cases this
   obtain ⟨Hs2,m2,M2,g2,st2,q2,s2⟩:=Zb8 (B:=fun _=>0) (g1.re fun b=>by simp) s1 r1 e2
   have z0:=Zo (m1:=fun _=>0) g (g1.re fun b=>by simp) (st1.drop (fun b=>by simp) g1.le) (g2.re fun b=>by simp) (M1:=fun b=>m1 b+M1 b) (M2:=fun b=>m2 b+M2 b) (by
    have:=st2
    exact ⟨fun b o h z=>this.keep b o h (by simpa using z),fun b h=>by have:=this.own b (by simpa using h);simpa using this,this.grow,fun b h h'=>by have:=this.shr b h h';simpa using this,this.stay⟩)
   have G2:Good H1 Hs2 (fun b=>M2 b+m2 b):=g2.re fun b=>by simp;omega
   have S2:Stp H Hs M H1 Hs2 (fun b=>M2 b+m2 b):=z0.2.1.drop (fun b=>by simp;omega) z0.1.le
   have hsx:Hs2 x=none:=by
    cases w:Hs2 x with
    | none=>rfl
    | some o=>rw [G2.sub x o w] at hx;cases hx
   have hsd:Hs2 dx=none:=by
    cases w:Hs2 dx with
    | none=>rfl
    | some o=>rw [G2.sub dx o w] at hdx;cases hdx
   have zz:∀ b,H1 b=none->M2 b=0/\m2 b=0:=fun b hb=>by
    have l:M2 b+m2 b<=1:=G2.le b
    have:M2 b+m2 b≠1:=fun e=>G2.has b e hb
    omega
   have nw:∀ b,b≠x->b≠dx->upd (upd H1 dx (.own x)) x (.ins A dx []) b=H1 b:=fun b h1 h2=>by rw [Zj h1,Zj h2]
   have atx:upd (upd H1 dx (.own x)) x (.ins A dx []) x=some (.ins A dx []):=Zk
   have atd:upd (upd H1 dx (.own x)) x (.ins A dx []) dx=some (.own x):=by rw [Zj hne];exact Zk
   have old:∀ b,H1 b≠none->b≠x/\b≠dx:=fun b hb=>⟨fun e=>hb (by rw [e];exact hx),fun e=>hb (by rw [e];exact hdx)⟩
   have same:Same H1 (upd (upd H1 dx (.own x)) x (.ins A dx [])):=fun b o e=>by
    obtain ⟨h1,h2⟩:=old b (by rw [e];simp)
    rw [nw b h1 h2];exact e
   have G3:Good (upd (upd H1 dx (.own x)) x (.ins A dx [])) Hs2 (fun b=>M2 b+(one x b+m2 b)):=by
    refine ⟨fun b o e=>same b o (G2.sub b o e),fun b=>?_,fun b hb=>?_,fun b hb=>?_⟩
    . have l:M2 b+m2 b<=1:=G2.le b
      unfold one
      (try dsimp only)
      split
      . rename_i e;subst e;have:=zz b hx;omega
      . omega
    . by_cases e:b=x
      . subst e;exact hsx
      . have hb:M2 b+(one x b+m2 b)=1:=hb
        simp only [one,if_neg e] at hb
        exact G2.ne b (by show M2 b+m2 b=1;omega)
    . by_cases e:b=x
      . subst e;rw [atx];simp
      . have hb:M2 b+(one x b+m2 b)=1:=hb
        simp only [one,if_neg e] at hb
        have:=G2.has b (by show M2 b+m2 b=1;omega)
        obtain ⟨h1,h2⟩:=old b this
        rw [nw b h1 h2];exact this
   have S3:Stp H Hs M (upd (upd H1 dx (.own x)) x (.ins A dx [])) Hs2 (fun b=>M2 b+(one x b+m2 b)):=by
    refine ⟨fun b o e z=>same b o (S2.keep b o e z),fun b hb=>?_,S2.grow,S2.shr,fun b hb=>?_⟩
    . by_cases e:b=x
      . subst e
        right
        cases w:H b with
        | none=>rfl
        | some o=>exact absurd hx (S2.stay b (by rw [w];simp))
      . have hb:M2 b+(one x b+m2 b)=1:=hb
        simp only [one,if_neg e] at hb
        exact S2.own b (by show M2 b+m2 b=1;omega)
    . have:=S2.stay b hb
      obtain ⟨h1,h2⟩:=old b this
      rw [nw b h1 h2];exact this
   have fr:∀ b,H1 b≠none->upd (upd H1 dx (.own x)) x (.ins A dx []) b=H1 b:=fun b hb=>nw b (old b hb).1 (old b hb).2
   have q3:RepL K (upd (upd H1 dx (.own x)) x (.ins A dx [])) Hs2 vs ds m2:=q2.frame (Same.refl _) fun b _ hb=>fr b hb
   have s3:RepS K (upd (upd H1 dx (.own x)) x (.ins A dx [])) Hs2 σ δ2 M2:=RepS.frame (Same.refl _) (fun b _ hb=>fr b hb) s2
   have rx:Rep K (upd (upd H1 dx (.own x)) x (.ins A dx [])) Hs2 (.ref x) (.node (.ins A []) true []) (one x):=.own (vs:=[]) (m':=fun _=>0) ⟨rfl,dx,atx⟩ (.nil _) fun b=>by simp
   refine ⟨_,Hs2,fun b=>one x b+m2 b,_,_,G3.re fun b=>by (try dsimp only);omega,.cons rx q3 fun b=>Nat.le_refl _,hF,fun v H4 Hs4 n1 n2 g4 st4 r4 rl4=>?_⟩
   cases r4
   refine ⟨rfl,?_⟩
   cases rl4 with
   | @cons _ _ _ _ k1 k2 _ ra rb lk=>
    obtain ⟨G,S,k⟩:=Zo g G3 S3 g4 st4
    have s4:=RepS.frame st4.grow k s3
    have fin:=ZaN s4 rb (lates r1) e3
    exact q _ H4 Hs4 k1 (fun b=>k2 b+M2 b) (G.re fun b=>by have:=lk b;(try dsimp only);omega) (S.drop (fun b=>by have:=lk b;(try dsimp only);omega) G.le) ra fin
def ZnY(G:MkAt X.prog X.w X.K X.mg X.base x A j ps (spF X.K fi.run))(hr:Room n X.A)(ha:PA X (e::es) (tPs X.K cs))(hj:autoParam (j+1<=n) Q7)(hz:autoParam (glOk X.env.scope x=true) Q8)(he:autoParam (SE X e es) Q9)(hpl:autoParam (SFx X pos es) Q9):
 PE X (.Call (.Name x p) (e::es) [] pos) (tM X.K (cs.bnd fun ps=>newF A fi ps)):=PE.imp (ZpJ G hr ha hj (glk hz) (dbk hz) he hpl) fun σ H Q h=>by
 obtain ⟨δ,Hs,M,aa,δ',g,s,e,q⟩:=ZnX (E:=E0) h
 refine ⟨δ,Hs,M,aa,δ',g,s,e,fun vs H' Hs' m M' g' st r s' x dx h1 h2 h3=>?_⟩
 show spF X.K fi.run (.ref x::(vs++[])) _ _ E0
 rw [append_nil]
 exact q vs H' Hs' m M' g' st r s' x dx h1 h2 h3
theorem ZdX(f:Str)(v:V):∀(fs:List Str)(vs:List V),fs.length=vs.length->putF f v (fs.zip vs)=(putN f fs).zip (putV f v fs vs)/\(putN f fs).length=(putV f v fs vs).length
 | [],[],_=>⟨rfl,rfl⟩
 | g::fs,x::vs,h=>by
  obtain ⟨i1,i2⟩:=ZdX f v fs vs (by simpa using h)
  rw [zip_cons_cons]
  show (if g=f then (g,v)::fs.zip vs else (g,x)::putF f v (fs.zip vs))=_/\_
  simp only [putN,putV]
  split
  . exact ⟨rfl,by simpa using h⟩
  . rw [i1]
    exact ⟨rfl,by rw [length_cons,length_cons,i2]⟩
 | [],_::_,h=>by simp at h
 | _::_,[],h=>by simp at h
theorem RepL.putV(f:Str)(x:Rep K H Hs v d m1):∀{fs:List Str}{vs:List V}{ds:List D}{m:Bud},fs.length=vs.length->RepL K H Hs vs ds m->RepL K H Hs (T.putV f v fs vs) (T.putV f d fs ds) (fun b=>m b+m1 b)
 | [],_,_,m,h,.nil _=>.cons x (.nil (fun _=>0)) fun b=>by (try dsimp only);omega
 | [],_,_,m,h,.cons _ _ _=>by simp at h
 | _::_,_,_,m,h,.nil _=>by simp at h
 | g::fs,_,_,m,h,.cons (m1:=a1) (m2:=a2) y z l=>by
  simp only [T.putV]
  split
  . exact .cons x z fun b=>by have:=l b;(try dsimp only);omega
  . exact .cons y (RepL.putV f x (by simpa using h) z) fun b=>by have:=l b;(try dsimp only);omega
def Zhr(hf:∀ C f,ok C f=true->Cls X.K C/\ZT X.K C f)(ho:PE X o (tVar i))(hv:PE X value (tM X.K c))(hs:autoParam (swapsWith value (some (.Attribute o f pos')) pos.line X.env=pure false) Q9):
 PS X (.Assign [.Attribute o f pos'] value pos) (tS X.K lk (c.bnd fun d=>(ZR i).bnd fun _=>(modS i (putD ok f d)).bnd fun _=>M.ret .nx)):=PS.imp (Znq ho hv hs) fun E σ H h=>by
 obtain ⟨δ,Hs,M,fl,δ',g,s,ea,q⟩:=h
 obtain ⟨d,δ1,e1,eb⟩:=Zb ea
 obtain ⟨p0,δ2,e2,ec⟩:=Zb eb
 obtain ⟨r0,δ3,e3,ed⟩:=Zb ec
 have:=Ze ed
 cases this
 obtain ⟨kk,ds0,k',ds',hi,hff,rfl⟩:=Zd7 e3
 refine ⟨δ,Hs,M,d,δ1,g,s,e1,fun v H1 Hs1 m1 M1 g1 st1 r1 s1=>?_⟩
 obtain ⟨rfl,vo,hvo⟩:=ZeL s1 e2
 obtain ⟨p1,us,m',n2,e8,nn,rl,le,fin⟩:=modL g1 s1 hi
 rw [hvo] at e8
 cases e8
 refine ⟨_,hvo,?_⟩
 unfold putD at hff
 split at hff
 . rename_i ds C fs
   split at hff
   . rename_i hc
     cases hff
     obtain ⟨hl,dx,hH⟩:=nn
     obtain ⟨z1,z2⟩:=ZdX f v fs us hl
     obtain ⟨G,S,R,SS⟩:=fin (.ins C dx (putF f v (fs.zip us))) (.ins C (putN f fs)) (T.putV f v fs us) (T.putV f d fs ds0) (fun b=>m' b+m1 b) (fun _=>0) .non (.sc .non) (fun b=>by (try dsimp only);omega) ⟨z2,dx,by rw [Zk,z1]⟩ (rl.putV f r1 hl) (.sc _ _)
     have z:=Zo (m1:=fun _=>0) g (g1.re fun b=>by simp) (st1.drop (fun b=>by simp) g1.le) G S
     refine ⟨p1,C,dx,fs.zip us,rfl,hH,(hf C f hc.2).1,(hf C f hc.2).2,?_,?_⟩
     . rw [length_zip,hl,Nat.min_self]
       rw [<- hl]
       exact hc.1
     . exact q σ _ Hs1 _ (Keeps.refl _ _) (G.re fun b=>by (try dsimp only);omega) ((z.2.1.drop (fun b=>by simp) z.1.le).drop (fun b=>by (try dsimp only);omega) G.le) SS
   . cases hff
 . cases hff
end
open PySem.W
noncomputable def scr(ns:List Int):D:=.node .frl false (ns.map fun i=>.sc (.int i))
def ZnZ{K:Fg}{a:Addr}{ns:List Int}{F:List D->Rs (D×List D)}{E:XK}(hS:SqL K H a (ns.map V.int))(e:∃ ds',F [scr ns]=.ok (.sc (.bl true),ds')):spF K F [.ref a] H (fun v _=>v=.bl true) E:=by
 obtain ⟨ds',e⟩:=e
 refine ⟨[scr ns],H,fun _=>0,_,ds',⟨Same.refl _,fun b=>zero_le _,fun b h=>by simp at h,fun b h=>by simp at h⟩,.cons (m1:=fun _=>0) (m2:=fun _=>0) (.shd (vs:=ns.map V.int) hS (Zdo ns)) (.nil _) fun b=>by simp,e,fun v H' Hs' m1 m' g st r _=>?_⟩
 cases r
 rfl
def Zkf{l:PySem.W.OpenLaw}{q:Program}{loose:List Str}{XP:(Str->Option Value)->Heap->Prop}{YP:World->Heap->Prop}{d:DefRec}{K:Params->Fg}{k:Nat}{x:Str}{R:Fg->List D->Rs (D×List D)}(hn:l.most=some 63)(hdf:d.params.defaults=[])(hr:Room k callerA)
 (hY:∀(w:World)(h:Heap),YP w h->(K w.params).In h)
 (F:∀(w:World)(mg:SO)(fa:Addr)(h:Heap),(K w.params).In h->h.Ns mainGlobals mg->mg d.name=some (.ref fa)->
  ∃ fd:FuncData,(∀(s:Shared)(u:Value),BindsTo s fd ⟨[u],[]⟩ [(x,u)])/\∀ base:Heap,(K w.params).In base->base.Ns mainGlobals mg->FnOk l.prog w (K w.params) mg base CX0 k fa fd [x] (spF (K w.params) (R (K w.params))))
 (hL:∀(K:Fg)(ns:List Int),ns.length<=63->∃ ds',R K [scr ns]=.ok (.sc (.bl true),ds')):
 PySem.W.WalkO q loose XP YP l.row.toRowW d [] (fun f vs=>PySem.call f vs):=
 L2.ZjF (n:=63) (k:=k) (x:=x) (CX:=CX0) (sp:=fun K=>spF K (R K)) hn (by decide) hdf hr hY F (fun K H a ns hl _ hS=>ZnZ hS (hL K ns hl)) fun _ _ _ _ z=>z
def Zga{α β:Type}{c:M α}{f:α->M β}{a:α}(h:c δ=.ok (a,δ')):c.bnd f δ=f a δ':=by
 unfold M.bnd
 rw [h]
def runA(h:ds.length=n):Zh C n N body ds=Zch n (exs { C with lock:=fun i=>decide (i < n) } body (ds++replicate (N - n) .hole)):=if_pos h
def szl:sizeLine=16777216:=by rw [sizeLine_eq]
section
noncomputable def bndR(f:α->M β):Rs (α×List D)->Rs (β×List D)
 | .ok (a,δ)=>f a δ
 | .exc x δ=>.exc x δ
 | .stuck=>.stuck
def bndA(c:M α)(f:α->M β)(δ:List D):c.bnd f δ=bndR f (c δ):=by
 unfold M.bnd bndR
 cases c δ<;>rfl
def Zmi(f:α->M β):bndR f (.ok (a,δ))=f a δ:=(rfl)
def retA:M.ret a δ=.ok (a,δ):=(rfl)
def Zq1:lift (some a) δ=.ok (a,δ):=(rfl)
def Zmj(c:Prop)[Decidable c](f g:M α)(δ:List D):(if c then f else g) δ=if c then f δ else g δ:=by split<;>rfl
def Zq2(c:M D):Zn (.v i) c=ZR i:=(rfl)
noncomputable def atR(i:Nat)(δ:List D):Option D->Rs (Op×List D)
 | some (.sc _)=>.ok (.late i,δ)
 | some (.node _ _ _)=>.ok (.late i,δ)
 | _=>.stuck
def Zq3:ZR i δ=atR i δ δ[i]?:=by unfold ZR atR;cases δ[i]? with|none=>rfl|some d=>cases d<;>rfl
def Zoa:atR i δ (some (.sc v))=.ok (.late i,δ):=(rfl)
def Zob:atR i δ (some (.node k o ds))=.ok (.late i,δ):=(rfl)
noncomputable def vwR(i:Nat)(δ:List D):Option D->Rs (W×List D)
 | some (.sc v)=>.ok (.sc v,δ)
 | some (.node k false ds)=>.ok (.nd k ds,δ)
 | some (.node k true ds)=>.ok (.nd k (shrL ds),δ.set i (.node k true (shrL ds)))
 | _=>.stuck
def Zq4:view (.late i) δ=vwR i δ δ[i]?:=by
 unfold view vwR
 (try dsimp only)
 all_goals
  cases δ[i]? with
  | none=>rfl
  | some d=>cases d with
   | node k o ds=>cases o<;>rfl
   | _=>rfl
def Zoc:vwR i δ (some (.sc v))=.ok (.sc v,δ):=(rfl)
def Zq5:vwR i δ (some (.node k false ds))=.ok (.nd k ds,δ):=(rfl)
def Zq6:vwR i δ (some (.node k true ds))=.ok (.nd k (shrL ds),δ.set i (.node k true (shrL ds))):=(rfl)
def Zmk:view (.tmp (.sc v))=M.ret (.sc v):=(rfl)
def Zml:view (.tmp (.node k o ds))=M.ret (.nd k ds):=(rfl)
noncomputable def vlR(i:Nat)(δ:List D):Option D->Rs (D×List D)
 | some (.sc v)=>.ok (.sc v,δ)
 | some (.node k false ds)=>.ok (.node k false ds,δ)
 | some (.node k true ds)=>.ok (.node k false (shrL ds),δ.set i (.node k false (shrL ds)))
 | _=>.stuck
theorem valA:T.valV i δ=vlR i δ δ[i]?:=by
 unfold T.valV vlR
 cases δ[i]? with
 | none=>rfl
 | some d=>cases d with
  | node k o ds=>cases o<;>rfl
  | _=>rfl
def Zod:vlR i δ (some (.sc v))=.ok (.sc v,δ):=(rfl)
def Zq7:vlR i δ (some (.node k true ds))=.ok (.node k false (shrL ds),δ.set i (.node k false (shrL ds))):=(rfl)
noncomputable def mvR(i:Nat)(δ:List D):Option D->Rs (D×List D)
 | some (.sc v)=>.ok (.sc v,δ)
 | some (.node k o ds)=>.ok (.node k o ds,δ.set i .hole)
 | _=>.stuck
def movA:movV i δ=mvR i δ δ[i]?:=by unfold movV mvR;cases δ[i]? with|none=>rfl|some d=>cases d<;>rfl
def Zoe:mvR i δ (some (.sc v))=.ok (.sc v,δ):=(rfl)
def Zof:mvR i δ (some (.node k o ds))=.ok (.node k o ds,δ.set i .hole):=(rfl)
noncomputable def tkR(lend:Bool)(i:Nat)(δ:List D):Option D->Rs (D×List D)
 | some (.sc v)=>.ok (.sc v,δ)
 | some (.node k false ds)=>.ok (.node k false ds,δ)
 | some (.node k true ds)=>if lend then .ok (.node k true ds,δ.set i .hole) else .ok (.node k false (shrL ds),δ.set i (.node k false (shrL ds)))
 | _=>.stuck
def Zq8:takeA lend (.late i) δ=tkR lend i δ δ[i]?:=by
 unfold takeA tkR
 (try dsimp only)
 all_goals
  cases δ[i]? with
  | none=>rfl
  | some d=>cases d with
   | node k o ds=>cases o<;>rfl
   | _=>rfl
def Zq9:takeA lend (.tmp d)=M.ret d:=(rfl)
def Zog:tkR lend i δ (some (.sc v))=.ok (.sc v,δ):=(rfl)
def ZqA:tkR lend i δ (some (.node k false ds))=.ok (.node k false ds,δ):=(rfl)
def ZqB:tkR true i δ (some (.node k true ds))=.ok (.node k true ds,δ.set i .hole):=(rfl)
def Zoh:ZJ lend []=M.ret []:=(rfl)
def Zoi:ZJ lend (p::ps)=(takeA lend p).bnd fun d=>(ZJ lend ps).bnd fun ds=>M.ret (d::ds):=(rfl)
noncomputable def gvR(i:Nat)(δ:List D)(d:D):Option D->Rs (Unit×List D)
 | some .hole=>.ok ((),δ.set i d)
 | _=>.ok ((),δ)
def ZqC:Zav (.late i) d δ=gvR i δ d δ[i]?:=by unfold Zav gvR;(try dsimp only);all_goals (cases δ[i]? with|none=>rfl|some d=>cases d<;>rfl)
def ZqD:Zav (.tmp d') d=M.ret ():=(rfl)
def Zoj:gvR i δ d (some (.sc v))=.ok ((),δ):=(rfl)
def Zok:gvR i δ d (some (.node k o ds))=.ok ((),δ):=(rfl)
def ZqE:gvR i δ d (some .hole)=.ok ((),δ.set i d):=(rfl)
def Zol:Z0 [] ds=M.ret ():=by cases ds<;>rfl
def Zom:Z0 (p::ps) (d::ds)=(Zav p d).bnd fun _=>Z0 ps ds:=(rfl)
def Zon:views []=M.ret []:=(rfl)
def Zoo:views (p::ps)=(view p).bnd fun w=>(views ps).bnd fun ws=>M.ret (w::ws):=(rfl)
noncomputable def cfR(ps:List Op)(δ:List D):Rs (D×List D)->Rs (D×List D)
 | .ok (d,ds')=>((Z0 ps ds').bnd fun _=>M.ret d) δ
 | .exc _ _=>.stuck
 | .stuck=>.stuck
theorem ZqF:ZaU fi ps=(ZJ fi.lend ps).bnd fun ds δ=>cfR ps δ (fi.run ds):=by
 unfold ZaU cfR
 congr 1
 funext ds δ
 cases fi.run ds with
 | ok r=>obtain ⟨d,ds'⟩:=r;rfl
 | exc x y=>rfl
 | stuck=>rfl
def Zop:cfR ps δ (.ok (d,ds'))=((Z0 ps ds').bnd fun _=>M.ret d) δ:=(rfl)
noncomputable def seqR(r:M Fl):Rs (Fl×List D)->Rs (Fl×List D)
 | .ok (.nx,δ)=>r δ
 | .ok (f,δ)=>.ok (f,δ)
 | .exc x δ=>.exc x δ
 | .stuck=>.stuck
theorem exs1:exs C (s::r) δ=seqR (exs C r) (ex C s δ):=by
 show seqL (ex C s) (exs C r) δ=_
 unfold seqL M.bnd seqR
 cases ex C s δ with
 | ok z=>obtain ⟨f,δ1⟩:=z;cases f<;>rfl
 | exc x y=>rfl
 | stuck=>rfl
noncomputable def forR(asg:D->M Unit)(body:M Fl)(ds:List D):Rs (Fl×List D)->Rs (Fl×List D)
 | .ok (.nx,δ)=>forL asg body ds δ
 | .ok (.ct,δ)=>forL asg body ds δ
 | .ok (.bk,δ)=>.ok (.nx,δ)
 | .ok (.rt x,δ)=>.ok (.rt x,δ)
 | .exc x δ=>.exc x δ
 | .stuck=>.stuck
theorem ZbZ:forL asg body (d::ds) δ=forR asg body ds (((asg d).bnd fun _=>body) δ):=by
 show ((asg d).bnd fun _=>body.bnd fun f=>match f with|.nx=>forL asg body ds|.ct=>forL asg body ds|.bk=>M.ret .nx|.rt x=>M.ret (.rt x)) δ=_
 unfold forR M.bnd
 cases asg d δ with
 | ok r=>
  dsimp only
  cases body r.2 with
  | ok z=>obtain ⟨f,δ1⟩:=z;cases f<;>rfl
  | exc x y=>rfl
  | stuck=>rfl
 | exc x y=>rfl
 | stuck=>rfl
def ZqG:forL asg body [] δ=.ok (.nx,δ):=(rfl)
def Zmm:forR asg body ds (.ok (.nx,δ))=forL asg body ds δ:=(rfl)
def exs0:exs C [] δ=.ok (.nx,δ):=(rfl)
def Zmn(r:M Fl):seqR r (.ok (.nx,δ))=r δ:=(rfl)
def Zmo(r:M Fl):seqR r (.ok (.rt d,δ))=.ok (.rt d,δ):=(rfl)
end
def e_k(C:Ctx)(v:V):(evb C (.k v)).1=(M.ret (.sc v)):=(rfl)
def o_k(v:V)(z:M D):Zn (.k v) z=z.bnd fun d=>M.ret (.tmp d):=(rfl)
def e_g(C:Ctx)(d:D):(evb C (.g d)).1=(M.ret d):=(rfl)
def o_g(d:D)(z:M D):Zn (.g d) z=z.bnd fun d=>M.ret (.tmp d):=(rfl)
def ZqH(C:Ctx)(op:Operator)(a:E)(b:E):(evb C (.bin op a b)).1=((Zn a (evb C a).1).bnd fun p=>(Zn b (evb C b).1).bnd fun q=>(view p).bnd fun x=>(view q).bnd fun y=>lift (binW op x y)):=(rfl)
def ZqI(op:Operator)(a:E)(b:E)(z:M D):Zn (.bin op a b) z=z.bnd fun d=>M.ret (.tmp d):=(rfl)
def ZqJ(C:Ctx)(a:E):(evb C (.neg a)).1=(((Zn a (evb C a).1).bnd view).bnd fun x=>lift (negW x)):=(rfl)
def ZqK(a:E)(z:M D):Zn (.neg a) z=z.bnd fun d=>M.ret (.tmp d):=(rfl)
def ZqL(C:Ctx)(op:CmpOp)(a:E)(b:E):(evb C (.cmp op a b)).1=((Zn a (evb C a).1).bnd fun p=>(Zn b (evb C b).1).bnd fun q=>(view p).bnd fun x=>(view q).bnd fun y=>lift ((Za2 op x y).map fun t=>.sc (.bl t))):=(rfl)
def ZqM(C:Ctx)(op:CmpOp)(a:E)(b:E):(evb C (.cmp op a b)).2=Zcw (evb C (.cmp op a b)).1:=(rfl)
def ZqN(C:Ctx)(p:Bool)(a:E):(evb C (.isN p a)).1=(((Zn a (evb C a).1).bnd view).bnd fun x=>M.ret (isNW p x)):=(rfl)
def ZqO(C:Ctx)(p:Bool)(a:E):(evb C (.isN p a)).2=((Zn (.isN p a) (evb C (.isN p a)).1).bnd fun p=>(view p).bnd fun w=>lift (truW w)):=(rfl)
def ZqP(p:Bool)(a:E)(z:M D):Zn (.isN p a) z=z.bnd fun d=>M.ret (.tmp d):=(rfl)
def e_nt(C:Ctx)(a:E):(evb C (.nt a)).1=(((Zn a (evb C a).1).bnd view).bnd fun w=>lift (notW w)):=(rfl)
def t_nt(C:Ctx)(a:E):(evb C (.nt a)).2=((evb C a).2.bnd fun b=>M.ret (!b)):=(rfl)
def o_nt(a:E)(z:M D):Zn (.nt a) z=z.bnd fun d=>M.ret (.tmp d):=(rfl)
def ZqQ(C:Ctx)(a:E)(b:E):(evb C (.and a b)).1=(((Zn a (evb C a).1).bnd view).bnd (andM (evb C b).1)):=(rfl)
def t_or(C:Ctx)(a:E)(b:E):(evb C (.or a b)).2=((evb C a).2.bnd fun t=>if t then M.ret true else (evb C b).2):=(rfl)
def e_ix(C:Ctx)(a:E)(b:E):(evb C (.ix a b)).1=((Zn a (evb C a).1).bnd fun p=>(Zn b (evb C b).1).bnd fun q=>(view p).bnd fun x=>(view q).bnd fun y=>lift (ixW2 x y)):=(rfl)
def o_ix(a:E)(b:E)(z:M D):Zn (.ix a b) z=z.bnd fun d=>M.ret (.tmp d):=(rfl)
def e_sl(C:Ctx)(a:E)(b:E)(c:E):(evb C (.sl a b c)).1=((Zn a (evb C a).1).bnd fun p=>(Zcu b (Zn b (evb C b).1)).bnd fun l=>(Zcu c (Zn c (evb C c).1)).bnd fun h=>(view p).bnd fun x=>lift (slD x l h)):=(rfl)
def o_sl(a:E)(b:E)(c:E)(z:M D):Zn (.sl a b c) z=z.bnd fun d=>M.ret (.tmp d):=(rfl)
def ZqR(C:Ctx)(a:E)(f:Str):(evb C (.fld a f)).1=(((Zn a (evb C a).1).bnd view).bnd fun x=>lift (fldW C.fok f x)):=(rfl)
def ZqS(a:E)(f:Str)(z:M D):Zn (.fld a f) z=z.bnd fun d=>M.ret (.tmp d):=(rfl)
def ZqT(C:Ctx)(es:List E):(evb C (.lst es)).1=((evs C es).bnd fun ds=>lift (newL ds)):=(rfl)
def ZqU(es:List E)(z:M D):Zn (.lst es) z=z.bnd fun d=>M.ret (.tmp d):=(rfl)
def ZqV(C:Ctx)(es:List E):(evb C (.tup es)).1=((evs C es).bnd fun ds=>lift (newT ds)):=(rfl)
def e_kl(C:Ctx)(vs:List V):(evb C (.kl vs)).1=(lift (newL (vs.map D.sc))):=(rfl)
def o_kl(vs:List V)(z:M D):Zn (.kl vs) z=z.bnd fun d=>M.ret (.tmp d):=(rfl)
def Zoq(C:Ctx)(fi:FI)(es:List E):(evb C (.call fi es)).1=((opds C es).bnd fun ps=>ZaU fi ps):=(rfl)
def Zor(C:Ctx)(fi:FI)(es:List E):(evb C (.call fi es)).2=((Zn (.call fi es) (evb C (.call fi es)).1).bnd fun p=>(view p).bnd fun w=>lift (truW w)):=(rfl)
def Zos(fi:FI)(es:List E)(z:M D):Zn (.call fi es) z=z.bnd fun d=>M.ret (.tmp d):=(rfl)
def e_bf(C:Ctx)(f:BF)(es:List E):(evb C (.bf f es)).1=((opds C es).bnd fun ps=>(views ps).bnd fun ws=>lift (bfW f ws)):=(rfl)
def t_bf(C:Ctx)(f:BF)(es:List E):(evb C (.bf f es)).2=((Zn (.bf f es) (evb C (.bf f es)).1).bnd fun p=>(view p).bnd fun w=>lift (truW w)):=(rfl)
def o_bf(f:BF)(es:List E)(z:M D):Zn (.bf f es) z=z.bnd fun d=>M.ret (.tmp d):=(rfl)
def Zot(C:Ctx)(A:Addr)(f:Str)(fi:FI)(a:E)(es:List E):(evb C (.meth A f fi a es)).1=((Zn a (evb C a).1).bnd fun p=>(chkI A f p).bnd fun _=>(opds C es).bnd fun ps=>ZaU fi (p::ps)):=(rfl)
def Zou(A:Addr)(f:Str)(fi:FI)(a:E)(es:List E)(z:M D):Zn (.meth A f fi a es) z=z.bnd fun d=>M.ret (.tmp d):=(rfl)
def ZqW(C:Ctx)(A:Addr)(fi:FI)(es:List E):(evb C (.new A fi es)).1=((opds C es).bnd fun ps=>newF A fi ps):=(rfl)
def Zov(k:Nat)(js:List Nat)(tg:Tg)(ik:IK)(es:List E)(es':List E)(a:E)(z:M D):Zn (.comp k js tg ik es es' a) z=z.bnd fun d=>M.ret (.tmp d):=(rfl)
def e_fs(C:Ctx)(es:List E):(evb C (.fs es)).1=fss C es Str.empty:=(rfl)
def Zmp(C:Ctx)(acc:Str):fss C [] acc=M.ret (.sc (.str acc)):=(rfl)
def Zkg(C:Ctx)(e:E)(es:List E)(acc:Str):fss C (e::es) acc=((Zn e (evb C e).1).bnd view).bnd fun w=>(lift (fmtW acc w)).bnd fun acc'=>fss C es acc':=(rfl)
def o_fs(es:List E)(z:M D):Zn (.fs es) z=z.bnd fun d=>M.ret (.tmp d):=(rfl)
def ZqX(C:Ctx)(e:E):(evb C (.bor e)).1=borV (evb C e).1:=(rfl)
def ZqY(e:E)(z:M D):Zn (.bor e) z=z.bnd fun d=>M.ret (.tmp d):=(rfl)
noncomputable def bvR(δ:List D):Rs (D×List D)->Rs (D×List D)
 | .ok (.sc v,_)=>.ok (.sc v,δ)
 | _=>.stuck
def ZqZ(c:M D)(δ:List D):borV c δ=bvR δ (c (shrL δ)):=(rfl)
def Zow(δ δ':List D)(v:V):bvR δ (.ok (.sc v,δ'))=.ok (.sc v,δ):=(rfl)
def e_v(C:Ctx)(i:Nat):(evb C (.v i)).1=T.valV i:=(rfl)
def Zkh(C:Ctx)(i:Nat)(es:List E):(evb C (.mut .append i [] es)).1=((chkL i).bnd fun _=>(evs C es).bnd fun ds=>appM i ds):=(rfl)
def Zra(C:Ctx):opds C []=M.ret []:=(rfl)
def Zrb(C:Ctx)(e:E)(es:List E):opds C (e::es)=((Zn e (evb C e).1).bnd fun p=>(opds C es).bnd fun ps=>M.ret (p::ps)):=(rfl)
def evs0(C:Ctx):evs C []=M.ret []:=(rfl)
def evs1(C:Ctx)(e:E)(es:List E):evs C (e::es)=((evb C e).1.bnd fun p=>(evs C es).bnd fun ps=>M.ret (p::ps)):=(rfl)
def Zrc(C:Ctx):tsts C []=M.ret true:=(rfl)
def Zrd(C:Ctx)(e:E)(es:List E):tsts C (e::es)=((evb C e).2.bnd fun b=>if b then tsts C es else M.ret false):=(rfl)
def Zre(C:Ctx)(i:Nat)(e:E):ex C (.asg i e)=((evb C e).1.bnd fun d=>(asgN C.lock i d).bnd fun _=>M.ret .nx):=(rfl)
def Zrf(C:Ctx)(is:List Nat)(e:E):ex C (.unp is e)=(((Zn e (evb C e).1).bnd view).bnd fun w=>(unpM C.lock is w).bnd fun _=>M.ret .nx):=(rfl)
def Zrg(C:Ctx)(i:Nat)(x e:E):ex C (.sub i [] x e)=((evb C e).1.bnd fun d=>(ZR i).bnd fun _=>((Zn x (evb C x).1).bnd view).bnd fun w=>(modS i (Zcv w d)).bnd fun _=>M.ret .nx):=(rfl)
def Zox(C:Ctx)(i:Nat)(f:Str)(e:E):ex C (.attr i f e)=((evb C e).1.bnd fun d=>(ZR i).bnd fun _=>(modS i (putD C.fok f d)).bnd fun _=>M.ret .nx):=(rfl)
def x_ex(C:Ctx)(e:E):ex C (.ex e)=((evb C e).1.bnd fun _=>M.ret .nx):=(rfl)
def Zrh(C:Ctx)(e:E):ex C (.ret e)=((retV C e).bnd fun d=>M.ret (.rt d)):=(rfl)
def Zri(C:Ctx)(c:E)(a b:List S):ex C (.iff c a b)=((evb C c).2.bnd fun t=>if t then exs C a else exs C b):=(rfl)
def Zoy(C:Ctx)(tg:Tg)(ik:IK)(ies:List E)(body:List S):ex C (.for_ tg ik ies body)=((opds C ies).bnd fun ps=>(Zr ps).bnd fun h=>(lift (itW ik h.1)).bnd fun items=>(forL (asgT (fun j=>C.lock j || walked ies j) tg) (exs { C with lock:=fun j=>C.lock j || walked ies j } body) items).bnd fun f=>(Z8 h.2).bnd fun _=>M.ret f):=(rfl)
def Zrj(C:Ctx)(i:Nat):retV C (.v i)=if C.lock i then T.valV i else movV i:=(rfl)
def r_k(C:Ctx)(v:V):retV C (.k v)=(evb C (.k v)).1:=(rfl)
def Zrk(C:Ctx)(op:Operator)(a:E)(b:E):retV C (.bin op a b)=(evb C (.bin op a b)).1:=(rfl)
def Zrl(C:Ctx)(a:E)(b:E):retV C (.and a b)=(evb C (.and a b)).1:=(rfl)
def r_ix(C:Ctx)(a:E)(b:E):retV C (.ix a b)=(evb C (.ix a b)).1:=(rfl)
def Zrm(C:Ctx)(es:List E):retV C (.tup es)=(evb C (.tup es)).1:=(rfl)
def Zoz(C:Ctx)(fi:FI)(es:List E):retV C (.call fi es)=(evb C (.call fi es)).1:=(rfl)
def r_bf(C:Ctx)(f:BF)(es:List E):retV C (.bf f es)=(evb C (.bf f es)).1:=(rfl)
def Zo0(C:Ctx)(k:Nat)(js:List Nat)(tg:Tg)(ik:IK)(es:List E)(es':List E)(a:E):retV C (.comp k js tg ik es es' a)=(evb C (.comp k js tg ik es es' a)).1:=(rfl)
def Zrn(i j:Int):binW .Add (.sc (.int i)) (.sc (.int j))=some (.sc (.int (i+j))):=(rfl)
def Zro(i j:Int):binW .Sub (.sc (.int i)) (.sc (.int j))=some (.sc (.int (i - j))):=(rfl)
def Zca(i j:Int)(h:(-(2 ^ 64) < i/\i < 2 ^ 64)\/(-(2 ^ 64) < j/\j < 2 ^ 64)):binW .Mult (.sc (.int i)) (.sc (.int j))=some (.sc (.int (i * j))):=if_pos h
def ZdC(i j:Int)(h:0 < j/\j < 18446744073709551616):binW .FloorDiv (.sc (.int i)) (.sc (.int j))=some (.sc (.int (i / j))):=if_pos h
def ZB(i j:Int)(h:0 < j):binW .Mod (.sc (.int i)) (.sc (.int j))=some (.sc (.int (i % j))):=if_pos h
def Zbx(xs ys:List D)(h:(xs++ys).length<=sizeLine):binW .Add (.nd .lst xs) (.nd .lst ys)=some (.node .lst true (xs++ys)):=if_pos h
def Z9(ds:List D)(h:ds.length<=sizeLine):newL ds=some (.node .lst true ds):=if_pos h
def Zmq(ds:List D)(h:ds.length<=sizeLine):newT ds=some (.node .tup true ds):=if_pos h
def c_lt(i j:Int):cmpW .Lt (.sc (.int i)) (.sc (.int j))=some (decide (i < j)):=(rfl)
def c_le(i j:Int):cmpW .LtE (.sc (.int i)) (.sc (.int j))=some (decide (i<=j)):=(rfl)
def Zrp(i j:Int):Za2 .Gt (.sc (.int i)) (.sc (.int j))=some (decide (j < i)):=(rfl)
def Zrq(i j:Int):Za2 .GtE (.sc (.int i)) (.sc (.int j))=some (decide (j<=i)):=(rfl)
def Zo1(i j:Int):Za2 .Eq (.sc (.int i)) (.sc (.int j))=some (decide (V.int i=V.int j)):=(rfl)
def Zo2(i j:Int):Za2 .NotEq (.sc (.int i)) (.sc (.int j))=some (!decide (V.int i=V.int j)):=(rfl)
def Zrr(c:M D)(δ:List D):Zcw c δ=bndR (fun d=>lift (match d with|.sc (.bl b)=>some b|_=>none)) (c δ):=bndA _ _ _
def Zrs(b:M D):andM b (.sc (.bl true))=b:=(rfl)
def Zrt(b:M D):andM b (.sc (.bl false))=M.ret (.sc (.bl false)):=(rfl)
def Zru(b:Bool):notW (.sc (.bl b))=some (.sc (.bl (!b))):=(rfl)
def Zrv(i:Int):negW (.sc (.int i))=some (.sc (.int (-i))):=(rfl)
def Zrw(b:Bool):truW (.sc (.bl b))=some b:=(rfl)
def Zrx(ds:List D):bfW .len [.nd .lst ds]=some (.sc (.int ds.length)):=(rfl)
def Zo3(ds:List D):bfW .list [.nd .lst ds]=some (.node .lst true ds):=(rfl)
def Zo4(c:M Op):Zcu (.k .non) c=M.ret none:=(rfl)
def Zo5(i:Int)(c:M Op):Zcu (.k (.int i)) c=((c.bnd view).bnd fun w=>lift (intP w)):=(rfl)
def Zo6(i:Nat)(c:M Op):Zcu (.v i) c=((c.bnd view).bnd fun w=>lift (intP w)):=(rfl)
def Zo7(op:Operator)(a b:E)(c:M Op):Zcu (.bin op a b) c=((c.bnd view).bnd fun w=>lift (intP w)):=(rfl)
def intp(i:Int):intP (.sc (.int i))=some (some i):=(rfl)
def sl_l(ds:List D)(l h:Option Int):slD (.nd .lst ds) l h=some (.node .lst true (cutD ds l h)):=(rfl)
def sl_f(ds:List D)(l h:Option Int):slD (.nd .frl ds) l h=some (.node .lst true (cutD ds l h)):=(rfl)
def Zry(lk:Nat->Bool)(is:List Nat)(ds:List D):unpM lk is (.nd .tup ds)=Zbh lk is ds:=(rfl)
def Zrz(lk:Nat->Bool):Zbh lk [] []=M.ret ():=(rfl)
def Zr0(lk:Nat->Bool)(i:Nat)(is:List Nat)(d:D)(ds:List D):Zbh lk (i::is) (d::ds)=((asgN lk i d).bnd fun _=>Zbh lk is ds):=(rfl)
def Zo8(lk:Nat->Bool)(i:Nat)(d:D):asgT lk (.name i) d=asgN lk i d:=(rfl)
def asgn(lk:Nat->Bool)(i:Nat)(d:D)(δ:List D):asgN lk i d δ=if (decide (i < δ.length) && !lk i)=true then .ok ((),δ.set i d) else .stuck:=(rfl)
def Zo9:Zr []=M.ret ([],[]):=(rfl)
def ZoA(p:Op)(ps:List Op):Zr (p::ps)=((holdV p).bnd fun w=>(Zr ps).bnd fun ws=>M.ret (w.1::ws.1,w.2.toList++ws.2)):=(rfl)
noncomputable def hdR(i:Nat)(δ:List D):Option D->Rs ((W×Option (Nat×D))×List D)
 | some (.sc v)=>.ok ((.sc v,none),δ)
 | some (.node k false ds)=>.ok ((.nd k ds,none),δ)
 | some (.node k true ds)=>.ok ((.nd k (shrL ds),some (i,.node k true (shrL ds))),δ.set i .hole)
 | _=>.stuck
def ZoB(i:Nat)(δ:List D):holdV (.late i) δ=hdR i δ δ[i]?:=by
 unfold holdV hdR
 (try dsimp only)
 all_goals
  cases δ[i]? with
  | none=>rfl
  | some d=>cases d with
   | node k o ds=>cases o<;>rfl
   | _=>rfl
def ZoC(i:Nat)(δ:List D)(v:V):hdR i δ (some (.sc v))=.ok ((.sc v,none),δ):=(rfl)
def Zr1(i:Nat)(δ:List D)(k:Kd)(ds:List D):hdR i δ (some (.node k false ds))=.ok ((.nd k ds,none),δ):=(rfl)
def Zr2(i:Nat)(δ:List D)(k:Kd)(ds:List D):hdR i δ (some (.node k true ds))=.ok ((.nd k (shrL ds),some (i,.node k true (shrL ds))),δ.set i .hole):=(rfl)
def ZoD(v:V):holdV (.tmp (.sc v))=M.ret (.sc v,none):=(rfl)
def ZoE(k:Kd)(o:Bool)(ds:List D):holdV (.tmp (.node k o ds))=M.ret (.nd k (shrL ds),none):=(rfl)
def ZoF:Z8 []=M.ret ():=(rfl)
def ZoG(i:Nat)(d:D)(r:List (Nat×D))(δ:List D):Z8 ((i,d)::r) δ=Z8 r (δ.set i d):=(rfl)
def it_l(ds:List D):itW .val [.nd .lst ds]=some ds:=(rfl)
def it_1(n:Int)(h:okR n=true):itW .rng1 [.sc (.int n)]=some (rng 0 n):=if_pos h
def it_2(a b:Int)(h:(okR a && okR b)=true):itW .rng2 [.sc (.int a),.sc (.int b)]=some (rng a b):=if_pos h
noncomputable def mdR(i:Nat)(δ:List D)(f:Kd->List D->Option (D×Kd×List D)):Option D->Rs (D×List D)
 | some (.node k true ds)=>match f k ds with
  | some (r,k',ds')=>.ok (r,δ.set i (.node k' true ds'))
  | none=>.stuck
 | _=>.stuck
theorem modA(i:Nat)(f:Kd->List D->Option (D×Kd×List D))(δ:List D):modS i f δ=mdR i δ f δ[i]?:=by
 unfold modS mdR
 cases δ[i]? with
 | none=>rfl
 | some d=>cases d with
  | node k o ds=>cases o<;>rfl
  | _=>rfl
def Zdq(i:Nat)(δ:List D)(d:D)(ds:List D)(h:ds.length < sizeLine):mdR i δ (appD d) (some (.node .lst true ds))=.ok (.sc .non,δ.set i (.node .lst true (ds++[d]))):=by
 show (match (if ds.length < sizeLine then some (D.sc .non,Kd.lst,ds++[d]) else none) with|some (r,k',ds')=>Rs.ok (r,δ.set i (.node k' true ds'))|none=>.stuck)=_
 rw [if_pos h]
def Zgb(i:Nat)(δ:List D)(d:D)(ds:List D)(n:Int)(j:Nat)(h:ixN' ds.length n=some j):mdR i δ (Zcv (.sc (.int n)) d) (some (.node .lst true ds))=.ok (.sc .non,δ.set i (.node .lst true (ds.set j d))):=by
 show (match ((ixN' ds.length n).map fun j=>(D.sc .non,Kd.lst,ds.set j d)) with|some (r,k',ds')=>Rs.ok (r,δ.set i (.node k' true ds'))|none=>.stuck)=_
 rw [h]
 rfl
def Zr3(i:Nat)(d:D):appM i [d]=modS i (appD d):=(rfl)
noncomputable def ckR(δ:List D):Option D->Rs (Unit×List D)
 | some (.node .lst _ _)=>.ok ((),δ)
 | _=>.stuck
theorem chkA(i:Nat)(δ:List D):chkL i δ=ckR δ δ[i]?:=by
 unfold chkL ckR
 cases δ[i]? with
 | none=>rfl
 | some d=>cases d with
  | node k o ds=>cases k<;>rfl
  | _=>rfl
def Zr4(δ:List D)(o:Bool)(ds:List D):ckR δ (some (.node .lst o ds))=.ok ((),δ):=(rfl)
def ix_l(ds:List D)(i:Int):ixW2 (.nd .lst ds) (.sc (.int i))=(ixN' ds.length i).bind fun j=>ds[j]?:=(rfl)
def ZdD(n j:Nat)(h:j < n):ixN' n (j:Int)=some j:=by
 unfold ixN'
 rw [if_pos (Int.natCast_nonneg j),if_pos (by omega)]
 simp
end T
namespace T
open PySem PySem.Spec L2
variable{δ δ':List D}{X:Cx}{pos:Pos}
section
def r2C(K:Fg)(f:W->W->Option Bool):R2:=fun x y H Q=>∃(Hs:Hp)(w1 w2:W)(m1 m2:Bud)(t:Bool),Same Hs H/\View K H Hs x w1 m1/\View K H Hs y w2 m2/\f w1 w2=some t/\Q (.bl t) H
def ZeR(op:CmpOp)(hu:X.A.units+64 < cLine):OpR X (compareOp op) (r2C X.K (cmpW op)):=by
 intro pins s σ H x y v u Q I rx ry h
 obtain ⟨Hs,w1,w2,m1,m2,t,hs,v1,v2,e,q⟩:=h
 unfold cmpW at e
 split at e
 . rcases ZiR hs v1 v2 e with ⟨h3,rfl⟩|⟨d,f,h3,h4,h5,h6,rfl⟩
   . exact Zpw pins s σ H _ _ v u Q I rx ry ⟨h3,q⟩
   . exact ZnA hu pins s σ H _ _ v u Q I rx ry ⟨d,f,h3,h4,h5,h6,q⟩
 . simp only [map_eq_some_iff] at e
   obtain ⟨t,e,rfl⟩:=e
   rcases ZiR hs v1 v2 e with ⟨h3,rfl⟩|⟨d,f,h3,h4,h5,h6,rfl⟩
   . exact Zpx pins s σ H _ _ v u Q I rx ry ⟨h3,q⟩
   . exact ZnB hu pins s σ H _ _ v u Q I rx ry ⟨d,f,h3,h4,h5,h6,q⟩
 . split at e
   . cases v1;cases v2
     cases op with
     | Lt=>cases e;exact Zpy pins s σ H _ _ v u Q I rx ry ⟨_,_,rfl,rfl,q⟩
     | LtE=>cases e;exact Zpz pins s σ H _ _ v u Q I rx ry ⟨_,_,rfl,rfl,q⟩
     | Gt=>cases e;exact Zp0 pins s σ H _ _ v u Q I rx ry ⟨_,_,rfl,rfl,q⟩
     | GtE=>cases e;exact Zp1 pins s σ H _ _ v u Q I rx ry ⟨_,_,rfl,rfl,q⟩
     | _=>cases e
   . split at e
     . simp only [map_eq_some_iff] at e
       obtain ⟨is,e,rfl⟩:=e
       cases v1
       cases v2 with
       | nd n r=>
        have ei:=Zci r e
        subst ei
        exact Zdc pins s σ H _ _ v u Q I rx ry ⟨_,_,rfl,.inr n,rfl,Zdl _,by rw [if_pos rfl,ZdW];exact q⟩
     . cases e
   . split at e
     . simp only [map_eq_some_iff] at e
       obtain ⟨is,e,rfl⟩:=e
       cases v1
       cases v2 with
       | nd n r=>
        have ei:=Zci r e
        subst ei
        exact Zdc pins s σ H _ _ v u Q I rx ry ⟨_,_,rfl,.inl (.inl (.inl n)),rfl,Zdl _,by rw [if_pos rfl,ZdW];exact q⟩
     . cases e
   . cases e
noncomputable def Zjc(op op':CmpOp)(ca cb cc:M Op):M D:=ca.bnd fun p=>cb.bnd fun q=>(view p).bnd fun x=>(view q).bnd fun y=>(lift (cmpW op x y)).bnd fun t=>if t then cc.bnd fun r=>(view q).bnd fun y=>(view r).bnd fun z=>lift ((cmpW op' y z).map fun t=>.sc (.bl t)) else M.ret (.sc (.bl false))
theorem Zjd(h:tM K (Zjc op op' ca cb cc) σ H Q):
 Zi1 (r2C K (cmpW op)) (r2C K (cmpW op')) (tP K ca) (tP K cb) (tP K cc) σ H Q:=by
 obtain ⟨δ,Hs,M,d,δ',g,s,e,q⟩:=h
 obtain ⟨p,δ1,e1,e⟩:=Zb e
 obtain ⟨p2,δ2,e2,e⟩:=Zb e
 obtain ⟨w1,δ3,e3,e⟩:=Zb e
 obtain ⟨w2,δ4,e4,e⟩:=Zb e
 obtain ⟨t,δ5,e5,e⟩:=Zb e
 obtain ⟨e5',rfl⟩:=ZK e5
 refine seq2 g s e1 e2 fun x y H2 Hs2 m1 m2 M2 g2 st2 r1 r2 s2=>?_
 obtain ⟨Hs3,M3,g3,st3,v1,v2,s3⟩:=Zic g2 s2 r1 r2 e3 e4
 have z:=Zo (m1:=fun _=>0) g (g2.re fun b=>by simp) (st2.drop (fun b=>by simp) g2.le) g3 st3
 have st:Stp H Hs M H2 Hs3 (fun b=>(m1 b+m2 b)+M3 b):=z.2.1.drop (fun b=>by simp) z.1.le
 refine ⟨Hs3,w1,w2,m1,m2,t,g3.sub,v1,v2,e5',t,rfl,?_⟩
 cases t with
 | false=>
  rw [if_neg (by simp)]
  have:=Ze (show T.M.ret (D.sc (.bl false)) _=_ from e)
  cases this
  have G:Good H2 Hs3 (fun b=>(fun _=>0) b+M3 b):=g3.re fun b=>by simp
  exact q _ _ Hs3 (fun _=>0) M3 G (st.drop (fun b=>by simp) g3.le) (.sc _ _) s3
 | true=>
  rw [if_pos rfl]
  rw [if_pos rfl] at e
  obtain ⟨p3,δ6,e6,e⟩:=Zb e
  obtain ⟨y2,δ7,e7,e⟩:=Zb e
  obtain ⟨z3,δ8,e8,e⟩:=Zb e
  obtain ⟨e9,rfl⟩:=ZK e
  simp only [map_eq_some_iff] at e9
  obtain ⟨t2,e9,rfl⟩:=e9
  have G2:Good H2 Hs3 (fun b=>m2 b+M3 b):=g3.re fun b=>by omega
  have st2':Stp H Hs M H2 Hs3 (fun b=>m2 b+M3 b):=st.drop (fun b=>by omega) g3.le
  refine ⟨_,Hs3,M3,p3,δ6,G2.re (fun b=>by omega),s3,e6,fun z' H4 Hs4 m3 M4 g4 st4 r4 s4=>?_⟩
  obtain ⟨G,S,k⟩:=Zo g G2 st2' g4 st4
  have ry:RepP K H4 Hs4 σ y p2 m2:=(r2.frame st3.grow fun _ _ _=>rfl).frame st4.grow k
  have G':Good H4 Hs4 (fun b=>(m2 b+m3 b)+M4 b):=G.re fun b=>by omega
  have S':Stp H Hs M H4 Hs4 (fun b=>(m2 b+m3 b)+M4 b):=S.drop (fun b=>by omega) G.le
  obtain ⟨Hs5,M5,g5,st5,v5,v6,s5⟩:=Zic G' s4 ry r4 e7 e8
  have z5:=Zo (m1:=fun _=>0) g (G'.re fun b=>by simp) (S'.drop (fun b=>by simp) G'.le) g5 st5
  have S5:Stp H Hs M H4 Hs5 (fun b=>(m2 b+m3 b)+M5 b):=z5.2.1.drop (fun b=>by simp) z5.1.le
  refine ⟨Hs5,y2,z3,m2,m3,t2,g5.sub,v5,v6,e9,?_⟩
  have G6:Good H4 Hs5 (fun b=>(fun _=>0) b+M5 b):=g5.re fun b=>by simp
  exact q _ _ Hs5 (fun _=>0) M5 G6 (S5.drop (fun b=>by simp) g5.le) (.sc _ _) s5
def ZdY(hu:X.A.units+64 < cLine)(ha:PE X a (tP X.K ca))(hb:PE X b (tP X.K cb))(hc:PE X c (tP X.K cc))(hm:lastMarks [op,op'] [b,c]=false:=by with_unfolding_all rfl):
 PE X (.Compare a [op,op'] [b,c] pos) (tM X.K (Zjc op op' ca cb cc)):=PE.imp (Zj6 (ZeR op hu) (ZeR op' hu) ha hb hc hm) fun σ H Q h=>Zjd h
end
section
def Zr5(h:tM K ((c.bnd view).bnd f) σ H Q):tP K c σ H fun x H1=>∃(Hs:Hp)(w:W)(m:Bud),View K H1 Hs x w m/\tM K (f w) σ H1 Q:=by
 obtain ⟨δ,Hs,M,d,δ',g,s,e,q⟩:=h
 obtain ⟨w,δ2,e,e5⟩:=Zb e
 obtain ⟨p,δ1,e1,e3⟩:=Zb e
 refine ⟨δ,Hs,M,p,δ1,g,s,e1,fun x H2 Hs2 m1 M2 g2 st2 r1 s2=>?_⟩
 obtain ⟨Hs3,M3,g3,st3,v1,s3⟩:=Zaw (B:=m1) g2 s2 r1 e3
 have z:=Zo (m1:=fun _=>0) g (g2.re fun b=>by simp) (st2.drop (fun b=>by simp) g2.le) g3 st3
 have st:Stp H Hs M H2 Hs3 (fun b=>m1 b+M3 b):=z.2.1.drop (fun b=>by simp) z.1.le
 have G:Good H2 Hs3 (fun b=>(fun _=>0) b+M3 b):=g3.re fun b=>by simp
 have st':Stp H Hs M H2 Hs3 (fun b=>(fun _=>0) b+M3 b):=st.drop (fun b=>by simp) g3.le
 refine ⟨Hs3,w,m1,v1,δ2,Hs3,M3,d,δ',g3.re,s3,e5,fun v H' Hs' m M' g' sx r s'=>q v H' Hs' m M' g' ?_ r s'⟩
 have z2:=Zo (m1:=fun _=>0) g G st' g' sx
 exact z2.2.1.drop (fun b=>by simp) z2.1.le
def PF(X:Cx)(es:List Expr)(f:Str->M D):Prop:=∃ ts,PEs X es ts/\∀ acc σ H Q,tM X.K (f acc) σ H Q->Zf9 ts acc σ H Q
def ZkR:PF X [] fun acc=>M.ret (.sc (.str acc)):=⟨[],.nil,fun acc σ H Q z0=>by
 obtain ⟨δ,Hs,M,d,δ',g,s,e,q⟩:=z0
 have:=Ze e
 cases this
 exact q _ H Hs (fun _=>0) M (Za4 g) (stp0 H Hs M) (.sc _ _) s⟩
def Zgc(h:tM K ((lift o).bnd f) σ H Q):∃ a,o=some a/\tM K (f a) σ H Q:=by
 obtain ⟨δ,Hs,M,d,δ',g,s,e,q⟩:=h
 obtain ⟨a,δ1,e1,e2⟩:=Zb e
 obtain ⟨e3,rfl⟩:=ZK e1
 exact ⟨a,e3,δ1,Hs,M,d,δ',g,s,e2,q⟩
theorem Zhs(v:View K H Hs x w m)(h:fmtW acc w=some z):∃ y,fmtV x=some y/\y.length<=sizeLine/\(acc++y).length<=sizeLine/\z=acc++y:=by
 cases v with
 | sc v m=>
  have h:((fmtD x).bind fun z=>if z.length<=sizeLine/\(acc++z).length<=sizeLine then some (acc++z) else none)=some z:=h
  simp only [bind_eq_some_iff] at h
  obtain ⟨y,h1,h2⟩:=h
  split at h2
  . rename_i hl
    cases h2
    exact ⟨y,h1,hl.1,hl.2,rfl⟩
  . cases h2
 | nd n r=>cases h
def ZkS(ha:PE X e (tP X.K ca))(hr:PF X es f):PF X (.FormattedValue e (-1) none pos::es) fun acc=>(ca.bnd view).bnd fun w=>(lift (fmtW acc w)).bnd f:=by
 obtain ⟨ts,h1,h2⟩:=hr
 refine ⟨_::ts,.cons (ZnC ha) h1,fun acc σ H Q h=>?_⟩
 obtain ⟨δ,Hs,M,p,δ1,g,s,e1,q⟩:=Zr5 h
 refine ⟨δ,Hs,M,p,δ1,g,s,e1,fun x H1 Hs1 m M1 g1 st1 r1 s1=>?_⟩
 obtain ⟨Hs2,w,m2,v,h3⟩:=q x H1 Hs1 m M1 g1 st1 r1 s1
 obtain ⟨z,h4,h5⟩:=Zgc h3
 obtain ⟨y,a1,a2,a3,rfl⟩:=Zhs v h4
 exact ⟨y,a1,a2,y,rfl,a3,h2 _ _ _ _ h5⟩
def ZkT{j pos'}(hr:PF X es f):PF X (.Constant (.str z) j pos'::es) fun acc=>(((M.ret (D.sc (.str z))).bnd fun d=>M.ret (Op.tmp d)).bnd view).bnd fun w=>(lift (fmtW acc w)).bnd f:=by
 obtain ⟨ts,h1,h2⟩:=hr
 refine ⟨_::ts,.cons ZaK h1,fun acc σ H Q h=>?_⟩
 have h':tM X.K ((lift (fmtW acc (.sc (.str z)))).bnd f) σ H Q:=h
 obtain ⟨y,h4,h5⟩:=Zgc h'
 obtain ⟨y,a1,a2,a3,rfl⟩:=Zhs (K:=X.K) (H:=H) (Hs:=H) (View.sc (V.str z) (fun _=>0)) h4
 cases a1
 exact ⟨_,rfl,a3,h2 _ _ _ _ h5⟩
def ZkU(h:PF X (a::b::es) f):PE X (.JoinedStr (a::b::es) pos) (tM X.K (f Str.empty)):=by
 obtain ⟨ts,h1,h2⟩:=h
 exact PE.imp (ZlN h1) fun σ H Q h=>h2 _ _ _ _ h
end
def ZeS(h:keyD v=some k):v=kV k:=by
 unfold keyD at h
 split at h<;>cases h<;>rfl
theorem ZdZ:∀{ks:List Key}{vs:List V},L2.valV (ks.zip vs) k=ZaI k ks vs
 | [],_=>by simp [ZaI,L2.ZfG]
 | _::_,[]=>by simp [ZaI,L2.ZfG]
 | j::ks,v::vs=>by
  rw [zip_cons_cons]
  unfold ZaI
  by_cases e:j=k
  . rw [if_pos e,L2.ZcK (p:=(j,v)) e]
  . rw [if_neg e,L2.ZcL (p:=(j,v)) e]
    exact ZdZ
section
variable{K:Fg}{H Hs:Hp}
theorem RepL.look:∀{ks:List Key}{vs:List V}{ds:List D}{m:Bud},RepL K H Hs vs ds m->ZaI k ks ds=some d->∃(v:V)(m1:Bud),ZaI k ks vs=some v/\Rep K H Hs v d m1/\∀ b,m1 b<=m b
 | [],_,_,_,.nil _,e=>by cases e
 | _::_,_,_,_,.nil _,e=>by cases e
 | [],_,_,_,.cons x r l,e=>by cases e
 | j::ks,_,_,_,.cons (m1:=m1) (m2:=m2) x r l,e=>by
  unfold ZaI at e ⊢
  by_cases h:j=k
  . rw [if_pos h] at e ⊢
    cases e
    exact ⟨_,m1,rfl,x,fun b=>by have:=l b;omega⟩
  . rw [if_neg h] at e ⊢
    obtain ⟨v,n1,h1,h2,h3⟩:=RepL.look r e
    exact ⟨v,n1,h1,h2,fun b=>by have:=l b;have:=h3 b;omega⟩
theorem RepL.lookS:∀{ks:List Key}{vs:List V}{ds:List D}{m:Bud},RepL K H Hs vs ds m->(ZaI k ks vs).isSome=(ZaI k ks ds).isSome
 | [],_,_,_,.nil _=>rfl
 | _::_,_,_,_,.nil _=>rfl
 | [],_,_,_,.cons x r l=>rfl
 | j::ks,_,_,_,.cons x r l=>by
  unfold ZaI
  by_cases h:j=k
  . rw [if_pos h,if_pos h];rfl
  . rw [if_neg h,if_neg h];exact RepL.lookS r
def Zki{p:Key×V}{r:List (Key×V)}{k:Key}{v:V}(e:¬ p.1=k):putK (p::r) k v=p::putK r k v:=by
 unfold putK
 rw [any_cons,decide_eq_false e,Bool.false_or]
 split
 . rw [map_cons,if_neg e]
 . rfl
theorem Zgd:∀{ks:List Key}{vs:List V},k∉ks->(ks.zip vs).map (fun kv=>if kv.1=k then (kv.1,v) else kv)=ks.zip vs
 | [],_,_=>rfl
 | _::_,[],_=>rfl
 | j::ks,x::vs,h=>by
  rw [zip_cons_cons,map_cons,if_neg (fun e:j=k=>h (e ▸ mem_cons_self)),Zgd fun q=>h (mem_cons_of_mem _ q)]
theorem RepL.stor{k:Key}{d:D}{v:V}{n:Bud}(x:Rep K H Hs v d n):∀{ks ks':List Key}{vs:List V}{ds ds':List D}{m:Bud},ks.length=vs.length->RepL K H Hs vs ds m->Zew k d ks ds=some (ks',ds')->
 ∃ vs',ks'.length=vs'.length/\RepL K H Hs vs' ds' (fun b=>m b+n b)/\putK (ks.zip vs) k v=ks'.zip vs'
 | [],_,_,_,_,_,hl,.nil m,e=>by
  cases e
  exact ⟨[v],rfl,.cons x (.nil m) fun b=>by omega,rfl⟩
 | _::_,_,_,_,_,_,hl,.nil m,e=>by cases e
 | [],_,_,_,_,_,hl,.cons y r l,e=>by cases e
 | j::ks,ks',y0::vs,x0::ds,ds',m,hl,.cons (m1:=m1) (m2:=m2) y r l,e=>by
  have hl:ks.length=vs.length:=Nat.succ.inj hl
  unfold Zew at e
  by_cases h:j=k
  . rw [if_pos h] at e
    split at e
    . cases e
    . rename_i hk
      have hk:k∉ks:=fun hm=>hk (List.any_eq_true.mpr ⟨k,hm,decide_eq_true rfl⟩)
      cases e
      refine ⟨v::vs,by simp [hl],.cons x r fun b=>by have:=l b;(try dsimp only);omega,?_⟩
      rw [zip_cons_cons,zip_cons_cons]
      unfold putK
      rw [any_cons,decide_eq_true (show (j,y0).1=k from h),Bool.true_or,if_pos rfl,map_cons,if_pos h,Zgd hk]
  . rw [if_neg h] at e
    simp only [map_eq_some_iff] at e
    obtain ⟨⟨ks2,ds2⟩,e2,e3⟩:=e
    cases e3
    obtain ⟨vs2,h1,h2,h3⟩:=RepL.stor x hl r e2
    refine ⟨y0::vs2,by simp [h1],.cons y h2 fun b=>by have:=l b;(try dsimp only);omega,?_⟩
    rw [zip_cons_cons,Zki (show ¬ (j,y0).1=k from h),h3]
    rfl
end
section
variable{a b o e k:Expr}{pos':Pos}{i:Nat}{lk:Nat->Bool}
def ZdE(h:tP K c σ H R)(w:∀ v H',R v H'->R' v H'):tP K c σ H R':=by
 obtain ⟨δ,Hs,M,a,δ',g,s,e,q⟩:=h
 exact ⟨δ,Hs,M,a,δ',g,s,e,fun v H' Hs' m M' g' st r s'=>w v H' (q v H' Hs' m M' g' st r s')⟩
def Zak{α β:Type}{c:M α}{f:α->M β}{x:α}(h:c δ=.ok (x,δ')):c.bnd f δ=f x δ':=by
 unfold M.bnd
 rw [h]
def PE.or(h:PE X e t)(h':PE X e t'):PE X e fun σ H Q=>t σ H Q\/t' σ H Q:=fun pins s σ H Q I q=>q.elim (h pins s σ H Q I) (h' pins s σ H Q I)
def Zag{ca cb:M Op}(hu:X.A.units+64 < cLine)(ha:PE X a (tP X.K ca))(hb:PE X b (tP X.K cb))(hs:Zhe b:=by intro _ _;rfl):
 PE X (.Subscript a b pos) (tM X.K (ca.bnd fun p=>cb.bnd fun q=>(view p).bnd fun x=>(view q).bnd fun y=>lift (ixW2 x y))):=
 PE.imp (PE.or (Zp6 ZpR ha hb hs) (Zl9 (by omega) ha hb hs)) fun σ H Q h=>by
  obtain ⟨δ,Hs,M,d,δ',g,s,e,q⟩:=h
  obtain ⟨p,δ1,e1,e⟩:=Zb e
  obtain ⟨p2,δ2,e2,e⟩:=Zb e
  obtain ⟨w1,δ3,e3,e⟩:=Zb e
  obtain ⟨w2,δ4,e4,e⟩:=Zb e
  obtain ⟨e5,rfl⟩:=ZK e
  have back:∀ f:W->W->Option D,f w1 w2=some d->tM X.K (ca.bnd fun p=>cb.bnd fun q=>(view p).bnd fun x=>(view q).bnd fun y=>lift (f x y)) σ H Q:=fun f hf=>by
   refine ⟨δ,Hs,M,d,_,g,s,?_,q⟩
   rw [Zak e1,Zak e2,Zak e3,Zak e4,hf]
   rfl
  unfold ixW2 at e5
  split at e5
  . right
    refine ZdE (op2 (back ixD e5)) fun x H1 h1=>ZdE h1 fun y H2 h2=>?_
    obtain ⟨Hs2,w1',w2',m1,m2,d2,hs2,l1,l2,v1,v2,e6,oo⟩:=h2
    unfold ixD at e6
    split at e6
    . simp only [bind_eq_some_iff] at e6
      obtain ⟨kk,hk,hl⟩:=e6
      cases v1 with
      | nd n r=>
       cases v2
       obtain ⟨z,n1,h3,h4,h5⟩:=r.look hl
       have hy:=ZeS hk
       subst hy
       have g:=DGet.k (k:=kk) n.2
       rw [ZdZ,h3] at g
       exact ⟨_,z,rfl,g,oo.part l1 l2 (fun b=>by have:=h5 b;omega) h4⟩
    . cases e6
  . exact .inl (op2 (back ixW e5))
def ZkV(p:Bool)(op:CmpOp)(hop:op=if p then .In else .NotIn)(hu:X.A.units+64 < cLine):OpR X (compareOp op) (r2C X.K (inD p)):=by
 intro pins s σ H x y v u Q I rx ry h
 obtain ⟨Hs,w1,w2,m1,m2,t,hs,v1,v2,e,q⟩:=h
 unfold inD at e
 split at e
 . simp only [map_eq_some_iff] at e
   obtain ⟨kk,hk,rfl⟩:=e
   cases v2 with
   | @nd a _ vs _ _ n r=>
    cases v1
    have hy:=ZeS hk
    subst hy
    obtain rfl:u=Value.ref a:=ry
    have g:=DGet.k (k:=kk) n.2
    rw [ZdZ] at g
    have es:=fun ks=>r.lookS (k:=kk) (ks:=ks)
    cases p with
    | true=>
     subst hop
     refine d_in (by omega) I g rx fun s' I'=>⟨.bl _,H,I',rfl,?_⟩
     rw [es]
     simpa using q
    | false=>
     subst hop
     refine Zl7 (by omega) I g rx fun s' I'=>⟨.bl _,H,I',rfl,?_⟩
     rw [es]
     have z:∀ c:Bool,(c == false)=!c:=by decide
     rw [z] at q
     exact q
 . cases e
def Zht(op:CmpOp)(hu:X.A.units+64 < cLine):OpR X (compareOp op) (r2C X.K (Za2 op)):=by
 intro pins s σ H x y v u Q I rx ry h
 obtain ⟨Hs,w1,w2,m1,m2,t,hs,v1,v2,e,q⟩:=h
 unfold Za2 at e
 split at e
 . exact ZkV true .In rfl hu pins s σ H x y v u Q I rx ry ⟨Hs,w1,w2,m1,m2,t,hs,v1,v2,e,q⟩
 . exact ZkV false .NotIn rfl hu pins s σ H x y v u Q I rx ry ⟨Hs,w1,_,m1,m2,t,hs,v1,v2,e,q⟩
 . exact ZeR op hu pins s σ H x y v u Q I rx ry ⟨Hs,w1,w2,m1,m2,t,hs,v1,v2,e,q⟩
def op2C(h:tM K (ca.bnd fun p=>cb.bnd fun q=>(view p).bnd fun x=>(view q).bnd fun y=>lift ((f x y).map fun t=>.sc (.bl t))) σ H Q):tOp (r2C K f) (tP K ca) (tP K cb) σ H Q:=
 ZdE (op2 (f:=fun x y=>(f x y).map fun t=>.sc (.bl t)) h) fun x H1 h1=>ZdE h1 fun y H2 h2=>by
  obtain ⟨Hs2,w1,w2,m1,m2,d2,hs2,l1,l2,v1,v2,e,oo⟩:=h2
  simp only [map_eq_some_iff] at e
  obtain ⟨t,e,rfl⟩:=e
  exact ⟨Hs2,w1,w2,m1,m2,t,hs2,v1,v2,e,oo.sc⟩
def ZcC(hu:X.A.units+64 < cLine)(ha:PE X a (tP X.K ca))(hb:PE X b (tP X.K cb))(hm:behindInMarks op b=false:=by first|exact nomark _|with_unfolding_all rfl):
 PE X (.Compare a [op] [b] pos) (tM X.K (ca.bnd fun p=>cb.bnd fun q=>(view p).bnd fun x=>(view q).bnd fun y=>lift ((Za2 op x y).map fun t=>.sc (.bl t)))):=PE.imp (Zls (Zht op hu) ha hb hm) fun σ H Q h=>op2C h
def Zae(hu:X.A.units+64 < cLine)(ha:PE X a (tP X.K ca))(hb:PE X b (tP X.K cb))(hm:behindInMarks op b=false:=by first|exact nomark _|with_unfolding_all rfl):
 PT X (.Compare a [op] [b] pos) (tT X.K (Zcw (ca.bnd fun p=>cb.bnd fun q=>(view p).bnd fun x=>(view q).bnd fun y=>lift ((Za2 op x y).map fun t=>.sc (.bl t))))):=PT.imp (Zlt (Zht op hu) ha hb hm) fun σ H Q h=>op2C (Zhl h)
def Zr6:V->V->V->Hp->(Hp->Prop)->Prop:=fun o i v H Q=>ZkG o i v H Q\/∃ a H',o=.ref a/\DPut H a i v H'/\Q H'
def Zr7(hu:X.A.units+64 < cLine):PSet X Zr6:=by
 intro pins s σ H o i v ov iv u Q I ro ri rv h
 rcases h with h|⟨a,H',rfl,g,q⟩
 . exact ZjC pins s σ H o i v ov iv u Q I ro ri rv h
 . obtain rfl:ov=Value.ref a:=ro
   exact ZiA (by omega) I g ri rv fun s' I'=>⟨H',I',q⟩
def ZeT(hu:X.A.units+64 < cLine)(ho:PE X o (tVar i))(hk:PE X k (tP X.K ck))(he:PE X e (tM X.K c))
 (ha:∀ v,assign (.Subscript o k pos') X.env v=(do
  let ov <- holding [v] (eval o X.env)
  let iv <- holding [v,ov] (eval k X.env)
  standAt pos'
  holding [v,ov,iv] (setItem ov iv v)
  release [v,ov,iv] []):=by intro _;rfl)
 (hs:autoParam (swapsWithSole [.Subscript o k pos'] e pos.line X.env=pure false) Q9) (hw:autoParam (swappedStores [.Subscript o k pos'] e X.env=pure none) Q9)
 (h1:autoParam ((assignEach [.Subscript o k pos'] X.env).map (·.2)=[assign (.Subscript o k pos') X.env]) Q9):
 PS X (.Assign [.Subscript o k pos'] e pos) (tS X.K lk (c.bnd fun d=>(ZR i).bnd fun _=>(ck.bnd view).bnd fun w=>(modS i (Zcv w d)).bnd fun _=>M.ret .nx)):=
 PS.imp (Ziv he (Zne ho hk (Zr7 hu) ha) hs hw h1) fun E σ H h=>by
 obtain ⟨δ,Hs,M,f,δ',g,s,ea,q⟩:=h
 obtain ⟨d,δ1,e1,eb⟩:=Zb ea
 obtain ⟨p0,δ2,e2,ec⟩:=Zb eb
 obtain ⟨w,δ3,e3,ed⟩:=Zb ec
 obtain ⟨p,δ4,e4,e5⟩:=Zb e3
 obtain ⟨r0,δ5,e6,e7⟩:=Zb ed
 have:=Ze e7
 cases this
 obtain ⟨kk,ds0,k',ds',hi,hf,rfl⟩:=Zd7 e6
 refine ⟨δ,Hs,M,d,δ1,g,s,e1,fun v H1 Hs1 m1 M1 g1 st1 r1 s1=>?_⟩
 obtain ⟨rfl,vo,ho⟩:=ZeL s1 e2
 refine ⟨vo,ho,δ2,Hs1,M1,p,δ4,g1.re,s1,e4,fun y H2 Hs2 m2 M2 g2 st2 r2 s2=>?_⟩
 obtain ⟨G2,S2,k2⟩:=Zo g g1 st1 g2 st2
 have r1':=r1.frame st2.grow k2
 obtain ⟨Hs3,M3,g3,st3,v3,s3⟩:=Zaw (B:=fun b=>m1 b+m2 b) (G2.re fun b=>by (try dsimp only);omega) s2 r2 e5
 have r1'':=r1'.frame (H':=H2) st3.grow fun _ _ _=>rfl
 obtain ⟨p1,us,m',n2,e8,n,rl,le,fin⟩:=modL g3 s3 hi
 rw [ho] at e8
 cases e8
 have S2':Stp H Hs M H2 Hs2 (fun b=>m1 b+m2 b+M2 b):=S2.drop (fun b=>by omega) G2.le
 have G2':Good H2 Hs2 (fun b=>m1 b+m2 b+M2 b):=G2.re fun b=>by omega
 have z3:=Zo (m1:=fun _=>0) g (G2'.re fun b=>by simp) (S2'.drop (fun b=>by simp) G2'.le) g3 st3
 have S3:Stp H Hs M H2 Hs3 (fun b=>m1 b+m2 b+M3 b):=z3.2.1.drop (fun b=>by simp) z3.1.le
 have last:∀(ob:HO)(us':List V)(n':Bud),(∀ b,n' b<=m' b+m1 b)->ZaH X.K (upd H2 p1 ob) p1 us' k'->RepL X.K H2 Hs3 us' ds' n'->E.nx σ (upd H2 p1 ob):=fun ob us' n' hn no rn=>by
  obtain ⟨G,S,R,SS⟩:=fin ob k' us' ds' n' (fun _=>0) .non (.sc .non) (fun b=>by have:=hn b;(try dsimp only);omega) no rn (.sc _ _)
  have z:=Zo (m1:=fun _=>0) g (g3.re fun b=>by simp) (S3.drop (fun b=>by simp) g3.le) G S
  exact q σ _ Hs3 _ (Keeps.refl _ _) (G.re fun b=>by (try dsimp only);omega) ((z.2.1.drop (fun b=>by simp) z.1.le).drop (fun b=>by (try dsimp only);omega) G.le) SS
 unfold Zcv at hf
 split at hf
 . split at hf
   . split at hf
     . rename_i hz
       simp only [bind_eq_some_iff,map_eq_some_iff] at hf
       obtain ⟨kk,hk,rr,hst,hf⟩:=hf
       cases hf
       cases v3
       have hy:=ZeS hk
       subst hy
       obtain ⟨us',h1,h2,h3⟩:=RepL.stor r1'' n.1 rl hst
       right
       have hl:=rl.len
       have hp:=DPut.k (k:=kk) (v:=v) n.2 (by rw [length_zip,n.1];omega)
       rw [h3] at hp
       exact ⟨p1,_,rfl,hp,last _ us' _ (fun b=>Nat.le_refl _) ⟨h1,Zk⟩ h2⟩
     . cases hf
   . cases hf
 . unfold setD at hf
   split at hf
   . split at hf
     . rename_i nn
       simp only [map_eq_some_iff] at hf
       obtain ⟨jj,hj,hf⟩:=hf
       cases hf
       cases v3
       have hl:=rl.len
       have hjj:ixN us.length nn=some jj:=by rw [hl];exact hj
       have hlt:jj < ds0.length:=by
        unfold ixN' at hj
        split at hj
        . split at hj
          . cases hj;omega
          . cases hj
        . split at hj
          . cases hj;omega
          . cases hj
       exact .inl ⟨p1,us,nn,jj,rfl,rfl,n,hjj,last (.lst (us.set jj v)) (us.set jj v) _ (fun b=>Nat.le_refl _) Zk (rl.set (List.getElem?_eq_getElem hlt) r1'')⟩
     . cases hf
   . cases hf
end
theorem Zdr:∀(c:Int)(ds:List D),(Zaa c ds).length=ds.length
 | _,[]=>rfl
 | c,d::ds=>by rw [Zaa,length_cons,length_cons,Zdr]
theorem Zge:∀(c:Int)(ds:List D)(i:Nat){d:D},(Zaa c ds)[i]?=some d->∃ x,ds[i]?=some x/\d=.node .tup false [.sc (.int (c+i)),x]
 | _,[],i,_,h=>by simp [Zaa] at h
 | c,x::ds,0,d,h=>by
  rw [Zaa,List.getElem?_cons_zero] at h
  cases h
  exact ⟨x,rfl,by simp⟩
 | c,x::ds,i+1,d,h=>by
  rw [Zaa,getElem?_cons_succ] at h
  obtain ⟨y,e1,e2⟩:=Zge (c+1) ds i h
  refine ⟨y,by rw [getElem?_cons_succ];exact e1,?_⟩
  have z:c+1+(i:Int)=c+((i+1:Nat):Int):=by omega
  rw [e2,z]
def Zje:Walk K (Ite K a c) (Zaa c ds) B (fun H Hs=>(SqL K Hs a vs\/(H a=some (.lst vs)/\B a≥1))/\RepL K H Hs vs ds (fun _=>0)):=by
 have sq:∀{H Hs:Hp},Same Hs H->(SqL K Hs a vs\/(H a=some (.lst vs)/\B a≥1))->SqL K H a vs:=fun g h=>h.elim (fun h=>g.seq h) fun h=>.inl (.inl h.1)
 refine ⟨fun h g k=>⟨?_,h.2.frame g fun b hb=>absurd hb (by simp)⟩,fun{H Hs i} g h l=>?_,fun{H Hs H' i x d} g h e y=>?_,fun{H Hs i} g h l=>?_⟩
 . rcases h.1 with h|⟨h,hb⟩
   . exact .inl (g.seq h)
   . exact .inr ⟨(k a hb (by rw [h];simp)).trans h,hb⟩
 . have e:=h.2.len
   rw [Zdr] at l
   exact ⟨vs,_,sq g h.1,List.getElem?_eq_getElem (show i < vs.length by omega)⟩
 . obtain ⟨x1,e1,e2⟩:=Zge c ds i e
   subst e2
   obtain ⟨A,y1,rfl,hA,rfl,hy⟩:=y
   obtain ⟨v,m1,ev,rv,lv⟩:=h.2.at e1
   have hv:=hy vs (sq g h.1)
   rw [ev] at hv
   cases hv
   have gr:Grow H Hs (upd H A (.tup [.int (c+i),y1])) (upd Hs A (.tup [.int (c+i),y1])):=.inr ⟨A,_,hA,rfl,rfl⟩
   obtain ⟨sm,fr,_⟩:=gr.same g
   refine ⟨_,gr,.shd (k:=.tup) (vs:=[.int (c+i),y1]) (show _=some _ from Zk) (.cons (m1:=fun _=>0) (m2:=fun _=>0) (.sc _ _) (.cons (m1:=fun _=>0) (m2:=fun _=>0) ((rv.mono lv).frame sm fun b _ n=>fr b n) (.nil _) fun b=>by simp) fun b=>by simp)⟩
 . have e:=h.2.len
   rw [Zdr] at l
   exact ⟨vs,sq g h.1,by omega⟩
def ZoH{c cb:M Op}{n:Int}{h:List W×List (Nat×D)}(hcb:∀ δ,cb δ=.ok (.tmp (.sc (.int n)),δ))(e:((c.bnd fun p=>(cb.bnd fun p=>(M.ret ([]:List Op)).bnd fun ps=>M.ret (p::ps)).bnd fun ps=>M.ret (p::ps)).bnd Zr) δ=.ok (h,δ')):
 ∃ p δ1 w,c δ=.ok (p,δ1)/\holdV p δ1=.ok (w,δ')/\h=([w.1,.sc (.int n)],w.2.toList):=by
 obtain ⟨ps,δ1,e1,e2⟩:=Zb e
 obtain ⟨p,δ2,e3,e4⟩:=Zb e1
 obtain ⟨qs,δ3,e5,e6⟩:=Zb e4
 obtain ⟨p2,δ4,e7,e8⟩:=Zb e5
 rw [hcb] at e7
 cases e7
 obtain ⟨z,δ5,e9,e10⟩:=Zb e8
 have:=Ze e9
 cases this
 have:=Ze e10
 cases this
 have:=Ze e6
 cases this
 obtain ⟨w,δ6,e11,e12⟩:=Zb e2
 obtain ⟨ws,δ7,e13,e14⟩:=Zb e12
 obtain ⟨w2,δ8,e15,e16⟩:=Zb e13
 have:=Ze e15
 cases this
 obtain ⟨z,δ9,e17,e18⟩:=Zb e16
 have:=Ze e17
 cases this
 have:=Ze e18
 cases this
 have:=Ze e14
 cases this
 exact ⟨p,_,w,e3,e11,by simp⟩
def Zr8(hg:Gl X x)(h:∃ t,X.mg x=some (.int i t))(hd:(x == ("__debug__":Str))=false):PE X (.Name x p) (tM X.K (M.ret (.sc (.int i)))):=by
 obtain ⟨t,h⟩:=h
 exact ok_k (ZeG hg h ⟨t,rfl⟩ hd)
def ZfA(hc:X.calm=true)(hg:PGs X es (gNs is))(hn:autoParam ((assignEach es X.env).length=is.length) Q9)(hst:autoParam ((assignEach es X.env).findIdx? (·.1)=none) Q9):PG X (.Tuple es k1 q) (gT X.K (.tup is)):=ZiX hc hg hn hst
section
variable{es:List Expr}{k1:Nat}{l ke:Expr}{ca cb:M Op}{p q kp:Pos}{c:Int}
theorem Zhu(hl:PE X l (tP X.K ca))(hcb:∀ δ,cb δ=.ok (.tmp (.sc (.int c)),δ))(σ:St)(H:Hp)(R:It->Hp->Prop)(h:tI X.K .enum (ca.bnd fun p=>(cb.bnd fun p=>(M.ret ([]:List Op)).bnd fun ps=>M.ret (p::ps)).bnd fun ps=>M.ret (p::ps)) σ H R):ZhU X.K c (Zek (tP X.K ca) tNil) σ H R/\Builtin.SmallTypes.fitsIndex c=true:=by
 obtain ⟨δ,Hs,M,h,items,δ',g,s,e,ei,z⟩:=h
 obtain ⟨p,δ1,w,e1,e2,rfl⟩:=ZoH hcb e
 obtain ⟨w1,w2⟩:=w
 have core:∀(x:V)(H2 Hs2:Hp)(m1 M2:Bud),Good H2 Hs2 (fun b=>m1 b+M2 b)->Stp H Hs M H2 Hs2 (fun b=>m1 b+M2 b)->RepP X.K H2 Hs2 σ x p m1->RepS X.K H2 Hs2 σ δ1 M2->
  ∃ Hs3 B M3,Good H2 Hs3 (fun b=>B b+M3 b)/\Stp H Hs M H2 Hs3 (fun b=>B b+M3 b)/\RepS X.K H2 Hs3 σ δ' M3/\Held X.K H2 Hs3 σ w2.toList B/\HW X.K H2 Hs3 B x w1:=fun x H2 Hs2 m1 M2 g2 st2 r1 s2=>by
  obtain ⟨Hs3,B,M3,g3,st3,s3,hh,hw⟩:=Zb9 g2 s2 r1 e2
  have z:=Zo (m1:=fun _=>0) g (g2.re fun b=>by simp) (st2.drop (fun b=>by simp) g2.le) g3 st3
  exact ⟨Hs3,B,M3,g3,z.2.1.drop (fun b=>by simp) z.1.le,s3,hh,hw⟩
 have fit:okR c=true->Builtin.SmallTypes.fitsIndex c=true:=fun h=>by
  simp only [okR,and_eq_true,decide_eq_true_eq] at h
  simp only [Builtin.SmallTypes.fitsIndex,and_eq_true,decide_eq_true_eq]
  omega
 cases w1 with
 | sc u=>cases ei
 | nd k ds=>
  have hkk:(k=.lst\/k=.frl)/\okR c=true/\items=Zaa c ds:=by
   simp only [itW,ZkM] at ei
   split at ei
   . rename_i hk;cases ei;exact ⟨hk.1,hk.2,rfl⟩
   . cases ei
  obtain ⟨hk,hc,rfl⟩:=hkk
  refine ⟨⟨δ,Hs,M,p,δ1,g,s,e1,fun x H2 Hs2 m1 M2 g2 st2 r1 s2=>?_⟩,fit hc⟩
  obtain ⟨Hs3,B,M3,g3,st3,s3,hh,a,vs,hx,hr,hn⟩:=core x H2 Hs2 m1 M2 g2 st2 r1 s2
  have hp:SqL X.K Hs3 a vs\/(H2 a=some (.lst vs)/\B a≥1):=by
   rcases hk with rfl|rfl
   . exact hn.elim (fun n=>.inl (.inl (.inl n))) fun n=>.inr n
   . exact hn.elim (fun n=>.inl n) fun n=>n.1.elim
  refine ⟨a,by rw [hx],⟨vs,?_⟩,z _ _ H2 Hs3 B M3 g3 st3 s3 hh Zje ⟨hp,hr⟩⟩
  rcases hp with hp|hp
  . exact g3.sub.seq hp
  . exact .inl (.inl hp.1)
def Zgf(hg:Gl X "enumerate")(hm:X.mg "enumerate"=none)(hl:PE X l (tP X.K ca))(hcb:∀ δ,cb δ=.ok (.tmp (.sc (.int 0)),δ):=by intro _;rfl)(hs:autoParam (starEach [l] X.env=[(false,eval l X.env)]) Q9):
 PI X (.Tuple es k1 q) (.Call (.Name "enumerate" p) [l] [] pos) (tI X.K .enum (ca.bnd fun p=>(cb.bnd fun p=>(M.ret ([]:List Op)).bnd fun ps=>M.ret (p::ps)).bnd fun ps=>M.ret (p::ps))):=PI.imp (ZlS hg hm (ZP hl ZaL (by show _=_;rw [hs];rfl)) hs) fun σ H R h=>(Zhu hl hcb σ H R h).1
def Zkj(hg:Gl X "enumerate")(hm:X.mg "enumerate"=none)(hl:PE X l (tP X.K ca))(hke:PE X ke (tC (.int c)))(hcb:∀ δ,cb δ=.ok (.tmp (.sc (.int c)),δ):=by intro _;rfl)(hs:autoParam (starEach [l] X.env=[(false,eval l X.env)]) Q9):
 PI X (.Tuple es k1 q) (.Call (.Name "enumerate" p) [l] [⟨some "start",ke,kp⟩] pos) (tI X.K .enum (ca.bnd fun p=>(cb.bnd fun p=>(M.ret ([]:List Op)).bnd fun ps=>M.ret (p::ps)).bnd fun ps=>M.ret (p::ps))):=fun pins s σ H R I h=>by
 obtain ⟨h1,h2⟩:=Zhu hl hcb σ H R h
 exact ZjW hg hm (ZP hl ZaL (by show _=_;rw [hs];rfl)) hke h2 hs pins s σ H R I h1
end
open PySem.W
noncomputable abbrev dI(xs:List Int):List D:=xs.map fun i=>D.sc (.int i)
def Zac(x:Int)(xs:List Int):dI (x::xs)=.sc (.int x)::dI xs:=(rfl)
def Zjf:dI []=[]:=(rfl)
def ZL(xs ys:List Int):dI (xs++ys)=dI xs++dI ys:=map_append
def Zp(xs:List Int):(dI xs).length=xs.length:=length_map _
theorem Zt(xs:List Int):shrL (dI xs)=dI xs:=by
 induction xs with
 | nil=>rfl
 | cons x xs ih=>simp only [map_cons,shrL,shr] at ih ⊢;rw [ih]
theorem ZgG(xs:List Int):Zaq (dI xs)=some xs:=by
 induction xs with
 | nil=>rfl
 | cons x xs ih=>simp only [map_cons,Zaq] at ih ⊢;rw [ih];rfl
def Zr9(ds:List D):bfW .sum [.nd .lst ds]=(Zaq ds).map fun is=>.sc (.int is.sum):=(rfl)
def Za5(xs:List Int):bfW .sum [.nd .lst (dI xs)]=some (.sc (.int xs.sum)):=by rw [Zr9,ZgG];rfl
def ZkW(w:W):bfW (.isi .bool) [w]=(tyW .bool w).map fun b=>.sc (.bl b):=(rfl)
noncomputable def cutI(xs:List Int)(lo hi:Option Int):List Int:=(xs.drop (HT.sIx xs.length 0 lo)).take (HT.sIx xs.length xs.length hi - HT.sIx xs.length 0 lo)
def ZaP(xs:List Int)(lo hi:Option Int):cutD (dI xs) lo hi=dI (cutI xs lo hi):=by
 unfold cutD cutI
 simp only [length_map,List.map_take,List.map_drop]
noncomputable def rngI:Int->Nat->List Int
 | _,0=>[]
 | a,n+1=>a::rngI (a+1) n
theorem Zmr(a:Int):∀(n:Nat)(f:Nat->Int),(∀ k,f k=a+k)->(List.range n).map (fun k=>D.sc (.int (f k)))=dI (rngI a n):=by
 intro n
 induction n generalizing a with
 | zero=>intro f _;rfl
 | succ n ih=>
  intro f hf
  (rw [List.range_succ_eq_map,map_cons,map_map])
  show _=D.sc (.int a)::dI (rngI (a+1) n)
  have h0:f 0=a:=by rw [hf];simp
  rw [h0]
  congr 1
  exact ih (a+1) (fun k=>f (k+1)) fun k=>by rw [hf];omega
def Zgg(a b:Int):rng a b=dI (rngI a (b - a).toNat):=Zmr a _ (fun k=>a+k) fun k=>rfl
theorem Zbm(a:Int):∀ n,(rngI a n).length=n:=by
 intro n
 induction n generalizing a with
 | zero=>rfl
 | succ n ih=>rw [rngI,length_cons,ih]
theorem ZbB(a:Int):∀ n x,x∈rngI a n↔a<=x/\x < a+n:=by
 intro n
 induction n generalizing a with
 | zero=>intro x;simp only [rngI,not_mem_nil,false_iff];omega
 | succ n ih=>intro x;rw [rngI,mem_cons,ih];omega
def ZdF(n:Int)(h:-(2 ^ 62)<=n/\n < 2 ^ 62):itW .rng1 [.sc (.int n)]=some (dI (rngI 0 n.toNat)):=by
 rw [it_1 n (by simp only [okR,and_eq_true,decide_eq_true_eq];exact h),Zgg]
 have:n - 0=n:=by omega
 rw [this]
def ZrA(a b:Int)(h:-(2 ^ 62)<=a/\a < 2 ^ 62/\-(2 ^ 62)<=b/\b < 2 ^ 62):itW .rng2 [.sc (.int a),.sc (.int b)]=some (dI (rngI a (b - a).toNat)):=by
 rw [it_2 a b (by simp only [okR,and_eq_true,decide_eq_true_eq];exact ⟨⟨h.1,h.2.1⟩,h.2.2⟩),Zgg]
def it_e(ds:List D)(c:Int)(h:-(2 ^ 62)<=c/\c < 2 ^ 62):itW .enum [.nd .lst ds,.sc (.int c)]=some (Zaa c ds):=by
 show (if _ then _ else _)=_
 rw [if_pos ⟨.inl rfl,by simp only [okR,and_eq_true,decide_eq_true_eq];exact h⟩]
def ZbN(lk:Nat->Bool)(is:List Nat)(o:Bool)(ds:List D):asgT lk (.tup is) (.node .tup o ds)=Zbh lk is ds:=(rfl)
def ixI(xs:List Int)(k:Int)(h0:0<=k)(h:k < xs.length):((ixN' (dI xs).length k).bind fun j=>(dI xs)[j]?)=some (.sc (.int (xs.getD k.toNat 0))):=by
 rw [length_map]
 unfold ixN'
 rw [if_pos h0,if_pos h]
 (have hk:k.toNat < xs.length:=by omega)
 show (dI xs)[k.toNat]?=_
 rw [getElem?_map,List.getElem?_eq_getElem hk,getD_eq_getElem?_getD,List.getElem?_eq_getElem hk]
 rfl
noncomputable def notV:E->Bool
 | .v _=>false
 | _=>true
def ZbO(h:notV e=true):ZaW (Zn e c) lk:=by
 rw [Zmb fun j z=>by subst z;cases h]
 exact ZnV
section
variable{asg:D->M Unit}{cond:M Bool}{elt:M D}{d:D}{ds acc δ1 caps:List D}{k:Nat}{js:List Nat}{loop:M (List D)}
def Zbd:ZH asg cond elt (d::ds) acc δ=((asg d).bnd fun _=>cond.bnd fun b=>if b then elt.bnd fun x=>ZH asg cond elt ds (acc++[x]) else ZH asg cond elt ds acc) δ:=(rfl)
noncomputable def ZS(fok:Addr->Str->Bool)(fuel k:Nat)(tg:Tg)(cond:List E)(elt:E)(items acc:List D):M (List D):=ZH (asgT (fun i=>decide (k<=i)) tg) (tsts ⟨fun i=>decide (k<=i),fok,fuel⟩ cond) (evb ⟨fun i=>decide (k<=i),fok,fuel⟩ elt).1 items acc
def Zms(C:Ctx)(k:Nat)(js:List Nat)(tg:Tg)(ik:IK)(es es':List E)(a:E):(evb C (.comp k js tg ik es es' a)).1=((opds C es).bnd fun ps=>(Zr ps).bnd fun h=>(lift (itW ik h.1)).bnd fun items=>(Zab k js (ZS C.fok C.fuel k tg es' a items [])).bnd fun d=>(Z8 h.2).bnd fun _=>M.ret d):=(rfl)
def Zaf(h1:Zc9 js δ=.ok (caps,δ1))(h2:loop (replicate k .hole++caps)=.ok (acc,δ'))(h3:acc.length<=sizeLine):Zab k js loop δ=((Zbn js (δ'.drop k)).bnd fun _=>M.ret (.node .lst true acc)) δ1:=by
 unfold Zab
 rw [Zga h1,h2]
 show ((Zbn js (δ'.drop k)).bnd fun _=>lift (newL acc)) δ1=_
 rw [Z9 _ h3]
 rfl
end
end T
namespace T
open PySem PySem.Spec L2
variable{H Hs H1 Hs1:Hp}{X:Cx}{pos pos':Pos}{lk:Nat->Bool}{fi:FI}{σ1:St}{j:Nat}
def Zmt{K:Fg}{ca:M Op}{p:Bool}{σ:St}{Q:Bool->Hp->Prop}(h:tT K ((((ca.bnd view).bnd fun x=>M.ret (isNW p x)).bnd fun d=>M.ret (.tmp d)).bnd fun q=>(view q).bnd fun w=>lift (truW w)) σ H Q):
 tM K ((ca.bnd view).bnd fun x=>M.ret (isNW p x)) σ H (fun x H'=>∃ k,x=.bl k/\Q k H'):=by
 obtain ⟨δ,Hs,M,b,δ',g,s,e,q⟩:=h
 obtain ⟨op,δ1,e1,e2⟩:=Zb e
 obtain ⟨d,δ2,e3,e4⟩:=Zb e1
 have:=Ze e4
 cases this
 have hb:∃ t,d=.sc (.bl t):=by
  obtain ⟨x,δ3,e5,e6⟩:=Zb e3
  have:=Ze e6
  cases this
  cases x<;>exact ⟨_,rfl⟩
 obtain ⟨t,rfl⟩:=hb
 obtain ⟨w,δ4,e7,e8⟩:=Zb e2
 have:=Ze (show T.M.ret (W.sc (.bl t)) δ1=.ok (w,δ4) from e7)
 cases this
 obtain ⟨e9,rfl⟩:=ZK e8
 cases e9
 refine Zhl (c:=(ca.bnd view).bnd fun x=>T.M.ret (isNW p x)) ⟨δ,Hs,M,_,_,g,s,?_,q⟩
 unfold Zcw
 rw [Zga e3]
 rfl
def ZdG(C:T.Ctx)(op op':CmpOp)(a b e:E):(evb C (.chain op op' a b e)).1=((Zn a (evb C a).1).bnd fun p=>(Zn b (evb C b).1).bnd fun q=>(view p).bnd fun x=>(view q).bnd fun y=>(lift (cmpW op x y)).bnd fun t=>if t then (Zn e (evb C e).1).bnd fun r=>(view q).bnd fun y=>(view r).bnd fun z=>lift ((cmpW op' y z).map fun t=>.sc (.bl t)) else M.ret (.sc (.bl false))):=(rfl)
section
def Zmu(ha:PE X a (tP X.K ca)){j}:PT X (.Compare a [.Is] [.Constant .none j pos'] pos) (tT X.K ((((ca.bnd view).bnd fun x=>M.ret (isNW true x)).bnd fun d=>M.ret (.tmp d)).bnd fun q=>(view q).bnd fun w=>lift (truW w))):=PT.imp (ZmW (ZmV ha)) fun σ H Q h=>by
 have h2:tM X.K ((ca.bnd view).bnd fun x=>lift (some (isNW true x))) σ H _:=Zmt h
 exact op1 (r:=fun x H1 Q=>Q (.bl (decide (x=.non))) H1) h2 fun x H Hs w m d g h1 h2 v e o=>by
  cases e
  rw [(Zmf v).1] at o
  exact o.sc
end
theorem Zhv:∀(ds es:List D)(i:Nat){d:D},(zipD ds es)[i]?=some d->∃ x y,ds[i]?=some x/\es[i]?=some y/\d=.node .tup false [x,y]
 | [],es,i,d,h=>by simp [zipD] at h
 | x::ds,[],i,d,h=>by simp [zipD] at h
 | x::ds,y::es,0,d,h=>by
  rw [zipD,List.getElem?_cons_zero] at h
  cases h
  exact ⟨x,y,rfl,rfl,rfl⟩
 | x::ds,y::es,i+1,d,h=>by
  rw [zipD,getElem?_cons_succ] at h
  obtain ⟨u,v,e1,e2,e3⟩:=Zhv ds es i h
  exact ⟨u,v,by rw [getElem?_cons_succ];exact e1,by rw [getElem?_cons_succ];exact e2,e3⟩
theorem Zea:∀ ds es:List D,(zipD ds es).length=min ds.length es.length
 | [],es=>by simp [zipD]
 | x::ds,[]=>by simp [zipD]
 | x::ds,y::es=>by rw [zipD,length_cons,length_cons,length_cons,Zea ds es];omega
def Stays(K:Fg)(B:Bud)(a:Addr)(vs:List V)(H Hs:Hp):Prop:=SqL K Hs a vs\/(H a=some (.lst vs)/\B a≥1)
def Stays.sq(g:Same Hs H)(h:Stays K B a vs H Hs):SqL K H a vs:=h.elim (fun h=>g.seq h) fun h=>.inl (.inl h.1)
def Stays.frame(h:Stays K B a vs H Hs)(g:Same Hs Hs')(k:∀ b,B b≥1->H b≠none->H' b=H b):Stays K B a vs H' Hs':=by
 rcases h with h|⟨h,hb⟩
 . exact .inl (g.seq h)
 . exact .inr ⟨(k a hb (by rw [h];simp)).trans h,hb⟩
def Zkk:Walk K (Itz K a b) (zipD ds es) B (fun H Hs=>(Stays K B a vs H Hs/\Stays K B b ws H Hs)/\RepL K H Hs vs ds (fun _=>0)/\RepL K H Hs ws es (fun _=>0)):=by
 refine ⟨fun h g k=>⟨⟨h.1.1.frame g k,h.1.2.frame g k⟩,h.2.1.frame g fun b hb=>absurd hb (by simp),h.2.2.frame g fun b hb=>absurd hb (by simp)⟩,fun{H Hs i} g h l=>?_,fun{H Hs H' i x d} g h e y=>?_,fun{H Hs i} g h l=>?_⟩
 . have e1:=h.2.1.len
   have e2:=h.2.2.len
   rw [Zea] at l
   exact ⟨vs,ws,_,_,h.1.1.sq g,h.1.2.sq g,List.getElem?_eq_getElem (show i < vs.length by omega),List.getElem?_eq_getElem (show i < ws.length by omega)⟩
 . obtain ⟨x1,y1,e1,e2,rfl⟩:=Zhv ds es i e
   obtain ⟨A,u,v,rfl,hA,rfl,hu,hv⟩:=y
   obtain ⟨u',m1,eu,ru,lu⟩:=h.2.1.at e1
   obtain ⟨v',m2,ev,rv,lv⟩:=h.2.2.at e2
   have qu:=hu vs (h.1.1.sq g)
   have qv:=hv ws (h.1.2.sq g)
   rw [eu] at qu
   rw [ev] at qv
   cases qu
   cases qv
   have gr:Grow H Hs (upd H A (.tup [u,v])) (upd Hs A (.tup [u,v])):=.inr ⟨A,_,hA,rfl,rfl⟩
   obtain ⟨sm,fr,_⟩:=gr.same g
   refine ⟨_,gr,.shd (k:=.tup) (vs:=[u,v]) (show _=some _ from Zk) (.cons (m1:=fun _=>0) (m2:=fun _=>0) ((ru.mono lu).frame sm fun b _ n=>fr b n) (.cons (m1:=fun _=>0) (m2:=fun _=>0) ((rv.mono lv).frame sm fun b _ n=>fr b n) (.nil _) fun b=>by simp) fun b=>by simp)⟩
 . have e1:=h.2.1.len
   have e2:=h.2.2.len
   rw [Zea] at l
   exact ⟨vs,ws,h.1.1.sq g,h.1.2.sq g,by omega⟩
theorem Held.app:∀{l r:List (Nat×D)}{m n:Bud},Held K H Hs σ l m->Held K H Hs σ r n->Held K H Hs σ (l++r) (fun b=>m b+n b)
 | [],r,m,n,_,h=>Held.more h fun b=>by omega
 | (i,d)::l,r,m,n,⟨v,m1,m2,e,x,y,q⟩,h=>⟨v,m1,fun b=>m2 b+n b,e,x,Held.app y h,fun b=>by have:=q b;(try dsimp only);omega⟩
where
 Held.more {K:Fg} {H Hs:Hp} {σ:St}:∀{l:List (Nat×D)}{m n:Bud},Held K H Hs σ l m->(∀ b,m b<=n b)->Held K H Hs σ l n
  | [],_,_,h,_=>h
  | (i,d)::l,m,n,⟨v,m1,m2,e,x,y,q⟩,k=>⟨v,m1,m2,e,x,y,fun b=>le_trans (q b) (k b)⟩
def HW.nd_stays(hk:k=.lst\/k=.frl)(g:Same Hs Hs')(l:∀ b,B b<=B' b)(h:HW K H Hs B x (.nd k ds)):∃ a vs,x=.ref a/\Stays K B' a vs H Hs'/\RepL K H Hs' vs ds (fun _=>0):=by
 obtain ⟨a,vs,e,r,n⟩:=h
 refine ⟨a,vs,e,?_,r.frame g fun b hb=>absurd hb (by simp)⟩
 rcases hk with rfl|rfl
 . rcases n with n|n
   . exact .inl (.inl (.inl (g _ _ n)))
   . exact .inr ⟨n.1,le_trans n.2 (l a)⟩
 . rcases n with n|n
   . exact .inl (g.seq n)
   . exact n.1.elim
section
variable{es:List Expr}{k1:Nat}{l r:Expr}{ca cb:M Op}{p q:Pos}
theorem ZoI(σ:St)(H:Hp)(R:It->Hp->Prop)(h:tI X.K .zip (ca.bnd fun p=>(cb.bnd fun p=>(M.ret ([]:List Op)).bnd fun ps=>M.ret (p::ps)).bnd fun ps=>M.ret (p::ps)) σ H R):iZip X.K (Zek (tP X.K ca) (Zek (tP X.K cb) tNil)) σ H R:=by
 obtain ⟨δ,Hs,M,h,items,δ',g,s,e,ei,z⟩:=h
 obtain ⟨ps,δ1,e1,e2⟩:=Zb e
 obtain ⟨p1,δ2,e3,e4⟩:=Zb e1
 obtain ⟨qs,δ3,e5,e6⟩:=Zb e4
 obtain ⟨p2,δ4,e7,e8⟩:=Zb e5
 obtain ⟨y0,δ5,e9,e10⟩:=Zb e8
 have:=Ze e9
 cases this
 have:=Ze e10
 cases this
 have:=Ze e6
 cases this
 obtain ⟨w1,δ6,e11,e12⟩:=Zb e2
 obtain ⟨ws,δ7,e13,e14⟩:=Zb e12
 obtain ⟨w2,δ8,e15,e16⟩:=Zb e13
 obtain ⟨y1,δ9,e17,e18⟩:=Zb e16
 have:=Ze e17
 cases this
 have:=Ze e18
 cases this
 have:=Ze e14
 cases this
 obtain ⟨w1,h1⟩:=w1
 obtain ⟨w2,h2⟩:=w2
 refine ⟨δ,Hs,M,p1,δ2,g,s,e3,fun x H1 Hs1 m1 M1 g1 st1 r1 s1=>⟨δ2,Hs1,M1,p2,_,g1.re,s1,e7,fun y H2 Hs2 m2 M2 g2 st2 r2 s2=>?_⟩⟩
 obtain ⟨G2,S2,k2⟩:=Zo g g1 st1 g2 st2
 have r1':=RepP.frame st2.grow k2 r1
 obtain ⟨Hs3,B3,M3,g3,st3,s3,hh3,hw3⟩:=Zb9 (m:=m1) (M:=M2) (G2.re fun b=>by (try dsimp only);omega) s2 r1' e11
 have G2':Good H2 Hs2 (fun b=>m2 b+(m1 b+M2 b)):=G2.re fun b=>by (try dsimp only);omega
 have S2':Stp H Hs M H2 Hs2 (fun b=>m2 b+(m1 b+M2 b)):=S2.drop (fun b=>by (try dsimp only);omega) G2.le
 obtain ⟨G3,S3,k3⟩:=Zo (m1:=m2) g G2' S2' g3 st3
 have r2':RepP X.K H2 Hs3 σ y p2 m2:=RepP.frame st3.grow k3 r2
 obtain ⟨Hs4,B4,M4,g4,st4,s4,hh4,hw4⟩:=Zb9 (m:=m2) (M:=M3) (G3.re fun b=>by (try dsimp only);omega) s3 r2' e15
 have G3':Good H2 Hs3 (fun b=>B3 b+(m2 b+M3 b)):=G3.re fun b=>by (try dsimp only);omega
 have S3':Stp H Hs M H2 Hs3 (fun b=>B3 b+(m2 b+M3 b)):=S3.drop (fun b=>by (try dsimp only);omega) G3.le
 obtain ⟨G4,S4,k4⟩:=Zo (m1:=B3) g G3' S3' g4 st4
 cases w1 with
 | sc u=>cases ei
 | nd k ds=>
  cases w2 with
  | sc u=>cases ei
  | nd k' ds'=>
   have hkk:((k=.lst\/k=.frl)/\(k'=.lst\/k'=.frl))/\items=zipD ds ds':=by
    simp only [itW,zipI] at ei
    split at ei
    . rename_i hk;cases ei;exact ⟨hk,rfl⟩
    . cases ei
   obtain ⟨⟨hk,hk'⟩,rfl⟩:=hkk
   obtain ⟨a,vs,rfl,sa,ra⟩:=HW.nd_stays (B':=fun b=>B3 b+B4 b) hk st4.grow (fun b=>by omega) hw3
   obtain ⟨b,us,rfl,sb,rb⟩:=HW.nd_stays (B':=fun b=>B3 b+B4 b) hk' (Same.refl _) (fun b=>by omega) hw4
   have gg:Good H2 Hs4 (fun b=>(fun b=>B3 b+B4 b) b+M4 b):=G4.re fun b=>by (try dsimp only);omega
   have hh:=Held.app (hh3.frame st4.grow fun b _ _=>rfl) hh4
   exact ⟨a,b,rfl,⟨vs,sa.sq gg.sub⟩,⟨us,sb.sq gg.sub⟩,z _ _ H2 Hs4 (fun b=>B3 b+B4 b) M4 gg (S4.drop (fun b=>by (try dsimp only);omega) G4.le) s4 (by simpa using hh) Zkk ⟨⟨sa,sb⟩,ra,rb⟩⟩
def ZoJ(hg:Gl X "zip")(hm:X.mg "zip"=none)(hl:PE X l (tP X.K ca))(hr:PE X r (tP X.K cb))(hs:autoParam (starEach [l,r] X.env=[(false,eval l X.env),(false,eval r X.env)]) Q9)(hs2:autoParam (starEach [r] X.env=[(false,eval r X.env)]) Q9):
 PI X (.Tuple es k1 q) (.Call (.Name "zip" p) [l,r] [] pos) (tI X.K .zip (ca.bnd fun p=>(cb.bnd fun p=>(M.ret ([]:List Op)).bnd fun ps=>M.ret (p::ps)).bnd fun ps=>M.ret (p::ps))):=
 PI.imp (ZnH hg hm (ZP hl (ZP hr ZaL (by show _=_;rw [hs2];rfl)) (by show _=_;rw [hs,hs2])) hs hs2) fun σ H R h=>ZoI σ H R h
end
def NX{α:Type}(c:M α):Prop:=∀ δ x δ',c δ≠.exc x δ'
section
def Zcn(a:α):NX (M.ret a):=fun δ x δ' h=>by cases h
def Zco:NX (stk (α:=α)):=fun δ x δ' h=>by cases h
def ZcD(h:NX c)(k:∀ a,NX (f a)):NX (c.bnd f):=fun δ x δ' e=>by
 unfold M.bnd at e
 split at e
 . exact k _ _ _ _ e
 . rename_i y z q;exact h _ _ _ q
 . cases e
end
theorem Zkl(l:Bool)(p:Op):NX (takeA l p):=by
 cases p with
 | tmp d=>exact Zcn _
 | late i=>intro δ x δ' h;unfold takeA at h;dsimp only at h;split at h<;>(first|cases h|(split at h<;>cases h))
theorem Zcx(l:Bool):∀ ps,NX (ZJ l ps)
 | []=>Zcn _
 | p::ps=>ZcD (Zkl l p) fun _=>ZcD (Zcx l ps) fun _=>Zcn _
theorem Zmv(A:Addr)(m:Str)(p:Op):NX (chkI A m p):=by
 cases p with
 | late i=>intro δ x δ' h;unfold chkI at h;dsimp only at h;split at h<;>(first|cases h|(split at h<;>cases h))
 | tmp d=>
  cases d with
  | node k o ds=>
   cases k with
   | ins B fs=>intro δ x δ' h;unfold chkI at h;dsimp only at h;split at h<;>cases h
   | _=>exact Zco
  | _=>exact Zco
def Zhw(lk:Nat->Bool)(i:Nat)(d:D):NX (asgN lk i d):=fun δ x δ' h=>by unfold asgN at h;split at h<;>cases h
theorem Zgh(lk:Nat->Bool):∀ is ds,NX (Zbh lk is ds)
 | [],[]=>Zcn _
 | i::is,d::ds=>ZcD (Zhw lk i d) fun _=>Zgh lk is ds
 | [],_::_=>Zco
 | _::_,[]=>Zco
theorem Zmw(lk:Nat->Bool)(t:Tg)(d:D):NX (asgT lk t d):=by
 cases t with
 | name i=>exact Zhw _ _ _
 | tup is=>
  cases d with
  | node k o ds=>cases k<;>first|exact Zgh _ _ _|exact Zco
  | _=>exact Zco
theorem Zkm(p:Op):NX (holdV p):=by
 cases p with
 | tmp d=>cases d<;>first|exact Zcn _|exact Zco
 | late i=>intro δ x δ' h;unfold holdV at h;dsimp only at h;split at h<;>cases h
theorem Zft:∀ ps,NX (Zr ps)
 | []=>Zcn _
 | p::ps=>ZcD (Zkm p) fun _=>ZcD (Zft ps) fun _=>Zcn _
def ZbP(c:M α):NX (clm c):=fun δ x δ' h=>by
 replace h:clmR (c δ)=_:=h
 cases e:c δ<;>rw [e] at h<;>cases h
def Zds(h:clm c δ=.ok z):c δ=.ok z:=by
 replace h:clmR (c δ)=_:=h
 cases e:c δ<;>rw [e] at h<;>cases h
 rfl
def Ze4(h:PA X es (tPs X.K c)):PA X es (tPs X.K (clm c)):=PA.imp h fun σ H Q z=>by
 obtain ⟨δ,Hs,M,a,δ',g,s,e,q⟩:=z
 exact ⟨δ,Hs,M,a,δ',g,s,Zds e,q⟩
def ZoK(h:PE X o (tP X.K c)):PE X o (tP X.K (clm c)):=PE.imp h fun σ H Q z=>by
 obtain ⟨δ,Hs,M,a,δ',g,s,e,q⟩:=z
 exact ⟨δ,Hs,M,a,δ',g,s,Zds e,q⟩
def ZoL(h:PT X o (tT X.K c)):PT X o (tT X.K (clm c)):=PT.imp h fun σ H Q z=>by
 obtain ⟨δ,Hs,M,a,δ',g,s,e,q⟩:=z
 exact ⟨δ,Hs,M,a,δ',g,s,Zds e,q⟩
def ZoM(h:PS X st (tS X.K lk c)):PS X st (tS X.K lk (clm c)):=PS.imp h fun E σ H z=>by
 obtain ⟨δ,Hs,M,a,δ',g,s,e,q⟩:=z
 exact ⟨δ,Hs,M,a,δ',g,s,Zds e,q⟩
def Zhx(h:(clm c).bnd f δ=.ok z):c.bnd f δ=.ok z:=by
 obtain ⟨a,δ1,e1,e2⟩:=Zb h
 rw [Zga (Zds e1)]
 exact e2
def ZoN(h:PI X tg it (tI X.K ik c)):PI X tg it (tI X.K ik (clm c)):=PI.imp h fun σ H R z=>by
 obtain ⟨δ,Hs,M,a,is,δ',g,s,e,f,q⟩:=z
 exact ⟨δ,Hs,M,a,is,δ',g,s,Zhx e,f,q⟩
def ZoO(h:HWs c lk):HWs (clm c) lk:=fun δ w δ' e=>h δ w δ' (Zhx e)
def ZdH(K:Fg)(lk:Nat->Bool)(xc:Addr->St->Hp->Prop)(σ:St)(H Hs:Hp)(M:Bud)(x:D)(δ':List D):Prop:=
 ∀(ea:Addr)(σ':St)(H' Hs':Hp)(m M':Bud),Keeps lk σ σ'->Good H' Hs' (fun b=>m b+M' b)->Stp H Hs M H' Hs' (fun b=>m b+M' b)->Rep K H' Hs' (.ref ea) x m->RepS K H' Hs' σ' δ' M'->xc ea σ' H'
def Zar(K:Fg)(lk:Nat->Bool)(E:EndX)(σ:St)(H Hs:Hp)(M:Bud):Rs (Fl×List D)->Prop
 | .ok (f,δ')=>Post K lk E.toEnds σ H Hs M f δ'
 | .exc x δ'=>ZdH K lk E.xc σ H Hs M x δ'
 | .stuck=>False
def tX(K:Fg)(lk:Nat->Bool)(c:M Fl):TX:=fun E σ H=>∃(δ:List D)(Hs:Hp)(M:Bud),Good H Hs M/\RepS K H Hs σ δ M/\Zar K lk E σ H Hs M (c δ)
section
variable{K:Fg}{H' H0 Hs0:Hp}{M M0:Bud}
theorem Good.up(g:Good H Hs M)(k:Same H H'):Good H' Hs M:=⟨fun b o e=>k b o (g.sub b o e),g.le,g.ne,fun b h=>by
 have:=g.has b h
 cases e:H b with
 | none=>exact absurd e this
 | some o=>rw [k b o e];simp⟩
theorem Stp.up(s:Stp H0 Hs0 M0 H Hs M)(k:Same H H'):Stp H0 Hs0 M0 H' Hs M:=⟨fun b o e z=>k b o (s.keep b o e z),s.own,s.grow,s.shr,fun b h=>by
 have:=s.stay b h
 cases e:H b with
 | none=>exact absurd e this
 | some o=>rw [k b o e];simp⟩
theorem ZbC(k:Same H H'):∀ b,H b≠none->H' b=H b:=fun b h=>by
 cases e:H b with
 | none=>exact absurd e h
 | some o=>exact k b o e
def ZdH.ahead{xc:Addr->St->Hp->Prop}{σ:St}{M1:Bud}{x:D}{δ':List D}(k:Keeps lk σ σ1)(g:Good H Hs M)(g1:Good H1 Hs1 M1)(st:Stp H Hs M H1 Hs1 M1)(h:ZdH K lk xc σ H Hs M x δ'):ZdH K lk xc σ1 H1 Hs1 M1 x δ':=
 fun ea σ' H' Hs' m M' k' g' st' rv r=>h ea σ' H' Hs' m M' (k.trans k') g' (by
  have z:=Zo (m1:=fun _=>0) g (g1.re fun b=>by simp) (st.drop (fun b=>by simp) g1.le) g' st'
  exact z.2.1.drop (fun b=>by simp) z.1.le) rv r
theorem Zar.ahead{E:EndX}{σ:St}{M1:Bud}{r:Rs (Fl×List D)}(k:Keeps lk σ σ1)(g:Good H Hs M)(g1:Good H1 Hs1 M1)(st:Stp H Hs M H1 Hs1 M1)(h:Zar K lk E σ H Hs M r):Zar K lk E σ1 H1 Hs1 M1 r:=by
 cases r with
 | ok z=>exact Post.ahead k g g1 st h
 | exc x δ'=>exact ZdH.ahead k g g1 st h
 | stuck=>exact h
end
section
variable{e a b c o:Expr}{st:Stmt}{rest:List Stmt}{i:Nat}{x:Str}
theorem Zjg{c:M Fl}(h:PS X st (tS X.K lk c))(n:NX c):PX X st (tX X.K lk c):=PX.imp (PS.x h) fun E σ H z0=>by
 obtain ⟨δ,Hs,M,g,s,q⟩:=z0
 cases e:c δ with
 | ok z=>rw [e] at q;exact ⟨δ,Hs,M,z.1,z.2,g,s,e,q⟩
 | exc x δ'=>exact absurd e (n _ _ _)
 | stuck=>rw [e] at q;exact q.elim
def ZU{C:Ctx}{s:S}(h:PS X st (tS X.K lk (ex C s))):PX X st (tX X.K lk (ex C (.lf s))):=Zjg (ZoM h) (ZbP _)
def ZE:PXs X [] (tX X.K lk (M.ret .nx)):=PXs.imp ZlB fun E σ H z90=>by obtain ⟨δ,Hs,M,g,s,q⟩:=z90;exact q σ H Hs M (Keeps.refl _ _) g (Stp.refl _ _ _) s
theorem Zx{c r:M Fl}(h1:PX X st (tX X.K lk c))(h2:PXs X rest (tX X.K lk r)):PXs X (st::rest) (tX X.K lk (seqL c r)):=PXs.imp (ZjH h1 h2) fun E σ H z0=>by
 obtain ⟨δ,Hs,M,g,s,q⟩:=z0
 refine ⟨δ,Hs,M,g,s,?_⟩
 unfold seqL T.M.bnd at q
 cases e:c δ with
 | ok z=>
  obtain ⟨f,δ1⟩:=z
  rw [e] at q
  cases f with
  | nx=>exact fun σ' H' Hs' M' k g' st' r=>⟨δ1,Hs',M',g',r,Zar.ahead k g g' st' q⟩
  | bk=>exact q
  | ct=>exact q
  | rt d=>exact q
 | exc x δ'=>rw [e] at q;exact q
 | stuck=>rw [e] at q;exact q
theorem Zmx(n:NX cc)(hc:PT X c (tT X.K cc))(ha:PXs X A (tX X.K lk ca))(hb:PXs X B (tX X.K lk cb)):PX X (.If c A B pos) (tX X.K lk (cc.bnd fun t=>if t then ca else cb)):=PX.imp (ZpD hc ha hb) fun E σ H z0=>by
 obtain ⟨δ,Hs,M,g,s,q⟩:=z0
 unfold T.M.bnd at q
 cases e:cc δ with
 | ok z=>
  obtain ⟨t,δ1⟩:=z
  rw [e] at q
  refine ⟨δ,Hs,M,t,δ1,g,s,e,fun H' Hs' M' g' st' s'=>?_⟩
  cases t with
  | true=>exact ⟨δ1,Hs',M',g',s',Zar.ahead (Keeps.refl _ _) g g' st' q⟩
  | false=>exact ⟨δ1,Hs',M',g',s',Zar.ahead (Keeps.refl _ _) g g' st' q⟩
 | exc x δ'=>exact absurd e (n _ _ _)
 | stuck=>rw [e] at q;exact q.elim
def Zdt(hc:PT X c (tT X.K (evb C ce).2))(ha:PXs X A (tX X.K lk (exs C sa)))(hb:PXs X B (tX X.K lk (exs C sb))):PX X (.If c A B pos) (tX X.K lk (ex C (.ifX ce sa sb))):=Zmx (ZbP _) (ZoL hc) ha hb
end
section
theorem ZbQ:∀(h:List (Nat×D))(δ:List D),∃ δ',Z8 h δ=.ok ((),δ')
 | [],δ=>⟨δ,rfl⟩
 | (i,d)::r,δ=>ZbQ r (δ.set i d)
theorem Zkn(F:Fr0 X X.A)(hx:∀ e s,¬ X.xe e s)(hc:X.calm=true)(hl:LkLe lk lk')(hw:HWs cs lk')
 (hi:PI X tg iter (tI X.K ik cs)) (hg:PG X tg (gT X.K tgt)) (hb:PXs X body (tX X.K lk' cb)) (hs:∀ x,foldedSetIterable iter X.env x=pure x:=by intro _;rfl):
 PX X (.For tg iter body [] pos) (tX X.K lk ((clm cs).bnd fun ps=>(Zr ps).bnd fun h=>(lift (itW ik h.1)).bnd fun items δ=>finB h.2 (forL (asgT lk' tgt) cb items δ))):=by
 have nx:=ZbP cs
 replace hw:=ZoO hw
 replace hi:=ZoN hi
 generalize clm cs=cs at nx hw hi ⊢
 refine PX.imp (Zn0 F hx hc hi hg hb hs) fun E σ H z0=>?_
 obtain ⟨δ,Hs,M,g,s,q⟩:=z0
 have nx2:NX (cs.bnd Zr):=ZcD nx fun p=>Zft p
 have hbb:(cs.bnd fun ps=>(Zr ps).bnd fun h=>(lift (itW ik h.1)).bnd fun items δ=>finB h.2 (forL (asgT lk' tgt) cb items δ)) δ=((cs.bnd Zr).bnd fun h=>(lift (itW ik h.1)).bnd fun items δ=>finB h.2 (forL (asgT lk' tgt) cb items δ)) δ:=by
  unfold T.M.bnd
  cases cs δ<;>rfl
 rw [hbb] at q
 cases e12:(cs.bnd Zr) δ with
 | exc x δ'=>exact absurd e12 (nx2 _ _ _)
 | stuck=>unfold T.M.bnd at e12 q;rw [e12] at q;exact q.elim
 | ok z=>
  obtain ⟨hh,δ3⟩:=z
  have q:Zar X.K lk E σ H Hs M (((lift (itW ik hh.1)).bnd fun items δ=>finB hh.2 (forL (asgT lk' tgt) cb items δ)) δ3):=by
   have:((cs.bnd Zr).bnd fun h=>(lift (itW ik h.1)).bnd fun items δ=>finB h.2 (forL (asgT lk' tgt) cb items δ)) δ=((lift (itW ik hh.1)).bnd fun items δ=>finB hh.2 (forL (asgT lk' tgt) cb items δ)) δ3:=by
    show T.M.bnd (cs.bnd Zr) _ δ=_
    unfold T.M.bnd at e12 ⊢
    rw [e12]
   rw [this] at q
   exact q
  cases e3':itW ik hh.1 with
  | none=>rw [e3'] at q;exact q.elim
  | some items=>
   rw [e3'] at q
   have q:Zar X.K lk E σ H Hs M (finB hh.2 (forL (asgT lk' tgt) cb items δ3)):=q
   have locked:=hw _ _ _ e12
   refine ⟨δ,Hs,M,hh,items,δ3,g,s,e12,e3',fun J Pp H1 Hs1 B M1 g1 st1 s1 held wk pp=>?_⟩
   have kl:∀{σ1 σ2:St},Keeps lk' σ1 σ2->Keeps lk σ1 σ2:=fun k i h=>k i (hl i h)
   refine ⟨fun i m σ2 H2=>m=items.length - i/\i<=items.length/\Keeps lk' σ σ2/\∃(δ2:List D)(Hs2:Hp)(M2:Bud),Good H2 Hs2 (fun b=>B b+M2 b)/\Stp H Hs M H2 Hs2 (fun b=>B b+M2 b)/\RepS X.K H2 Hs2 σ2 δ2 M2/\Held X.K H2 Hs2 σ2 hh.2 B/\Pp H2 Hs2/\Zar X.K lk E σ H Hs M (finB hh.2 (forL (asgT lk' tgt) cb (items.drop i) δ2)),
    ⟨items.length,by simp,zero_le _,Keeps.refl _ _,δ3,Hs1,M1,g1,st1,s1,held,pp,by rw [drop_zero];exact q⟩,?_⟩
   rintro i m σ2 H2 ⟨rfl,hle,k2,δ2,Hs2,M2,g2,st2,s2,held2,pp2,q7⟩
   by_cases hlt:i < items.length
   . right
     have hd:items[i]?=some (items[i]'(by omega)):=List.getElem?_eq_getElem (by omega)
     have hdrop:items.drop i=items[i]'(by omega)::items.drop (i+1):=List.drop_eq_getElem_cons (by omega)
     rw [hdrop,ZbZ] at q7
     refine ⟨wk.go g2.sub pp2 hlt,fun σ3 H3=>Keeps lk' σ σ3/\∃(δ2:List D)(Hs2:Hp)(M2:Bud),Good H3 Hs2 (fun b=>B b+M2 b)/\Stp H Hs M H3 Hs2 (fun b=>B b+M2 b)/\RepS X.K H3 Hs2 σ3 δ2 M2/\Held X.K H3 Hs2 σ3 hh.2 B/\Pp H3 Hs2/\Zar X.K lk E σ H Hs M (finB hh.2 (forL (asgT lk' tgt) cb (items.drop (i+1)) δ2)),
      fun σ3 H3 z90=>by obtain ⟨k3,z⟩:=z90;exact ⟨items.length - (i+1),by omega,rfl,hlt,k3,z⟩,fun x H' y=>?_⟩
     obtain ⟨Hs3,gr,rv⟩:=wk.yld g2.sub pp2 hd y
     obtain ⟨sm,fr,_⟩:=gr.same g2.sub
     have pp2:=wk.stay pp2 sm fun b _ n=>fr b n
     have s2:=RepS.frame sm (fun b _ n=>fr b n) s2
     have held2:=held2.frame sm fun b _ n=>fr b n
     have st2:=gr.stp g2 st2
     have g2:=gr.good g2
     clear gr sm fr y
     generalize Hs3=Hs2 at *
     cases e8:asgT lk' tgt (items[i]'(by omega)) δ2 with
     | exc x δ'=>exact absurd e8 (Zmw _ _ _ _ _ _)
     | stuck=>rw [show ((asgT lk' tgt (items[i]'(by omega))).bnd fun _=>cb) δ2=.stuck by show T.M.bnd _ _ δ2=_;unfold T.M.bnd;rw [e8]] at q7;exact q7.elim
     | ok z=>
      obtain ⟨u1,δ5'⟩:=z
      rw [show ((asgT lk' tgt (items[i]'(by omega))).bnd fun _=>cb) δ2=cb δ5' by show T.M.bnd _ _ δ2=_;unfold T.M.bnd;rw [e8]] at q7
      refine ZeM (Hs:=Hs2) g2.sub e8 rv s2 fun σ3 k3 s3=>?_
      refine ⟨δ5',Hs2,M2,g2.re,s3,?_⟩
      have held3:Held X.K H' Hs2 σ3 hh.2 B:=held2.keeps k3 locked
      have nxt:∀{σ4:St}{H4 Hs4:Hp}{M4:Bud},Keeps lk' σ3 σ4->Good H4 Hs4 M4->Stp H' Hs2 M2 H4 Hs4 M4->
       Keeps lk' σ σ4/\Good H4 Hs4 (fun b=>B b+M4 b)/\Stp H Hs M H4 Hs4 (fun b=>B b+M4 b)/\Held X.K H4 Hs4 σ4 hh.2 B/\Pp H4 Hs4:=fun{σ4 H4 Hs4 M4} k4 g4 st4=>by
       obtain ⟨G,S,kk⟩:=Zo g g2 st2 g4 st4
       exact ⟨k2.trans (k3.trans k4),G,S,(held3.keeps k4 locked).frame st4.grow kk,wk.stay pp2 st4.grow kk⟩
      cases e10:cb δ5' with
      | stuck=>rw [e10] at q7;exact q7.elim
      | exc x δ6=>
       rw [e10] at q7
       obtain ⟨δ7,e11⟩:=ZbQ hh.2 δ6
       have q8:ZdH X.K lk E.xc σ H Hs M x δ7:=by
        have:Zar X.K lk E σ H Hs M (match Z8 hh.2 δ6 with|.ok (_,δ')=>.exc x δ'|_=>.stuck):=q7
        rw [e11] at this
        exact this
       refine fun ea σ4 H4 Hs4 m4 M4 k4 g4 st4 rd s4=>?_
       obtain ⟨a1,a2,a3,a4,a6⟩:=nxt k4 g4 st4
       exact q8 ea σ4 H4 Hs4 m4 (fun b=>B b+M4 b) (kl a1) (a2.re fun b=>by (try dsimp only);omega) (a3.drop (fun b=>by (try dsimp only);omega) a2.le) rd (ZaO e11 a4 s4)
      | ok z=>
       obtain ⟨fl,δ6⟩:=z
       rw [e10] at q7
       cases fl with
       | nx=>
        refine fun σ4 H4 Hs4 M4 k4 g4 st4 s4=>?_
        obtain ⟨a1,a2,a3,a4,a6⟩:=nxt k4 g4 st4
        exact ⟨a1,δ6,Hs4,M4,a2,a3,s4,a4,a6,q7⟩
       | ct=>
        refine fun σ4 H4 Hs4 M4 k4 g4 st4 s4=>?_
        obtain ⟨a1,a2,a3,a4,a6⟩:=nxt k4 g4 st4
        exact ⟨a1,δ6,Hs4,M4,a2,a3,s4,a4,a6,q7⟩
       | bk=>
        obtain ⟨δ7,e11⟩:=ZbQ hh.2 δ6
        have q8:Post X.K lk E.toEnds σ H Hs M .nx δ7:=by
         have:Zar X.K lk E σ H Hs M (((Z8 hh.2).bnd fun _=>T.M.ret Fl.nx) δ6):=q7
         rw [show ((Z8 hh.2).bnd fun _=>T.M.ret Fl.nx) δ6=.ok (.nx,δ7) by show T.M.bnd _ _ δ6=_;unfold T.M.bnd;rw [e11];rfl] at this
         exact this
        refine fun σ4 H4 Hs4 M4 k4 g4 st4 s4=>?_
        obtain ⟨a1,a2,a3,a4,a6⟩:=nxt k4 g4 st4
        exact q8 σ4 H4 Hs4 _ (kl a1) a2 a3 (ZaO e11 a4 s4)
       | rt d=>
        obtain ⟨δ7,e11⟩:=ZbQ hh.2 δ6
        have q8:Post X.K lk E.toEnds σ H Hs M (.rt d) δ7:=by
         have:Zar X.K lk E σ H Hs M (((Z8 hh.2).bnd fun _=>T.M.ret (Fl.rt d)) δ6):=q7
         rw [show ((Z8 hh.2).bnd fun _=>T.M.ret (Fl.rt d)) δ6=.ok (.rt d,δ7) by show T.M.bnd _ _ δ6=_;unfold T.M.bnd;rw [e11];rfl] at this
         exact this
        refine fun v σ4 H4 Hs4 m4 M4 k4 g4 st4 rd s4=>?_
        obtain ⟨a1,a2,a3,a4,a6⟩:=nxt k4 g4 st4
        exact q8 v σ4 H4 Hs4 m4 (fun b=>B b+M4 b) (kl a1) (a2.re fun b=>by (try dsimp only);omega) (a3.drop (fun b=>by (try dsimp only);omega) a2.le) rd (ZaO e11 a4 s4)
   . left
     have hi:i=items.length:=by omega
     have hd0:items.drop i=[]:=by rw [hi];simp
     rw [hd0,ZqG] at q7
     obtain ⟨δ7,e11⟩:=ZbQ hh.2 δ2
     have q8:Post X.K lk E.toEnds σ H Hs M .nx δ7:=by
      have:Zar X.K lk E σ H Hs M (((Z8 hh.2).bnd fun _=>T.M.ret Fl.nx) δ2):=q7
      rw [show ((Z8 hh.2).bnd fun _=>T.M.ret Fl.nx) δ2=.ok (.nx,δ7) by show T.M.bnd _ _ δ2=_;unfold T.M.bnd;rw [e11];rfl] at this
      exact this
     exact ⟨wk.stop g2.sub pp2 (by omega),q8 σ2 H2 Hs2 _ (kl k2) g2 st2 (ZaO e11 held2 s2)⟩
end
def spX(K:Fg)(F:List D->Rs (D×List D)):Sp:=fun vs H Q E=>∃(ds:List D)(Hs:Hp)(m:Bud),Good H Hs m/\RepL K H Hs vs ds m/\match F ds with
 | .ok (d,ds')=>∀(v:V)(H' Hs':Hp)(m1 m':Bud),Good H' Hs' (fun b=>m1 b+m' b)->Stp H Hs m H' Hs' (fun b=>m1 b+m' b)->Rep K H' Hs' v d m1->RepL K H' Hs' vs ds' m'->Q v H'
 | .exc x ds'=>∀(ea:Addr)(H' Hs':Hp)(m1 m':Bud),Good H' Hs' (fun b=>m1 b+m' b)->Stp H Hs m H' Hs' (fun b=>m1 b+m' b)->Rep K H' Hs' (.ref ea) x m1->RepL K H' Hs' vs ds' m'->E (.ref ea) none H'
 | .stuck=>False
section
def ZeU(F:Fun K x qual st f fd)(Sc:FnScope N ps (Zl st))(hn:ps.length=n)(hN:N.length=nN)
 (hb:∀(cdv:Value)(A:Around)(outer:List Env)(s:Shared)(H:Hp)(E:XK),Fr0 (cxOf CX0 P w K mg base N qual (Zl st) f cdv A outer s H E).nox (A.deeper (PyProof.Rows.envOfC qual (Zl st) s.heap.objs.size f cdv))->Room k (A.deeper (PyProof.Rows.envOfC qual (Zl st) s.heap.objs.size f cdv))->
  PXs (cxOf CX0 P w K mg base N qual (Zl st) f cdv A outer s H E).nox (ZD st) (tX K (fun i=>decide (i < n)) (exs { C with lock:=fun i=>decide (i < n) } body))):
 FnOk P w K mg base (CXx P w) (k+1) f fd ps (spX K (Zh C n nN body)):=by
 subst hn hN
 obtain ⟨oc,od,kV,doc,pm,an,cdv,ct,osl,rfl,lk,hcd⟩:=F.ex
 refine Zn1 lk hcd Sc (fun vs H Q E h=>?_) fun A outer s H vs Q E hr h=>⟨_,fun hfr=>hb cdv A outer s H E ⟨rfl,rfl,Around.frames_deeper hfr⟩ hr,?_⟩
 . obtain ⟨ds,Hs,m,g,r,q⟩:=h
   unfold Zh at q
   rw [r.len]
   split at q
   . rename_i hl
     split at hl
     . assumption
     . cases hl
   . rename_i hl
     split at hl
     . assumption
     . cases hl
   . exact q.elim
 . obtain ⟨ds,Hs,m,g,r,q⟩:=h
   unfold Zh at q
   by_cases hl:ds.length=ps.length
   . rw [if_pos hl] at q
     have hv:vs.length=ps.length:=by rw [r.len];exact hl
     have hr0:=Zfr (N:=N) r
     rw [hl] at hr0
     refine ⟨_,Hs,m,g,hr0,?_⟩
     have back:∀{δ':List D}{σ':St}{H' Hs':Hp}{M':Bud},Keeps (fun i=>decide (i < ps.length)) (L2.start N vs) σ'->RepS K H' Hs' σ' δ' M'->RepL K H' Hs' vs (δ'.take ps.length) M':=fun k' s'=>by
      have z:=s'.take ps.length
      rw [Ze2 hv k'] at z
      exact RepS.toL z
     cases he:exs { C with lock:=fun i=>decide (i < ps.length) } body (ds++replicate (N.length - ps.length) .hole) with
     | ok z=>
      obtain ⟨fl,δ'⟩:=z
      rw [he] at q
      cases fl with
      | nx=>exact fun σ' H' Hs' M' k' g' st' s'=>q .non H' Hs' (fun _=>0) M' (Za4 g') (st'.drop (fun b=>by simp) g'.le) (.sc _ _) (back k' s')
      | rt dd=>exact fun v σ' H' Hs' m1 M' k' g' st' rv s'=>q v H' Hs' m1 M' g' st' rv (back k' s')
      | bk=>exact q.elim
      | ct=>exact q.elim
     | exc x y=>
      rw [he] at q
      exact fun ea σ' H' Hs' m1 M' k' g' st' rv s'=>q ea H' Hs' m1 M' g' st' rv (back k' s')
     | stuck=>rw [he] at q;exact q.elim
   . rw [if_neg hl] at q
     exact q.elim
theorem FnOk.calm(F:FnOk P w K mg base (CXx P w) k f fd ps (spX K R)):FnOk P w K mg base CX0 k f fd ps (spF K R):=by
 have im:∀{vs:List V}{H:Hp}{Q:VK}{E:XK},spF K R vs H Q E->spX K R vs H Q E0:=fun{vs H Q E} h=>by
  obtain ⟨ds,Hs,m,d,ds',g,r,e,q⟩:=h
  refine ⟨ds,Hs,m,g,r,?_⟩
  rw [e]
  exact q
 refine ⟨fun vs H Q E h=>F.len vs H Q E0 (im h),fun A outer s H args us vs Q E hr e0 hb hv hs=>codeAny_mono (F.run A outer s H args us vs Q E0 hr e0 hb hv (im hs)) fun r s' h=>?_⟩
 cases r with
 | error e=>
  obtain ⟨ea,H',rfl,os,bare,un,hok,fl,q⟩:=h
  exact q H' (Same.refl _)
 | ok fl=>cases fl<;>exact h
end
structure FnAtX(P:Program)(w:World)(K:Fg)(mg:SO)(base:Heap)(x:Str)(k:Nat)(ps:List Str)(sp:Sp):Prop where
 ex:∃(f:Addr)(fd:FuncData),FnOk P w K mg base (CXx P w) k f fd ps sp/\mg x=some (.ref f)/\keepIn K (.ref f)=true/\Binds K fd ps []
def FnAtX.calm(G:FnAtX P w K mg base x k ps (spX K R)):FnAt P w K mg base x k ps (spF K R):=by
 obtain ⟨f,fd,F,h⟩:=G.ex
 exact ⟨f,fd,FnOk.calm F,h⟩
noncomputable def tMX(K:Fg)(c:M D):TEX:=fun σ H Q Ex=>∃(δ:List D)(Hs:Hp)(M:Bud),Good H Hs M/\RepS K H Hs σ δ M/\match c δ with
 | .ok (d,δ')=>∀(v:V)(H' Hs':Hp)(m M':Bud),Good H' Hs' (fun b=>m b+M' b)->Stp H Hs M H' Hs' (fun b=>m b+M' b)->Rep K H' Hs' v d m->RepS K H' Hs' σ δ' M'->Q v H'
 | .exc x δ'=>∀(ea:Addr)(H' Hs':Hp)(m M':Bud),Good H' Hs' (fun b=>m b+M' b)->Stp H Hs M H' Hs' (fun b=>m b+M' b)->Rep K H' Hs' (.ref ea) x m->RepS K H' Hs' σ δ' M'->Ex ea H'
 | .stuck=>False
theorem ZaX:∀(ps:List Op)(ds:List D)(δ:List D),∃ δ',Z0 ps ds δ=.ok ((),δ')
 | [],ds,δ=>⟨δ,by unfold Z0;rfl⟩
 | _::_,[],δ=>⟨δ,by unfold Z0;rfl⟩
 | p::ps,d::ds,δ=>by
  have:∃ δ1,Zav p d δ=.ok ((),δ1):=by
   cases p with
   | tmp d'=>exact ⟨δ,rfl⟩
   | late i=>
    unfold Zav
    dsimp only
    split
    . exact ⟨_,rfl⟩
    . exact ⟨_,rfl⟩
  obtain ⟨δ1,e1⟩:=this
  obtain ⟨δ2,e2⟩:=ZaX ps ds δ1
  refine ⟨δ2,?_⟩
  show T.M.bnd _ _ δ=_
  unfold T.M.bnd
  rw [e1]
  exact e2
theorem Zfu{K:Fg}{σ:St}{M m1 M1:Bud}{δ1:List D}{ps:List Op}{vs:List V}{Q:VK}{Ex:Addr->Hp->Prop}(g:Good H Hs M)(g1:Good H1 Hs1 (fun b=>m1 b+M1 b))(st1:Stp H Hs M H1 Hs1 (fun b=>m1 b+M1 b))
 (r1:Za3 K H1 Hs1 σ vs ps m1) (s1:RepS K H1 Hs1 σ δ1 M1)
 (q:match ZbE fi ps δ1 with
  | .ok (d,δ')=>∀(v:V)(H' Hs':Hp)(m M':Bud),Good H' Hs' (fun b=>m b+M' b)->Stp H Hs M H' Hs' (fun b=>m b+M' b)->Rep K H' Hs' v d m->RepS K H' Hs' σ δ' M'->Q v H'
  | .exc x δ'=>∀(ea:Addr)(H' Hs':Hp)(m M':Bud),Good H' Hs' (fun b=>m b+M' b)->Stp H Hs M H' Hs' (fun b=>m b+M' b)->Rep K H' Hs' (.ref ea) x m->RepS K H' Hs' σ δ' M'->Ex ea H'
  | .stuck=>False):spX K fi.run vs H1 Q (fun v _ H'=>∃ ea,v=.ref ea/\Ex ea H'):=by
 unfold ZbE T.M.bnd at q
 cases e2:ZJ fi.lend ps δ1 with
 | exc x y=>exact absurd e2 (Zcx _ _ _ _ _)
 | stuck=>rw [e2] at q;exact q.elim
 | ok z=>
  obtain ⟨ds,δ2⟩:=z
  rw [e2] at q
  dsimp only at q
  obtain ⟨Hs2,m2,M2,g2,st2,q2,s2⟩:=Zb8 (B:=fun _=>0) (g1.re fun b=>by simp) s1 r1 e2
  have z0:=Zo (m1:=fun _=>0) g (g1.re fun b=>by simp) (st1.drop (fun b=>by simp) g1.le) (g2.re fun b=>by simp) (M1:=fun b=>m1 b+M1 b) (M2:=fun b=>m2 b+M2 b) (by
   have:=st2
   exact ⟨fun b o h z=>this.keep b o h (by simpa using z),fun b h=>by have:=this.own b (by simpa using h);simpa using this,this.grow,fun b h h'=>by have:=this.shr b h h';simpa using this,this.stay⟩)
  have G2:Good H1 Hs2 (fun b=>M2 b+m2 b):=g2.re fun b=>by simp;omega
  have S2:Stp H Hs M H1 Hs2 (fun b=>M2 b+m2 b):=z0.2.1.drop (fun b=>by simp;omega) z0.1.le
  refine ⟨ds,Hs2,m2,G2.re fun b=>by omega,q2,?_⟩
  cases hF:fi.run ds with
  | stuck=>rw [hF] at q;exact q.elim
  | ok r=>
   obtain ⟨d',ds'⟩:=r
   rw [hF] at q
   obtain ⟨δ3,e3⟩:=ZaX ps ds' δ2
   dsimp only at q
   rw [e3] at q
   intro v H3 Hs3 n1 n2 g3 st3 r3 r4
   obtain ⟨G,S,k⟩:=Zo g G2 S2 g3 st3
   have s3:=RepS.frame st3.grow k s2
   have fin:=ZaN s3 r4 (lates r1) e3
   exact q v H3 Hs3 n1 (fun b=>n2 b+M2 b) (G.re fun b=>by (try dsimp only);omega) (S.drop (fun b=>by (try dsimp only);omega) G.le) r3 fin
  | exc x ds'=>
   rw [hF] at q
   obtain ⟨δ3,e3⟩:=ZaX ps ds' δ2
   dsimp only at q
   rw [e3] at q
   intro ea H3 Hs3 n1 n2 g3 st3 r3 r4
   obtain ⟨G,S,k⟩:=Zo g G2 S2 g3 st3
   have s3:=RepS.frame st3.grow k s2
   have fin:=ZaN s3 r4 (lates r1) e3
   exact ⟨ea,rfl,q ea H3 Hs3 n1 (fun b=>n2 b+M2 b) (G.re fun b=>by (try dsimp only);omega) (S.drop (fun b=>by (try dsimp only);omega) G.le) r3 fin⟩
section
variable{a e c:Expr}{es:List Expr}{p:Pos}{x:Str}{n:Nat}{ps:List Str}{cs:M (List Op)}
theorem ZoP(G:FnAtX X.prog X.w X.K X.mg X.base x j ps (spX X.K fi.run))(hr:Room n X.A)(ha:PA X (e::es) (tPs X.K cs))(hj:autoParam (j<=n) Q7)(hz:autoParam (glOk X.env.scope x=true) Q8)(he:autoParam (SE X e es) Q9)(hpl:autoParam (SFx X pos es) Q9):
 PEx X (.Call (.Name x p) (e::es) [] pos) (tMX X.K ((clm cs).bnd fun ps=>ZbE fi ps)):=by
 have nx:=ZbP cs
 replace ha:=Ze4 ha
 generalize clm cs=cs at nx ha ⊢
 obtain ⟨f,fd,F,hm,hk,hb⟩:=G.ex
 refine PEx.imp (ZjI F (hr.mono hj) (glk hz) hm hk hb .nil ha (dbk hz) he hpl) fun σ H Q Ex z0=>?_
 obtain ⟨δ,Hs,M,g,s,q⟩:=z0
 unfold T.M.bnd at q
 cases e1:cs δ with
 | exc x y=>exact absurd e1 (nx _ _ _)
 | stuck=>rw [e1] at q;exact q.elim
 | ok z=>
  obtain ⟨ps,δ1⟩:=z
  rw [e1] at q
  refine ⟨δ,Hs,M,ps,δ1,g,s,e1,fun vs H1 Hs1 m1 M1 g1 st1 r1 s1=>?_⟩
  show spX X.K fi.run (vs++[]) H1 Q _
  rw [append_nil]
  exact Zfu g g1 st1 r1 s1 q
end
section
theorem Zdu(he:PEx X e (tMX X.K c))(hs:autoParam (swapsWith e none pos.line X.env=pure false) Q9):PX X (.Expr e pos) (tX X.K lk (c.bnd fun _=>M.ret .nx)):=PX.imp (ZlC he hs) fun E σ H z0=>by
 obtain ⟨δ,Hs,M,g,s,q⟩:=z0
 refine ⟨δ,Hs,M,g,s,?_⟩
 unfold T.M.bnd at q
 cases e1:c δ with
 | stuck=>rw [e1] at q;exact q.elim
 | exc x δ'=>rw [e1] at q;exact fun ea H' Hs' m M' g' st' r s'=>q ea σ H' Hs' m M' (Keeps.refl _ _) g' st' r s'
 | ok z=>
  obtain ⟨d,δ1⟩:=z
  rw [e1] at q
  exact fun v H' Hs' m M' g' st' r s'=>q σ H' Hs' M' (Keeps.refl _ _) g'.re (st'.drop (fun b=>by omega) g'.le) s'
end
section
variable{e:Expr}{es:List Expr}{p:Pos}{i n:Nat}{x:Str}{ns:List Str}{C f:Addr}{ps:List Str}{cs:M (List Op)}
def Zjh{K:Fg}{H'':Hp}{M:Bud}{σ:St}{δ:List D}{a:Addr}{o:HO}(ha:H a=none)(g:Good H Hs M)(s:RepS K H Hs σ δ M)(k:Same (upd H a o) H''):
 Good H'' Hs (fun b=>one a b+M b)/\Stp H Hs M H'' Hs (fun b=>one a b+M b)/\RepS K H'' Hs σ δ M/\H'' a=some o/\Same H H'':=by
 have k1:Same H H'':=fun b u e=>k b u (by rw [Zj (ZN e ha)];exact e)
 have ka:H'' a=some o:=k a o Zk
 have m0:M a=0:=by
  have:=g.le a
  by_cases q:M a=1
  . exact absurd ha (g.has a q)
  . omega
 have hs0:Hs a=none:=by
  cases e:Hs a with
  | none=>rfl
  | some u=>rw [g.sub a u e] at ha;cases ha
 have cs1:∀ b,one a b+M b=1->b=a\/M b=1:=fun b h=>by
  by_cases q:b=a
  . exact .inl q
  . simp only [one,if_neg q] at h;exact .inr (by omega)
 refine ⟨⟨fun b u e=>k1 b u (g.sub b u e),fun b=>?_,fun b h=>?_,fun b h=>?_⟩,⟨fun b u e _=>k1 b u e,fun b h=>?_,Same.refl _,fun b h h'=>absurd h h',fun b h=>?_⟩,s.frame (Same.refl _) fun b _ hn=>ZbC k1 b hn,ka,k1⟩
 . have:=g.le b
   unfold one
   split
   . rename_i q;subst q;omega
   . omega
 . rcases cs1 b h with q|q
   . rw [q];exact hs0
   . exact g.ne b q
 . rcases cs1 b h with q|q
   . rw [q,ka];simp
   . rw [ZbC k1 b (g.has b q)];exact g.has b q
 . rcases cs1 b h with q|q
   . exact .inr (by rw [q];exact ha)
   . exact .inl q
 . rw [ZbC k1 b h];exact h
def Zig(hc:X.calm=true)(xn:XN X.K ns C)(hi:findIn X.K (.ref C) (Str.ofString "__init__")=some (some (.builtin "ValueError.__init__")))(hg:Gl X x)(hm:X.mg x=some (.ref C))(hdb:autoParam ((x == ("__debug__":Str))=false) Q7):
 PX X (.Raise (some (.Call (.Name x p) [] [] pos')) none pos) (tX X.K lk (Zbc (.node (.exc ns true []) true []))):=
 PX.imp (ZfL hc (ZlF xn.toXC hi hg hm hdb)) fun E σ H z0=>by
  obtain ⟨δ,Hs,M,g,s,q⟩:=z0
  intro a ha
  refine ⟨a,C,none,[],rfl,xn.toXC,Zk,fun H'' k=>?_⟩
  rw [ZgU] at k
  obtain ⟨G,S,R,ka,_⟩:=Zjh ha g s k
  exact q a σ H'' Hs (one a) M (Keeps.refl _ _) G S (.own (vs:=[]) (m':=fun _=>0) ⟨rfl,C,none,xn,ka⟩ (.nil _) fun b=>by simp) R
theorem Zmy{K:Fg}{σ:St}{Q:VK}(xn:XN K ns C)(nx:NX cs){E:EndX}(h:∃ (δ:List D) (Hs:Hp) (M:Bud),Good H Hs M/\RepS K H Hs σ δ M/\Zar K lk E σ H Hs M (((cs.bnd fun ps=>newX ns fi ps).bnd Zbc) δ)):
 tPs K cs σ H fun vs H1=>vs.length<=sizeLine/\∀ x,H1 x=none->spF K fi.run (.ref x::vs) (upd H1 x (.exc C none true [])) (fun v H2=>v=.non/\∃ a C dx fs,V.ref x=.ref a/\XC K C/\H2 a=some (.exc C dx true fs)/\∀ H'',Same (upd H2 a (.exc C dx false fs)) H''->E.xc a σ H'') E0:=by
 obtain ⟨δ,Hs,M,g,s,q⟩:=h
 unfold T.M.bnd at q
 cases e1:cs δ with
 | exc x y=>exact absurd e1 (nx _ _ _)
 | stuck=>rw [e1] at q;exact q.elim
 | ok z=>
  obtain ⟨ps,δ1⟩:=z
  rw [e1] at q
  dsimp only at q
  unfold newX at q
  by_cases hlen:1000 < ps.length
  . rw [if_pos hlen] at q;exact q.elim
  rw [if_neg hlen] at q
  unfold T.M.bnd at q
  refine ⟨δ,Hs,M,ps,δ1,g,s,e1,fun vs H1 Hs1 m1 M1 g1 st1 r1 s1=>?_⟩
  have hlv:vs.length=ps.length:=by
   have:∀{vs:List V}{ps:List Op}{m:Bud},Za3 K H1 Hs1 σ vs ps m->vs.length=ps.length:=by
    intro vs
    induction vs with
    | nil=>intro ps m h;cases ps with
     | nil=>rfl
     | cons _ _=>exact h.elim
    | cons v vs ih=>intro ps m h;cases ps with
     | nil=>exact h.elim
     | cons p ps=>obtain ⟨a,b,c,d,_⟩:=h;rw [length_cons,length_cons,ih d]
   exact this r1
  refine ⟨by rw [hlv,sizeLine_eq];omega,fun x hx=>?_⟩
  cases e2:ZJ fi.lend ps δ1 with
  | exc x y=>exact absurd e2 (Zcx _ _ _ _ _)
  | stuck=>rw [e2] at q;exact q.elim
  | ok z=>
   obtain ⟨ds,δ2⟩:=z
   rw [e2] at q
   dsimp only at q
   obtain ⟨Hs2,m2,M2,g2,st2,q2,s2⟩:=Zb8 (B:=fun _=>0) (g1.re fun b=>by simp) s1 r1 e2
   have z0:=Zo (m1:=fun _=>0) g (g1.re fun b=>by simp) (st1.drop (fun b=>by simp) g1.le) (g2.re fun b=>by simp) (M1:=fun b=>m1 b+M1 b) (M2:=fun b=>m2 b+M2 b) (by
    have:=st2
    exact ⟨fun b o h z=>this.keep b o h (by simpa using z),fun b h=>by have:=this.own b (by simpa using h);simpa using this,this.grow,fun b h h'=>by have:=this.shr b h h';simpa using this,this.stay⟩)
   have G2:Good H1 Hs2 (fun b=>m2 b+M2 b):=g2.re fun b=>by simp
   have S2:Stp H Hs M H1 Hs2 (fun b=>m2 b+M2 b):=z0.2.1.drop (fun b=>by simp) z0.1.le
   have full:RepS K H1 Hs2 (vs.map some++σ) (ds++δ2) (fun b=>m2 b+M2 b):=Sep.append (RepL.slots q2) s2
   obtain ⟨G3,S3,R3,ka,k1⟩:=Zjh (o:=.exc C none true []) hx G2 full (Same.refl _)
   have q3:=q2.frame (H':=upd H1 x (.exc C none true [])) (Same.refl _) fun b _ hn=>ZbC k1 b hn
   have s3:=s2.frame (H':=upd H1 x (.exc C none true [])) (Same.refl _) fun b _ hn=>ZbC k1 b hn
   have S3':=Zo (m1:=fun _=>0) g (G2.re fun b=>by simp) (S2.drop (fun b=>by simp) G2.le) G3 S3
   have SA:Stp H Hs M (upd H1 x (.exc C none true [])) Hs2 (fun b=>M2 b+(one x b+m2 b)):=S3'.2.1.drop (fun b=>by simp;omega) S3'.1.le
   have GA:Good (upd H1 x (.exc C none true [])) Hs2 (fun b=>M2 b+(one x b+m2 b)):=G3.re fun b=>by omega
   cases hF:fi.run (.node (.exc ns true []) true []::ds) with
   | exc x y=>rw [hF] at q;exact q.elim
   | stuck=>rw [hF] at q;exact q.elim
   | ok r=>
    obtain ⟨d',ds'⟩:=r
    rw [hF] at q
    match d',ds',q,hF with
    | .sc .non,dI::ds',q,hF=>
     dsimp only at q
     obtain ⟨δ3,e3⟩:=ZaX ps ds' δ2
     rw [e3] at q
     have q:Zar K lk E σ H Hs M (Zbc dI δ3):=q
     refine ⟨.node (.exc ns true []) true []::ds,Hs2,fun b=>one x b+m2 b,.sc .non,dI::ds',GA.re fun b=>by omega,.cons (m1:=one x) (m2:=m2) (.own (vs:=[]) (m':=fun _=>0) ⟨rfl,C,none,xn,ka⟩ (.nil _) fun b=>by simp) q3 fun b=>Nat.le_refl _,hF,fun v H4 Hs4 n1 n2 g4 st4 r4 r5=>?_⟩
     cases r4
     refine ⟨rfl,?_⟩
     obtain ⟨G,S,kk⟩:=Zo g GA SA g4 st4
     have s4:=RepS.frame st4.grow kk s3
     cases r5 with
     | @cons _ _ _ _ n3 n4 _ rI rd l5=>
      have fin:=ZaN s4 rd (lates r1) e3
      unfold Zbc at q
      split at q
      . rename_i nsI fsI dsI hqI
        cases rI with
        | @own a _ vsI _ _ mI n r lI=>
         obtain ⟨hl,C',dx',xn',hH⟩:=n
         refine ⟨x,C',dx',_,rfl,xn'.toXC,hH,fun H'' k=>?_⟩
         have hx4:H4 x≠none:=by rw [hH];simp
         have k1':∀ b,b≠x->H4 b≠none->H'' b=H4 b:=fun b hb hn=>by
          have:=ZbC k b (by rw [Zj hb];exact hn)
          rw [this,Zj hb]
         have kx:H'' x=some (.exc C' dx' false (fsI.zip vsI)):=k x _ Zk
         have one_x:one x x=1:=by simp [one]
         have le5:∀ b,(one x b+mI b)+(n4 b+M2 b)<=n1 b+(n2 b)+M2 b:=fun b=>by have:=lI b;have:=l5 b;omega
         have GG:Good H4 Hs4 (fun b=>M2 b+(n1 b+n2 b)):=G
         have G5:Good H4 Hs4 (fun b=>(one x b+mI b)+(n4 b+M2 b)):=GG.re fun b=>by have:=le5 b;omega
         have S5:Stp H Hs M H4 Hs4 (fun b=>(one x b+mI b)+(n4 b+M2 b)):=S.drop (fun b=>by have:=le5 b;omega) GG.le
         have zx:mI x=0/\n4 x=0/\M2 x=0:=by
          have:(one x x+mI x)+(n4 x+M2 x)<=1:=G5.le x
          omega
         have up:∀ b,H4 b≠none->H'' b≠none:=fun b hn=>by
          by_cases hb:b=x
          . rw [hb,kx];simp
          . rw [k1' b hb hn];exact hn
         have hsx:Hs4 x=none:=G5.ne x (by show (one x x+mI x)+(n4 x+M2 x)=1;omega)
         have G6:Good H'' Hs4 (fun b=>(one x b+mI b)+(n4 b+M2 b)):=⟨fun b o e=>by
          have hb:b≠x:=fun z=>by rw [z,hsx] at e;cases e
          have e4:=G5.sub b o e
          rw [k1' b hb (by rw [e4];simp)];exact e4,G5.le,G5.ne,fun b h=>up b (G5.has b h)⟩
         have S6:Stp H Hs M H'' Hs4 (fun b=>(one x b+mI b)+(n4 b+M2 b)):=⟨fun b o e z=>by
          have e4:=S5.keep b o e z
          have hb:b≠x:=fun w=>by
           rw [w] at e z
           rcases S5.own x (by show (one x x+mI x)+(n4 x+M2 x)=1;omega) with t|t
           . omega
           . rw [e] at t;cases t
          rw [k1' b hb (by rw [e4];simp)];exact e4,S5.own,S5.grow,S5.shr,fun b h=>up b (S5.stay b h)⟩
         refine q x σ H'' Hs4 (fun b=>one x b+mI b) (fun b=>n4 b+M2 b) (Keeps.refl _ _) G6 S6 (.own (vs:=vsI) (m':=mI) ⟨hl,C',dx',xn',kx⟩ (r.frame (Same.refl _) fun b hb hn=>k1' b (fun w=>by rw [w] at hb;omega) hn) fun b=>Nat.le_refl _) (fin.frame (Same.refl _) fun b hb hn=>k1' b (fun w=>by rw [w] at hb;(try dsimp only at hb);omega) hn)
      . exact q.elim
    | .sc .non,[],q,hF=>exact q.elim
    | .sc (.bl _),_,q,hF=>exact q.elim
    | .sc (.int _),_,q,hF=>exact q.elim
    | .sc (.str _),_,q,hF=>exact q.elim
    | .sc (.byt _),_,q,hF=>exact q.elim
    | .sc (.flt _),_,q,hF=>exact q.elim
    | .sc (.ref _),_,q,hF=>exact q.elim
    | .sc (.ty _),_,q,hF=>exact q.elim
    | .hole,_,q,hF=>exact q.elim
    | .node _ _ _,_,q,hF=>exact q.elim
structure XMk(P:Program)(w:World)(K:Fg)(mg:SO)(base:Heap)(x:Str)(ns:List Str)(k:Nat)(ps:List Str)(sp:Sp):Prop where
 ex:∃(C f:Addr)(fd:FuncData),XN K ns C/\findIn K (.ref C) (Str.ofString "__init__")=some (some (.ref f))/\typeIn K (.ref f)=some (.type "function")/\FnOk P w K mg base CX0 k f fd ps sp/\mg x=some (.ref C)/\Binds K fd ps []
def Ze5(hc:X.calm=true)(G:XMk X.prog X.w X.K X.mg X.base x ns j ps (spF X.K fi.run))(hr:Room n X.A)(ha:PA X (e::es) (tPs X.K cs))(hj:autoParam (j+1<=n) Q7)(hz:autoParam (glOk X.env.scope x=true) Q8)(he:autoParam (SE X e es) Q9)(hpl:autoParam ((backTo pos' (starEach es X.env)).any (·.1)=false) Q9):
 PX X (.Raise (some (.Call (.Name x p) (e::es) [] pos')) none pos) (tX X.K lk (((clm cs).bnd fun ps=>newX ns fi ps).bnd Zbc)):=by
 have nx:=ZbP cs
 replace ha:=Ze4 ha
 generalize clm cs=cs at nx ha ⊢
 obtain ⟨C,f,fd,xn,hi,hf,F,hm,hb⟩:=G.ex
 refine PX.imp (ZfL hc (ZlE xn.toXC hi hf F (hr.mono hj) (glk hz) hm hb .nil ha (dbk hz) he hpl)) fun E σ H h=>?_
 obtain ⟨δ,Hs,M,aa,δ',g,s,e,q⟩:=Zmy (Q:=fun _ _=>True) xn nx h
 refine ⟨δ,Hs,M,aa,δ',g,s,e,fun vs H' Hs' m M' g' st r s'=>?_⟩
 obtain ⟨l,q⟩:=q vs H' Hs' m M' g' st r s'
 refine ⟨l,fun x hx=>?_⟩
 have:=q x hx
 rw [append_nil]
 exact this
end
end T
namespace L2
open PySem PySem.Spec PyProof.Rows
section
def ZrB(K:Fg)(ta:TE)(f:Str):TE:=fun σ H Q=>ta σ H fun x H1=>∃ a C dx fr fs v,x=.ref a/\Rd H1 a (.exc C dx fr fs)/\XD K C/\ZT K C f/\fs.lookup f=some v/\Q v H1
def Zmz(he:PE X e ta)(hb:attributeBase e f X.env (eval e X.env)=eval e X.env):PE X (.Attribute e f pos) (ZrB X.K ta f):=by
 intro pins s σ H Q I h
 refine Zhb hb (thn (he pins s σ H _ I h) fun u s1 z0=>?_)
 obtain ⟨x,H1,I1,rx,a,C,dx,fr,fs,v,ex,ea,c,n,l,q⟩:=z0
 subst ex
 obtain rfl:u=Value.ref a:=rx
 exact ZgB I1 ea c n l fun u' s2 I2 ru=>⟨v,H1,I2,ru,q⟩
def ZrC(K:Fg)(ta tv:TE)(f:Str):TS:=fun D σ H=>tv σ H fun y H1=>ta σ H1 fun x H2=>∃ a C dx fr fs,x=.ref a/\H2 a=some (.exc C dx fr fs)/\XC K C/\ZT K C f/\fs.length < 1000/\
 ∀ H' d',H' a=some (.exc C (some d') fr (putF f y fs))->(∀ b o,b≠a->H2 b=some o->H' b=some o)->D.nx σ H'
def Zm0(ha:PE X o ta)(hv:PE X value tv)(hs:swapsWith value (some (.Attribute o f pos')) pos.line X.env=pure false):PS X (.Assign [.Attribute o f pos'] value pos) (ZrC X.K ta tv f):=by
 intro pins s σ H D I h
 refine plainObj_wpAny_Assign_Attribute (thn (hv pins s σ H _ I h) fun u s1 ⟨y,H1,I1,ry,q⟩=>thn (ha pins s1 σ H1 _ I1 q) fun ov s2 z90=>?_) hs
 obtain ⟨x,H2,I2,rx,a,C,dx,fr,fs,ex,ea,c,n,l,q2⟩:=z90
 subst ex
 obtain rfl:ov=Value.ref a:=rx
 exact ZgC I2 ea c n l ry fun s3 H' d' h1 h2 I3=>⟨σ,_,I3,q2 H' d' h1 h2⟩
theorem Zfv(cv:V)(cu:Value)(rc:RelV cv cu)(huniq:∀ u,RelV cv u->u=cu):ZZ X (.builtin "isinstance") (fun xs H Q=>∃ a C dx fr fs b,xs=[.ref a,cv]/\XD X.K C/\Rd H a (.exc C dx fr fs)/\kitOne X.K (.ref C) cu=some b/\Q (.bl b) H):=by
 intro pins s σ H xs us Q I r h
 obtain ⟨a,C,dx,fr,fs,b,ex,xd,ea,k,q⟩:=h
 subst ex
 cases r with
 | @cons _ u1 _ _ r1 r2=>
  cases r2 with
  | @cons _ u2 _ _ r2 r3=>
   cases r3
   obtain rfl:=huniq _ r2
   obtain rfl:u1=Value.ref a:=r1
   exact ZhL I ea xd k fun tk=>⟨.bl b,H,I.tok tk,rfl,q⟩
end
end L2
namespace T
open PySem PySem.Spec L2
section
variable{X:Cx}{a o e c:Expr}{es:List Expr}{body suite:List Stmt}{b₀:Stmt}{pos pos' p apos np hp:Pos}{lk:Nat->Bool}{i j n:Nat}{x nm cn f:Str}{ca:M Op}{cs:M (List Op)}
theorem Zm1 (F:Fr0 X X.A) (hx:∀ e s,¬ X.xe e s) (hb:PXs X body (tX X.K lk cb)) (hs:∀ v,PSs (X.inH v) (b₀::suite) (tS X.K lk csu)) (hg:Gl X cn) (hm:X.mg cn=some (.ref D')) (xc:XC X.K D') (gx:GX X.K cn D') (hdb:(cn == ("__debug__":Str))=false)
 (hN:X.N.Nodup) (hi:X.N[i]?=some nm) (hl:X.env.scope.names.lookup nm=some .local):
 PX X (.Try body [.ExceptHandler (some (.Name cn np)) (some nm) (b₀::suite) hp] [] [] pos) (tX X.K lk (tryM lk cb cn (some i) csu)):=
 PX.imp (Zn6 F hx hb (.cons (.as_ hg hm xc gx hdb hN hi hl hs) .nil)) fun E σ H z0=>by
 obtain ⟨δ,Hs,M,g,s,q⟩:=z0
 refine ⟨δ,Hs,M,g,s,?_⟩
 unfold tryM at q
 cases e1:cb δ with
 | ok z=>rw [e1] at q;exact q
 | stuck=>rw [e1] at q;exact q.elim
 | exc xd δ'=>
  rw [e1] at q
  dsimp only at q
  intro ea σ' H' Hs' m M' k' g' st' r s'
  by_cases hh:hits cn xd=true
  . rw [if_pos hh] at q
    unfold hits at hh
    split at hh
    . rename_i ns fs ds
      have hc:cn∈ns:=of_decide_eq_true hh
      cases r with
      | @own _ _ vs _ _ m' nd rl lm=>
       obtain ⟨hl',C,dx,xn,hH⟩:=nd
       refine ⟨C,dx,_,ns,xn,hH,?_⟩
       unfold Zcs
       rw [if_pos hc]
       by_cases hi':(decide (i < δ'.length) && !lk i)=true
       . rw [if_pos hi'] at q
         simp only [and_eq_true,decide_eq_true_eq,not_eq_true'] at hi'
         have rx:Rep X.K H' Hs' (.ref ea) (.node (.exc ns false fs) true ds) m:=.own ⟨hl',C,dx,xn,hH⟩ rl lm
         have s2:=Zbl s' hi'.1 rx
         cases e2:csu (δ'.set i (.node (.exc ns false fs) true ds)) with
         | exc y z=>rw [e2] at q;exact q.elim
         | stuck=>rw [e2] at q;exact q.elim
         | ok z=>
          obtain ⟨fl,δ2⟩:=z
          rw [e2] at q
          have q:Post X.K lk E.toEnds σ H Hs M fl (δ2.set i .hole):=q
          have q2:=Post.ahead k' g g' st' q
          refine ⟨_,Hs',_,fl,δ2,g',s2,e2,?_⟩
          have hole:∀{σ2:St}{H2 Hs2:Hp}{M2:Bud},RepS X.K H2 Hs2 σ2 δ2 M2->RepS X.K H2 Hs2 (σ2.set i none) (δ2.set i .hole) M2:=fun{σ2 H2 Hs2 M2} r2=>by
           by_cases hlt:i < δ2.length
           . obtain ⟨o,m1,m2,z1,z2,z3,ff⟩:=r2.focus (List.getElem?_eq_getElem hlt)
             exact (ff (RepO X.K H2 Hs2) none .hole (fun _=>0) (fun a d m' _ q=>q) (.inl rfl)).mono fun b=>by have:=z3 b;(try dsimp only);omega
           . have hlσ:=r2.length
             rw [List.set_eq_of_length_le (by omega),List.set_eq_of_length_le (by omega)]
             exact r2
          have kp:∀{σ2:St},Keeps lk (σ'.set i (some (.ref ea))) σ2->Keeps lk σ' (σ2.set i none):=fun k2=>(Za1 hi'.2).trans (k2.trans (Za1 hi'.2))
          cases fl with
          | nx=>exact fun σ2 H2 Hs2 M2 k2 g2 st2 r2=>q2 _ H2 Hs2 M2 (kp k2) g2 st2 (hole r2)
          | bk=>exact fun σ2 H2 Hs2 M2 k2 g2 st2 r2=>q2 _ H2 Hs2 M2 (kp k2) g2 st2 (hole r2)
          | ct=>exact fun σ2 H2 Hs2 M2 k2 g2 st2 r2=>q2 _ H2 Hs2 M2 (kp k2) g2 st2 (hole r2)
          | rt d=>exact fun v σ2 H2 Hs2 m2 M2 k2 g2 st2 rv r2=>q2 v _ H2 Hs2 m2 M2 (kp k2) g2 st2 rv (hole r2)
       . rw [if_neg hi'] at q;exact q.elim
    . cases hh
  . rw [if_neg hh] at q;exact q.elim
theorem Zko (F:Fr0 X X.A) (hx:∀ e s,¬ X.xe e s) (hb:PXs X body (tX X.K lk cb)) (hs:∀ p:Addr×Obj×HO,Lone p.2.1->PSs (X.inHF p) (b₀::suite) (tS X.K lk csu)) (hg:Gl X cn) (hm:X.mg cn=some (.ref D')) (xc:XC X.K D') (gx:GX X.K cn D') (hdb:(cn == ("__debug__":Str))=false)
 (hN:X.N.Nodup) (hi:X.N[i]?=some nm) (hl:X.env.scope.names.lookup nm=some .local):
 PX X (.Try body [.ExceptHandler (some (.Name cn np)) (some nm) (b₀::suite) hp] [] [] pos) (tX X.K lk (ZcO lk cb cn i csu)):=
 PX.imp (ZlI F hx hb hg hm xc gx hdb hN hi hl hs) fun E σ H z0=>by
 obtain ⟨δ,Hs,M,g,s,q⟩:=z0
 refine ⟨δ,Hs,M,g,s,?_⟩
 unfold ZcO at q
 cases e1:cb δ with
 | ok z=>rw [e1] at q;exact q
 | stuck=>rw [e1] at q;exact q.elim
 | exc xd δ'=>
  rw [e1] at q
  dsimp only at q
  intro ea σ' H' Hs' m M' k' g' st' r s'
  cases ex:frzX cn xd with
  | none=>rw [ex] at q;exact q.elim
  | some d=>
  rw [ex] at q
  dsimp only at q
  unfold frzX at ex
  split at ex
  . rename_i ns
    split at ex
    . rename_i hc
      cases ex
      cases r with
      | @own _ _ vs _ _ m' nd rl lm=>
       cases rl
       obtain ⟨hl',C,dx,xn,hH⟩:=nd
       refine ⟨C,dx,_,ns,xn,hH,hc,fun o=>?_⟩
       by_cases hi':(decide (i < δ'.length) && !lk i)=true
       . rw [if_pos hi'] at q
         simp only [and_eq_true,decide_eq_true_eq,not_eq_true'] at hi'
         have mea:m ea≥1:=by have:=lm ea;rw [show one ea ea=1 from if_pos rfl] at this;omega
         have gea:m ea+M' ea<=1:=g'.le ea
         have zea:M' ea=0:=by omega
         have hsn:Hs' ea=none:=g'.ne ea (by show m ea+M' ea=1;omega)
         have frH:∀ b,b≠ea->upd H' ea (.frz o (.exc C dx false [])) b=H' b:=fun b hb=>Zj hb
         have frS:Same Hs' (upd Hs' ea (.frz o (.exc C dx false []))):=fun b u e=>by rw [Zj (fun z=>by rw [z,hsn] at e;cases e)];exact e
         have G2:Good (upd H' ea (.frz o (.exc C dx false []))) (upd Hs' ea (.frz o (.exc C dx false []))) M':=by
          refine ⟨fun b u e=>?_,fun b=>?_,fun b h=>?_,fun b h=>?_⟩
          . by_cases hb:b=ea
            . subst hb;rw [Zk] at e ⊢;exact e
            . rw [Zj hb] at e;rw [frH b hb];exact g'.sub b u e
          . have:m b+M' b<=1:=g'.le b
            omega
          . have hb:b≠ea:=fun z=>by rw [z,zea] at h;cases h
            rw [Zj hb]
            have:m b+M' b<=1:=g'.le b
            exact g'.ne b (by show m b+M' b=1;omega)
          . have hb:b≠ea:=fun z=>by rw [z,zea] at h;cases h
            rw [frH b hb]
            have:m b+M' b<=1:=g'.le b
            exact g'.has b (by show m b+M' b=1;omega)
         have S2:Stp H' Hs' (fun b=>m b+M' b) (upd H' ea (.frz o (.exc C dx false []))) (upd Hs' ea (.frz o (.exc C dx false []))) M':=by
          refine ⟨fun b u e z=>?_,fun b h=>?_,frS,fun b h h'=>?_,fun b h=>?_⟩
          . have hb:b≠ea:=fun w=>by have z:m b+M' b=0:=z;rw [w] at z;omega
            rw [frH b hb];exact e
          . left
            have:m b+M' b<=1:=g'.le b
            show m b+M' b=1
            omega
          . by_cases hb:b=ea
            . left;rw [hb];show m ea+M' ea=1;omega
            . rw [Zj hb] at h';exact absurd h h'
          . by_cases hb:b=ea
            . rw [hb,Zk];simp
            . rw [frH b hb];exact h
         have ST:=Zo (m1:=fun _=>0) g (g'.re fun b=>by simp) (st'.drop (fun b=>by simp) g'.le) G2 S2
         have rx:Rep X.K (upd H' ea (.frz o (.exc C dx false []))) (upd Hs' ea (.frz o (.exc C dx false []))) (.ref ea) (.node (.exc ns false []) false []) (fun _=>0):=.shd ⟨rfl,C,dx,xn,.inr ⟨rfl,o,Zk⟩⟩ (.nil _)
         have s2:=Zbl (RepS.frame frS (fun b hb _=>frH b fun z=>by rw [z,zea] at hb;cases hb) s') hi'.1 rx
         cases e2:csu (δ'.set i (.node (.exc ns false []) false [])) with
         | exc y z=>rw [e2] at q;exact q.elim
         | stuck=>rw [e2] at q;exact q.elim
         | ok z=>
          obtain ⟨fl,δ2⟩:=z
          rw [e2] at q
          have q:Post X.K lk E.toEnds σ H Hs M fl (δ2.set i .hole):=q
          have q2:=Post.ahead k' g G2 (ST.2.1.drop (fun b=>by simp) ST.1.le) q
          refine ⟨_,_,_,fl,δ2,G2.re fun b=>by simp,s2,e2,?_⟩
          have hole:∀{σ2:St}{H2 Hs2:Hp}{M2:Bud},RepS X.K H2 Hs2 σ2 δ2 M2->RepS X.K H2 Hs2 (σ2.set i none) (δ2.set i .hole) M2:=fun{σ2 H2 Hs2 M2} r2=>by
           by_cases hlt:i < δ2.length
           . obtain ⟨o,m1,m2,z1,z2,z3,ff⟩:=r2.focus (List.getElem?_eq_getElem hlt)
             exact (ff (RepO X.K H2 Hs2) none .hole (fun _=>0) (fun a d m' _ q=>q) (.inl rfl)).mono fun b=>by have:=z3 b;(try dsimp only);omega
           . have hlσ:=r2.length
             rw [List.set_eq_of_length_le (by omega),List.set_eq_of_length_le (by omega)]
             exact r2
          have kp:∀{σ2:St},Keeps lk (σ'.set i (some (.ref ea))) σ2->Keeps lk σ' (σ2.set i none):=fun k2=>(Za1 hi'.2).trans (k2.trans (Za1 hi'.2))
          have sp:∀{H3 Hs3:Hp}{M3:Bud},Stp (upd H' ea (.frz o (.exc C dx false []))) (upd Hs' ea (.frz o (.exc C dx false []))) (fun b=>0+M' b) H3 Hs3 M3->Stp (upd H' ea (.frz o (.exc C dx false []))) (upd Hs' ea (.frz o (.exc C dx false []))) M' H3 Hs3 M3:=fun{H3 Hs3 M3} z=>by
           have e:(fun b=>0+M' b)=M':=funext fun b=>Nat.zero_add _
           rw [e] at z;exact z
          cases fl with
          | nx=>exact fun σ2 H2 Hs2 M2 k2 g2 st2 r2=>q2 _ H2 Hs2 M2 (kp k2) g2 (sp st2) (hole r2)
          | bk=>exact fun σ2 H2 Hs2 M2 k2 g2 st2 r2=>q2 _ H2 Hs2 M2 (kp k2) g2 (sp st2) (hole r2)
          | ct=>exact fun σ2 H2 Hs2 M2 k2 g2 st2 r2=>q2 _ H2 Hs2 M2 (kp k2) g2 (sp st2) (hole r2)
          | rt d=>exact fun v σ2 H2 Hs2 m2 M2 k2 g2 st2 rv r2=>q2 v _ H2 Hs2 m2 M2 (kp k2) g2 (sp st2) rv (hole r2)
       . rw [if_neg hi'] at q;exact q.elim
    . cases ex
  . cases ex
def Zgi(ho:PE X o (tVar i))(hv:PE X value (tM X.K cv))(hs:autoParam (swapsWith value (some (.Attribute o f pos')) pos.line X.env=pure false) Q9):
 PS X (.Assign [.Attribute o f pos'] value pos) (tS X.K lk (cv.bnd fun d=>(ZR i).bnd fun _=>(modS i (putX f d)).bnd fun _=>M.ret .nx)):=PS.imp (Zm0 ho hv hs) fun E σ H h=>by
 obtain ⟨δ,Hs,M,fl,δ',g,s,ea,q⟩:=h
 obtain ⟨d,δ1,e1,eb⟩:=Zb ea
 obtain ⟨p0,δ2,e2,ec⟩:=Zb eb
 obtain ⟨r0,δ3,e3,ed⟩:=Zb ec
 have:=Ze ed
 cases this
 obtain ⟨kk,ds0,k',ds',hi,hff,rfl⟩:=Zd7 e3
 refine ⟨δ,Hs,M,d,δ1,g,s,e1,fun v H1 Hs1 m1 M1 g1 st1 r1 s1=>?_⟩
 obtain ⟨rfl,vo,hvo⟩:=ZeL s1 e2
 obtain ⟨p1,us,m',n2,e8,nn,rl,le,fin⟩:=modL g1 s1 hi
 rw [hvo] at e8
 cases e8
 refine ⟨_,hvo,?_⟩
 unfold putX at hff
 split at hff
 . rename_i ds ns fr fs
   split at hff
   . rename_i hc
     cases hff
     obtain ⟨hl,C,dx,xn,hH⟩:=nn
     obtain ⟨z1,z2⟩:=ZdX f v fs us hl
     refine ⟨p1,C,dx,fr,fs.zip us,rfl,hH,xn.toXC,xn.nof f hc.2,?_,fun H' d' h1 h2=>?_⟩
     . rw [length_zip,hl,Nat.min_self]
       rw [<- hl]
       exact hc.1
     . obtain ⟨G,S,R,SS⟩:=fin (.exc C (some d') fr (putF f v (fs.zip us))) (.exc ns fr (putN f fs)) (T.putV f v fs us) (T.putV f d fs ds0) (fun b=>m' b+m1 b) (fun _=>0) .non (.sc .non) (fun b=>by (try dsimp only);omega) ⟨z2,C,some d',xn,by rw [Zk,z1]⟩ (rl.putV f r1 hl) (.sc _ _)
       have z:=Zo (m1:=fun _=>0) g (g1.re fun b=>by simp) (st1.drop (fun b=>by simp) g1.le) G S
       have k:Same (upd H1 p1 (.exc C (some d') fr (putF f v (fs.zip us)))) H':=fun b o eb=>by
        by_cases hb:b=p1
        . subst hb
          rw [Zk] at eb
          cases eb
          exact h1
        . rw [Zj hb] at eb
          exact h2 b o hb eb
       exact q σ _ Hs1 _ (Keeps.refl _ _) ((G.re fun b=>by (try dsimp only);omega).up k) (((z.2.1.drop (fun b=>by simp) z.1.le).drop (fun b=>by (try dsimp only);omega) G.le).up k) (SS.frame (Same.refl _) fun b _ hn=>ZbC k b hn)
   . cases hff
 . cases hff
def arg1{K:Fg}{f:BF}{σ:St}{H:Hp}{Q:VK}(h:tM K ((ca.bnd fun p=>(M.ret ([]:List Op)).bnd fun ps=>M.ret (p::ps)).bnd fun ps=>(views ps).bnd fun ws=>lift (bfW f ws)) σ H Q):tM K ((ca.bnd view).bnd fun w=>lift (bfW f [w])) σ H Q:=by
 obtain ⟨δ,Hs,M,d,δ',g,s,e,q⟩:=h
 refine ⟨δ,Hs,M,d,δ',g,s,?_,q⟩
 obtain ⟨ps,δ1,e1,e⟩:=Zb e
 obtain ⟨pp,δ2,e2,e3⟩:=Zb e1
 obtain ⟨z,δ3,e4,e5⟩:=Zb e3
 have:=Ze e4
 cases this
 have:=Ze e5
 cases this
 obtain ⟨ws,δ4,e6,e⟩:=Zb e
 obtain ⟨w,δ5,e7,e8⟩:=Zb e6
 obtain ⟨z,δ6,e9,e10⟩:=Zb e8
 have:=Ze e9
 cases this
 have:=Ze e10
 cases this
 show T.M.bnd (ca.bnd view) _ δ=_
 unfold T.M.bnd
 rw [e2]
 dsimp only
 rw [e7]
 exact e
def Zhy(ha:PE X a (tP X.K ca))(hb:autoParam (attributeBase a f X.env (eval a X.env)=eval a X.env) Q9):
 PE X (.Attribute a f pos) (tM X.K ((ca.bnd fun p=>(M.ret ([]:List Op)).bnd fun ps=>M.ret (p::ps)).bnd fun ps=>(views ps).bnd fun ws=>lift (bfW (.xfld f) ws))):=
 PE.imp (Zmz ha hb) fun σ H Q h=>by
  have h2:=arg1 h
  refine op1 (r:=fun x H1 Q=>∃ a C dx fr fs v,x=.ref a/\Rd H1 a (.exc C dx fr fs)/\XD X.K C/\ZT X.K C f/\fs.lookup f=some v/\Q v H1) h2 fun x H Hs w m d g h1 h2 v e o=>?_
  replace e:ZhY f [w]=some d:=e
  unfold ZhY at e
  split at e
  . rename_i ns fr fs ds hw
    cases hw
    split at e
    . rename_i hf
      cases v with
      | nd n r=>
       obtain ⟨hl,C,dx,xn,n⟩:=n
       obtain ⟨z,m1,e1,rz,l⟩:=ZeK r hl e
       exact ⟨_,C,dx,_,_,z,rfl,n.rd,xn.toXD,xn.nof f hf,e1,o.part h1 h2 l rz⟩
    . cases e
  . cases e
end
section
def Zm2(gx:GX X.K cn D')(ht:typeIn X.K (.ref D')=some (.type "type"))(hg:Gl X "isinstance")(hm:X.mg "isinstance"=none)(ha:PE X a (tP X.K ca))(hc:PE X c (tC (.ref D')))(hs:autoParam (starEach [a,c] X.env=[(false,eval a X.env),(false,eval c X.env)]) Q9)
 (hs1:autoParam (starEach [c] X.env=[(false,eval c X.env)]) Q9):
 PE X (.Call (.Name "isinstance" p) [a,c] [] pos) (tM X.K ((ca.bnd fun p=>(M.ret ([]:List Op)).bnd fun ps=>M.ret (p::ps)).bnd fun ps=>(views ps).bnd fun ws=>lift (bfW (.isiX cn) ws))):=
 PE.imp (ZcJ (Zfv (.ref D') (.ref D') rfl fun u h=>h) hg hm Zcg (ZP ha (ZP hc ZaL (by show _=_;rw [hs1];rfl)) (by show _=_;rw [hs,hs1])) (by decide) (by decide) (by show _=_;rw [hs,hs1]) (by show _=_;rw [hs1];rfl)) fun σ H Q h=>by
  refine op1 (r:=fun x H1 Q=>∃ a C dx fr fs b,[x,V.ref D']=[V.ref a,V.ref D']/\XD X.K C/\Rd H1 a (.exc C dx fr fs)/\kitOne X.K (.ref C) (.ref D')=some b/\Q (.bl b) H1) (arg1 h) fun x H Hs w m d g h1 h2 v e o=>?_
  replace e:ZhW cn [w]=some d:=e
  unfold ZhW at e
  split at e
  . rename_i ns fr fs ds hw
    cases hw
    cases e
    cases v with
    | nd n r=>
     obtain ⟨hl,C,dx,xn,n⟩:=n
     exact ⟨_,C,dx,_,_,_,rfl,xn.toXD,n.rd,xn.isa gx ht,o.sc⟩
  . cases e
def Zm3:kitMeta "ValueError"=true:=by decide +kernel
def ZoQ:bmV.contains (.type "ValueError")=true:=by decide +kernel
def Zm4(hg:Gl X "isinstance")(hm:X.mg "isinstance"=none)(ha:PE X a (tP X.K ca))(hc:PE X c (tC (.ty "ValueError")))(hs:autoParam (starEach [a,c] X.env=[(false,eval a X.env),(false,eval c X.env)]) Q9)
 (hs1:autoParam (starEach [c] X.env=[(false,eval c X.env)]) Q9):
 PE X (.Call (.Name "isinstance" p) [a,c] [] pos) (tM X.K ((ca.bnd fun p=>(M.ret ([]:List Op)).bnd fun ps=>M.ret (p::ps)).bnd fun ps=>(views ps).bnd fun ws=>lift (bfW .isiV ws))):=
 PE.imp (ZcJ (Zfv (.ty "ValueError") (.type "ValueError") rfl fun u h=>h) hg hm Zcg (ZP ha (ZP hc ZaL (by show _=_;rw [hs1];rfl)) (by show _=_;rw [hs,hs1])) (by decide) (by decide) (by show _=_;rw [hs,hs1]) (by show _=_;rw [hs1];rfl)) fun σ H Q h=>by
  refine op1 (r:=fun x H1 Q=>∃ a C dx fr fs b,[x,V.ty "ValueError"]=[V.ref a,V.ty "ValueError"]/\XD X.K C/\Rd H1 a (.exc C dx fr fs)/\kitOne X.K (.ref C) (.type "ValueError")=some b/\Q (.bl b) H1) (arg1 h) fun x H Hs w m d g h1 h2 v e o=>?_
  replace e:ZhX [w]=some d:=e
  unfold ZhX at e
  split at e
  . rename_i ns fr fs ds hw
    cases hw
    cases e
    cases v with
    | nd n r=>
     obtain ⟨hl,C,dx,xn,n⟩:=n
     exact ⟨_,C,dx,_,_,_,rfl,xn.toXD,n.rd,xn.isaB ZoQ Zm3,o.sc⟩
  . cases e
def Zgj(M1:XI X.K L)(hg:Gl X x)(hm:X.mg x=some (.ref L))(ha:PA X (e::es) (tPs X.K cs))(hdb:autoParam ((x == ("__debug__":Str))=false) Q7)
 (hst:autoParam (SE X e es) Q9) (hpl:autoParam (SFx X pos es) Q9)
 (ht:autoParam (eval (.Call (.Attribute (.Name x p) "__init__" apos) (e::es) [] pos) X.env=(do
  let ov <- eval (.Name x p) X.env
  standAt apos.atName
  let (f,first) <- holding [ov] (getMethod ov "__init__" pl)
  callWith pos f first (backTo pos (starEach (e::es) X.env)) (backToKw pos (keywordEach [] X.env)))) Q9):
 PE X (.Call (.Attribute (.Name x p) "__init__" apos) (e::es) [] pos) (tM X.K (cs.bnd fun ps=>(views ps).bnd fun ws=>lift (bfW .xinit ws))):=
 PE.imp (ZjN (pl:=pl) M1 hg hm ha hdb hst hpl ht) fun σ H Q h=>by
  obtain ⟨δ,Hs,M,ps,δ',g,s,e,q⟩:=opN h
  refine ⟨δ,Hs,M,ps,δ',g,s,e,fun vs H' Hs' m M' g' st r s'=>?_⟩
  obtain ⟨Hs2,ws,m2,d,hs,h1,h2,v,e2,o⟩:=q vs H' Hs' m M' g' st r s'
  replace e2:ZfR ws=some d:=e2
  unfold ZfR at e2
  split at e2
  . rename_i ns fs ds u
    cases e2
    obtain ⟨y,y',m1,m3,rfl,v1,v2,l⟩:=v.two
    cases v1 with
    | nd n r=>
     obtain ⟨hl,C,dx,xn,n⟩:=n
     exact ⟨_,y',C,dx,_,_,rfl,xn.toXC,n.t,o.sc⟩
  . cases e2
end
end T
namespace L2
open PySem PySem.Spec PyProof.Rows
section
variable{K:Fg}{n:Str}{C L:Addr}{q qL:Str}{N NL:Addr}{bs bsL:List Value}{sn snL:List Str}{sub subL:List Value}{ab abL:Bool}{col colL:Option Bool}{dd ddL:Option Addr}{k0 k1 k2 k3 k5 l0 l1 l2 l3 l5:Option Value}
def ZkX(lk:K.lookup C=some (excClassObj n q C N bs bm true sn sub ab col dd k0 k1 k2 k3 k5 "ValueError.__new__"))(tl:tailIn K bmV bm=true)(tv:ZbD bm=true)
 (sa:findIn K (.ref C) (Str.ofString "__setattr__")=some (some (.builtin "object.__setattr__"))) (ga:findIn K (.ref C) (Str.ofString "__getattribute__")=some (some (.builtin "BaseException.__getattribute__"))) (kp:keepIn K (.ref C)=true):XC K C:=
 ⟨⟨n,q,N,bs,bm,sn,sub,ab,col,dd,k0,k1,k2,k3,k5,lk,tl,tv⟩,sa,ga,kp⟩
noncomputable def Zgk(e:DictEntry):Bool:=match e.key with
 | .str _ _=>true
 | _=>false
def ZkY:tailIn K bmV bmV=true:=by
 unfold tailIn bmV
 simp
def ZrD(lL:K.lookup L=some (excClassObj "LabelError" qL L NL bsL bmV true snL subL abL colL ddL l0 l1 l2 l3 l5 "ValueError.__new__"))(ln:K.lookup NL=some ⟨oc,od,.dict es ep,sl⟩)(he:es.all Zgk=true)
 (hi:nsIn K NL (Str.ofString "__init__")=some none):tailIn K bmV (.ref L::bmV)=true:=by
 unfold tailIn
 dsimp only
 rw [lL]
 have ok:nsOkIn K NL=true:=by
  unfold nsOkIn
  rw [ln]
  exact he
 show ((_::_ == bmV) || (nsOkIn K NL && nsIn K NL (Str.ofString "__init__") == some none && tailIn K bmV bmV))=true
 rw [ok,hi,ZkY]
 simp
def Zih(x:nsIn K mainGlobals n=some (some (.ref C)))(lk:K.lookup C=some (excClassObj n q C N bs bm true sn sub ab col dd k0 k1 k2 k3 k5 "ValueError.__new__")):GX K n C:=⟨x,by unfold clsIn;rw [lk];rfl⟩
def ZrE(lk:K.lookup C=some (excClassObj n q C N bs bm true sn sub ab col dd k0 k1 k2 k3 k5 "ValueError.__new__")):typeIn K (.ref C)=some (.type "type"):=by
 show Option.map (fun x=>x.cls) (List.lookup C K)=_
 rw [lk]
 rfl
def ZrF(x:nsIn K mainGlobals n=some (some (.ref C)))(lk:K.lookup C=some (excClassObj n q C N bs (.ref L::bmV) true sn sub ab col dd k0 k1 k2 k3 k5 "ValueError.__new__"))
 (gL:GX K "LabelError" L) (tl:tailIn K bmV (.ref L::bmV)=true)
 (sa:findIn K (.ref C) (Str.ofString "__setattr__")=some (some (.builtin "object.__setattr__"))) (ga:findIn K (.ref C) (Str.ofString "__getattribute__")=some (some (.builtin "BaseException.__getattribute__"))) (kp:keepIn K (.ref C)=true)
 (hk:findIn K (.ref C) (Str.ofString "__getattr__")=some none) (hc:findIn K (.ref C) "__class__"=some (some (.builtin "object.__class__")))
 (hn:specialIn K (.builtin "object.__class__") "__get__"=some (some (.builtin "getset_descriptor.__get__"))) (ht:takesIn K (.builtin "object.__class__")=some true)
 (n1:findIn K (.ref C) "row"=some none) (n2:findIn K (.ref C) "number"=some none) (n3:findIn K (.ref C) "length"=some none) (n4:findIn K (.ref C) "numbers"=some none):XN K [n,"LabelError"] C:=
 ⟨⟨ZkX lk tl (show ZbD bmV=true by decide +kernel) sa ga kp,hk,hc,hn,ht⟩,⟨_,by unfold clsIn;rw [lk],C,_,rfl,Zih x lk,L,_,rfl,gL,rfl⟩,fun f hf=>by
   simp only [Zd6,mem_cons,not_mem_nil,or_false] at hf
   rcases hf with rfl|rfl|rfl|rfl
   . exact n1
   . exact n2
   . exact n3
   . exact n4⟩
end
end L2
namespace T
open PySem PySem.Spec L2
section
def Zkp(F:Fr0 X X.A)(hx:∀ e s,¬ X.xe e s)(h:Zq sc N i x false=true)(nd:N.Nodup)(hb:PXs X body (tX X.K lk cb))(hs:∀ v,PSs (X.inH v) (b₀::suite) (tS X.K lk csu))(hg:Gl X cn)(hm:X.mg cn=some (.ref D'))(xc:XC X.K D')(gx:GX X.K cn D')(hdb:(cn == ("__debug__":Str))=false)
 (e1:autoParam (X.env.scope=sc) Q9) (e2:autoParam (X.N=N) Q9):
 PX X (.Try body [.ExceptHandler (some (.Name cn np)) (some x) (b₀::suite) hp] [] [] pos) (tX X.K lk (tryM lk cb cn (some i) csu)):=by
 obtain ⟨h1,h2,h3,h4⟩:=Zq.at h
 subst e1 e2
 exact Zm1 F hx hb hs hg hm xc gx hdb nd h1 h2
def Zji(F:Fr0 X X.A)(hx:∀ e s,¬ X.xe e s)(h:Zq sc N i x false=true)(nd:N.Nodup)(hb:PXs X body (tX X.K lk cb))(hs:∀ p:Addr×Obj×HO,Lone p.2.1->PSs (X.inHF p) (b₀::suite) (tS X.K lk csu))(hg:Gl X cn)(hm:X.mg cn=some (.ref D'))(xc:XC X.K D')(gx:GX X.K cn D')(hdb:(cn == ("__debug__":Str))=false)
 (e1:autoParam (X.env.scope=sc) Q9) (e2:autoParam (X.N=N) Q9):
 PX X (.Try body [.ExceptHandler (some (.Name cn np)) (some x) (b₀::suite) hp] [] [] pos) (tX X.K lk (ZcO lk cb cn i csu)):=by
 obtain ⟨h1,h2,h3,h4⟩:=Zq.at h
 subst e1 e2
 exact Zko F hx hb hs hg hm xc gx hdb nd h1 h2
def Zgl:bootBuiltins "ValueError"=some (.type "ValueError"):=by decide +kernel
end
section
def ZrG(C:Ctx)(f:FI)(es:List E):ex C (.exX f es)=(((clm (opds C es)).bnd fun ps=>ZbE f ps).bnd fun _=>M.ret .nx):=(rfl)
def Zkq(C:Ctx)(ns:List Str)(δ:List D):ex C (.raise0 ns) δ=.exc (.node (.exc ns false []) true []) δ:=(rfl)
def Zkr(C:Ctx)(ns:List Str)(f:FI)(es:List E):ex C (.raiseI ns f es)=(((clm (opds C es)).bnd fun ps=>newX ns f ps).bnd Zbc):=(rfl)
def ZoR(ns:List Str)(fs:List Str)(ds δ:List D):Zbc (α:=Fl) (.node (.exc ns true fs) true ds) δ=.exc (.node (.exc ns false fs) true ds) δ:=(rfl)
def Zm5(C:Ctx)(i:Nat)(f:Str)(e:E):ex C (.attrX i f e)=((evb C e).1.bnd fun d=>(ZR i).bnd fun _=>(modS i (putX f d)).bnd fun _=>M.ret .nx):=(rfl)
def ZoS(C:Ctx)(tg:Tg)(ik:IK)(ies:List E)(body:List S):ex C (.forX tg ik ies body)=((clm (opds C ies)).bnd fun ps=>(Zr ps).bnd fun h=>(lift (itW ik h.1)).bnd fun items δ=>finB h.2 (forL (asgT (fun j=>C.lock j || walked ies j) tg) (exs { C with lock:=fun j=>C.lock j || walked ies j } body) items δ)):=(rfl)
def x_lf(C:Ctx)(s:S):ex C (.lf s)=clm (ex C s):=(rfl)
def ZrH(C:Ctx)(c:E)(a b:List S):ex C (.ifX c a b)=((clm (tst C c)).bnd fun t=>if t then exs C a else exs C b):=(rfl)
def clmA(c:M α)(δ:List D):clm c δ=clmR (c δ):=(rfl)
def ZrI(r:α×List D):clmR (.ok r)=.ok r:=(rfl)
noncomputable def tfR(lock:Nat->Bool)(c:Str)(i:Nat)(suite:M Fl):Rs (Fl×List D)->Rs (Fl×List D)
 | .ok r=>.ok r
 | .stuck=>.stuck
 | .exc x δ'=>match frzX c x with
  | some d=>if i < δ'.length && !lock i then ZcN i (suite (δ'.set i d)) else .stuck
  | none=>.stuck
def ZoT(C:Ctx)(body:List S)(c:Str)(i:Nat)(suite:List S)(δ:List D):ex C (.tryF body c i suite) δ=tfR C.lock c i (exs C suite) (exs C body δ):=by
 show ZcO _ _ _ _ _ _=_
 unfold ZcO tfR
 cases exs C body δ<;>rfl
noncomputable def cxR(ps:List Op)(δ:List D):Rs (D×List D)->Rs (D×List D)
 | .ok (d,ds')=>((Z0 ps ds').bnd fun _=>M.ret d) δ
 | .exc x ds'=>(match Z0 ps ds' δ with
  | .ok (_,δ')=>.exc x δ'
  | _=>.stuck)
 | .stuck=>.stuck
theorem ZoU:ZbE fi ps=(ZJ fi.lend ps).bnd fun ds δ=>cxR ps δ (fi.run ds):=by
 unfold ZbE cxR
 congr 1
 funext ds δ
 cases fi.run ds with
 | ok r=>obtain ⟨d,ds'⟩:=r;rfl
 | exc x y=>rfl
 | stuck=>rfl
def ZoV:cxR ps δ (.ok (d,ds'))=((Z0 ps ds').bnd fun _=>M.ret d) δ:=(rfl)
def Zks(f:α->M β)(x:D)(δ:List D):bndR f (.exc x δ)=.exc x δ:=(rfl)
def Zkt(r:M Fl)(x:D)(δ:List D):seqR r (.exc x δ)=.exc x δ:=(rfl)
def Zku(asg:D->M Unit)(body:M Fl)(ds:List D)(x:D)(δ:List D):forR asg body ds (.exc x δ)=.exc x δ:=(rfl)
def endX:Zch n (.exc x δ)=.exc x (δ.take n):=(rfl)
noncomputable def nxR(ps:List Op)(δ:List D):Rs (D×List D)->Rs (D×List D)
 | .ok (.sc .non,d::ds')=>((Z0 ps ds').bnd fun _=>M.ret d) δ
 | _=>.stuck
theorem Zii(h:¬ 1000 < ps.length):newX ns fi ps=(ZJ fi.lend ps).bnd fun ds δ=>nxR ps δ (fi.run (.node (.exc ns true []) true []::ds)):=by
 unfold newX nxR
 rw [if_neg h]
 congr 1
 funext ds δ
 cases fi.run (.node (.exc ns true []) true []::ds) with
 | ok r=>
  obtain ⟨d,ds'⟩:=r
  cases d with
  | sc v=>cases v<;>cases ds'<;>rfl
  | _=>rfl
 | exc x y=>rfl
 | stuck=>rfl
def ZoW:nxR ps δ (.ok (.sc .non,d::ds'))=((Z0 ps ds').bnd fun _=>M.ret d) δ:=(rfl)
def Zm6(h:List (Nat×D))(f:Fl)(δ:List D):finB h (.ok (f,δ))=((Z8 h).bnd fun _=>M.ret f) δ:=(rfl)
def Zjj(x:D)(δ:List D):finB [] (.exc x δ)=.exc x δ:=(rfl)
def Zjk(i:Nat)(d x:D)(δ:List D):finB [(i,d)] (.exc x δ)=.exc x (δ.set i d):=(rfl)
def ZrJ(ns:List Str)(fs:List Str)(ds:List D)(v:V):bfW .xinit [.nd (.exc ns true fs) ds,.sc v]=some (.sc .non):=(rfl)
end
end T
namespace L2
open PySem PySem.Spec PyProof.Rows
variable{tg:Expr}
noncomputable def Itw(lo c:Int)(n:Nat):It:=⟨fun i _=>i < n,fun i H x H'=>H'=H/\x=.int (lo+i * c),fun i _=>n<=i⟩
def ZgH{P:Program}{w:World}{K:Fg}(it:Addr)(lo c:Int)(n:Nat):Turn P w K tg (Itw lo c n) [it] it (fun i h=>IsRangeIter h it (lo+(i:Nat) * c) ((n:Int) - (i:Nat)) c) where
 mem:=by simp
 obj:=fun i h st b hb=>by
  have e:b=it:=by simpa using hb
  subst e
  exact ⟨_,st,fun v z=>by
   have z':Data.fields _=Data.cell v:=z
   cases z'⟩
 keep:=fun i h h' st k=>k it (by simp) _ st
 item:=by
  intro X hP hw hK hc i pins s σ H E I hf st hg
  subst hP hw hK
  obtain ⟨f0,f1,f2,f3,f4,f5⟩:=hf it (by simp)
  have W:=Walks.range (prog:=X.prog) (w:=X.w) (I.ok.hd hc) it lo c n
  refine W.item i s _ _ hg st fun v h' tk hv st' kk=>?_
  obtain ⟨t,rfl⟩:=hv
  have I1:Inv X pins σ H { s with heap:=h',toks:=tk }:=I.turned (fun b o hb e=>kk b o (by simpa using hb) e) f0 f1 f3 f4 f5
  exact ⟨_,rfl,Zef (s:={ s with heap:=h',toks:=tk }) (n:="range_iterator") st' rfl rfl (by decide) ⟨.int (lo+i * c),H,I1,⟨t,rfl⟩,⟨rfl,rfl⟩,st',fun b hb=>(hf b hb).1⟩⟩
 done:=by
  intro X hP hw hK hc i pins s σ H E I hf st hg
  subst hP hw hK
  obtain ⟨f0,f1,f2,f3,f4,f5⟩:=hf it (by simp)
  exact wpAny_pyNext_range_end (I.ok.hd hc) st (by have:n<=i:=hg;omega) fun h' eb=>⟨rfl,I.turned (t':=s.toks) (fun b o hb e=>eb b o hb e) f0 f1 f3 f4 f5⟩
 self:=fun _ _ _ _ _ st h=>wpAny_pyIter_rangeiter st h
section
variable{X:Cx}
def Zhz(hc:c≠0)(h1:-(2 ^ 62)<=a)(h2:a < 2 ^ 62)(h3:-(2 ^ 62)<=b)(h4:b < 2 ^ 62):0<=Builtin.Range.rangeSize a b c/\Builtin.Range.rangeSize a b c < 2 ^ 63:=by
 (unfold Builtin.Range.rangeSize)
 split
 . split
   . have:=Int.ediv_nonneg (a:=b - a - 1) (b:=c) (by omega) (by omega)
     have:=Int.ediv_le_self (a:=b - a - 1) c (by omega)
     omega
   . omega
 . split
   . have:=Int.ediv_nonneg (a:=a - b - 1) (b:=-c) (by omega) (by omega)
     have:=Int.ediv_le_self (a:=a - b - 1) (-c) (by omega)
     omega
   . omega
def Zjl(hc:c≠0)(hc1:-1000000<=c)(hc2:c<=1000000)(h1:-(2 ^ 62)<=a)(h2:a < 2 ^ 62)(h3:-(2 ^ 62)<=b)(h4:b < 2 ^ 62):Builtin.Range.small a b c=true:=by
 obtain ⟨q1,q2⟩:=Zhz hc h1 h2 h3 h4
 unfold Builtin.Range.small
 simp only [Builtin.Range.rangeFitsLong,and_eq_true,or_eq_true,decide_eq_true_eq,beq_iff_eq]
 refine ⟨⟨⟨⟨by omega,by omega⟩,by omega⟩,by omega⟩,.inr ?_⟩
 split<;>(simp only [and_eq_true,decide_eq_true_eq];omega)
def Zjm{pins:Pn}{σ:St}{H:Hp}{s:Shared}{R:It->Hp->Prop}{E:VS}{lo hi c:Int}{t u v:Tok}{tk:Nat}(I:Inv X pins σ H s)(hc:c≠0)(hc1:-1000000<=c)(hc2:c<=1000000)(h1:-(2 ^ 62)<=lo)(h2:lo < 2 ^ 62)(h3:-(2 ^ 62)<=hi)(h4:hi < 2 ^ 62)
 (q:R (Itw lo c (Builtin.Range.rangeSize lo hi c).toNat) H):wpAny (model X.prog X.w) X.A (pyIter (.ref s.heap.objs.size)) (PIE X pins σ tg R) E { s with heap:=s.heap.push { cls:=.type "range",data:=.fields #[.int lo t,.int hi u,.int c v] },toks:=tk }:=by
 refine wpAny_pyIter_range (IsRange.new ..) (Zjl hc hc1 hc2 h1 h2 h3 h4) ?_
 have I1:Inv X pins σ H { s with heap:=s.heap.push { cls:=.type "range",data:=.fields #[.int lo t,.int hi u,.int c v] },toks:=tk }:=I.kept fun b o e=>Heap.get?_push_of_some _ e
 refine ⟨(s.heap.push { cls:=.type "range",data:=.fields #[.int lo t,.int hi u,.int c v] }).objs.size,[(s.heap.push { cls:=.type "range",data:=.fields #[.int lo t,.int hi u,.int c v] }).objs.size],_,_,H,rfl,
  I1.kept (t':=tk) fun b o e=>Heap.get?_push_of_some _ e,ZgH _ lo c (Builtin.Range.rangeSize lo hi c).toNat,?_,fun b hb=>?_,q⟩
 . have e1:lo+((0:Nat):Int) * c=lo:=by simp
   have e2:(((Builtin.Range.rangeSize lo hi c).toNat:Nat):Int) - ((0:Nat):Int)=Builtin.Range.rangeSize lo hi c:=by
    have:=(Zhz hc h1 h2 h3 h4).1
    omega
   show IsRangeIter _ _ (lo+((0:Nat):Int) * c) ((((Builtin.Range.rangeSize lo hi c).toNat:Nat):Int) - ((0:Nat):Int)) c
   rw [e1,e2]
   exact Heap.get?_push_size _ rfl
 . have e:b=(s.heap.push { cls:=.type "range",data:=.fields #[.int lo t,.int hi u,.int c v] }).objs.size:=by simpa using hb
   subst e
   exact I1.fpOk (Nat.le_refl _) (I1.hok.fresh (Nat.le_refl _))
noncomputable def ZrK(ta:TA):TI:=fun σ H R=>ta σ H fun vs H1=>∃ i j c:Int,vs=[.int i,.int j,.int c]/\(-(2 ^ 62)<=i/\i < 2 ^ 62/\-(2 ^ 62)<=j/\j < 2 ^ 62)/\(c≠0/\-1000000<=c/\c<=1000000)/\R (Itw i c (Builtin.Range.rangeSize i j c).toNat) H1
theorem Zjn(hg:Gl X "range")(hm:X.mg "range"=none)(ha:PA X [a,b,c] ta)(hs:autoParam (starEach [a,b,c] X.env=[(false,eval a X.env),(false,eval b X.env),(false,eval c X.env)]) Q9)(hs2:autoParam (starEach [b,c] X.env=[(false,eval b X.env),(false,eval c X.env)]) Q9):
 PI X tg (.Call (.Name "range" p) [a,b,c] [] pos) (ZrK ta):=by
 intro pins s σ H R I h
 refine Call_ (Zbr I hg hm boot_range (PyProof.Rows.callWith_type1 (thn (ha pos pins s σ H _ I h) fun us s1 z0=>?_) (by show _=_;rw [hs,hs2]) (by show _=_;rw [hs2];rfl)))
 obtain ⟨vs,H1,I1,r1,q1⟩:=z0
 obtain ⟨i,j,k,e,⟨q1,q2,q3,q4⟩,⟨c1,c2,c3⟩,q⟩:=q1
 subst e
 cases r1 with
 | cons r rr=>
  cases rr with
  | cons r' rr=>
   cases rr with
   | cons r'' rr=>
    cases rr
    obtain ⟨t,rfl⟩:=r
    obtain ⟨t',rfl⟩:=r'
    obtain ⟨t'',rfl⟩:=r''
    refine call_range_3 c1 (Zjm I1 c1 c2 c3 q1 q2 q3 q4 q) (Or.inl (PyProof.noPylong_of_log2 ?_))
    by_cases h0:k.natAbs=0
    . rw [h0];decide +kernel
    . have:k.natAbs.log2 < 64:=(Nat.log2_lt h0).mpr (by omega)
      omega
end
end L2
namespace T
open PySem PySem.Spec L2
variable{X:Cx}{pos pos':Pos}{st:Stmt}{H Hs H1:Hp}{j nN:Nat}{fi:FI}{mg:SO}{oc doc pm cdv:Value}{od an:Option Addr}{osl:Array (Option Value)}{δ:List D}{L dx:Addr}{base:Heap}
def ZgI(lo c:Int)(n:Nat)(B:Bud):WalkV (Itw lo c n) (((List.range n).map fun(k:Nat)=>lo+k * c).map V.int) B (fun _ _=>True) where
 stay:=fun _ _ _=>trivial
 go:=fun{H Hs i v} _ _ h=>by
  have:=(List.getElem?_eq_some_iff.mp h).1
  simp only [length_map,length_range] at this
  exact this
 yld:=fun{H Hs H' i x v} _ _ h y=>by
  obtain ⟨e,y⟩:=y
  have:=(List.getElem?_eq_some_iff.mp h).1
  simp only [length_map,length_range] at this
  rw [getElem?_map,getElem?_map,List.getElem?_range this] at h
  simp only [map_some,Option.some.injEq] at h
  exact ⟨e,y.trans h⟩
 stop:=fun{H Hs i} _ _ h=>by
  simp only [length_map,length_range] at h
  exact h
def hw_3(h1:ZaW ca lk)(h2:ZaW cb lk)(h3:ZaW cc lk):HWs (ca.bnd fun p=>(cb.bnd fun p=>(cc.bnd fun p=>(M.ret ([]:List Op)).bnd fun ps=>M.ret (p::ps)).bnd fun ps=>M.ret (p::ps)).bnd fun ps=>M.ret (p::ps)) lk:=fun δ w δ' e q hq=>by
 obtain ⟨ps,δ1,e1,e2⟩:=Zb e
 obtain ⟨p1,δ2,e3,e4⟩:=Zb e1
 obtain ⟨qs,δ3,e5,e6⟩:=Zb e4
 obtain ⟨p2,δ4,e7,e8⟩:=Zb e5
 obtain ⟨rs,δ5,f5,f6⟩:=Zb e8
 obtain ⟨p3,δ6,f7,f8⟩:=Zb f5
 obtain ⟨z,δ7,e9,e10⟩:=Zb f8
 have:=Ze e9
 cases this
 have:=Ze e10
 cases this
 have:=Ze f6
 cases this
 have:=Ze e6
 cases this
 have:=Zc4 e2 q hq
 rcases List.mem_cons.mp this with z|z
 . exact h1 _ _ _ e3 _ z.symm
 . rcases List.mem_cons.mp z with z|z
   . exact h2 _ _ _ e7 _ z.symm
   . exact h3 _ _ _ f7 _ (List.mem_singleton.mp z).symm
theorem Zm7{K:Fg}{σ:St}{δ':List D}{m M:Bud}{p:Op}{x v:V}{h:Option (Nat×D)}(s:RepS K H Hs σ δ M)(r:RepP K H Hs σ x p m)(e:holdV p δ=.ok ((.sc v,h),δ')):h=none/\δ'=δ/\x=v:=by
 cases p with
 | tmp d=>
  cases d with
  | sc u=>cases e;cases r;exact ⟨rfl,rfl,rfl⟩
  | hole=>cases e
  | node k o ds=>cases e
 | late i=>
  have r:σ[i]?=some (some x):=r
  unfold holdV at e
  dsimp only at e
  split at e
  . rename_i u hi
    cases e
    obtain ⟨v',m1,m2,e1,q,l,f⟩:=s.slot hi (by simp)
    rw [r] at e1
    cases e1
    cases q
    exact ⟨rfl,rfl,rfl⟩
  . cases e
  . cases e
  . cases e
theorem Zgm:∀{ps:List Op}{xs:List V}{vs:List V}{δ δ':List D}{m M:Bud}{h:List (Nat×D)},RepS K H Hs σ δ M->Za3 K H Hs σ xs ps m->Zr ps δ=.ok ((vs.map W.sc,h),δ')->h=[]/\δ'=δ/\xs=vs
 | [],xs,vs,δ,δ',m,M,h,s,r,e=>by
  have:=Ze e
  cases xs with
  | nil=>cases vs with
   | nil=>cases this;exact ⟨rfl,rfl,rfl⟩
   | cons=>cases this
  | cons=>exact r.elim
 | p::ps,xs,vs,δ,δ',m,M,h,s,r,e=>by
  obtain ⟨w,δ1,e1,e⟩:=Zb e
  obtain ⟨ws,δ2,e2,e⟩:=Zb e
  have e3:=Ze e
  cases xs with
  | nil=>exact r.elim
  | cons x xs=>
   obtain ⟨m1,m2,r1,r2,l⟩:=r
   cases vs with
   | nil=>cases e3
   | cons v vs=>
    obtain ⟨w1,w2⟩:=w
    obtain ⟨ws1,ws2⟩:=ws
    simp only [Prod.mk.injEq,map_cons,List.cons.injEq] at e3
    obtain ⟨⟨⟨ea,eb⟩,ec⟩,ed⟩:=e3
    subst ea
    obtain ⟨ha,hb,hx⟩:=Zm7 s r1 e1
    subst ha hb hx
    subst eb
    obtain ⟨hc,hd,hy⟩:=Zgm s r2 e2
    subst hc hy ec
    exact ⟨rfl,ed.trans hd,rfl⟩
section
variable{tg a b c e o:Expr}{es:List Expr}{p apos cpos:Pos}{cs:M (List Op)}{i:Nat}
def Zh0(hg:Gl X "range")(hm:X.mg "range"=none)(ha:PA X [a,b,c] (tPs X.K cs))(hs:autoParam (starEach [a,b,c] X.env=[(false,eval a X.env),(false,eval b X.env),(false,eval c X.env)]) Q9)(hs2:autoParam (starEach [b,c] X.env=[(false,eval b X.env),(false,eval c X.env)]) Q9):
 PI X tg (.Call (.Name "range" p) [a,b,c] [] pos) (tI X.K .rng3 cs):=PI.imp (Zjn hg hm ha hs hs2) fun σ H R h=>by
 obtain ⟨δ,Hs,M,h,items,δ',g,s,e,ei,q⟩:=h
 obtain ⟨ps,δ1,e1,e2⟩:=Zb e
 refine ⟨δ,Hs,M,ps,δ1,g,s,e1,fun vs H1 Hs1 m1 M1 g1 st1 r1 s1=>?_⟩
 obtain ⟨ws,hh⟩:=h
 replace ei:Zib ws=_:=ei
 unfold Zib at ei
 split at ei
 . rename_i lo hi k
   split at ei
   . rename_i hok
     cases ei
     simp only [okR,and_eq_true,decide_eq_true_eq] at hok
     obtain ⟨rfl,rfl,rfl⟩:=Zgm (vs:=[.int lo,.int hi,.int k]) s1 r1 e2
     refine ⟨lo,hi,k,rfl,⟨hok.1.1.1,hok.1.1.2,hok.1.2.1,hok.1.2.2⟩,⟨hok.2.1.1,hok.2.1.2,hok.2.2⟩,?_⟩
     exact q _ _ H1 Hs1 (fun _=>0) M1 (g1.re fun b=>by omega) (st1.drop (fun b=>by omega) g1.le) s1 trivial (ZgI lo k _ _).w ⟨trivial,ZcP _⟩
   . cases ei
 . cases ei
theorem Zjo(g:Same Hs Hs'):∀{σ:St}{δ:List D}{M:Bud},(∀ b,M b≥1->H b≠none->Hs' b=H b)->RepS K H Hs σ δ M->RepS K H Hs' σ (shrL δ) (fun _=>0)
 | _,_,_,_,.nil _=>.nil _
 | _,_,M,k,.cons x y l=>by
  refine .cons (m1:=fun _=>0) (m2:=fun _=>0) ?_ (Zjo g (fun b hb=>k b (by have:=l b;omega)) y) fun b=>by simp
  rcases x with rfl|⟨v,e,r⟩
  . exact .inl rfl
  . exact .inr ⟨v,e,Rep.share g (fun b hb=>k b (by have:=l b;omega)) r⟩
termination_by structural a=>a
def lent{K:Fg}{σ:St}{M:Bud}(g:Good H Hs M)(s:RepS K H Hs σ δ M):
 Good H (shH H Hs M) (fun _=>0)/\RepS K H (shH H Hs M) σ (shrL δ) (fun _=>0)/\∀(H' Hs':Hp)(M':Bud),Good H' Hs' M'->Stp H (shH H Hs M) (fun _=>0) H' Hs' M'->Good H' Hs M/\Stp H Hs M H' Hs M/\RepS K H' Hs σ δ M:=by
 have g2:Good H Hs (fun b=>M b+0):=g
 refine ⟨g2.share,Zjo (Zbk g fun b=>Nat.le_refl _) ZcA s,fun H' Hs' M' g' st=>?_⟩
 have kp:∀ b,H b≠none->H' b=H b:=fun b hb=>by
  cases q:H b with
  | none=>exact absurd q hb
  | some o=>exact st.keep b o q rfl
 refine ⟨⟨fun b o e=>?_,g.le,g.ne,fun b h=>?_⟩,⟨fun b o e _=>st.keep b o e rfl,fun b h=>.inl h,Same.refl _,fun b h h'=>absurd h h',st.stay⟩,s.frame (Same.refl _) fun b _ hb=>kp b hb⟩
 . exact st.keep b o (g.sub b o e) rfl
 . exact st.stay b (g.has b h)
def ZrL(h:tM K (borV ca) σ H Q):tM K ca σ H Q:=by
 obtain ⟨δ,Hs,M,d,δ',g,s,e,q⟩:=h
 obtain ⟨G,S,back⟩:=lent g s
 unfold borV at e
 split at e
 . rename_i v δ1 e1
   cases e
   refine ⟨_,_,_,_,_,G,S,e1,fun v' H' Hs' m M' g' st r s'=>?_⟩
   cases r
   obtain ⟨G',S',R'⟩:=back H' Hs' _ (g'.re fun b=>Nat.le_refl _) st
   exact q _ H' Hs (fun _=>0) M (Za4 G') (S'.drop (fun b=>by simp) G'.le) (.sc _ _) R'
 . cases e
def ZoX(ha:PE X a (tM X.K ca)):PE X a (tM X.K (borV ca)):=PE.imp ha fun _ _ _ h=>ZrL h
end
open PyProof.Rows
section
variable{e k v:Expr}
structure ModT(K:Fg)(mg:SO)(x:Str)(vs:List V):Prop where
 ex:∃ a,mg x=some (.ref a)/\∃(o:Obj)(its:Array Value)(n:Nat),K.lookup a=some o/\o.cls=.type "tuple"/\o.data=.seq its n/\its.size<=sizeLine/\Vals vs its.toList
def Zm8(hg:Gl X x)(h:ModT X.K X.mg x vs)(hd:(x == ("__debug__":Str))=false):PE X (.Name x p) (tM X.K (M.ret (.node .ftp false (vs.map D.sc)))):=by
 obtain ⟨a,h,z⟩:=h.ex
 exact Zq0 (ZeG (v:=.ref a) hg h rfl hd) fun H Hs m=>.shd (vs:=vs) (.inr z) (ZeQ vs)
noncomputable def unV:Value->Option V
 | .int i _=>some (.int i)
 | .none=>some .non
 | _=>none
theorem Zh1:∀{vs:List V}{its:List Value},its.map unV=vs.map some->Vals vs its
 | [],[],_=>.nil
 | [],_::_,h=>by simp at h
 | _::_,[],h=>by simp at h
 | v::vs,u::its,h=>by
  (simp only [map_cons,List.cons.injEq] at h)
  refine .cons ?_ (Zh1 h.2)
  cases u<;>simp [unV] at h
  . rw [<- h.1];exact rfl
  . rw [<- h.1];exact ⟨_,rfl⟩
def Zkv{K:Fg}{h:Heap}{x:Str}{a:Addr}{vs:List V}{dct:Option Addr}{its:Array Value}{n:Nat}{sl:Array (Option Value)}(X:K.In h)(G:h.Ns mainGlobals mg)(hx:nsIn K mainGlobals x=some (some (.ref a)))(hl:K.lookup a=some ⟨.type "tuple",dct,.seq its n,sl⟩)(hs:its.size<=sizeLine)(hi:its.toList.map unV=vs.map some):ModT K mg x vs:=
 ⟨a,mg_of X G hx,_,its,n,hl,rfl,rfl,hs,Zh1 hi⟩
end
theorem us0{P:List Value->Prop}(h:P [])(us:List Value)(e:us.length=0):P us:=by
 cases us with
 | nil=>exact h
 | cons _ _=>cases e
theorem usS{P:List Value->Prop}{n:Nat}(h:∀ a,∀ us:List Value,us.length=n->P (a::us))(us:List Value)(e:us.length=n+1):P us:=by
 cases us with
 | nil=>cases e
 | cons a us=>exact h a us (Nat.succ.inj e)
def us1{P:List Value->Prop}(h:∀ a,P [a]):∀ us:List Value,us.length=1->P us:=usS fun a=>us0 (h a)
def us2{P:List Value->Prop}(h:∀ a b,P [a,b]):∀ us:List Value,us.length=2->P us:=usS fun a=>us1 (h a)
def us3{P:List Value->Prop}(h:∀ a b c,P [a,b,c]):∀ us:List Value,us.length=3->P us:=usS fun a=>us2 (h a)
def us4{P:List Value->Prop}(h:∀ a b c d,P [a,b,c,d]):∀ us:List Value,us.length=4->P us:=usS fun a=>us3 (h a)
def us5{P:List Value->Prop}(h:∀ a b c d e,P [a,b,c,d,e]):∀ us:List Value,us.length=5->P us:=usS fun a=>us4 (h a)
def us6{P:List Value->Prop}(h:∀ a b c d e f,P [a,b,c,d,e,f]):∀ us:List Value,us.length=6->P us:=usS fun a=>us5 (h a)
def Zkw:PSs X body (tS X.K lk (exs C [.raise (.k .non)])):=fun pins s σ H E I z0=>by obtain ⟨δ,Hs,M,f,δ',g,_,e,q⟩:=z0;cases e
noncomputable def nmOk(X:Cx)(i:Nat)(x:Str):Bool:=Zq X.env.scope X.N i x false || Zq X.env.scope X.N i x true || ZfQ X.env.scope X.N i x
noncomputable def tgOk(X:Cx)(i:Nat)(x:Str):Bool:=(Zq X.env.scope X.N i x false || Zq X.env.scope X.N i x true && X.fn x) && decide X.N.Nodup
abbrev glX(X:Cx)(x:Str):Prop:=glOk X.env.scope x=true
section
def qv(h:autoParam (nmOk X i x=true) Q8):PE X (.Name x pos) (tVar i):=by
 unfold nmOk at h
 simp only [or_eq_true] at h
 rcases h with (h|h)|h
 . exact pvs h
 . exact pvs h
 . exact pvf h
def ql(h:autoParam (nmOk X i x=true) Q8):PE X (.Name x pos) (tP X.K (ZR i)):=Zhk (qv h)
def qq(h:tgOk X i x=true):∃ b,Zq X.env.scope X.N i x b=true/\X.N.Nodup/\(X.fn x=true\/b=false):=by
 unfold tgOk at h
 simp only [or_eq_true,and_eq_true,decide_eq_true_eq] at h
 rcases h with ⟨h|⟨h,hf⟩,n⟩
 . exact ⟨_,h,n,.inr rfl⟩
 . exact ⟨_,h,n,.inl hf⟩
def qa(he:PE X e (tM X.K c))(h:autoParam (tgOk X i x=true) Q8)(hs:autoParam (swapsWith e (some (.Name x pos')) pos.line X.env=pure false) Q9):PS X (.Assign [.Name x pos'] e pos) (tS X.K lk (c.bnd fun d=>(asgN lk i d).bnd fun _=>M.ret .nx)):=by
 obtain ⟨b,h,n,f⟩:=qq h
 exact Zme h n he hs (hf:=f)
def qg(hr:PGs X es (gNs is))(h:autoParam (tgOk X i x=true) Q8)(hs:autoParam ((assignEach (.Name x pos::es) X.env).map (·.2)=assign (.Name x pos) X.env::(assignEach es X.env).map (·.2)) Q9):PGs X (.Name x pos::es) (gNs (i::is)):=by
 obtain ⟨b,h,n,f⟩:=qq h
 exact Zqy h n hr rfl rfl f hs
def qt(h:autoParam (tgOk X i x=true) Q8):PG X (.Name x pos) (gT X.K (.name i)):=by
 obtain ⟨b,h,n,f⟩:=qq h
 exact Zqz h n rfl rfl f
def cS(N':List Str)(h:autoParam (ZfM X.env.scope X.N k js N' scope=true) Q8):CompScope X k js N' scope:=.of h rfl rfl
def qs(S:CompScope X k js N' scope)(hi:PI X tg iter (tI X.K ik cs))
 (hin:∀(cl:List (Str×Addr))(C:Addr)(s₀:Shared)(H₀:Hp)(ex:List Addr),PG (cxC X N' scope cl C s₀ H₀ ex) tg (gT X.K tgt)/\PIf (cxC X N' scope cl C s₀ H₀ ex) ifs (tT X.K cc)/\PE (cxC X N' scope cl C s₀ H₀ ex) elt (tM X.K celt))
 (h:autoParam ((Zq X.env.scope X.N i x false && decide X.N.Nodup && Zdk X.env.scope scope x)=true) Q8) (hc:autoParam (X.calm=true) Q9) (hl:autoParam ((pos'.line == pos.line)=true) Q9) (hs:∀ x,foldedSetIterable iter X.env x=pure x:=by intro _;rfl):
 PS X (.Assign [.Name x pos'] (.ListComp elt [⟨tg,iter,ifs,0⟩] scope pos) spos) (tS X.K lk ((cs.bnd fun ps=>(Zr ps).bnd fun h=>(lift (itW ik h.1)).bnd fun items=>(Zab k js (ZH (asgT (fun i=>decide (k<=i)) tgt) cc celt items [])).bnd fun d=>(Z8 h.2).bnd fun _=>M.ret d).bnd fun d=>(asgN lk i d).bnd fun _=>M.ret .nx)):=by
 simp only [and_eq_true,decide_eq_true_eq] at h
 exact Zmd h.1.1 h.1.2 h.2 hc S hi hin hl rfl rfl hs
end
section
variable{e a b l r o k ke:Expr}{es:List Expr}{p p2 pos2:Pos}{x:Str}{n:Nat}{ps:List Str}{cs:M (List Op)}{ca cb:M Op}{A:Addr}{f:BF}{id ty:String}{tg:Expr}
def qi{t:Ty}{n:String}(hm:X.mg "isinstance"=none)(ha:PE X a (tP X.K ca))(hm2:X.mg (Str.ofString n)=none)(hv:bootBuiltins (Str.ofString n)=some (.type n))(h:autoParam (glX X "isinstance") Q8)(h2:autoParam (glX X (Str.ofString n)) Q8)(hn:autoParam (tyS t=some n) Q9)
 (hs:autoParam (starEach [a,.Name (Str.ofString n) p2] X.env=[(false,eval a X.env),(false,eval (.Name (Str.ofString n) p2) X.env)]) Q9) (hs1:autoParam (starEach [.Name (Str.ofString n) p2] X.env=[(false,eval (.Name (Str.ofString n) p2) X.env)]) Q9):
 PE X (.Call (.Name "isinstance" p) [a,.Name (Str.ofString n) p2] [] pos) (tM X.K ((ca.bnd fun p=>(M.ret ([]:List Op)).bnd fun ps=>M.ret (p::ps)).bnd fun ps=>(views ps).bnd fun ws=>lift (bfW (.isi t) ws))):=
 ZnO hn (glk h) hm ha (ZgV (glk h2) hm2 hv rfl (nmk h2) (dbk h2)) hs hs1
def qb(ha:PE X a (tP X.K ca))(hb:PE X b (tP X.K cb)):
 PE X (.BinOp a op b pos) (tM X.K (ca.bnd fun p=>cb.bnd fun q=>(view p).bnd fun x=>(view q).bnd fun y=>lift (binW op x y))):=ZnI (ZnJ _) ha hb
def qgi(h:∃ t,X.mg x=some (.int i t))(g:autoParam (glX X x) Q8):PE X (.Name x p) (tM X.K (M.ret (.sc (.int i)))):=Zr8 (glk g) h (dbk g)
def qgu(h:ModT X.K X.mg x vs)(g:autoParam (glX X x) Q8):PE X (.Name x p) (tM X.K (M.ret (.node .ftp false (vs.map D.sc)))):=Zm8 (glk g) h (dbk g)
def g_(h:autoParam (glX X x) Q8):Gl X x:=glk h
end
set_option genInjectivity false in
structure En where
 P:Program
 w:World
 K:Fg
 mg:Str->Option Value
 base:Heap
abbrev En.fn(e:En)(x:Str)(k:Nat)(ps:List Str)(f:FI):Prop:=FnAt e.P e.w e.K e.mg e.base x k ps (spF e.K f.run)
abbrev En.me(e:En)(C:Addr)(x:Str)(k:Nat)(ps:List Str)(f:FI):Prop:=MeAt e.P e.w e.K e.mg e.base C x k ps (spF e.K f.run)
abbrev En.nw(e:En)(x:Str)(C:Addr)(k:Nat)(ps:List Str)(f:FI):Prop:=MkAt e.P e.w e.K e.mg e.base x C k ps (spF e.K f.run)
noncomputable def scOk(N P:List Str)(sc:Scope):Bool:=sc.kind == .function && !sc.isCoroutine && !sc.isGenerator && decide N.Nodup && N.take P.length == P && P.all (fun x=>sc.names.lookup x == some .local || sc.names.lookup x == some .cell) && sc.names.all (fun y=>y.2 != .free)
def Zcy(h:scOk N P sc=true):FnScope N P sc:=by
 unfold scOk at h
 simp only [and_eq_true,decide_eq_true_eq,List.all_eq_true,or_eq_true,beq_iff_eq,bne_iff_ne,not_eq_true'] at h
 obtain ⟨⟨⟨⟨⟨⟨h1,h2⟩,h3⟩,h4⟩,h5⟩,h6⟩,h7⟩:=h
 exact ⟨h1,h2,h3,h4,h5,h6,h7⟩
def NI(K:Fg)(x:Str):Prop:=nsIn K mainGlobals x=some none
def TI(K:Fg)(x:Str)(st:Stmt):Prop:=∃ f fd,nsIn K mainGlobals x=some (some (.ref f))/\Fun K x x st f fd
def MI(K:Fg)(C:Addr)(x q:Str)(st:Stmt):Prop:=∃ f fd,findIn K (.ref C) x=some (some (.ref f))/\isFn K (.ref f)=true/\Fun K x q st f fd
structure CI(K:Fg)(x:Str)(C:Addr):Prop where
 at_:nsIn K mainGlobals x=some (some (.ref C))
 pg:plainGet K C Str.empty=true
 hd:hasDictIn K C=true
 po:plainOver K C=true
 sa:findIn K (.ref C) "__setattr__"=some (some (.builtin "object.__setattr__"))
 mk_:makesIn K C=true
 kp:keepIn K (.ref C)=true
section
variable{K:Fg}{x q:Str}{f C:Addr}{kV ct:Value}
def ZrM(h:nsIn K mainGlobals x=some (some (.ref f)))(l:K.lookup f=some ⟨oc,od,.func (fnOf x x (ZaS st) (ZD st) (Zl st) .none kV doc pm an cdv ct),osl⟩)(c:codeIn K cdv x=true)(k:keepIn K (.ref f)=true):TI K x st:=⟨f,_,h,ZfI l c k⟩
def ZrN(h:findIn K (.ref C) x=some (some (.ref f)))(y:isFn K (.ref f)=true)(l:K.lookup f=some ⟨oc,od,.func (fnOf x q (ZaS st) (ZD st) (Zl st) .none kV doc pm an cdv ct),osl⟩)(c:codeIn K cdv q=true)(k:keepIn K (.ref f)=true):MI K C x q st:=⟨f,_,h,y,ZfI l c k⟩
end
def CI.cl{K:Fg}{x:Str}{C:Addr}(c:CI K x C):Cls K C:=⟨c.pg,c.hd,c.po,c.sa⟩
def Bo(e:En):Prop:=∃ h,e.K.In h/\h.Ns mainGlobals e.mg
section
variable{e:En}{x q:Str}{N ps:List Str}{k n:Nat}{C:Ctx}{body:List S}{A:Addr}
abbrev us_(st:Stmt)(x q:Str)(ps:List Str):Prop:=∀(kV doc pm:Value)(an:Option Addr)(cdv ct:Value)(us:List Value),us.length=ps.length->bindArgs (fnOf x q (ZaS st) (ZD st) (Zl st) .none kV doc pm an cdv ct) ⟨us,[]⟩=pure (ps.zip us)
abbrev bd_(e:En)(N:List Str)(q:Str)(st:Stmt)(k n:Nat)(C:Ctx)(body:List S):Prop:=∀(f:Addr)(cdv:Value)(A:Around)(outer:List Env)(s:Shared)(H:Hp)(E:XK),Room k (A.deeper (envOfC q (Zl st) s.heap.objs.size f cdv))->
 PSs (cxOf CX0 e.P e.w e.K e.mg e.base N q (Zl st) f cdv A outer s H E).nox (ZD st) (tS e.K (fun i=>decide (i < n)) (exs { C with lock:=fun i=>decide (i < n) } body))
def Zas(Y:Bo e)(F:TI e.K x st)(N:List Str)(hb:bd_ e N x st k n C body)(hs:autoParam (scOk N ps (Zl st)=true) Q8)(hn:autoParam (ps.length=n) Q9)(hN:autoParam (N.length=nN) Q9)
 (us:us_ st x x ps:=by intro _ _ _ _ _ _;first|exact us1 fun _=>rfl|exact us2 fun _ _=>rfl|exact us3 fun _ _ _=>rfl|exact us4 fun _ _ _ _=>rfl|exact us5 fun _ _ _ _ _=>rfl|exact us6 fun _ _ _ _ _ _=>rfl):
 FnAt e.P e.w e.K e.mg e.base x (k+1) ps (spF e.K (Zh C n nN body)):=by
 obtain ⟨f,fd,h1,F⟩:=F
 obtain ⟨h,X,G⟩:=Y
 exact ⟨f,fd,ZdA F (Zcy hs) hn hN fun cdv A o s H E=>hb f cdv A o s H E,mg_of X G h1,F.kp,F.binds us⟩
abbrev bdH_(e:En)(N:List Str)(q:Str)(st:Stmt)(k n:Nat)(C:Ctx)(body:List S):Prop:=∀(f:Addr)(cdv:Value)(A:Around)(outer:List Env)(s:Shared)(H:Hp)(E:XK)(p:Addr×Obj×HO),RoomH k (A.deeper (envOfC q (Zl st) s.heap.objs.size f cdv))->A.handled=some (.ref p.1)->Lone p.2.1->
 PSs ({ cxOf CX0 e.P e.w e.K e.mg e.base N q (Zl st) f cdv A outer s H E with calm:=false,fz:=[p] }:Cx).nox (ZD st) (tS e.K (fun i=>decide (i < n)) (exs { C with lock:=fun i=>decide (i < n) } body))
def ZoY(Y:Bo e)(F:TI e.K x st)(N:List Str)(hb:bdH_ e N x st k n C body)(hs:autoParam (scOk N ps (Zl st)=true) Q8)(hn:autoParam (ps.length=n) Q9)(hN:autoParam (N.length=nN) Q9)
 (us:us_ st x x ps:=by intro _ _ _ _ _ _;first|exact us1 fun _=>rfl|exact us2 fun _ _=>rfl|exact us3 fun _ _ _=>rfl|exact us4 fun _ _ _ _=>rfl|exact us5 fun _ _ _ _ _=>rfl|exact us6 fun _ _ _ _ _ _=>rfl):
 FnAtH e.P e.w e.K e.mg e.base x (k+1) ps (spF e.K (Zh C n nN body)):=by
 obtain ⟨f,fd,h1,F⟩:=F
 obtain ⟨h,X,G⟩:=Y
 exact ⟨f,fd,by subst hn hN;exact Zmc F (Zcy hs) fun cdv A o s H E p=>hb f cdv A o s H E p,mg_of X G h1,F.kp,F.binds us⟩
abbrev En.fnH(e:En)(x:Str)(k:Nat)(ps:List Str)(f:FI):Prop:=FnAtH e.P e.w e.K e.mg e.base x k ps (spF e.K f.run)
def ZkZ(cl:Cls e.K A)(F:MI e.K A x q st)(N:List Str)(hb:bd_ e N q st k n C body)(hs:autoParam (scOk N ps (Zl st)=true) Q8)(hn:autoParam (ps.length=n) Q9)(hN:autoParam (N.length=nN) Q9)
 (us:us_ st x q ps:=by intro _ _ _ _ _ _;first|exact us1 fun _=>rfl|exact us2 fun _ _=>rfl|exact us3 fun _ _ _=>rfl|exact us4 fun _ _ _ _=>rfl|exact us5 fun _ _ _ _ _=>rfl|exact us6 fun _ _ _ _ _ _=>rfl):
 MeAt e.P e.w e.K e.mg e.base A x (k+1) ps (spF e.K (Zh C n nN body)):=by
 obtain ⟨f,fd,h1,y,F⟩:=F
 exact ⟨⟨f,fd,ZdA F (Zcy hs) hn hN fun cdv A o s H E=>hb f cdv A o s H E,⟨h1,y,F.kp⟩,F.binds us⟩,cl⟩
def ZoZ(F:Fun e.K x x st f fd)(N:List Str)(hb:bd_ e N x st k n C body)(hs:autoParam (scOk N ps (Zl st)=true) Q8)(hn:autoParam (ps.length=n) Q9)(hN:autoParam (N.length=nN) Q9):
 FnOk e.P e.w e.K e.mg e.base CX0 (k+1) f fd ps (spF e.K (Zh C n nN body)):=ZdA F (Zcy hs) hn hN fun cdv A o s H E=>hb f cdv A o s H E
end
def LT(K:Fg)(mg:SO)(cn:Str):Prop:=∃ D',mg cn=some (.ref D')/\XC K D'/\GX K cn D'
def LX(K:Fg)(mg:SO)(cn:Str):Prop:=∃ D',mg cn=some (.ref D')/\GX K cn D'/\typeIn K (.ref D')=some (.type "type")
def L0(K:Fg)(mg:SO)(cn:Str):Prop:=∃ D',mg cn=some (.ref D')/\XN K [cn,"LabelError"] D'/\findIn K (.ref D') (Str.ofString "__init__")=some (some (.builtin "ValueError.__init__"))
def LI(K:Fg)(mg:SO)(cn:Str):Prop:=∃ D',mg cn=some (.ref D')/\XI K D'
section
def qty(F:Fr0 X X.A)(L:LT X.K X.mg cn)(hb:PXs X body (tX X.K lk cb))(hs:∀ v,PSs (X.inH v) (b₀::suite) (tS X.K lk csu))(h:autoParam ((Zq X.env.scope X.N i x false && decide X.N.Nodup)=true) Q8)(g:autoParam (glX X cn) Q8)(hx:∀ e s,¬ X.xe e s:=by exact fun _ _ h=>h):
 PX X (.Try body [.ExceptHandler (some (.Name cn np)) (some x) (b₀::suite) hp] [] [] pos) (tX X.K lk (tryM lk cb cn (some i) csu)):=by
 obtain ⟨D',h1,h2,h3⟩:=L
 simp only [and_eq_true,decide_eq_true_eq] at h
 exact Zkp F hx h.1 h.2 hb hs (glk g) h1 h2 h3 (dbk g)
def qtyF(F:Fr0 X X.A)(L:LT X.K X.mg cn)(hb:PXs X body (tX X.K lk cb))(hs:∀ p:Addr×Obj×HO,Lone p.2.1->PSs (X.inHF p) (b₀::suite) (tS X.K lk csu))(h:autoParam ((Zq X.env.scope X.N i x false && decide X.N.Nodup)=true) Q8)(g:autoParam (glX X cn) Q8)(hx:∀ e s,¬ X.xe e s:=by exact fun _ _ h=>h):
 PX X (.Try body [.ExceptHandler (some (.Name cn np)) (some x) (b₀::suite) hp] [] [] pos) (tX X.K lk (ZcO lk cb cn i csu)):=by
 obtain ⟨D',h1,h2,h3⟩:=L
 simp only [and_eq_true,decide_eq_true_eq] at h
 exact Zji F hx h.1 h.2 hb hs (glk g) h1 h2 h3 (dbk g)
def qiX(L:LX X.K X.mg cn)(hm:X.mg "isinstance"=none)(ha:PE X a (tP X.K ca))(h:autoParam (glX X "isinstance") Q8)(g:autoParam (glX X cn) Q8)
 (hs:autoParam (starEach [a,.Name cn p2] X.env=[(false,eval a X.env),(false,eval (.Name cn p2) X.env)]) Q9) (hs1:autoParam (starEach [.Name cn p2] X.env=[(false,eval (.Name cn p2) X.env)]) Q9):
 PE X (.Call (.Name "isinstance" p) [a,.Name cn p2] [] pos) (tM X.K ((ca.bnd fun p=>(M.ret ([]:List Op)).bnd fun ps=>M.ret (p::ps)).bnd fun ps=>(views ps).bnd fun ws=>lift (bfW (.isiX cn) ws))):=by
 obtain ⟨D',h1,h2,h3⟩:=L
 exact Zm2 h2 h3 (glk h) hm ha (ZeG (v:=.ref D') (glk g) h1 rfl (dbk g)) hs hs1
def qiV(hm2:X.mg "ValueError"=none)(hm:X.mg "isinstance"=none)(ha:PE X a (tP X.K ca))(h:autoParam (glX X "isinstance") Q8)(g:autoParam (glX X "ValueError") Q8)
 (hs:autoParam (starEach [a,.Name "ValueError" p2] X.env=[(false,eval a X.env),(false,eval (.Name "ValueError" p2) X.env)]) Q9) (hs1:autoParam (starEach [.Name "ValueError" p2] X.env=[(false,eval (.Name "ValueError" p2) X.env)]) Q9):
 PE X (.Call (.Name "isinstance" p) [a,.Name "ValueError" p2] [] pos) (tM X.K ((ca.bnd fun p=>(M.ret ([]:List Op)).bnd fun ps=>M.ret (p::ps)).bnd fun ps=>(views ps).bnd fun ws=>lift (bfW .isiV ws))):=
 Zm4 (glk h) hm ha (ZgV (v:=.ty "ValueError") (glk g) hm2 Zgl rfl (nmk g) (dbk g)) hs hs1
def qr0(L:L0 X.K X.mg x)(g:autoParam (glX X x) Q8)(hc:autoParam (X.calm=true) Q9):PX X (.Raise (some (.Call (.Name x p) [] [] pos')) none pos) (tX X.K lk (Zbc (.node (.exc [x,"LabelError"] true []) true []))):=by
 obtain ⟨D',h1,h2,h3⟩:=L
 exact Zig hc h2 h3 (glk g) h1 (dbk g)
structure XMd(P:Program)(w:World)(K:Fg)(mg:SO)(base:Heap)(x:Str)(ns:List Str)(k:Nat)(ps:List Str)(sp:Sp):Prop where
 ex:∃(C f:Addr)(fd:FuncData),XN K ns C/\findIn K (.ref C) (Str.ofString "__init__")=some (some (.ref f))/\typeIn K (.ref f)=some (.type "function")/\FnOk P w K mg base CX0 k f fd ps sp/\mg x=some (.ref C)/\Binds K fd ps [.none]
end
section
variable{e:En}{x q:Str}{N ps:List Str}{k n:Nat}{C:Ctx}{body:List S}{A:Addr}
abbrev En.fx(e:En)(x:Str)(k:Nat)(ps:List Str)(f:FI):Prop:=FnAtX e.P e.w e.K e.mg e.base x k ps (spX e.K f.run)
abbrev En.xi(e:En)(x:Str)(k:Nat)(ps:List Str)(f:FI):Prop:=XMk e.P e.w e.K e.mg e.base x [x,"LabelError"] k ps (spF e.K f.run)
abbrev En.xd(e:En)(x:Str)(k:Nat)(ps:List Str)(f:FI):Prop:=XMd e.P e.w e.K e.mg e.base x [x,"LabelError"] k ps (spF e.K f.run)
abbrev bx_(e:En)(N:List Str)(q:Str)(st:Stmt)(k n:Nat)(C:Ctx)(body:List S):Prop:=∀(f:Addr)(cdv:Value)(A:Around)(outer:List Env)(s:Shared)(H:Hp)(E:XK),Fr0 (cxOf CX0 e.P e.w e.K e.mg e.base N q (Zl st) f cdv A outer s H E).nox (A.deeper (envOfC q (Zl st) s.heap.objs.size f cdv))->Room k (A.deeper (envOfC q (Zl st) s.heap.objs.size f cdv))->
 PXs (cxOf CX0 e.P e.w e.K e.mg e.base N q (Zl st) f cdv A outer s H E).nox (ZD st) (tX e.K (fun i=>decide (i < n)) (exs { C with lock:=fun i=>decide (i < n) } body))
def Zij(Y:Bo e)(F:TI e.K x st)(N:List Str)(hb:bx_ e N x st k n C body)(hs:autoParam (scOk N ps (Zl st)=true) Q8)(hn:autoParam (ps.length=n) Q9)(hN:autoParam (N.length=nN) Q9)
 (us:us_ st x x ps:=by intro _ _ _ _ _ _;first|exact us1 fun _=>rfl|exact us2 fun _ _=>rfl|exact us3 fun _ _ _=>rfl|exact us4 fun _ _ _ _=>rfl|exact us5 fun _ _ _ _ _=>rfl|exact us6 fun _ _ _ _ _ _=>rfl):
 FnAtX e.P e.w e.K e.mg e.base x (k+1) ps (spX e.K (Zh C n nN body)):=by
 obtain ⟨f,fd,h1,F⟩:=F
 obtain ⟨h,X,G⟩:=Y
 exact ⟨f,fd,ZeU F (Zcy hs) hn hN fun cdv A o s H E=>hb f cdv A o s H E,mg_of X G h1,F.kp,F.binds us⟩
def DI(K:Fg)(C:Addr)(q:Str)(st:Stmt):Prop:=∃ f fd T dt it nt sl,findIn K (.ref C) (Str.ofString "__init__")=some (some (.ref f))/\typeIn K (.ref f)=some (.type "function")/\FunV (.ref T) K "__init__" q st f fd/\K.lookup T=some ⟨.type "tuple",dt,.seq it nt,sl⟩/\it=#[Value.none]
def ZrO{K:Fg}{C f T:Addr}{dt:Option Addr}{sl:Array (Option Value)}{kV ct:Value}{it:Array Value}{nt:Nat}(h:findIn K (.ref C) (Str.ofString "__init__")=some (some (.ref f)))(y:typeIn K (.ref f)=some (.type "function"))(l:K.lookup f=some ⟨oc,od,.func (fnOf "__init__" q (ZaS st) (ZD st) (Zl st) (.ref T) kV doc pm an cdv ct),osl⟩)
 (c:codeIn K cdv q=true) (k:keepIn K (.ref f)=true) (t:K.lookup T=some ⟨.type "tuple",dt,.seq it nt,sl⟩) (z:it=#[Value.none]):DI K C q st:=⟨f,_,T,dt,it,nt,sl,h,y,⟨⟨oc,od,kV,doc,pm,an,cdv,ct,osl,rfl,l,c⟩,k⟩,t,z⟩
structure LB(K:Fg)(L:Addr):Prop where
 x:nsIn K mainGlobals "LabelError"=some (some (.ref L))
 gx:GX K "LabelError" L
 xc:XC K L
 tl:tailIn K bmV (.ref L::bmV)=true
structure XB(K:Fg)(L:Addr)(x:Str)(C:Addr):Prop where
 at_:nsIn K mainGlobals x=some (some (.ref C))
 lk:∃(q:Str)(N:Addr)(bs:List Value)(sn:List Str)(sub:List Value)(ab:Bool)(col:Option Bool)(dd:Option Addr)(k0 k1 k2 k3 k5:Option Value),K.lookup C=some (excClassObj x q C N bs (.ref L::bmV) true sn sub ab col dd k0 k1 k2 k3 k5 "ValueError.__new__")
structure XA(K:Fg)(C:Addr):Prop where
 sa:findIn K (.ref C) (Str.ofString "__setattr__")=some (some (.builtin "object.__setattr__"))
 ga:findIn K (.ref C) (Str.ofString "__getattribute__")=some (some (.builtin "BaseException.__getattribute__"))
 kp:keepIn K (.ref C)=true
 hk:findIn K (.ref C) (Str.ofString "__getattr__")=some none
 hc:findIn K (.ref C) "__class__"=some (some (.builtin "object.__class__"))
 hn:specialIn K (.builtin "object.__class__") "__get__"=some (some (.builtin "getset_descriptor.__get__"))
 ht:takesIn K (.builtin "object.__class__")=some true
 n1:findIn K (.ref C) "row"=some none
 n2:findIn K (.ref C) "number"=some none
 n3:findIn K (.ref C) "length"=some none
 n4:findIn K (.ref C) "numbers"=some none
end
section
variable{K:Fg}{n:Str}{C:Addr}{q qL:Str}{N NL:Addr}{bs bsL:List Value}{sn snL:List Str}{sub subL:List Value}{ab abL:Bool}{col colL:Option Bool}{dd ddL:Option Addr}{k0 k1 k2 k3 k5 l0 l1 l2 l3 l5:Option Value}
def ZrP(x:nsIn K mainGlobals "LabelError"=some (some (.ref L)))(lL:K.lookup L=some (excClassObj "LabelError" qL L NL bsL bmV true snL subL abL colL ddL l0 l1 l2 l3 l5 "ValueError.__new__"))(ln:K.lookup NL=some ⟨oc,od,.dict es ep,sl⟩)(he:es.all Zgk=true)
 (hi:nsIn K NL (Str.ofString "__init__")=some none) (sa:findIn K (.ref L) (Str.ofString "__setattr__")=some (some (.builtin "object.__setattr__"))) (ga:findIn K (.ref L) (Str.ofString "__getattribute__")=some (some (.builtin "BaseException.__getattribute__"))) (kp:keepIn K (.ref L)=true):LB K L:=
 ⟨x,Zih x lL,ZkX lL ZkY (show ZbD bmV=true by decide +kernel) sa ga kp,ZrD lL ln he hi⟩
def ZrQ(x:nsIn K mainGlobals n=some (some (.ref C)))(lk:K.lookup C=some (excClassObj n q C N bs (.ref L::bmV) true sn sub ab col dd k0 k1 k2 k3 k5 "ValueError.__new__")):XB K L n C:=⟨x,_,_,_,_,_,_,_,_,_,_,_,_,_,lk⟩
def XB.xn(b:XB K L n C)(l:LB K L)(a:XA K C):XN K [n,"LabelError"] C:=by
 obtain ⟨x,q,N,bs,sn,sub,ab,col,dd,k0,k1,k2,k3,k5,lk⟩:=b
 exact ZrF x lk l.gx l.tl a.sa a.ga a.kp a.hk a.hc a.hn a.ht a.n1 a.n2 a.n3 a.n4
def XB.lx(b:XB K L n C)(X:K.In h)(G:h.Ns mainGlobals mg):LX K mg n:=by
 obtain ⟨x,q,N,bs,sn,sub,ab,col,dd,k0,k1,k2,k3,k5,lk⟩:=b
 exact ⟨C,mg_of X G x,Zih x lk,ZrE lk⟩
end
structure MeAtX(P:Program)(w:World)(K:Fg)(mg:SO)(base:Heap)(C:Addr)(m:Str)(k:Nat)(ps:List Str)(sp:Sp):Prop where
 ex:∃(f:Addr)(fd:FuncData),FnOk P w K mg base (CXx P w) k f fd ps sp/\Meth K C m f/\Binds K fd ps []
 cl:Cls K C
section
theorem Zkx(G:MeAtX X.prog X.w X.K X.mg X.base A m j ps (spX X.K fi.run))(hr:Room n X.A)(ho:PE X o (tP X.K ca))(ha:PA X (e::es) (tPs X.K cs))(hj:autoParam (j<=n) Q7)
 (hst:autoParam (SE X e es) Q9) (hpl:autoParam (SFx X pos es) Q9)
 (ht:autoParam (eval (.Call (.Attribute o m apos) (e::es) [] pos) X.env=(do
  let ov <- eval o X.env
  standAt apos.atName
  let (f,first) <- holding [ov] (getMethod ov m pl)
  callWith pos f first (backTo pos (starEach (e::es) X.env)) (backToKw pos (keywordEach [] X.env)))) Q9):
 PEx X (.Call (.Attribute o m apos) (e::es) [] pos) (tMX X.K ((clm ca).bnd fun p=>(chkI A m p).bnd fun _=>(clm cs).bnd fun ps=>ZbE fi (p::ps))):=by
 have nxa:=ZbP ca
 have nx:=ZbP cs
 replace ho:=ZoK ho
 replace ha:=Ze4 ha
 generalize clm ca=ca at nxa ho ⊢
 generalize clm cs=cs at nx ha ⊢
 obtain ⟨f,fd,F,hm,hb⟩:=G.ex
 refine PEx.imp (ZjP ho G.cl hm F (hr.mono hj) hb .nil ha hst hpl ht) fun σ H Q Ex h=>?_
 obtain ⟨δ,Hs,M,g,s,q⟩:=h
 unfold T.M.bnd at q
 cases e1:ca δ with
 | exc x y=>exact absurd e1 (nxa _ _ _)
 | stuck=>rw [e1] at q;exact q.elim
 | ok z=>
  obtain ⟨p,δ1⟩:=z
  rw [e1] at q
  dsimp only at q
  cases e2:chkI A m p δ1 with
  | exc x y=>exact absurd e2 (Zmv _ _ _ _ _ _)
  | stuck=>rw [e2] at q;exact q.elim
  | ok z=>
   obtain ⟨u,δ2⟩:=z
   rw [e2] at q
   dsimp only at q
   cases e3:cs δ2 with
   | exc x y=>exact absurd e3 (nx _ _ _)
   | stuck=>rw [e3] at q;exact q.elim
   | ok z=>
    obtain ⟨qs,δ3⟩:=z
    rw [e3] at q
    refine ⟨δ,Hs,M,p,δ1,g,s,e1,fun x H1 Hs1 m1 M1 g1 st1 r1 s1=>?_⟩
    obtain ⟨rfl,a,dx,fs,hx,ha',hl⟩:=Zhq g1 s1 r1 e2
    refine ⟨a,dx,fs,hx,ha',hl,δ2,Hs1,M1,qs,δ3,g1.re,s1,e3,fun vs H2 Hs2 m2 M2 g2 st2 r2 s2=>?_⟩
    obtain ⟨G2,S2,k2⟩:=Zo g g1 st1 g2 st2
    have r1':=RepP.frame st2.grow k2 r1
    show spX X.K fi.run (x::(vs++[])) H2 Q _
    rw [append_nil]
    exact Zfu (m1:=fun b=>m1 b+m2 b) g (G2.re fun b=>by (try dsimp only);omega) (S2.drop (fun b=>by (try dsimp only);omega) G2.le) (show Za3 X.K H2 Hs2 σ (x::vs) (p::qs) (fun b=>m1 b+m2 b) from ⟨m1,m2,r1',r2,fun b=>Nat.le_refl _⟩) s2 q
end
section
def qmx(G:MeAtX X.prog X.w X.K X.mg X.base A m j ps (spX X.K fi.run))(hr:Room n X.A)(ho:PE X o (tP X.K (ZR i)))(ha:PA X (e::es) (tPs X.K (opds C es')))(hj:autoParam (j<=n) Q7)
 (hst:autoParam (SE X e es) Q9) (hpl:autoParam (SFx X pos es) Q9)
 (ht:autoParam (eval (.Call (.Attribute o m apos) (e::es) [] pos) X.env=(do
  let ov <- eval o X.env
  standAt apos.atName
  let (f,first) <- holding [ov] (getMethod ov m pl)
  callWith pos f first (backTo pos (starEach (e::es) X.env)) (backToKw pos (keywordEach [] X.env)))) Q9):
 PEx X (.Call (.Attribute o m apos) (e::es) [] pos) (tMX X.K (yev C (.meth A m fi (.v i) es'))):=Zkx G hr ho ha hj hst hpl ht
end
section
variable{e:En}{x q:Str}{N ps:List Str}{k n:Nat}{C:Ctx}{body:List S}{A:Addr}
abbrev En.mx(e:En)(C:Addr)(x:Str)(k:Nat)(ps:List Str)(f:FI):Prop:=MeAtX e.P e.w e.K e.mg e.base C x k ps (spX e.K f.run)
def Zpa(cl:Cls e.K A)(F:MI e.K A x q st)(N:List Str)(hb:bx_ e N q st k n C body)(hs:autoParam (scOk N ps (Zl st)=true) Q8)(hn:autoParam (ps.length=n) Q9)(hN:autoParam (N.length=nN) Q9)
 (us:us_ st x q ps:=by intro _ _ _ _ _ _;first|exact us1 fun _=>rfl|exact us2 fun _ _=>rfl|exact us3 fun _ _ _=>rfl):
 MeAtX e.P e.w e.K e.mg e.base A x (k+1) ps (spX e.K (Zh C n nN body)):=by
 obtain ⟨f,fd,h1,y,F⟩:=F
 exact ⟨⟨f,fd,ZeU F (Zcy hs) hn hN fun cdv A o s H E=>hb f cdv A o s H E,⟨h1,y,F.kp⟩,F.binds us⟩,cl⟩
def II(K:Fg)(C:Addr)(q:Str)(st:Stmt):Prop:=∃ f fd,findIn K (.ref C) (Str.ofString "__init__")=some (some (.ref f))/\typeIn K (.ref f)=some (.type "function")/\Fun K "__init__" q st f fd
def ZrR{K:Fg}{C f:Addr}{kV ct:Value}(h:findIn K (.ref C) (Str.ofString "__init__")=some (some (.ref f)))(y:typeIn K (.ref f)=some (.type "function"))(l:K.lookup f=some ⟨oc,od,.func (fnOf "__init__" q (ZaS st) (ZD st) (Zl st) .none kV doc pm an cdv ct),osl⟩)
 (c:codeIn K cdv q=true) (k:keepIn K (.ref f)=true):II K C q st:=⟨f,_,h,y,ZfI l c k⟩
def Zla(Y:Bo e)(c:∃ C,e.mg x=some (.ref C)/\XN e.K [x,"LabelError"] C/\II e.K C q st)(N:List Str)(hb:bd_ e N q st k n C body)(hs:autoParam (scOk N ps (Zl st)=true) Q8)(hn:autoParam (ps.length=n) Q9)(hN:autoParam (N.length=nN) Q9)
 (us:us_ st "__init__" q ps:=by intro _ _ _ _ _ _;exact us2 fun _ _=>rfl):
 XMk e.P e.w e.K e.mg e.base x [x,"LabelError"] (k+1) ps (spF e.K (Zh C n nN body)):=by
 obtain ⟨C',m,xn,f,fd,h1,h2,F⟩:=c
 exact ⟨C',f,fd,xn,h1,h2,ZdA F (Zcy hs) hn hN fun cdv A o s H E=>hb f cdv A o s H E,m,F.binds us⟩
end
section
def Zm9(hp:PassesOwn (model X.prog X.w) X.A X.env X.xe)(hc:X.calm=true)(hw:HWs (opds C ies) (fun j=>C.lock j || walked ies j))(hi:PI X tg iter (tI X.K ik (opds C ies)))(hg:PG X tg (gT X.K tgt))(hb:PSs X body (tS X.K (fun j=>C.lock j || walked ies j) (exs { C with lock:=fun j=>C.lock j || walked ies j } body')))(hs:∀ x,foldedSetIterable iter X.env x=pure x:=by intro _;rfl)(hl:autoParam (C.lock=lk) Q9):
 PS X (.For tg iter body [] pos) (tS X.K lk (ex C (.for_ tgt ik ies body'))):=by
 subst hl
 have e:ex C (.for_ tgt ik ies body')=((opds C ies).bnd fun ps=>(Zr ps).bnd fun h=>(lift (itW ik h.1)).bnd fun items=>(forL (asgT (fun j=>C.lock j || walked ies j) tgt) (exs { C with lock:=fun j=>C.lock j || walked ies j } body') items).bnd fun f=>(Z8 h.2).bnd fun _=>M.ret f):=rfl
 rw [e]
 exact ZcB hp hc (ZcR _ _) hw hi hg hb hs
end
def Zky(C:Ctx)(A:Addr)(m:Str)(fi:FI)(o:E)(es:List E):yev C (.meth A m fi o es)=((clm (Zn o (evb C o).1)).bnd fun p=>(chkI A m p).bnd fun _=>(clm (opds C es)).bnd fun ps=>ZbE fi (p::ps)):=(rfl)
def Zh2(C:Ctx)(A:Addr)(fi:FI)(es:List E):yev C (.new A fi es)=((clm (opds C es)).bnd fun ps=>makX A fi ps):=(rfl)
def stand{K:Fg}{σ:L2.St}{Hs2:Hp}{M M2 m2:Bud}{A x:Addr}{vs:List V}{ds δ2:List D}(G2:Good H1 Hs2 (fun b=>M2 b+m2 b))(S2:Stp H Hs M H1 Hs2 (fun b=>M2 b+m2 b))(hx:H1 x=none)(hdx:H1 dx=none)(hne:dx≠x)(q2:RepL K H1 Hs2 vs ds m2)(s2:RepS K H1 Hs2 σ δ2 M2):
 Good (upd (upd H1 dx (.own x)) x (.ins A dx [])) Hs2 (fun b=>M2 b+(one x b+m2 b))/\Stp H Hs M (upd (upd H1 dx (.own x)) x (.ins A dx [])) Hs2 (fun b=>M2 b+(one x b+m2 b))/\RepL K (upd (upd H1 dx (.own x)) x (.ins A dx [])) Hs2 (.ref x::vs) (.node (.ins A []) true []::ds) (fun b=>one x b+m2 b)/\RepS K (upd (upd H1 dx (.own x)) x (.ins A dx [])) Hs2 σ δ2 M2:=by
 have hsx:Hs2 x=none:=by
  cases w:Hs2 x with
  | none=>rfl
  | some o=>rw [G2.sub x o w] at hx;cases hx
 have zz:∀ b,H1 b=none->M2 b=0/\m2 b=0:=fun b hb=>by
  have l:M2 b+m2 b<=1:=G2.le b
  have:M2 b+m2 b≠1:=fun e=>G2.has b e hb
  omega
 have nw:∀ b,b≠x->b≠dx->upd (upd H1 dx (.own x)) x (.ins A dx []) b=H1 b:=fun b h1 h2=>by rw [Zj h1,Zj h2]
 have atx:upd (upd H1 dx (.own x)) x (.ins A dx []) x=some (.ins A dx []):=Zk
 have old:∀ b,H1 b≠none->b≠x/\b≠dx:=fun b hb=>⟨fun e=>hb (by rw [e];exact hx),fun e=>hb (by rw [e];exact hdx)⟩
 have same:Same H1 (upd (upd H1 dx (.own x)) x (.ins A dx [])):=fun b o e=>by
  obtain ⟨h1,h2⟩:=old b (by rw [e];simp)
  rw [nw b h1 h2];exact e
 have fr:∀ b,H1 b≠none->upd (upd H1 dx (.own x)) x (.ins A dx []) b=H1 b:=fun b hb=>nw b (old b hb).1 (old b hb).2
 refine ⟨⟨fun b o e=>same b o (G2.sub b o e),fun b=>?_,fun b hb=>?_,fun b hb=>?_⟩,⟨fun b o e z=>same b o (S2.keep b o e z),fun b hb=>?_,S2.grow,S2.shr,fun b hb=>?_⟩,?_,RepS.frame (Same.refl _) (fun b _ hb=>fr b hb) s2⟩
 . have l:M2 b+m2 b<=1:=G2.le b
   unfold one
   (try dsimp only)
   split
   . rename_i e;subst e;have:=zz b hx;omega
   . omega
 . by_cases e:b=x
   . subst e;exact hsx
   . have hb:M2 b+(one x b+m2 b)=1:=hb
     simp only [one,if_neg e] at hb
     exact G2.ne b (by show M2 b+m2 b=1;omega)
 . by_cases e:b=x
   . subst e;rw [atx];simp
   . have hb:M2 b+(one x b+m2 b)=1:=hb
     simp only [one,if_neg e] at hb
     have:=G2.has b (by show M2 b+m2 b=1;omega)
     obtain ⟨h1,h2⟩:=old b this
     rw [nw b h1 h2];exact this
 . by_cases e:b=x
   . subst e
     right
     cases w:H b with
     | none=>rfl
     | some o=>exact absurd hx (S2.stay b (by rw [w];simp))
   . have hb:M2 b+(one x b+m2 b)=1:=hb
     simp only [one,if_neg e] at hb
     exact S2.own b (by show M2 b+m2 b=1;omega)
 . have:=S2.stay b hb
   obtain ⟨h1,h2⟩:=old b this
   rw [nw b h1 h2];exact this
 . exact .cons (.own (vs:=[]) (m':=fun _=>0) ⟨rfl,dx,atx⟩ (.nil _) fun b=>by simp) (q2.frame (Same.refl _) fun b _ hb=>fr b hb) fun b=>Nat.le_refl _
theorem Zkz{K:Fg}{σ:L2.St}{Hs1:Hp}{M m1 M1:Bud}{δ1:List D}{ps:List Op}{vs:List V}{Q:VK}{Ex:Addr->Hp->Prop}{A x:Addr}(g:Good H Hs M)(g1:Good H1 Hs1 (fun b=>m1 b+M1 b))(st1:Stp H Hs M H1 Hs1 (fun b=>m1 b+M1 b))
 (r1:Za3 K H1 Hs1 σ vs ps m1) (s1:RepS K H1 Hs1 σ δ1 M1) (hx:H1 x=none) (hdx:H1 dx=none) (hne:dx≠x)
 (q:match makX A fi ps δ1 with
  | .ok (d,δ')=>∀(v:V)(H' Hs':Hp)(m M':Bud),Good H' Hs' (fun b=>m b+M' b)->Stp H Hs M H' Hs' (fun b=>m b+M' b)->Rep K H' Hs' v d m->RepS K H' Hs' σ δ' M'->Q v H'
  | .exc x δ'=>∀(ea:Addr)(H' Hs':Hp)(m M':Bud),Good H' Hs' (fun b=>m b+M' b)->Stp H Hs M H' Hs' (fun b=>m b+M' b)->Rep K H' Hs' (.ref ea) x m->RepS K H' Hs' σ δ' M'->Ex ea H'
  | .stuck=>False):spX K fi.run (.ref x::vs) (upd (upd H1 dx (.own x)) x (.ins A dx [])) (fun v H2=>v=.non/\Q (.ref x) H2) (fun v _ H'=>∃ ea,v=.ref ea/\Ex ea H'):=by
 unfold makX T.M.bnd at q
 cases e2:ZJ fi.lend ps δ1 with
 | exc x y=>exact absurd e2 (Zcx _ _ _ _ _)
 | stuck=>rw [e2] at q;exact q.elim
 | ok z=>
  obtain ⟨ds,δ2⟩:=z
  rw [e2] at q
  dsimp only at q
  obtain ⟨Hs2,m2,M2,g2,st2,q2,s2⟩:=Zb8 (B:=fun _=>0) (g1.re fun b=>by simp) s1 r1 e2
  have z0:=Zo (m1:=fun _=>0) g (g1.re fun b=>by simp) (st1.drop (fun b=>by simp) g1.le) (g2.re fun b=>by simp) (M1:=fun b=>m1 b+M1 b) (M2:=fun b=>m2 b+M2 b) (by
   have:=st2
   exact ⟨fun b o h z=>this.keep b o h (by simpa using z),fun b h=>by have:=this.own b (by simpa using h);simpa using this,this.grow,fun b h h'=>by have:=this.shr b h h';simpa using this,this.stay⟩)
  have G2:Good H1 Hs2 (fun b=>M2 b+m2 b):=g2.re fun b=>by simp;omega
  have S2:Stp H Hs M H1 Hs2 (fun b=>M2 b+m2 b):=z0.2.1.drop (fun b=>by simp;omega) z0.1.le
  obtain ⟨G3,S3,q3,s3⟩:=stand (A:=A) G2 S2 hx hdx hne q2 s2
  refine ⟨_,Hs2,fun b=>one x b+m2 b,G3.re fun b=>by (try dsimp only);omega,q3,?_⟩
  cases hF:fi.run (.node (.ins A []) true []::ds) with
  | stuck=>rw [hF] at q;exact q.elim
  | ok r=>
   obtain ⟨d',ds'⟩:=r
   rw [hF] at q
   intro v H4 Hs4 n1 n2 g4 st4 r4 rl4
   match d',ds',q,r4,rl4 with
   | .sc .non,dI::ds',q,r4,rl4=>
    obtain ⟨δ3,e3⟩:=ZaX ps ds' δ2
    dsimp only at q
    rw [e3] at q
    cases r4
    refine ⟨rfl,?_⟩
    cases rl4 with
    | @cons _ _ _ _ k1 k2 _ ra rb lk=>
     obtain ⟨G,S,k⟩:=Zo g G3 S3 g4 st4
     have s4:=RepS.frame st4.grow k s3
     have fin:=ZaN s4 rb (lates r1) e3
     exact q _ H4 Hs4 k1 (fun b=>k2 b+M2 b) (G.re fun b=>by have:=lk b;(try dsimp only);omega) (S.drop (fun b=>by have:=lk b;(try dsimp only);omega) G.le) ra fin
  | exc y ds'=>
   rw [hF] at q
   intro ea H4 Hs4 n1 n2 g4 st4 r4 rl4
   match ds',q,rl4 with
   | dI::ds',q,rl4=>
    obtain ⟨δ3,e3⟩:=ZaX ps ds' δ2
    dsimp only at q
    rw [e3] at q
    cases rl4 with
    | @cons _ _ _ _ k1 k2 _ ra rb lk=>
     obtain ⟨G,S,k⟩:=Zo g G3 S3 g4 st4
     have s4:=RepS.frame st4.grow k s3
     have fin:=ZaN s4 rb (lates r1) e3
     exact ⟨ea,rfl,q ea H4 Hs4 n1 (fun b=>k2 b+M2 b) (G.re fun b=>by have:=lk b;(try dsimp only);omega) (S.drop (fun b=>by have:=lk b;(try dsimp only);omega) G.le) r4 fin⟩
structure MkAtX(P:Program)(w:World)(K:Fg)(mg:SO)(base:Heap)(x:Str)(C:Addr)(k:Nat)(ps:List Str)(sp:Sp):Prop where
 ex:∃(f:Addr)(fd:FuncData),FnOk P w K mg base (CXx P w) k f fd ps sp/\Mk K C f/\mg x=some (.ref C)/\Binds K fd ps []
def MkAtX.calm{P:Program}{w:World}{K:Fg}{x:Str}{C:Addr}{k:Nat}{ps:List Str}{R:List D->Rs (D×List D)}(G:MkAtX P w K mg base x C k ps (spX K R)):MkAt P w K mg base x C k ps (spF K R):=by
 obtain ⟨f,fd,F,h⟩:=G.ex
 exact ⟨f,fd,FnOk.calm F,h⟩
section
variable{e:Expr}{es:List Expr}{p:Pos}{x:Str}{n:Nat}{ps:List Str}{A:Addr}{C:Ctx}{es':List E}
theorem qnx(G:MkAtX X.prog X.w X.K X.mg X.base x A j ps (spX X.K fi.run))(hr:Room n X.A)(ha:PA X (e::es) (tPs X.K (opds C es')))(hj:autoParam (j+1<=n) Q7)(hz:autoParam (glOk X.env.scope x=true) Q8)
 (he:autoParam (SE X e es) Q9) (hpl:autoParam (SFx X pos es) Q9):
 PEx X (.Call (.Name x p) (e::es) [] pos) (tMX X.K (yev C (.new A fi es'))):=by
 rw [Zh2]
 have nx:=ZbP (opds C es')
 replace ha:=Ze4 ha
 generalize clm (opds C es')=cs at nx ha ⊢
 obtain ⟨f,fd,F,mk,hm,hb⟩:=G.ex
 refine PEx.imp (ZjQ mk F (hr.mono hj) (glk hz) hm hb .nil ha (dbk hz) he hpl) fun σ H Q Ex z0=>?_
 obtain ⟨δ,Hs,M,g,s,q⟩:=z0
 unfold T.M.bnd at q
 cases e1:cs δ with
 | exc x y=>exact absurd e1 (nx _ _ _)
 | stuck=>rw [e1] at q;exact q.elim
 | ok z=>
  obtain ⟨qs,δ1⟩:=z
  rw [e1] at q
  refine ⟨δ,Hs,M,qs,δ1,g,s,e1,fun vs H1 Hs1 m1 M1 g1 st1 r1 s1 x dx hx hdx hne=>?_⟩
  show spX X.K fi.run (.ref x::(vs++[])) _ _ _
  rw [append_nil]
  exact Zkz g g1 st1 r1 s1 hx hdx hne q
end
section
variable{e:En}{x q:Str}{N ps:List Str}{k n:Nat}{C:Ctx}{body:List S}{A:Addr}
abbrev En.nx(e:En)(x:Str)(C:Addr)(k:Nat)(ps:List Str)(f:FI):Prop:=MkAtX e.P e.w e.K e.mg e.base x C k ps (spX e.K f.run)
def Zpb(Y:Bo e)(c:CI e.K x A)(F:MI e.K A "__init__" q st)(N:List Str)(hb:bx_ e N q st k n C body)(hs:autoParam (scOk N ps (Zl st)=true) Q8)(hn:autoParam (ps.length=n) Q9)(hN:autoParam (N.length=nN) Q9)
 (us:us_ st "__init__" q ps:=by intro _ _ _ _ _ _;first|exact us2 fun _ _=>rfl|exact us3 fun _ _ _=>rfl|exact us5 fun _ _ _ _ _=>rfl):
 MkAtX e.P e.w e.K e.mg e.base x A (k+1) ps (spX e.K (Zh C n nN body)):=by
 obtain ⟨f,fd,h1,y,F⟩:=F
 obtain ⟨h,X,G⟩:=Y
 exact ⟨f,fd,ZeU F (Zcy hs) hn hN fun cdv A o s H E=>hb f cdv A o s H E,⟨c.mk_,h1,y,c.kp⟩,mg_of X G c.at_,F.binds us⟩
end
def ZrS(C:Ctx)(y:YE):ex C (.exY y)=((yev C y).bnd fun _=>M.ret .nx):=(rfl)
section
variable{e:Expr}{p:Pos}{x:Str}{ns ps:List Str}{n:Nat}{lk:Nat->Bool}{C:T.Ctx}{v:V}
def MeAtX.calm{P:Program}{w:World}{K:Fg}{C:Addr}{m:Str}{k:Nat}{ps:List Str}{R:List D->Rs (D×List D)}(G:MeAtX P w K mg base C m k ps (spX K R)):MeAt P w K mg base C m k ps (spF K R):=by
 obtain ⟨f,fd,F,h⟩:=G.ex
 exact ⟨⟨f,fd,FnOk.calm F,h⟩,G.cl⟩
end
end T
namespace T
open PySem PySem.Spec L2
variable{X:Cx}{pos:Pos}
def Zi{i:Int}{j}:PE X (.Constant (.int i) j pos) (tP X.K ((M.ret (.sc (.int i))).bnd fun d=>M.ret (.tmp d))):=Za (ok_k ZO)
def Zse{sc:Scope}{N}{i:Nat}{x:Str}{b:Bool}(h:Zq sc N i x b=true)(e1:autoParam (X.env.scope=sc) Q9)(e2:autoParam (X.N=N) Q9):PE X (.Name x pos) (tP X.K (ZR i)):=Zhk (pvs h e1 e2)
end T
namespace My
open PySem PySem.Spec L2 T
variable{C:Addr}{δ:List D}{i:Nat}
local macro_rules | `(tactic| walk_at "d") => `(tactic| decide +kernel)
section
seal L2.PE L2.PS L2.PSs L2.PT L2.PI L2.PA L2.PG L2.PGs L2.PX L2.PXs L2.PEx
noncomputable def top(i:Nat):Stmt:=PySem.Challenge.pw_barlabel_k53_rolls_refused.main.body.getD i (.Pass ⟨0,0,0,0⟩)
noncomputable def Zaj(s:Stmt)(i:Nat):Stmt:=match s with
 | .ClassDef (body:=b) ..=>b.getD i (.Pass ⟨0,0,0,0⟩)
 | _=>.Pass ⟨0,0,0,0⟩
noncomputable def CK(C:Addr):T.Ctx:={ C0 with fok:=fun A f=>decide (A=C) && (f == "size" || f == "room") }
noncomputable def Ze6(K:Fg):Addr:=match nsIn K mainGlobals "Roll" with
 | some (some (.ref C))=>C
 | _=>0
structure Txt(e:T.En)(C:Addr):Prop where
 Y:T.Bo e
 ValueError_:e.mg "ValueError"=none
 all_:e.mg "all"=none
 bool_:e.mg "bool"=none
 enumerate_:e.mg "enumerate"=none
 int_:e.mg "int"=none
 isinstance_:e.mg "isinstance"=none
 len_:e.mg "len"=none
 list_:e.mg "list"=none
 max_:e.mg "max"=none
 range_:e.mg "range"=none
 sum_:e.mg "sum"=none
 zip_:e.mg "zip"=none
 BESIDES_:∃ t,e.mg "BESIDES"=some (.int 5 t)
 CHECK_SYMBOLS_:∃ t,e.mg "CHECK_SYMBOLS"=some (.int 2 t)
 LENGTH_AT_:∃ t,e.mg "LENGTH_AT"=some (.int 2 t)
 PIECE_AT_:∃ t,e.mg "PIECE_AT"=some (.int 3 t)
 PRIMES_:T.ModT e.K e.mg "PRIMES" (([5,7,11,13,17,19,23,29,31,37,41,43,47]:List Int).map V.int)
 x_a:T.LX e.K e.mg "Lost"
 x_b:T.LX e.K e.mg "Mixed"
 x_c:T.LX e.K e.mg "NoForm"
 x_d:T.LX e.K e.mg "NoFount"
 x_e:T.LX e.K e.mg "NoLabel"
 x_f:T.LX e.K e.mg "NoName"
 x_g:T.LX e.K e.mg "NoReading"
 x_h:T.LX e.K e.mg "NoRoom"
 x_i:T.LX e.K e.mg "NoSymbol"
 x_j:T.LX e.K e.mg "NoTable"
 x_k:T.LX e.K e.mg "NoWriting"
 x_l:T.LX e.K e.mg "Spoilt"
 x_m:T.LX e.K e.mg "TooLong"
 le:T.LT e.K e.mg "LabelError"
 li:T.LI e.K e.mg "LabelError"
 r_h:T.L0 e.K e.mg "NoRoom"
 i_i:∃ C,e.mg "NoSymbol"=some (.ref C)/\XN e.K ["NoSymbol","LabelError"] C/\T.II e.K C "NoSymbol.__init__" (Zaj (top 4) 0)
 i_m:∃ C,e.mg "TooLong"=some (.ref C)/\XN e.K ["TooLong","LabelError"] C/\T.II e.K C "TooLong.__init__" (Zaj (top 7) 0)
 ci:T.CI e.K "Roll" C
 nF_size:ZT e.K C "size"
 nF_room:ZT e.K C "room"
def Txt.fok{e:T.En}(Z:Txt e C):∀ A f,(CK C).fok A f=true->Cls e.K A/\ZT e.K A f:=fun A f h=>by
 unfold CK at h
 simp only [and_eq_true,or_eq_true,decide_eq_true_eq,beq_iff_eq] at h
 obtain ⟨rfl,h⟩:=h
 rcases h with rfl|rfl
 . exact ⟨Z.ci.cl,Z.nF_size⟩
 . exact ⟨Z.ci.cl,Z.nF_room⟩
variable{e:T.En}
noncomputable def Zby:List T.S:=[.ex (.bf .xinit [.v 0,.fs [.k (.str "no symbol: number "),.v 1]]),.attrX 0 "number" (.v 1)]
noncomputable def Z6:T.FI:=⟨true,T.Zh C0 2 2 Zby⟩
abbrev Zb5(e:T.En):Prop:=e.xi "NoSymbol" 1 ["self","number"] Z6
def ZcS(Z:Txt e C)  : Zb5 e:=
 T.Zla (C:=C0) (body:=Zby) (k:=0) Z.Y Z.i_i ["self","number"] fun _ _ _ _ _ _ _ hr=>
 (Zc (Zbp (by obtain ⟨D',h1,h2⟩:=Z.li;exact Zgj h2 g_ h1 (Zd ql (Zd (Za (ZkU (ZkT (ZkS ql ZkR)))) Zf))))
  (Zc (Zgi qv (ok_v qv))
  Zm))
noncomputable def Zb6:List T.S:=[.ex (.bf .xinit [.v 0,.fs [.k (.str "a length that does not fit: "),.v 1]]),.attrX 0 "length" (.v 1)]
noncomputable def ZX:T.FI:=⟨true,T.Zh C0 2 2 Zb6⟩
abbrev ZbR(e:T.En):Prop:=e.xi "TooLong" 1 ["self","length"] ZX
def ZcZ(Z:Txt e C)  : ZbR e:=
 T.Zla (C:=C0) (body:=Zb6) (k:=0) Z.Y Z.i_m ["self","length"] fun _ _ _ _ _ _ _ hr=>
 (Zc (Zbp (by obtain ⟨D',h1,h2⟩:=Z.li;exact Zgj h2 g_ h1 (Zd ql (Zd (Za (ZkU (ZkT (ZkS ql ZkR)))) Zf))))
  (Zc (Zgi qv (ok_v qv))
  Zm))
noncomputable def ZbG:List T.S:=[.ret (.and (.bf (.isi .int) [.v 0]) (.nt (.bf (.isi .bool) [.v 0])))]
noncomputable def ZA:T.FI:=⟨true,T.Zh C0 1 1 ZbG⟩
abbrev ZcT(e:T.En):Prop:=e.fn "is_whole" 1 ["thing"] ZA
def ZgJ(F:T.TI e.K "is_whole" (top 18))(Z:Txt e C)  : ZcT e:=
 T.Zas (C:=C0) (body:=ZbG) (k:=0) Z.Y F ["thing"] fun _ _ _ _ _ _ _ hr=>
 (Zc (Zs (ZaV (Za (qi Z.isinstance_ ql Z.int_ ZhR)) (Zcj (ZeJ (Za (qi Z.isinstance_ ql Z.bool_ ZfP))))))
  Zm)
noncomputable def Zdv:List T.S:=[.ret (.and (.call ZA [.v 1]) (.chain .LtE .Lt (.k (.int 0)) (.v 1) (.v 0)))]
noncomputable def Zau:T.FI:=⟨true,T.Zh C0 2 2 Zdv⟩
abbrev ZdM(e:T.En):Prop:=e.fn "is_symbol" 2 ["count","thing"] Zau
def Zgn(F:T.TI e.K "is_symbol" (top 19))(Z:Txt e C)(g2:ZcT e):ZdM e:=
 T.Zas (C:=C0) (body:=Zdv) (k:=1) Z.Y F ["count","thing"] fun _ _ _ _ _ _ _ hr=>
 have hu:=hr.units
 (Zc (Zs (ZaV (Za (Z3 g2 hr (Zd ql Zf))) (Zcj (ZdY hu Zi ql ql))))
  Zm)
noncomputable def Zcp:List T.S:=[.forX (.tup [2,3]) .enum [.v 1,.k (.int 0)] [.ifX (.nt (.call Zau [.v 0,.v 3])) [.raiseI ["NoSymbol","LabelError"] Z6 [.v 2]] []]]
noncomputable def Z7:T.FI:=⟨true,T.Zh C0 2 4 Zcp⟩
abbrev Zbz(e:T.En):Prop:=e.fx "check_symbols" 3 ["count","row"] Z7
def Zeb(F:T.TI e.K "check_symbols" (top 20))(Z:Txt e C)(g3:ZdM e)(g0:Zb5 e):Zbz e:=
 T.Zij (C:=C0) (body:=Zcp) (k:=2) Z.Y F ["count","row","number","thing"] fun _ _ _ _ _ _ _ hF hr=>
 (Zx (Zkn hF (fun _ _ h=>h) rfl (ZcR _ _) (hw_2 (ZeO rfl) (ZbO rfl)) (Zgf g_ Z.enumerate_ ql) (ZfA rfl (qg (qg Ze0)))
  (Zx (Zdt (Zbo (Zbw (Za (Z3 g3 hr (Zd ql (Zd ql Zf)))))) (Zx (Ze5 rfl g0 hr (Zd ql Zf))
  ZE) ZE)
  ZE))
  ZE)
noncomputable def Zb0:List T.S:=[.ret (.bin .Mod (.bf .sum [.v 1]) (.v 0))]
noncomputable def Zbe:T.FI:=⟨true,T.Zh C0 2 2 Zb0⟩
abbrev ZdN(e:T.En):Prop:=e.fn "plain_sum" 1 ["prime","row"] Zbe
def Zgo(F:T.TI e.K "plain_sum" (top 23))(Z:Txt e C)  : ZdN e:=
 T.Zas (C:=C0) (body:=Zb0) (k:=0) Z.Y F ["prime","row"] fun _ _ _ _ _ _ _ hr=>
 (Zc (Zs (qb (Za (Z5 (Zck rfl) Z.sum_ Zcm (Zd ql Zf))) ql))
  Zm)
noncomputable def ZaY:List T.S:=[.ret (.bin .Mod (.bf .sum [.comp 2 [] (.tup [0,1]) .enum [.v 1,.k (.int 1)] [] (.bin .Mult (.v 0) (.v 1))]) (.v 0))]
noncomputable def Zbj:T.FI:=⟨true,T.Zh C0 2 2 ZaY⟩
abbrev ZcX(e:T.En):Prop:=e.fn "weighed_sum" 1 ["prime","row"] Zbj
def ZeV(F:T.TI e.K "weighed_sum" (top 24))(Z:Txt e C)  : ZcX e:=
 T.Zas (C:=C0) (body:=ZaY) (k:=0) Z.Y F ["prime","row"] fun _ _ _ _ _ _ _ hr=>
 (Zc (Zs (qb (Za (Z5 (Zck rfl) Z.sum_ Zcm (Zd (Za (ZaE rfl (cS ["place","symbol"]) (Zkj g_ Z.enumerate_ ql ZO) (fun _ _ _ _ _=>⟨(ZfA rfl (qg (qg Ze0))),ZaA,(qb ql ql)⟩))) Zf))) ql))
  Zm)
noncomputable def ZbH:List T.S:=[.ret (.ix (.comp 1 [1,0,2] (.name 0) .rng1 [.v 0] [.cmp .Eq (.bin .Mod (.bin .Mult (.v 0) (.v 3)) (.v 2)) (.v 1)] (.v 0)) (.k (.int 0)))]
noncomputable def Zcb:T.FI:=⟨true,T.Zh C0 3 3 ZbH⟩
abbrev Ze7(e:T.En):Prop:=e.fn "quotient" 1 ["prime","rest","divisor"] Zcb
def ZgK(F:T.TI e.K "quotient" (top 25))(Z:Txt e C)  : Ze7 e:=
 T.Zas (C:=C0) (body:=ZbH) (k:=0) Z.Y F ["prime","rest","divisor"] fun _ _ _ _ _ _ _ hr=>
 have hu:=hr.units
 (Zc (Zs (Zag hu (Za (ZaE rfl (cS ["symbol","rest","prime","divisor"]) (ZbA Z.range_ ql) (fun _ _ _ _ _=>⟨qt,(ZnU (Zae hu (Za (qb (Za (qb ql ql)) ql)) ql)),(ok_v qv)⟩))) Zi))
  Zm)
noncomputable def Zat:List T.S:=[.asg 4 (.bin .Add (.v 2) (.k (.int 1))),.asg 5 (.bin .Mod (.bin .Sub (.bin .Mult (.v 4) (.call Zbe [.v 0,.v 1])) (.call Zbj [.v 0,.v 1])) (.v 0)),.asg 6 (.bf .list [.v 1]),.sub 6 [] (.v 3) (.call Zcb [.v 0,.v 5,.bin .Sub (.v 3) (.v 2)]),.sub 6 [] (.v 2) (.bin .Mod (.neg (.call Zbe [.v 0,.v 6])) (.v 0)),.ret (.v 6)]
noncomputable def Zah:T.FI:=⟨true,T.Zh C0 4 7 Zat⟩
abbrev ZbW(e:T.En):Prop:=e.fn "with_two_filled" 2 ["prime","row","earlier","later"] Zah
def Zdw(F:T.TI e.K "with_two_filled" (top 26))(Z:Txt e C)(g5:ZdN e)(g6:ZcX e)(g7:Ze7 e):ZbW e:=
 T.Zas (C:=C0) (body:=Zat) (k:=1) Z.Y F ["prime","row","earlier","later","place","rest","filled"] fun _ _ _ _ _ _ _ hr=>
 have hu:=hr.units
 (Zc (qa (qb ql Zi))
  (Zc (qa (qb (Za (qb (Za (qb ql (Za (Z3 g5 hr (Zd ql (Zd ql Zf)))))) (Za (Z3 g6 hr (Zd ql (Zd ql Zf)))))) ql))
  (Zc (qa (ZfV ZlU Z.list_ Zmg (Zd ql Zf)))
  (Zc (ZeT hu qv ql (Z3 g7 hr (Zd ql (Zd ql (Zd (Za (qb ql ql)) Zf)))))
  (Zc (ZeT hu qv ql (qb (Za (Zdm (Za (Z3 g5 hr (Zd ql (Zd ql Zf)))))) ql))
  (Zc (Zs (Zdn qv))
  Zm))))))
noncomputable def ZbI:List T.S:=[.ex (.call Z7 [.v 0,.v 1]),.asg 2 (.bf .len [.v 1]),.iff (.cmp .Gt (.v 2) (.bin .Sub (.v 0) (.k (.int 2)))) [.raise (.k .non)] [],.ret (.call Zah [.v 0,.bin .Add (.v 1) (.lst [.k (.int 0),.k (.int 0)]),.v 2,.bin .Add (.v 2) (.k (.int 1))])]
noncomputable def Za6:T.FI:=⟨true,T.Zh C0 2 3 ZbI⟩
abbrev ZcU(e:T.En):Prop:=e.fn "labelled" 4 ["prime","row"] Za6
def ZgL(F:T.TI e.K "labelled" (top 27))(Z:Txt e C)(g4:Zbz e)(g8:ZbW e):ZcU e:=
 T.Zas (C:=C0) (body:=ZbI) (k:=3) Z.Y F ["prime","row","length"] fun _ _ _ _ _ _ _ hr=>
 have hu:=hr.units
 (Zc (Zbp (Z3 g4.calm hr (Zd ql (Zd ql Zf))))
  (Zc (qa (Z5 Zan Z.len_ Zao (Zd ql Zf)))
  (Zc (Zbi (Zae hu ql (Za (qb ql (Za (qgi Z.CHECK_SYMBOLS_))))) (Zc Zkb
  Zm) Zm)
  (Zc (Zs (Z3 g8 hr (Zd ql (Zd (Za (qb ql (Za (Z1 (Zg (ok_k ZO) (Zg (ok_k ZO) Zu)))))) (Zd ql (Zd (Za (qb ql Zi)) Zf))))))
  Zm))))
noncomputable def Zcc:List T.S:=[.iff (.or (.nt (.call ZA [.v 0])) (.cmp .NotIn (.v 0) (.g (.node .ftp false ((([5,7,11,13,17,19,23,29,31,37,41,43,47]:List Int).map V.int).map D.sc))))) [.ret (.k (.bl false))] [],.ret (.and (.call ZA [.v 1]) (.chain .LtE .LtE (.k (.int 1)) (.v 1) (.bin .Sub (.v 0) (.k (.int 5)))))]
noncomputable def Zbq:T.FI:=⟨true,T.Zh C0 2 2 Zcc⟩
abbrev Zfw(e:T.En):Prop:=e.fn "is_roll" 2 ["prime","room"] Zbq
def Zik(F:T.TI e.K "is_roll" (top 32))(Z:Txt e C)(g2:ZcT e):Zfw e:=
 T.Zas (C:=C0) (body:=Zcc) (k:=1) Z.Y F ["prime","room"] fun _ _ _ _ _ _ _ hr=>
 have hu:=hr.units
 (Zc (Zbi (PW.pt (Zey (Zbo (Zbw (Za (Z3 g2 hr (Zd ql Zf))))) (Zex (Zae hu ql (Za (qgu Z.PRIMES_)))))) (Zc (Zs (ok_k ZaG))
  Zm) Zm)
  (Zc (Zs (ZaV (Za (Z3 g2 hr (Zd ql Zf))) (Zcj (ZdY hu Zi ql (Za (qb ql (Za (qgi Z.BESIDES_))))))))
  Zm))
noncomputable def Zb1:List T.S:=[.ret (.comp 1 [0,1] (.name 0) .rng3 [.k (.int 0),.bf .max [.k (.int 1),.bf .len [.v 0]],.v 1] [] (.sl (.v 1) (.v 0) (.bin .Add (.v 0) (.v 2))))]
noncomputable def ZaF:T.FI:=⟨true,T.Zh C0 2 2 Zb1⟩
abbrev ZdO(e:T.En):Prop:=e.fn "pieces_of" 1 ["row","room"] ZaF
def Zgp(F:T.TI e.K "pieces_of" (top 33))(Z:Txt e C)  : ZdO e:=
 T.Zas (C:=C0) (body:=Zb1) (k:=0) Z.Y F ["row","room"] fun _ _ _ _ _ _ _ hr=>
 (Zc (Zs (ZaE rfl (cS ["first","row","room"]) (Zh0 g_ Z.range_ (Zd Zi (Zd (Za (Z5 (ZiW rfl) Z.max_ Zja (Zd Zi (Zd (Za (Z5 Zan Z.len_ Zao (Zd ql Zf))) Zf)))) (Zd ql Zf)))) (fun _ _ _ _ _=>⟨qt,ZaA,(ZcQ ql (Zax ql) (Zax (Za (qb ql ql))))⟩)))
  Zm)
noncomputable def Za7(C:Addr):List T.S:=[.ifX (.nt (.call Zbq [.v 1,.v 2])) [.raise0 ["NoRoom","LabelError"]] [],.lf (.attr 0 "size" (.v 1)),.lf (.attr 0 "room" (.v 2))]
noncomputable def Zv(C:Addr):T.FI:=⟨true,T.Zh (CK C) 3 3 (Za7 C)⟩
abbrev Zb2(e:T.En)(C:Addr):Prop:=e.nx "Roll" C 3 ["self","prime","room"] (Zv C)
def Zec(F:T.MI e.K C "__init__" "Roll.__init__" (Zaj (top 34) 0))(Z:Txt e C)(g10:Zfw e):Zb2 e C:=
 T.Zpb (C:=(CK C)) (body:=(Za7 C)) (k:=2) Z.Y Z.ci F ["self","prime","room"] fun _ _ _ _ _ _ _ hF hr=>
 (Zx (Zdt (Zbo (Zbw (Za (Z3 g10 hr (Zd ql (Zd ql Zf)))))) (Zx (qr0 Z.r_h)
  ZE) ZE)
  (Zx (ZU (Zhr Z.fok qv (ok_v qv)))
  (Zx (ZU (Zhr Z.fok qv (ok_v qv)))
  ZE)))
noncomputable def Zap(C:Addr):List T.S:=[.asg 4 (.bin .Mult (.lst [.k (.int 0)]) (.bin .Sub (.fld (.v 0) "room") (.bf .len [.v 3]))),.ret (.call Za6 [.fld (.v 0) "size",.bin .Add (.bin .Add (.lst [.v 1,.v 2,.bf .len [.v 3]]) (.v 3)) (.v 4)])]
noncomputable def Z4(C:Addr):T.FI:=⟨true,T.Zh (CK C) 4 5 (Zap C)⟩
abbrev ZbS(e:T.En)(C:Addr):Prop:=e.me C "piece_label" 5 ["self","number","count","piece"] (Z4 C)
def Zda(F:T.MI e.K C "piece_label" "Roll.piece_label" (Zaj (top 34) 2))(Z:Txt e C)(g9:ZcU e):ZbS e C:=
 T.ZkZ (C:=(CK C)) (body:=(Zap C)) (k:=4) Z.ci.cl F ["self","number","count","piece","noughts"] fun _ _ _ _ _ _ _ hr=>
 (Zc (qa (qb (Za (Z1 (Zg (ok_k ZO) Zu))) (Za (qb (Za (ZbL Z.fok ql)) (Za (Z5 Zan Z.len_ Zao (Zd ql Zf)))))))
  (Zc (Zs (Z3 g9 hr (Zd (Za (ZbL Z.fok ql)) (Zd (Za (qb (Za (qb (Za (Z1 (Zg (ok_v qv) (Zg (ok_v qv) (Zg (Z5 Zan Z.len_ Zao (Zd ql Zf)) Zu))))) ql)) ql)) Zf))))
  Zm))
noncomputable def ZaJ(C:Addr):List T.S:=[.asg 4 (.lst [.v 1,.v 2]),.for_ (.name 5) .rng2 [.k (.int 2),.bin .Add (.k (.int 3)) (.fld (.v 0) "room")] [.ex (.mut .append 4 [] [.bin .Mod (.neg (.bor (.bf .sum [.comp 1 [5] (.name 0) .val [.v 3] [] (.ix (.v 0) (.v 1))]))) (.fld (.v 0) "size")])],.ret (.call Za6 [.fld (.v 0) "size",.v 4])]
noncomputable def Zay(C:Addr):T.FI:=⟨true,T.Zh (CK C) 4 6 (ZaJ C)⟩
abbrev ZcE(e:T.En)(C:Addr):Prop:=e.me C "balance" 5 ["self","number","count","others"] (Zay C)
def Ze8(F:T.MI e.K C "balance" "Roll.balance" (Zaj (top 34) 3))(Z:Txt e C)(g9:ZcU e):ZcE e C:=
 T.ZkZ (C:=(CK C)) (body:=(ZaJ C)) (k:=4) Z.ci.cl F ["self","number","count","others","row","place"] fun _ _ _ _ _ _ _ hr=>
 have hu:=hr.units
 (Zc (qa (Z1 (Zg (ok_v qv) (Zg (ok_v qv) Zu))))
  (Zc (ZcB PassesOwn.never rfl (ZcR _ _) (hw_2 (ZbO rfl) (ZbO rfl)) (Zma Z.range_ (Za (qgi Z.LENGTH_AT_)) (Za (qb (Za (qgi Z.PIECE_AT_)) (Za (ZbL Z.fok ql))))) qt
  (Zc (Zbp (ZbM qv (Zg (qb (Za (Zdm (Za (ZoX (Z5 (Zck rfl) Z.sum_ Zcm (Zd (Za (ZaE rfl (cS ["label","place"]) (Zdp ql) (fun _ _ _ _ _=>⟨qt,ZaA,(Zag hu ql ql)⟩))) Zf)))))) (Za (ZbL Z.fok ql))) Zu)))
  Zm))
  (Zc (Zs (Z3 g9 hr (Zd (Za (ZbL Z.fok ql)) (Zd ql Zf))))
  Zm)))
noncomputable def ZaZ(C:Addr):List T.S:=[.exX Z7 [.fld (.v 0) "size",.v 1],.lf (.asg 2 (.call ZaF [.v 1,.fld (.v 0) "room"])),.lf (.asg 3 (.bf .len [.v 2])),.ifX (.cmp .GtE (.v 3) (.fld (.v 0) "size")) [.raiseI ["TooLong","LabelError"] ZX [.bf .len [.v 1]]] [],.lf (.asg 4 (.comp 2 [3,0] (.tup [0,1]) .enum [.v 2,.k (.int 0)] [] (.meth C "piece_label" (Z4 C) (.v 3) [.v 0,.v 2,.v 1]))),.lf (.ex (.mut .append 4 [] [.meth C "balance" (Zay C) (.v 0) [.v 3,.v 3,.v 4]])),.lf (.ret (.v 4))]
noncomputable def Zw(C:Addr):T.FI:=⟨true,T.Zh (CK C) 2 5 (ZaZ C)⟩
abbrev ZbU(e:T.En)(C:Addr):Prop:=e.mx C "parted" 6 ["self","row"] (Zw C)
def ZeW(F:T.MI e.K C "parted" "Roll.parted" (Zaj (top 34) 1))(Z:Txt e C)(g4:Zbz e)(g11:ZdO e)(g1:ZbR e)(g13:ZbS e C)(g14:ZcE e C):ZbU e C:=
 T.Zpa (C:=(CK C)) (body:=(ZaZ C)) (k:=5) Z.ci.cl F ["self","row","pieces","count","labels"] fun _ _ _ _ _ _ _ hF hr=>
 have hu:=hr.units
 (Zx (Zdu (ZoP g4 hr (Zd (Za (ZbL Z.fok ql)) (Zd ql Zf))))
  (Zx (ZU (qa (Z3 g11 hr (Zd ql (Zd (Za (ZbL Z.fok ql)) Zf)))))
  (Zx (ZU (qa (Z5 Zan Z.len_ Zao (Zd ql Zf))))
  (Zx (Zdt (Zae hu ql (Za (ZbL Z.fok ql))) (Zx (Ze5 rfl g1 hr (Zd (Za (Z5 Zan Z.len_ Zao (Zd ql Zf))) Zf))
  ZE) ZE)
  (Zx (ZU (qs (cS ["number","piece","count","self"]) (Zgf g_ Z.enumerate_ ql) (fun _ _ _ _ _=>⟨(ZfA rfl (qg (qg Ze0))),ZaA,(ZdB g13 hr ql (Zd ql (Zd ql (Zd ql Zf))))⟩)))
  (Zx (ZU (Zbp (ZbM qv (Zg (ZdB g14 hr ql (Zd ql (Zd ql (Zd ql Zf)))) Zu))))
  (Zx (ZU (Zs (Zdn qv)))
  ZE)))))))
noncomputable def Zb3:List T.S:=[.ret (.bf .sum [.sl (.v 0) (.v 1) (.bin .Add (.v 1) (.k (.int 1)))])]
noncomputable def ZW:T.FI:=⟨true,T.Zh C0 2 2 Zb3⟩
abbrev Zc5(e:T.En):Prop:=e.fn "_law_here" 1 ["_law_script","_law_place"] ZW
def Zgq(F:T.TI e.K "_law_here" (top 36))(Z:Txt e C)  : Zc5 e:=
 T.Zas (C:=C0) (body:=Zb3) (k:=0) Z.Y F ["_law_script","_law_place"] fun _ _ _ _ _ _ _ hr=>
 (Zc (Zs (Z5 (Zck rfl) Z.sum_ Zcm (Zd (Za (ZcQ ql (Zax ql) (Zax (Za (qb ql Zi))))) Zf)))
  Zm)
noncomputable def Zal:List T.S:=[.asg 2 (.bin .FloorDiv (.v 0) (.k (.int 2))),.asg 3 (.bin .Mod (.v 2) (.k (.int 1999999973))),.asg 4 (.bin .Mod (.bin .FloorDiv (.v 2) (.k (.int 1999999973))) (.k (.int 1999999943))),.asg 5 (.lst []),.for_ (.name 6) .rng1 [.bin .Add (.v 1) (.k (.int 2))] [.asg 7 (.bin .Add (.bin .Add (.bin .Add (.bin .Mult (.v 3) (.k (.int 1664525))) (.bin .Mult (.v 4) (.v 4))) (.bin .Mult (.k (.int 97)) (.v 6))) (.k (.int 40503))),.asg 3 (.v 4),.asg 4 (.bin .Mod (.v 7) (.k (.int 1999999973))),.ex (.mut .append 5 [] [.v 4])],.asg 5 (.sl (.v 5) (.k (.int 2)) (.k .non)),.iff (.cmp .Eq (.bin .Mod (.v 0) (.k (.int 2))) (.k (.int 0))) [.ret (.v 5)] [],.for_ (.name 8) .rng1 [.v 1] [.iff (.cmp .Gt (.v 2) (.k (.int 0))) [.sub 5 [] (.v 8) (.bin .Mod (.v 2) (.k (.int 1999999973))),.asg 2 (.bin .FloorDiv (.v 2) (.k (.int 1999999973)))] []],.ret (.v 5)]
noncomputable def ZQ:T.FI:=⟨true,T.Zh C0 2 9 Zal⟩
abbrev ZbV(e:T.En):Prop:=e.fn "_law_shaken" 1 ["_law_cell","_law_many"] ZQ
def ZeX(F:T.TI e.K "_law_shaken" (top 37))(Z:Txt e C)  : ZbV e:=
 T.Zas (C:=C0) (body:=Zal) (k:=0) Z.Y F ["_law_cell","_law_many","_law_rest","_law_one","_law_two","_law_found","_law_turn","_law_more","_law_k"] fun _ _ _ _ _ _ _ hr=>
 have hu:=hr.units
 (Zc (qa (qb ql Zi))
  (Zc (qa (qb ql Zi))
  (Zc (qa (qb (Za (qb ql Zi)) Zi))
  (Zc (qa (Z1 Zu))
  (Zc (ZcB PassesOwn.never rfl (ZcR _ _) (hw_1 (ZbO rfl)) (ZbA Z.range_ (Za (qb ql Zi))) qt
  (Zc (qa (qb (Za (qb (Za (qb (Za (qb ql Zi)) (Za (qb ql ql)))) (Za (qb Zi ql)))) Zi))
  (Zc (qa (ok_v qv))
  (Zc (qa (qb ql Zi))
  (Zc (Zbp (ZbM qv (Zg (ok_v qv) Zu)))
  Zm)))))
  (Zc (qa (ZcQ ql (Zax Zi) Zid))
  (Zc (Zbi (Zae hu (Za (qb ql Zi)) Zi) (Zc (Zs (Zdn qv))
  Zm) Zm)
  (Zc (ZcB PassesOwn.never rfl (ZcR _ _) (hw_1 (ZeO rfl)) (ZbA Z.range_ ql) qt
  (Zc (Zbi (Zae hu ql Zi) (Zc (ZeT hu qv ql (qb ql Zi))
  (Zc (qa (qb ql Zi))
  Zm)) Zm)
  Zm))
  (Zc (Zs (Zdn qv))
  Zm)))))))))
noncomputable def Za8:List T.S:=[.asg 2 (.bf .sum [.v 1]),.asg 3 (.bf .sum [.comp 1 [1] (.name 0) .rng1 [.bf .len [.v 1]] [] (.bin .Mult (.bin .Add (.v 0) (.k (.int 1))) (.ix (.v 1) (.v 0)))]),.asg 4 (.bin .Mod (.bin .Sub (.bin .Mult (.v 2) (.bin .Add (.bf .len [.v 1]) (.k (.int 1)))) (.v 3)) (.v 0)),.ret (.bin .Add (.v 1) (.lst [.bin .Mod (.bin .Sub (.bin .Sub (.k (.int 0)) (.v 2)) (.v 4)) (.v 0),.v 4]))]
noncomputable def ZC:T.FI:=⟨true,T.Zh C0 2 5 Za8⟩
abbrev Zcz(e:T.En):Prop:=e.fn "_law_labelled" 1 ["_law_prime","_law_row"] ZC
def Zed(F:T.TI e.K "_law_labelled" (top 38))(Z:Txt e C)  : Zcz e:=
 T.Zas (C:=C0) (body:=Za8) (k:=0) Z.Y F ["_law_prime","_law_row","_law_plain","_law_weighed","_law_last"] fun _ _ _ _ _ _ _ hr=>
 have hu:=hr.units
 (Zc (qa (Z5 (Zck rfl) Z.sum_ Zcm (Zd ql Zf)))
  (Zc (qa (Z5 (Zck rfl) Z.sum_ Zcm (Zd (Za (ZaE rfl (cS ["_law_k","_law_row"]) (ZbA Z.range_ (Za (Z5 Zan Z.len_ Zao (Zd ql Zf)))) (fun _ _ _ _ _=>⟨qt,ZaA,(qb (Za (qb ql Zi)) (Za (Zag hu ql ql)))⟩))) Zf)))
  (Zc (qa (qb (Za (qb (Za (qb ql (Za (qb (Za (Z5 Zan Z.len_ Zao (Zd ql Zf))) Zi)))) ql)) ql))
  (Zc (Zs (qb ql (Za (Z1 (Zg (qb (Za (qb (Za (qb Zi ql)) ql)) ql) (Zg (ok_v qv) Zu))))))
  Zm))))
noncomputable def Zba:List T.S:=[.asg 3 (.lst []),.for_ (.name 4) .rng3 [.k (.int 0),.bf .max [.k (.int 1),.bf .len [.v 2]],.v 1] [.asg 5 (.sl (.v 2) (.v 4) (.bin .Add (.v 4) (.v 1))),.ex (.mut .append 3 [] [.bin .Add (.bin .Add (.lst [.bf .len [.v 5]]) (.v 5)) (.bin .Mult (.lst [.k (.int 0)]) (.bin .Sub (.v 1) (.bf .len [.v 5])))])],.asg 6 (.bf .len [.v 3]),.ex (.mut .append 3 [] [.comp 1 [0,3] (.name 0) .rng1 [.bin .Add (.v 1) (.k (.int 1))] [] (.bin .Mod (.bin .Sub (.k (.int 0)) (.bf .sum [.comp 1 [0] (.name 0) .val [.v 2] [] (.ix (.v 0) (.v 1))])) (.v 1))]),.ret (.comp 1 [0,6,3] (.name 0) .rng1 [.bin .Add (.v 6) (.k (.int 1))] [] (.call ZC [.v 1,.bin .Add (.lst [.v 0,.v 2]) (.ix (.v 3) (.v 0))]))]
noncomputable def ZaB:T.FI:=⟨true,T.Zh C0 3 7 Zba⟩
abbrev ZcY(e:T.En):Prop:=e.fn "_law_labels" 2 ["_law_prime","_law_room","_law_row"] ZaB
def ZeY(F:T.TI e.K "_law_labels" (top 39))(Z:Txt e C)(g18:Zcz e):ZcY e:=
 T.Zas (C:=C0) (body:=Zba) (k:=1) Z.Y F ["_law_prime","_law_room","_law_row","_law_bodies","_law_at","_law_piece","_law_many"] fun _ _ _ _ _ _ _ hr=>
 have hu:=hr.units
 (Zc (qa (Z1 Zu))
  (Zc (ZcB PassesOwn.never rfl (ZcR _ _) (hw_3 (ZbO rfl) (ZbO rfl) (ZeO rfl)) (Zh0 g_ Z.range_ (Zd Zi (Zd (Za (Z5 (ZiW rfl) Z.max_ Zja (Zd Zi (Zd (Za (Z5 Zan Z.len_ Zao (Zd ql Zf))) Zf)))) (Zd ql Zf)))) qt
  (Zc (qa (ZcQ ql (Zax ql) (Zax (Za (qb ql ql)))))
  (Zc (Zbp (ZbM qv (Zg (qb (Za (qb (Za (Z1 (Zg (Z5 Zan Z.len_ Zao (Zd ql Zf)) Zu))) ql)) (Za (qb (Za (Z1 (Zg (ok_k ZO) Zu))) (Za (qb ql (Za (Z5 Zan Z.len_ Zao (Zd ql Zf)))))))) Zu)))
  Zm)))
  (Zc (qa (Z5 Zan Z.len_ Zao (Zd ql Zf)))
  (Zc (Zbp (ZbM qv (Zg (ZaE rfl (cS ["_law_at","_law_prime","_law_bodies"]) (ZbA Z.range_ (Za (qb ql Zi))) (fun _ _ _ _ _=>⟨qt,ZaA,(qb (Za (qb Zi (Za (Z5 (Zck rfl) Z.sum_ Zcm (Zd (Za (ZaE rfl (cS ["_law_body","_law_at"]) (Zdp ql) (fun _ _ _ _ _=>⟨qt,ZaA,(Zag hu ql ql)⟩))) Zf))))) ql)⟩)) Zu)))
  (Zc (Zs (ZaE rfl (cS ["_law_k","_law_prime","_law_many","_law_bodies"]) (ZbA Z.range_ (Za (qb ql Zi))) (fun _ _ _ _ _=>⟨qt,ZaA,(Z3 g18 hr (Zd ql (Zd (Za (qb (Za (Z1 (Zg (ok_v qv) (Zg (ok_v qv) Zu)))) (Za (Zag hu ql ql)))) Zf)))⟩)))
  Zm)))))
noncomputable def Zaz(fi:T.FI):List T.S:=[.iff (.bf (.isi .list) [.v 1]) [.iff (.or (.nt (.bf (.isi .list) [.v 0])) (.cmp .NotEq (.bf .len [.v 0]) (.bf .len [.v 1]))) [.ret (.k (.bl false))] [],.ret (.bf .all [.comp 2 [] (.tup [0,1]) .zip [.v 0,.v 1] [] (.call fi [.v 0,.v 1])])] [],.ret (.and (.bf (.isi .int) [.v 0]) (.and (.nt (.bf (.isi .bool) [.v 0])) (.cmp .Eq (.v 0) (.v 1))))]
noncomputable def Zz:Nat->List T.D->T.Rs (T.D×List T.D)
 | 0=>T.Zh C0 2 2 [.raise (.k .non)]
 | n+1=>T.Zh C0 2 2 (Zaz ⟨true,Zz n⟩)
noncomputable def ZG:T.FI:=⟨true,Zz 3⟩
abbrev ZdP(e:T.En):Prop:=e.fn "_law_same" 4 ["_law_found","_law_due"] ZG
theorem Zgr(F:T.TI e.K "_law_same" (top 40))(Z:Txt e C):∀ n,e.fn "_law_same" (n+1) ["_law_found","_law_due"] ⟨true,Zz n⟩:=fun n=>by
 induction n with
 | zero=>exact T.Zas (C:=C0) (body:=[.raise (.k .non)]) (k:=0) Z.Y F ["_law_found","_law_due"] fun _ _ _ _ _ _ _ _=>T.Zkw
 | succ n G_self=>exact T.Zas (C:=C0) (body:=Zaz ⟨true,Zz n⟩) (k:=n+1) Z.Y F ["_law_found","_law_due"] fun _ _ _ _ _ _ _ hr=>
  have hu:=hr.units
  (Zc (Zbi (Zbw (Za (qi Z.isinstance_ ql Z.list_ ZiL))) (Zc (Zbi (PW.pt (Zey (Zbo (Zbw (Za (qi Z.isinstance_ ql Z.list_ ZiL)))) (Zex (Zae hu (Za (Z5 Zan Z.len_ Zao (Zd ql Zf))) (Za (Z5 Zan Z.len_ Zao (Zd ql Zf))))))) (Zc (Zs (ok_k ZaG))
   Zm) Zm)
   (Zc (Zs (Z5 (ZnN rfl) Z.all_ ZnW (Zd (Za (ZaE rfl (cS ["_law_one","_law_other"]) (ZoJ g_ Z.zip_ ql ql) (fun _ _ _ _ _=>⟨(ZfA rfl (qg (qg Ze0))),ZaA,(Z3 G_self hr (Zd ql (Zd ql Zf)) (hj:=Nat.le_refl _))⟩))) Zf)))
   Zm)) Zm)
   (Zc (Zs (ZaV (Za (qi Z.isinstance_ ql Z.int_ ZhR)) (ZaV (Za (ZeJ (Za (qi Z.isinstance_ ql Z.bool_ ZfP)))) (Zcj (ZcC hu ql ql)))))
   Zm))
noncomputable def Zb4:List T.S:=[.asg 1 (.call ZQ [.call ZW [.v 0,.k (.int 0)],.k (.int 3)]),.asg 2 (.ix (.kl [(.int 7),(.int 11),(.int 13),(.int 17),(.int 19),(.int 23),(.int 29),(.int 31),(.int 37),(.int 41),(.int 43),(.int 47)]) (.bin .Mod (.ix (.v 1) (.k (.int 0))) (.k (.int 12)))),.ret (.tup [.v 2,.ix (.lst [.bin .Add (.k (.int 1)) (.bin .Mod (.ix (.v 1) (.k (.int 1))) (.bin .Sub (.v 2) (.k (.int 5)))),.k (.int 1),.bin .Sub (.v 2) (.k (.int 5)),.bin .Add (.k (.int 1)) (.bin .Mod (.bin .Mod (.ix (.v 1) (.k (.int 1))) (.k (.int 4))) (.bin .Sub (.v 2) (.k (.int 5))))]) (.bin .Mod (.ix (.v 1) (.k (.int 2))) (.k (.int 4)))])]
noncomputable def Zbf:T.FI:=⟨true,T.Zh C0 1 3 Zb4⟩
abbrev ZdQ(e:T.En):Prop:=e.fn "_law_roll" 2 ["_law_script"] Zbf
def Zgs(F:T.TI e.K "_law_roll" (top 41))(Z:Txt e C)(g17:ZbV e)(g16:Zc5 e):ZdQ e:=
 T.Zas (C:=C0) (body:=Zb4) (k:=1) Z.Y F ["_law_script","_law_xs","_law_prime"] fun _ _ _ _ _ _ _ hr=>
 have hu:=hr.units
 (Zc (qa (Z3 g17 hr (Zd (Za (Z3 g16 hr (Zd ql (Zd Zi Zf)))) (Zd Zi Zf))))
  (Zc (qa (Zag hu (Za (ZkQ (vs:=[(.int 7),(.int 11),(.int 13),(.int 17),(.int 19),(.int 23),(.int 29),(.int 31),(.int 37),(.int 41),(.int 43),(.int 47)]) (by kernel_rfl))) (Za (qb (Za (Zag hu ql Zi)) Zi))))
  (Zc (Zs (ZnM (Zg (ok_v qv) (Zg (Zag hu (Za (Z1 (Zg (qb Zi (Za (qb (Za (Zag hu ql Zi)) (Za (qb ql Zi))))) (Zg (ok_k ZO) (Zg (qb ql Zi) (Zg (qb Zi (Za (qb (Za (qb (Za (Zag hu ql Zi)) Zi)) (Za (qb ql Zi))))) Zu)))))) (Za (qb (Za (Zag hu ql Zi)) Zi))) Zu))))
  Zm)))
noncomputable def Zcq:List T.S:=[.asg 2 (.lst [.bf (.isiX "NoRoom") [.v 0],.bf (.isiX "TooLong") [.v 0],.bf (.isiX "NoSymbol") [.v 0],.bf (.isiX "NoForm") [.v 0]]),.asg 2 (.bin .Add (.v 2) (.lst [.bf (.isiX "NoFount") [.v 0],.bf (.isiX "NoName") [.v 0],.bf (.isiX "NoReading") [.v 0],.bf (.isiX "Lost") [.v 0]])),.asg 2 (.bin .Add (.v 2) (.lst [.bf (.isiX "NoLabel") [.v 0],.bf (.isiX "NoTable") [.v 0],.bf (.isiX "NoWriting") [.v 0],.bf (.isiX "Spoilt") [.v 0]])),.asg 2 (.bin .Add (.v 2) (.lst [.bf (.isiX "Mixed") [.v 0]])),.ret (.and (.bf .isiV [.v 0]) (.cmp .Eq (.v 2) (.comp 1 [1] (.name 0) .rng1 [.k (.int 13)] [] (.cmp .Eq (.v 0) (.v 1)))))]
noncomputable def ZM:T.FI:=⟨true,T.Zh C0 2 3 Zcq⟩
abbrev ZdR(e:T.En):Prop:=e.fn "_law_only" 1 ["_law_e","_law_sort"] ZM
def Zgt(F:T.TI e.K "_law_only" (top 42))(Z:Txt e C)  : ZdR e:=
 T.Zas (C:=C0) (body:=Zcq) (k:=0) Z.Y F ["_law_e","_law_sort","_law_sorts"] fun _ _ _ _ _ _ _ hr=>
 have hu:=hr.units
 (Zc (qa (Z1 (Zg (qiX Z.x_h Z.isinstance_ ql) (Zg (qiX Z.x_m Z.isinstance_ ql) (Zg (qiX Z.x_i Z.isinstance_ ql) (Zg (qiX Z.x_c Z.isinstance_ ql) Zu))))))
  (Zc (qa (qb ql (Za (Z1 (Zg (qiX Z.x_d Z.isinstance_ ql) (Zg (qiX Z.x_f Z.isinstance_ ql) (Zg (qiX Z.x_g Z.isinstance_ ql) (Zg (qiX Z.x_a Z.isinstance_ ql) Zu))))))))
  (Zc (qa (qb ql (Za (Z1 (Zg (qiX Z.x_e Z.isinstance_ ql) (Zg (qiX Z.x_j Z.isinstance_ ql) (Zg (qiX Z.x_k Z.isinstance_ ql) (Zg (qiX Z.x_l Z.isinstance_ ql) Zu))))))))
  (Zc (qa (qb ql (Za (Z1 (Zg (qiX Z.x_b Z.isinstance_ ql) Zu)))))
  (Zc (Zs (ZaV (Za (qiV Z.ValueError_ Z.isinstance_ ql)) (Zcj (ZcC hu ql (Za (ZaE rfl (cS ["_law_k","_law_sort"]) (ZbA Z.range_ Zi) (fun _ _ _ _ _=>⟨qt,ZaA,(ZcC hu ql ql)⟩)))))))
  Zm)))))
abbrev Zdx(e:T.En):Prop:=e.fnH "_law_only" 1 ["_law_e","_law_sort"] ZM
def Zf6(F:T.TI e.K "_law_only" (top 42))(Z:Txt e C)  : Zdx e:=
 T.ZoY (C:=C0) (body:=Zcq) (k:=0) Z.Y F ["_law_e","_law_sort","_law_sorts"] fun _ _ _ _ _ _ _ p hr hh hl=>
 have hu:=hr.units
 (Zc (qa (Z1 (Zg (qiX Z.x_h Z.isinstance_ ql) (Zg (qiX Z.x_m Z.isinstance_ ql) (Zg (qiX Z.x_i Z.isinstance_ ql) (Zg (qiX Z.x_c Z.isinstance_ ql) Zu))))))
  (Zc (qa (qb ql (Za (Z1 (Zg (qiX Z.x_d Z.isinstance_ ql) (Zg (qiX Z.x_f Z.isinstance_ ql) (Zg (qiX Z.x_g Z.isinstance_ ql) (Zg (qiX Z.x_a Z.isinstance_ ql) Zu))))))))
  (Zc (qa (qb ql (Za (Z1 (Zg (qiX Z.x_e Z.isinstance_ ql) (Zg (qiX Z.x_j Z.isinstance_ ql) (Zg (qiX Z.x_k Z.isinstance_ ql) (Zg (qiX Z.x_l Z.isinstance_ ql) Zu))))))))
  (Zc (qa (qb ql (Za (Z1 (Zg (qiX Z.x_b Z.isinstance_ ql) Zu)))))
  (Zc (Zs (ZaV (Za (qiV Z.ValueError_ Z.isinstance_ ql)) (Zcj (ZcC hu ql (Za (Zkd (X:=_) ⟨p,.head _,hh,hl⟩ (cS ["_law_k","_law_sort"]) (ZlZ Z.range_ Zi) (fun _ _ _ _ _=>⟨qt,ZaA,(ZcC hu ql ql)⟩)))))))
  Zm)))))
noncomputable def Zdy(C:Addr):List T.S:=[.lf (.asg 2 (.k (.str "ok"))),.tryF [.exY (.new C (Zv C) [.v 0,.v 1])] "LabelError" 3 [.asg 2 (.ix (.lst [.k (.str "other"),.k (.str "none")]) (.bf .int [.call ZM [.v 3,.k (.int 0)]]))],.lf (.ret (.v 2))]
noncomputable def Zai(C:Addr):T.FI:=⟨true,T.Zh (CK C) 2 4 (Zdy C)⟩
abbrev ZdS(e:T.En)(C:Addr):Prop:=e.fx "_law_made" 5 ["_law_prime","_law_room"] (Zai C)
def Zgu(F:T.TI e.K "_law_made" (top 43))(Z:Txt e C)(g12:Zb2 e C)(g22:Zdx e):ZdS e C:=
 T.Zij (C:=(CK C)) (body:=(Zdy C)) (k:=4) Z.Y F ["_law_prime","_law_room","_law_word","_law_e"] fun _ _ _ _ _ _ _ hF hr=>
 have hu:=hr.units
 (Zx (ZU (qa (ok_k ZaK)))
  (Zx (qtyF hF Z.le (Zx (Zdu (qnx g12 hr (Zd ql (Zd ql Zf))))
  ZE) (fun p hl=>(Zc (qa (Zag hu (Za (Z1 (Zg (ok_k ZaK) (Zg (ok_k ZaK) Zu)))) (Za (ZfV ZiV Z.int_ Zjb (Zd (Za (ZnP ⟨p,.head _,rfl,hl⟩ g22 (hr.hnd _) (Zd ql (Zd Zi Zf)))) Zf)))))
  Zm)))
  (Zx (ZU (Zs (Zdn qv)))
  ZE)))
noncomputable def Zc0(C:Addr):List T.S:=[.lf (.asg 4 (.k .non)),.try_ [.exY (.meth C "parted" (Zw C) (.v 0) [.v 1])] "LabelError" (some 5) [.asg 4 (.v 5)],.ifX (.or (.isN true (.v 4)) (.nt (.call ZM [.v 4,.v 2]))) [.lf (.ret (.k (.bl false)))] [],.ifX (.cmp .Eq (.v 2) (.k (.int 1))) [.lf (.ret (.call ZG [.bf (.xfld "length") [.v 4],.v 3]))] [],.lf (.ret (.call ZG [.bf (.xfld "number") [.v 4],.v 3]))]
noncomputable def Zam(C:Addr):T.FI:=⟨true,T.Zh (CK C) 4 6 (Zc0 C)⟩
abbrev ZcF(e:T.En)(C:Addr):Prop:=e.fx "_law_refused" 7 ["_law_roll_here","_law_row","_law_sort","_law_due"] (Zam C)
def Ze9(F:T.TI e.K "_law_refused" (top 44))(Z:Txt e C)(g15:ZbU e C)(g22:ZdR e)(g20:ZdP e):ZcF e C:=
 T.Zij (C:=(CK C)) (body:=(Zc0 C)) (k:=6) Z.Y F ["_law_roll_here","_law_row","_law_sort","_law_due","_law_caught","_law_e"] fun _ _ _ _ _ _ _ hF hr=>
 have hu:=hr.units
 (Zx (ZU (qa (ok_k Zc6)))
  (Zx (qty hF Z.le (Zx (Zdu (qmx g15 hr ql (Zd ql Zf)))
  ZE) (fun _=>(Zc (qa (ok_v qv))
  Zm)))
  (Zx (Zdt (PW.pt (Zey (Zmu ql) (Zex (Zbo (Zbw (Za (Z3 g22 hr (Zd ql (Zd ql Zf))))))))) (Zx (ZU (Zs (ok_k ZaG)))
  ZE) ZE)
  (Zx (Zdt (Zae hu ql Zi) (Zx (ZU (Zs (Z3 g20 hr (Zd (Za (Zhy ql)) (Zd ql Zf)))))
  ZE) ZE)
  (Zx (ZU (Zs (Z3 g20 hr (Zd (Za (Zhy ql)) (Zd ql Zf)))))
  ZE)))))
noncomputable def Zbg(C:Addr):List T.S:=[.asg 1 (.kl [(.int 5),(.int 7),(.int 11),(.int 13),(.int 17),(.int 19),(.int 23),(.int 29),(.int 31),(.int 37),(.int 41),(.int 43),(.int 47)]),.for_ (.name 2) .val [.sl (.v 0) (.k (.int 4)) (.k (.int 20))] [.asg 3 (.ix (.v 1) (.bin .Mod (.v 2) (.k (.int 13)))),.asg 4 (.ix (.lst [.bin .Mod (.bin .FloorDiv (.v 2) (.k (.int 13))) (.k (.int 50)),.bin .Sub (.v 3) (.k (.int 5)),.bin .Sub (.v 3) (.k (.int 4)),.k (.int 0),.bin .Sub (.neg (.k (.int 1))) (.bin .Mod (.bin .FloorDiv (.v 2) (.k (.int 13))) (.k (.int 9))),.k (.bl true),.k .non,.k (.str "1")]) (.bin .Mod (.bin .FloorDiv (.v 2) (.k (.int 700))) (.k (.int 8)))),.asg 5 (.and (.bf (.isi .int) [.v 4]) (.and (.nt (.bf (.isi .bool) [.v 4])) (.chain .LtE .LtE (.k (.int 1)) (.v 4) (.bin .Sub (.v 3) (.k (.int 5)))))),.iff (.cmp .NotEq (.call (Zai C) [.v 3,.v 4]) (.ix (.lst [.k (.str "none"),.k (.str "ok")]) (.bf .int [.v 5]))) [.ret (.k (.bl false))] []],.for_ (.name 6) .val [.lst [.k (.int 2),.k (.int 3),.k (.int 4),.k (.int 9),.k (.int 25),.k (.int 49),.k (.int 53),.k (.int 0),.neg (.k (.int 7)),.k (.bl true),.k .non,.k (.str "7")]] [.iff (.cmp .NotEq (.call (Zai C) [.v 6,.k (.int 1)]) (.k (.str "none"))) [.ret (.k (.bl false))] []],.unp [3,4] (.call Zbf [.v 0]),.asg 7 (.new C (Zv C) [.v 3,.v 4]),.asg 8 (.bin .Mult (.v 4) (.bin .Sub (.v 3) (.k (.int 1)))),.iff (.cmp .Gt (.v 8) (.k (.int 600))) [.ret (.k (.bl true))] [],.asg 9 (.comp 1 [3] (.name 0) .val [.call ZQ [.call ZW [.v 0,.k (.int 1)],.v 8]] [] (.bin .Mod (.v 0) (.v 1))),.asg 10 (.call ZaB [.v 3,.v 4,.v 9]),.iff (.or (.cmp .NotEq (.bf .len [.v 10]) (.v 3)) (.nt (.call ZG [.meth C "parted" (Zw C) (.v 7) [.v 9],.v 10]))) [.ret (.k (.bl false))] [],.iff (.nt (.call (Zam C) [.v 7,.bin .Add (.v 9) (.lst [.k (.int 0)]),.k (.int 1),.bin .Add (.v 8) (.k (.int 1))])) [.ret (.k (.bl false))] [],.asg 2 (.bin .Mod (.call ZW [.v 0,.k (.int 2)]) (.k (.int 1000003))),.asg 11 (.bin .Mod (.v 2) (.bin .Add (.v 8) (.k (.int 1)))),.asg 12 (.ix (.lst [.v 3,.bin .Add (.bin .Add (.v 3) (.k (.int 1))) (.v 2),.bin .Sub (.neg (.k (.int 1))) (.bin .Mod (.v 2) (.k (.int 9))),.k (.bl true),.k (.bl false),.k .non,.k (.str "0"),.lst [.k (.int 0)]]) (.bin .Mod (.bin .FloorDiv (.v 2) (.k (.int 1000))) (.k (.int 8)))),.iff (.nt (.call (Zam C) [.v 7,.bin .Add (.bin .Add (.bin .Add (.sl (.v 9) (.k .non) (.v 11)) (.lst [.v 12])) (.sl (.v 9) (.v 11) (.k .non))) (.lst [.k .non]),.k (.int 2),.v 11])) [.ret (.k (.bl false))] [],.ret (.call ZG [.meth C "parted" (Zw C) (.v 7) [.v 9],.v 10])]
noncomputable def ZeA(C:Addr):T.FI:=⟨true,T.Zh (CK C) 1 13 (Zbg C)⟩
def Zpc{f:Addr}{fd:FuncData}(F:Fun e.K "law" "law" (top 45) f fd)(Z:Txt e C)(g23:ZdS e C)(g21:ZdQ e)(g12:Zb2 e C)(g17:ZbV e)(g16:Zc5 e)(g19:ZcY e)(g20:ZdP e)(g15:ZbU e C)(g24:ZcF e C):FnOk e.P e.w e.K e.mg e.base CX0 8 f fd ["_law_script"] (T.spF e.K (ZeA C).run):=
 T.ZoZ (C:=(CK C)) (body:=(Zbg C)) (k:=7) F ["_law_script","_law_primes","_law_cell","_law_prime","_law_room","_law_good","_law_thing","_law_roll_here","_law_most","_law_row","_law_labels_here","_law_at","_law_odd"] fun _ _ _ _ _ _ _ hr=>
 have hu:=hr.units
 (Zc (qa (ZkQ (vs:=[(.int 5),(.int 7),(.int 11),(.int 13),(.int 17),(.int 19),(.int 23),(.int 29),(.int 31),(.int 37),(.int 41),(.int 43),(.int 47)]) (by kernel_rfl)))
  (Zc (ZcB PassesOwn.never rfl (ZcR _ _) (hw_1 (ZbO rfl)) (Zdp (Za (ZcQ ql (Zax Zi) (Zax Zi)))) qt
  (Zc (qa (Zag hu ql (Za (qb ql Zi))))
  (Zc (qa (Zag hu (Za (Z1 (Zg (qb (Za (qb ql Zi)) Zi) (Zg (qb ql Zi) (Zg (qb ql Zi) (Zg (ok_k ZO) (Zg (qb (Za (Zdm Zi)) (Za (qb (Za (qb ql Zi)) Zi))) (Zg (ok_k ZaG) (Zg (ok_k Zc6) (Zg (ok_k ZaK) Zu)))))))))) (Za (qb (Za (qb ql Zi)) Zi))))
  (Zc (qa (ZaV (Za (qi Z.isinstance_ ql Z.int_ ZhR)) (ZaV (Za (ZeJ (Za (qi Z.isinstance_ ql Z.bool_ ZfP)))) (Zcj (ZdY hu Zi ql (Za (qb ql Zi)))))))
  (Zc (Zbi (Zae hu (Za (Z3 g23.calm hr (Zd ql (Zd ql Zf)))) (Za (Zag hu (Za (Z1 (Zg (ok_k ZaK) (Zg (ok_k ZaK) Zu)))) (Za (ZfV ZiV Z.int_ Zjb (Zd ql Zf)))))) (Zc (Zs (ok_k ZaG))
  Zm) Zm)
  Zm)))))
  (Zc (Zm9 PassesOwn.never rfl (hw_1 (ZbO rfl)) (Zdp (Za (Z1 (Zg (ok_k ZO) (Zg (ok_k ZO) (Zg (ok_k ZO) (Zg (ok_k ZO) (Zg (ok_k ZO) (Zg (ok_k ZO) (Zg (ok_k ZO) (Zg (ok_k ZO) (Zg (Zdm Zi) (Zg (ok_k ZaG) (Zg (ok_k Zc6) (Zg (ok_k ZaK) Zu))))))))))))))) qt
  (Zc (Zbi (Zae hu (Za (Z3 g23.calm hr (Zd ql (Zd Zi Zf)))) (Za (ok_k ZaK))) (Zc (Zs (ok_k ZaG))
  Zm) Zm)
  Zm))
  (Zc (ZnS rfl (Za (Z3 g21 hr (Zd ql Zf))) (qg (qg Ze0)))
  (Zc (qa (ZnY g12.calm hr (Zd ql (Zd ql Zf))))
  (Zc (qa (qb ql (Za (qb ql Zi))))
  (Zc (Zbi (Zae hu ql Zi) (Zc (Zs (ok_k ZaG))
  Zm) Zm)
  (Zc (qs (cS ["_law_x","_law_prime"]) (Zdp (Za (Z3 g17 hr (Zd (Za (Z3 g16 hr (Zd ql (Zd Zi Zf)))) (Zd ql Zf))))) (fun _ _ _ _ _=>⟨qt,ZaA,(qb ql ql)⟩))
  (Zc (qa (Z3 g19 hr (Zd ql (Zd ql (Zd ql Zf)))))
  (Zc (Zbi (PW.pt (Zey (Zae hu (Za (Z5 Zan Z.len_ Zao (Zd ql Zf))) ql) (Zex (Zbo (Zbw (Za (Z3 g20 hr (Zd (Za (ZdB g15.calm hr ql (Zd ql Zf))) (Zd ql Zf))))))))) (Zc (Zs (ok_k ZaG))
  Zm) Zm)
  (Zc (Zbi (Zbo (Zbw (Za (Z3 g24.calm hr (Zd ql (Zd (Za (qb ql (Za (Z1 (Zg (ok_k ZO) Zu))))) (Zd Zi (Zd (Za (qb ql Zi)) Zf)))))))) (Zc (Zs (ok_k ZaG))
  Zm) Zm)
  (Zc (qa (qb (Za (Z3 g16 hr (Zd ql (Zd Zi Zf)))) Zi))
  (Zc (qa (qb ql (Za (qb ql Zi))))
  (Zc (qa (Zag hu (Za (Z1 (Zg (ok_v qv) (Zg (qb (Za (qb ql Zi)) ql) (Zg (qb (Za (Zdm Zi)) (Za (qb ql Zi))) (Zg (ok_k ZaG) (Zg (ok_k ZaG) (Zg (ok_k Zc6) (Zg (ok_k ZaK) (Zg (Z1 (Zg (ok_k ZO) Zu)) Zu)))))))))) (Za (qb (Za (qb ql Zi)) Zi))))
  (Zc (Zbi (Zbo (Zbw (Za (Z3 g24.calm hr (Zd ql (Zd (Za (qb (Za (qb (Za (qb (Za (ZcQ ql Zid (Zax ql))) (Za (Z1 (Zg (ok_v qv) Zu))))) (Za (ZcQ ql (Zax ql) Zid)))) (Za (Z1 (Zg (ok_k Zc6) Zu))))) (Zd Zi (Zd ql Zf)))))))) (Zc (Zs (ok_k ZaG))
  Zm) Zm)
  (Zc (Zs (Z3 g20 hr (Zd (Za (ZdB g15.calm hr ql (Zd ql Zf))) (Zd ql Zf))))
  Zm))))))))))))))))
def Zpd{l:PySem.W.OpenLaw}{w:World}{K:Fg}{h:Heap}{mg:SO}{fa L Kaa Kab Kac Kad Kae Kaf Kag Kah Kai Kaj Kak Kal Kam:Addr}(X:K.In h)(G:h.Ns mainGlobals mg)(hfa:mg "law"=some (.ref fa))
 (cC:T.CI K "Roll" C)
 (nF0:findIn K (.ref C) "size"=some none)
 (nF1:findIn K (.ref C) "room"=some none)
 (hL:T.LB K L)
 (b_a:T.XB K L "Lost" Kaa)
 (b_b:T.XB K L "Mixed" Kab)
 (b_c:T.XB K L "NoForm" Kac)
 (b_d:T.XB K L "NoFount" Kad)
 (b_e:T.XB K L "NoLabel" Kae)
 (b_f:T.XB K L "NoName" Kaf)
 (b_g:T.XB K L "NoReading" Kag)
 (b_h:T.XB K L "NoRoom" Kah)
 (b_i:T.XB K L "NoSymbol" Kai)
 (b_j:T.XB K L "NoTable" Kaj)
 (b_k:T.XB K L "NoWriting" Kak)
 (b_l:T.XB K L "Spoilt" Kal)
 (b_m:T.XB K L "TooLong" Kam)
 (a_h:T.XA K Kah)
 (a_i:T.XA K Kai)
 (a_m:T.XA K Kam)
 (i_i:T.II K Kai "NoSymbol.__init__" (Zaj (top 4) 0))
 (i_m:T.II K Kam "TooLong.__init__" (Zaj (top 7) 0))
 (o_h:findIn K (.ref Kah) (Str.ofString "__init__")=some (some (.builtin "ValueError.__init__")))
 (hI:XI K L)
 (d2:T.TI K "is_whole" (top 18))
 (d3:T.TI K "is_symbol" (top 19))
 (d4:T.TI K "check_symbols" (top 20))
 (d5:T.TI K "plain_sum" (top 23))
 (d6:T.TI K "weighed_sum" (top 24))
 (d7:T.TI K "quotient" (top 25))
 (d8:T.TI K "with_two_filled" (top 26))
 (d9:T.TI K "labelled" (top 27))
 (d10:T.TI K "is_roll" (top 32))
 (d11:T.TI K "pieces_of" (top 33))
 (d12:T.MI K C "__init__" "Roll.__init__" (Zaj (top 34) 0))
 (d13:T.MI K C "piece_label" "Roll.piece_label" (Zaj (top 34) 2))
 (d14:T.MI K C "balance" "Roll.balance" (Zaj (top 34) 3))
 (d15:T.MI K C "parted" "Roll.parted" (Zaj (top 34) 1))
 (d16:T.TI K "_law_here" (top 36))
 (d17:T.TI K "_law_shaken" (top 37))
 (d18:T.TI K "_law_labelled" (top 38))
 (d19:T.TI K "_law_labels" (top 39))
 (d20:T.TI K "_law_same" (top 40))
 (d21:T.TI K "_law_roll" (top 41))
 (d22:T.TI K "_law_only" (top 42))
 (d23:T.TI K "_law_made" (top 43))
 (d24:T.TI K "_law_refused" (top 44))
 (d25:T.TI K "law" (top 45))
 (z0:T.NI K "ValueError")
 (z1:T.NI K "all")
 (z2:T.NI K "bool")
 (z3:T.NI K "enumerate")
 (z4:T.NI K "int")
 (z5:T.NI K "isinstance")
 (z6:T.NI K "len")
 (z7:T.NI K "list")
 (z8:T.NI K "max")
 (z9:T.NI K "range")
 (z10:T.NI K "sum")
 (z11:T.NI K "zip")
 {tc0:Tok} (zc0:nsIn K mainGlobals "BESIDES"=some (some (.int 5 tc0)))
 {tc1:Tok} (zc1:nsIn K mainGlobals "CHECK_SYMBOLS"=some (some (.int 2 tc1)))
 {tc2:Tok} (zc2:nsIn K mainGlobals "LENGTH_AT"=some (some (.int 2 tc2)))
 {tc3:Tok} (zc3:nsIn K mainGlobals "PIECE_AT"=some (some (.int 3 tc3)))
 {at0:Addr} {dt0:Option Addr} {it0:Array Value} {nt0:Nat} {st0:Array (Option Value)} (zt0:nsIn K mainGlobals "PRIMES"=some (some (.ref at0))) (zl0:K.lookup at0=some ⟨.type "tuple",dt0,.seq it0 nt0,st0⟩) (zz0:it0.size<=1000) (zi0:it0.toList.map T.unV=(([5,7,11,13,17,19,23,29,31,37,41,43,47]:List Int).map V.int).map some)
 : ∃ fd:FuncData,(∀(s:Shared)(v:Value),BindsTo s fd ⟨[v],[]⟩ [("_law_script",v)])/\∀ base:Heap,K.In base->base.Ns mainGlobals mg->FnOk l.prog w K mg base CX0 8 fa fd ["_law_script"] (T.spF K (ZeA (Ze6 K)).run):=by
 have hC:Ze6 K=C:=by unfold Ze6;rw [cC.at_]
 rw [hC]
 obtain ⟨f,fd,x,F⟩:=d25
 cases hfa.symm.trans (mg_of X G x)
 refine ⟨fd,fun s v=>?_,fun base _ _=>?_⟩
 . obtain ⟨oc,od,kV,doc,pm,an,cdv,ct,osl,rfl,lk,hcd⟩:=F.ex
   exact .of_eq rfl
 have m:∀{x:Str},T.NI K x->mg x=none:=PySem.W.mg_none_of X G
 have Z:Txt ⟨l.prog,w,K,mg,base⟩ C:=⟨⟨h,X,G⟩,m z0,m z1,m z2,m z3,m z4,m z5,m z6,m z7,m z8,m z9,m z10,m z11,⟨tc0,mg_of X G zc0⟩,⟨tc1,mg_of X G zc1⟩,⟨tc2,mg_of X G zc2⟩,⟨tc3,mg_of X G zc3⟩,T.Zkv X G zt0 zl0 (by rw [T.szl];omega) zi0,b_a.lx X G,b_b.lx X G,b_c.lx X G,b_d.lx X G,b_e.lx X G,b_f.lx X G,b_g.lx X G,b_h.lx X G,b_i.lx X G,b_j.lx X G,b_k.lx X G,b_l.lx X G,b_m.lx X G,⟨L,mg_of X G hL.x,hL.xc,hL.gx⟩,⟨L,mg_of X G hL.x,hI⟩,⟨_,mg_of X G b_h.at_,b_h.xn hL a_h,o_h⟩,⟨_,mg_of X G b_i.at_,b_i.xn hL a_i,i_i⟩,⟨_,mg_of X G b_m.at_,b_m.xn hL a_m,i_m⟩,cC,nF0,nF1⟩
 have g0:=ZcS Z
 have g1:=ZcZ Z
 have g2:=ZgJ d2 Z
 have g3:=Zgn d3 Z g2
 have g4:=Zeb d4 Z g3 g0
 have g5:=Zgo d5 Z
 have g6:=ZeV d6 Z
 have g7:=ZgK d7 Z
 have g8:=Zdw d8 Z g5 g6 g7
 have g9:=ZgL d9 Z g4 g8
 have g10:=Zik d10 Z g2
 have g11:=Zgp d11 Z
 have g12:=Zec d12 Z g10
 have g13:=Zda d13 Z g9
 have g14:=Ze8 d14 Z g9
 have g15:=ZeW d15 Z g4 g11 g1 g13 g14
 have g16:=Zgq d16 Z
 have g17:=ZeX d17 Z
 have g18:=Zed d18 Z
 have g19:=ZeY d19 Z g18
 have g20:=Zgr d20 Z 3
 have g21:=Zgs d21 Z g17 g16
 have g22:=Zgt d22 Z
 have g22H:=Zf6 d22 Z
 have g23:=Zgu d23 Z g12 g22H
 have g24:=Ze9 d24 Z g15 g22 g20
 exact Zpc F Z g23 g21 g12 g17 g16 g19 g20 g15 g24
end
def runB{f:FI}{C:T.Ctx}{n N:Nat}{b:List T.S}{ds:List D}{R:Rs (D×List D)}(e:f.run=Zh C n N b)(hl:ds.length=n)(h:Zch n (exs { C with lock:=fun i=>decide (i < n) } b (ds++replicate (N - n) .hole))=R):f.run ds=R:=by rw [e,runA hl];exact h
variable(lk:Nat->Bool)(fok:Addr->Str->Bool)(fuel:Nat)
local macro_rules | `(tactic| walk_at "r") => `(tactic| (refine runB rfl rfl ?_; show Zch _ (exs _ (_ :: _) _) = _; simp only [replicate, reduceSub]))
local macro_rules|`(tactic|walk_at "ev")=>do
 let a ← ("bndA Zmi retA Zq1 Zmj Zq2 Zq3 Zoa Zob Zq4 Zoc Zq5 Zq6 Zmk Zml valA Zod Zq7 movA Zoe Zof Zq8 Zq9 Zog ZqA ZqB Zoh Zoi ZqC ZqD Zoj Zok ZqE Zol Zom Zon Zoo ZqF Zop exs1 exs0 Zmn Zmo Zmm e_k o_k e_g o_g ZqH ZqI ZqJ ZqK ZqL ZqM ZqN ZqO ZqP ZdG e_nt t_nt o_nt ZqQ t_or e_ix o_ix e_sl o_sl ZqR ZqS ZqT ZqU ZqV e_kl o_kl Zoq Zor Zos e_bf t_bf o_bf Zot Zou ZqW Zms Zov e_fs o_fs e_v Zkh Zra Zrb evs0 evs1 Zrc Zrd Zre Zrf Zrg Zox x_ex Zrh Zri Zoy Zrj r_k Zrk Zrl r_ix Zrm Zoz r_bf Zo0 Zrn Zro c_lt c_le Zrp Zrq Zo1 Zo2 Zmp Zkg Zrr Zrs Zrt Zru Zrv Zrw Zrx Zo3 Zo4 Zo5 Zo6 Zo7 intp sl_l sl_f Zry Zrz Zr0 Zo8 asgn Zo9 ZoA ZoB ZoC Zr1 Zr2 ZoD ZoE ZoF ZoG it_l modA Zr3 chkA Zr4 ix_l shrL shr walked C0 scr List.getElem?_cons_zero getElem?_cons_succ List.set_cons_zero List.set_cons_succ length_cons length_nil map_some bind_some Option.toList_none Option.toList_some nil_append append_nil cons_append map_cons map_nil if_true if_false Bool.false_eq_true Bool.and_true Bool.true_and Bool.or_true Bool.true_or Bool.or_false Bool.false_or Bool.not_false Bool.not_true decide_true decide_false Nat.reduceLT Nat.reduceAdd Nat.reduceLeDiff beq_self_eq_true Nat.reduceBEq Bool.and_false Bool.false_and reduceCtorEq ite_true ite_false ZqX ZqY ZqZ Zow x_lf ZrH clmA ZrI ZoS Zm6 Zjj Zjk Zky Zh2 ZrS ZoT ZrG Zkq Zkr ZoR Zm5 ZoU ZoV Zks Zkt Zku endX ZrJ ZoW".splitOn " ").toArray.mapM fun n=>`(Lean.Parser.Tactic.simpLemma|$(Lean.mkIdent n.toName):term)
 `(tactic|simp only [$a,*])
local macro_rules | `(tactic| simp_all [$xs,*]) => `(tactic| repeat (first | walk_at "ev" | simp only [$xs,*]))
noncomputable abbrev I(i:Int):D:=.sc (.int i)
noncomputable abbrev Ls(o:Bool)(xs:List Int):D:=.node .lst o (dI xs)
noncomputable def wts:Int->List Int->List Int
 | _,[]=>[]
 | c,x::xs=>c * x::wts (c+1) xs
theorem Zh3(c:Int)(xs:List Int):(wts c xs).length=xs.length:=by
 induction xs generalizing c with
 | nil=>rfl
 | cons x xs ih=>rw [wts,length_cons,length_cons,ih]
def Zfx(p:Int)(xs:List Int)(o:Bool)(hp:0 < p):Zbe.run [I p,Ls o xs]=.ok (I (xs.sum % p),[I p,Ls o xs]):=by
 show Zh C0 2 2 Zb0 [I p,Ls o xs]=_
 rw [runA (show [I p,Ls o xs].length=2 from rfl)]
 unfold Zb0
 simp only [replicate,reduceSub]
 cases o<;>(simp_all [Zt,Za5,ZB _ _ hp])<;>rfl
theorem wloop(h0:lk 0=false)(h1:lk 1=false):∀(xs:List Int)(c:Int)(acc:List Int)(a b:D),0<=c->c+xs.length < 2 ^ 64->∃ a' b',ZH (asgT lk (.tup [0,1])) (tsts ⟨lk,fok,fuel⟩ []) (evb ⟨lk,fok,fuel⟩ (.bin .Mult (.v 0) (.v 1))).1 (Zaa c (dI xs)) (dI acc) [a,b]=.ok (dI (acc++wts c xs),[a',b']):=by
 intro xs
 induction xs with
 | nil=>exact fun c acc a b _ _=>⟨a,b,by rw [wts,append_nil];rfl⟩
 | cons x xs ih=>
  intro c acc a b hc hl
  rw [length_cons] at hl
  obtain ⟨a',b',ih⟩:=ih (c+1) (acc++[c * x]) (I c) (I x) (by omega) (by omega)
  refine ⟨a',b',?_⟩
  have hm:binW .Mult (.sc (.int c)) (.sc (.int x))=some (.sc (.int (c * x))):=Zca c x (.inl ⟨by omega,by omega⟩)
  rw [Zac,Zaa,Zbd]
  rw [ZL] at ih
  simp_all [h0,h1,ZbN,hm]
  rw [wts]
  have e:acc++c * x::wts (c+1) xs=acc++[c * x]++wts (c+1) xs:=by simp
  rw [e]
  exact ih
def ZgM(p:Int)(xs:List Int)(o:Bool)(hp:0 < p)(hl:xs.length<=1000):Zbj.run [I p,Ls o xs]=.ok (I ((wts 1 xs).sum % p),[I p,Ls o xs]):=by
 show Zh C0 2 2 ZaY [I p,Ls o xs]=_
 rw [runA (show [I p,Ls o xs].length=2 from rfl)]
 unfold ZaY
 simp only [replicate,reduceSub]
 have hz:(dI ([]++wts 1 xs)).length<=sizeLine:=by rw [Zp,nil_append,Zh3,szl];omega
 obtain ⟨a',b',hw⟩:=wloop (fun i=>decide (2<=i)) (fun _ _=>false) 0 rfl rfl xs 1 [] .hole .hole (by decide) (by omega)
 replace hw:ZS (fun _ _=>false) 0 2 (.tup [0,1]) [] (.bin .Mult (.v 0) (.v 1)) (Zaa 1 (dI xs)) [] [.hole,.hole]=_:=hw
 cases o
 . simp_all [Zt,it_e _ 1 (by decide)]
   rw [Zaf (js:=[]) (caps:=[]) rfl hw hz]
   simp_all [ZbF,Za5,ZB _ _ hp]
   rfl
 . simp_all [Zt,it_e _ 1 (by decide)]
   rw [Zaf (js:=[]) (caps:=[]) rfl hw hz]
   simp_all [ZbF,Za5,ZB _ _ hp]
   rfl
theorem ZmA(c:Int)(xs ys:List Int):wts c (xs++ys)=wts c xs++wts (c+xs.length) ys:=by
 induction xs generalizing c with
 | nil=>simp [wts]
 | cons x xs ih=>
  rw [cons_append,wts,wts,ih,cons_append,length_cons]
  have:c+1+(xs.length:Int)=c+((xs.length+1:Nat):Int):=by omega
  rw [this]
noncomputable def other(p:Int)(xs:List Int)(l:Int):Int:=(0 - xs.sum - l) % p
def Zlb(i:Int):tyW .int (.sc (.int i))=some true:=(rfl)
def Zlc(i:Int):tyW .bool (.sc (.int i))=some false:=(rfl)
def Zld(w:W):bfW (.isi .int) [w]=(tyW .int w).map fun b=>.sc (.bl b):=(rfl)
def ZeB(w:W):bfW (.isi .list) [w]=(tyW .list w).map fun b=>.sc (.bl b):=(rfl)
def ZfB(ds:List D):tyW .list (.nd .lst ds)=some true:=(rfl)
def Zfy(x:Int):ZA.run [I x]=.ok (.sc (.bl true),[I x]):=by
 show Zh C0 1 1 ZbG [I x]=_
 rw [runA (show [I x].length=1 from rfl)]
 unfold ZbG
 simp only [replicate,reduceSub]
 simp_all [Zld,ZkW,Zlb,Zlc]
 rfl
noncomputable abbrev Xc(c:Str)(b:Bool)(n:Int):D:=.node (.exc [c,"LabelError"] false ["number"]) b [I n]
def Zpe:∀ k:Nat,k < 640->(fmtW (Str.ofString "no symbol: number ") (.sc (.int (k:Int)))).isSome=true:=by walk_at "d"
def ZmB:fmtW Str.empty (.sc (.str (Str.ofString "no symbol: number ")))=some (Str.ofString "no symbol: number "):=by kernel_rfl
def ZmC(n:Nat)(h1:n < 640):Z6.run [.node (.exc ["NoSymbol","LabelError"] true []) true [],I n]=.ok (.sc .non,[.node (.exc ["NoSymbol","LabelError"] true ["number"]) true [I n],I n]):=by
 obtain ⟨z,hz⟩:=Option.isSome_iff_exists.mp (Zpe n h1)
 walk_at "r"
 have f0:=ZmB
 have hp:∀ δ:List D,mdR 0 δ (putX (Str.ofString "number") (I n)) (some (.node (.exc ["NoSymbol","LabelError"] true []) true []))=.ok (.sc .non,δ.set 0 (.node (.exc ["NoSymbol","LabelError"] true ["number"]) true [I n])):=fun δ=>rfl
 (simp_all [f0,hz,hp])<;>rfl
def Sy(p:Int)(d:D)(b:Bool):Prop:=Zau.run [I p,d]=.ok (.sc (.bl b),[I p,d])/\shr d=d/\((∃ v,d=.sc v)\/∃ k l,d=.node k false l)
noncomputable def ffx:Nat->List (D×Bool)->Option Nat
 | _,[]=>none
 | c,(_,true)::r=>ffx (c+1) r
 | c,(_,false)::_=>some c
theorem ZgN(h2:lk 2=false)(h3:lk 3=false)(p:Int)(X:D):∀(qs:List (D×Bool))(c:Nat)(a b:D),(∀ q∈qs,Sy p q.1 q.2)->c+qs.length<=630->∃ a' b',
 forL (asgT lk (.tup [2,3])) (exs ⟨lk,fok,fuel⟩ [.ifX (.nt (.call Zau [.v 0,.v 3])) [.raiseI ["NoSymbol","LabelError"] Z6 [.v 2]] []]) (Zaa c (qs.map Prod.fst)) [I p,X,a,b]=(match ffx c qs with|none=>.ok (.nx,[I p,X,a',b'])|some n=>.exc (Xc "NoSymbol" true n) [I p,X,a',b']):=by
 intro qs
 induction qs with
 | nil=>exact fun c a b _ _=>⟨a,b,rfl⟩
 | cons q qs ih=>
  intro c a b hx hl
  rw [length_cons] at hl
  obtain ⟨d,t⟩:=q
  obtain ⟨hr,hs,hd⟩:=hx (d,t) mem_cons_self
  have l1:Zau.lend=true:=rfl
  have l2:Z6.lend=true:=rfl
  have hi:=ZmC c (by omega)
  have nx:¬ 1000 < 1:=by decide
  rw [map_cons,Zaa,ZbZ]
  cases t with
  | true=>
   obtain ⟨a',b',ih⟩:=ih (c+1) (I c) d (fun y hy=>hx y (mem_cons_of_mem _ hy)) (by omega)
   refine ⟨a',b',?_⟩
   show _=(match ffx (c+1) qs with|none=>Rs.ok (Fl.nx,[I p,X,a',b'])|some n=>.exc (Xc "NoSymbol" true n) [I p,X,a',b'])
   have e1:((c+1:Nat):Int)=(c:Int)+1:=by omega
   rw [e1] at ih
   rw [<- ih]
   rcases hd with ⟨v,rfl⟩|⟨k,l,rfl⟩
   . simp_all [h2,h3,ZbN,l1,hr]
   . simp_all [h2,h3,ZbN,l1,hr]
  | false=>
   refine ⟨I c,d,?_⟩
   show _=Rs.exc (Xc "NoSymbol" true c) [I p,X,I c,d]
   rcases hd with ⟨v,rfl⟩|⟨k,l,rfl⟩
   . (simp_all [h2,h3,ZbN,l1,l2,hr,hi,Zii (ns:=["NoSymbol","LabelError"]) (fi:=Z6) (ps:=[Op.late 2]) nx])<;>rfl
   . (simp_all [h2,h3,ZbN,l1,l2,hr,hi,Zii (ns:=["NoSymbol","LabelError"]) (fi:=Z6) (ps:=[Op.late 2]) nx])<;>rfl
theorem Zjp:∀ qs:List (D×Bool),(∀ q∈qs,shr q.1=q.1)->shrL (qs.map Prod.fst)=qs.map Prod.fst
 | [],_=>rfl
 | q::qs,h=>by rw [map_cons,shrL,h q mem_cons_self,Zjp qs fun x hx=>h x (mem_cons_of_mem _ hx)]
theorem Zfz(p:Int)(o:Bool)(qs:List (D×Bool))(hq:∀ q∈qs,Sy p q.1 q.2)(hl:qs.length<=620):Z7.run [I p,.node .lst o (qs.map Prod.fst)]=(match ffx 0 qs with|none=>.ok (.sc .non,[I p,.node .lst o (qs.map Prod.fst)])|some n=>.exc (Xc "NoSymbol" true n) [I p,.node .lst o (qs.map Prod.fst)]):=by
 walk_at "r"
 have hs:=fun X=>ZgN (fun j=>decide (j < 2) || walked [.v 1,.k (.int 0)] j) (fun _ _=>false) 0 rfl rfl p X qs 0 .hole .hole hq (by omega)
 simp only [walked,Bool.or_false] at hs
 rw [show ((0:Nat):Int)=0 from rfl] at hs
 have sh:=Zjp qs fun q h=>(hq q h).2.1
 cases o with
 | false=>
  obtain ⟨a',b',hs⟩:=hs (.node .lst false (qs.map Prod.fst))
  cases hn:ffx 0 qs with
  | none=>
   rw [hn] at hs
   (simp_all [sh,it_e _ 0 (by decide),hs])<;>rfl
  | some n=>
   rw [hn] at hs
   (simp_all [sh,it_e _ 0 (by decide),hs])<;>rfl
 | true=>
  obtain ⟨a',b',hs⟩:=hs .hole
  cases hn:ffx 0 qs with
  | none=>
   rw [hn] at hs
   (simp_all [sh,it_e _ 0 (by decide),hs])<;>rfl
  | some n=>
   rw [hn] at hs
   (simp_all [sh,it_e _ 0 (by decide),hs])<;>rfl
def Zh4(x:Int):ZA.run [I x]=.ok (.sc (.bl true),[I x]):=by kernel_rfl
def ZmD(d:D)(hd:(∃ b,d=.sc (.bl b))\/(∃ x,d=.sc (.str x))\/d=.sc .non\/(∃ ds,d=.node .lst false ds)\/∃ ds,d=.node .tup false ds):ZA.run [d]=.ok (.sc (.bl false),[d]):=by
 rcases hd with ⟨b,rfl⟩|⟨x,rfl⟩|rfl|⟨ds,rfl⟩|⟨ds,rfl⟩<;>kernel_rfl
def Zle(p x:Int):Zau.run [I p,I x]=.ok (.sc (.bl (decide (0<=x) && decide (x < p))),[I p,I x]):=by
 walk_at "r"
 have l1:ZA.lend=true:=rfl
 by_cases h0:0<=x
 . (simp_all [l1,Zh4,h0])<;>rfl
 . (simp_all [l1,Zh4,h0])<;>rfl
def ZrT(p:Int)(d:D)(hd:(∃ v,d=.sc v)\/∃ k l,d=.node k false l)(h:ZA.run [d]=.ok (.sc (.bl false),[d])):Zau.run [I p,d]=.ok (.sc (.bl false),[I p,d]):=by
 walk_at "r"
 have l1:ZA.lend=true:=rfl
 rcases hd with ⟨v,rfl⟩|⟨k,l,rfl⟩<;>(simp_all [l1,h])<;>rfl
theorem Zh5:∀(xs:List Int)(c:Nat),ffx c (xs.map fun x=>(I x,true))=none
 | [],_=>rfl
 | x::xs,c=>by rw [map_cons,ffx,Zh5]
theorem ZdI:∀ xs:List Int,(xs.map fun x=>(I x,true)).map Prod.fst=dI xs
 | []=>rfl
 | x::xs=>by rw [map_cons,map_cons,ZdI xs];rfl
def Zgv(p:Int)(xs:List Int)(hx:∀ x∈xs,0<=x/\x < p):∀ q∈xs.map fun x=>((I x:D),true),Sy p q.1 q.2:=fun q h=>by
 obtain ⟨x,hx',rfl⟩:=List.mem_map.mp h
 have:=Zle p x
 rw [decide_eq_true (hx x hx').1,decide_eq_true (hx x hx').2] at this
 exact ⟨this,rfl,.inl ⟨_,rfl⟩⟩
def Zdz(p:Int)(xs:List Int)(o:Bool)(hx:∀ x∈xs,0<=x/\x < p)(hl:xs.length<=620):Z7.run [I p,Ls o xs]=.ok (.sc .non,[I p,Ls o xs]):=by
 have h:=Zfz p o (xs.map fun x=>(I x,true)) (Zgv p xs hx) (by rw [length_map];exact hl)
 rw [Zh5,ZdI] at h
 exact h
theorem Zk0(h0:lk 0=false)(p q:Int)(hp:0 < p):∀(ss acc:List Int)(a:D),∃ a',
 ZH (asgT lk (.name 0)) (tsts ⟨lk,fok,fuel⟩ [.cmp .Eq (.bin .Mod (.bin .Mult (.v 0) (.v 3)) (.v 2)) (.v 1)]) (evb ⟨lk,fok,fuel⟩ (.v 0)).1 (dI ss) (dI acc) [a,I q,I p,I 1]=.ok (dI (acc++ss.filter fun s=>decide (s % p=q)),[a',I q,I p,I 1]):=by
 intro ss
 induction ss with
 | nil=>exact fun acc a=>⟨a,by rw [List.filter_nil,append_nil];rfl⟩
 | cons s ss ih=>
  intro acc a
  have hm:binW .Mult (.sc (.int s)) (.sc (.int 1))=some (.sc (.int (s * 1))):=Zca _ _ (.inr (by decide))
  rw [Zac,Zbd]
  by_cases h:s % p=q
  . obtain ⟨a',ih⟩:=ih (acc++[s]) (I s)
    refine ⟨a',?_⟩
    have e:acc++(s::ss).filter (fun s=>decide (s % p=q))=acc++[s]++ss.filter (fun s=>decide (s % p=q)):=by
     rw [List.filter_cons_of_pos (by simpa using h)]
     simp
    rw [e,<- ih,ZL]
    simp_all [h0,hm,mul_one,ZB _ _ hp,h,V.int.injEq]
  . obtain ⟨a',ih⟩:=ih acc (I s)
    refine ⟨a',?_⟩
    rw [List.filter_cons_of_neg (by simpa using h),<- ih]
    simp_all [h0,hm,mul_one,ZB _ _ hp,h,V.int.injEq]
theorem ZmE(p q:Int)(hp:0 < p)(hp2:p<=1000)(h0:0<=q)(h1:q < p):Zcb.run [I p,I q,I 1]=.ok (I q,[I p,I q,I 1]):=by
 show Zh C0 3 3 ZbH [I p,I q,I 1]=_
 rw [runA (show [I p,I q,I 1].length=3 from rfl)]
 unfold ZbH
 simp only [replicate,reduceSub]
 obtain ⟨a',hc⟩:=Zk0 (fun i=>decide (1<=i)) (fun _ _=>false) 0 rfl p q hp (rngI 0 p.toNat) [] .hole
 rw [nil_append] at hc
 have hall:∀ s∈(rngI 0 p.toNat).filter (fun s=>decide (s % p=q)),s=q:=fun s hs=>by
  rw [List.mem_filter,ZbB] at hs
  obtain ⟨⟨b1,b2⟩,b3⟩:=hs
  rw [decide_eq_true_eq,Int.emod_eq_of_lt b1 (by omega)] at b3
  exact b3
 have hin:q∈(rngI 0 p.toNat).filter (fun s=>decide (s % p=q)):=by
  rw [List.mem_filter,ZbB,decide_eq_true_eq,Int.emod_eq_of_lt h0 h1]
  exact ⟨⟨h0,by omega⟩,rfl⟩
 have hlen:((rngI 0 p.toNat).filter (fun s=>decide (s % p=q))).length<=p.toNat:=by
  have:=List.length_filter_le (fun s=>decide (s % p=q)) (rngI 0 p.toNat)
  rwa [Zbm] at this
 generalize (rngI 0 p.toNat).filter (fun s=>decide (s % p=q))=L at hc hall hin hlen
 cases L with
 | nil=>simp at hin
 | cons s L=>
  obtain rfl:=hall s mem_cons_self
  replace hc:ZS (fun _ _=>false) 0 1 (.name 0) [.cmp .Eq (.bin .Mod (.bin .Mult (.v 0) (.v 3)) (.v 2)) (.v 1)] (.v 0) (dI (rngI 0 p.toNat)) [] [.hole,I s,I p,I 1]=_:=hc
  have hm:Zab 1 [1,0,2] (ZS (fun _ _=>false) 0 1 (.name 0) [.cmp .Eq (.bin .Mod (.bin .Mult (.v 0) (.v 3)) (.v 2)) (.v 1)] (.v 0) (dI (rngI 0 p.toNat)) []) [I p,I s,I 1]=.ok (Ls true (s::L),[I p,I s,I 1]):=by
   rw [Zaf (js:=[1,0,2]) (caps:=[I s,I p,I 1]) (δ1:=[.hole,.hole,.hole]) rfl hc (by rw [Zp,szl];omega)]
   rfl
  have hr:=ZdF p (by omega)
  have hi:=ixI (s::L) 0 (by decide) (by rw [length_cons];omega)
  have hg:(s::L).getD (0:Int).toNat 0=s:=rfl
  rw [hg] at hi
  generalize s::L=M at hm hi
  simp_all [hr,hm,hi]
  rfl
noncomputable def lst2(p:Int)(xs:List Int):Int:=(((xs.length:Int)+1) * xs.sum - (wts 1 xs).sum) % p
noncomputable def lab(p:Int)(xs:List Int):List Int:=xs++[other p xs (lst2 p xs),lst2 p xs]
def ZrU(xs:List Int):(xs++[0,0]).sum=xs.sum:=by simp
def ZrV(xs:List Int):(wts 1 (xs++[0,0])).sum=(wts 1 xs).sum:=by rw [ZmA];simp [wts]
def ZmF(p:Int)(xs:List Int)(_o:Bool)(hp:0 < p)(hp2:p<=1000)(hl:xs.length<=500):Zah.run [I p,Ls true (xs++[0,0]),I xs.length,I ((xs.length:Int)+1)]=.ok (Ls true (lab p xs),[I p,Ls true (xs++[0,0]),I xs.length,I ((xs.length:Int)+1)]):=by
 rw [show Zah.run=Zh C0 4 7 Zat from rfl]
 rw [runA (show [I p,Ls true (xs++[0,0]),I xs.length,I ((xs.length:Int)+1)].length=4 from rfl)]
 unfold Zat
 simp only [replicate,reduceSub]
 have hlen:(xs++[(0:Int),0]).length<=1000:=by rw [length_append];show xs.length+2<=_;omega
 have l1:Zbe.lend=true:=rfl
 have l2:Zbj.lend=true:=rfl
 have l3:Zcb.lend=true:=rfl
 have r1:=fun o=>Zfx p (xs++[0,0]) o hp
 have r2:=fun o=>ZgM p (xs++[0,0]) o hp hlen
 have r4:=fun o=>Zfx p (xs++[0,lst2 p xs]) o hp
 rw [ZrU] at r1
 rw [ZrV] at r2
 have hq:(((xs.length:Int)+1) * (xs.sum % p) - (wts 1 xs).sum % p) % p=lst2 p xs:=by
  unfold lst2
  rw [sub_emod,Int.mul_emod,Int.emod_emod,Int.emod_emod,<- Int.mul_emod,<- sub_emod]
 have r3:=ZmE p (lst2 p xs) hp hp2 (emod_nonneg _ (by omega)) (emod_lt_of_pos _ hp)
 have hd:(xs.length:Int)+1 - xs.length=1:=by omega
 have ho:-((xs++[0,lst2 p xs]).sum % p) % p=other p xs (lst2 p xs):=by
  unfold other
  rw [<- Int.zero_sub,sub_emod,Int.emod_emod,<- sub_emod]
  congr 1
  simp only [List.sum_append,List.sum_cons,List.sum_nil]
  omega
 have hm:∀ u:Int,binW .Mult (.sc (.int ((xs.length:Int)+1))) (.sc (.int u))=some (.sc (.int (((xs.length:Int)+1) * u))):=fun u=>Zca _ _ (.inl (by omega))
 have hi1:ixN' (dI (xs++[(0:Int),0])).length ((xs.length:Int)+1)=some (xs.length+1):=by
  have:=ZdD (dI (xs++[(0:Int),0])).length (xs.length+1) (by rw [Zp,length_append];show xs.length+1 < xs.length+2;omega)
  rwa [show ((xs.length+1:Nat):Int)=(xs.length:Int)+1 by omega] at this
 have hi2:ixN' (dI (xs++[0,lst2 p xs])).length (xs.length:Int)=some xs.length:=ZdD _ _ (by rw [Zp,length_append];show xs.length < xs.length+2;omega)
 have s1:∀(δ:List D)(v:Int),mdR 6 δ (Zcv (.sc (.int ((xs.length:Int)+1))) (.sc (.int v))) (some (.node .lst true (dI (xs++[0,0]))))=.ok (.sc .non,δ.set 6 (Ls true (xs++[0,v]))):=fun δ v=>by
  rw [Zgb 6 δ _ _ _ _ hi1]
  have:(dI (xs++[0,0])).set (xs.length+1) (.sc (.int v))=dI (xs++[0,v]):=by
   rw [ZL,List.set_append_right _ _ (by rw [Zp];omega),Zp,ZL,show xs.length+1 - xs.length=1 by omega]
   rfl
  rw [this]
 have s2:∀(δ:List D)(v:Int),mdR 6 δ (Zcv (.sc (.int (xs.length:Int))) (.sc (.int v))) (some (.node .lst true (dI (xs++[0,lst2 p xs]))))=.ok (.sc .non,δ.set 6 (Ls true (xs++[v,lst2 p xs]))):=fun δ v=>by
  rw [Zgb 6 δ _ _ _ _ hi2]
  have:(dI (xs++[0,lst2 p xs])).set xs.length (.sc (.int v))=dI (xs++[v,lst2 p xs]):=by
   rw [ZL,List.set_append_right _ _ (by rw [Zp];omega),Zp,ZL,show xs.length - xs.length=0 by omega]
   rfl
  rw [this]
 (simp_all [Zt,l1,l2,l3,r1,r2,r3,r4,hm,ZB _ _ hp,hq,hd,ho,s1,s2])<;>rfl
def Zd0(p:Int)(xs:List Int)(_o:Bool)(hp:0 < p)(hp2:p<=1000)(hl:(xs.length:Int)<=p - 2)(hl2:xs.length<=500)(hx:∀ x∈xs,0<=x/\x < p):Za6.run [I p,Ls true xs]=.ok (Ls true (lab p xs),[I p,Ls true xs]):=by
 rw [show Za6.run=Zh C0 2 3 ZbI from rfl]
 rw [runA (show [I p,Ls true xs].length=2 from rfl)]
 unfold ZbI
 simp only [replicate,reduceSub]
 have l1:Z7.lend=true:=rfl
 have l2:Zah.lend=true:=rfl
 have r1:=fun o=>Zdz p xs o hx (by omega)
 have r2:=ZmF p xs true hp hp2 hl2
 have hz:(2:Nat)<=sizeLine:=by rw [szl];decide
 have hn:∀ u v:D,newL [u,v]=some (.node .lst true [u,v]):=fun u v=>Z9 _ (by simpa using hz)
 have hcat:binW .Add (.nd .lst (dI xs)) (.nd .lst [.sc (.int 0),.sc (.int 0)])=some (Ls true (xs++[0,0])):=by
  rw [Zbx (dI xs) [.sc (.int 0),.sc (.int 0)] (by rw [length_append,Zp,szl];show xs.length+2<=_;omega),Ls,ZL]
  rfl
 have hlt:¬ p - 2 < (xs.length:Int):=by omega
 have hdl:=Zp xs
 (simp_all [Zt,l1,l2,r1,r2,hn,hcat,hdl,hlt])<;>rfl
def ZeZ(p:Int)(xs:List Int):(lab p xs).length=xs.length+2:=by unfold lab;rw [length_append];rfl
noncomputable abbrev PR:List Int:=[5,7,11,13,17,19,23,29,31,37,41,43,47]
noncomputable abbrev fs2:List Str:=["size","room"]
noncomputable abbrev Ro(C:Addr)(o:Bool)(p r:Int):D:=.node (.ins C fs2) o [I p,I r]
def Zlf(C:Addr)(f:Str)(h:f∈fs2):(CK C).fok C f=true:=by
 show (decide (C=C) && _)=true
 simp only [decide_true,Bool.true_and,or_eq_true,beq_iff_eq]
 simp only [mem_cons,not_mem_nil,or_false] at h
 rcases h with rfl|rfl
 . exact .inl rfl
 . exact .inr rfl
def Zlg(C:Addr)(f:Str)(fs:List Str)(ds:List D)(x:D)(hf:f∈fs2)(hl:Zct f fs ds=some x):fldW (CK C).fok f (.nd (.ins C fs) ds)=some x:=by
 show (if (CK C).fok C f=true then Zct f fs ds else none)=_
 rw [if_pos (Zlf C f hf),hl]
def ZdJ(C:Addr)(a b:D):fldW (CK C).fok "size" (.nd (.ins C fs2) [a,b])=some a:=Zlg C _ _ _ _ (by decide) rfl
def ZfC(C:Addr)(a b:D):fldW (CK C).fok "room" (.nd (.ins C fs2) [a,b])=some b:=Zlg C _ _ _ _ (by decide) rfl
def Zjq(C:Addr)(i:Nat)(δ:List D)(f:Str)(hf:f∈fs2)(d:D)(fs:List Str)(ds:List D)(hl:fs.length < 1000):mdR i δ (putD (CK C).fok f d) (some (.node (.ins C fs) true ds))=.ok (.sc .non,δ.set i (.node (.ins C (putN f fs)) true (putV f d fs ds))):=by
 have e:putD (CK C).fok f d (.ins C fs) ds=some (.sc .non,.ins C (putN f fs),putV f d fs ds):=by
  show (if fs.length < 1000/\(CK C).fok C f=true then some (D.sc .non,Kd.ins C (putN f fs),T.putV f d fs ds) else none)=_
  rw [if_pos ⟨hl,Zlf C f hf⟩]
 show (match putD (CK C).fok f d (.ins C fs) ds with|some (r,k',ds')=>Rs.ok (r,δ.set i (.node k' true ds'))|none=>.stuck)=_
 rw [e]
def ZgO(p r:Int)(hp:p∈PR)(h1:1<=r)(h2:r<=p - 5):Zbq.run [I p,I r]=.ok (.sc (.bl true),[I p,I r]):=by
 show Zh C0 2 2 Zcc [I p,I r]=_
 rw [runA (show [I p,I r].length=2 from rfl)]
 unfold Zcc
 simp only [replicate,reduceSub]
 have l1:ZA.lend=true:=rfl
 have w1:=Zfy p
 have w2:=Zfy r
 have hn:Za2 .NotIn (.sc (.int p)) (.nd .ftp ((PR.map V.int).map D.sc))=some false:=by
  show some (!decide (p∈PR))=some false
  rw [decide_eq_true hp]
  rfl
 have hsh:shrL ((PR.map V.int).map D.sc)=(PR.map V.int).map D.sc:=rfl
 generalize (PR.map V.int).map D.sc=pr at hn hsh
 (simp_all [l1,w1,w2,hn,hsh,ZdG,h1,h2])<;>rfl
def Zgw(C:Addr)(p r:Int)(hp:p∈PR)(h1:1<=r)(h2:r<=p - 5):(Zv C).run [.node (.ins C []) true [],I p,I r]=.ok (.sc .non,[Ro C true p r,I p,I r]):=by
 rw [show (Zv C).run=Zh (CK C) 3 3 (Za7 C) from rfl]
 rw [runA (show [D.node (.ins C []) true [],I p,I r].length=3 from rfl)]
 unfold Za7
 simp only [replicate,reduceSub]
 have l1:Zbq.lend=true:=rfl
 have r1:=ZgO p r hp h1 h2
 have p1:=fun(δ:List D)(d:D)=>Zjq C 0 δ "size" (by decide) d [] [] (by decide)
 have p2:=fun(δ:List D)(a d:D)=>Zjq C 0 δ "room" (by decide) d ["size"] [a] (by decide)
 have e1:putN "size" []=([Str.ofString "size"]:List Str):=rfl
 have e2:putN "room" ["size"]=fs2:=by decide
 have e3:∀ d:D,putV "size" d [] []=[d]:=fun d=>rfl
 have e4:∀ a d:D,putV "room" d ["size"] [a]=[a,d]:=fun a d=>rfl
 (simp_all [l1,r1,p1,p2,e1,e2,e3,e4])<;>rfl
def new2{A:Addr}{fi:FI}{j:Nat}{p r:Int}{x:D}(hi:δ[i]?=some (I p))(hj:δ[j]?=some (I r))(h:fi.run [.node (.ins A []) true [],I p,I r]=.ok (.sc .non,[x,I p,I r])):newF A fi [.late i,.late j] δ=.ok (x,δ):=by
 have t1:takeA fi.lend (.late i) δ=.ok (I p,δ):=by unfold takeA;dsimp only;rw [hi]
 have t2:takeA fi.lend (.late j) δ=.ok (I r,δ):=by unfold takeA;dsimp only;rw [hj]
 have t:ZJ fi.lend [.late i,.late j] δ=.ok ([I p,I r],δ):=by
  show ((takeA fi.lend (.late i)).bnd fun d=>((takeA fi.lend (.late j)).bnd fun d=>(M.ret []).bnd fun ds=>M.ret (d::ds)).bnd fun ds=>M.ret (d::ds)) δ=_
  rw [Zak t1,Zak (Zak t2)]
  rfl
 have g1:Zav (.late i) (I p) δ=.ok ((),δ):=by unfold Zav;dsimp only;rw [hi]
 have g2:Zav (.late j) (I r) δ=.ok ((),δ):=by unfold Zav;dsimp only;rw [hj]
 unfold newF
 rw [Zak t,h]
 show (((Zav (.late i) (I p)).bnd fun _=>(Zav (.late j) (I r)).bnd fun _=>M.ret ()).bnd fun _=>M.ret x) δ=_
 rw [Zak (show ((Zav (.late i) (I p)).bnd fun _=>(Zav (.late j) (I r)).bnd fun _=>M.ret ()) δ=.ok ((),δ) by rw [Zak g1,Zak g2];rfl)]
 rfl
noncomputable abbrev dL(o:Bool)(ls:List (List Int)):List D:=ls.map (Ls o)
theorem ZaC(o:Bool)(ls:List (List Int)):shrL (dL o ls)=dL false ls:=by
 induction ls with
 | nil=>rfl
 | cons l ls ih=>
  show shr (Ls o l)::shrL (dL o ls)=_
  rw [ih]
  show D.node .lst false (shrL (dI l))::_=_
  rw [Zt]
  rfl
def Zh6(o:Bool)(l:List Int)(ls:List (List Int)):dL o (l::ls)=Ls o l::dL o ls:=(rfl)
def ZcG(o:Bool)(l m:List (List Int)):dL o (l++m)=dL o l++dL o m:=map_append
def ZaD(o:Bool)(l:List (List Int)):(dL o l).length=l.length:=length_map _
noncomputable def piece(row:List Int)(r a:Int):List Int:=cutI row (some a) (some (a+r))
def Zlh(n:Int):bfW .max [.sc (.int 1),.sc (.int n)]=some (.sc (.int (if 1 < n then n else 1))):=by
 show maxB [.sc (.int 1),.sc (.int n)]=_
 unfold maxB
 rfl
theorem ZgP(h0:lk 0=false)(row:List Int)(r:Int)(o:Bool):∀(as:List Int)(acc:List (List Int))(a:D),∃ a',
 ZH (asgT lk (.name 0)) (tsts ⟨lk,fok,fuel⟩ []) (evb ⟨lk,fok,fuel⟩ (.sl (.v 1) (.v 0) (.bin .Add (.v 0) (.v 2)))).1 (dI as) (dL true acc) [a,Ls o row,I r]=.ok (dL true (acc++as.map (piece row r)),[a',Ls o row,I r]):=by
 intro as
 induction as with
 | nil=>exact fun acc a=>⟨a,by rw [map_nil,append_nil];rfl⟩
 | cons x as ih=>
  intro acc a
  obtain ⟨a',ih⟩:=ih (acc++[piece row r x]) (I x)
  refine ⟨a',?_⟩
  rw [map_cons,show acc++(piece row r x::as.map (piece row r))=acc++[piece row r x]++as.map (piece row r) by rw [List.append_assoc];rfl,<- ih,Zac,Zbd,ZcG]
  have hc:cutD (dI row) (some x) (some (x+r))=dI (piece row r x):=ZaP row _ _
  cases o<;>simp_all [h0,Zt,hc]
noncomputable def starts(n:Nat)(r:Int):List Int:=rngS 0 (if (1:Int) < n then n else 1) r
def ZeC(row:List Int)(r:Int)(hl:row.length<=1000)(h1:1<=r)(h2:r<=100):ZaF.run [Ls true row,I r]=.ok (.node .lst true (dL true ((starts row.length r).map (piece row r))),[Ls true row,I r]):=by
 rw [show ZaF.run=Zh C0 2 2 Zb1 from rfl]
 rw [runA (show [Ls true row,I r].length=2 from rfl)]
 unfold Zb1
 simp only [replicate,reduceSub]
 obtain ⟨a',hc⟩:=ZgP (fun i=>decide (1<=i)) (fun _ _=>false) 0 rfl row r true (starts row.length r) [] .hole
 rw [nil_append] at hc
 have hmx:=Zlh (row.length:Int)
 have hdl:((dI row).length:Int)=(row.length:Int):=by rw [Zp]
 have hm:(if (1:Int) < row.length then (row.length:Int) else 1)<=1000/\1<=(if (1:Int) < row.length then (row.length:Int) else 1):=by split<;>omega
 have hit:itW .rng3 [.sc (.int 0),.sc (.int (if (1:Int) < row.length then (row.length:Int) else 1)),.sc (.int r)]=some (dI (starts row.length r)):=by
  show (if _ then _ else _)=_
  rw [if_pos (by simp only [okR,and_eq_true,decide_eq_true_eq];omega)]
  rfl
 have hsz:(starts row.length r).length<=1000:=by
  unfold starts rngS
  rw [length_map,length_range]
  (unfold Builtin.Range.rangeSize)
  rw [if_pos (by omega),if_pos (by omega)]
  have:=Int.ediv_le_self (a:=(if (1:Int) < row.length then (row.length:Int) else 1) - 0 - 1) r (by omega)
  omega
 generalize starts row.length r=as at hc hit hsz
 generalize (if (1:Int) < row.length then (row.length:Int) else 1)=m at hmx hit
 replace hc:ZS (fun _ _=>false) 0 1 (.name 0) [] (.sl (.v 1) (.v 0) (.bin .Add (.v 0) (.v 2))) (dI as) [] [.hole,Ls true row,I r]=_:=hc
 have hm1:Zab 1 [0,1] (ZS (fun _ _=>false) 0 1 (.name 0) [] (.sl (.v 1) (.v 0) (.bin .Add (.v 0) (.v 2))) (dI as) []) [Ls true row,I r]=.ok (.node .lst true (dL true (as.map (piece row r))),[Ls true row,I r]):=by
  rw [Zaf (js:=[0,1]) (caps:=[Ls true row,I r]) (δ1:=[.hole,.hole]) rfl hc (by rw [ZaD,length_map,szl];omega)]
  rfl
 (simp_all [Zt,hdl,hmx,hit,hm1])<;>rfl
noncomputable def Zd1:V->Bool
 | .int _=>true
 | _=>false
def oddV(v:V):Prop:=(∃ x,v=.int x)\/(∃ b,v=.bl b)\/(∃ x,v=.str x)\/v=.non
def Zh7(v:V)(h:oddV v):ZA.run [.sc v]=.ok (.sc (.bl (Zd1 v)),[.sc v]):=by
 rcases h with ⟨x,rfl⟩|⟨x,rfl⟩|⟨x,rfl⟩|rfl<;>kernel_rfl
noncomputable def Za9:V->V->Bool
 | .int p,.int r=>decide (p∈PR) && (decide (1<=r) && decide (r<=p - 5))
 | _,_=>false
def ZmG(u v:V)(hu:oddV u)(hv:oddV v):Zbq.run [.sc u,.sc v]=.ok (.sc (.bl (Za9 u v)),[.sc u,.sc v]):=by
 walk_at "r"
 have l1:ZA.lend=true:=rfl
 have w1:=Zh7 u hu
 have w2:=Zh7 v hv
 have hsh:shrL ((PR.map V.int).map D.sc)=(PR.map V.int).map D.sc:=rfl
 have hn:∀ p:Int,Za2 .NotIn (.sc (.int p)) (.nd .ftp ((PR.map V.int).map D.sc))=some (!decide (p∈PR)):=fun p=>rfl
 generalize (PR.map V.int).map D.sc=pr at hn hsh
 rcases hu with ⟨p,rfl⟩|⟨x,rfl⟩|⟨x,rfl⟩|rfl
 . by_cases hp:p∈PR
   . have e1:decide (p∈PR)=true:=decide_eq_true hp
     rcases hv with ⟨r,rfl⟩|⟨x,rfl⟩|⟨x,rfl⟩|rfl
     . by_cases h1:1<=r<;>by_cases h2:r<=p - 5
       all_goals (simp only [Zd1] at w1 w2;simp only [Za9,e1,h1,h2];(simp_all [l1,w1,w2,hn,hsh,e1,ZdG,h1,h2])<;>rfl)
     all_goals (simp only [Zd1] at w1 w2;(simp_all [l1,w1,w2,hn,hsh,e1])<;>rfl)
   . have e1:decide (p∈PR)=false:=decide_eq_false hp
     have e2:Za9 (.int p) v=false:=by cases v<;>simp only [Za9,e1,Bool.false_and]
     rw [e2]
     simp only [Zd1] at w1
     (simp_all [l1,w1,hn,hsh,e1])<;>rfl
 all_goals (simp only [Zd1] at w1;(simp_all [l1,w1])<;>rfl)
noncomputable abbrev NR(o:Bool):D:=.node (.exc ["NoRoom","LabelError"] false []) o []
def ZmH(C:Addr)(u v:V)(hu:oddV u)(hv:oddV v)(h:Za9 u v=false):(Zv C).run [.node (.ins C []) true [],.sc u,.sc v]=.exc (NR true) [.node (.ins C []) true [],.sc u,.sc v]:=by
 have l1:Zbq.lend=true:=rfl
 have r1:=ZmG u v hu hv
 rw [h] at r1
 walk_at "r"
 (simp_all [l1,r1])<;>rfl
def Zjr:ZM.run [NR false,I 0]=.ok (.sc (.bl true),[NR false,I 0]):=by kernel_rfl
def ZmI(C:Addr)(u v:V)(d x2 x3:D)(h:(Zv C).run [.node (.ins C []) true [],.sc u,.sc v]=.ok (.sc .non,[d,.sc u,.sc v])):makX C (Zv C) [.late 0,.late 1] [.sc u,.sc v,x2,x3]=.ok (d,[.sc u,.sc v,x2,x3]):=by
 unfold makX
 rw [Zak (show ZJ (Zv C).lend [.late 0,.late 1] [.sc u,.sc v,x2,x3]=.ok ([.sc u,.sc v],[.sc u,.sc v,x2,x3]) from rfl)]
 rw [h]
 rfl
def Zpf(C:Addr)(u v:V)(x d x2 x3:D)(h:(Zv C).run [.node (.ins C []) true [],.sc u,.sc v]=.exc x [d,.sc u,.sc v]):makX C (Zv C) [.late 0,.late 1] [.sc u,.sc v,x2,x3]=.exc x [.sc u,.sc v,x2,x3]:=by
 unfold makX
 rw [Zak (show ZJ (Zv C).lend [.late 0,.late 1] [.sc u,.sc v,x2,x3]=.ok ([.sc u,.sc v],[.sc u,.sc v,x2,x3]) from rfl)]
 rw [h]
 rfl
def ZrW(lk:Nat->Bool)(c:Str)(i:Nat)(s:M Fl)(r:Fl×List D):tfR lk c i s (.ok r)=.ok r:=(rfl)
def tf_x(lk:Nat->Bool)(c:Str)(i:Nat)(s:M Fl)(x d:D)(δ:List D)(h:frzX c x=some d)(hi:(decide (i < δ.length) && !lk i)=true):tfR lk c i s (.exc x δ)=ZcN i (s (δ.set i d)):=by
 show (match frzX c x with|some d=>if (decide (i < δ.length) && !lk i)=true then ZcN i (s (δ.set i d)) else .stuck|none=>.stuck)=_
 rw [h]
 exact if_pos hi
def Zee(i:Nat)(f:Fl)(δ:List D):ZcN i (.ok (f,δ))=.ok (f,δ.set i .hole):=(rfl)
theorem Zgx(C:Addr)(u v:V)(hu:oddV u)(hv:oddV v):(Zai C).run [.sc u,.sc v]=.ok (.sc (.str (if Za9 u v=true then "ok" else "none")),[.sc u,.sc v]):=by
 walk_at "r"
 cases h:Za9 u v with
 | true=>
  have hh:∃ p r,u=.int p/\v=.int r/\p∈PR/\1<=r/\r<=p - 5:=by
   rcases hu with ⟨p,rfl⟩|⟨x,rfl⟩|⟨x,rfl⟩|rfl
   . rcases hv with ⟨r,rfl⟩|⟨x,rfl⟩|⟨x,rfl⟩|rfl
     . simp only [Za9,and_eq_true,decide_eq_true_eq] at h
       exact ⟨p,r,rfl,rfl,h.1,h.2.1,h.2.2⟩
     all_goals cases h
   all_goals cases h
  obtain ⟨p,r,rfl,rfl,h1,h2,h3⟩:=hh
  have m1:=fun x2 x3=>ZmI C (.int p) (.int r) (Ro C true p r) x2 x3 (Zgw C p r h1 h2 h3)
  (simp_all [m1,ZrW])<;>rfl
 | false=>
  have m1:=fun x2 x3=>Zpf C u v (NR true) (.node (.ins C []) true []) x2 x3 (ZmH C u v hu hv h)
  have f1:frzX "LabelError" (NR true)=some (NR false):=rfl
  have hx:=fun(s:M Fl)=>tf_x (fun i=>decide (i < 2)) "LabelError" 3 s (NR true) (NR false) [.sc u,.sc v,.sc (.str "ok"),.hole] f1 rfl
  have hn:∀ u v:D,newL [u,v]=some (.node .lst true [u,v]):=fun u v=>Z9 _ (by rw [szl];simp)
  have k1:ZM.lend=true:=rfl
  have i1:bfW .int [.sc (.bl true)]=some (I 1):=rfl
  have x1:∀ a b:D,((ixN' 2 1).bind fun j=>[a,b][j]?)=some b:=fun a b=>rfl
  (simp_all [m1,hx,Zee,hn,k1,Zjr,i1,x1])<;>rfl
noncomputable def bdy(r:Int)(xs:List Int):List Int:=[(xs.length:Int)]++xs++replicate (r - xs.length).toNat 0
noncomputable def lbl(p r c k:Int)(xs:List Int):List Int:=lab p ([k,c]++bdy r xs)
def ZcH(r:Int)(xs:List Int)(h:(xs.length:Int)<=r):(bdy r xs).length=r.toNat+1:=by
 unfold bdy
 rw [length_append,length_append,length_replicate]
 show 1+xs.length+_=_
 omega
def ZmJ(p r:Int)(xs:List Int)(h:(xs.length:Int)<=r)(hr:r < p)(hx:∀ x∈xs,0<=x/\x < p):∀ x∈bdy r xs,0<=x/\x < p:=fun x hm=>by
 unfold bdy at hm
 (rcases List.mem_append.mp hm with hm|hm)
 . (rcases List.mem_append.mp hm with hm|hm)
   . rw [List.mem_singleton.mp hm];omega
   . exact hx x hm
 . rw [(List.mem_replicate.mp hm).2];omega
def Zli(n:Int)(h1:-100<=n)(h2:n<=100):binW .Mult (.nd .lst [.sc (.int 0)]) (.sc (.int n))=some (Ls true (replicate n.toNat 0)):=by
 show (if _ then _ else _)=_
 rw [if_pos (by rw [szl];show -(2 ^ 63)<=n/\n < 2 ^ 63/\1 * n.toNat<=16777216;omega)]
 show some (D.node .lst true ((replicate n.toNat [(0:Int)]).flatten.map fun i=>D.sc (.int i)))=_
 rw [List.flatten_replicate_singleton]
def Zpg(C:Addr)(p r k c:Int)(xs:List Int)(o:Bool)(hp:7<=p)(hp2:p<=47)(h1:1<=r)(h2:r<=p - 5)(hk:0<=k/\k < p)(hc:0<=c/\c < p)(hl:(xs.length:Int)<=r)(hx:∀ x∈xs,0<=x/\x < p):
 (Z4 C).run [Ro C true p r,I k,I c,Ls o xs]=.ok (Ls true (lbl p r c k xs),[Ro C true p r,I k,I c,Ls o xs]):=by
 rw [show (Z4 C).run=Zh (CK C) 4 5 (Zap C) from rfl]
 rw [runA (show [Ro C true p r,I k,I c,Ls o xs].length=4 from rfl)]
 unfold Zap
 simp only [replicate,reduceSub]
 have l1:Za6.lend=true:=rfl
 have hw1:∀ u:D,newL [u]=some (.node .lst true [u]):=fun u=>Z9 _ (by rw [szl];simp)
 have hw3:∀ u v w:D,newL [u,v,w]=some (.node .lst true [u,v,w]):=fun u v w=>Z9 _ (by rw [szl];simp)
 have hdl:((dI xs).length:Int)=(xs.length:Int):=by rw [Zp]
 have hm:=Zli (r - xs.length) (by omega) (by omega)
 have hb:=ZcH r xs hl
 have hbs:=ZmJ p r xs hl (by omega) hx
 have e:[k,c]++bdy r xs=[k,c,(xs.length:Int)]++xs++replicate (r - xs.length).toNat 0:=by unfold bdy;simp
 have c1:binW .Add (.nd .lst [.sc (.int k),.sc (.int c),.sc (.int xs.length)]) (.nd .lst (dI xs))=some (Ls true ([k,c,(xs.length:Int)]++xs)):=by
  rw [Zbx _ _ (by rw [length_append,Zp,szl];show 3+xs.length<=_;omega),Ls,ZL]
  rfl
 have c2:binW .Add (.nd .lst (dI ([k,c,(xs.length:Int)]++xs))) (.nd .lst (dI (replicate (r - xs.length).toNat 0)))=some (Ls true ([k,c]++bdy r xs)):=by
  rw [Zbx _ _ (by rw [length_append,Zp,Zp,length_replicate,length_append,szl];show 3+xs.length+_<=_;omega),e,<- ZL]
 have hlab:=Zd0 p ([k,c]++bdy r xs) true (by omega) (by omega) (by rw [length_append,hb];show ((2+(r.toNat+1):Nat):Int)<=_;omega) (by rw [length_append,hb];show 2+(r.toNat+1)<=_;omega) (fun x h=>by
  (rcases List.mem_append.mp h with h|h)
  . simp only [mem_cons,not_mem_nil,or_false] at h
    rcases h with rfl|rfl
    . exact hk
    . exact hc
  . exact hbs x h)
 generalize replicate (r - xs.length).toNat 0=zs at hm c2
 generalize ([k,c,(xs.length:Int)]++xs)=as at c1 c2
 unfold lbl
 generalize ([k,c]++bdy r xs)=bs at c2 hlab
 have f1:=ZdJ C (I p) (I r)
 have f2:=ZfC C (I p) (I r)
 cases o<;>(simp_all [Zt,l1,hw1,hw3,hdl,f1,f2,hm,c1,c2,hlab])<;>rfl
theorem Zgy(h0:lk 0=false)(q:Int)(hq:0<=q):∀(ls:List (List Int))(acc:List Int)(a:D),(∀ l∈ls,q < (l.length:Int))->∃ a',
 ZH (asgT lk (.name 0)) (tsts ⟨lk,fok,fuel⟩ []) (evb ⟨lk,fok,fuel⟩ (.ix (.v 0) (.v 1))).1 (dL false ls) (dI acc) [a,I q]=.ok (dI (acc++ls.map fun l=>l.getD q.toNat 0),[a',I q]):=by
 intro ls
 induction ls with
 | nil=>exact fun acc a _=>⟨a,by rw [map_nil,append_nil];rfl⟩
 | cons l ls ih=>
  intro acc a hl
  obtain ⟨a',ih⟩:=ih (acc++[l.getD q.toNat 0]) (Ls false l) fun x hx=>hl x (mem_cons_of_mem _ hx)
  refine ⟨a',?_⟩
  rw [map_cons,show acc++(l.getD q.toNat 0::ls.map fun l=>l.getD q.toNat 0)=acc++[l.getD q.toNat 0]++ls.map (fun l=>l.getD q.toNat 0) by rw [List.append_assoc];rfl,<- ih,Zh6,Zbd,ZL]
  have ix:=ixI l q hq (hl l mem_cons_self)
  simp_all [h0,ix]
noncomputable def col(p:Int)(ls:List (List Int))(q:Int):Int:=-((ls.map fun l=>l.getD q.toNat 0).sum) % p
theorem Zk1(C:Addr)(lk:Nat->Bool)(h4:lk 4=false)(h5:lk 5=false)(p r:Int)(hp:0 < p)(x1 x2:Int)(o o' oo:Bool)(ls:List (List Int))(hls:ls.length<=1000):∀(qs:List Int)(row:List Int)(a:D),row.length+qs.length<=1000->(∀ q∈qs,0<=q/\∀ l∈ls,q < (l.length:Int))->∃ a',
 forL (asgT lk (.name 5)) (exs ⟨lk,(CK C).fok,(CK C).fuel⟩ [.ex (.mut .append 4 [] [.bin .Mod (.neg (.bor (.bf .sum [.comp 1 [5] (.name 0) .val [.v 3] [] (.ix (.v 0) (.v 1))]))) (.fld (.v 0) "size")])]) (dI qs) [Ro C oo p r,I x1,I x2,.node .lst o' (dL o ls),Ls true row,a]
  = .ok (.nx,[Ro C oo p r,I x1,I x2,.node .lst o' (dL o ls),Ls true (row++qs.map (col p ls)),a']):=by
 intro qs
 induction qs with
 | nil=>exact fun row a _ _=>⟨a,by rw [map_nil,append_nil];rfl⟩
 | cons q qs ih=>
  intro row a hl hq
  rw [length_cons] at hl
  obtain ⟨a',ih⟩:=ih (row++[col p ls q]) (I q) (by rw [length_append,length_singleton];omega) fun x hx=>hq x (mem_cons_of_mem _ hx)
  refine ⟨a',?_⟩
  obtain ⟨b',hc⟩:=Zgy (fun i=>decide (1<=i)) (CK C).fok (CK C).fuel rfl q (hq q mem_cons_self).1 ls [] .hole (hq q mem_cons_self).2
  rw [nil_append] at hc
  replace hc:ZS (CK C).fok (CK C).fuel 1 (.name 0) [] (.ix (.v 0) (.v 1)) (dL false ls) [] [.hole,I q]=_:=hc
  have hm1:∀ x0 x1 x2 x3 x4:D,Zab 1 [5] (ZS (CK C).fok (CK C).fuel 1 (.name 0) [] (.ix (.v 0) (.v 1)) (dL false ls) []) [x0,x1,x2,x3,x4,I q]=.ok (Ls true (ls.map fun l=>l.getD q.toNat 0),[x0,x1,x2,x3,x4,I q]):=fun x0 x1 x2 x3 x4=>by
   rw [Zaf (js:=[5]) (caps:=[I q]) (δ1:=[x0,x1,x2,x3,x4,.hole]) rfl hc (by rw [Zp,length_map,szl];omega)]
   rfl
  have hs:-((ls.map fun l=>l.getD q.toNat 0).sum) % p=col p ls q:=rfl
  have ap:∀ δ:List D,mdR 4 δ (appD (.sc (.int (col p ls q)))) (some (.node .lst true (dI row)))=.ok (.sc .non,δ.set 4 (.node .lst true (dI (row++[col p ls q])))):=fun δ=>by
   rw [Zdq 4 δ _ _ (by rw [Zp,szl];omega),ZL]
   rfl
  generalize hcs:(ls.map fun l=>l.getD q.toNat 0)=cs at hm1 hs
  have sm:=Za5 cs
  have f1:=ZdJ C (I p) (I r)
  rw [map_cons,show row++(col p ls q::qs.map (col p ls))=row++[col p ls q]++qs.map (col p ls) by rw [List.append_assoc];rfl,<- ih,Zac,ZbZ]
  cases oo<;>cases o'<;>(simp_all [h4,h5,Zt,ZaC,hm1,sm,f1,ZB _ _ hp,hs,ap])
def ZmK(C:Addr)(p r m c:Int)(o o' oo:Bool)(ls:List (List Int))(hp:7<=p)(hp2:p<=47)(h1:1<=r)(h2:r<=p - 5)(hm:0<=m/\m < p)(hc:0<=c/\c < p)(hn:ls.length<=1000)(hls:∀ l∈ls,r+3<=(l.length:Int)):
 (Zay C).run [Ro C oo p r,I m,I c,.node .lst o' (dL o ls)]=.ok (Ls true (lab p ([m,c]++(rngI 2 (r+1).toNat).map (col p ls))),[Ro C oo p r,I m,I c,.node .lst o' (dL o ls)]):=by
 rw [show (Zay C).run=Zh (CK C) 4 6 (ZaJ C) from rfl]
 rw [runA (show [Ro C oo p r,I m,I c,.node .lst o' (dL o ls)].length=4 from rfl)]
 unfold ZaJ
 simp only [replicate,reduceSub]
 have hrl:(rngI 2 (r+1).toNat).length=(r+1).toNat:=by
  have:∀(n:Nat)(a:Int),(rngI a n).length=n:=fun n=>by
   induction n with
   | zero=>exact fun a=>rfl
   | succ n ih=>exact fun a=>by rw [rngI,length_cons,ih]
  exact this _ _
 have hmem:∀(n:Nat)(a x:Int),x∈rngI a n->a<=x/\x < a+n:=fun n=>by
  induction n with
  | zero=>intro a x h;simp [rngI] at h
  | succ n ih=>
   intro a x h
   rw [rngI] at h
   (rcases List.mem_cons.mp h with rfl|h)
   . omega
   . have:=ih (a+1) x h;omega
 obtain ⟨a',hf⟩:=Zk1 C (fun j=>decide (j < 4) || walked [.k (.int 2),.bin .Add (.k (.int 3)) (.fld (.v 0) "room")] j) rfl rfl p r (by omega) m c o o' oo ls hn (rngI 2 (r+1).toNat) [m,c] .hole (by rw [hrl];show 2+_<=_;omega) (fun q hq=>by
  have:=hmem _ _ _ hq
  exact ⟨by omega,fun l hl=>by have:=hls l hl;omega⟩)
 have hit:itW .rng2 [.sc (.int 2),.sc (.int (3+r))]=some (dI (rngI 2 (r+1).toNat)):=by
  have:=ZrA 2 (3+r) (by omega)
  rwa [show (3+r - 2).toNat=(r+1).toNat by omega] at this
 have hcs:∀ x∈(rngI 2 (r+1).toNat).map (col p ls),0<=x/\x < p:=fun x h=>by
  obtain ⟨q,_,rfl⟩:=List.mem_map.mp h
  exact ⟨emod_nonneg _ (by omega),emod_lt_of_pos _ (by omega)⟩
 have hcl:((rngI 2 (r+1).toNat).map (col p ls)).length=(r+1).toNat:=by rw [length_map,hrl]
 have hlab:=Zd0 p ([m,c]++(rngI 2 (r+1).toNat).map (col p ls)) true (by omega) (by omega) (by rw [length_append,hcl];show ((2+(r+1).toNat:Nat):Int)<=_;omega) (by rw [length_append,hcl];show 2+(r+1).toNat<=_;omega) (fun x h=>by
  (rcases List.mem_append.mp h with h|h)
  . simp only [mem_cons,not_mem_nil,or_false] at h
    rcases h with rfl|rfl
    . exact hm
    . exact hc
  . exact hcs x h)
 generalize rngI 2 (r+1).toNat=rg at hf hit hlab
 simp only [walked,Bool.or_false,Ls,Zac,Zjf] at hf
 generalize ([m,c]++rg.map (col p ls))=row at hf hlab
 have l1:Za6.lend=true:=rfl
 have hw2:∀ u v:D,newL [u,v]=some (.node .lst true [u,v]):=fun u v=>Z9 _ (by rw [szl];simp)
 have f1:=ZdJ C (I p) (I r)
 have f2:=ZfC C (I p) (I r)
 cases oo<;>cases o'<;>(simp_all [Zt,ZaC,l1,hw2,f1,f2,hit,hf,hlab])<;>rfl
def ZfD(C:Addr)(m:Str)(i:Nat)(δ:List D)(fs:List Str)(o:Bool)(ds:List D)(h:δ[i]?=some (.node (.ins C fs) o ds))(hm:m∉fs):chkI C m (.late i) δ=.ok ((),δ):=by
 unfold chkI
 dsimp only
 rw [h]
 exact if_pos ⟨rfl,hm⟩
def Zjs(row:List Int)(r a:Int):∀ x∈piece row r a,x∈row:=fun x h=>by
 unfold piece cutI at h
 exact List.mem_of_mem_drop (List.mem_of_mem_take h)
def Zc1(row:List Int)(r a:Int)(ha:0<=a)(hr:0<=r):((piece row r a).length:Int)<=r:=by
 unfold piece cutI
 rw [length_take]
 have e1:HT.sIx row.length 0 (some a)=min a.toNat row.length:=by
  have:=HT.Zc8 row.length 0 a.toNat
  rwa [Int.toNat_of_nonneg ha] at this
 have e2:HT.sIx row.length row.length (some (a+r))=min (a+r).toNat row.length:=by
  have:=HT.Zc8 row.length row.length (a+r).toNat
  rwa [Int.toNat_of_nonneg (show 0<=a+r by omega)] at this
 rw [e1,e2]
 omega
def ZcV(n:Nat)(r:Int)(hr:0<=r):∀ a∈starts n r,0<=a:=fun a h=>by
 unfold starts rngS at h
 obtain ⟨k,_,rfl⟩:=List.mem_map.mp h
 have:=Int.mul_nonneg (Int.natCast_nonneg k) hr
 omega
def ZeD(n:Nat)(r p:Int)(hr:1<=r)(hp:2<=p)(hn:(n:Int)<=r * (p - 1)):1<=(starts n r).length/\((starts n r).length:Int) < p:=by
 unfold starts rngS
 rw [length_map,length_range]
 have hm:1<=(if (1:Int) < n then (n:Int) else 1)/\(if (1:Int) < n then (n:Int) else 1)<=r * (p - 1):=by
  have:1 * 1<=r * (p - 1):=mul_le_mul hr (by omega) (by decide) (by omega)
  split<;>omega
 generalize (if (1:Int) < n then (n:Int) else 1)=m at hm
 (unfold Builtin.Range.rangeSize)
 rw [if_pos (by omega),if_pos (by omega)]
 have h0:=Int.ediv_nonneg (a:=m - 0 - 1) (b:=r) (by omega) (by omega)
 have h1:(m - 0 - 1) / r < p - 1:=Int.ediv_lt_of_lt_mul (by omega) (by rw [Int.mul_comm];omega)
 omega
noncomputable def lbls(p r c:Int):Int->List (List Int)->List (List Int)
 | _,[]=>[]
 | k,x::xs=>lbl p r c k x::lbls p r c (k+1) xs
theorem ZcW(p r c:Int):∀(xs:List (List Int))(k:Int),(lbls p r c k xs).length=xs.length
 | [],_=>rfl
 | x::xs,k=>by rw [lbls,length_cons,length_cons,ZcW]
theorem Zgz(p r c:Int):∀(xs:List (List Int))(k:Int),(∀ x∈xs,(x.length:Int)<=r)->0<=r->∀ l∈lbls p r c k xs,r+3<=(l.length:Int)
 | [],_,_,_,l,h=>by simp [lbls] at h
 | x::xs,k,hx,hr,l,h=>by
  rw [lbls] at h
  (rcases List.mem_cons.mp h with rfl|h)
  . unfold lbl
    rw [ZeZ,length_append,ZcH r x (hx x mem_cons_self)]
    show _<=((2+(r.toNat+1)+2:Nat):Int)
    omega
  . exact Zgz p r c xs (k+1) (fun y hy=>hx y (mem_cons_of_mem _ hy)) hr l h
theorem Zk2(C:Addr)(lk:Nat->Bool)(h0:lk 0=false)(h1:lk 1=false)(p r c:Int)(hp:7<=p)(hp2:p<=47)(hr1:1<=r)(hr2:r<=p - 5)(hc:0<=c/\c < p):∀(xs:List (List Int))(k:Int)(acc:List (List Int))(a b:D),0<=k->k+xs.length<=p->(∀ x∈xs,(x.length:Int)<=r/\∀ y∈x,0<=y/\y < p)->∃ a' b',
 ZH (asgT lk (.tup [0,1])) (tsts ⟨lk,(CK C).fok,(CK C).fuel⟩ []) (evb ⟨lk,(CK C).fok,(CK C).fuel⟩ (.meth C "piece_label" (Z4 C) (.v 3) [.v 0,.v 2,.v 1])).1 (Zaa k (dL false xs)) (dL true acc) [a,b,I c,Ro C true p r]=.ok (dL true (acc++lbls p r c k xs),[a',b',I c,Ro C true p r]):=by
 intro xs
 induction xs with
 | nil=>exact fun k acc a b _ _ _=>⟨a,b,by rw [lbls,append_nil];rfl⟩
 | cons x xs ih=>
  intro k acc a b hk hkl hx
  rw [length_cons] at hkl
  obtain ⟨a',b',ih⟩:=ih (k+1) (acc++[lbl p r c k x]) (I k) (Ls false x) (by omega) (by omega) fun y hy=>hx y (mem_cons_of_mem _ hy)
  refine ⟨a',b',?_⟩
  rw [lbls,show acc++(lbl p r c k x::lbls p r c (k+1) xs)=acc++[lbl p r c k x]++lbls p r c (k+1) xs by rw [List.append_assoc];rfl,<- ih,Zh6,Zaa,Zbd,ZcG]
  have hr:=Zpg C p r k c x false hp hp2 hr1 hr2 (by omega) hc (hx x mem_cons_self).1 (hx x mem_cons_self).2
  have l1:(Z4 C).lend=true:=rfl
  have hck:∀ x0 x1 x2:D,chkI C "piece_label" (.late 3) [x0,x1,x2,Ro C true p r]=.ok ((),[x0,x1,x2,Ro C true p r]):=fun x0 x1 x2=>ZfD C _ 3 _ fs2 true _ rfl (by decide)
  simp_all [h0,h1,ZbN,hck,l1,hr]
noncomputable def parts(p r:Int)(row:List Int):List (List Int):=
 let ps:=(starts row.length r).map (piece row r)
 let ls:=lbls p r ps.length 0 ps
 ls++[lab p ([(ps.length:Int),(ps.length:Int)]++(rngI 2 (r+1).toNat).map (col p ls))]
def Zil(C:Addr)(p r:Int)(row:List Int)(hp:7<=p)(hp2:p<=47)(h1:1<=r)(h2:r<=p - 5)(hl:row.length<=600)(hn:(row.length:Int)<=r * (p - 1))(hx:∀ x∈row,0<=x/\x < p):
 (Zw C).run [Ro C true p r,Ls true row]=.ok (.node .lst true (dL true (parts p r row)),[Ro C true p r,Ls true row]):=by
 rw [show (Zw C).run=Zh (CK C) 2 5 (ZaZ C) from rfl]
 rw [runA (show [Ro C true p r,Ls true row].length=2 from rfl)]
 unfold ZaZ
 simp only [replicate,reduceSub]
 obtain ⟨s1,s2⟩:=ZeD row.length r p h1 (by omega) hn
 have hpr:=ZeC row r (by omega) h1 (by omega)
 have hps:∀ x∈(starts row.length r).map (piece row r),(x.length:Int)<=r/\∀ y∈x,0<=y/\y < p:=fun x h=>by
  obtain ⟨a,ha,rfl⟩:=List.mem_map.mp h
  exact ⟨Zc1 row r a (ZcV _ r (by omega) a ha) (by omega),fun y hy=>hx y (Zjs row r a y hy)⟩
 have hpl:((starts row.length r).map (piece row r)).length=(starts row.length r).length:=length_map _
 unfold parts
 dsimp only
 generalize (starts row.length r).map (piece row r)=ps at hpr hps hpl
 rw [<- hpl] at s1 s2
 obtain ⟨a',b',hc⟩:=Zk2 C (fun i=>decide (2<=i)) rfl rfl p r ps.length hp hp2 h1 h2 (by omega) ps 0 [] .hole .hole (by decide) (by omega) hps
 rw [nil_append] at hc
 have hll:=ZcW p r ps.length ps 0
 have hlg:=Zgz p r ps.length ps 0 (fun x h=>(hps x h).1) (by omega)
 have hb:=ZmK C p r ps.length ps.length true true true (lbls p r ps.length 0 ps) hp hp2 h1 h2 (by omega) (by omega) (by omega) hlg
 generalize hls:lbls p r ps.length 0 ps=ls at hc hll hb
 replace hc:ZS (CK C).fok (CK C).fuel 2 (.tup [0,1]) [] (.meth C "piece_label" (Z4 C) (.v 3) [.v 0,.v 2,.v 1]) (Zaa 0 (dL false ps)) [] [.hole,.hole,I ps.length,Ro C true p r]=_:=hc
 have hm1:∀ x1 x2 x4:D,Zab 2 [3,0] (ZS (CK C).fok (CK C).fuel 2 (.tup [0,1]) [] (.meth C "piece_label" (Z4 C) (.v 3) [.v 0,.v 2,.v 1]) (Zaa 0 (dL false ps)) []) [Ro C true p r,x1,x2,I ps.length,x4]=.ok (.node .lst true (dL true ls),[Ro C true p r,x1,x2,I ps.length,x4]):=fun x1 x2 x4=>by
  rw [Zaf (js:=[3,0]) (caps:=[I ps.length,Ro C true p r]) (δ1:=[.hole,x1,x2,.hole,x4]) rfl hc (by rw [ZaD,szl];omega)]
  rfl
 have k1:Z7.lend=true:=rfl
 have k2:ZaF.lend=true:=rfl
 have k3:(Zay C).lend=true:=rfl
 have r1:=fun o=>Zdz p row o hx (by omega)
 have f1:=ZdJ C (I p) (I r)
 have f2:=ZfC C (I p) (I r)
 have hdl:∀ o,((dL o ps).length:Int)=(ps.length:Int):=fun o=>by rw [ZaD]
 have hge:¬ p<=(ps.length:Int):=by omega
 have hck:∀ x1 x2 x3 x4:D,chkI C "balance" (.late 0) [Ro C true p r,x1,x2,x3,x4]=.ok ((),[Ro C true p r,x1,x2,x3,x4]):=fun x1 x2 x3 x4=>ZfD C _ 0 _ fs2 true _ rfl (by decide)
 have ap:∀(δ:List D)(y:List Int),mdR 4 δ (appD (Ls true y)) (some (.node .lst true (dL true ls)))=.ok (.sc .non,δ.set 4 (.node .lst true (dL true (ls++[y])))):=fun δ y=>by
  rw [Zdq 4 δ _ _ (by rw [ZaD,szl];omega),ZcG]
  rfl
 generalize lab p ([(ps.length:Int),(ps.length:Int)]++(rngI 2 (r+1).toNat).map (col p ls))=sp at hb
 (simp_all [Zt,ZaC,k1,k2,k3,r1,hpr,f1,f2,hdl,hge,it_e _ 0 (by decide),hm1,hck,hb,ap])<;>rfl
theorem ZmL(h0:lk 0=false)(xs:List Int)(hl:xs.length<=1000):∀(n j:Nat)(acc:List Int)(a:D),j+n=xs.length->∃ a',
 ZH (asgT lk (.name 0)) (tsts ⟨lk,fok,fuel⟩ []) (evb ⟨lk,fok,fuel⟩ (.bin .Mult (.bin .Add (.v 0) (.k (.int 1))) (.ix (.v 1) (.v 0)))).1 (dI (rngI j n)) (dI acc) [a,Ls true xs]=.ok (dI (acc++wts ((j:Int)+1) (xs.drop j)),[a',Ls true xs]):=by
 intro n
 induction n with
 | zero=>exact fun j acc a hj=>⟨a,by rw [List.drop_of_length_le (by (clear hl;omega)),show wts ((j:Int)+1) []=[] from rfl,append_nil];rfl⟩
 | succ n ih=>
  intro j acc a hj
  have hd:xs.drop j=xs.getD j 0::xs.drop (j+1):=by
   rw [List.drop_eq_getElem_cons (by (clear hl;omega)),getD_eq_getElem?_getD,List.getElem?_eq_getElem (by (clear hl;omega))]
   rfl
  obtain ⟨a',ih⟩:=ih (j+1) (acc++[((j:Int)+1) * xs.getD j 0]) (I j) (by (clear hl;omega))
  refine ⟨a',?_⟩
  have ej:((j+1:Nat):Int)=(j:Int)+1:=by (clear hl hj;omega)
  rw [ej] at ih
  rw [hd,wts,show acc++(((j:Int)+1) * xs.getD j 0::wts ((j:Int)+1+1) (xs.drop (j+1)))=acc++[((j:Int)+1) * xs.getD j 0]++wts ((j:Int)+1+1) (xs.drop (j+1)) by rw [List.append_assoc];rfl,<- ih,rngI,Zac,Zbd,ZL]
  have ix:=ixI xs (j:Int) (by (clear hl hj ej;omega)) (by (clear hl ej;omega))
  rw [toNat_natCast] at ix
  have hm:∀ u:Int,binW .Mult (.sc (.int ((j:Int)+1))) (.sc (.int u))=some (.sc (.int (((j:Int)+1) * u))):=fun u=>Zca _ _ (.inl (by (clear ej;omega)))
  simp_all [h0,Zt,ix,hm]
def Zk3(p:Int)(xs:List Int)(hp:0 < p)(hl:xs.length<=900):ZC.run [I p,Ls true xs]=.ok (Ls true (lab p xs),[I p,Ls true xs]):=by
 rw [show ZC.run=Zh C0 2 5 Za8 from rfl]
 rw [runA (show [I p,Ls true xs].length=2 from rfl)]
 unfold Za8
 simp only [replicate,reduceSub]
 obtain ⟨a',hc⟩:=ZmL (fun i=>decide (1<=i)) (fun _ _=>false) 0 rfl xs (by (clear hp;omega)) xs.length 0 [] .hole (by (clear hp hl;omega))
 rw [nil_append,drop_zero] at hc
 replace hc:ZS (fun _ _=>false) 0 1 (.name 0) [] (.bin .Mult (.bin .Add (.v 0) (.k (.int 1))) (.ix (.v 1) (.v 0))) (dI (rngI 0 xs.length)) [] [.hole,Ls true xs]=.ok (dI (wts 1 xs),_):=hc
 have hm1:∀ x0 x2 x3 x4:D,Zab 1 [1] (ZS (fun _ _=>false) 0 1 (.name 0) [] (.bin .Mult (.bin .Add (.v 0) (.k (.int 1))) (.ix (.v 1) (.v 0))) (dI (rngI 0 xs.length)) []) [x0,Ls true xs,x2,x3,x4]=.ok (Ls true (wts 1 xs),[x0,Ls true xs,x2,x3,x4]):=fun x0 x2 x3 x4=>by
  rw [Zaf (js:=[1]) (caps:=[Ls true xs]) (δ1:=[x0,.hole,x2,x3,x4]) rfl hc (by rw [Zp,Zh3,szl];(clear hp;omega))]
  rfl
 have hit:itW .rng1 [.sc (.int (xs.length:Int))]=some (dI (rngI 0 xs.length)):=by
  have:=ZdF (xs.length:Int) (by (clear hp;omega))
  rwa [toNat_natCast] at this
 have hdl:((dI xs).length:Int)=(xs.length:Int):=by rw [Zp]
 have s1:=Za5 xs
 have s2:=Za5 (wts 1 xs)
 have hm:∀ u:Int,binW .Mult (.sc (.int u)) (.sc (.int ((xs.length:Int)+1)))=some (.sc (.int (u * ((xs.length:Int)+1)))):=fun u=>Zca _ _ (.inr (by (clear hp hdl;omega)))
 have e1:(xs.sum * ((xs.length:Int)+1) - (wts 1 xs).sum) % p=lst2 p xs:=by unfold lst2;rw [Int.mul_comm]
 have e2:(0 - xs.sum - lst2 p xs) % p=other p xs (lst2 p xs):=rfl
 have hn:∀ u v:D,newL [u,v]=some (.node .lst true [u,v]):=fun u v=>Z9 _ (by rw [szl];simp)
 have hcat:binW .Add (.nd .lst (dI xs)) (.nd .lst [.sc (.int (other p xs (lst2 p xs))),.sc (.int (lst2 p xs))])=some (Ls true (lab p xs)):=by
  rw [Zbx (dI xs) [_,_] (by rw [length_append,Zp,szl];show xs.length+2<=_;(clear hp hdl e1 e2;omega)),Ls,lab,ZL]
  rfl
 generalize lst2 p xs=l2 at e1 e2 hcat
 generalize other p xs l2=o2 at e2 hcat
 (simp_all [Zt,hdl,s1,s2,hit,hm1,hm,ZB _ _ hp,e1,e2,hn,hcat])<;>rfl
theorem Zk4(h3:lk 3=false)(h4:lk 4=false)(h5:lk 5=false)(p r:Int)(row:List Int)(x6:D)(h1:1<=r)(h2:r<=100):∀(as:List Int)(acc:List (List Int))(a b:D),acc.length+as.length<=1000->(∀ a∈as,0<=a)->∃ a' b',
 forL (asgT lk (.name 4)) (exs ⟨lk,fok,fuel⟩ [.asg 5 (.sl (.v 2) (.v 4) (.bin .Add (.v 4) (.v 1))),.ex (.mut .append 3 [] [.bin .Add (.bin .Add (.lst [.bf .len [.v 5]]) (.v 5)) (.bin .Mult (.lst [.k (.int 0)]) (.bin .Sub (.v 1) (.bf .len [.v 5])))])]) (dI as) [I p,I r,Ls true row,.node .lst true (dL true acc),a,b,x6]
  = .ok (.nx,[I p,I r,Ls true row,.node .lst true (dL true (acc++as.map fun a=>bdy r (piece row r a))),a',b',x6]):=by
 intro as
 induction as with
 | nil=>exact fun acc a b _ _=>⟨a,b,by rw [map_nil,append_nil];rfl⟩
 | cons x as ih=>
  intro acc a b hl hp0
  rw [length_cons] at hl
  have hpl:=Zc1 row r x (hp0 x mem_cons_self) (by (clear h2 hl;omega))
  have hc:cutD (dI row) (some x) (some (x+r))=dI (piece row r x):=ZaP row _ _
  have hbd:bdy r (piece row r x)=[((piece row r x).length:Int)]++piece row r x++replicate (r - (piece row r x).length).toNat 0:=rfl
  obtain ⟨a',b',ih⟩:=ih (acc++[bdy r (piece row r x)]) (I x) (Ls true (piece row r x)) (by rw [length_append,length_singleton];(clear h1 h2 hpl;omega)) fun y hy=>hp0 y (mem_cons_of_mem _ hy)
  refine ⟨a',b',?_⟩
  rw [map_cons,show acc++(bdy r (piece row r x)::as.map fun a=>bdy r (piece row r a))=acc++[bdy r (piece row r x)]++as.map (fun a=>bdy r (piece row r a)) by rw [List.append_assoc];rfl,<- ih,Zac,ZbZ]
  generalize piece row r x=pc at hpl hc hbd
  have hw1:∀ u:D,newL [u]=some (.node .lst true [u]):=fun u=>Z9 _ (by rw [szl];simp)
  have hdl:((dI pc).length:Int)=(pc.length:Int):=by rw [Zp]
  have hm:=Zli (r - pc.length) (by (clear h1 h2 hl hdl;omega)) (by (clear h1 hl hpl hdl;omega))
  have c1:binW .Add (.nd .lst [.sc (.int pc.length)]) (.nd .lst (dI pc))=some (Ls true ([(pc.length:Int)]++pc)):=by
   rw [Zbx _ _ (by rw [length_append,Zp,szl];show 1+pc.length<=_;(clear h1 hl hdl;omega)),Ls,ZL]
   rfl
  have c2:binW .Add (.nd .lst (dI ([(pc.length:Int)]++pc))) (.nd .lst (dI (replicate (r - pc.length).toNat 0)))=some (Ls true (bdy r pc)):=by
   rw [Zbx _ _ (by rw [length_append,Zp,Zp,length_replicate,length_append,szl];show 1+pc.length+_<=_;(clear h1 hl hdl;omega)),hbd,<- ZL]
  generalize replicate (r - pc.length).toNat 0=zs at hm c2
  generalize ([(pc.length:Int)]++pc)=qs at c1 c2
  generalize bdy r pc=bd at c2
  have ap:∀ δ:List D,mdR 3 δ (appD (.node .lst true (dI bd))) (some (.node .lst true (dL true acc)))=.ok (.sc .non,δ.set 3 (.node .lst true (dL true (acc++[bd])))):=fun δ=>by
   rw [Zdq 3 δ _ _ (by rw [ZaD,szl];(clear h1 h2 hpl hdl;omega)),ZcG]
   rfl
  simp_all [h3,h4,h5,Zt,hc,hw1,hdl,hm,c1,c2,ap]
theorem Zk5(h0:lk 0=false)(p:Int)(hp:0 < p)(bs:List (List Int))(hbs:bs.length<=1000):∀(qs:List Int)(acc:List Int)(a:D),(∀ q∈qs,0<=q/\∀ l∈bs,q < (l.length:Int))->∃ a',
 ZH (asgT lk (.name 0)) (tsts ⟨lk,fok,fuel⟩ []) (evb ⟨lk,fok,fuel⟩ (.bin .Mod (.bin .Sub (.k (.int 0)) (.bf .sum [.comp 1 [0] (.name 0) .val [.v 2] [] (.ix (.v 0) (.v 1))])) (.v 1))).1 (dI qs) (dI acc) [a,I p,.node .lst true (dL false bs)]=.ok (dI (acc++qs.map (col p bs)),[a',I p,.node .lst true (dL false bs)]):=by
 intro qs
 induction qs with
 | nil=>exact fun acc a _=>⟨a,by rw [map_nil,append_nil];rfl⟩
 | cons q qs ih=>
  intro acc a hq
  obtain ⟨a',ih⟩:=ih (acc++[col p bs q]) (I q) fun x hx=>hq x (mem_cons_of_mem _ hx)
  refine ⟨a',?_⟩
  obtain ⟨b',hc⟩:=Zgy (fun i=>decide (1<=i)) fok fuel rfl q (hq q mem_cons_self).1 bs [] .hole (hq q mem_cons_self).2
  rw [nil_append] at hc
  replace hc:ZS fok fuel 1 (.name 0) [] (.ix (.v 0) (.v 1)) (dL false bs) [] [.hole,I q]=_:=hc
  have hm1:∀ x1 x2:D,Zab 1 [0] (ZS fok fuel 1 (.name 0) [] (.ix (.v 0) (.v 1)) (dL false bs) []) [I q,x1,x2]=.ok (Ls true (bs.map fun l=>l.getD q.toNat 0),[I q,x1,x2]):=fun x1 x2=>by
   rw [Zaf (js:=[0]) (caps:=[I q]) (δ1:=[.hole,x1,x2]) rfl hc (by rw [Zp,length_map,szl];(clear hp;omega))]
   rfl
  have hs:(0 - (bs.map fun l=>l.getD q.toNat 0).sum) % p=col p bs q:=by unfold col;rw [Int.zero_sub]
  generalize (bs.map fun l=>l.getD q.toNat 0)=cs at hm1 hs
  have sm:=Za5 cs
  rw [map_cons,show acc++(col p bs q::qs.map (col p bs))=acc++[col p bs q]++qs.map (col p bs) by rw [List.append_assoc];rfl,<- ih,Zac,Zbd,ZL]
  simp_all [h0,Zt,ZaC,hm1,sm,ZB _ _ hp,hs]
def ixL(o:Bool)(B:List (List Int))(k:Nat)(h:k < B.length):((ixN' (dL o B).length (k:Int)).bind fun j=>(dL o B)[j]?)=some (Ls o (B.getD k [])):=by
 rw [ZdD (dL o B).length k (by rw [ZaD];exact h),bind_some,getElem?_map,List.getElem?_eq_getElem h,getD_eq_getElem?_getD,List.getElem?_eq_getElem h]
 rfl
theorem Zk6(h0:lk 0=false)(p c:Int)(hp:0 < p)(B:List (List Int))(hB:∀ l∈B,l.length<=800):∀(n j:Nat)(acc:List (List Int))(a:D)(X:List D),shrL X=dL false B->j+n<=B.length->∃(a':D)(X':List D),
 ZH (asgT lk (.name 0)) (tsts ⟨lk,fok,fuel⟩ []) (evb ⟨lk,fok,fuel⟩ (.call ZC [.v 1,.bin .Add (.lst [.v 0,.v 2]) (.ix (.v 3) (.v 0))])).1 (dI (rngI j n)) (dL true acc) [a,I p,I c,.node .lst true X]=.ok (dL true (acc++(rngI j n).map fun k=>lab p ([k,c]++B.getD k.toNat [])),[a',I p,I c,.node .lst true X']):=by
 intro n
 induction n with
 | zero=>exact fun j acc a X _ _=>⟨a,X,by rw [rngI,map_nil,append_nil];rfl⟩
 | succ n ih=>
  intro j acc a X hX hj
  have ej:((j+1:Nat):Int)=(j:Int)+1:=by (clear hp hj;omega)
  obtain ⟨a',X',ih⟩:=ih (j+1) (acc++[lab p ([(j:Int),c]++B.getD j [])]) (I j) (dL false B) (ZaC _ _) (by (clear hp ej;omega))
  refine ⟨a',X',?_⟩
  rw [ej] at ih
  rw [rngI,map_cons,toNat_natCast,show acc++(lab p ([(j:Int),c]++B.getD j [])::(rngI ((j:Int)+1) n).map fun k=>lab p ([k,c]++B.getD k.toNat []))=acc++[lab p ([(j:Int),c]++B.getD j [])]++(rngI ((j:Int)+1) n).map (fun k=>lab p ([k,c]++B.getD k.toNat [])) by rw [List.append_assoc];rfl,<- ih,Zac,Zbd,ZcG]
  have ix:=ixL false B j (by (clear hp ej;omega))
  have hbl:(B.getD j []).length<=800:=by
   rw [getD_eq_getElem?_getD,List.getElem?_eq_getElem (by (clear hp ej;omega))]
   exact hB _ (List.getElem_mem _)
  generalize B.getD j []=b at ix hbl
  have hn:∀ u v:D,newL [u,v]=some (.node .lst true [u,v]):=fun u v=>Z9 _ (by rw [szl];simp)
  have c1:binW .Add (.nd .lst [.sc (.int j),.sc (.int c)]) (.nd .lst (dI b))=some (Ls true ([(j:Int),c]++b)):=by
   rw [Zbx _ _ (by rw [length_append,Zp,szl];show 2+b.length<=_;(clear hp hj ej;omega)),Ls,ZL]
   rfl
  have l1:ZC.lend=true:=rfl
  have hr:=Zk3 p ([(j:Int),c]++b) hp (by rw [length_append];show 2+b.length<=_;(clear hp hj ej;omega))
  generalize ([(j:Int),c]++b)=jb at c1 hr
  simp_all [h0,hX,ix,hn,c1,l1,hr,Zt]
theorem Zbm:∀(n:Nat)(a:Int),(rngI a n).length=n
 | 0,_=>rfl
 | n+1,a=>by rw [rngI,length_cons,Zbm]
theorem ZbB:∀(n:Nat)(a x:Int),x∈rngI a n->a<=x/\x < a+n
 | 0,a,x,h=>by simp [rngI] at h
 | n+1,a,x,h=>by
  rw [rngI] at h
  (rcases List.mem_cons.mp h with rfl|h)
  . omega
  . have:=ZbB n (a+1) x h;omega
theorem Zg0{α:Type}(f:Int->α):∀(n:Nat)(a:Int),(rngI (a+2) n).map f=(rngI a n).map fun q=>f (q+2)
 | 0,_=>rfl
 | n+1,a=>by
  rw [rngI,rngI,map_cons,map_cons,show a+2+1=a+1+2 by omega,Zg0 f n (a+1)]
theorem Zh8(p r c q:Int)(h0:0<=q)(hq:q < r+1)(hr:0<=r):∀(ps:List (List Int))(k:Int),(∀ x∈ps,(x.length:Int)<=r)->(lbls p r c k ps).map (fun l=>l.getD (q+2).toNat 0)=(ps.map (bdy r)).map fun l=>l.getD q.toNat 0
 | [],_,_=>rfl
 | x::ps,k,hx=>by
  rw [lbls,map_cons,map_cons,map_cons,Zh8 p r c q h0 hq hr ps (k+1) fun y hy=>hx y (mem_cons_of_mem _ hy)]
  congr 1
  have hb:=ZcH r x (hx x mem_cons_self)
  have e:(q+2).toNat=q.toNat+2:=by (clear hq hr hb;omega)
  unfold lbl lab
  rw [e,getD_eq_getElem?_getD,List.getElem?_append_left (by rw [length_append,hb];show q.toNat+2 < 2+(r.toNat+1);(clear h0 hr hb e;omega)),getD_eq_getElem?_getD]
  rfl
theorem Zjt(p r c:Int)(B:List (List Int)):∀(ps:List (List Int))(j:Nat)(tl:List (List Int)),B.drop j=ps.map (bdy r)++tl->(rngI j ps.length).map (fun k=>lab p ([k,c]++B.getD k.toNat []))=lbls p r c j ps
 | [],j,tl,h=>rfl
 | x::ps,j,tl,h=>by
  have hj:B.getD j []=bdy r x:=by
   have:=congrArg (fun l=>l[0]?) h
   simp only [map_cons,cons_append,List.getElem?_cons_zero,List.getElem?_drop,Nat.add_zero] at this
   rw [getD_eq_getElem?_getD,this]
   rfl
  have hd:B.drop (j+1)=ps.map (bdy r)++tl:=by
   have:=congrArg (List.drop 1) h
   rw [List.drop_drop] at this
   simpa using this
  have ih:=Zjt p r c B ps (j+1) tl hd
  have ej:((j+1:Nat):Int)=(j:Int)+1:=by omega
  rw [ej] at ih
  rw [length_cons,rngI,map_cons,toNat_natCast,hj,ih]
  rfl
theorem Zf0:∀(n:Nat)(a:Int),rngI a (n+1)=rngI a n++[a+n]
 | 0,a=>by rw [rngI,rngI,rngI,Int.natCast_zero,Int.add_zero];rfl
 | n+1,a=>by
  rw [rngI,Zf0 n (a+1),rngI,cons_append]
  congr 3
  show a+1+(n:Int)=a+((n+1:Nat):Int)
  omega
def Zim(p r:Int)(row:List Int)(hp:7<=p)(hp2:p<=47)(h1:1<=r)(h2:r<=p - 5)(hl:row.length<=900)(hn:(row.length:Int)<=r * (p - 1)):
 ZaB.run [I p,I r,Ls true row]=.ok (.node .lst true (dL true (parts p r row)),[I p,I r,Ls true row]):=by
 rw [show ZaB.run=Zh C0 3 7 Zba from rfl]
 rw [runA (show [I p,I r,Ls true row].length=3 from rfl)]
 unfold Zba
 simp only [replicate,reduceSub]
 obtain ⟨s1,s2⟩:=ZeD row.length r p h1 (by (clear hp2 h1 h2 hl hn;omega)) hn
 have hsm:=ZcV row.length r (by (clear hp hp2 h2 hl hn s1 s2;omega))
 have hps:∀ x∈(starts row.length r).map (piece row r),(x.length:Int)<=r:=fun x h=>by
  obtain ⟨a,ha,rfl⟩:=List.mem_map.mp h
  exact Zc1 row r a (hsm a ha) (by (clear hp hp2 h2 hl hn s1 s2;omega))
 have hpl:((starts row.length r).map (piece row r)).length=(starts row.length r).length:=length_map _
 obtain ⟨a1,b1,hf⟩:=Zk4 (fun j=>decide (j < 3) || walked [.k (.int 0),.bf .max [.k (.int 1),.bf .len [.v 2]],.v 1] j) (fun _ _=>false) 0 rfl rfl rfl p r row .hole h1 (by (clear hp h1 hl hn s1 s2 hpl;omega)) (starts row.length r) [] .hole .hole (by rw [length_nil];(clear hp h1 h2 hl hn s1 hpl;omega)) hsm
 have hmx:=Zlh (row.length:Int)
 have hdl:((dI row).length:Int)=(row.length:Int):=by rw [Zp]
 have hm:(if (1:Int) < row.length then (row.length:Int) else 1)<=1000/\1<=(if (1:Int) < row.length then (row.length:Int) else 1):=by split<;>(clear hp hp2 h1 h2 hn s1 s2 hpl hdl;omega)
 have hit:itW .rng3 [.sc (.int 0),.sc (.int (if (1:Int) < row.length then (row.length:Int) else 1)),.sc (.int r)]=some (dI (starts row.length r)):=by
  show (if _ then _ else _)=_
  rw [if_pos (by simp only [okR,and_eq_true,decide_eq_true_eq];(clear hp hn s1 s2 hpl hdl hm;omega))]
  rfl
 have emap:(starts row.length r).map (fun a=>bdy r (piece row r a))=((starts row.length r).map (piece row r)).map (bdy r):=by rw [map_map];rfl
 rw [nil_append,emap] at hf
 unfold parts
 dsimp only
 generalize hpse:(starts row.length r).map (piece row r)=ps at hps hpl hf
 rw [<- hpl] at s1 s2
 generalize starts row.length r=as at hit hf
 generalize (if (1:Int) < row.length then (row.length:Int) else 1)=m at hmx hit
 simp only [walked,Bool.or_false] at hf
 have hbl:∀ l∈ps.map (bdy r),l.length=r.toNat+1:=fun l h=>by
  obtain ⟨x,hx,rfl⟩:=List.mem_map.mp h
  exact ZcH r x (hps x hx)
 have hbn:(ps.map (bdy r)).length=ps.length:=length_map _
 obtain ⟨a2,hc2⟩:=Zk5 (fun i=>decide (1<=i)) (fun _ _=>false) 0 rfl p (by (clear hp2 h1 h2 hl hn hdl hm s2 s1 hpl hbn;omega)) (ps.map (bdy r)) (by (clear hp h1 h2 hl hn hdl hm s1 hpl;omega)) (rngI 0 (r+1).toNat) [] .hole (fun q hq=>by
  have:=ZbB _ _ _ hq
  exact ⟨by (clear hp hp2 h1 h2 hl hn hdl hm s2 s1 hpl hbn;omega),fun l hl=>by rw [hbl l hl];(clear hp hp2 h1 h2 hn hdl hm s2 s1 hpl hbn;omega)⟩)
 rw [nil_append] at hc2
 have hcol:(rngI 0 (r+1).toNat).map (col p (ps.map (bdy r)))=(rngI 2 (r+1).toNat).map (col p (lbls p r ps.length 0 ps)):=by
  have:=Zg0 (col p (lbls p r ps.length 0 ps)) (r+1).toNat 0
  rw [Int.zero_add] at this
  rw [this]
  refine List.map_congr_left fun q hq=>?_
  have hq:=ZbB _ _ _ hq
  unfold col
  rw [Zh8 p r ps.length q (by (clear hp hp2 h1 h2 hl hn hdl hm s2 s1 hpl hbn;omega)) (by (clear hp hp2 h1 h2 hl hn hdl hm s2 s1 hpl hbn;omega)) (by (clear hp hp2 h2 hl hn hdl hm s2 s1 hpl hbn hq;omega)) ps 0 hps]
 rw [hcol] at hc2
 have hsl:((rngI 2 (r+1).toNat).map (col p (lbls p r ps.length 0 ps))).length<=800:=by rw [length_map,Zbm];(clear hp h1 hl hn hdl hm s2 s1 hpl hbn;omega)
 generalize hsp:(rngI 2 (r+1).toNat).map (col p (lbls p r ps.length 0 ps))=sp at hc2 hsl
 generalize hbs:ps.map (bdy r)=bs at hf hbl hbn hc2
 replace hc2:ZS (fun _ _=>false) 0 1 (.name 0) [] (.bin .Mod (.bin .Sub (.k (.int 0)) (.bf .sum [.comp 1 [0] (.name 0) .val [.v 2] [] (.ix (.v 0) (.v 1))])) (.v 1)) (dI (rngI 0 (r+1).toNat)) [] [.hole,I p,.node .lst true (dL false bs)]=_:=hc2
 have hm2:∀ x1 x2 x4 x5 x6:D,Zab 1 [0,3] (ZS (fun _ _=>false) 0 1 (.name 0) [] (.bin .Mod (.bin .Sub (.k (.int 0)) (.bf .sum [.comp 1 [0] (.name 0) .val [.v 2] [] (.ix (.v 0) (.v 1))])) (.v 1)) (dI (rngI 0 (r+1).toNat)) []) [I p,x1,x2,.node .lst true (dL false bs),x4,x5,x6]=.ok (Ls true sp,[I p,x1,x2,.node .lst true (dL false bs),x4,x5,x6]):=fun x1 x2 x4 x5 x6=>by
  rw [Zaf (js:=[0,3]) (caps:=[I p,.node .lst true (dL false bs)]) (δ1:=[.hole,x1,x2,.hole,x4,x5,x6]) rfl hc2 (by rw [Zp,szl];(clear hp hp2 h1 h2 hl hn hdl hm s2 s1 hpl hbn;omega))]
  rfl
 have hit2:=ZdF (r+1) (by (clear hp hl hn hdl hm s2 s1 hpl hsl hbn;omega))
 have hX:shrL (dL false bs++[Ls true sp])=dL false (bs++[sp]):=by
  rw [ZdV,map_append,<- ZdV,ZaC,ZcG]
  show dL false bs++[D.node .lst false (shrL (dI sp))]=_
  rw [Zt]
  rfl
 obtain ⟨a3,X',hc3⟩:=Zk6 (fun i=>decide (1<=i)) (fun _ _=>false) 0 rfl p ps.length (by (clear hp2 h1 h2 hl hn hdl hm s2 s1 hpl hsl hbn;omega)) (bs++[sp]) (fun l h=>by
  (rcases List.mem_append.mp h with h|h)
  . rw [hbl l h];(clear hp h1 hl hn hdl hm s2 s1 hpl hsl hbn;omega)
  . rw [List.mem_singleton.mp h];exact hsl) (ps.length+1) 0 [] .hole (dL false bs++[Ls true sp]) hX (by rw [length_append,hbn,length_singleton];(clear hp hp2 h1 h2 hl hn hdl hm s2 s1 hpl hsl hbn;omega))
 have hall:(rngI ((0:Nat):Int) (ps.length+1)).map (fun k=>lab p ([k,(ps.length:Int)]++(bs++[sp]).getD k.toNat []))=lbls p r ps.length 0 ps++[lab p ([(ps.length:Int),(ps.length:Int)]++sp)]:=by
  rw [Zf0,map_append,Zjt p r ps.length (bs++[sp]) ps 0 [sp] (by rw [drop_zero,hbs])]
  congr 1
  have:(bs++[sp]).getD ps.length []=sp:=by
   rw [getD_eq_getElem?_getD,<- hbn,List.getElem?_append_right (Nat.le_refl _),Nat.sub_self]
   rfl
  rw [map_cons,map_nil,Int.natCast_zero,Int.zero_add,toNat_natCast,this]
 rw [nil_append,hall] at hc3
 have hol:(lbls p r ps.length 0 ps++[lab p ([(ps.length:Int),(ps.length:Int)]++sp)]).length<=1000:=by rw [length_append,ZcW,length_singleton];(clear hp h1 h2 hl hn hdl hm s1 hpl hsl hbn;omega)
 generalize lbls p r ps.length 0 ps++[lab p ([(ps.length:Int),(ps.length:Int)]++sp)]=out at hc3 hol
 replace hc3:ZS (fun _ _=>false) 0 1 (.name 0) [] (.call ZC [.v 1,.bin .Add (.lst [.v 0,.v 2]) (.ix (.v 3) (.v 0))]) (dI (rngI 0 (ps.length+1))) [] [.hole,I p,I ps.length,.node .lst true (dL false bs++[Ls true sp])]=_:=hc3
 have hm3:∀ x1 x2 x4 x5:D,Zab 1 [0,6,3] (ZS (fun _ _=>false) 0 1 (.name 0) [] (.call ZC [.v 1,.bin .Add (.lst [.v 0,.v 2]) (.ix (.v 3) (.v 0))]) (dI (rngI 0 (ps.length+1))) []) [I p,x1,x2,.node .lst true (dL false bs++[Ls true sp]),x4,x5,I ps.length]=.ok (.node .lst true (dL true out),[I p,x1,x2,.node .lst true X',x4,x5,I ps.length]):=fun x1 x2 x4 x5=>by
  rw [Zaf (js:=[0,6,3]) (caps:=[I p,I ps.length,.node .lst true (dL false bs++[Ls true sp])]) (δ1:=[.hole,x1,x2,.hole,x4,x5,.hole]) rfl hc3 (by rw [ZaD,szl];(clear hp hp2 h1 h2 hl hn hdl hm s2 s1 hpl hsl hbn;omega))]
  rfl
 have hit3:itW .rng1 [.sc (.int ((ps.length:Int)+1))]=some (dI (rngI 0 (ps.length+1))):=by
  have:=ZdF ((ps.length:Int)+1) (by (clear hp h1 h2 hl hn hdl hm s1 hpl hsl hbn hol;omega))
  rwa [show ((ps.length:Int)+1).toNat=ps.length+1 by (clear hp hp2 h1 h2 hl hn hdl hm s2 s1 hpl hsl hbn hol;omega)] at this
 have hn0:newL []=some (.node .lst true []):=Z9 _ (by simp)
 have hbl2:∀ o,((dL o bs).length:Int)=(ps.length:Int):=fun o=>by rw [ZaD,hbn]
 have ap:∀ δ:List D,mdR 3 δ (appD (.node .lst true (dI sp))) (some (.node .lst true (dL false bs)))=.ok (.sc .non,δ.set 3 (.node .lst true (dL false bs++[.node .lst true (dI sp)]))):=fun δ=>Zdq 3 δ _ _ (by rw [ZaD,szl];(clear hp h1 h2 hl hn hdl hm s1 hpl hsl hol;omega))
 simp only [Ls] at hm3 hm2
 have e0:dL true []=[]:=rfl
 rw [e0] at hf
 generalize dL false bs++[.node .lst true (dI sp)]=Y at ap hm3
 (simp_all [Zt,ZaC,hn0,hdl,hmx,hit,hf,hbl2,hit2,hm2,ap,hit3,hm3])<;>rfl
def ZrX(ds:List D):bfW .all [.nd .lst ds]=(ZaT ds).map fun bs=>.sc (.bl (bs.all id)):=(rfl)
theorem Zf1:∀ n:Nat,ZaT (replicate n (D.sc (.bl true)))=some (replicate n true)
 | 0=>rfl
 | n+1=>by rw [replicate_succ,ZaT,Zf1 n];rfl
def ZmM(n:Nat):bfW .all [.nd .lst (replicate n (D.sc (.bl true)))]=some (.sc (.bl true)):=by
 rw [ZrX,Zf1]
 simp
def ZrY(i:Int):tyW .list (.sc (.int i))=some false:=(rfl)
def Zg1(n:Nat)(x:Int):Zz (n+1) [I x,I x]=.ok (.sc (.bl true),[I x,I x]):=by
 rw [show Zz (n+1)=Zh C0 2 2 (Zaz ⟨true,Zz n⟩) from rfl]
 rw [runA (show [I x,I x].length=2 from rfl)]
 unfold Zaz
 simp only [replicate,reduceSub]
 have hd:decide (V.int x=V.int x)=true:=decide_eq_true rfl
 (simp_all [Zld,ZkW,ZeB,Zlb,Zlc,ZrY,hd])<;>rfl
theorem Zju(fi:FI)(h1:fi.lend=true)(k0:lk 0=false)(k1:lk 1=false):∀(ds:List D)(n:Nat)(a b:D),(∀ d∈ds,fi.run [d,d]=.ok (.sc (.bl true),[d,d])/\((∃ v,d=.sc v)\/∃ k l,d=.node k false l))->∃ a' b',
 ZH (asgT lk (.tup [0,1])) (tsts ⟨lk,fok,fuel⟩ []) (evb ⟨lk,fok,fuel⟩ (.call fi [.v 0,.v 1])).1 (zipD ds ds) (replicate n (.sc (.bl true))) [a,b]=.ok (replicate (n+ds.length) (.sc (.bl true)),[a',b']):=by
 intro ds
 induction ds with
 | nil=>exact fun n a b _=>⟨a,b,rfl⟩
 | cons d ds ih=>
  intro n a b hd
  obtain ⟨a',b',ih⟩:=ih (n+1) d d fun x hx=>hd x (mem_cons_of_mem _ hx)
  refine ⟨a',b',?_⟩
  obtain ⟨hr,hk⟩:=hd d mem_cons_self
  rw [length_cons,show n+(ds.length+1)=n+1+ds.length by omega,<- ih,zipD,Zbd,List.replicate_succ']
  rcases hk with ⟨v,rfl⟩|⟨k,l,rfl⟩
  . simp_all [k0,k1,ZbN,h1,hr]
  . simp_all [k0,k1,ZbN,h1,hr]
def Zjv(n:Nat)(o o':Bool)(X Y ds:List D)(hl:ds.length<=1000)(hd:∀ d∈ds,Zz n [d,d]=.ok (.sc (.bl true),[d,d])/\((∃ v,d=.sc v)\/∃ k l,d=.node k false l))(hs:shrL ds=ds)
 (hX:(o=true/\shrL X=ds)\/(o=false/\X=ds)) (hY:(o'=true/\shrL Y=ds)\/(o'=false/\Y=ds)):Zz (n+1) [.node .lst o X,.node .lst o' Y]=.ok (.sc (.bl true),[.node .lst o ds,.node .lst o' ds]):=by
 rw [show Zz (n+1)=Zh C0 2 2 (Zaz ⟨true,Zz n⟩) from rfl]
 rw [runA (show [D.node .lst o X,.node .lst o' Y].length=2 from rfl)]
 unfold Zaz
 simp only [replicate,reduceSub]
 obtain ⟨a',b',hc⟩:=Zju (fun i=>decide (2<=i)) (fun _ _=>false) 0 ⟨true,Zz n⟩ rfl rfl rfl ds 0 .hole .hole hd
 rw [Nat.zero_add] at hc
 replace hc:ZS (fun _ _=>false) 0 2 (.tup [0,1]) [] (.call ⟨true,Zz n⟩ [.v 0,.v 1]) (zipD ds ds) [] [.hole,.hole]=_:=hc
 have hm:∀ δ:List D,Zab 2 [] (ZS (fun _ _=>false) 0 2 (.tup [0,1]) [] (.call ⟨true,Zz n⟩ [.v 0,.v 1]) (zipD ds ds) []) δ=.ok (.node .lst true (replicate ds.length (.sc (.bl true))),δ):=fun δ=>by
  rw [Zaf (js:=[]) (caps:=[]) rfl hc (by rw [length_replicate,szl];omega),ZbF]
  rfl
 have ha:=ZmM ds.length
 generalize replicate ds.length (D.sc (V.bl true))=rp at hm ha
 have hit:itW .zip [.nd .lst ds,.nd .lst ds]=some (zipD ds ds):=by
  show (if (Kd.lst=.lst\/Kd.lst=.frl)/\(Kd.lst=.lst\/Kd.lst=.frl) then some (zipD ds ds) else none)=_
  rw [if_pos ⟨.inl rfl,.inl rfl⟩]
 rcases hX with ⟨rfl,hX⟩|⟨rfl,rfl⟩
 . rcases hY with ⟨rfl,hY⟩|⟨rfl,rfl⟩
   . (simp_all [ZeB,ZfB,hX,hY,hs,hit,hm,ha])<;>rfl
   . (simp_all [ZeB,ZfB,hX,hs,hit,hm,ha])<;>rfl
 . rcases hY with ⟨rfl,hY⟩|⟨rfl,rfl⟩
   . (simp_all [ZeB,ZfB,hY,hs,hit,hm,ha])<;>rfl
   . (simp_all [ZeB,ZfB,hs,hit,hm,ha])<;>rfl
def ZmN(n:Nat)(l:List Int)(hl:l.length<=1000):Zz (n+2) [Ls false l,Ls false l]=.ok (.sc (.bl true),[Ls false l,Ls false l]):=
 Zjv (n+1) false false (dI l) (dI l) (dI l) (by rw [Zp];exact hl) (fun d hd=>by
  obtain ⟨x,_,rfl⟩:=List.mem_map.mp hd
  exact ⟨Zg1 n x,.inl ⟨_,rfl⟩⟩) (Zt l) (.inr ⟨rfl,rfl⟩) (.inr ⟨rfl,rfl⟩)
def Zg2(o o' a b:Bool)(ls:List (List Int))(hl:ls.length<=1000)(hls:∀ l∈ls,l.length<=1000)(ha:o=false->a=false)(hb:o'=false->b=false):ZG.run [.node .lst o (dL a ls),.node .lst o' (dL b ls)]=.ok (.sc (.bl true),[.node .lst o (dL false ls),.node .lst o' (dL false ls)]):=
 Zjv 2 o o' (dL a ls) (dL b ls) (dL false ls) (by rw [ZaD];exact hl) (fun d hd=>by
  obtain ⟨l,hm,rfl⟩:=List.mem_map.mp hd
  exact ⟨ZmN 0 l (hls l hm),.inr ⟨_,_,rfl⟩⟩) (ZaC _ _)
  (by cases o with|true=>exact .inl ⟨rfl,ZaC _ _⟩|false=>rw [ha rfl];exact .inr ⟨rfl,rfl⟩)
  (by cases o' with|true=>exact .inl ⟨rfl,ZaC _ _⟩|false=>rw [hb rfl];exact .inr ⟨rfl,rfl⟩)
theorem Zin(h3:lk 3=false)(h4:lk 4=false)(h5:lk 5=false)(h6:lk 6=false)(h7:lk 7=false)(x0 x1 x2 x8:D):∀(ts:List Int)(one two:Int)(fd:List Int)(a b:D),0<=two->two < 2000000000->fd.length+ts.length<=1000->∃(one' two':Int)(fd':List Int)(a' b':D),fd'.length=fd.length+ts.length/\
 forL (asgT lk (.name 6)) (exs ⟨lk,fok,fuel⟩ [.asg 7 (.bin .Add (.bin .Add (.bin .Add (.bin .Mult (.v 3) (.k (.int 1664525))) (.bin .Mult (.v 4) (.v 4))) (.bin .Mult (.k (.int 97)) (.v 6))) (.k (.int 40503))),.asg 3 (.v 4),.asg 4 (.bin .Mod (.v 7) (.k (.int 1999999973))),.ex (.mut .append 5 [] [.v 4])]) (dI ts) [x0,x1,x2,I one,I two,Ls true fd,a,b,x8]
  = .ok (.nx,[x0,x1,x2,I one',I two',Ls true fd',a',b',x8]):=by
 intro ts
 induction ts with
 | nil=>exact fun one two fd a b _ _ _=>⟨one,two,fd,a,b,rfl,rfl⟩
 | cons t ts ih=>
  intro one two fd a b t0 t1 hl
  rw [length_cons] at hl
  have q0:=emod_nonneg (one * 1664525+two * two+97 * t+40503) (show (1999999973:Int)≠0 by decide)
  have q1:=emod_lt_of_pos (one * 1664525+two * two+97 * t+40503) (show (0:Int) < 1999999973 by decide)
  obtain ⟨one',two',fd',a',b',e,ih⟩:=ih two ((one * 1664525+two * two+97 * t+40503) % 1999999973) (fd++[(one * 1664525+two * two+97 * t+40503) % 1999999973]) (I t) (I (one * 1664525+two * two+97 * t+40503)) q0 (by omega) (by rw [length_append,length_singleton];omega)
  refine ⟨one',two',fd',a',b',by rw [e,length_append,length_singleton,length_cons];omega,?_⟩
  have m1:binW .Mult (.sc (.int one)) (.sc (.int 1664525))=some (.sc (.int (one * 1664525))):=Zca _ _ (.inr (by decide))
  have m2:binW .Mult (.sc (.int two)) (.sc (.int two))=some (.sc (.int (two * two))):=Zca _ _ (.inr (by omega))
  have m3:binW .Mult (.sc (.int 97)) (.sc (.int t))=some (.sc (.int (97 * t))):=Zca _ _ (.inl (by decide))
  have m4:∀ u:Int,binW .Mod (.sc (.int u)) (.sc (.int 1999999973))=some (.sc (.int (u % 1999999973))):=fun u=>ZB _ _ (by decide)
  generalize hw:one * 1664525+two * two+97 * t+40503=w at ih
  have ap:∀ δ:List D,mdR 5 δ (appD (.sc (.int (w % 1999999973)))) (some (.node .lst true (dI fd)))=.ok (.sc .non,δ.set 5 (.node .lst true (dI (fd++[w % 1999999973])))):=fun δ=>by
   rw [Zdq 5 δ _ _ (by rw [Zp,szl];omega),ZL]
   rfl
  rw [<- ih,Zac,ZbZ]
  simp_all [h3,h4,h5,h6,h7,m1,m2,m3,m4,hw,ap]
theorem Zk7(h2:lk 2=false)(h5:lk 5=false)(h8:lk 8=false)(x0 x1 x3 x4 x6 x7:D):∀(n j:Nat)(rest:Int)(fd:List Int)(a:D),j+n<=fd.length->∃(rest':Int)(fd':List Int)(a':D),fd'.length=fd.length/\
 forL (asgT lk (.name 8)) (exs ⟨lk,fok,fuel⟩ [.iff (.cmp .Gt (.v 2) (.k (.int 0))) [.sub 5 [] (.v 8) (.bin .Mod (.v 2) (.k (.int 1999999973))),.asg 2 (.bin .FloorDiv (.v 2) (.k (.int 1999999973)))] []]) (dI (rngI j n)) [x0,x1,I rest,x3,x4,Ls true fd,x6,x7,a]
  = .ok (.nx,[x0,x1,I rest',x3,x4,Ls true fd',x6,x7,a']):=by
 intro n
 induction n with
 | zero=>exact fun j rest fd a _=>⟨rest,fd,a,rfl,rfl⟩
 | succ n ih=>
  intro j rest fd a hj
  have ej:((j+1:Nat):Int)=(j:Int)+1:=by omega
  by_cases hr:0 < rest
  . obtain ⟨rest',fd',a',e,ih⟩:=ih (j+1) (rest / 1999999973) (fd.set j (rest % 1999999973)) (I j) (by rw [List.length_set];omega)
    refine ⟨rest',fd',a',by rw [e,List.length_set],?_⟩
    have m4:∀ u:Int,binW .Mod (.sc (.int u)) (.sc (.int 1999999973))=some (.sc (.int (u % 1999999973))):=fun u=>ZB _ _ (by decide)
    have m5:∀ u:Int,binW .FloorDiv (.sc (.int u)) (.sc (.int 1999999973))=some (.sc (.int (u / 1999999973))):=fun u=>ZdC _ _ (by decide)
    have st:∀(δ:List D)(v:Int),mdR 5 δ (Zcv (.sc (.int (j:Int))) (.sc (.int v))) (some (.node .lst true (dI fd)))=.ok (.sc .non,δ.set 5 (.node .lst true (dI (fd.set j v)))):=fun δ v=>by
     rw [Zgb 5 δ _ (dI fd) (j:Int) j (ZdD _ _ (by rw [Zp];omega))]
     congr 4
     exact List.map_set.symm
    rw [ej] at ih
    rw [<- ih,rngI,Zac,ZbZ]
    simp_all [h2,h5,h8,hr,m4,m5,st]
  . obtain ⟨rest',fd',a',e,ih⟩:=ih (j+1) rest fd (I j) (by omega)
    refine ⟨rest',fd',a',e,?_⟩
    rw [ej] at ih
    rw [<- ih,rngI,Zac,ZbZ]
    simp_all [h2,h5,h8,hr]
def ZeE(c:Int)(m:Nat)(hm:m<=700):∃ ys:List Int,ys.length=m/\ZQ.run [I c,I m]=.ok (Ls true ys,[I c,I m]):=by
 have d1:∀ u:Int,binW .FloorDiv (.sc (.int u)) (.sc (.int 2))=some (.sc (.int (u / 2))):=fun u=>ZdC _ _ (by decide)
 have d2:∀ u:Int,binW .Mod (.sc (.int u)) (.sc (.int 1999999973))=some (.sc (.int (u % 1999999973))):=fun u=>ZB _ _ (by decide)
 have d3:∀ u:Int,binW .FloorDiv (.sc (.int u)) (.sc (.int 1999999973))=some (.sc (.int (u / 1999999973))):=fun u=>ZdC _ _ (by decide)
 have d4:∀ u:Int,binW .Mod (.sc (.int u)) (.sc (.int 1999999943))=some (.sc (.int (u % 1999999943))):=fun u=>ZB _ _ (by decide)
 have d5:∀ u:Int,binW .Mod (.sc (.int u)) (.sc (.int 2))=some (.sc (.int (u % 2))):=fun u=>ZB _ _ (by decide)
 have q0:=emod_nonneg (c / 2 / 1999999973) (show (1999999943:Int)≠0 by decide)
 have q1:=emod_lt_of_pos (c / 2 / 1999999973) (show (0:Int) < 1999999943 by decide)
 obtain ⟨one,two,fd,a,b,e1,hf⟩:=Zin (fun j=>decide (j < 2) || walked [.bin .Add (.v 1) (.k (.int 2))] j) (fun _ _=>false) 0 rfl rfl rfl rfl rfl (I c) (I m) (I (c / 2)) .hole (rngI 0 (m+2)) (c / 2 % 1999999973) (c / 2 / 1999999973 % 1999999943) [] .hole .hole q0 (by omega) (by rw [Zbm,length_nil];omega)
 rw [Zbm,length_nil,Nat.zero_add] at e1
 simp only [walked,Bool.or_false,Ls,Zjf] at hf
 have hit:itW .rng1 [.sc (.int ((m:Int)+2))]=some (dI (rngI 0 (m+2))):=by
  have:=ZdF ((m:Int)+2) (by omega)
  rwa [show ((m:Int)+2).toNat=m+2 by omega] at this
 have hit2:itW .rng1 [.sc (.int (m:Int))]=some (dI (rngI 0 m)):=by
  have:=ZdF (m:Int) (by omega)
  rwa [toNat_natCast] at this
 have hcc:cutI fd (some 2) none=fd.drop 2:=by
  have e2:=HT.Zc8 fd.length 0 2
  rw [show ((2:Nat):Int)=2 from rfl] at e2
  have e3:HT.sIx fd.length fd.length none=fd.length:=rfl
  unfold cutI
  rw [e2,e3,Nat.min_eq_left (by omega)]
  exact List.take_of_length_le (by rw [length_drop];omega)
 have hc:cutD (dI fd) (some 2) none=dI (fd.drop 2):=by rw [ZaP,hcc]
 have hdl:(fd.drop 2).length=m:=by rw [length_drop];omega
 generalize fd.drop 2=gd at hc hdl
 obtain ⟨rest,hd,a8,e3,hg⟩:=Zk7 (fun j=>decide (j < 2) || walked [.v 1] j) (fun _ _=>false) 0 rfl rfl rfl (I c) (I m) (I one) (I two) a b m 0 (c / 2) gd .hole (by omega)
 rw [show ((0:Nat):Int)=0 from rfl] at hg
 simp only [walked,Bool.or_false] at hg
 have hn0:newL []=some (.node .lst true []):=Z9 _ (by simp)
 by_cases h2:c % 2=0
 . refine ⟨gd,hdl,?_⟩
   rw [show ZQ.run=Zh C0 2 9 Zal from rfl]
   rw [runA (show [I c,I m].length=2 from rfl)]
   unfold Zal
   simp only [replicate,reduceSub]
   (simp_all [d1,d2,d3,d4,d5,hn0,hit,hf,hc,Zt,h2,V.int.injEq])<;>rfl
 . refine ⟨hd,by omega,?_⟩
   rw [show ZQ.run=Zh C0 2 9 Zal from rfl]
   rw [runA (show [I c,I m].length=2 from rfl)]
   unfold Zal
   simp only [replicate,reduceSub]
   (simp_all [d1,d2,d3,d4,d5,hn0,hit,hit2,hf,hc,hg,Zt,h2,V.int.injEq])<;>rfl
def Zk8(ns:List Int):∃ c:Int,ZW.run [scr ns,I 0]=.ok (I c,[scr ns,I 0]):=by
 rw [show ZW.run=Zh C0 2 2 Zb3 from rfl]
 rw [runA (show [scr ns,I 0].length=2 from rfl)]
 unfold Zb3
 simp only [replicate,reduceSub]
 have hc:cutD (ns.map fun i=>D.sc (.int i)) (some 0) (some (0+1))=dI (cutI ns (some 0) (some (0+1))):=ZaP ns _ _
 generalize cutI ns (some 0) (some (0+1))=cs at hc
 have sm:=Za5 cs
 refine ⟨cs.sum,?_⟩
 (simp_all [hc,sm,scr])<;>rfl
def Zph(r:Int)(h0:0<=r)(h1:r < 12):∃ p:Int,p∈PR/\7<=p/\p<=47/\((ixN' 12 r).bind fun j=>[D.sc (.int 7),D.sc (.int 11),D.sc (.int 13),D.sc (.int 17),D.sc (.int 19),D.sc (.int 23),D.sc (.int 29),D.sc (.int 31),D.sc (.int 37),D.sc (.int 41),D.sc (.int 43),D.sc (.int 47)][j]?)=some (.sc (.int p)):=by
 have hb:∀ k:Nat,k < 12->([7,11,13,17,19,23,29,31,37,41,43,47]:List Int).getD k 0∈PR/\7<=([7,11,13,17,19,23,29,31,37,41,43,47]:List Int).getD k 0/\([7,11,13,17,19,23,29,31,37,41,43,47]:List Int).getD k 0<=47:=by decide
 obtain ⟨b1,b2,b3⟩:=hb r.toNat (by omega)
 exact ⟨_,b1,b2,b3,ixI [7,11,13,17,19,23,29,31,37,41,43,47] r h0 (by simpa using h1)⟩
def ZrZ(p a b c d r:Int)(h0:0<=r)(h1:r < 4)(ha:1<=a/\a<=p)(hb:1<=b/\b<=p)(hc:1<=c/\c<=p)(hd:1<=d/\d<=p):∃ x:Int,1<=x/\x<=p/\((ixN' 4 r).bind fun j=>[D.sc (.int a),D.sc (.int b),D.sc (.int c),D.sc (.int d)][j]?)=some (.sc (.int x)):=by
 have e:=ixI [a,b,c,d] r h0 (by simpa using h1)
 have:r.toNat=0\/r.toNat=1\/r.toNat=2\/r.toNat=3:=by omega
 rcases this with h|h|h|h<;>rw [h] at e
 . exact ⟨a,ha.1,ha.2,e⟩
 . exact ⟨b,hb.1,hb.2,e⟩
 . exact ⟨c,hc.1,hc.2,e⟩
 . exact ⟨d,hd.1,hd.2,e⟩
def Zk9(ns:List Int):∃ p r:Int,p∈PR/\7<=p/\p<=47/\1<=r/\r<=p - 5/\Zbf.run [scr ns]=.ok (.node .tup true [I p,I r],[scr ns]):=by
 obtain ⟨c,hc⟩:=Zk8 ns
 obtain ⟨ys,hy,hs⟩:=ZeE c 3 (by decide)
 have i0:=ixI ys 0 (by decide) (by omega)
 have i1:=ixI ys 1 (by decide) (by omega)
 have i2:=ixI ys 2 (by decide) (by omega)
 generalize ys.getD (0:Int).toNat 0=y0 at i0
 generalize ys.getD (1:Int).toNat 0=y1 at i1
 generalize ys.getD (2:Int).toNat 0=y2 at i2
 obtain ⟨p,p1,p2,p3,hp⟩:=Zph (y0 % 12) (emod_nonneg _ (by decide)) (emod_lt_of_pos _ (by decide))
 have m0:∀ u:Int,0<=u % (p - 5)/\u % (p - 5) < p - 5:=fun u=>⟨emod_nonneg _ (by omega),emod_lt_of_pos _ (by omega)⟩
 obtain ⟨r,r1,r2,hr⟩:=ZrZ (p - 5) (1+y1 % (p - 5)) 1 (p - 5) (1+y1 % 4 % (p - 5)) (y2 % 4) (emod_nonneg _ (by decide)) (emod_lt_of_pos _ (by decide)) (by have:=m0 y1;omega) (by omega) (by omega) (by have:=m0 (y1 % 4);omega)
 refine ⟨p,r,p1,p2,p3,r1,r2,?_⟩
 rw [show Zbf.run=Zh C0 1 3 Zb4 from rfl]
 rw [runA (show [scr ns].length=1 from rfl)]
 unfold Zb4
 simp only [replicate,reduceSub]
 have k1:ZW.lend=true:=rfl
 have k2:ZQ.lend=true:=rfl
 have e12:∀ u:Int,binW .Mod (.sc (.int u)) (.sc (.int 12))=some (.sc (.int (u % 12))):=fun u=>ZB _ _ (by decide)
 have e4:∀ u:Int,binW .Mod (.sc (.int u)) (.sc (.int 4))=some (.sc (.int (u % 4))):=fun u=>ZB _ _ (by decide)
 have e5:∀ u:Int,binW .Mod (.sc (.int u)) (.sc (.int (p - 5)))=some (.sc (.int (u % (p - 5)))):=fun u=>ZB _ _ (by omega)
 have hw4:∀ u v w y:D,newL [u,v,w,y]=some (.node .lst true [u,v,w,y]):=fun u v w y=>Z9 _ (by rw [szl];simp)
 have hw12:newL [D.sc (.int 7),D.sc (.int 11),D.sc (.int 13),D.sc (.int 17),D.sc (.int 19),D.sc (.int 23),D.sc (.int 29),D.sc (.int 31),D.sc (.int 37),D.sc (.int 41),D.sc (.int 43),D.sc (.int 47)]=some (.node .lst true [D.sc (.int 7),D.sc (.int 11),D.sc (.int 13),D.sc (.int 17),D.sc (.int 19),D.sc (.int 23),D.sc (.int 29),D.sc (.int 31),D.sc (.int 37),D.sc (.int 41),D.sc (.int 43),D.sc (.int 47)]):=Z9 _ (by rw [szl];simp)
 have hw2:∀ u v:D,newT [u,v]=some (.node .tup true [u,v]):=fun u v=>Zmq _ (by rw [szl];simp)
 have e3:((3:Nat):Int)=3:=rfl
 rw [e3] at hs
 simp only [scr] at hc ⊢
 (simp_all [k1,k2,hc,hs,i0,i1,i2,e12,e4,e5,hw4,hw12,hw2,hp,hr,Zt])<;>rfl
theorem ZkA(h0:lk 0=false)(p:Int)(hp:0 < p):∀(xs acc:List Int)(a:D),∃ a',
 ZH (asgT lk (.name 0)) (tsts ⟨lk,fok,fuel⟩ []) (evb ⟨lk,fok,fuel⟩ (.bin .Mod (.v 0) (.v 1))).1 (dI xs) (dI acc) [a,I p]=.ok (dI (acc++xs.map (· % p)),[a',I p]):=by
 intro xs
 induction xs with
 | nil=>exact fun acc a=>⟨a,by rw [map_nil,append_nil];rfl⟩
 | cons x xs ih=>
  intro acc a
  obtain ⟨a',ih⟩:=ih (acc++[x % p]) (I x)
  refine ⟨a',?_⟩
  rw [map_cons,show acc++(x % p::xs.map (· % p))=acc++[x % p]++xs.map (· % p) by rw [List.append_assoc];rfl,<- ih,Zac,Zbd,ZL]
  simp_all [h0,ZB _ _ hp]
noncomputable def xcR(x:D):Rs (Unit×List D)->Rs (D×List D)
 | .ok (_,δ')=>.exc x δ'
 | _=>.stuck
def Zlj{ps:List Op}{x:D}{ds':List D}:cxR ps δ (.exc x ds')=xcR x (Z0 ps ds' δ):=by
 show (match Z0 ps ds' δ with|.ok (_,δ')=>Rs.exc x δ'|_=>.stuck)=_
 unfold xcR
 cases Z0 ps ds' δ<;>rfl
def Zjw(x:D)(u:Unit)(δ:List D):xcR x (.ok (u,δ))=.exc x δ:=(rfl)
noncomputable abbrev Xl(b:Bool)(n:Int):D:=.node (.exc ["TooLong","LabelError"] false ["length"]) b [I n]
def Zpi:∀ k:Nat,k < 640->(fmtW (Str.ofString "a length that does not fit: ") (.sc (.int (k:Int)))).isSome=true:=by walk_at "d"
def ZmO:fmtW Str.empty (.sc (.str (Str.ofString "a length that does not fit: ")))=some (Str.ofString "a length that does not fit: "):=by kernel_rfl
def ZmP(n:Nat)(h1:n < 640):ZX.run [.node (.exc ["TooLong","LabelError"] true []) true [],I n]=.ok (.sc .non,[.node (.exc ["TooLong","LabelError"] true ["length"]) true [I n],I n]):=by
 obtain ⟨z,hz⟩:=Option.isSome_iff_exists.mp (Zpi n h1)
 walk_at "r"
 have f0:=ZmO
 have hp:∀ δ:List D,mdR 0 δ (putX (Str.ofString "length") (I n)) (some (.node (.exc ["TooLong","LabelError"] true []) true []))=.ok (.sc .non,δ.set 0 (.node (.exc ["TooLong","LabelError"] true ["length"]) true [I n])):=fun δ=>rfl
 (simp_all [f0,hz,hp])<;>rfl
def ZgQ(n:Nat)(r p:Int)(hr:1<=r)(hp:2<=p)(hn:(n:Int)=r * (p - 1)+1):((starts n r).length:Int)=p:=by
 have h0:1<=r * (p - 1):=by
  have:=mul_le_mul hr (show 1<=p - 1 by omega) (by decide) (by omega)
  omega
 unfold starts rngS
 rw [length_map,length_range]
 have hm:(if (1:Int) < n then (n:Int) else 1)=r * (p - 1)+1:=by rw [if_pos (by omega),hn]
 rw [hm]
 (unfold Builtin.Range.rangeSize)
 rw [if_pos (by omega),if_pos (by omega)]
 have e:(r * (p - 1)+1 - 0 - 1) / r=p - 1:=by
  rw [show r * (p - 1)+1 - 0 - 1=r * (p - 1) by omega]
  exact Int.mul_ediv_cancel_left _ (by omega)
 rw [e]
 omega
def ZgR(C:Addr)(p r:Int)(row:List Int)(hp:7<=p)(hp2:p<=47)(h1:1<=r)(h2:r<=p - 5)(hl:row.length<=602)(hn:(row.length:Int)=r * (p - 1)+1)(hx:∀ x∈row,0<=x/\x < p):
 (Zw C).run [Ro C true p r,Ls true row]=.exc (Xl true row.length) [Ro C true p r,Ls true row]:=by
 have hpr:=ZeC row r (by omega) h1 (by omega)
 have hsl:=ZgQ row.length r p h1 (by omega) hn
 have hpl:(((starts row.length r).map (piece row r)).length:Int)=p:=by rw [length_map];exact hsl
 generalize (starts row.length r).map (piece row r)=ps at hpr hpl
 have k1:Z7.lend=true:=rfl
 have k2:ZaF.lend=true:=rfl
 have k3:ZX.lend=true:=rfl
 have r1:=fun o=>Zdz p row o hx (by omega)
 have f1:=ZdJ C (I p) (I r)
 have f2:=ZfC C (I p) (I r)
 have hdl:∀ o,((dL o ps).length:Int)=p:=fun o=>by rw [ZaD];exact hpl
 have hd:=Zp row
 have hge:p<=p:=Int.le_refl _
 have nx:¬ 1000 < 1:=by decide
 have hi:=ZmP row.length (by omega)
 walk_at "r"
 (simp_all [Zt,ZaC,k1,k2,k3,r1,hpr,f1,f2,hdl,hd,hge,hi,Zii (ns:=["TooLong","LabelError"]) (fi:=ZX) (ps:=[Op.tmp (I row.length)]) nx])<;>rfl
def Zio(C:Addr)(p r:Int)(qs:List (D×Bool))(hq:∀ q∈qs,Sy p q.1 q.2)(hl:qs.length<=620)(n:Nat)(hn:ffx 0 qs=some n):
 (Zw C).run [Ro C true p r,.node .lst true (qs.map Prod.fst)]=.exc (Xc "NoSymbol" true n) [Ro C true p r,.node .lst true (qs.map Prod.fst)]:=by
 have k1:Z7.lend=true:=rfl
 have r1:=Zfz p true qs hq hl
 rw [hn] at r1
 have f1:=ZdJ C (I p) (I r)
 walk_at "r"
 (simp_all [k1,r1,f1,Zlj,Zjw])<;>rfl
def Zjx(n:Int):ZM.run [Xl false n,I 1]=.ok (.sc (.bl true),[Xl false n,I 1]):=by kernel_rfl
def ZkB(n:Int):ZM.run [Xc "NoSymbol" false n,I 2]=.ok (.sc (.bl true),[Xc "NoSymbol" false n,I 2]):=by kernel_rfl
noncomputable abbrev c4(C:Addr):T.Ctx:=⟨fun i=>decide (i < 4),(CK C).fok,(CK C).fuel⟩
def Zh9{lk:Nat->Bool}{body suite:M Fl}{c:Str}{δ':List D}{x:D}(h:body δ=.exc x δ')(hh:hits c x=true)(hi:i < δ'.length)(hl:lk i=false):tryM lk body c (some i) suite δ=ZcN i (suite (δ'.set i x)):=by
 unfold tryM
 rw [h]
 dsimp only
 rw [if_pos hh,if_pos (by rw [hl,decide_eq_true hi];rfl)]
def Zjy(C:Addr)(p r:Int)(X:List D)(x x2 x3 x4 x5:D)(h:(Zw C).run [Ro C true p r,.node .lst true X]=.exc x [Ro C true p r,.node .lst true X]):
 exs (c4 C) [.exY (.meth C "parted" (Zw C) (.v 0) [.v 1])] [Ro C true p r,.node .lst true X,x2,x3,x4,x5]=.exc x [Ro C true p r,.node .lst true X,x2,x3,x4,x5]:=by
 have k1:(Zw C).lend=true:=rfl
 have c1:∀(x1 x2 x3 x4 x5:D),chkI C "parted" (.late 0) [Ro C true p r,x1,x2,x3,x4,x5]=.ok ((),[Ro C true p r,x1,x2,x3,x4,x5]):=fun x1 x2 x3 x4 x5=>ZfD C "parted" 0 _ fs2 true _ rfl (by decide)
 (simp_all [k1,c1,h,Zlj,Zjw])<;>rfl
def Zlk(p:Bool)(k:Kd)(ds:List D):isNW p (.nd k ds)=.sc (.bl (!p)):=(rfl)
def Zg3(C:Addr)(p r n:Int)(X:List D)(h:(Zw C).run [Ro C true p r,.node .lst true X]=.exc (Xl true n) [Ro C true p r,.node .lst true X]):
 (Zam C).run [Ro C true p r,.node .lst true X,I 1,I n]=.ok (.sc (.bl true),[Ro C true p r,.node .lst true X,I 1,I n]):=by
 have h:=Zjy C p r X (Xl true n) (I 1) (I n) (.sc .non) .hole h
 have ht:=Zh9 (lk:=fun i=>decide (i < 4)) (c:="LabelError") (i:=5) (suite:=exs (c4 C) [.asg 4 (.v 5)]) h rfl (show 5 < 6 by decide) rfl
 have hx:∀(b s:List T.S)(δ:List D),ex (c4 C) (.try_ b "LabelError" (some 5) s) δ=tryM (fun i=>decide (i < 4)) (exs (c4 C) b) "LabelError" (some 5) (exs (c4 C) s) δ:=fun _ _ _=>rfl
 have k1:ZM.lend=true:=rfl
 have k2:ZG.lend=true:=rfl
 have s1:ZG.run [I n,I n]=_:=Zg1 2 n
 have o1:=Zjx n
 have g1:bfW (.xfld "length") [.nd (.exc ["TooLong","LabelError"] false ["length"]) [I n]]=some (I n):=rfl
 walk_at "r"
 (simp_all [hx,ht,Zee,Zlk,k1,k2,s1,o1,g1])<;>rfl
def ZgS(C:Addr)(p r n:Int)(X:List D)(h:(Zw C).run [Ro C true p r,.node .lst true X]=.exc (Xc "NoSymbol" true n) [Ro C true p r,.node .lst true X]):
 (Zam C).run [Ro C true p r,.node .lst true X,I 2,I n]=.ok (.sc (.bl true),[Ro C true p r,.node .lst true X,I 2,I n]):=by
 have h:=Zjy C p r X (Xc "NoSymbol" true n) (I 2) (I n) (.sc .non) .hole h
 have ht:=Zh9 (lk:=fun i=>decide (i < 4)) (c:="LabelError") (i:=5) (suite:=exs (c4 C) [.asg 4 (.v 5)]) h rfl (show 5 < 6 by decide) rfl
 have hx:∀(b s:List T.S)(δ:List D),ex (c4 C) (.try_ b "LabelError" (some 5) s) δ=tryM (fun i=>decide (i < 4)) (exs (c4 C) b) "LabelError" (some 5) (exs (c4 C) s) δ:=fun _ _ _=>rfl
 have k1:ZM.lend=true:=rfl
 have k2:ZG.lend=true:=rfl
 have s1:ZG.run [I n,I n]=_:=Zg1 2 n
 have o1:=ZkB n
 have g1:bfW (.xfld "number") [.nd (.exc ["NoSymbol","LabelError"] false ["number"]) [I n]]=some (I n):=rfl
 have z1:decide (V.int 2=V.int 1)=false:=rfl
 walk_at "r"
 (simp_all [hx,ht,Zee,Zlk,k1,k2,s1,o1,g1,z1])<;>rfl
def Zsa(a b c d k:Int)(h0:0<=k)(h1:k < 8):∃ v:V,oddV v/\((ixN' 8 k).bind fun j=>[D.sc (.int a),D.sc (.int b),D.sc (.int c),D.sc (.int 0),D.sc (.int d),D.sc (.bl true),D.sc .non,D.sc (.str "1")][j]?)=some (.sc v):=by
 (obtain ⟨n,rfl⟩:=Int.eq_ofNat_of_zero_le h0)
 have:n=0\/n=1\/n=2\/n=3\/n=4\/n=5\/n=6\/n=7:=by omega
 rcases this with rfl|rfl|rfl|rfl|rfl|rfl|rfl|rfl
 . exact ⟨_,.inl ⟨a,rfl⟩,rfl⟩
 . exact ⟨_,.inl ⟨b,rfl⟩,rfl⟩
 . exact ⟨_,.inl ⟨c,rfl⟩,rfl⟩
 . exact ⟨_,.inl ⟨0,rfl⟩,rfl⟩
 . exact ⟨_,.inl ⟨d,rfl⟩,rfl⟩
 . exact ⟨_,.inr (.inl ⟨true,rfl⟩),rfl⟩
 . exact ⟨_,.inr (.inr (.inr rfl)),rfl⟩
 . exact ⟨_,.inr (.inr (.inl ⟨_,rfl⟩)),rfl⟩
def Zpj(k:Int)(h0:0<=k)(h1:k < 13):∃ p:Int,p∈PR/\5<=p/\((ixN' (dI PR).length k).bind fun j=>(dI PR)[j]?)=some (.sc (.int p)):=by
 have hb:∀ k:Nat,k < 13->PR.getD k 0∈PR/\5<=PR.getD k 0:=by decide
 obtain ⟨b1,b2⟩:=hb k.toNat (by omega)
 exact ⟨_,b1,b2,ixI PR k h0 (by simpa using h1)⟩
noncomputable abbrev b1S(C:Addr):List T.S:=[.asg 3 (.ix (.v 1) (.bin .Mod (.v 2) (.k (.int 13)))),.asg 4 (.ix (.lst [.bin .Mod (.bin .FloorDiv (.v 2) (.k (.int 13))) (.k (.int 50)),.bin .Sub (.v 3) (.k (.int 5)),.bin .Sub (.v 3) (.k (.int 4)),.k (.int 0),.bin .Sub (.neg (.k (.int 1))) (.bin .Mod (.bin .FloorDiv (.v 2) (.k (.int 13))) (.k (.int 9))),.k (.bl true),.k .non,.k (.str "1")]) (.bin .Mod (.bin .FloorDiv (.v 2) (.k (.int 700))) (.k (.int 8)))),.asg 5 (.and (.bf (.isi .int) [.v 4]) (.and (.nt (.bf (.isi .bool) [.v 4])) (.chain .LtE .LtE (.k (.int 1)) (.v 4) (.bin .Sub (.v 3) (.k (.int 5)))))),.iff (.cmp .NotEq (.call (Zai C) [.v 3,.v 4]) (.ix (.lst [.k (.str "none"),.k (.str "ok")]) (.bf .int [.v 5]))) [.ret (.k (.bl false))] []]
noncomputable abbrev PS1:D:=.node .lst true (dI PR)
def Zsb(C:Addr)(lk:Nat->Bool)(h3:lk 3=false)(h4:lk 4=false)(h5:lk 5=false)(c:Int)(x0 a3 a4 a5 x6 x7 x8 x9 x10 x11 x12:D):∃ p v b,exs ⟨lk,(CK C).fok,(CK C).fuel⟩ (b1S C) [x0,PS1,I c,a3,a4,a5,x6,x7,x8,x9,x10,x11,x12]=.ok (.nx,[x0,PS1,I c,I p,.sc v,.sc (.bl b),x6,x7,x8,x9,x10,x11,x12]):=by
 obtain ⟨p,p1,p2,hp⟩:=Zpj (c % 13) (emod_nonneg _ (by decide)) (emod_lt_of_pos _ (by decide))
 obtain ⟨v,v1,hv⟩:=Zsa (c / 13 % 50) (p - 5) (p - 4) (-1 - c / 13 % 9) (c / 700 % 8) (emod_nonneg _ (by decide)) (emod_lt_of_pos _ (by decide))
 have hm:=Zgx C (.int p) v (.inl ⟨p,rfl⟩) v1
 have k1:(Zai C).lend=true:=rfl
 have e13:∀ u:Int,binW .Mod (.sc (.int u)) (.sc (.int 13))=some (.sc (.int (u % 13))):=fun u=>ZB _ _ (by decide)
 have e50:∀ u:Int,binW .Mod (.sc (.int u)) (.sc (.int 50))=some (.sc (.int (u % 50))):=fun u=>ZB _ _ (by decide)
 have e9:∀ u:Int,binW .Mod (.sc (.int u)) (.sc (.int 9))=some (.sc (.int (u % 9))):=fun u=>ZB _ _ (by decide)
 have e8:∀ u:Int,binW .Mod (.sc (.int u)) (.sc (.int 8))=some (.sc (.int (u % 8))):=fun u=>ZB _ _ (by decide)
 have g13:∀ u:Int,binW .FloorDiv (.sc (.int u)) (.sc (.int 13))=some (.sc (.int (u / 13))):=fun u=>ZdC _ _ (by decide)
 have g7:∀ u:Int,binW .FloorDiv (.sc (.int u)) (.sc (.int 700))=some (.sc (.int (u / 700))):=fun u=>ZdC _ _ (by decide)
 have n8:∀ a b c d e f g h:D,newL [a,b,c,d,e,f,g,h]=some (.node .lst true [a,b,c,d,e,f,g,h]):=fun a b c d e f g h=>Z9 _ (by rw [szl];simp)
 have n2:∀ a b:D,newL [a,b]=some (.node .lst true [a,b]):=fun a b=>Z9 _ (by rw [szl];simp)
 have sh:shrL (dI PR)=dI PR:=rfl
 have i1:∀ b:Bool,bfW .int [.sc (.bl b)]=some (I (if b then 1 else 0)):=fun b=>by cases b<;>rfl
 have y0:∀ a b:D,((ixN' 2 0).bind fun j=>[a,b][j]?)=some a:=fun a b=>rfl
 have y1:∀ a b:D,((ixN' 2 1).bind fun j=>[a,b][j]?)=some b:=fun a b=>rfl
 have z0:Za2 .NotEq (.sc (.str "none")) (.sc (.str "none"))=some false:=by kernel_rfl
 have z1:Za2 .NotEq (.sc (.str "ok")) (.sc (.str "ok"))=some false:=by kernel_rfl
 have ng:bfW (.isi .int) [.sc (.int 0)]=some (.sc (.bl true)):=rfl
 refine ⟨p,v,Za9 (.int p) v,?_⟩
 have hp1:decide (p∈PR)=true:=decide_eq_true p1
 simp only [PS1]
 generalize dI PR=dp at hp sh ⊢
 rcases v1 with ⟨r,rfl⟩|⟨b,rfl⟩|⟨x,rfl⟩|rfl
 . have t1:bfW (.isi .int) [.sc (.int r)]=some (.sc (.bl true)):=rfl
   have t2:bfW (.isi .bool) [.sc (.int r)]=some (.sc (.bl false)):=rfl
   by_cases q1:1<=r<;>by_cases q2:r<=p - 5
   all_goals (simp only [Za9,hp1,q1,q2,decide_true,decide_false,Bool.and_true,Bool.true_and,Bool.and_false,Bool.false_and] at hm ⊢;(simp_all [e13,e50,e9,e8,g13,g7,n8,n2,sh,hp,hv,i1,y0,y1,z0,z1,t1,t2,q1,q2,k1,hm,h3,h4,h5,ZdG])<;>rfl)
 . have t1:bfW (.isi .int) [.sc (.bl b)]=some (.sc (.bl true)):=rfl
   have t2:bfW (.isi .bool) [.sc (.bl b)]=some (.sc (.bl true)):=rfl
   simp only [Za9] at hm ⊢
   (simp_all [e13,e50,e9,e8,g13,g7,n8,n2,sh,hp,hv,i1,y0,y1,z0,z1,t1,t2,k1,hm,h3,h4,h5])<;>rfl
 . have t1:bfW (.isi .int) [.sc (.str x)]=some (.sc (.bl false)):=rfl
   simp only [Za9] at hm ⊢
   (simp_all [e13,e50,e9,e8,g13,g7,n8,n2,sh,hp,hv,i1,y0,y1,z0,z1,t1,k1,hm,h3,h4,h5])<;>rfl
 . have t1:bfW (.isi .int) [.sc .non]=some (.sc (.bl false)):=rfl
   simp only [Za9] at hm ⊢
   (simp_all [e13,e50,e9,e8,g13,g7,n8,n2,sh,hp,hv,i1,y0,y1,z0,z1,t1,k1,hm,h3,h4,h5])<;>rfl
theorem Zll(B:M Fl)(lk:Nat->Bool)(h2:lk 2=false)(x0 x1 x6 x7 x8 x9 x10 x11 x12:D)(hb:∀ (c:Int) (a3 a4 a5:D),∃ a3' a4' a5',B [x0,x1,I c,a3,a4,a5,x6,x7,x8,x9,x10,x11,x12]=.ok (.nx,[x0,x1,I c,a3',a4',a5',x6,x7,x8,x9,x10,x11,x12])):
 ∀(cs:List Int)(a2 a3 a4 a5:D),∃ a2' a3' a4' a5',forL (asgT lk (.name 2)) B (dI cs) [x0,x1,a2,a3,a4,a5,x6,x7,x8,x9,x10,x11,x12]=.ok (.nx,[x0,x1,a2',a3',a4',a5',x6,x7,x8,x9,x10,x11,x12])
 | [],a2,a3,a4,a5=>⟨a2,a3,a4,a5,rfl⟩
 | c::cs,a2,a3,a4,a5=>by
  obtain ⟨a3',a4',a5',hb'⟩:=hb c a3 a4 a5
  obtain ⟨z2,z3,z4,z5,ih⟩:=Zll B lk h2 x0 x1 x6 x7 x8 x9 x10 x11 x12 hb cs (I c) a3' a4' a5'
  refine ⟨z2,z3,z4,z5,?_⟩
  rw [Zac,ZbZ,<- ih]
  simp_all [h2,hb']
noncomputable abbrev b2S(C:Addr):List T.S:=[.iff (.cmp .NotEq (.call (Zai C) [.v 6,.k (.int 1)]) (.k (.str "none"))) [.ret (.k (.bl false))] []]
def Zsc(C:Addr)(lk:Nat->Bool)(v:V)(hv:oddV v)(hr:Za9 v (.int 1)=false)(x0 x1 x2 x3 x4 x5 x7 x8 x9 x10 x11 x12:D):exs ⟨lk,(CK C).fok,(CK C).fuel⟩ (b2S C) [x0,x1,x2,x3,x4,x5,.sc v,x7,x8,x9,x10,x11,x12]=.ok (.nx,[x0,x1,x2,x3,x4,x5,.sc v,x7,x8,x9,x10,x11,x12]):=by
 have hm:=Zgx C v (.int 1) hv (.inl ⟨1,rfl⟩)
 rw [hr,if_neg Bool.false_ne_true] at hm
 have k1:(Zai C).lend=true:=rfl
 have z0:Za2 .NotEq (.sc (.str "none")) (.sc (.str "none"))=some false:=by kernel_rfl
 (simp_all [hm,k1,z0])<;>rfl
theorem Zlm(B:M Fl)(lk:Nat->Bool)(h6:lk 6=false)(x0 x1 x2 x3 x4 x5 x7 x8 x9 x10 x11 x12:D):∀(vs:List V)(a6:D),(∀ v∈vs,B [x0,x1,x2,x3,x4,x5,.sc v,x7,x8,x9,x10,x11,x12]=.ok (.nx,[x0,x1,x2,x3,x4,x5,.sc v,x7,x8,x9,x10,x11,x12]))->
 ∃ a6',forL (asgT lk (.name 6)) B (vs.map D.sc) [x0,x1,x2,x3,x4,x5,a6,x7,x8,x9,x10,x11,x12]=.ok (.nx,[x0,x1,x2,x3,x4,x5,a6',x7,x8,x9,x10,x11,x12])
 | [],a6,_=>⟨a6,rfl⟩
 | v::vs,a6,hb=>by
  have hb':=hb v mem_cons_self
  obtain ⟨z6,ih⟩:=Zlm B lk h6 x0 x1 x2 x3 x4 x5 x7 x8 x9 x10 x11 x12 vs (.sc v) fun w h=>hb w (mem_cons_of_mem _ h)
  refine ⟨z6,?_⟩
  rw [map_cons,ZbZ,<- ih]
  simp_all [h6,hb']
theorem ZhA(C:T.Ctx)(b:List T.S):∀(a:List T.S)(δ:List D),exs C (a++b) δ=seqR (exs C b) (exs C a δ)
 | [],δ=>by rw [nil_append,exs0];rfl
 | s::a,δ=>by
  rw [cons_append,exs1,exs1]
  cases ex C s δ with
  | stuck=>rfl
  | exc x y=>rfl
  | ok r=>
   obtain ⟨f,δ'⟩:=r
   cases f with
   | nx=>exact ZhA C b a δ'
   | rt d=>rfl
   | bk=>rfl
   | ct=>rfl
noncomputable abbrev c1(C:Addr):T.Ctx:=⟨fun i=>decide (i < 1),(CK C).fok,(CK C).fuel⟩
noncomputable abbrev things:List V:=[.int 2,.int 3,.int 4,.int 9,.int 25,.int 49,.int 53,.int 0,.int (-7),.bl true,.non,.str "7"]
def ZeF:∀ v∈things,oddV v/\Za9 v (.int 1)=false:=fun v h=>by
 simp only [things,mem_cons,not_mem_nil,or_false] at h
 rcases h with rfl|rfl|rfl|rfl|rfl|rfl|rfl|rfl|rfl|rfl|rfl|rfl
 . exact ⟨.inl ⟨_,rfl⟩,rfl⟩
 . exact ⟨.inl ⟨_,rfl⟩,rfl⟩
 . exact ⟨.inl ⟨_,rfl⟩,rfl⟩
 . exact ⟨.inl ⟨_,rfl⟩,rfl⟩
 . exact ⟨.inl ⟨_,rfl⟩,rfl⟩
 . exact ⟨.inl ⟨_,rfl⟩,rfl⟩
 . exact ⟨.inl ⟨_,rfl⟩,rfl⟩
 . exact ⟨.inl ⟨_,rfl⟩,rfl⟩
 . exact ⟨.inl ⟨_,rfl⟩,rfl⟩
 . exact ⟨.inr (.inl ⟨_,rfl⟩),rfl⟩
 . exact ⟨.inr (.inr (.inr rfl)),rfl⟩
 . exact ⟨.inr (.inr (.inl ⟨_,rfl⟩)),rfl⟩
def st_a(C:Addr)(ns:List Int):∃ a2 a3 a4 a5 a6,exs (c1 C) ((Zbg C).take 3) [scr ns,.hole,.hole,.hole,.hole,.hole,.hole,.hole,.hole,.hole,.hole,.hole,.hole]=.ok (.nx,[scr ns,PS1,a2,a3,a4,a5,a6,.hole,.hole,.hole,.hole,.hole,.hole]):=by
 have hc:cutD (ns.map fun i=>D.sc (.int i)) (some 4) (some 20)=dI (cutI ns (some 4) (some 20)):=ZaP ns _ _
 generalize cutI ns (some 4) (some 20)=cs at hc
 obtain ⟨a2,a3,a4,a5,l1⟩:=Zll (exs ⟨fun i=>decide (i < 1),(CK C).fok,(CK C).fuel⟩ (b1S C)) (fun i=>decide (i < 1)) rfl (scr ns) PS1 .hole .hole .hole .hole .hole .hole .hole (fun c a3 a4 a5=>by
  obtain ⟨p,v,b,e⟩:=Zsb C (fun i=>decide (i < 1)) rfl rfl rfl c (scr ns) a3 a4 a5 .hole .hole .hole .hole .hole .hole .hole
  exact ⟨_,_,_,e⟩) cs .hole .hole .hole .hole
 obtain ⟨a6,l2⟩:=Zlm (exs ⟨fun i=>decide (i < 1),(CK C).fok,(CK C).fuel⟩ (b2S C)) (fun i=>decide (i < 1)) rfl (scr ns) PS1 a2 a3 a4 a5 .hole .hole .hole .hole .hole .hole things .hole (fun v h=>Zsc C _ v (ZeF v h).1 (ZeF v h).2 _ _ _ _ _ _ _ _ _ _ _ _)
 have nk:newL ([V.int 5,.int 7,.int 11,.int 13,.int 17,.int 19,.int 23,.int 29,.int 31,.int 37,.int 41,.int 43,.int 47].map D.sc)=some PS1:=Z9 _ (by rw [szl];simp)
 have nt:newL (things.map D.sc)=some (.node .lst true (things.map D.sc)):=Z9 _ (by rw [szl];simp [things])
 refine ⟨a2,a3,a4,a5,a6,?_⟩
 simp only [Zbg,List.take_succ_cons,List.take_zero]
 simp only [scr] at l1 l2 ⊢
 simp only [things,map_cons,map_nil] at nt l2 nk
 (simp_all [e_kl,nk,nt,hc,Zt,l1,l2])<;>rfl
def Zf2(ns:List Int)(k:Int):∃ c:Int,ZW.run [scr ns,I k]=.ok (I c,[scr ns,I k]):=by
 have hc:cutD (ns.map fun i=>D.sc (.int i)) (some k) (some (k+1))=dI (cutI ns (some k) (some (k+1))):=ZaP ns _ _
 generalize cutI ns (some k) (some (k+1))=cs at hc
 have sm:=Za5 cs
 refine ⟨cs.sum,?_⟩
 walk_at "r"
 (simp_all [hc,sm,scr])<;>rfl
def ZgT(n:Nat)(r p:Int)(hr:1<=r)(hp:2<=p)(hn:(n:Int)=r * (p - 1)):((starts n r).length:Int)=p - 1:=by
 have h0:1<=r * (p - 1):=by
  have:=mul_le_mul hr (show 1<=p - 1 by omega) (by decide) (by omega)
  omega
 unfold starts rngS
 rw [length_map,length_range]
 have hm:(if (1:Int) < n then (n:Int) else 1)=r * (p - 1):=by
  by_cases h:(1:Int) < n
  . rw [if_pos h,hn]
  . rw [if_neg h];omega
 rw [hm]
 (unfold Builtin.Range.rangeSize)
 rw [if_pos (by omega),if_pos (by omega)]
 have e:(r * (p - 1) - 0 - 1) / r=p - 2:=by
  have e1:r * (p - 1) - 0 - 1=(r - 1)+r * (p - 2):=by rw [show p - 1=(p - 2)+1 by omega,Int.mul_add,mul_one];omega
  rw [e1,Int.add_mul_ediv_left _ _ (by omega),Int.ediv_eq_zero_of_lt (by omega) (by omega)]
  omega
 rw [e]
 omega
def Zjz(p r:Int)(row:List Int)(h:((starts row.length r).length:Int)=p - 1):((parts p r row).length:Int)=p:=by
 have hpl:((starts row.length r).map (piece row r)).length=(starts row.length r).length:=length_map _
 unfold parts
 dsimp only
 generalize (starts row.length r).map (piece row r)=ps at hpl
 rw [length_append,ZcW,length_singleton]
 omega
def Zj0(p r:Int)(row:List Int)(hp2:p<=47)(h1:1<=r)(h2:r<=p - 5):∀ l∈parts p r row,l.length<=1000:=by
 have hps:∀ x∈(starts row.length r).map (piece row r),(x.length:Int)<=r:=fun x h=>by
  obtain ⟨a,ha,rfl⟩:=List.mem_map.mp h
  exact Zc1 row r a (ZcV _ r (by omega) a ha) (by omega)
 have hup:∀(xs:List (List Int))(k c:Int),(∀ x∈xs,(x.length:Int)<=r)->∀ l∈lbls p r c k xs,l.length<=1000:=fun xs=>by
  induction xs with
  | nil=>intro k c _ l h;simp [lbls] at h
  | cons x xs ih=>
   intro k c hx l h
   rw [lbls] at h
   (rcases List.mem_cons.mp h with rfl|h)
   . unfold lbl
     rw [ZeZ,length_append,ZcH r x (hx x mem_cons_self)]
     show 2+(r.toNat+1)+2<=1000
     omega
   . exact ih (k+1) c (fun y hy=>hx y (mem_cons_of_mem _ hy)) l h
 unfold parts
 dsimp only
 generalize (starts row.length r).map (piece row r)=ps at hps
 intro l hl
 rcases List.mem_append.mp hl with hl|hl
 . exact hup _ _ _ hps l hl
 . rw [List.mem_singleton.mp hl,ZeZ,length_append,length_map,Zbm]
   show 2+_+2<=_
   omega
theorem ZhB(d:D)(r:List (D×Bool)):∀(xs:List Int)(c:Nat),ffx c ((xs.map fun x=>(I x,true))++(d,false)::r)=some (c+xs.length)
 | [],c=>rfl
 | x::xs,c=>by
  rw [map_cons,cons_append,ffx,ZhB d r xs (c+1),length_cons]
  congr 1
  omega
def Zip(p x:Int)(h:p<=x\/x < 0):Sy p (I x) false:=by
 have:=Zle p x
 have e:(decide (0<=x) && decide (x < p))=false:=by
  rcases h with h|h
  . rw [decide_eq_false (show ¬ x < p by omega),Bool.and_false]
  . rw [decide_eq_false (show ¬ 0<=x by omega),Bool.false_and]
 rw [e] at this
 exact ⟨this,rfl,.inl ⟨_,rfl⟩⟩
def sy_o(p:Int)(d:D)(h1:(∃ v,d=.sc v)\/∃ k l,d=.node k false l)(h2:shr d=d)(hd:(∃ b,d=.sc (.bl b))\/(∃ x,d=.sc (.str x))\/d=.sc .non\/(∃ ds,d=.node .lst false ds)\/∃ ds,d=.node .tup false ds):Sy p d false:=
 ⟨ZrT p d h1 (ZmD d hd),h2,h1⟩
def Zsd(p cc k:Int)(hc:0<=cc)(hp:0 < p)(h0:0<=k)(h1:k < 8):∃ od od':D,Sy p od' false/\(∀ x0 x1 x2 x3 x4 x5 x6 x7 x8 x9 x10 x11:D,vlR 12 [x0,x1,x2,x3,x4,x5,x6,x7,x8,x9,x10,x11,od] (some od)=.ok (od',[x0,x1,x2,x3,x4,x5,x6,x7,x8,x9,x10,x11,od']))/\
 ((ixN' 8 k).bind fun j=>[D.sc (.int p),D.sc (.int (p+1+cc)),D.sc (.int (-1 - cc % 9)),D.sc (.bl true),D.sc (.bl false),D.sc .non,D.sc (.str "0"),D.node .lst true [I 0]][j]?)=some od:=by
 have hm:=emod_nonneg cc (show (9:Int)≠0 by decide)
 (obtain ⟨n,rfl⟩:=Int.eq_ofNat_of_zero_le h0)
 have:n=0\/n=1\/n=2\/n=3\/n=4\/n=5\/n=6\/n=7:=by omega
 rcases this with rfl|rfl|rfl|rfl|rfl|rfl|rfl|rfl
 . exact ⟨_,_,Zip p p (.inl (Int.le_refl _)),fun _ _ _ _ _ _ _ _ _ _ _ _=>rfl,rfl⟩
 . exact ⟨_,_,Zip p _ (.inl (by omega)),fun _ _ _ _ _ _ _ _ _ _ _ _=>rfl,rfl⟩
 . exact ⟨_,_,Zip p _ (.inr (by omega)),fun _ _ _ _ _ _ _ _ _ _ _ _=>rfl,rfl⟩
 . exact ⟨_,_,sy_o p (.sc (.bl true)) (.inl ⟨_,rfl⟩) rfl (.inl ⟨_,rfl⟩),fun _ _ _ _ _ _ _ _ _ _ _ _=>rfl,rfl⟩
 . exact ⟨_,_,sy_o p (.sc (.bl false)) (.inl ⟨_,rfl⟩) rfl (.inl ⟨_,rfl⟩),fun _ _ _ _ _ _ _ _ _ _ _ _=>rfl,rfl⟩
 . exact ⟨_,_,sy_o p (.sc .non) (.inl ⟨_,rfl⟩) rfl (.inr (.inr (.inl rfl))),fun _ _ _ _ _ _ _ _ _ _ _ _=>rfl,rfl⟩
 . exact ⟨_,_,sy_o p (.sc (.str "0")) (.inl ⟨_,rfl⟩) rfl (.inr (.inl ⟨_,rfl⟩)),fun _ _ _ _ _ _ _ _ _ _ _ _=>rfl,rfl⟩
 . exact ⟨_,_,sy_o p (.node .lst false [I 0]) (.inr ⟨_,_,rfl⟩) rfl (.inr (.inr (.inr (.inl ⟨_,rfl⟩)))),fun _ _ _ _ _ _ _ _ _ _ _ _=>rfl,rfl⟩
def ZmQ(C:Addr)(p r:Int)(row:List Int)(a:Nat)(od:D)(ha:a<=row.length)(hl:row.length<=600)(hx:∀ x∈row,0<=x/\x < p)(ho:Sy p od false):
 (Zw C).run [Ro C true p r,.node .lst true (((dI (row.take a)++[od])++dI (row.drop a))++[.sc .non])]=.exc (Xc "NoSymbol" true a) [Ro C true p r,.node .lst true (((dI (row.take a)++[od])++dI (row.drop a))++[.sc .non])]:=by
 let qs:List (D×Bool):=((row.take a).map fun x=>(I x,true))++(od,false)::(((row.drop a).map fun x=>(I x,true))++[(.sc .non,false)])
 have e:qs.map Prod.fst=((dI (row.take a)++[od])++dI (row.drop a))++[.sc .non]:=by
  show (_++_::(_++_)).map Prod.fst=_
  rw [map_append,map_cons,map_append,ZdI,ZdI,List.append_assoc,List.append_assoc]
  rfl
 have hn:ffx 0 qs=some a:=by
  have:=ZhB od (((row.drop a).map fun x=>(I x,true))++[(.sc .non,false)]) (row.take a) 0
  rw [Nat.zero_add,length_take,Nat.min_eq_left ha] at this
  exact this
 have hq:∀ q∈qs,Sy p q.1 q.2:=fun q h=>by
  (rcases List.mem_append.mp h with h|h)
  . exact Zgv p _ (fun x h'=>hx x (List.mem_of_mem_take h')) q h
  (rcases List.mem_cons.mp h with rfl|h)
  . exact ho
  (rcases List.mem_append.mp h with h|h)
  . exact Zgv p _ (fun x h'=>hx x (List.mem_of_mem_drop h')) q h
  . rw [List.mem_singleton.mp h]
    exact sy_o p (.sc .non) (.inl ⟨_,rfl⟩) rfl (.inr (.inr (.inl rfl)))
 have hql:qs.length<=620:=by
  show (_++_::(_++_)).length<=620
  rw [length_append,length_cons,length_append,length_map,length_map,length_take,length_drop,length_singleton]
  omega
 have h:=Zio C p r qs hq hql a hn
 rw [e] at h
 exact h
def st_b(C:Addr)(ns:List Int)(a2 a3 a4 a5 a6:D):∃ ds',Zch 1 (exs (c1 C) ((Zbg C).drop 3) [scr ns,PS1,a2,a3,a4,a5,a6,.hole,.hole,.hole,.hole,.hole,.hole])=.ok (.sc (.bl true),ds'):=by
 obtain ⟨p,r,p1,p2,p3,r1,r2,hroll⟩:=Zk9 ns
 have hini:=Zgw C p r p1 r1 r2
 have h46:r * (p - 1)<=42 * 46:=mul_le_mul (show r<=42 by omega) (show p - 1<=46 by omega) (by omega) (by decide)
 have h0:1<=r * (p - 1):=by
  have:=mul_le_mul r1 (show 1<=p - 1 by omega) (by decide) (by omega)
  omega
 have nw:∀ x0 x1 x2 x5 x6 x7 x8 x9 x10 x11 x12:D,newF C (Zv C) [.late 3,.late 4] [x0,x1,x2,I p,I r,x5,x6,x7,x8,x9,x10,x11,x12]=.ok (Ro C true p r,[x0,x1,x2,I p,I r,x5,x6,x7,x8,x9,x10,x11,x12]):=fun x0 x1 x2 x5 x6 x7 x8 x9 x10 x11 x12=>new2 rfl rfl hini
 have bm:binW .Mult (.sc (.int r)) (.sc (.int (p - 1)))=some (.sc (.int (r * (p - 1)))):=Zca _ _ (.inl (by omega))
 have k1:Zbf.lend=true:=rfl
 have k2:ZW.lend=true:=rfl
 have k3:ZQ.lend=true:=rfl
 have k4:ZaB.lend=true:=rfl
 have k5:ZG.lend=true:=rfl
 have k6:(Zw C).lend=true:=rfl
 have k7:(Zam C).lend=true:=rfl
 by_cases hbig:600 < r * (p - 1)
 . have hd:decide (600 < r * (p - 1))=true:=decide_eq_true hbig
   simp only [Zbg,List.drop_succ_cons,drop_zero]
   simp only [scr] at hroll ⊢
   (simp_all [k1,hroll,nw,bm,hd])<;>exact ⟨_,rfl⟩
 have hd:decide (600 < r * (p - 1))=false:=decide_eq_false hbig
 obtain ⟨c,hc⟩:=Zf2 ns 1
 obtain ⟨c2,hc2⟩:=Zf2 ns 2
 obtain ⟨m,hm⟩:=Int.eq_ofNat_of_zero_le (show 0<=r * (p - 1) by omega)
 have hm:r * (p - 1)=(m:Int):=hm
 obtain ⟨ys,hy,hs⟩:=ZeE c m (by omega)
 obtain ⟨a0,hml⟩:=ZkA (fun i=>decide (1<=i)) (CK C).fok (CK C).fuel rfl p (by omega) ys [] .hole
 rw [nil_append] at hml
 have hx:∀ x∈ys.map (· % p),0<=x/\x < p:=fun x h=>by
  obtain ⟨z,_,rfl⟩:=List.mem_map.mp h
  exact ⟨emod_nonneg _ (by omega),emod_lt_of_pos _ (by omega)⟩
 have hrl:(ys.map (· % p)).length=m:=by rw [length_map];exact hy
 generalize ys.map (· % p)=row at hml hx hrl
 replace hml:ZS (CK C).fok (CK C).fuel 1 (.name 0) [] (.bin .Mod (.v 0) (.v 1)) (dI ys) [] [.hole,I p]=_:=hml
 have hcm:∀ x0 x1 x2 x4 x5 x6 x7 x8 x9 x10 x11 x12:D,Zab 1 [3] (ZS (CK C).fok (CK C).fuel 1 (.name 0) [] (.bin .Mod (.v 0) (.v 1)) (dI ys) []) [x0,x1,x2,I p,x4,x5,x6,x7,x8,x9,x10,x11,x12]=.ok (Ls true row,[x0,x1,x2,I p,x4,x5,x6,x7,x8,x9,x10,x11,x12]):=fun x0 x1 x2 x4 x5 x6 x7 x8 x9 x10 x11 x12=>by
  rw [Zaf (js:=[3]) (caps:=[I p]) (δ1:=[x0,x1,x2,.hole,x4,x5,x6,x7,x8,x9,x10,x11,x12]) rfl hml (by rw [Zp,szl];omega)]
  rfl
 have hrn:(row.length:Int)=r * (p - 1):=by rw [hrl,hm]
 have hlab:=Zim p r row p2 p3 r1 r2 (by omega) (by omega)
 have hpar:=Zil C p r row p2 p3 r1 r2 (by omega) (by omega) hx
 have hsl:=ZgT row.length r p r1 (by omega) hrn
 have hpl:=Zjz p r row hsl
 have hpa:=Zj0 p r row p3 r1 r2
 generalize parts p r row=ls at hlab hpar hpl hpa
 have sm2:=Zg2 true true true true ls (by omega) hpa (fun h=>by cases h) (fun h=>by cases h)
 have sm3:=Zg2 true true true false ls (by omega) hpa (fun h=>by cases h) (fun _=>rfl)
 have hdl:∀ o,((dL o ls).length:Int)=p:=fun o=>by rw [ZaD];exact hpl
 have zp:decide (V.int p=V.int p)=true:=decide_eq_true rfl
 have ck:∀ x0 x1 x2 x3 x4 x5 x6 x8 x9 x10 x11 x12:D,chkI C "parted" (.late 7) [x0,x1,x2,x3,x4,x5,x6,Ro C true p r,x8,x9,x10,x11,x12]=.ok ((),[x0,x1,x2,x3,x4,x5,x6,Ro C true p r,x8,x9,x10,x11,x12]):=fun x0 x1 x2 x3 x4 x5 x6 x8 x9 x10 x11 x12=>ZfD C _ 7 _ fs2 true _ rfl (by decide)
 have hlong:=Zg3 C p r _ _ (ZgR C p r (row++[0]) p2 p3 r1 r2 (by rw [length_append,length_singleton];omega) (by rw [length_append,length_singleton];omega) (fun x h=>by
  (rcases List.mem_append.mp h with h|h)
  . exact hx x h
  . rw [List.mem_singleton.mp h];omega))
 have e1:((row++[0]).length:Int)=r * (p - 1)+1:=by rw [length_append,length_singleton];omega
 rw [e1] at hlong
 have n1:∀ a:D,newL [a]=some (.node .lst true [a]):=fun a=>Z9 _ (by rw [szl];simp)
 have cat1:binW .Add (.nd .lst (dI row)) (.nd .lst [.sc (.int 0)])=some (Ls true (row++[0])):=by
  rw [Zbx _ _ (by rw [length_append,Zp,szl];show row.length+1<=_;omega),Ls,ZL]
  rfl
 have hcc:=emod_nonneg c2 (show (1000003:Int)≠0 by decide)
 have m3:binW .Mod (.sc (.int c2)) (.sc (.int 1000003))=some (.sc (.int (c2 % 1000003))):=ZB _ _ (by decide)
 generalize c2 % 1000003=cc at hcc m3
 have m1:binW .Mod (.sc (.int cc)) (.sc (.int (r * (p - 1)+1)))=some (.sc (.int (cc % (r * (p - 1)+1)))):=ZB _ _ (by omega)
 have hat0:=emod_nonneg cc (show r * (p - 1)+1≠0 by omega)
 have hat1:=emod_lt_of_pos cc (show 0 < r * (p - 1)+1 by omega)
 generalize cc % (r * (p - 1)+1)=at_ at m1 hat0 hat1
 obtain ⟨a,ea⟩:=Int.eq_ofNat_of_zero_le hat0
 subst ea
 have m9:binW .Mod (.sc (.int cc)) (.sc (.int 9))=some (.sc (.int (cc % 9))):=ZB _ _ (by decide)
 have d1:binW .FloorDiv (.sc (.int cc)) (.sc (.int 1000))=some (.sc (.int (cc / 1000))):=ZdC _ _ (by decide)
 have m8:binW .Mod (.sc (.int (cc / 1000))) (.sc (.int 8))=some (.sc (.int (cc / 1000 % 8))):=ZB _ _ (by decide)
 obtain ⟨od,od',ho,hv,hix⟩:=Zsd p cc (cc / 1000 % 8) hcc (by omega) (emod_nonneg _ (by decide)) (emod_lt_of_pos _ (by decide))
 have n8:∀ a b c d e f g h:D,newL [a,b,c,d,e,f,g,h]=some (.node .lst true [a,b,c,d,e,f,g,h]):=fun a b c d e f g h=>Z9 _ (by rw [szl];simp)
 have hal:a<=row.length:=by omega
 have hbad:=ZgS C p r a _ (ZmQ C p r row a od' hal (by omega) hx ho)
 have cu1:cutD (dI row) none (some (a:Int))=dI (row.take a):=by
  rw [ZaP]
  have e2:=HT.Zc8 row.length row.length a
  have e3:HT.sIx row.length 0 none=0:=rfl
  unfold cutI
  rw [e2,e3,Nat.min_eq_left hal]
  rfl
 have cu2:cutD (dI row) (some (a:Int)) none=dI (row.drop a):=by
  rw [ZaP]
  have e2:=HT.Zc8 row.length 0 a
  have e3:HT.sIx row.length row.length none=row.length:=rfl
  unfold cutI
  rw [e2,e3,Nat.min_eq_left hal]
  exact congrArg dI (List.take_of_length_le (by rw [length_drop];omega))
 have htl:(row.take a).length=a:=by rw [length_take];omega
 have hdl2:(row.drop a).length=row.length - a:=length_drop
 have ct1:binW .Add (.nd .lst (dI (row.take a))) (.nd .lst [od'])=some (.node .lst true (dI (row.take a)++[od'])):=Zbx _ _ (by rw [length_append,Zp,szl];show _+1<=_;omega)
 have ct2:binW .Add (.nd .lst (dI (row.take a)++[od'])) (.nd .lst (dI (row.drop a)))=some (.node .lst true (dI (row.take a)++[od']++dI (row.drop a))):=Zbx _ _ (by rw [length_append,length_append,Zp,Zp,szl];show _+1+_<=_;omega)
 have ct3:binW .Add (.nd .lst (dI (row.take a)++[od']++dI (row.drop a))) (.nd .lst [.sc .non])=some (.node .lst true (dI (row.take a)++[od']++dI (row.drop a)++[.sc .non])):=Zbx _ _ (by rw [length_append,length_append,length_append,Zp,Zp,szl];show _+1+_+1<=_;omega)
 generalize dI (row.take a)++[od']++dI (row.drop a)++[.sc .non]=X4 at ct3 hbad
 rw [<- hm] at hs
 simp only [Zbg,List.drop_succ_cons,drop_zero]
 simp only [scr] at hroll hc hc2 ⊢
 (simp_all [k1,k2,k3,k4,k5,k6,k7,hroll,nw,bm,hd,hc,hs,Zt,hcm,hlab,hpar,hdl,zp,ck,sm2,sm3,n1,cat1,hlong,hc2,m3,m1,m9,d1,m8,n8,hix,hv,cu1,cu2,ct1,ct2,ct3,hbad,ZaC])<;>exact ⟨_,rfl⟩
def ZkC(C:Addr)(ns:List Int)(_h:ns.length<=63):∃ ds',(ZeA C).run [scr ns]=.ok (.sc (.bl true),ds'):=by
 obtain ⟨a2,a3,a4,a5,a6,ha⟩:=st_a C ns
 obtain ⟨ds',hb⟩:=st_b C ns a2 a3 a4 a5 a6
 refine ⟨ds',runB (f:=ZeA C) (C:=CK C) (n:=1) (N:=13) (b:=Zbg C) rfl rfl ?_⟩
 show Zch 1 (exs (c1 C) ((Zbg C).take 3++(Zbg C).drop 3) [scr ns,.hole,.hole,.hole,.hole,.hole,.hole,.hole,.hole,.hole,.hole,.hole,.hole])=_
 rw [ZhA,ha]
 exact hb
end My
open PySem PySem.W PyProof.Rows
set_option maxHeartbeats 0 in
theorem PySem.Challenge.cw_barlabel_k53_rolls_refused_holds : PySem.Challenge.rw_barlabel_k53_rolls_refused.Holds := by
 w_on;o_law;k_head;(case hw=>w_witness2)
 k_fill
 refine T.Zkf (l:=PySem.Challenge.rw_barlabel_k53_rolls_refused) (k:=8) (x:="_law_script") (R:=fun K=>(My.ZeA (My.Ze6 K)).run) rfl rfl ⟨rfl,by decide,by decide,rfl⟩ (fun w h Y=>PySem.W.kIn_of Y) ?F (fun K ns hl=>My.ZkC (My.Ze6 K) ns hl)
 case F=>
  intro w mg fa h KX G hmg
  refine' My.Zpd KX G hmg ?_ ?_ ?_ ?_ ?_ ?_ ?_ ?_ ?_ ?_ ?_ ?_ ?_ ?_ ?_ ?_ ?_ ?_ ?_ ?_ ?_ ?_ ?_ ?_ ?_ ?_ ?_ ?_ ?_ ?_ ?_ ?_ ?_ ?_ ?_ ?_ ?_ ?_ ?_ ?_ ?_ ?_ ?_ ?_ ?_ ?_ ?_ ?_ ?_ ?_ ?_ ?_ ?_ ?_ ?_ ?_ ?_ ?_ ?_ ?_ ?_ ?_ ?_ ?_ ?_ ?_ ?_ ?_
  any_goals first|(refine' T.ZrM ?a ?b ?c ?d;(case a=>k_is);(case b=>k_is);(case c=>k_is);(case d=>k_is))|(refine' T.ZrN ?a ?b ?c ?d ?e;(case a=>k_is);(case b=>k_is);(case c=>k_is);(case d=>k_is);(case e=>k_is))|(refine' T.CI.mk ?a ?b ?c ?d ?e ?f ?g;(case a=>k_is);(case b=>k_is);(case c=>k_is);(case d=>k_is);(case e=>k_is);(case f=>k_is);(case g=>k_is))|(refine' T.ZrQ ?a ?b;(case a=>k_is);(case b=>k_is))|(refine' T.XA.mk ?a ?b ?c ?d ?e ?f ?g ?h ?i ?j ?k;(case a=>k_is);(case b=>k_is);(case c=>k_is);(case d=>k_is);(case e=>k_is);(case f=>k_is);(case g=>k_is);(case h=>k_is);(case i=>k_is);(case j=>k_is);(case k=>k_is))|(refine' T.ZrP ?a ?b ?c ?d ?e ?f ?g ?h;(case a=>k_is);(case b=>k_is);(case c=>k_is);(case d=>simp [L2.Zgk]);(case e=>k_is);(case f=>k_is);(case g=>k_is);(case h=>k_is))|(refine' T.ZrR ?a ?b ?c ?d ?e;(case a=>k_is);(case b=>k_is);(case c=>k_is);(case d=>k_is);(case e=>k_is))|(refine' T.ZrO ?a ?b ?c ?d ?e ?f ?g;(case a=>k_is);(case b=>k_is);(case c=>k_is);(case d=>k_is);(case e=>k_is);(case f=>k_is);(case g=>rfl))|(refine' L2.XI.mk ?a ?b ?c;(case a=>k_is);(case b=>k_is);(case c=>k_is))|(unfold T.NI;k_is)|k_is|rfl|exact Nat.le_of_ble_eq_true rfl
