import PyProof.Rows.All
import Wide.All
import OpenK.AllK
import Wide.FinOn
import Lean
import PyProof.EqAt
import PyProof.EqKinds
import PyProof.TupleCall
import PySem.Challenge.RW_barlabel_k01_tables_told
set_option Elab.async false
set_option compiler.extract_closed false
set_option linter.all false
set_option maxRecDepth 100000
set_option maxHeartbeats 4100000
noncomputable def PySem.W.Fast.tw6271071423823131808 : Unit := ()
noncomputable def PySem.W.Fast.tw15404416813713507520 : Unit := ()
noncomputable def PySem.W.Fast.tw9760442667784510752 : Unit := ()
noncomputable def PySem.W.Fast.tw14378101773486622144 : Unit := ()
noncomputable def PySem.W.Fast.tw7299830679113109056 : Unit := ()
noncomputable def PySem.W.Fast.tw8793878467529781856 : Unit := ()
noncomputable def PySem.W.Fast.tw3266137780984444544 : Unit := ()
noncomputable def PySem.W.Fast.tw11944035954927881281 : Unit := ()
noncomputable def PySem.W.Fast.tw882021113889864001 : Unit := ()
noncomputable def PySem.W.Fast.tw8281910384735740225 : Unit := ()
noncomputable def PySem.W.Fast.tw5469382208244573857 : Unit := ()
noncomputable def PySem.W.Fast.tw13096087859497782017 : Unit := ()
noncomputable def PySem.W.Fast.tw9147495018984618018 : Unit := ()
noncomputable def PySem.W.Fast.tw4165777718112183426 : Unit := ()
noncomputable def PySem.W.Fast.tw6517320700849788098 : Unit := ()
noncomputable def PySem.W.Fast.tw11082417698628811234 : Unit := ()
noncomputable def PySem.W.Fast.tw13368283929464026626 : Unit := ()
noncomputable def PySem.W.Fast.tw14820498052001022562 : Unit := ()
noncomputable def PySem.W.Fast.tw9831071649756448546 : Unit := ()
noncomputable def PySem.W.Fast.tw6939291518102540098 : Unit := ()
noncomputable def PySem.W.Fast.tw2477410383552348483 : Unit := ()
noncomputable def PySem.W.Fast.tw14951046857591777731 : Unit := ()
noncomputable def PySem.W.Fast.tw8235640185569125923 : Unit := ()
noncomputable def PySem.W.Fast.tw10143990697315274371 : Unit := ()
noncomputable def PySem.W.Fast.tw1237748935972594339 : Unit := ()
noncomputable def PySem.W.Fast.tw16789420353512731459 : Unit := ()
noncomputable def PySem.W.Fast.tw16907484191552189379 : Unit := ()
noncomputable def PySem.W.Fast.tw4176188724523658308 : Unit := ()
noncomputable def PySem.W.Fast.tw2226366553754262628 : Unit := ()
noncomputable def PySem.W.Fast.tw8277216094003163332 : Unit := ()
noncomputable def PySem.W.Fast.tw12307083469773284548 : Unit := ()
noncomputable def PySem.W.Fast.tw8676913621020782980 : Unit := ()
noncomputable def PySem.W.Fast.tw2223878294462069220 : Unit := ()
noncomputable def PySem.W.Fast.tw5985987680539345380 : Unit := ()
noncomputable def PySem.W.Fast.tw614478715117430532 : Unit := ()
noncomputable def PySem.W.Fast.tw3315727317955869668 : Unit := ()
noncomputable def PySem.W.Fast.tw9999099003161796580 : Unit := ()
noncomputable def PySem.W.Fast.tw6723165271394164805 : Unit := ()
noncomputable def PySem.W.Fast.tw2648832222581152901 : Unit := ()
noncomputable def PySem.W.Fast.tw13847856915717540069 : Unit := ()
noncomputable def PySem.W.Fast.tw12822204988884584677 : Unit := ()
noncomputable def PySem.W.Fast.tw12459973726984069445 : Unit := ()
noncomputable def PySem.W.Fast.tw6106553021610692453 : Unit := ()
noncomputable def PySem.W.Fast.tw2306146176832098310 : Unit := ()
noncomputable def PySem.W.Fast.tw17214892156781688902 : Unit := ()
noncomputable def PySem.W.Fast.tw5018399220700153958 : Unit := ()
noncomputable def PySem.W.Fast.tw18381506631665862982 : Unit := ()
noncomputable def PySem.W.Fast.tw5400946760451384678 : Unit := ()
noncomputable def PySem.W.Fast.tw16710330329477551494 : Unit := ()
noncomputable def PySem.W.Fast.tw13704883243311581638 : Unit := ()
noncomputable def PySem.W.Fast.tw16712317988682121670 : Unit := ()
noncomputable def PySem.W.Fast.tw1726482477955020326 : Unit := ()
noncomputable def PySem.W.Fast.tw16188211115015921222 : Unit := ()
noncomputable def PySem.W.Fast.tw11926289657525611174 : Unit := ()
noncomputable def PySem.W.Fast.tw13528978019723943878 : Unit := ()
noncomputable def PySem.W.Fast.tw9090735128735824359 : Unit := ()
noncomputable def PySem.W.Fast.tw10559922135702892007 : Unit := ()
noncomputable def PySem.W.Fast.tw17672509271574639303 : Unit := ()
noncomputable def PySem.W.Fast.tw15305317534884072199 : Unit := ()
noncomputable def PySem.W.Fast.tw3443452361677198151 : Unit := ()
noncomputable def PySem.W.Fast.tw12307978283538165768 : Unit := ()
noncomputable def PySem.W.Fast.tw14960014217004517608 : Unit := ()
noncomputable def PySem.W.Fast.tw4033824588346801480 : Unit := ()
noncomputable def PySem.W.Fast.tw837258169175275912 : Unit := ()
noncomputable def PySem.W.Fast.tw12565957255740898824 : Unit := ()
noncomputable def PySem.W.Fast.tw12019802810433651336 : Unit := ()
noncomputable def PySem.W.Fast.tw8356846604922244968 : Unit := ()
noncomputable def PySem.W.Fast.tw1456206312133133385 : Unit := ()
noncomputable def PySem.W.Fast.tw1929160380041007817 : Unit := ()
noncomputable def PySem.W.Fast.tw16984348141884294025 : Unit := ()
noncomputable def PySem.W.Fast.tw3086260374109848650 : Unit := ()
noncomputable def PySem.W.Fast.tw12943434458972187818 : Unit := ()
noncomputable def PySem.W.Fast.tw2146713070703735082 : Unit := ()
noncomputable def PySem.W.Fast.tw3453221075203248714 : Unit := ()
noncomputable def PySem.W.Fast.tw5350245126022990634 : Unit := ()
noncomputable def PySem.W.Fast.tw10018489171389238186 : Unit := ()
noncomputable def PySem.W.Fast.tw15621304749121939595 : Unit := ()
noncomputable def PySem.W.Fast.tw1291819782674423019 : Unit := ()
noncomputable def PySem.W.Fast.tw5389850264431173899 : Unit := ()
noncomputable def PySem.W.Fast.tw12620457430941483307 : Unit := ()
noncomputable def PySem.W.Fast.tw4482585428158811563 : Unit := ()
noncomputable def PySem.W.Fast.tw16387104069090257515 : Unit := ()
noncomputable def PySem.W.Fast.tw8338187627358163755 : Unit := ()
noncomputable def PySem.W.Fast.tw17745795079096896363 : Unit := ()
noncomputable def PySem.W.Fast.tw12128453392300269451 : Unit := ()
noncomputable def PySem.W.Fast.tw14646480659326934955 : Unit := ()
noncomputable def PySem.W.Fast.tw12013836962507879403 : Unit := ()
noncomputable def PySem.W.Fast.tw9558137588461747244 : Unit := ()
noncomputable def PySem.W.Fast.tw10570560665378065676 : Unit := ()
noncomputable def PySem.W.Fast.tw2557255271158364460 : Unit := ()
noncomputable def PySem.W.Fast.tw2116981290151993900 : Unit := ()
noncomputable def PySem.W.Fast.tw8013733051065650764 : Unit := ()
noncomputable def PySem.W.Fast.tw1592112170098636428 : Unit := ()
noncomputable def PySem.W.Fast.tw15353574943617249132 : Unit := ()
noncomputable def PySem.W.Fast.tw3710560748817117421 : Unit := ()
noncomputable def PySem.W.Fast.tw12630977645167809933 : Unit := ()
noncomputable def PySem.W.Fast.tw11757042950156488077 : Unit := ()
noncomputable def PySem.W.Fast.tw7124736409314285165 : Unit := ()
noncomputable def PySem.W.Fast.tw16105801501295761037 : Unit := ()
noncomputable def PySem.W.Fast.tw2283558163083281229 : Unit := ()
noncomputable def PySem.W.Fast.tw17025088996236992333 : Unit := ()
noncomputable def PySem.W.Fast.tw11970635414740925486 : Unit := ()
noncomputable def PySem.W.Fast.tw6583728202843278 : Unit := ()
noncomputable def PySem.W.Fast.tw3405556404439750990 : Unit := ()
noncomputable def PySem.W.Fast.tw16371535993025736174 : Unit := ()
noncomputable def PySem.W.Fast.tw2103160841173296303 : Unit := ()
noncomputable def PySem.W.Fast.tw338852578098876623 : Unit := ()
noncomputable def PySem.W.Fast.tw12435435862208258351 : Unit := ()
noncomputable def PySem.W.Fast.tw7670719210283954479 : Unit := ()
noncomputable def PySem.W.Fast.tw6256178229935627663 : Unit := ()
noncomputable def PySem.W.Fast.tw1537003996400435727 : Unit := ()
noncomputable def PySem.W.Fast.tw7722339735108748879 : Unit := ()
noncomputable def PySem.W.Fast.tw12502790022496979535 : Unit := ()
noncomputable def PySem.W.Fast.tw1602111802954909423 : Unit := ()
noncomputable def PySem.W.Fast.tw14060851587484354383 : Unit := ()
noncomputable def PySem.W.Fast.tw6514680060143800207 : Unit := ()
noncomputable def PySem.W.Fast.tw8844436529328167855 : Unit := ()
noncomputable def PySem.W.Fast.tw2252427109807902768 : Unit := ()
noncomputable def PySem.W.Fast.tw2991905319435434128 : Unit := ()
noncomputable def PySem.W.Fast.tw1917748491293865456 : Unit := ()
noncomputable def PySem.W.Fast.tw6617501952175373104 : Unit := ()
noncomputable def PySem.W.Fast.tw17201839295133300592 : Unit := ()
noncomputable def PySem.W.Fast.tw4757149234196214672 : Unit := ()
noncomputable def PySem.W.Fast.tw8252830641973135248 : Unit := ()
noncomputable def PySem.W.Fast.tw18300677818101444592 : Unit := ()
noncomputable def PySem.W.Fast.tw804439468164656209 : Unit := ()
noncomputable def PySem.W.Fast.tw1699453001558028433 : Unit := ()
noncomputable def PySem.W.Fast.tw14797679797507978481 : Unit := ()
noncomputable def PySem.W.Fast.tw17483679473190497521 : Unit := ()
noncomputable def PySem.W.Fast.tw9070978887797794193 : Unit := ()
noncomputable def PySem.W.Fast.tw5505876628243748273 : Unit := ()
noncomputable def PySem.W.Fast.tw7637229108473729457 : Unit := ()
noncomputable def PySem.W.Fast.tw15259782786338198097 : Unit := ()
noncomputable def PySem.W.Fast.tw60247877414899345 : Unit := ()
noncomputable def PySem.W.Fast.tw11268077259724722194 : Unit := ()
noncomputable def PySem.W.Fast.tw2491015852663073906 : Unit := ()
noncomputable def PySem.W.Fast.tw4967513291251125746 : Unit := ()
noncomputable def PySem.W.Fast.tw11261599736786588370 : Unit := ()
noncomputable def PySem.W.Fast.tw11074451446641692402 : Unit := ()
noncomputable def PySem.W.Fast.tw13056605296023401330 : Unit := ()
noncomputable def PySem.W.Fast.tw2772539202157375539 : Unit := ()
noncomputable def PySem.W.Fast.tw10637387783589247283 : Unit := ()
noncomputable def PySem.W.Fast.tw11984238464678931891 : Unit := ()
noncomputable def PySem.W.Fast.tw4977181561399943795 : Unit := ()
noncomputable def PySem.W.Fast.tw1480229427370914579 : Unit := ()
noncomputable def PySem.W.Fast.tw8014380681851587668 : Unit := ()
noncomputable def PySem.W.Fast.tw6099626588459559156 : Unit := ()
noncomputable def PySem.W.Fast.tw18065852589951131892 : Unit := ()
noncomputable def PySem.W.Fast.tw17863933908179522900 : Unit := ()
noncomputable def PySem.W.Fast.tw14411736246267558292 : Unit := ()
noncomputable def PySem.W.Fast.tw14840491977397373364 : Unit := ()
noncomputable def PySem.W.Fast.tw1164774536311727604 : Unit := ()
noncomputable def PySem.W.Fast.tw18220500730008330804 : Unit := ()
noncomputable def PySem.W.Fast.tw15707520091415403156 : Unit := ()
noncomputable def PySem.W.Fast.tw1178370183636561652 : Unit := ()
noncomputable def PySem.W.Fast.tw3321990352018675476 : Unit := ()
noncomputable def PySem.W.Fast.tw13251103494155147060 : Unit := ()
noncomputable def PySem.W.Fast.tw17974298547040508916 : Unit := ()
noncomputable def PySem.W.Fast.tw5810457140991297589 : Unit := ()
noncomputable def PySem.W.Fast.tw4915073534713057397 : Unit := ()
noncomputable def PySem.W.Fast.tw11911626629866663093 : Unit := ()
noncomputable def PySem.W.Fast.tw14093319005715675541 : Unit := ()
noncomputable def PySem.W.Fast.tw7772543999638271637 : Unit := ()
noncomputable def PySem.W.Fast.tw17244127284767780533 : Unit := ()
noncomputable def PySem.W.Fast.tw15464937367715225365 : Unit := ()
noncomputable def PySem.W.Fast.tw14578651076327176053 : Unit := ()
noncomputable def PySem.W.Fast.tw12963082699806632821 : Unit := ()
noncomputable def PySem.W.Fast.tw8513649206936171542 : Unit := ()
noncomputable def PySem.W.Fast.tw2185442317055816822 : Unit := ()
noncomputable def PySem.W.Fast.tw7880728798769901750 : Unit := ()
noncomputable def PySem.W.Fast.tw7239763264910362454 : Unit := ()
noncomputable def PySem.W.Fast.tw9966585686950748022 : Unit := ()
noncomputable def PySem.W.Fast.tw8663105926277519415 : Unit := ()
noncomputable def PySem.W.Fast.tw16655521938803333399 : Unit := ()
noncomputable def PySem.W.Fast.tw5051450181675244887 : Unit := ()
noncomputable def PySem.W.Fast.tw16051639670327900599 : Unit := ()
noncomputable def PySem.W.Fast.tw8504396505900982775 : Unit := ()
noncomputable def PySem.W.Fast.tw15694718277212361399 : Unit := ()
noncomputable def PySem.W.Fast.tw1775537665238354775 : Unit := ()
noncomputable def PySem.W.Fast.tw6182806856498256855 : Unit := ()
noncomputable def PySem.W.Fast.tw4129176830689879064 : Unit := ()
noncomputable def PySem.W.Fast.tw11343788610165276888 : Unit := ()
noncomputable def PySem.W.Fast.tw13036148337699820088 : Unit := ()
noncomputable def PySem.W.Fast.tw5447495224716541496 : Unit := ()
noncomputable def PySem.W.Fast.tw6471549473909518968 : Unit := ()
noncomputable def PySem.W.Fast.tw1237319541209685944 : Unit := ()
noncomputable def PySem.W.Fast.tw18400645872447941592 : Unit := ()
noncomputable def PySem.W.Fast.tw13791102294470097912 : Unit := ()
noncomputable def PySem.W.Fast.tw15245737760509436920 : Unit := ()
noncomputable def PySem.W.Fast.tw14739362059590383193 : Unit := ()
noncomputable def PySem.W.Fast.tw10958673653777278617 : Unit := ()
noncomputable def PySem.W.Fast.tw9613519353818511001 : Unit := ()
noncomputable def PySem.W.Fast.tw11591258586231959257 : Unit := ()
noncomputable def PySem.W.Fast.tw10366874074881198905 : Unit := ()
noncomputable def PySem.W.Fast.tw6037874259504627770 : Unit := ()
noncomputable def PySem.W.Fast.tw17717408342198107226 : Unit := ()
noncomputable def PySem.W.Fast.tw5097725576635563386 : Unit := ()
noncomputable def PySem.W.Fast.tw2050901274304698746 : Unit := ()
noncomputable def PySem.W.Fast.tw7221271121192720826 : Unit := ()
noncomputable def PySem.W.Fast.tw14968755352162951834 : Unit := ()
noncomputable def PySem.W.Fast.tw4292115894295452410 : Unit := ()
noncomputable def PySem.W.Fast.tw10385272037029499770 : Unit := ()
noncomputable def PySem.W.Fast.tw3666529875785633915 : Unit := ()
noncomputable def PySem.W.Fast.tw14251227054044991707 : Unit := ()
noncomputable def PySem.W.Fast.tw17889411214009333307 : Unit := ()
noncomputable def PySem.W.Fast.tw5974165634340000411 : Unit := ()
noncomputable def PySem.W.Fast.tw7964043872461382459 : Unit := ()
noncomputable def PySem.W.Fast.tw4462998903642827643 : Unit := ()
noncomputable def PySem.W.Fast.tw8665940523548796795 : Unit := ()
noncomputable def PySem.W.Fast.tw4131604997694072924 : Unit := ()
noncomputable def PySem.W.Fast.tw12068201544066268412 : Unit := ()
noncomputable def PySem.W.Fast.tw12805095062974812540 : Unit := ()
noncomputable def PySem.W.Fast.tw10034287082768184924 : Unit := ()
noncomputable def PySem.W.Fast.tw14275175218186929820 : Unit := ()
noncomputable def PySem.W.Fast.tw9529430014333740764 : Unit := ()
noncomputable def PySem.W.Fast.tw14070773563419963196 : Unit := ()
noncomputable def PySem.W.Fast.tw12595983626290163708 : Unit := ()
noncomputable def PySem.W.Fast.tw4548326520691417213 : Unit := ()
noncomputable def PySem.W.Fast.tw2830015109274467485 : Unit := ()
noncomputable def PySem.W.Fast.tw16762990417706330301 : Unit := ()
noncomputable def PySem.W.Fast.tw4117114040572651805 : Unit := ()
noncomputable def PySem.W.Fast.tw5269663459439351069 : Unit := ()
noncomputable def PySem.W.Fast.tw865219257739354429 : Unit := ()
noncomputable def PySem.W.Fast.tw6036350341569963421 : Unit := ()
noncomputable def PySem.W.Fast.tw17615669681208199613 : Unit := ()
noncomputable def PySem.W.Fast.tw8454509613914137021 : Unit := ()
noncomputable def PySem.W.Fast.tw14905253039334264253 : Unit := ()
noncomputable def PySem.W.Fast.tw930806092975616637 : Unit := ()
noncomputable def PySem.W.Fast.tw1954340289422188189 : Unit := ()
noncomputable def PySem.W.Fast.tw12139525482621504253 : Unit := ()
noncomputable def PySem.W.Fast.tw9910049693723716349 : Unit := ()
noncomputable def PySem.W.Fast.tw3371028652121617245 : Unit := ()
noncomputable def PySem.W.Fast.tw10448931042073790397 : Unit := ()
noncomputable def PySem.W.Fast.tw3413599364071157790 : Unit := ()
noncomputable def PySem.W.Fast.tw7627316608822463582 : Unit := ()
noncomputable def PySem.W.Fast.tw8487424278193948830 : Unit := ()
noncomputable def PySem.W.Fast.tw1430496322990905502 : Unit := ()
noncomputable def PySem.W.Fast.tw8998604881537259838 : Unit := ()
noncomputable def PySem.W.Fast.tw1278624136187660734 : Unit := ()
noncomputable def PySem.W.Fast.tw5792207363863720414 : Unit := ()
noncomputable def PySem.W.Fast.tw9915697267699604350 : Unit := ()
noncomputable def PySem.W.Fast.tw5483444416934103966 : Unit := ()
noncomputable def PySem.W.Fast.tw17826241701973661662 : Unit := ()
noncomputable def PySem.W.Fast.tw15021476048491939838 : Unit := ()
noncomputable def PySem.W.Fast.tw7703527202063837311 : Unit := ()
noncomputable def PySem.W.Fast.tw193430622936425759 : Unit := ()
noncomputable def PySem.W.Fast.tw3519221510290838847 : Unit := ()
noncomputable def PySem.W.Fast.tw1680662757850006975 : Unit := ()
noncomputable def PySem.W.Fast.tw12213178290965407263 : Unit := ()
noncomputable def PySem.W.Fast.tw17340894345456610975 : Unit := ()
noncomputable def PySem.W.Fast.tw6382289933625773887 : Unit := ()
noncomputable def PySem.W.Fast.tw9597439060918712111 : Unit := ()
noncomputable def PySem.W.Fast.tw11472694510484632688 : Unit := ()
namespace L2
open PySem PySem.Spec PyProof.Rows
noncomputable abbrev Key := Sum Int Str
noncomputable def keyIs : Key → Value → Bool
  | .inl k, v => Value.isInt k v
  | .inr x, v => Value.isStrOf x v
noncomputable def keyH (w : World) : Key → Int
  | .inl k => hashInt k
  | .inr x => hashStr w x
theorem keyIs_shape : ∀ {k : Key} {v : Value}, keyIs k v = true → (∃ i t, k = Sum.inl i ∧ v = Value.int i t) ∨ (∃ x t, k = Sum.inr x ∧ v = Value.str x t)
  | .inl i, v, h => by
    obtain ⟨t, e⟩ := Value.isInt_shape (k := i) (v := v) h
    exact .inl ⟨i, t, rfl, e⟩
  | .inr x, v, h => by
    obtain ⟨t, e⟩ := Value.isStrOf_shape (x := x) (v := v) h
    exact .inr ⟨x, t, rfl, e⟩
theorem keyIs_int (i : Int) (t : Tok) : keyIs (.inl i) (.int i t) = true := by simp [keyIs, Value.isInt]
theorem keyIs_str (x : Str) (t : Tok) : keyIs (.inr x) (.str x t) = true := by simp [keyIs, Value.isStrOf]
theorem key_ll (a b : Int) : decide ((Sum.inl a : Key) = Sum.inl b) = (a == b) := by
  by_cases e : a = b
  · subst e; simp
  · have h : ¬ (Sum.inl a : Key) = Sum.inl b := fun q => e (Sum.inl.inj q)
    rw [decide_eq_false h]
    exact (beq_eq_false_iff_ne.mpr e).symm
theorem key_rr (a b : Str) : decide ((Sum.inr a : Key) = Sum.inr b) = decide (a = b) := by
  by_cases e : a = b
  · subst e; simp
  · have h : ¬ (Sum.inr a : Key) = Sum.inr b := fun q => e (Sum.inr.inj q)
    rw [decide_eq_false h, decide_eq_false e]
theorem key_lr (a : Int) (b : Str) : decide ((Sum.inl a : Key) = Sum.inr b) = false := decide_eq_false (fun q => nomatch q)
theorem key_rl (a : Str) (b : Int) : decide ((Sum.inr a : Key) = Sum.inl b) = false := decide_eq_false (fun q => nomatch q)
noncomputable def mixKind (prog : Program) (w : World) : PySem.KeyKind prog w Key where
  is := keyIs
  hash := keyH w
  inj := fun v a b ha hb => by
    rcases keyIs_shape ha with ⟨i, t, rfl, rfl⟩ | ⟨x, t, rfl, rfl⟩
    · rcases keyIs_shape hb with ⟨j, u, rfl, e⟩ | ⟨y, u, rfl, e⟩
      · injection e with e1 _; rw [e1]
      · exact nomatch e
    · rcases keyIs_shape hb with ⟨j, u, rfl, e⟩ | ⟨y, u, rfl, e⟩
      · exact nomatch e
      · injection e with e1 _; rw [e1]
  byValue := fun k v h => by
    rcases keyIs_shape h with ⟨i, t, rfl, rfl⟩ | ⟨x, t, rfl, rfl⟩ <;> rfl
  pyHash := fun hv h => by
    rcases keyIs_shape hv with ⟨i, t, rfl, rfl⟩ | ⟨x, t, rfl, rfl⟩
    · exact wpAny_pyHash_int h
    · exact wpAny_pyHash_str h
  eqBool := fun hu hv h => by
    rcases keyIs_shape hu with ⟨i, t, rfl, rfl⟩ | ⟨x, t, rfl, rfl⟩
    · rcases keyIs_shape hv with ⟨j, u, rfl, rfl⟩ | ⟨y, u, rfl, rfl⟩
      · rw [key_ll] at h; exact wpAny_eqBool_int h
      · rw [key_lr] at h; exact SeqAt.EqAt.int_str i t y u _ _ _ _ h
    · rcases keyIs_shape hv with ⟨j, u, rfl, rfl⟩ | ⟨y, u, rfl, rfl⟩
      · rw [key_rl] at h; exact SeqAt.EqAt.str_int x t j u _ _ _ _ h
      · rw [key_rr] at h; exact wpAny_eqBool_str h
  «strs» := fun k x t v h => by
    rcases keyIs_shape h with ⟨i, u, rfl, e⟩ | ⟨y, u, rfl, e⟩
    · exact nomatch e
    · injection e with e1 _
      subst e1
      cases v <;> rfl
theorem mixKind_int (prog : Program) (w : World) (i : Int) (t : Tok) : (mixKind prog w).is (.inl i) (.int i t) = true := keyIs_int i t
theorem mixKind_str (prog : Program) (w : World) (x : Str) (t : Tok) : (mixKind prog w).is (.inr x) (.str x t) = true := keyIs_str x t
end L2
namespace L2
open PySem PySem.Spec PyProof.Rows
inductive V where
  | non | bl (b : Bool) | int (i : Int) | str (x : Str) | byt (b : Array UInt8) | flt (b : UInt64) | ref (a : Addr) | ty (n : String)
  deriving DecidableEq
noncomputable def RelV : V → Value → Prop
  | .non, u => u = Value.none
  | .bl b, u => u = Value.bool b
  | .int i, u => ∃ t, u = Value.int i t
  | .str x, u => ∃ t, u = Value.str x t
  | .byt b, u => ∃ t, u = Value.bytes b t
  | .flt b, u => ∃ t, u = Value.float b t
  | .ref a, u => u = Value.ref a
  | .ty n, u => u = Value.type n
noncomputable abbrev Vals : List V → List Value → Prop := Paired RelV
theorem Vals.length {xs : List V} {us : List Value} (r : Vals xs us) : xs.length = us.length := Paired.length r
theorem Vals.get : ∀ {xs : List V} {us : List Value} {i : Nat} {x : V}, Vals xs us → xs[i]? = some x → ∃ u, us[i]? = some u ∧ RelV x u
  | _, _, _, _, .nil, e => by simp at e
  | _, _, 0, _, .cons r _, e => by simp at e; subst e; exact ⟨_, rfl, r⟩
  | _, _, i + 1, x, .cons _ t, e => by
    obtain ⟨u, h1, h2⟩ := Vals.get (i := i) (x := x) t (by simpa using e)
    exact ⟨u, by simpa using h1, h2⟩
theorem Vals.set {x : V} {u : Value} (r : RelV x u) : ∀ {xs : List V} {us : List Value} (i : Nat), Vals xs us → Vals (xs.set i x) (us.set i u)
  | _, _, _, .nil => .nil
  | _, _, 0, .cons _ t => .cons r t
  | _, _, i + 1, .cons q t => .cons q (Vals.set r i t)
theorem Vals.append : ∀ {xs ys : List V} {us ws : List Value}, Vals xs us → Vals ys ws → Vals (xs ++ ys) (us ++ ws)
  | _, _, _, _, .nil, s => s
  | _, _, _, _, .cons r t, s => .cons r (Vals.append t s)
theorem Vals.take : ∀ {xs : List V} {us : List Value} (n : Nat), Vals xs us → Vals (xs.take n) (us.take n)
  | _, _, 0, _ => .nil
  | _, _, _ + 1, .nil => .nil
  | _, _, n + 1, .cons r t => .cons r (Vals.take n t)
theorem Vals.drop : ∀ {xs : List V} {us : List Value} (n : Nat), Vals xs us → Vals (xs.drop n) (us.drop n)
  | _, _, 0, r => r
  | _, _, _ + 1, .nil => .nil
  | _, _, n + 1, .cons _ t => Vals.drop n t
theorem Vals.none_of : ∀ {xs : List V} {us : List Value} {i : Nat}, Vals xs us → xs[i]? = none → us[i]? = none := fun {xs us i} r e => by
  have h1 := r.length
  have h2 : xs.length ≤ i := List.getElem?_eq_none_iff.mp e
  exact List.getElem?_eq_none_iff.mpr (by omega)
noncomputable def RelO : Option V → Option Value → Prop
  | some v, some u => RelV v u
  | none, none => True
  | _, _ => False
noncomputable def KV {κ : Type} : List (κ × V) → List (κ × Value) → Prop := Paired fun (p : κ × V) (q : κ × Value) => p.1 = q.1 ∧ RelV p.2 q.2
noncomputable def kV : Key → V
  | .inl i => .int i
  | .inr x => .str x
inductive HO where
  | lst (xs : List V)
  | tup (xs : List V)
  | dK (kvs : List (Key × V)) | dT (kvs : List (List Key × V))
  | set (S : Int → Bool) (n : Nat)
  | ins (C dx : Addr) (fs : List (Str × V))
  | own (x : Addr)
  | xd (fs : List (Str × V))
  | met (f x : Addr)
  | rng (lo hi : Int)
  | frz (o : Obj) (u : HO)
  | tbl (ps : Array Value)
  | ext (φ : Heap → Prop)
noncomputable abbrev Hp := Addr → Option HO
noncomputable def upd (H : Hp) (a : Addr) (o : HO) : Hp := fun b => if b = a then some o else H b
theorem upd_same {H : Hp} {a : Addr} {o : HO} : upd H a o a = some o := by unfold upd; rw [if_pos rfl]
theorem upd_ne {H : Hp} {a b : Addr} {o : HO} (h : b ≠ a) : upd H a o b = H b := by unfold upd; rw [if_neg h]
theorem ne_of {H : Hp} {a b : Addr} {o u : HO} (h : H a = some o) (h' : H b = some u) (d : o ≠ u) : a ≠ b := by
  intro e; subst e; rw [h] at h'; exact d (Option.some.inj h')
theorem ne_of_none {H : Hp} {a b : Addr} {o : HO} (h : H a = some o) (h' : H b = none) : a ≠ b := by
  intro e; subst e; rw [h] at h'; cases h'
section
variable (P : Program) (w : World)
noncomputable def ObjOk (H : Hp) (h : Heap) (a : Addr) : HO → Prop
  | .lst xs => xs.length ≤ sizeLine ∧ ∃ (its : List Value) (n : Nat), Vals xs its ∧ h.get? a = some { cls := .type "list", data := .seq its.toArray n }
  | .tup xs => xs.length ≤ sizeLine ∧ ∃ its : List Value, Vals xs its ∧ IsTup h a its.toArray
  | .dK kvs => kvs.length ≤ sizeLine ∧ (a == sysModules) = false ∧ ∃ vs, KV kvs vs ∧ h.DictOf (mixKind P w) a vs
  | .dT kvs => kvs.length ≤ sizeLine ∧ (a == sysModules) = false ∧ ∃ xs : List (List Key × Addr × Value),
      Paired (fun (p : List Key × V) (q : List Key × Addr × Value) => p.1 = q.1 ∧ H q.2.1 = some (.tup (p.1.map kV)) ∧ RelV p.2 q.2.2) kvs xs ∧
      ∃ o es ep, h.get? a = some o ∧ o.ExactDict ∧ o.data = .dict es ep ∧ es.toList = xs.map (entryOfKey (tupleKind (mixKind P w))) ∧ (xs.map (·.1)).Nodup
  | .set S n => h.SetOf (intKind P w) a S n
  | .ins C dx fs => H dx = some (.own a) ∧ fs.length ≤ 1000 ∧ dx ≠ a ∧ h.get? a = some (PySem.W.instObj C dx) ∧
      ∃ mA, h.Ns1 dx mA ∧ (∀ f, RelO (fs.lookup f) (mA f)) ∧ PySem.Within mA (fs.map (·.1))
  | .own _ => ∃ o, h.get? a = some o
  | .xd fs => ∃ mA, h.Ns1 a mA ∧ ∀ f, RelO (fs.lookup f) (mA f)
  | .rng lo hi => ∃ t u v, h.get? a = some { cls := .type "range", data := .fields #[.int lo t, .int hi u, .int 1 v] }
  | .frz o u => h.get? a = some o ∧ ObjOk H h a u
  | .tbl ps => h.get? a = some { cls := .none, data := .fields ps }
  | .met f x => h.get? a = some (PySem.W.methodObj (.ref f) (.ref x))
  | .ext φ => φ h ∧ (∃ o, h.get? a = some o) ∧ ∀ h1 h2 : Heap, φ h1 → (∀ o, h1.get? a = some o → h2.get? a = some o) → φ h2
noncomputable def HOk (H : Hp) (h : Heap) : Prop := ∀ a o, H a = some o → ObjOk P w H h a o
end
section
variable {P : Program} {w : World} {H H' : Hp} {h h' : Heap} {a : Addr} {o : HO}
theorem ObjOk.lt (x : ObjOk P w H h a o) : a < h.objs.size := by
  cases o with
  | lst xs => obtain ⟨_, _, _, _, e⟩ := x; exact Heap.lt_size e
  | tup xs => obtain ⟨_, _, _, p⟩ := x; exact p.lt
  | dK kvs => obtain ⟨_, _, _, _, o, _, _, e, _⟩ := x; exact Heap.lt_size e
  | dT kvs => obtain ⟨_, _, _, _, o, _, _, e, _⟩ := x; exact Heap.lt_size e
  | set S n => obtain ⟨o, _, _, _, e, _⟩ := x; exact Heap.lt_size e
  | ins C dx fs => obtain ⟨_, _, _, e, _⟩ := x; exact Heap.lt_size e
  | own y => obtain ⟨_, e⟩ := x; exact Heap.lt_size e
  | xd fs => obtain ⟨_, ⟨_, _, _, e, _⟩, _⟩ := x; exact Heap.lt_size e
  | rng lo hi => obtain ⟨_, _, _, e⟩ := x; exact Heap.lt_size e
  | frz ob u => obtain ⟨e, _⟩ := x; exact Heap.lt_size e
  | tbl ps => exact Heap.lt_size (show h.get? a = some _ from x)
  | met f y => exact Heap.lt_size (show h.get? a = some _ from x)
  | ext φ => obtain ⟨_, ⟨_, e⟩, _⟩ := x; exact Heap.lt_size e
theorem Paired.mapP {α β : Type} {F G : α → β → Prop} : ∀ {l₁ : List α} {l₂ : List β}, Paired F l₁ l₂ → (∀ a b, F a b → G a b) → Paired G l₁ l₂
  | _, _, .nil, _ => .nil
  | _, _, .cons r t, f => .cons (f _ _ r) (Paired.mapP t f)
theorem ObjOk.stay (x : ObjOk P w H h a o) (k : ∀ b u, (b = a ∨ H b = some (.own a)) → h.get? b = some u → h'.get? b = some u)
    (ho : ∀ b, H b = some (.own a) → H' b = some (.own a)) (ht : ∀ b xs, H b = some (.tup xs) → H' b = some (.tup xs)) : ObjOk P w H' h' a o := by
  induction o with
  | lst xs => obtain ⟨z, its, n, r, e⟩ := x; exact ⟨z, its, n, r, k _ _ (.inl rfl) e⟩
  | tup xs => obtain ⟨z, its, r, ob, e, c⟩ := x; exact ⟨z, its, r, ob, k _ _ (.inl rfl) e, c⟩
  | dK kvs => obtain ⟨z, y, vs, r, ob, es, ep, e, c⟩ := x; exact ⟨z, y, vs, r, ob, es, ep, k _ _ (.inl rfl) e, c⟩
  | dT kvs =>
    obtain ⟨z, y, xs, r, ob, es, ep, e, c⟩ := x
    exact ⟨z, y, xs, Paired.mapP r fun p q z => ⟨z.1, ht _ _ z.2.1, z.2.2⟩, ob, es, ep, k _ _ (.inl rfl) e, c⟩
  | set S n => obtain ⟨ob, es, ep, t, e, c⟩ := x; exact ⟨ob, es, ep, t, k _ _ (.inl rfl) e, c⟩
  | ins C dx fs =>
    obtain ⟨d, z, ne, e, mA, ⟨od, es, ep, e2, c⟩, r⟩ := x
    exact ⟨ho _ d, z, ne, k _ _ (.inl rfl) e, mA, ⟨od, es, ep, k _ _ (.inr d) e2, c⟩, r⟩
  | own y => obtain ⟨ob, e⟩ := x; exact ⟨ob, k _ _ (.inl rfl) e⟩
  | xd fs => obtain ⟨mA, ⟨od, es, ep, e, c⟩, r⟩ := x; exact ⟨mA, ⟨od, es, ep, k _ _ (.inl rfl) e, c⟩, r⟩
  | rng lo hi => obtain ⟨t, u, v, e⟩ := x; exact ⟨t, u, v, k _ _ (.inl rfl) e⟩
  | frz ob u ih => obtain ⟨e, q⟩ := x; exact ⟨k _ _ (.inl rfl) e, ih q⟩
  | tbl ps =>
    have e : h.get? a = some { cls := .none, data := .fields ps } := x
    show h'.get? a = some { cls := .none, data := .fields ps }
    exact k a _ (.inl rfl) e
  | met f y =>
    have e : h.get? a = some (PySem.W.methodObj (.ref f) (.ref y)) := x
    show h'.get? a = some (PySem.W.methodObj (.ref f) (.ref y))
    exact k a _ (.inl rfl) e
  | ext φ => obtain ⟨p, ⟨o, e⟩, st⟩ := x; exact ⟨st _ _ p fun o q => k _ _ (.inl rfl) q, ⟨o, k _ _ (.inl rfl) e⟩, st⟩
theorem HOk.lt (x : HOk P w H h) (e : H a = some o) : a < h.objs.size := (x a o e).lt
theorem HOk.fresh (x : HOk P w H h) (e : h.objs.size ≤ a) : H a = none := by
  cases q : H a with
  | none => rfl
  | some u => exact absurd (Nat.lt_of_lt_of_le (x.lt q) e) (Nat.lt_irrefl _)
theorem HOk.kept (x : HOk P w H h) (k : ∀ b u, h.get? b = some u → h'.get? b = some u) : HOk P w H h' := fun a o e =>
  (x a o e).stay (fun b u _ q => k b u q) (fun _ q => q) fun _ _ q => q
theorem HOk.laid (x : HOk P w H h) (k : ∀ b u, h.get? b = some u → h'.get? b = some u) (hp : h.objs.size ≤ a) (new : ObjOk P w (upd H a o) h' a o) : HOk P w (upd H a o) h' := fun b u e => by
  have hn := x.fresh hp
  by_cases hb : b = a
  · subst hb; rw [upd_same] at e; cases e; exact new
  · rw [upd_ne hb] at e
    exact (x b u e).stay (fun c v _ q => k c v q) (fun c q => by rw [upd_ne (ne_of_none q hn)]; exact q) fun c xs q => by rw [upd_ne (ne_of_none q hn)]; exact q
end
noncomputable def Rd (H : Hp) (a : Addr) (u : HO) : Prop := H a = some u ∨ ∃ o, H a = some (.frz o u)
theorem Rd.of {H : Hp} {a : Addr} {u : HO} (h : H a = some u) : Rd H a u := .inl h
theorem Rd.ok {P : Program} {w : World} {H : Hp} {h : Heap} {a : Addr} {u : HO} (r : Rd H a u) (x : HOk P w H h) : ObjOk P w H h a u := by
  rcases r with r | ⟨o, r⟩
  · exact x a u r
  · obtain ⟨_, q⟩ := x a _ r
    exact q
noncomputable def Mut : Option HO → Prop
  | some (.lst _) => True
  | some (.dK _) => True
  | some (.dT _) => True
  | some (.set _ _) => True
  | some (.ins _ _ _) => True
  | some (.ext _) => True
  | _ => False
section
variable {P : Program} {w : World} {H : Hp} {h h' : Heap} {x e : Addr} {o' : HO}
theorem HOk.write (ok : HOk P w H h) (mu : Mut (H x)) (he : e = x ∨ H e = some (.own x)) (k : ∀ b u, b ≠ e → h.get? b = some u → h'.get? b = some u) (heo : ∃ u, h'.get? e = some u)
    (new : ObjOk P w (upd H x o') h' x o') : HOk P w (upd H x o') h' := fun b u q => by
  have nown : ∀ c y, H c = some (.own y) → c ≠ x := fun c y r z => by subst z; rw [r] at mu; exact mu
  have ntup : ∀ c xs, H c = some (.tup xs) → c ≠ x := fun c xs r z => by subst z; rw [r] at mu; exact mu
  by_cases hb : b = x
  · subst hb; rw [upd_same] at q; cases q; exact new
  · rw [upd_ne hb] at q
    by_cases hbe : b = e
    · have q' : H b = some (.own x) := by
        rcases he with z | z
        · exact absurd (hbe.trans z) hb
        · rw [hbe]; exact z
      rw [q] at q'; cases q'
      obtain ⟨v, hv⟩ := heo
      exact ⟨v, by rw [hbe]; exact hv⟩
    · refine (ok b u q).stay (fun c v hc r => k c v ?_ r) (fun c r => by rw [upd_ne (nown c b r)]; exact r) fun c xs r => by rw [upd_ne (ntup c xs r)]; exact r
      rcases hc with rfl | hc
      · exact hbe
      · rintro rfl
        rcases he with z | z
        · exact nown c b hc z
        · rw [hc] at z; cases z; exact hb rfl
end
structure Un (fs ex : List Addr) (H H' : Hp) (h h' : Heap) : Prop where
  keep : ∀ b o, h.get? b = some o → H b = none → b ∉ fs → b ∉ ex → h'.get? b = some o
  slot : ∀ b o, h.get? b = some o → H b = none → b ∈ fs → b ∉ ex → ∃ sl, h'.get? b = some { o with slots := sl }
  free : ∀ b o, h.get? b = some o → H b = none → b ∉ ex → H' b = none
  there : ∀ b o, h.get? b = some o → b ∉ ex → ∃ o', h'.get? b = some o'
  tups : ∀ b xs, H b = some (.tup xs) → H' b = some (.tup xs)
  frzs : ∀ b o u, H b = some (.frz o u) → H' b = some (.frz o u)
  tbls : ∀ b ps, H b = some (.tbl ps) → ∃ more, H' b = some (.tbl (ps ++ more))
section
variable {fs fs' ex ex' : List Addr} {H H1 H2 : Hp} {h h1 h2 h' : Heap} {a x e : Addr} {o : HO}
theorem Un.any (u : Un fs ex H H1 h h1) {b : Addr} {ob : Obj} (q : h.get? b = some ob) (n : H b = none) (hx : b ∉ ex) : ∃ sl, h1.get? b = some { ob with slots := sl } := by
  by_cases hb : b ∈ fs
  · exact u.slot b ob q n hb hx
  · exact ⟨ob.slots, u.keep b ob q n hb hx⟩
theorem Un.trans (a : Un fs ex H H1 h h1) (b : Un fs ex H1 H2 h1 h2) : Un fs ex H H2 h h2 where
  keep := fun c ob q n hc hx => b.keep c ob (a.keep c ob q n hc hx) (a.free c ob q n hx) hc hx
  slot := fun c ob q n hc hx => by
    obtain ⟨sl, e1⟩ := a.slot c ob q n hc hx
    obtain ⟨sl', e2⟩ := b.slot c _ e1 (a.free c ob q n hx) hc hx
    exact ⟨sl', e2⟩
  free := fun c ob q n hx => by
    obtain ⟨o', e1⟩ := a.there c ob q hx
    exact b.free c o' e1 (a.free c ob q n hx) hx
  there := fun c ob q hx => by
    obtain ⟨o', e1⟩ := a.there c ob q hx
    exact b.there c o' e1 hx
  tups := fun c xs q => b.tups c xs (a.tups c xs q)
  frzs := fun c ob xs q => b.frzs c ob xs (a.frzs c ob xs q)
  tbls := fun c ps q => by
    obtain ⟨m1, e1⟩ := a.tbls c ps q
    obtain ⟨m2, e2⟩ := b.tbls c _ e1
    exact ⟨m1 ++ m2, by rw [e2, Array.append_assoc]⟩
theorem Un.kept (k : ∀ b u, h.get? b = some u → h'.get? b = some u) : Un fs ex H H h h' :=
  ⟨fun b ob q _ _ _ => k b ob q, fun b ob q _ _ _ => ⟨ob.slots, k b ob q⟩, fun _ _ _ n _ => n, fun b ob q _ => ⟨ob, k b ob q⟩, fun _ _ q => q, fun _ _ _ q => q, fun _ ps q => ⟨#[], by rw [q]; simp⟩⟩
theorem Un.refl : Un fs ex H H h h := Un.kept fun _ _ q => q
theorem Un.laid (k : ∀ b u, h.get? b = some u → h'.get? b = some u) (hp : h.objs.size ≤ a) (hn : H a = none) : Un fs ex H (upd H a o) h h' where
  keep := fun b u q _ _ _ => k b u q
  slot := fun b u q _ _ _ => ⟨u.slots, k b u q⟩
  free := fun b u q n _ => by rw [upd_ne (Nat.ne_of_lt (Nat.lt_of_lt_of_le (Heap.lt_size q) hp))]; exact n
  there := fun b u q _ => ⟨u, k b u q⟩
  tups := fun b xs q => by rw [upd_ne (ne_of_none q hn)]; exact q
  frzs := fun b u xs q => by rw [upd_ne (ne_of_none q hn)]; exact q
  tbls := fun b ps q => ⟨#[], by rw [upd_ne (ne_of_none q hn), q]; simp⟩
theorem Un.write (mu : Mut (H x)) (he : e = x ∨ H e = some (.own x)) (k : ∀ b u, b ≠ e → h.get? b = some u → h'.get? b = some u) (heo : ∃ u, h'.get? e = some u) : Un fs ex H (upd H x o) h h' := by
  have hx : ∀ b, H b = none → b ≠ x := fun b n z => by subst z; rw [n] at mu; exact mu
  have hb : ∀ b, H b = none → b ≠ e := fun b n z => by
    subst z
    rcases he with r | r
    · exact hx b n r
    · rw [n] at r; cases r
  have hm : ∀ b u, H b = some u → ¬ Mut (some u) → b ≠ x := fun b u q nm z => by subst z; rw [q] at mu; exact nm mu
  refine ⟨fun b u q n _ _ => k b u (hb b n) q, fun b u q n _ _ => ⟨u.slots, k b u (hb b n) q⟩, fun b u q n _ => by rw [upd_ne (hx b n)]; exact n, fun b u q _ => ?_,
    fun b xs q => by rw [upd_ne (hm b _ q fun z => z)]; exact q, fun b u xs q => by rw [upd_ne (hm b _ q fun z => z)]; exact q, fun b ps q => ⟨#[], by rw [upd_ne (hm b _ q fun z => z), q]; simp⟩⟩
  by_cases hbe : b = e
  · subst hbe; exact heo
  · exact ⟨u, k b u hbe q⟩
theorem Un.mono (u : Un fs ex H H1 h h1) (hs : ∀ b ∈ fs, b ∈ fs') (hx : ∀ b ∈ ex, b ∈ ex') : Un fs' ex' H H1 h h1 :=
  ⟨fun b ob q n hb he => u.keep b ob q n (fun z => hb (hs b z)) fun z => he (hx b z), fun _ _ q n _ he => u.any q n fun z => he (hx _ z), fun b ob q n he => u.free b ob q n fun z => he (hx b z), fun b ob q he => u.there b ob q fun z => he (hx b z), u.tups, u.frzs, u.tbls⟩
end
noncomputable def trk (h : Heap) (H : Hp) : List Addr := (List.range h.objs.size).filter fun a => (H a).isSome
noncomputable def hidT (h : Heap) (H : Hp) : Heap := PySem.W.hideAll h (trk h H)
theorem hidT_size (h : Heap) (H : Hp) : (hidT h H).objs.size = h.objs.size := PySem.W.hideAll_size _ _
theorem hidT_get {h : Heap} {H : Hp} {b : Addr} {o : Obj} (e : h.get? b = some o) (n : H b = none) : (hidT h H).get? b = some o :=
  PySem.W.hideAll_get _ e fun hm => by
    have q : (H b).isSome = true := (List.mem_filter.mp hm).2
    rw [n] at q; simp at q
theorem of_hidT {h : Heap} {H : Hp} {b : Addr} {o : Obj} (e : (hidT h H).get? b = some o) : h.get? b = some o ∧ H b = none := by
  have e' : h.get? b = some o := PySem.W.of_hideAll (trk h H) e
  refine ⟨e', ?_⟩
  cases q : H b with
  | none => rfl
  | some x =>
    have hm : b ∈ trk h H := List.mem_filter.mpr ⟨List.mem_range.mpr (Heap.lt_size e'), by simp [q]⟩
    have z : (hidT h H).get? b = none := PySem.W.hideAll_none (trk h H) hm
    rw [z] at e; cases e
noncomputable def allNews (g h : Heap) (L : Addr) : List (Addr × Obj) := (List.range h.objs.size).filterMap fun a => if a = L ∨ (g.get? a).isSome = true then none else (h.get? a).map fun o => (a, o)
noncomputable def rest (g h : Heap) (L d : Addr) : List (Addr × Obj) := (allNews g h L).filter fun p => decide (p.1 ≠ d)
end L2
namespace L2
open PySem PySem.Spec PyProof.Rows
structure Mod (K : PySem.W.Frag) (mg : Str → Option Value) (base : Heap) : Prop where
  kin : K.In base
  glob : base.Ns mainGlobals mg
  blt : ∃ mb, base.Ns builtinsNs mb ∧ ∀ x : Str, x ≠ "__name__" → mb x = bootBuiltins x
  nolimit : base.NoLimit
structure Cx where
  prog : Program
  w : World
  K : PySem.W.Frag
  mg : Str → Option Value
  base : Heap
  A : Around
  N : List Str
  s₀ : Shared
  H₀ : Hp
  env : Env
  outer : List Env
  stack : List Env
  ex : List Addr
  fn : Str → Bool
  calm : Bool
  pn : List (Addr × Obj)
  xe : Value → Shared → Prop
noncomputable def frs (l : List Env) : List Addr := l.filterMap (·.frame)
noncomputable abbrev Cx.fs (X : Cx) : List Addr := frs X.outer
noncomputable def Vis (sc : Scope) (x : Str) : Prop := sc.names.lookup x = some .local ∨ sc.names.lookup x = some .cell ∨ sc.names.lookup x = some .free
noncomputable def Loc (sc : Scope) (x : Str) : Prop := sc.names.lookup x = some .local ∨ sc.names.lookup x = some .cell
noncomputable def Look (env : Env) (h : Heap) (m : Str → Option Value) (x : Str) (u : Value) : Prop :=
  (env.kindOf x = some .local ∧ m x = some u) ∨ ((env.kindOf x = some .cell ∨ env.kindOf x = some .free) ∧ ∃ c, env.cells.lookup x = some c ∧ h.IsCell c (some u))
structure Cx.Ok (X : Cx) : Prop where
  mod : Mod X.K X.mg X.base
  kind : X.env.scope.kind = .function
  glob : X.env.globals = mainGlobals
  blt : X.env.builtins = builtinsNs
  above : X.s₀.heap.objs.size ≤ X.env.locals
  inj : ∀ x y c, X.env.cells.lookup x = some c → X.env.cells.lookup y = some c → x = y
  has : ∀ x, (X.env.kindOf x = some .cell ∨ X.env.kindOf x = some .free) → ∃ c, X.env.cells.lookup x = some c
  cab : ∀ x c, X.fn x = true → X.env.cells.lookup x = some c → X.s₀.heap.objs.size ≤ c
  hd : X.calm = true → X.A.handled = none
  frames : X.A.frames = some X.stack
  stk : X.stack = X.outer ∨ (X.stack = X.env :: X.outer ∧ X.env.frame = some X.env.locals)
  exf : ∀ b ∈ X.ex, b ≠ X.env.locals ∧ ∀ x c, X.env.cells.lookup x = some c → c ≠ b
  bs : ∀ b o, X.base.get? b = some o → X.s₀.heap.get? b = some o ∧ X.H₀ b = none
  bsz : X.base.objs.size ≤ X.s₀.heap.objs.size
  noex : ∀ b o, X.base.get? b = some o → b ∉ X.ex
  exfs : ∀ b ∈ X.ex, b ∉ X.fs
  funs : X.s₀.heap.FunFrames X.base X.outer
  frf : ∀ b ∈ X.fs, X.H₀ b = none
structure Inv (X : Cx) (pins : List (Addr × Obj)) (σ : List (Option V)) (H : Hp) (s : Shared) : Prop where
  ok : X.Ok
  os : s.os = X.s₀.os
  bare : AllBare s.gens
  base : Un X.fs X.ex X.H₀ H X.s₀.heap s.heap
  loc : ∃ m, s.heap.Ns X.env.locals m ∧ ∀ (i : Nat) (x : Str) (v : V), X.N[i]? = some x → σ[i]? = some (some v) → Vis X.env.scope x → ∃ u, RelV v u ∧ Look X.env s.heap m x u
  cell : ∀ x c, X.env.cells.lookup x = some c → ∃ v, s.heap.IsCell c v
  free : H X.env.locals = none
  freeC : ∀ x c, X.env.cells.lookup x = some c → H c = none
  pin : ∀ p ∈ X.pn ++ pins, s.heap.get? p.1 = some p.2 ∧ H p.1 = none ∧ p.1 ≠ X.env.locals ∧ p.1 ∉ X.fs ∧ ∀ v, p.2.data ≠ .cell v
  hok : HOk X.prog X.w H s.heap
  len : σ.length = X.N.length
section
variable {X : Cx} {pins : List (Addr × Obj)} {σ : List (Option V)} {H H' : Hp} {s : Shared} {h' : Heap}
theorem Cx.Ok.nofr (ok : X.Ok) {b : Addr} {o : Obj} (e : X.base.get? b = some o) : b ∉ X.fs := fun hb => by
  have := (ok.funs.mem hb).1
  rw [e] at this; cases this
theorem Inv.bs (I : Inv X pins σ H s) : ∀ b o, X.base.get? b = some o → s.heap.get? b = some o ∧ H b = none := fun b o e =>
  ⟨I.base.keep b o (I.ok.bs b o e).1 (I.ok.bs b o e).2 (I.ok.nofr e) (I.ok.noex b o e), I.base.free b o (I.ok.bs b o e).1 (I.ok.bs b o e).2 (I.ok.noex b o e)⟩
theorem Inv.bk (I : Inv X pins σ H s) : ∀ b o, X.base.get? b = some o → s.heap.get? b = some o := fun b o e => (I.bs b o e).1
theorem Inv.mod (I : Inv X pins σ H s) : Mod X.K X.mg X.base := I.ok.mod
theorem Inv.kIn (I : Inv X pins σ H s) : X.K.In s.heap := I.ok.mod.kin.keeps I.bk
theorem Inv.nolimit (I : Inv X pins σ H s) : s.heap.NoLimit := I.ok.mod.nolimit.keeps I.bk
theorem Inv.fr (I : Inv X pins σ H s) : ∃ m, Fr X.base X.env.locals s.heap m :=
  let ⟨m, hn, _⟩ := I.loc
  ⟨m, hn, I.bk, Nat.le_trans I.ok.bsz I.ok.above⟩
theorem Inv.lt (I : Inv X pins σ H s) : X.env.locals < s.heap.objs.size := let ⟨_, hn, _⟩ := I.loc; hn.lt
theorem Inv.sz (I : Inv X pins σ H s) : X.s₀.heap.objs.size ≤ s.heap.objs.size := Nat.le_trans I.ok.above (Nat.le_of_lt I.lt)
theorem Inv.nofs (I : Inv X pins σ H s) {a : Addr} (h : s.heap.objs.size ≤ a) : a ∉ X.fs := fun hb => by
  obtain ⟨_, o, ho, _⟩ := I.ok.funs.mem hb
  exact absurd (Nat.lt_of_lt_of_le (Heap.lt_size ho) (Nat.le_trans I.sz h)) (Nat.lt_irrefl _)
theorem Inv.cne (I : Inv X pins σ H s) : ∀ x c, X.env.cells.lookup x = some c → c ≠ X.env.locals := fun x c e z => by
  obtain ⟨v, o, ho, hd⟩ := I.cell x c e
  obtain ⟨m, ⟨o', es, ep, ho', hd', _⟩, _⟩ := I.loc
  rw [z, ho'] at ho; cases ho; rw [hd'] at hd; cases hd
theorem Inv.funs (I : Inv X pins σ H s) : s.heap.FunFrames X.base X.outer := by
  have all : ∀ (l : List Env), (∀ b ∈ frs l, b ∈ X.fs) → X.s₀.heap.FunFrames X.base l → s.heap.FunFrames X.base l := by
    intro l
    induction l with
    | nil => intro _ _; trivial
    | cons env r ih =>
      intro hs hl
      obtain ⟨hk, ⟨L, o, hf, hn, ho, hd⟩, hr⟩ := hl
      have hL : L ∈ X.fs := hs L (by unfold frs; rw [List.filterMap_cons, hf]; exact List.mem_cons_self)
      obtain ⟨sl, e⟩ := I.base.slot L o ho (I.ok.frf L hL) hL fun z => I.ok.exfs L z hL
      exact ⟨hk, ⟨L, _, hf, hn, e, hd⟩, ih (fun b hb => hs b (by unfold frs; rw [List.filterMap_cons, hf]; exact List.mem_cons_of_mem _ hb)) hr⟩
  exact all X.outer (fun _ hb => hb) I.ok.funs
theorem Inv.stack (I : Inv X pins σ H s) : s.heap.FunFrames X.base X.stack := by
  rcases I.ok.stk with e | ⟨e, hf⟩
  · rw [e]; exact I.funs
  · rw [e]
    obtain ⟨m, hn, _⟩ := I.loc
    refine .cons (by rw [I.ok.kind]; decide) hf hn ?_ I.funs
    exact Heap.get?_none_of_le (Nat.le_trans I.ok.bsz I.ok.above)
theorem Inv.stkSub (I : Inv X pins σ H s) : ∀ b ∈ frs X.stack, b ∈ X.env.locals :: X.fs := fun b hb => by
  rcases I.ok.stk with e | ⟨e, hf⟩
  · rw [e] at hb; exact List.mem_cons_of_mem _ hb
  · rw [e] at hb
    unfold frs at hb
    rw [List.filterMap_cons, hf] at hb
    exact hb
theorem Inv.stkFree (I : Inv X pins σ H s) : ∀ b ∈ frs X.stack, H b = none := fun b hb => by
  rcases List.mem_cons.mp (I.stkSub b hb) with e | hb
  · rw [e]; exact I.free
  · obtain ⟨_, o, ho, _⟩ := I.ok.funs.mem hb
    exact I.base.free b o ho (I.ok.frf b hb) fun z => I.ok.exfs b z hb
theorem Inv.step {g' : Array GenState} {t' : Nat} {d' : Drawn} {ch : List Addr} (I : Inv X pins σ H s)
    (hch : ∀ b ∈ ch, (b ∈ X.ex ∨ X.s₀.heap.objs.size ≤ b) ∧ b ≠ X.env.locals ∧ (∀ x c, X.env.cells.lookup x = some c → c ≠ b) ∧ ∀ p ∈ X.pn ++ pins, p.1 ≠ b)
    (keep : ∀ b o, b ≠ X.env.locals → b ∉ X.fs → b ∉ ch → s.heap.get? b = some o → H b = none → h'.get? b = some o)
    (slot : ∀ b o, b ≠ X.env.locals → b ∈ X.fs → b ∉ ch → s.heap.get? b = some o → H b = none → ∃ sl, h'.get? b = some { o with slots := sl }) (free : ∀ b o, b ∉ ch → s.heap.get? b = some o → H b = none → H' b = none)
    (there : ∀ b o, b ∉ ch → s.heap.get? b = some o → ∃ o', h'.get? b = some o')
    (tups : ∀ b xs, H b = some (.tup xs) → H' b = some (.tup xs)) (frzs : ∀ b o u, H b = some (.frz o u) → H' b = some (.frz o u)) (tbls : ∀ b ps, H b = some (.tbl ps) → ∃ more, H' b = some (.tbl (ps ++ more)))
    (ns : ∀ m, s.heap.Ns X.env.locals m → h'.Ns X.env.locals m) (hok : HOk X.prog X.w H' h') (hg : AllBare g') :
    Inv X pins σ H' { s with heap := h', gens := g', drawn := d', toks := t' } := by
  have neL : ∀ b o, X.s₀.heap.get? b = some o → b ≠ X.env.locals := fun b o e => Nat.ne_of_lt (Nat.lt_of_lt_of_le (Heap.lt_size e) I.ok.above)
  have neC : ∀ b o, X.s₀.heap.get? b = some o → b ∉ X.ex → b ∉ ch := fun b o e hx hb => by
    rcases (hch b hb).1 with z | z
    · exact hx z
    · exact absurd (Nat.lt_of_lt_of_le (Heap.lt_size e) z) (Nat.lt_irrefl _)
  have cellK : ∀ x c, X.env.cells.lookup x = some c → ∀ v, s.heap.IsCell c v → h'.IsCell c v := fun x c e v ⟨o, ho, hd⟩ => by
    have nch : c ∉ ch := fun z => (hch c z).2.2.1 x c e rfl
    by_cases hc : c ∈ X.fs
    · obtain ⟨sl, q⟩ := slot c o (I.cne x c e) hc nch ho (I.freeC x c e)
      exact ⟨_, q, hd⟩
    · exact ⟨o, keep c o (I.cne x c e) hc nch ho (I.freeC x c e), hd⟩
  refine ⟨I.ok, I.os, hg, ⟨fun b o e n hb hx => ?_, fun b o e n hb hx => ?_, fun b o e n hx => ?_, fun b o e hx => ?_, fun b xs e => tups b xs (I.base.tups b xs e), fun b o xs e => frzs b o xs (I.base.frzs b o xs e), fun b ps e => ?_⟩, ?_, fun x c e => ?_, ?_, fun x c e => ?_, fun p hp => ?_, hok, I.len⟩
  · exact keep b o (neL b o e) hb (neC b o e hx) (I.base.keep b o e n hb hx) (I.base.free b o e n hx)
  · obtain ⟨sl, e1⟩ := I.base.slot b o e n hb hx
    obtain ⟨sl', e2⟩ := slot b _ (neL b o e) hb (neC b o e hx) e1 (I.base.free b o e n hx)
    exact ⟨sl', e2⟩
  · obtain ⟨o', e1⟩ := I.base.there b o e hx
    exact free b o' (neC b o e hx) e1 (I.base.free b o e n hx)
  · obtain ⟨o', e1⟩ := I.base.there b o e hx
    exact there b o' (neC b o e hx) e1
  · obtain ⟨m1, e1⟩ := I.base.tbls b ps e
    obtain ⟨m2, e2⟩ := tbls b _ e1
    exact ⟨m1 ++ m2, by rw [e2, Array.append_assoc]⟩
  · obtain ⟨m, hn, hl⟩ := I.loc
    refine ⟨m, ns m hn, fun i x v e1 e2 e3 => ?_⟩
    obtain ⟨u, r, l⟩ := hl i x v e1 e2 e3
    refine ⟨u, r, ?_⟩
    rcases l with l | ⟨k, c, e, z⟩
    · exact .inl l
    · exact .inr ⟨k, c, e, cellK x c e _ z⟩
  · obtain ⟨v, z⟩ := I.cell x c e
    exact ⟨v, cellK x c e v z⟩
  · obtain ⟨m, ⟨o, _, _, ho, _⟩, _⟩ := I.loc
    exact free _ o (fun z => (hch _ z).2.1 rfl) ho I.free
  · obtain ⟨v, o, ho, hd⟩ := I.cell x c e
    exact free c o (fun z => (hch c z).2.2.1 x c e rfl) ho (I.freeC x c e)
  · obtain ⟨e, n, ne, nf, d⟩ := I.pin p hp
    have nch : p.1 ∉ ch := fun z => (hch p.1 z).2.2.2 p hp rfl
    exact ⟨keep p.1 p.2 ne nf nch e n, free p.1 p.2 nch e n, ne, nf, d⟩
theorem Inv.un {t' : Nat} (I : Inv X pins σ H s) (u : Un X.fs [] H H' s.heap h') (hok : HOk X.prog X.w H' h') : Inv X pins σ H' { s with heap := h', toks := t' } := by
  obtain ⟨m, ⟨o, es, ep, ho, r⟩, _⟩ := id I.loc
  obtain ⟨sl, hL⟩ := u.any ho I.free (by simp)
  exact I.step (g' := s.gens) (d' := s.drawn) (ch := []) (fun _ z => nomatch z) (fun b o _ hb _ e n => u.keep b o e n hb (by simp)) (fun b o _ hb _ e n => u.slot b o e n hb (by simp)) (fun b o _ e n => u.free b o e n (by simp)) (fun b o _ e => u.there b o e (by simp)) u.tups u.frzs u.tbls (fun m' hm => by
    obtain ⟨o', es', ep', ho', r'⟩ := hm
    rw [ho] at ho'; cases ho'
    exact ⟨_, es', ep', hL, r'⟩) hok I.bare
theorem Inv.call {g' : Array GenState} {t' : Nat} {d' : Drawn} {ch : List Addr} (I : Inv X pins σ H s) (u : Un (frs X.stack) ch H H' s.heap h') (hok : HOk X.prog X.w H' h') (hg : AllBare g')
    (hch : ∀ b ∈ ch, (b ∈ X.ex ∨ X.s₀.heap.objs.size ≤ b) ∧ b ≠ X.env.locals ∧ (∀ x c, X.env.cells.lookup x = some c → c ≠ b) ∧ ∀ p ∈ X.pn ++ pins, p.1 ≠ b) :
    Inv X pins σ H' { s with heap := h', gens := g', drawn := d', toks := t' } := by
  obtain ⟨m, ⟨o, es, ep, ho, r⟩, _⟩ := id I.loc
  obtain ⟨sl, hL⟩ := u.any ho I.free fun z => (hch _ z).2.1 rfl
  exact I.step (ch := ch) hch (fun b o hL hb hc e n => u.keep b o e n (fun z => (List.mem_cons.mp (I.stkSub b z)).elim hL hb) hc) (fun b o _ _ hc e n => u.any e n hc) (fun b o hc e n => u.free b o e n hc) (fun b o hc e => u.there b o e hc) u.tups u.frzs u.tbls (fun m' hm => by
    obtain ⟨o', es', ep', ho', r'⟩ := hm
    rw [ho] at ho'; cases ho'
    exact ⟨_, es', ep', hL, r'⟩) hok hg
theorem Inv.turned {t' : Nat} {it : Addr} (I : Inv X pins σ H s) (k : ∀ b o, b ≠ it → s.heap.get? b = some o → h'.get? b = some o) (hn : H it = none) (hL : it ≠ X.env.locals)
    (h1 : it ∈ X.ex ∨ X.s₀.heap.objs.size ≤ it) (h2 : ∀ x c, X.env.cells.lookup x = some c → c ≠ it) (h3 : ∀ p ∈ X.pn ++ pins, p.1 ≠ it) : Inv X pins σ H { s with heap := h', toks := t' } := by
  have nit : ∀ b u, H b = some u → b ≠ it := fun b u e z => by rw [z, hn] at e; cases e
  refine I.step (g' := s.gens) (d' := s.drawn) (ch := [it]) (fun b hb => ?_) (fun b o _ _ hc e _ => k b o (fun z => hc (by simp [z])) e) (fun b o _ _ hc e _ => ⟨o.slots, k b o (fun z => hc (by simp [z])) e⟩) (fun _ _ _ _ n => n)
    (fun b o hc e => ⟨o, k b o (fun z => hc (by simp [z])) e⟩) (fun _ _ e => e) (fun _ _ _ e => e) (fun b ps e => ⟨#[], by rw [e]; simp⟩) (fun m hm => ?_) (fun b u e => ?_) I.bare
  · have e : b = it := by simpa using hb
    subst e
    exact ⟨h1, hL, h2, h3⟩
  · obtain ⟨o, es, ep, ho, r⟩ := hm
    exact ⟨o, es, ep, k _ o (Ne.symm hL) ho, r⟩
  · refine (I.hok b u e).stay (fun c v hc q => k c v ?_ q) (fun _ q => q) fun _ _ q => q
    rcases hc with z | z
    · rw [z]; exact nit b u e
    · exact nit c _ z
theorem Inv.tok (I : Inv X pins σ H s) (t : Nat) : Inv X pins σ H { s with toks := t } := I.un (h' := s.heap) (t' := t) Un.refl I.hok
theorem Inv.kept {t' : Nat} (I : Inv X pins σ H s) (k : ∀ b u, s.heap.get? b = some u → h'.get? b = some u) : Inv X pins σ H { s with heap := h', toks := t' } := I.un (Un.kept k) (I.hok.kept k)
theorem Inv.laid {a : Addr} {o : HO} {t' : Nat} (I : Inv X pins σ H s) (k : ∀ b u, s.heap.get? b = some u → h'.get? b = some u) (hp : s.heap.objs.size ≤ a) (new : ObjOk X.prog X.w (upd H a o) h' a o) :
    Inv X pins σ (upd H a o) { s with heap := h', toks := t' } := I.un (Un.laid k hp (I.hok.fresh hp)) (I.hok.laid k hp new)
theorem Inv.write {x e : Addr} {o : HO} {t' : Nat} (I : Inv X pins σ H s) (mu : Mut (H x)) (he : e = x ∨ H e = some (.own x)) (k : ∀ b u, b ≠ e → s.heap.get? b = some u → h'.get? b = some u) (heo : ∃ u, h'.get? e = some u)
    (new : ObjOk X.prog X.w (upd H x o) h' x o) : Inv X pins σ (upd H x o) { s with heap := h', toks := t' } := I.un (Un.write mu he k heo) (I.hok.write mu he k heo new)
theorem Inv.pins_of {pins' : List (Addr × Obj)} (I : Inv X pins σ H s) (h : ∀ p ∈ pins', s.heap.get? p.1 = some p.2 ∧ H p.1 = none ∧ p.1 ≠ X.env.locals ∧ p.1 ∉ X.fs ∧ ∀ v, p.2.data ≠ .cell v) : Inv X pins' σ H s :=
  ⟨I.ok, I.os, I.bare, I.base, I.loc, I.cell, I.free, I.freeC, fun p hp => (List.mem_append.mp hp).elim (fun z => I.pin p (List.mem_append_left _ z)) (h p), I.hok, I.len⟩
theorem nodup_ix {N : List Str} (hN : N.Nodup) {i j : Nat} {x : Str} (a : N[i]? = some x) (b : N[j]? = some x) : i = j := by
  obtain ⟨h1, e1⟩ := List.getElem?_eq_some_iff.mp a
  obtain ⟨h2, e2⟩ := List.getElem?_eq_some_iff.mp b
  exact (List.getElem_inj hN).mp (e1.trans e2.symm)
theorem store_ok2 {M : Model} {A : Around} {E : Value → Shared → Prop} {i : Nat} {x : Str} {v : V} {u : Value} {Q : Unit → Shared → Prop} (I : Inv X pins σ H s) (hN : X.N.Nodup) (hi : X.N[i]? = some x) (hx : Loc X.env.scope x) (r : RelV v u)
    (h : ∀ s', Inv X pins (σ.set i (some v)) H s' → (∃ a, Heap.SameBut a s.heap s'.heap ∧ (a = X.env.locals ∨ X.env.cells.lookup x = some a)) → Q () s') (hf : X.fn x = true ∨ X.env.scope.names.lookup x = some .local := by first | exact .inl rfl | exact .inr rfl | assumption) : wpAny M A (storeName X.env x u) Q E s := by
  obtain ⟨m, hn, hl⟩ := id I.loc
  have hcls : (X.env.scope.kind == .class || (X.env.scope.kind == .module && X.env.locals != X.env.globals)) = false := by rw [I.ok.kind]; rfl
  have hiσ : i < σ.length := by rw [I.len]; exact (List.getElem?_eq_some_iff.mp hi).1
  have cne := I.cne
  have tracked : ∀ {a : Addr} {h' : Heap}, (∃ o, s.heap.get? a = some o ∧ H a = none) → Heap.SameBut a s.heap h' → HOk X.prog X.w H h' := fun {a h'} ha hs b ob e => by
    obtain ⟨_, _, hfree⟩ := ha
    refine (I.hok b ob e).stay (fun c w' hc q => (hs.2 c ?_).trans q) (fun _ q => q) fun _ _ q => q
    rintro rfl
    rcases hc with rfl | hc
    · rw [hfree] at e; cases e
    · rw [hfree] at hc; cases hc
  rcases hx with hk | hk
  · refine wpAny_storeName_local hk hn (fun h' hn' hs => ?_) hcls
    obtain ⟨oL, _, _, hoL, _⟩ := id hn
    refine h _ ⟨I.ok, I.os, I.bare, ⟨fun b o e n hb hx => ?_, fun b o e n hb hx => ?_, I.base.free, fun b o e hx => ?_, I.base.tups, I.base.frzs, I.base.tbls⟩, ⟨_, hn', fun j y v' e1 e2 e3 => ?_⟩, fun y c e => ?_, I.free, I.freeC, fun p hp => ?_, tracked ⟨oL, hoL, I.free⟩ hs, by simpa using I.len⟩ ⟨_, hs, .inl rfl⟩
    · exact (hs.2 b (Nat.ne_of_lt (Nat.lt_of_lt_of_le (Heap.lt_size e) I.ok.above))).trans (I.base.keep b o e n hb hx)
    · obtain ⟨sl, e1⟩ := I.base.slot b o e n hb hx
      exact ⟨sl, (hs.2 b (Nat.ne_of_lt (Nat.lt_of_lt_of_le (Heap.lt_size e) I.ok.above))).trans e1⟩
    · obtain ⟨o', e1⟩ := I.base.there b o e hx
      exact ⟨o', (hs.2 b (Nat.ne_of_lt (Nat.lt_of_lt_of_le (Heap.lt_size e) I.ok.above))).trans e1⟩
    · by_cases hj : j = i
      · subst hj
        rw [hi] at e1; cases e1
        rw [List.getElem?_set_self hiσ] at e2
        cases e2
        exact ⟨u, r, .inl ⟨hk, by simp⟩⟩
      · rw [List.getElem?_set_ne (Ne.symm hj)] at e2
        obtain ⟨u', r', q⟩ := hl j y v' e1 e2 e3
        refine ⟨u', r', ?_⟩
        rcases q with ⟨k, e⟩ | ⟨k, c, e, z⟩
        · refine .inl ⟨k, ?_⟩
          have : y ≠ x := fun e => hj (nodup_ix hN e1 (e ▸ hi))
          simp [this, e]
        · exact .inr ⟨k, c, e, z.sameBut hs (cne y c e)⟩
    · obtain ⟨w', z⟩ := I.cell y c e
      exact ⟨w', z.sameBut hs (cne y c e)⟩
    · obtain ⟨e, n, ne, nf, d⟩ := I.pin p hp
      exact ⟨(hs.2 p.1 ne).trans e, n, ne, nf, d⟩
  · have hfn : X.fn x = true := by
      rcases hf with z | z
      · exact z
      · rw [z] at hk; cases hk
    obtain ⟨c, hc⟩ := I.ok.has x (.inl hk)
    obtain ⟨w', z⟩ := I.cell x c hc
    refine wpAny_storeName_cell I.ok.kind hk hc z (fun h' hc' hs => ?_)
    obtain ⟨oc, hoc, hocd⟩ := id z
    refine h { s with heap := h' } ⟨I.ok, I.os, I.bare, ⟨fun b o e n hb hx => ?_, fun b o e n hb hx => ?_, I.base.free, fun b o e hx => ?_, I.base.tups, I.base.frzs, I.base.tbls⟩, ⟨m, hn.sameBut hs (Ne.symm (cne x c hc)), fun j y v' e1 e2 e3 => ?_⟩, fun y c' e => ?_, I.free, I.freeC, fun p hp => ?_, tracked ⟨oc, hoc, I.freeC x c hc⟩ hs, by simpa using I.len⟩ ⟨c, hs, .inr hc⟩
    · exact (hs.2 b (Nat.ne_of_lt (Nat.lt_of_lt_of_le (Heap.lt_size e) (I.ok.cab x c hfn hc)))).trans (I.base.keep b o e n hb hx)
    · obtain ⟨sl, e1⟩ := I.base.slot b o e n hb hx
      exact ⟨sl, (hs.2 b (Nat.ne_of_lt (Nat.lt_of_lt_of_le (Heap.lt_size e) (I.ok.cab x c hfn hc)))).trans e1⟩
    · obtain ⟨o', e1⟩ := I.base.there b o e hx
      exact ⟨o', (hs.2 b (Nat.ne_of_lt (Nat.lt_of_lt_of_le (Heap.lt_size e) (I.ok.cab x c hfn hc)))).trans e1⟩
    · by_cases hj : j = i
      · subst hj
        rw [hi] at e1; cases e1
        rw [List.getElem?_set_self hiσ] at e2
        cases e2
        exact ⟨u, r, .inr ⟨.inl hk, c, hc, hc'⟩⟩
      · rw [List.getElem?_set_ne (Ne.symm hj)] at e2
        obtain ⟨u', r', q⟩ := hl j y v' e1 e2 e3
        refine ⟨u', r', ?_⟩
        rcases q with q | ⟨k, c', e, z'⟩
        · exact .inl q
        · refine .inr ⟨k, c', e, z'.sameBut hs ?_⟩
          rintro rfl
          exact hj (nodup_ix hN e1 (I.ok.inj _ _ _ e hc ▸ hi))
    · by_cases hcc : c' = c
      · subst hcc; exact ⟨_, hc'⟩
      · obtain ⟨w2, z2⟩ := I.cell y c' e
        exact ⟨w2, z2.sameBut hs hcc⟩
    · obtain ⟨e, n, ne, nf, d⟩ := I.pin p hp
      refine ⟨(hs.2 p.1 ?_).trans e, n, ne, nf, d⟩
      intro q
      rw [q, hoc] at e
      have q' : oc = p.2 := Option.some.inj e
      exact d w' (by rw [← q']; exact hocd)
theorem store_ok {M : Model} {A : Around} {E : Value → Shared → Prop} {i : Nat} {x : Str} {v : V} {u : Value} {Q : Unit → Shared → Prop} (I : Inv X pins σ H s) (hN : X.N.Nodup) (hi : X.N[i]? = some x) (hx : Loc X.env.scope x) (r : RelV v u)
    (h : ∀ s', Inv X pins (σ.set i (some v)) H s' → Q () s') (hf : X.fn x = true ∨ X.env.scope.names.lookup x = some .local := by first | exact .inl rfl | exact .inr rfl | assumption) : wpAny M A (storeName X.env x u) Q E s :=
  store_ok2 I hN hi hx r (fun s' I' _ => h s' I') hf
theorem Inv.call' {s' : Shared} {ch : List Addr} (I : Inv X pins σ H s) (ho : s'.os = s.os) (u : Un (frs X.stack) ch H H' s.heap s'.heap) (hok : HOk X.prog X.w H' s'.heap) (hg : AllBare s'.gens)
    (hch : ∀ b ∈ ch, (b ∈ X.ex ∨ X.s₀.heap.objs.size ≤ b) ∧ b ≠ X.env.locals ∧ (∀ x c, X.env.cells.lookup x = some c → c ≠ b) ∧ ∀ p ∈ X.pn ++ pins, p.1 ≠ b) : Inv X pins σ H' s' := by
  obtain ⟨h', g', d', t', o'⟩ := s'
  have e : o' = s.os := ho
  subst e
  exact I.call (g' := g') (t' := t') (d' := d') u hok hg hch
end
noncomputable abbrev XK := Value → Option Addr → Hp → Prop
noncomputable abbrev St := List (Option V)
noncomputable abbrev VK := V → Hp → Prop
noncomputable abbrev TE := St → Hp → VK → Prop
noncomputable abbrev TT := St → Hp → (Bool → Hp → Prop) → Prop
noncomputable abbrev TA := St → Hp → (List V → Hp → Prop) → Prop
structure Ends where
  nx : St → Hp → Prop
  rt : VK
  bk : St → Hp → Prop := fun _ _ => False
  ct : St → Hp → Prop := fun _ _ => False
noncomputable abbrev TS := Ends → St → Hp → Prop
noncomputable def EP (X : Cx) (pins : List (Addr × Obj)) (σ : St) (Q : VK) (u : Value) (s' : Shared) : Prop := ∃ v H', Inv X pins σ H' s' ∧ RelV v u ∧ Q v H'
noncomputable def TP (X : Cx) (pins : List (Addr × Obj)) (σ : St) (Q : Bool → Hp → Prop) (b : Bool) (s' : Shared) : Prop := ∃ H', Inv X pins σ H' s' ∧ Q b H'
noncomputable def AP (X : Cx) (pins : List (Addr × Obj)) (σ : St) (Q : List V → Hp → Prop) (us : List Value) (s' : Shared) : Prop := ∃ vs H', Inv X pins σ H' s' ∧ Vals vs us ∧ Q vs H'
noncomputable def SP (X : Cx) (pins : List (Addr × Obj)) (D : Ends) (f : Flow) (s' : Shared) : Prop :=
  match f with
  | .next => ∃ σ' H', Inv X pins σ' H' s' ∧ D.nx σ' H'
  | .brk => ∃ σ' H', Inv X pins σ' H' s' ∧ D.bk σ' H'
  | .cont => ∃ σ' H', Inv X pins σ' H' s' ∧ D.ct σ' H'
  | .ret u => ∃ v σ' H', Inv X pins σ' H' s' ∧ RelV v u ∧ D.rt v H'
noncomputable def PE (X : Cx) (e : Expr) (t : TE) : Prop :=
  ∀ (pins : List (Addr × Obj)) (s : Shared) (σ : St) (H : Hp) (Q : VK), Inv X pins σ H s → t σ H Q → wpAny (model X.prog X.w) X.A (eval e X.env) (EP X pins σ Q) X.xe s
noncomputable def PT (X : Cx) (e : Expr) (t : TT) : Prop :=
  ∀ (pins : List (Addr × Obj)) (s : Shared) (σ : St) (H : Hp) (Q : Bool → Hp → Prop), Inv X pins σ H s → t σ H Q → wpAny (model X.prog X.w) X.A (isTrue e X.env (eval e X.env)) (TP X pins σ Q) X.xe s
noncomputable def PW (X : Cx) (e : Expr) (t : TT) : Prop :=
  ∀ (whole : Sem Value) (pins : List (Addr × Obj)) (s : Shared) (σ : St) (H : Hp) (Q : Bool → Hp → Prop), Inv X pins σ H s → t σ H Q → wpAny (model X.prog X.w) X.A (isTrue e X.env whole) (TP X pins σ Q) X.xe s
theorem PW.pt {X : Cx} {e : Expr} {t : TT} (h : PW X e t) : PT X e t := h _
noncomputable def PA (X : Cx) (es : List Expr) (t : TA) : Prop :=
  ∀ (pos : Pos) (pins : List (Addr × Obj)) (s : Shared) (σ : St) (H : Hp) (Q : List V → Hp → Prop), Inv X pins σ H s → t σ H Q → wpAny (model X.prog X.w) X.A (spliced (backTo pos (starEach es X.env))) (AP X pins σ Q) X.xe s
noncomputable def PS (X : Cx) (st : Stmt) (t : TS) : Prop :=
  ∀ (pins : List (Addr × Obj)) (s : Shared) (σ : St) (H : Hp) (D : Ends), Inv X pins σ H s → t D σ H → wpAny (model X.prog X.w) X.A (exec st X.env) (SP X pins D) X.xe s
noncomputable def PSs (X : Cx) (st : List Stmt) (t : TS) : Prop :=
  ∀ (pins : List (Addr × Obj)) (s : Shared) (σ : St) (H : Hp) (D : Ends), Inv X pins σ H s → t D σ H → wpAny (model X.prog X.w) X.A (execs st X.env) (SP X pins D) X.xe s
theorem thn {α : Type} {t : Sem α} {Q Q' : α → Shared → Prop} {M : Model} {A : Around} {E : Value → Shared → Prop} {s : Shared} (h : wpAny M A t Q E s) (hQ : ∀ a s, Q a s → Q' a s) : wpAny M A t Q' E s := wpAny_mono h hQ fun _ _ x => x
end L2
namespace L2
open PySem PySem.Spec PyProof.Rows
section
variable {X : Cx}
theorem bin {a b : Expr} {ta tb : TE} (ha : PE X a ta) (hb : PE X b tb) {pins : List (Addr × Obj)} {s : Shared} {σ : St} {H : Hp} {R : V → V → Hp → Prop} (I : Inv X pins σ H s) (h : ta σ H fun x H1 => tb σ H1 fun y H2 => R x y H2)
    {α : Type} {Q : α → Shared → Prop} {f : Value → Value → Sem α}
    (hf : ∀ v u s2 x y H2, Inv X pins σ H2 s2 → RelV x v → RelV y u → R x y H2 → wpAny (model X.prog X.w) X.A (f v u) Q X.xe s2) :
    wpAny (model X.prog X.w) X.A (eval a X.env) (fun v s₁ => wpAny (model X.prog X.w) X.A (eval b X.env) (fun u s₂ => wpAny (model X.prog X.w) X.A (f v u) Q X.xe s₂) X.xe s₁) X.xe s := by
  refine thn (ha pins s σ H _ I h) fun v s1 ⟨x, H1, I1, r1, q1⟩ => ?_
  refine thn (hb pins s1 σ H1 _ I1 q1) fun u s2 ⟨y, H2, I2, r2, q2⟩ => ?_
  exact hf v u s2 x y H2 I2 r1 r2 q2
noncomputable def tVar (i : Nat) : TE := fun σ H Q => ∃ v, σ[i]? = some (some v) ∧ Q v H
noncomputable def tC (v : V) : TE := fun _ H Q => Q v H
theorem pe_var {i : Nat} {x : Str} {pos : Pos} (hN : X.N[i]? = some x) (hv : Vis X.env.scope x) (hd : (x == ("__debug__" : Str)) = false := by decide) (hcd : (x == ("__classdict__" : Str)) = false := by decide) : PE X (.Name x pos) (tVar i) := by
  intro pins s σ H Q I h
  obtain ⟨v, e, h⟩ := h
  obtain ⟨m, hn, hl⟩ := I.loc
  obtain ⟨u, r, l⟩ := hl i x v hN e hv
  have fin : EP X pins σ Q u s := ⟨v, H, I, r, h⟩
  rcases l with ⟨hk, hm⟩ | ⟨hk, c, hc, hcell⟩
  · exact wpAny_Name (wpAny_loadName_local I.ok.kind hk hn hm fin) hd
  · rcases hk with hk | hk
    · exact wpAny_Name (wpAny_loadName_cell I.ok.kind hk hc hcell fin) hd
    · exact wpAny_Name (wpAny_loadName_free I.ok.kind hk hc hcell fin hcd) hd
theorem pe_int {i j pos} : PE X (.Constant (.int i) j pos) (tC (.int i)) := fun _ _ _ H _ I h => wpAny_Constant_int ⟨.int i, H, I.tok _, ⟨_, rfl⟩, h⟩
theorem pe_bl {b j pos} : PE X (.Constant (.bool b) j pos) (tC (.bl b)) := fun _ _ _ H _ I h => Constant_bool ⟨.bl b, H, I, rfl, h⟩
theorem pe_non {j pos} : PE X (.Constant .none j pos) (tC .non) := fun _ _ _ H _ I h => Constant_none ⟨.non, H, I, rfl, h⟩
theorem pe_str {x j pos} : PE X (.Constant (.str x) j pos) (tC (.str x)) := fun _ _ _ H _ I h => Calls.Constant_str ⟨.str x, H, I.tok _, ⟨_, rfl⟩, h⟩
noncomputable def Gl (X : Cx) (x : Str) : Prop := X.env.kindOf x = some .globalImplicit
theorem ld_glob {E : Value → Shared → Prop} {pins : List (Addr × Obj)} {s : Shared} {σ : St} {H : Hp} {x : Str} {u : Value} {pos : Pos} {Q : Value → Shared → Prop} (I : Inv X pins σ H s) (hg : Gl X x) (hm : X.mg x = some u) (h : Q u s)
    (hd : (x == ("__debug__" : Str)) = false := by decide) : wpAny (model X.prog X.w) X.A (eval (.Name x pos) X.env) Q E s :=
  Calls.Name_function_global I.ok.kind hg (Calls.loadGlobal_global (by rw [I.ok.glob]; exact I.mod.glob.keeps I.bk) hm h) hd
theorem ld_blt {E : Value → Shared → Prop} {pins : List (Addr × Obj)} {s : Shared} {σ : St} {H : Hp} {x : Str} {u : Value} {pos : Pos} {Q : Value → Shared → Prop} (I : Inv X pins σ H s) (hg : Gl X x) (hm : X.mg x = none) (hv : bootBuiltins x = some u) (h : Q u s)
    (hn : x ≠ "__name__" := by decide) (hd : (x == ("__debug__" : Str)) = false := by decide) : wpAny (model X.prog X.w) X.A (eval (.Name x pos) X.env) Q E s := by
  obtain ⟨mb, h1, h2⟩ := I.mod.blt
  exact Calls.Name_function_global I.ok.kind hg (Calls.loadGlobal_builtin (by rw [I.ok.glob]; exact I.mod.glob.keeps I.bk) hm (by rw [I.ok.blt]; exact h1.keeps I.bk) ((h2 x hn).trans hv) h) hd
theorem pe_glob {x : Str} {v : V} {u : Value} {pos : Pos} (hg : Gl X x) (hm : X.mg x = some u) (r : RelV v u) (hd : (x == ("__debug__" : Str)) = false := by decide) : PE X (.Name x pos) (tC v) :=
  fun _ _ _ H _ I h => ld_glob I hg hm ⟨v, H, I, r, h⟩ hd
theorem pe_bltn {x : Str} {v : V} {u : Value} {pos : Pos} (hg : Gl X x) (hm : X.mg x = none) (hv : bootBuiltins x = some u) (r : RelV v u) (hn : x ≠ "__name__" := by decide) (hd : (x == ("__debug__" : Str)) = false := by decide) : PE X (.Name x pos) (tC v) :=
  fun _ _ _ H _ I h => ld_blt I hg hm hv ⟨v, H, I, r, h⟩ hn hd
variable {a b : Expr} {ta tb : TE} {pos : Pos}
variable {tA tB' : TT} {rest : List Expr}
noncomputable def tOr (t u : TT) : TT := fun σ H Q => t σ H fun c H1 => if c = true then Q true H1 else u σ H1 Q
noncomputable def tNot (t : TT) : TT := fun σ H Q => t σ H fun c H1 => Q (!c) H1
theorem pw_or1 (ha : PT X a tA) : PW X (.BoolOp .Or [a] pos) tA := by
  intro wh pins s σ H Q I h
  refine isTrue_or (thn (ha pins s σ H Q I h) fun c s1 e => ?_)
  cases c with
  | false => exact isTrue_or_nil e
  | true => exact e
theorem pw_or (ha : PT X a tA) (hb : PW X (.BoolOp .Or (b :: rest) pos) tB') : PW X (.BoolOp .Or (a :: b :: rest) pos) (tOr tA tB') := by
  intro wh pins s σ H Q I h
  refine isTrue_or (thn (ha pins s σ H _ I h) fun c s1 ⟨H1, I1, q1⟩ => ?_)
  cases c with
  | true => exact ⟨H1, I1, q1⟩
  | false => exact hb wh pins s1 σ H1 Q I1 q1
theorem pt_not (ha : PT X a tA) : PT X (.UnaryOp .Not a pos) (tNot tA) := by
  intro pins s σ H Q I h
  exact isTrue_not (ha pins s σ H (fun c H1 => Q (!c) H1) I h)
noncomputable def tAndV (ta tb : TE) : TE := fun σ H Q => ta σ H fun x H1 => ∃ c, x = .bl c ∧ if c = true then tb σ H1 Q else Q (.bl false) H1
noncomputable def tNotV (ta : TE) : TE := fun σ H Q => ta σ H fun x H1 => ∃ c, x = .bl c ∧ Q (.bl (!c)) H1
theorem pe_one {op} {t : TE} (h : PE X a t) : PE X (.BoolOp op [a] pos) t := fun pins s σ H Q I hw => BoolOp_one (h pins s σ H Q I hw)
theorem pe_and (ha : PE X a ta) (hb : PE X (.BoolOp .And (b :: rest) pos) tb) : PE X (.BoolOp .And (a :: b :: rest) pos) (tAndV ta tb) := by
  intro pins s σ H Q I h
  refine BoolOp_and (thn (ha pins s σ H _ I h) fun v s1 ⟨x, H1, I1, r1, q1⟩ => ?_)
  obtain ⟨c, rfl, q1⟩ := q1
  cases r1
  refine wpAny_truthy_bool ?_
  cases c with
  | true => exact hb pins s1 σ H1 Q I1 q1
  | false => exact ⟨.bl false, H1, I1, rfl, q1⟩
theorem pe_not (ha : PE X a ta) : PE X (.UnaryOp .Not a pos) (tNotV ta) := by
  intro pins s σ H Q I h
  refine UnaryOp_ (thn (ha pins s σ H _ I h) fun v s1 ⟨x, H1, I1, r1, q1⟩ => ?_)
  obtain ⟨c, rfl, q1⟩ := q1
  cases r1
  exact not_of (wpAny_truthy_bool ⟨.bl (!c), H1, I1, rfl, q1⟩)
end
end L2
namespace L2
open PySem PySem.Spec PyProof.Rows
noncomputable def SqL (K : PySem.W.Frag) (H : Hp) (a : Addr) (xs : List V) : Prop :=
  Rd H a (.lst xs) ∨
    ∃ (o : Obj) (its : Array Value) (n : Nat), K.lookup a = some o ∧ o.cls = .type "list" ∧ o.dict = none ∧ o.data = .seq its n ∧ its.size ≤ sizeLine ∧ Vals xs its.toList
noncomputable def SqT (K : PySem.W.Frag) (H : Hp) (a : Addr) (xs : List V) : Prop :=
  Rd H a (.tup xs) ∨
    ∃ (o : Obj) (its : Array Value) (n : Nat), K.lookup a = some o ∧ o.cls = .type "tuple" ∧ o.data = .seq its n ∧ its.size ≤ sizeLine ∧ Vals xs its.toList
noncomputable def absV : Value → Option V
  | .none => some .non
  | .bool b => some (.bl b)
  | .int i _ => some (.int i)
  | .str x _ => some (.str x)
  | .bytes b _ => some (.byt b)
  | .float b _ => some (.flt b)
  | .ref a => some (.ref a)
  | .type n => some (.ty n)
  | _ => none
theorem RelV.abs {x : V} {u : Value} (r : RelV x u) : absV u = some x := by
  cases x with
  | non => cases r; rfl
  | bl _ => cases r; rfl
  | int _ => obtain ⟨t, rfl⟩ := r; rfl
  | str _ => obtain ⟨t, rfl⟩ := r; rfl
  | byt _ => obtain ⟨t, rfl⟩ := r; rfl
  | flt _ => obtain ⟨t, rfl⟩ := r; rfl
  | ref _ => cases r; rfl
  | ty _ => cases r; rfl
theorem RelV.inj {x y : V} {u : Value} (r : RelV x u) (q : RelV y u) : x = y := Option.some.inj (r.abs.symm.trans q.abs)
theorem Vals.inj : ∀ {xs ys : List V} {us : List Value}, Vals xs us → Vals ys us → xs = ys
  | _, _, _, .nil, .nil => rfl
  | _, _, _, .cons r t, .cons r' t' => by rw [r.inj r', Vals.inj t t']
section
variable {X : Cx} {pins : List (Addr × Obj)} {σ : St} {H : Hp} {s : Shared} {a : Addr} {xs ys : List V}
theorem SqL.of {K : PySem.W.Frag} (h : H a = some (.lst xs)) : SqL K H a xs := .inl (.inl h)
theorem SqT.of {K : PySem.W.Frag} (h : H a = some (.tup xs)) : SqT K H a xs := .inl (.inl h)
theorem Inv.list (I : Inv X pins σ H s) (h : SqL X.K H a xs) : ∃ its : List Value, Vals xs its ∧ PlainL s.heap a its.toArray ∧ xs.length ≤ sizeLine := by
  rcases h with h | ⟨o, its, n, hk, hc, hd, hs, hz, r⟩
  · obtain ⟨z, its, n, r, e⟩ := h.ok I.hok
    exact ⟨its, r, ⟨_, n, e, rfl, rfl, rfl⟩, z⟩
  · refine ⟨its.toList, r, ⟨o, n, I.kIn a o hk, hc, hd, by simpa using hs⟩, ?_⟩
    have e := r.length
    simp only [Array.length_toList] at e
    omega
theorem Inv.tuple (I : Inv X pins σ H s) (h : SqT X.K H a xs) : ∃ its : List Value, Vals xs its ∧ IsTup s.heap a its.toArray ∧ xs.length ≤ sizeLine := by
  rcases h with h | ⟨o, its, n, hk, hc, hs, hz, r⟩
  · obtain ⟨z, its, r, p⟩ := h.ok I.hok
    exact ⟨its, r, p, z⟩
  · refine ⟨its.toList, r, ⟨o, I.kIn a o hk, hc, n, by simpa using hs⟩, ?_⟩
    have e := r.length
    simp only [Array.length_toList] at e
    omega
theorem Inv.list_inj (I : Inv X pins σ H s) (h : SqL X.K H a xs) (h' : SqL X.K H a ys) : xs = ys := by
  obtain ⟨its, r, ⟨o, n, e, _, _, d⟩, _⟩ := I.list h
  obtain ⟨its', r', ⟨o', n', e', _, _, d'⟩, _⟩ := I.list h'
  rw [e] at e'; cases e'
  rw [d] at d'
  injection d' with d1 _
  have : its = its' := by simpa using congrArg Array.toList d1
  subst this
  exact r.inj r'
theorem Inv.tuple_inj (I : Inv X pins σ H s) (h : SqT X.K H a xs) (h' : SqT X.K H a ys) : xs = ys := by
  obtain ⟨its, r, ⟨o, e, _, n, d⟩, _⟩ := I.tuple h
  obtain ⟨its', r', ⟨o', e', _, n', d'⟩, _⟩ := I.tuple h'
  rw [e] at e'; cases e'
  rw [d] at d'
  injection d' with d1 _
  have : its = its' := by simpa using congrArg Array.toList d1
  subst this
  exact r.inj r'
end
noncomputable abbrev Cx.wish (X : Cx) (E : Value → Shared → Prop) : Cx := { X with xe := E }
noncomputable abbrev Cx.nox (X : Cx) : Cx := X.wish fun _ _ => False
theorem Cx.Ok.wish {X : Cx} (ok : X.Ok) (E : Value → Shared → Prop) : (X.wish E).Ok :=
  ⟨ok.mod, ok.kind, ok.glob, ok.blt, ok.above, ok.inj, ok.has, ok.cab, ok.hd, ok.frames, ok.stk, ok.exf, ok.bs, ok.bsz, ok.noex, ok.exfs, ok.funs, ok.frf⟩
theorem Cx.Ok.unwish {X : Cx} {E : Value → Shared → Prop} (ok : (X.wish E).Ok) : X.Ok :=
  ⟨ok.mod, ok.kind, ok.glob, ok.blt, ok.above, ok.inj, ok.has, ok.cab, ok.hd, ok.frames, ok.stk, ok.exf, ok.bs, ok.bsz, ok.noex, ok.exfs, ok.funs, ok.frf⟩
section
variable {X : Cx} {pins : List (Addr × Obj)} {σ : St} {H : Hp} {s : Shared} {E : Value → Shared → Prop}
theorem Inv.wish (I : Inv X pins σ H s) (E : Value → Shared → Prop) : Inv (X.wish E) pins σ H s := ⟨I.ok.wish E, I.os, I.bare, I.base, I.loc, I.cell, I.free, I.freeC, I.pin, I.hok, I.len⟩
theorem Inv.unwish (I : Inv (X.wish E) pins σ H s) : Inv X pins σ H s := ⟨I.ok.unwish, I.os, I.bare, I.base, I.loc, I.cell, I.free, I.freeC, I.pin, I.hok, I.len⟩
theorem SP.unwish {D : Ends} {f : Flow} {s' : Shared} (h : SP (X.wish E) pins D f s') : SP X pins D f s' := by
  cases f with
  | next => obtain ⟨σ', H', I, q⟩ := h; exact ⟨σ', H', I.unwish, q⟩
  | brk => obtain ⟨σ', H', I, q⟩ := h; exact ⟨σ', H', I.unwish, q⟩
  | cont => obtain ⟨σ', H', I, q⟩ := h; exact ⟨σ', H', I.unwish, q⟩
  | ret u => obtain ⟨v, σ', H', I, r, q⟩ := h; exact ⟨v, σ', H', I.unwish, r, q⟩
theorem PE.nox {e : Expr} {t : TE} (h : PE X.nox e t) : PE X e t := fun pins s σ H Q I hw =>
  wpAny_mono (h pins s σ H Q (I.wish _) hw) (fun _ _ ⟨v, H', I', r, q⟩ => ⟨v, H', I'.unwish, r, q⟩) fun _ _ z => False.elim z
theorem PT.nox {e : Expr} {t : TT} (h : PT X.nox e t) : PT X e t := fun pins s σ H Q I hw =>
  wpAny_mono (h pins s σ H Q (I.wish _) hw) (fun _ _ ⟨H', I', q⟩ => ⟨H', I'.unwish, q⟩) fun _ _ z => False.elim z
theorem PSs.nox {st : List Stmt} {t : TS} (h : PSs X.nox st t) : PSs X st t := fun pins s σ H D I hw =>
  wpAny_mono (h pins s σ H D (I.wish _) hw) (fun _ _ q => q.unwish) fun _ _ z => False.elim z
end
section
variable {X : Cx} {st : Stmt} {rest : List Stmt} {t u : TS} {e : Expr} {te : TE} {pos : Pos}
noncomputable def tNext : TS := fun D σ H => D.nx σ H
noncomputable def tSeq (t u : TS) : TS := fun D σ H => t { D with nx := u D } σ H
theorem pss_nil : PSs X [] tNext := fun _ _ σ H _ I h => wpAny_execs_nil ⟨σ, H, I, h⟩
theorem pss_cons (h1 : PS X st t) (h2 : PSs X rest u) : PSs X (st :: rest) (tSeq t u) := by
  intro pins s σ H D I h
  refine wpAny_execs_cons (thn (h1 pins s σ H { D with nx := u D } I h) fun f s1 q => ?_)
  cases f with
  | next =>
    obtain ⟨σ', H', I', q⟩ := q
    exact h2 pins s1 σ' H' D I' q
  | ret v => exact q
  | brk => exact q
  | cont => exact q
theorem Inv.quiet {pins : List (Addr × Obj)} {σ : St} {H : Hp} {s : Shared} (I : Inv X pins σ H s) : interactive X.env = false := by simp [interactive, I.ok.kind]
noncomputable def tDrop (te : TE) : TS := fun D σ H => te σ H fun _ H1 => D.nx σ H1
theorem ps_expr (he : PE X e te) (hs : swapsWith e none pos.line X.env = pure false := by rfl) : PS X (.Expr e pos) (tDrop te) := by
  intro pins s σ H D I h
  exact wpAny_Expr_any (thn (he pins s σ H _ I h) fun v s1 ⟨x, H1, I1, r1, q1⟩ => ⟨σ, H1, I1, q1⟩) I.quiet hs
noncomputable def tRet (te : TE) : TS := fun D σ H => te σ H D.rt
theorem ps_ret (he : PE X e te) : PS X (.Return (some e) pos) (tRet te) := by
  intro pins s σ H D I h
  exact wpAny_Return_some (thn (he pins s σ H _ I h) fun v s1 ⟨x, H1, I1, r1, q1⟩ => ⟨x, σ, H1, I1, r1, q1⟩)
noncomputable def tIfS (c : TT) (t u : TS) : TS := fun D σ H => c σ H fun b H1 => if b = true then t D σ H1 else u D σ H1
theorem ps_if {c : Expr} {a b : List Stmt} {tc : TT} (hc : PT X c tc) (ha : PSs X a t) (hb : PSs X b u) : PS X (.If c a b pos) (tIfS tc t u) := by
  intro pins s σ H D I h
  refine wpAny_If (thn (hc pins s σ H _ I h) fun d s1 ⟨H1, I1, q1⟩ => ?_)
  cases d with
  | true => exact ha pins s1 σ H1 D I1 q1
  | false => exact hb pins s1 σ H1 D I1 q1
end
noncomputable abbrev TG := V → St → Hp → (St → Hp → Prop) → Prop
noncomputable abbrev TGs := List V → St → Hp → (St → Hp → Prop) → Prop
noncomputable def PG (X : Cx) (target : Expr) (t : TG) : Prop :=
  ∀ (pins : List (Addr × Obj)) (s : Shared) (σ : St) (H : Hp) (v : V) (u : Value) (Q : St → Hp → Prop), Inv X pins σ H s → RelV v u → t v σ H Q →
    wpAny (model X.prog X.w) X.A (assign target X.env u) (fun _ s' => ∃ σ' H', Inv X pins σ' H' s' ∧ Q σ' H') X.xe s
noncomputable def PGs (X : Cx) (ts : List Expr) (t : TGs) : Prop :=
  ∀ (pins : List (Addr × Obj)) (s : Shared) (σ : St) (H : Hp) (vs : List V) (us : List Value) (Q : St → Hp → Prop), Inv X pins σ H s → Vals vs us → t vs σ H Q →
    wpAny (model X.prog X.w) X.A (assignInOrder ((assignEach ts X.env).map (·.2)) us) (fun _ s' => ∃ σ' H', Inv X pins σ' H' s' ∧ Q σ' H') X.xe s
noncomputable abbrev TSet := V → V → V → Hp → (Hp → Prop) → Prop
noncomputable def PSet (X : Cx) (t : TSet) : Prop :=
  ∀ (pins : List (Addr × Obj)) (s : Shared) (σ : St) (H : Hp) (o i v : V) (ov iv u : Value) (Q : Hp → Prop), Inv X pins σ H s → RelV o ov → RelV i iv → RelV v u → t o i v H Q →
    wpAny (model X.prog X.w) X.A (setItem ov iv u) (fun _ s' => ∃ H', Inv X pins σ H' s' ∧ Q H') X.xe s
section
variable {X : Cx} {pos : Pos}
noncomputable def gName (i : Nat) : TG := fun v σ H Q => Q (σ.set i (some v)) H
theorem pg_name {i : Nat} {x : Str} (hN : X.N.Nodup) (hi : X.N[i]? = some x) (hx : Loc X.env.scope x) (hf : X.fn x = true ∨ X.env.scope.names.lookup x = some .local := by first | exact .inl rfl | exact .inr rfl | assumption) : PG X (.Name x pos) (gName i) := by
  intro pins s σ H v u Q I r h
  exact wpAny_assign_Name (store_ok I hN hi hx r (fun s' I' => ⟨_, H, I', h⟩) hf)
noncomputable def gNil : TGs := fun vs σ H Q => vs = [] ∧ Q σ H
noncomputable def gCons (t : TG) (u : TGs) : TGs := fun vs σ H Q => ∃ v r, vs = v :: r ∧ t v σ H fun σ' H' => u r σ' H' Q
noncomputable def gSub (to ti : TE) (t : TSet) : TG := fun v σ H Q => to σ H fun o H1 => ti σ H1 fun i H2 => t o i v H2 fun H3 => Q σ H3
theorem pg_sub {o i : Expr} {to ti : TE} {t : TSet} (ho : PE X o to) (hi : PE X i ti) (hs : PSet X t)
    (ha : ∀ v, assign (.Subscript o i pos) X.env v = (do
      let ov ← holding [v] (eval o X.env)
      let iv ← holding [v, ov] (eval i X.env)
      standAt pos
      holding [v, ov, iv] (setItem ov iv v)
      release [v, ov, iv] []) := by intro _; rfl) : PG X (.Subscript o i pos) (gSub to ti t) := by
  intro pins s σ H v u Q I r h
  rw [ha]
  refine wpAny_bind (wpAny_holding (thn (ho pins s σ H _ I h) fun ov s1 ⟨x, H1, I1, r1, q1⟩ => ?_))
  refine wpAny_bind (wpAny_holding (thn (hi pins s1 σ H1 _ I1 q1) fun iv s2 ⟨y, H2, I2, r2, q2⟩ => ?_))
  refine wpAny_bind (wpAny_standAt (wpAny_bind (wpAny_holding (thn (hs pins s2 σ H2 x y v ov iv u _ I2 r1 r2 r q2) fun _ s3 ⟨H3, I3, q3⟩ => ?_))))
  exact wpAny_release ⟨σ, H3, I3, q3⟩
noncomputable def tAsg (te : TE) (g : TG) : TS := fun D σ H => te σ H fun x H1 => g x σ H1 D.nx
theorem ps_asg {tg e : Expr} {te : TE} {g : TG} (he : PE X e te) (hg : PG X tg g) (hs : swapsWithSole [tg] e pos.line X.env = pure false := by rfl) (hw : swappedStores [tg] e X.env = pure none := by rfl)
    (h1 : (assignEach [tg] X.env).map (·.2) = [assign tg X.env] := by rfl) : PS X (.Assign [tg] e pos) (tAsg te g) := by
  intro pins s σ H D I h
  refine wpAny_Assign_stores (thn (he pins s σ H _ I h) fun v s1 ⟨x, H1, I1, r1, q1⟩ => ?_) hs hw
  rw [h1]
  exact thn (hg pins s1 σ H1 x v _ I1 r1 q1) fun _ s2 q => q
theorem ps_set {i : Nat} {x : Str} {e : Expr} {te : TE} {pos' : Pos} (hN : X.N.Nodup) (hi : X.N[i]? = some x) (hx : Loc X.env.scope x) (he : PE X e te) (hs : swapsWith e (some (.Name x pos')) pos.line X.env = pure false := by rfl) (hf : X.fn x = true ∨ X.env.scope.names.lookup x = some .local := by first | exact .inl rfl | exact .inr rfl | assumption) :
    PS X (.Assign [.Name x pos'] e pos) (tAsg te (gName i)) := by
  intro pins s σ H D I h
  refine wpAny_Assign_Name (thn (he pins s σ H _ I h) fun v s1 ⟨y, H1, I1, r1, q1⟩ => ?_) hs
  exact store_ok I1 hN hi hx r1 (fun s2 I2 => ⟨_, H1, I2, q1⟩) hf
end
section
variable {X : Cx} {pos : Pos}
end
structure It where
  go : Nat → Hp → Prop
  yld : Nat → Hp → V → Hp → Prop
  stop : Nat → Hp → Prop
noncomputable def FpOk (X : Cx) (pins : List (Addr × Obj)) (H : Hp) (b : Addr) : Prop :=
  H b = none ∧ b ≠ X.env.locals ∧ b ∉ X.fs ∧ (b ∈ X.ex ∨ X.s₀.heap.objs.size ≤ b) ∧ (∀ x c, X.env.cells.lookup x = some c → c ≠ b) ∧ ∀ p ∈ X.pn ++ pins, p.1 ≠ b
theorem Inv.fpOk {X : Cx} {pins : List (Addr × Obj)} {σ : St} {H H' : Hp} {s : Shared} {b : Addr} (I : Inv X pins σ H s) (hb : s.heap.objs.size ≤ b) (hn : H' b = none) : FpOk X pins H' b := by
  refine ⟨hn, Nat.ne_of_gt (Nat.lt_of_lt_of_le I.lt hb), I.nofs hb, .inr (Nat.le_trans I.sz hb), fun x c e z => ?_, fun p hp z => ?_⟩
  · obtain ⟨v, q⟩ := I.cell x c e
    exact absurd (Nat.lt_of_lt_of_le q.lt (by rw [z]; exact hb)) (Nat.lt_irrefl _)
  · exact absurd (Nat.lt_of_lt_of_le (Heap.lt_size (I.pin p hp).1) (by rw [z]; exact hb)) (Nat.lt_irrefl _)
structure Turn (P : Program) (w : World) (K : PySem.W.Frag) (tg : Expr) (J : It) (fp : List Addr) (it : Addr) (tn : Nat → Heap → Prop) : Prop where
  mem : it ∈ fp
  obj : ∀ i h, tn i h → ∀ b ∈ fp, ∃ o, h.get? b = some o ∧ ∀ v, o.data ≠ .cell v
  keep : ∀ i h h', tn i h → (∀ b ∈ fp, ∀ o, h.get? b = some o → h'.get? b = some o) → tn i h'
  item : ∀ (X : Cx), X.prog = P → X.w = w → X.K = K → X.calm = true → ∀ (i : Nat) (pins : List (Addr × Obj)) (s : Shared) (σ : St) (H : Hp) (E : Value → Shared → Prop), Inv X pins σ H s → (∀ b ∈ fp, FpOk X pins H b) → tn i s.heap → J.go i H →
    wpAny (model P w) X.A (pyNext (.ref it)) (fun r s1 => ∃ u, r = some u ∧
      wpAny (model P w) X.A (letOwnedTupleGo tg (.ref it) u) (fun _ s2 => ∃ x H', Inv X pins σ H' s2 ∧ RelV x u ∧ J.yld i H x H' ∧ tn (i + 1) s2.heap ∧ ∀ b ∈ fp, H' b = none) E s1) E s
  done : ∀ (X : Cx), X.prog = P → X.w = w → X.K = K → X.calm = true → ∀ (i : Nat) (pins : List (Addr × Obj)) (s : Shared) (σ : St) (H : Hp) (E : Value → Shared → Prop), Inv X pins σ H s → (∀ b ∈ fp, FpOk X pins H b) → tn i s.heap → J.stop i H →
    wpAny (model P w) X.A (pyNext (.ref it)) (fun r s1 => r = none ∧ Inv X pins σ H s1) E s
  self : ∀ (A : Around) (i : Nat) (s : Shared) (Q : Value → Shared → Prop) (E : Value → Shared → Prop), tn i s.heap → Q (.ref it) s → wpAny (model P w) A (pyIter (.ref it)) Q E s
noncomputable abbrev TI := St → Hp → (It → Hp → Prop) → Prop
noncomputable def PIE (X : Cx) (pins : List (Addr × Obj)) (σ : St) (tg : Expr) (R : It → Hp → Prop) (itv : Value) (s2 : Shared) : Prop :=
  ∃ (it : Addr) (fp : List Addr) (tn : Nat → Heap → Prop) (J : It) (H' : Hp), itv = .ref it ∧ Inv X pins σ H' s2 ∧ Turn X.prog X.w X.K tg J fp it tn ∧ tn 0 s2.heap ∧ (∀ b ∈ fp, FpOk X pins H' b) ∧ R J H'
noncomputable def PI (X : Cx) (tg iter : Expr) (wi : TI) : Prop :=
  ∀ (pins : List (Addr × Obj)) (s : Shared) (σ : St) (H : Hp) (R : It → Hp → Prop), Inv X pins σ H s → wi σ H R →
    wpAny (model X.prog X.w) X.A (eval iter X.env) (fun v s1 => wpAny (model X.prog X.w) X.A (pyIter v) (PIE X pins σ tg R) X.xe s1) X.xe s
theorem go_of {M : Model} {A : Around} {E : Value → Shared → Prop} {s : Shared} {tg : Expr} {it : Addr} {u : Value} {o : Obj} {n : String} {vs : Array Value} {Q : Unit → Shared → Prop} (ho : s.heap.get? it = some o) (hc : o.cls = .type n) (hd : o.data = .fields vs)
    (hn : ["enumerate", "zip", "dict_itemiterator", "dict_reverseitemiterator", "odict_iterator", "itertools.zip_longest", "itertools.pairwise"].contains n = false) (hQ : Q () s) : wpAny M A (letOwnedTupleGo tg (.ref it) u) Q E s := by
  unfold letOwnedTupleGo
  cases tg <;> first
    | exact wpAny_pure hQ
    | (cases u <;> first
        | exact wpAny_pure hQ
        | (refine wpAny_bind (wpAny_load ho ?_)
           rw [hc, hd]
           show wpAny M A (if (["enumerate", "zip", "dict_itemiterator", "dict_reverseitemiterator", "odict_iterator", "itertools.zip_longest", "itertools.pairwise"].contains n && vs[0]? == some (rawInt _)) = true then _ else _) Q E s
           rw [if_neg (by intro h; rw [hn, Bool.false_and] at h; cases h)]
           exact wpAny_pure hQ))
noncomputable def Itl (K : PySem.W.Frag) (a : Addr) : It :=
  ⟨fun i H => ∃ xs x, SqL K H a xs ∧ xs[i]? = some x, fun i H x H' => H' = H ∧ ∀ xs, SqL K H a xs → xs[i]? = some x, fun i H => ∃ xs, SqL K H a xs ∧ xs.length ≤ i⟩
noncomputable def Itt (K : PySem.W.Frag) (a : Addr) : It :=
  ⟨fun i H => ∃ xs x, SqT K H a xs ∧ xs[i]? = some x, fun i H x H' => H' = H ∧ ∀ xs, SqT K H a xs → xs[i]? = some x, fun i H => ∃ xs, SqT K H a xs ∧ xs.length ≤ i⟩
noncomputable def Itr (lo : Int) (n : Nat) : It := ⟨fun i _ => i < n, fun i H x H' => H' = H ∧ x = .int (lo + i), fun i _ => n ≤ i⟩
theorem turn_list {P : Program} {w : World} {K : PySem.W.Frag} {tg : Expr} (a it : Addr) : Turn P w K tg (Itl K a) [it] it (fun i h => h.IsListIter it a i) where
  mem := by simp
  obj := fun i h st b hb => by
    have e : b = it := by simpa using hb
    subst e
    obtain ⟨o, e, c, d⟩ := st
    exact ⟨o, e, fun v z => by rw [d] at z; cases z⟩
  keep := fun i h h' st k => st.at fun o e => k it (by simp) o e
  item := by
    intro X hP hw hK hc i pins s σ H E I hf st hg
    subst hP hw hK
    obtain ⟨xs, x, hq, hx⟩ := hg
    obtain ⟨its, rv, p, hz⟩ := I.list hq
    obtain ⟨u, hu, ru⟩ := rv.get hx
    obtain ⟨f0, f1, f2, f3, f4, f5⟩ := hf it (by simp)
    refine wpAny_pyNext_list_item st p.isList (x := u) (by simpa using hu) fun h' st' sb => ?_
    have I1 : Inv X pins σ H { s with heap := h' } := I.turned (t' := s.toks) (fun b o hb e => (sb.2 b hb).trans e) f0 f1 f3 f4 f5
    obtain ⟨o, e, c, d⟩ := id st'
    exact ⟨u, rfl, go_of (s := { s with heap := h' }) e c d (by decide) ⟨x, H, I1, ru, ⟨rfl, fun ys hy => by rw [I.list_inj hy hq]; exact hx⟩, st', fun b hb => (hf b hb).1⟩⟩
  done := by
    intro X hP hw hK hc i pins s σ H E I hf st hg
    subst hP hw hK
    obtain ⟨xs, hq, hx⟩ := hg
    obtain ⟨its, rv, p, hz⟩ := I.list hq
    obtain ⟨f0, f1, f2, f3, f4, f5⟩ := hf it (by simp)
    have hl := rv.length
    exact wpAny_pyNext_list_end (I.ok.hd hc) st p.isList (by simp; omega) fun h' eb => ⟨rfl, I.turned (t' := s.toks) (fun b o hb e => eb b o hb e) f0 f1 f3 f4 f5⟩
  self := fun _ _ _ _ _ st h => wpAny_pyIter_listiter st h
theorem turn_tuple {P : Program} {w : World} {K : PySem.W.Frag} {tg : Expr} (a it : Addr) : Turn P w K tg (Itt K a) [it] it (fun i h => h.IsTupleIter it a i) where
  mem := by simp
  obj := fun i h st b hb => by
    have e : b = it := by simpa using hb
    subst e
    obtain ⟨o, e, c, d⟩ := st
    exact ⟨o, e, fun v z => by rw [d] at z; cases z⟩
  keep := fun i h h' st k => st.at fun o e => k it (by simp) o e
  item := by
    intro X hP hw hK hc i pins s σ H E I hf st hg
    subst hP hw hK
    obtain ⟨xs, x, hq, hx⟩ := hg
    obtain ⟨its, rv, p, hz⟩ := I.tuple hq
    obtain ⟨u, hu, ru⟩ := rv.get hx
    obtain ⟨f0, f1, f2, f3, f4, f5⟩ := hf it (by simp)
    refine wpAny_pyNext_tuple_item st (show s.heap.IsTuple a its.toArray from p) (x := u) (by simpa using hu) fun h' st' sb => ?_
    have I1 : Inv X pins σ H { s with heap := h' } := I.turned (t' := s.toks) (fun b o hb e => (sb.2 b hb).trans e) f0 f1 f3 f4 f5
    obtain ⟨o, e, c, d⟩ := id st'
    exact ⟨u, rfl, go_of (s := { s with heap := h' }) e c d (by decide) ⟨x, H, I1, ru, ⟨rfl, fun ys hy => by rw [I.tuple_inj hy hq]; exact hx⟩, st', fun b hb => (hf b hb).1⟩⟩
  done := by
    intro X hP hw hK hc i pins s σ H E I hf st hg
    subst hP hw hK
    obtain ⟨xs, hq, hx⟩ := hg
    obtain ⟨its, rv, p, hz⟩ := I.tuple hq
    obtain ⟨f0, f1, f2, f3, f4, f5⟩ := hf it (by simp)
    have hl := rv.length
    exact wpAny_pyNext_tuple_end (I.ok.hd hc) st (show s.heap.IsTuple a its.toArray from p) (by simp; omega) fun h' eb => ⟨rfl, I.turned (t' := s.toks) (fun b o hb e => eb b o hb e) f0 f1 f3 f4 f5⟩
  self := fun _ _ _ _ _ st h => wpAny_pyIter_tupleiter st h
theorem turn_range {P : Program} {w : World} {K : PySem.W.Frag} {tg : Expr} (it : Addr) (lo : Int) (n : Nat) : Turn P w K tg (Itr lo n) [it] it (fun i h => IsRangeIter h it (lo + (i : Nat) * 1) ((n : Int) - (i : Nat)) 1) where
  mem := by simp
  obj := fun i h st b hb => by
    have e : b = it := by simpa using hb
    subst e
    exact ⟨_, st, fun v z => by
      have z' : Data.fields _ = Data.cell v := z
      cases z'⟩
  keep := fun i h h' st k => k it (by simp) _ st
  item := by
    intro X hP hw hK hc i pins s σ H E I hf st hg
    subst hP hw hK
    obtain ⟨f0, f1, f2, f3, f4, f5⟩ := hf it (by simp)
    have W := Walks.range (prog := X.prog) (w := X.w) (I.ok.hd hc) it lo 1 n
    refine W.item i s _ _ hg st fun v h' tk hv st' kk => ?_
    obtain ⟨t, rfl⟩ := hv
    have I1 : Inv X pins σ H { s with heap := h', toks := tk } := I.turned (fun b o hb e => kk b o (by simpa using hb) e) f0 f1 f3 f4 f5
    refine ⟨_, rfl, go_of (s := { s with heap := h', toks := tk }) (n := "range_iterator") st' rfl rfl (by decide) ⟨.int (lo + i), H, I1, ⟨t, ?_⟩, ⟨rfl, rfl⟩, st', fun b hb => (hf b hb).1⟩⟩
    rw [Int.mul_one]
  done := by
    intro X hP hw hK hc i pins s σ H E I hf st hg
    subst hP hw hK
    obtain ⟨f0, f1, f2, f3, f4, f5⟩ := hf it (by simp)
    exact wpAny_pyNext_range_end (I.ok.hd hc) st (by have : n ≤ i := hg; omega) fun h' eb => ⟨rfl, I.turned (t' := s.toks) (fun b o hb e => eb b o hb e) f0 f1 f3 f4 f5⟩
  self := fun _ _ _ _ _ st h => wpAny_pyIter_rangeiter st h
end L2
namespace L2
open PySem PySem.Spec PyProof.Rows
section
variable {X : Cx} {tg : Expr}
noncomputable def iList (K : PySem.W.Frag) (tl : TE) : TI := fun σ H R => tl σ H fun x H1 => ∃ a, x = .ref a ∧ (∃ xs, SqL K H1 a xs) ∧ R (Itl K a) H1
noncomputable def iTup (K : PySem.W.Frag) (tl : TE) : TI := fun σ H R => tl σ H fun x H1 => ∃ a, x = .ref a ∧ (∃ xs, SqT K H1 a xs) ∧ R (Itt K a) H1
theorem pi_list {l : Expr} {tl : TE} (hl : PE X l tl) : PI X tg l (iList X.K tl) := by
  intro pins s σ H R I h
  refine thn (hl pins s σ H _ I h) fun v s1 ⟨x, H1, I1, r1, q1⟩ => ?_
  obtain ⟨a, e, ⟨xs, hq⟩, q⟩ := q1
  subst e
  cases r1
  obtain ⟨its, rv, p, hz⟩ := I1.list hq
  refine wpAny_pyIter_list p.isList ?_
  refine ⟨s1.heap.objs.size, [s1.heap.objs.size], _, _, H1, rfl, I1.kept (t' := s1.toks) fun b o e => Heap.get?_push_of_some _ e, turn_list a _, ⟨_, Heap.get?_push_size _ rfl, rfl, rfl⟩, fun b hb => ?_, q⟩
  have e : b = s1.heap.objs.size := by simpa using hb
  subst e
  exact I1.fpOk (Nat.le_refl _) (I1.hok.fresh (Nat.le_refl _))
theorem pi_tup {l : Expr} {tl : TE} (hl : PE X l tl) : PI X tg l (iTup X.K tl) := by
  intro pins s σ H R I h
  refine thn (hl pins s σ H _ I h) fun v s1 ⟨x, H1, I1, r1, q1⟩ => ?_
  obtain ⟨a, e, ⟨xs, hq⟩, q⟩ := q1
  subst e
  cases r1
  obtain ⟨its, rv, p, hz⟩ := I1.tuple hq
  refine wpAny_pyIter_tuple (show s1.heap.IsTuple a its.toArray from p) ?_
  refine ⟨s1.heap.objs.size, [s1.heap.objs.size], _, _, H1, rfl, I1.kept (t' := s1.toks) fun b o e => Heap.get?_push_of_some _ e, turn_tuple a _, ⟨_, Heap.get?_push_size _ rfl, rfl, rfl⟩, fun b hb => ?_, q⟩
  have e : b = s1.heap.objs.size := by simpa using hb
  subst e
  exact I1.fpOk (Nat.le_refl _) (I1.hok.fresh (Nat.le_refl _))
theorem range_it {pins : List (Addr × Obj)} {σ : St} {H : Hp} {s : Shared} {R : It → Hp → Prop} {E : Value → Shared → Prop} {lo hi : Int} {t u v : Tok} {tk : Nat} (I : Inv X pins σ H s) (h1 : -(2 ^ 62) ≤ lo) (h2 : lo < 2 ^ 62) (h3 : -(2 ^ 62) ≤ hi) (h4 : hi < 2 ^ 62)
    (q : R (Itr lo (hi - lo).toNat) H) : wpAny (model X.prog X.w) X.A (pyIter (.ref s.heap.objs.size)) (PIE X pins σ tg R) E { s with heap := s.heap.push { cls := .type "range", data := .fields #[.int lo t, .int hi u, .int 1 v] }, toks := tk } := by
  refine wpAny_pyIter_range (IsRange.new ..) (small_one h1 h2 h3 h4) ?_
  have I1 : Inv X pins σ H { s with heap := s.heap.push { cls := .type "range", data := .fields #[.int lo t, .int hi u, .int 1 v] }, toks := tk } := I.kept fun b o e => Heap.get?_push_of_some _ e
  refine ⟨(s.heap.push { cls := .type "range", data := .fields #[.int lo t, .int hi u, .int 1 v] }).objs.size, [(s.heap.push { cls := .type "range", data := .fields #[.int lo t, .int hi u, .int 1 v] }).objs.size], _, _, H, rfl,
    I1.kept (t' := tk) fun b o e => Heap.get?_push_of_some _ e, turn_range _ lo (hi - lo).toNat, ?_, fun b hb => ?_, q⟩
  · have e1 : lo + ((0 : Nat) : Int) * 1 = lo := by simp
    have e2 : (((hi - lo).toNat : Nat) : Int) - ((0 : Nat) : Int) = Builtin.Range.rangeSize lo hi 1 := by rw [rangeSize_one]; split <;> omega
    show IsRangeIter _ _ (lo + ((0 : Nat) : Int) * 1) ((((hi - lo).toNat : Nat) : Int) - ((0 : Nat) : Int)) 1
    rw [e1, e2]
    exact Heap.get?_push_size _ rfl
  · have e : b = (s.heap.push { cls := .type "range", data := .fields #[.int lo t, .int hi u, .int 1 v] }).objs.size := by simpa using hb
    subst e
    exact I1.fpOk (Nat.le_refl _) (I1.hok.fresh (Nat.le_refl _))
noncomputable def iRng1 (ta : TA) : TI := fun σ H R => ta σ H fun vs H1 => ∃ j : Int, vs = [.int j] ∧ -(2 ^ 62) ≤ j ∧ j < 2 ^ 62 ∧ R (Itr 0 j.toNat) H1
noncomputable def iRng2 (ta : TA) : TI := fun σ H R => ta σ H fun vs H1 => ∃ i j : Int, vs = [.int i, .int j] ∧ (-(2 ^ 62) ≤ i ∧ i < 2 ^ 62 ∧ -(2 ^ 62) ≤ j ∧ j < 2 ^ 62) ∧ R (Itr i (j - i).toNat) H1
theorem pi_range1 {a : Expr} {ta : TA} {p pos : Pos} (hg : Gl X "range") (hm : X.mg "range" = none) (ha : PA X [a] ta) (hs : starEach [a] X.env = [(false, eval a X.env)] := by rfl) : PI X tg (.Call (.Name "range" p) [a] [] pos) (iRng1 ta) := by
  intro pins s σ H R I h
  refine Call_ (ld_blt I hg hm boot_range (PyProof.Rows.callWith_type1 (thn (ha pos pins s σ H _ I h) fun us s1 ⟨vs, H1, I1, r1, q1⟩ => ?_) hs rfl))
  obtain ⟨j, e, q1, q2, q⟩ := q1
  subst e
  cases r1 with
  | cons r rr =>
    cases rr
    obtain ⟨t, rfl⟩ := r
    exact call_range_1 (range_it I1 (by omega) (by omega) q1 q2 (by simpa using q))
theorem pi_range2 {a b : Expr} {ta : TA} {p pos : Pos} (hg : Gl X "range") (hm : X.mg "range" = none) (ha : PA X [a, b] ta) (hs : starEach [a, b] X.env = [(false, eval a X.env), (false, eval b X.env)] := by rfl) (hs2 : starEach [b] X.env = [(false, eval b X.env)] := by rfl) :
    PI X tg (.Call (.Name "range" p) [a, b] [] pos) (iRng2 ta) := by
  intro pins s σ H R I h
  refine Call_ (ld_blt I hg hm boot_range (PyProof.Rows.callWith_type1 (thn (ha pos pins s σ H _ I h) fun us s1 ⟨vs, H1, I1, r1, q1⟩ => ?_) (by rw [hs, hs2]) (by rw [hs2]; rfl)))
  obtain ⟨i, j, e, ⟨q1, q2, q3, q4⟩, q⟩ := q1
  subst e
  cases r1 with
  | cons r rr =>
    cases rr with
    | cons r' rr =>
      cases rr
      obtain ⟨t, rfl⟩ := r
      obtain ⟨t', rfl⟩ := r'
      exact call_range_2 (range_it I1 q1 q2 q3 q4 q)
noncomputable def tFor (wi : TI) (g : TG) (tb : TS) : TS := fun D σ H => wi σ H fun J H1 => ∃ W : Nat → Nat → St → Hp → Prop, (∃ m, W 0 m σ H1) ∧ ∀ i m σ H, W i m σ H →
  (J.stop i H ∧ D.nx σ H) ∨ (J.go i H ∧ ∃ N : St → Hp → Prop, (∀ σ' H', N σ' H' → ∃ m', m' < m ∧ W (i + 1) m' σ' H') ∧ ∀ x H', J.yld i H x H' → g x σ H' fun σ2 H2 => tb { D with nx := N, ct := N, bk := D.nx } σ2 H2)
noncomputable def pinsAt (fp : List Addr) (h : Heap) : List (Addr × Obj) := fp.filterMap fun b => (h.get? b).map fun o => (b, o)
theorem mem_pinsAt {fp : List Addr} {h : Heap} {b : Addr} {o : Obj} (hb : b ∈ fp) (e : h.get? b = some o) : (b, o) ∈ pinsAt fp h := List.mem_filterMap.mpr ⟨b, hb, by rw [e]; rfl⟩
theorem of_pinsAt {fp : List Addr} {h : Heap} {p : Addr × Obj} (hp : p ∈ pinsAt fp h) : p.1 ∈ fp ∧ h.get? p.1 = some p.2 := by
  obtain ⟨b, hb, e⟩ := List.mem_filterMap.mp hp
  cases q : h.get? b with
  | none => rw [q] at e; cases e
  | some o =>
    rw [q] at e
    have e' : (b, o) = p := Option.some.inj e
    subst e'
    exact ⟨hb, q⟩
theorem Inv.pinned {pins : List (Addr × Obj)} {σ : St} {H : Hp} {s : Shared} {fp : List Addr} (I : Inv X pins σ H s) (hf : ∀ b ∈ fp, FpOk X pins H b) (ho : ∀ b ∈ fp, ∃ o, s.heap.get? b = some o ∧ ∀ v, o.data ≠ .cell v) : Inv X (pins ++ pinsAt fp s.heap) σ H s :=
  I.pins_of fun p hp => (List.mem_append.mp hp).elim (fun z => I.pin p (List.mem_append_right _ z)) fun z => by
    obtain ⟨hb, e⟩ := of_pinsAt z
    obtain ⟨f0, f1, f2, _⟩ := hf p.1 hb
    obtain ⟨o, e', d⟩ := ho p.1 hb
    rw [e] at e'; cases e'
    exact ⟨e, f0, f1, f2, d⟩
theorem Inv.unpinned {pins pl : List (Addr × Obj)} {σ : St} {H : Hp} {s : Shared} (I : Inv X (pins ++ pl) σ H s) : Inv X pins σ H s := I.pins_of fun p hp => I.pin p (List.mem_append_right _ (List.mem_append_left _ hp))
theorem ps_for {iter : Expr} {body : List Stmt} {wi : TI} {g : TG} {tb : TS} {pos : Pos} (hp : PassesOwn (model X.prog X.w) X.A X.env X.xe) (hc : X.calm = true) (hi : PI X tg iter wi) (hg : PG X tg g) (hb : PSs X body tb)
    (hs : ∀ x, foldedSetIterable iter X.env x = pure x := by intro _; rfl) : PS X (.For tg iter body [] pos) (tFor wi g tb) := by
  intro pins s σ H D I h
  refine wpAny_For (thn (hi pins s σ H _ I h) fun v s1 h1 => thn h1 fun itv s2 h2 => ?_) hs
  obtain ⟨it, fp, tn, J, H2, e, I2, T, st2, f2, W, ⟨m0, w0⟩, turn⟩ := h2
  subst e
  have stat : ∀ {H' : Hp}, (∀ b ∈ fp, H' b = none) → ∀ b ∈ fp, FpOk X pins H' b := fun hn b hb => ⟨hn b hb, (f2 b hb).2⟩
  refine codeAny_forLoop_any (fun n s' => ∃ i σ' H', Inv X pins σ' H' s' ∧ tn i s'.heap ∧ (∀ b ∈ fp, H' b = none) ∧ W i n σ' H') ?_ m0 ⟨0, σ, H2, I2, st2, fun b hb => (f2 b hb).1, w0⟩
  rintro n s3 ⟨i, σ3, H3, I3, st3, fr3, w3⟩
  rcases turn i n σ3 H3 w3 with ⟨stop, qn⟩ | ⟨go, N, hN, step⟩
  · refine wpAny_passesOwn hp (thn (T.done X rfl rfl rfl hc i pins s3 σ3 H3 X.xe I3 (stat fr3) st3 stop) fun r s4 ⟨hr, I4⟩ => ?_)
    subst hr
    exact wpAny_execs_nil ⟨σ3, H3, I4, qn⟩
  · refine wpAny_passesOwn hp (thn (T.item X rfl rfl rfl hc i pins s3 σ3 H3 X.xe I3 (stat fr3) st3 go) fun r s4 ⟨u, hr, h4⟩ => ?_)
    subst hr
    refine wpAny_passesOwn hp (thn h4 fun _ s5 ⟨x, H5, I5, r5, y5, st5, fr5⟩ => ?_)
    have I5' := I5.pinned (stat fr5) (T.obj _ _ st5)
    refine wpAny_passesOwn hp (thn (hg _ s5 σ3 H5 x u _ I5' r5 (step x H5 y5)) fun _ s6 ⟨σ6, H6, I6, q6⟩ => ?_)
    refine wpAny_passesOwn hp (thn (hb _ s6 σ6 H6 _ I6 q6) fun f s7 q7 => ?_)
    have again : ∀ {σ7 : St} {H7 : Hp}, Inv X (pins ++ pinsAt fp s5.heap) σ7 H7 s7 → N σ7 H7 → ∃ m, m < n ∧ ∃ i σ' H', Inv X pins σ' H' s7 ∧ tn i s7.heap ∧ (∀ b ∈ fp, H' b = none) ∧ W i m σ' H' := fun {σ7 H7} I7 n7 => by
      obtain ⟨m', hm, w7⟩ := hN σ7 H7 n7
      refine ⟨m', hm, i + 1, σ7, H7, I7.unpinned, T.keep _ _ _ st5 fun b hb o e => (I7.pin (b, o) (List.mem_append_right _ (List.mem_append_right _ (mem_pinsAt hb e)))).1, fun b hb => ?_, w7⟩
      obtain ⟨o, e, d⟩ := T.obj _ _ st5 b hb
      exact (I7.pin (b, o) (List.mem_append_right _ (List.mem_append_right _ (mem_pinsAt hb e)))).2.1
    cases f with
    | next => obtain ⟨σ7, H7, I7, n7⟩ := q7; exact again I7 n7
    | cont => obtain ⟨σ7, H7, I7, n7⟩ := q7; exact again I7 n7
    | brk => obtain ⟨σ7, H7, I7, q7⟩ := q7; exact ⟨σ7, H7, I7.unpinned, q7⟩
    | ret v => obtain ⟨x7, σ7, H7, I7, r7, q7⟩ := q7; exact ⟨x7, σ7, H7, I7.unpinned, r7, q7⟩
end
end L2
namespace L2
open PySem PySem.Spec PyProof.Rows
noncomputable abbrev R2 := V → V → Hp → VK → Prop
noncomputable def OpR (X : Cx) (f : Value → Value → Sem Value) (r : R2) : Prop :=
  ∀ (pins : List (Addr × Obj)) (s : Shared) (σ : St) (H : Hp) (x y : V) (v u : Value) (Q : VK), Inv X pins σ H s → RelV x v → RelV y u → r x y H Q →
    wpAny (model X.prog X.w) X.A (f v u) (EP X pins σ Q) X.xe s
noncomputable def CallR (X : Cx) (f : Value) (r : List V → Hp → VK → Prop) : Prop :=
  ∀ (pins : List (Addr × Obj)) (s : Shared) (σ : St) (H : Hp) (xs : List V) (us : List Value) (Q : VK), Inv X pins σ H s → Vals xs us → r xs H Q →
    wpAny (model X.prog X.w) X.A (call f us) (EP X pins σ Q) X.xe s
noncomputable def TruR (X : Cx) (r : V → Hp → (Bool → Hp → Prop) → Prop) : Prop :=
  ∀ (pins : List (Addr × Obj)) (s : Shared) (σ : St) (H : Hp) (x : V) (v : Value) (Q : Bool → Hp → Prop), Inv X pins σ H s → RelV x v → r x H Q →
    wpAny (model X.prog X.w) X.A (truthy v) (TP X pins σ Q) X.xe s
noncomputable def tOp (r : R2) (ta tb : TE) : TE := fun σ H Q => ta σ H fun x H1 => tb σ H1 fun y H2 => r x y H2 Q
noncomputable def tUn (r : V → Hp → VK → Prop) (ta : TE) : TE := fun σ H Q => ta σ H fun x H1 => r x H1 Q
noncomputable def rI (C : Int → Int → Prop) (g : Int → Int → V) : R2 := fun x y H Q => ∃ i j, x = .int i ∧ y = .int j ∧ C i j ∧ Q (g i j) H
noncomputable def rI0 (g : Int → Int → V) : R2 := fun x y H Q => ∃ i j, x = .int i ∧ y = .int j ∧ Q (g i j) H
section
variable {X : Cx} {a b c : Expr} {ta tb tc : TE} {pos : Pos}
theorem binT (ha : PE X a ta) (hb : PE X b tb) {pins : List (Addr × Obj)} {s : Shared} {σ : St} {H : Hp} {R : V → V → Hp → Prop} (I : Inv X pins σ H s)
    (h : ta σ H fun x H1 => tb σ H1 fun y H2 => R x y H2) {Q : Value → Shared → Prop} {f : Value → Value → Sem Value}
    (hf : ∀ v u s2 x y H2, Inv X pins σ H2 s2 → RelV x v → RelV y u → R x y H2 → wpAny (model X.prog X.w) X.A (f v u) Q X.xe s2) :
    wpAny (model X.prog X.w) X.A (eval a X.env) (fun v s₁ => wpAny (model X.prog X.w) X.A (eval b X.env) (fun u s₂ => wpAny (model X.prog X.w) X.A (f v u) Q X.xe s₂) X.xe s₁) X.xe s := by
  refine thn (ha pins s σ H _ I h) fun v s1 ⟨x, H1, I1, r1, q1⟩ => ?_
  refine thn (hb pins s1 σ H1 _ I1 q1) fun u s2 ⟨y, H2, I2, r2, q2⟩ => ?_
  exact hf v u s2 x y H2 I2 r1 r2 q2
theorem pe_op {op : Operator} {r : R2} (ho : OpR X (binaryOp op) r) (ha : PE X a ta) (hb : PE X b tb) : PE X (.BinOp a op b pos) (tOp r ta tb) := by
  intro pins s σ H Q I h
  exact wpAny_BinOp (binT ha hb I h fun v u s2 x y H2 I2 rx ry q => ho pins s2 σ H2 x y v u Q I2 rx ry q)
theorem opI {f : Value → Value → Sem Value} {C : Int → Int → Prop} {g : Int → Int → Int}
    (rule : ∀ (i j : Int) (t u : Tok) (s : Shared) (Q : Value → Shared → Prop) (E : Value → Shared → Prop), C i j → Q (.int (g i j) s.toks) { s with toks := s.toks + 1 } → wpAny (model X.prog X.w) X.A (f (.int i t) (.int j u)) Q E s) :
    OpR X f (rI C fun i j => .int (g i j)) := by
  intro pins s σ H x y v u Q I rx ry h
  obtain ⟨i, j, rfl, rfl, hc, q⟩ := h
  obtain ⟨t, rfl⟩ := rx
  obtain ⟨t', rfl⟩ := ry
  exact rule i j t t' s _ _ hc ⟨.int (g i j), H, I.tok _, ⟨_, rfl⟩, q⟩
theorem opI0 {f : Value → Value → Sem Value} {g : Int → Int → Int}
    (rule : ∀ (i j : Int) (t u : Tok) (s : Shared) (Q : Value → Shared → Prop) (E : Value → Shared → Prop), Q (.int (g i j) s.toks) { s with toks := s.toks + 1 } → wpAny (model X.prog X.w) X.A (f (.int i t) (.int j u)) Q E s) :
    OpR X f (rI0 fun i j => .int (g i j)) := by
  intro pins s σ H x y v u Q I rx ry h
  obtain ⟨i, j, rfl, rfl, q⟩ := h
  obtain ⟨t, rfl⟩ := rx
  obtain ⟨t', rfl⟩ := ry
  exact rule i j t t' s _ _ ⟨.int (g i j), H, I.tok _, ⟨_, rfl⟩, q⟩
theorem opB0 {f : Value → Value → Sem Value} {g : Int → Int → Bool}
    (rule : ∀ (i j : Int) (t u : Tok) (s : Shared) (Q : Value → Shared → Prop) (E : Value → Shared → Prop), Q (.bool (g i j)) s → wpAny (model X.prog X.w) X.A (f (.int i t) (.int j u)) Q E s) :
    OpR X f (rI0 fun i j => .bl (g i j)) := by
  intro pins s σ H x y v u Q I rx ry h
  obtain ⟨i, j, rfl, rfl, q⟩ := h
  obtain ⟨t, rfl⟩ := rx
  obtain ⟨t', rfl⟩ := ry
  exact rule i j t t' s _ _ ⟨.bl (g i j), H, I, rfl, q⟩
noncomputable def CDiv (i j : Int) : Prop := 0 < j ∧ j < 1073741824
noncomputable def CPow (i j : Int) : Prop := 0 ≤ j ∧ j ≤ 1000000 ∧ i.natAbs < 2 ^ 64
noncomputable def CMul (i j : Int) : Prop := (-(2 ^ 64) < i ∧ i < 2 ^ 64) ∨ (-(2 ^ 64) < j ∧ j < 2 ^ 64)
theorem CMul.ok {i j : Int} (h : CMul i j) : IntMulOk i j := by
  rcases h with ⟨h1, h2⟩ | ⟨h1, h2⟩
  · exact .of_left (intBits_le_64 h1 h2)
  · exact .of_right (intBits_le_64 h1 h2)
theorem op_add : OpR X (binaryOp .Add) (rI0 fun i j => .int (i + j)) := opI0 fun _ _ _ _ _ _ _ q => add_int q
theorem op_sub : OpR X (binaryOp .Sub) (rI0 fun i j => .int (i - j)) := opI0 fun _ _ _ _ _ _ _ q => sub_int q
theorem op_mul : OpR X (binaryOp .Mult) (rI CMul fun i j => .int (i * j)) := opI fun _ _ _ _ _ _ _ hc q => mul_int q hc.ok
theorem op_fdiv : OpR X (binaryOp .FloorDiv) (rI CDiv fun i j => .int (i / j)) := opI fun i j _ _ _ _ _ hc q => by
  have h1 : (0 : Int) < j := hc.1
  have h2 : j < 1073741824 := hc.2
  exact floordiv_int (by omega) (by rw [Int.fdiv_eq_ediv_of_nonneg i (by omega)]; exact q) (.inl (PyProof.noPylong_small (by omega)))
theorem op_mod : OpR X (binaryOp .Mod) (rI (fun _ j => 0 < j) fun i j => .int (i % j)) := opI fun i j _ _ _ _ _ hc q => by
  have h1 : (0 : Int) < j := hc
  exact mod_int' (by omega) (by rw [Int.fmod_eq_emod_of_nonneg i (by omega)]; exact q)
theorem op_pow : OpR X (binaryOp .Pow) (rI CPow fun i j => .int (i ^ j.toNat)) := opI fun _ _ _ _ _ _ _ hc q => pow_int_small hc.1 hc.2.1 hc.2.2 q
end
noncomputable def scal : V → V → Bool
  | .non, .non => true | .non, .int _ => true | .int _, .non => true | .non, .bl _ => true | .bl _, .non => true | .non, .str _ => true | .str _, .non => true
  | .int _, .int _ => true | .bl _, .bl _ => true | .str _, .str _ => true | .byt _, .byt _ => true
  | .int _, .str _ => true | .str _, .int _ => true | .bl _, .str _ => true | .str _, .bl _ => true
  | _, _ => false
noncomputable def rEq : R2 := fun x y H Q => scal x y = true ∧ Q (.bl (decide (x = y))) H
noncomputable def rNe : R2 := fun x y H Q => scal x y = true ∧ Q (.bl (!decide (x = y))) H
theorem dec_int {i j : Int} : decide (V.int i = V.int j) = (i == j) := by
  rw [Bool.eq_iff_iff]
  simp
theorem dec_bl {i j : Bool} : decide (V.bl i = V.bl j) = (i == j) := by
  rw [Bool.eq_iff_iff]
  simp
theorem dec_str {i j : Str} : decide (V.str i = V.str j) = (i == j) := by
  rw [Bool.eq_iff_iff]
  simp
theorem dec_byt {i j : Array UInt8} : decide (V.byt i = V.byt j) = (i.toList == j.toList) := by
  rw [Bool.eq_iff_iff]
  cases i
  cases j
  simp
section
variable {X : Cx} {a b c : Expr} {ta tb tc : TE} {pos : Pos}
theorem fin_bl {pins : List (Addr × Obj)} {σ : St} {H : Hp} {s : Shared} {Q : VK} {k k' : Bool} (I : Inv X pins σ H s) (q : Q (.bl k) H) (e : k = k') : EP X pins σ Q (.bool k') s := by
  subst e
  exact ⟨.bl k, H, I, rfl, q⟩
theorem op_eq : OpR X (compareOp .Eq) rEq := by
  intro pins s σ H x y v u Q I rx ry h
  obtain ⟨hs, q⟩ := h
  cases x with
  | non =>
    cases rx
    cases y with
    | non => cases ry; exact PySem.EqNone.eq_none_none (fin_bl I q (by simp))
    | bl j => cases ry; exact PySem.EqNone.eq_none_bool (fin_bl I q (by simp))
    | int j => obtain ⟨t', rfl⟩ := ry; exact PySem.EqNone.eq_none_int (fin_bl I q (by simp))
    | str j => obtain ⟨t', rfl⟩ := ry; exact PySem.EqNone.eq_none_str (fin_bl I q (by simp))
    | _ => exact absurd (show false = true from hs) Bool.false_ne_true
  | bl i =>
    cases rx
    cases y with
    | non => cases ry; exact PySem.EqNone.eq_bool_none (fin_bl I q (by simp))
    | bl j => cases ry; exact eq_bool (fin_bl I q dec_bl)
    | str j => obtain ⟨t', rfl⟩ := ry; exact PySem.EqMixed.eq_bool_str (fin_bl I q (by simp))
    | _ => exact absurd (show false = true from hs) Bool.false_ne_true
  | int i =>
    obtain ⟨t, rfl⟩ := rx
    cases y with
    | non => cases ry; exact PySem.EqNone.eq_int_none (fin_bl I q (by simp))
    | int j => obtain ⟨t', rfl⟩ := ry; exact eq_int (fin_bl I q dec_int)
    | str j => obtain ⟨t', rfl⟩ := ry; exact PySem.EqMixed.eq_int_str (fin_bl I q (by simp))
    | _ => exact absurd (show false = true from hs) Bool.false_ne_true
  | str i =>
    obtain ⟨t, rfl⟩ := rx
    cases y with
    | non => cases ry; exact PySem.EqNone.eq_str_none (fin_bl I q (by simp))
    | bl j => cases ry; exact PySem.EqMixed.eq_str_bool (fin_bl I q (by simp))
    | int j => obtain ⟨t', rfl⟩ := ry; exact PySem.EqMixed.eq_str_int (fin_bl I q (by simp))
    | str j => obtain ⟨t', rfl⟩ := ry; exact eq_str (fin_bl I q dec_str)
    | _ => exact absurd (show false = true from hs) Bool.false_ne_true
  | byt i =>
    obtain ⟨t, rfl⟩ := rx
    cases y with
    | byt j => obtain ⟨t', rfl⟩ := ry; exact PySem.W.eq_bytes (fin_bl I q dec_byt)
    | _ => exact absurd (show false = true from hs) Bool.false_ne_true
  | _ => cases y <;> exact absurd (show false = true from hs) Bool.false_ne_true
theorem op_ne : OpR X (compareOp .NotEq) rNe := by
  intro pins s σ H x y v u Q I rx ry h
  obtain ⟨hs, q⟩ := h
  cases x with
  | non =>
    cases rx
    cases y with
    | non => cases ry; exact PySem.EqNone.ne_none_none (fin_bl I q (by simp))
    | bl j => cases ry; exact PySem.EqNone.ne_none_bool (fin_bl I q (by simp))
    | int j => obtain ⟨t', rfl⟩ := ry; exact PySem.EqNone.ne_none_int (fin_bl I q (by simp))
    | str j => obtain ⟨t', rfl⟩ := ry; exact PySem.EqNone.ne_none_str (fin_bl I q (by simp))
    | _ => exact absurd (show false = true from hs) Bool.false_ne_true
  | bl i =>
    cases rx
    cases y with
    | non => cases ry; exact PySem.EqNone.ne_bool_none (fin_bl I q (by simp))
    | bl j => cases ry; exact ne_bool (fin_bl I q (congrArg not dec_bl))
    | str j => obtain ⟨t', rfl⟩ := ry; exact PySem.EqMixed.ne_bool_str (fin_bl I q (by simp))
    | _ => exact absurd (show false = true from hs) Bool.false_ne_true
  | int i =>
    obtain ⟨t, rfl⟩ := rx
    cases y with
    | non => cases ry; exact PySem.EqNone.ne_int_none (fin_bl I q (by simp))
    | int j => obtain ⟨t', rfl⟩ := ry; exact ne_int (fin_bl I q (congrArg not dec_int))
    | str j => obtain ⟨t', rfl⟩ := ry; exact PySem.EqMixed.ne_int_str (fin_bl I q (by simp))
    | _ => exact absurd (show false = true from hs) Bool.false_ne_true
  | str i =>
    obtain ⟨t, rfl⟩ := rx
    cases y with
    | non => cases ry; exact PySem.EqNone.ne_str_none (fin_bl I q (by simp))
    | bl j => cases ry; exact PySem.EqMixed.ne_str_bool (fin_bl I q (by simp))
    | int j => obtain ⟨t', rfl⟩ := ry; exact PySem.EqMixed.ne_str_int (fin_bl I q (by simp))
    | str j => obtain ⟨t', rfl⟩ := ry; exact ne_str (fin_bl I q (congrArg not dec_str))
    | _ => exact absurd (show false = true from hs) Bool.false_ne_true
  | byt i =>
    obtain ⟨t, rfl⟩ := rx
    cases y with
    | byt j => obtain ⟨t', rfl⟩ := ry; exact PySem.W.ne_bytes (fin_bl I q (congrArg not dec_byt))
    | _ => exact absurd (show false = true from hs) Bool.false_ne_true
  | _ => cases y <;> exact absurd (show false = true from hs) Bool.false_ne_true
theorem op_lt : OpR X (compareOp .Lt) (rI0 fun i j => .bl (decide (i < j))) := opB0 fun _ _ _ _ _ _ _ q => lt_int q
theorem op_le : OpR X (compareOp .LtE) (rI0 fun i j => .bl (decide (i ≤ j))) := opB0 fun _ _ _ _ _ _ _ q => le_int q
theorem op_gt : OpR X (compareOp .Gt) (rI0 fun i j => .bl (decide (j < i))) := opB0 fun _ _ _ _ _ _ _ q => gt_int q
theorem op_ge : OpR X (compareOp .GtE) (rI0 fun i j => .bl (decide (j ≤ i))) := opB0 fun _ _ _ _ _ _ _ q => ge_int q
theorem OpR.or {f : Value → Value → Sem Value} {r r' : R2} (h : OpR X f r) (h' : OpR X f r') : OpR X f (fun x y H Q => r x y H Q ∨ r' x y H Q) := by
  intro pins s σ H x y v u Q I rx ry q
  rcases q with q | q
  · exact h pins s σ H x y v u Q I rx ry q
  · exact h' pins s σ H x y v u Q I rx ry q
theorem nomark (b : Expr) {op : CmpOp} (h : op ≠ .In := by decide) (h2 : op ≠ .NotIn := by decide) : behindInMarks op b = false := by
  have e1 : (op == CmpOp.In) = false := by cases op <;> first | rfl | exact absurd rfl h
  have e2 : (op == CmpOp.NotIn) = false := by cases op <;> first | rfl | exact absurd rfl h2
  cases b <;> simp [behindInMarks, e1, e2]
theorem pe_cmpR {op : CmpOp} {r : R2} (ho : OpR X (compareOp op) r) (ha : PE X a ta) (hb : PE X b tb) (hm : behindInMarks op b = false) : PE X (.Compare a [op] [b] pos) (tOp r ta tb) := by
  intro pins s σ H Q I h
  exact wpAny_Compare1 (binT ha hb I h fun v u s2 x y H2 I2 rx ry q => ho pins s2 σ H2 x y v u Q I2 rx ry q) hm
noncomputable def tTest (t : TE) : TT := fun σ H Q => t σ H fun x H' => ∃ k, x = .bl k ∧ Q k H'
theorem pt_cmpR {op : CmpOp} {r : R2} (ho : OpR X (compareOp op) r) (ha : PE X a ta) (hb : PE X b tb) (hm : behindInMarks op b = false) : PT X (.Compare a [op] [b] pos) (tTest (tOp r ta tb)) := by
  intro pins s σ H Q I h
  refine wpAny_isTrue_Compare1 (thn (ha pins s σ H _ I h) fun v s1 ⟨x, H1, I1, r1, q1⟩ => thn (hb pins s1 σ H1 _ I1 q1) fun u s2 ⟨y, H2, I2, r2, q2⟩ =>
    thn (ho pins s2 σ H2 x y v u _ I2 r1 r2 q2) fun c s3 ⟨z, H3, I3, r3, k, e, q3⟩ => ?_) hm
  subst e
  cases r3
  exact wpAny_truthy_bool ⟨H3, I3, q3⟩
noncomputable def TruV (K : PySem.W.Frag) (x : V) (H : Hp) (k : Bool) : Prop :=
  match x with
  | .non => k = false
  | .bl b => k = b
  | .int i => k = (i != 0)
  | .str y => y.length ≤ sizeLine ∧ k = ((y.length : Int) != 0)
  | .byt y => y.size ≤ sizeLine ∧ k = ((y.size : Int) != 0)
  | .ref p => (∃ xs, SqL K H p xs ∧ k = !xs.isEmpty) ∨ (∃ xs, SqT K H p xs ∧ k = !xs.isEmpty) ∨ ∃ kvs, H p = some (.dK kvs) ∧ k = !kvs.isEmpty
  | _ => False
theorem isEmpty_kv {κ : Type} {kvs : List (κ × V)} {vs : List (κ × Value)} (r : KV kvs vs) : (!vs.isEmpty) = !kvs.isEmpty := by
  cases r <;> rfl
theorem isEmpty_of {xs : List V} {its : List Value} (r : Vals xs its) : (!its.toArray.isEmpty) = !xs.isEmpty := by
  cases r <;> simp
theorem line63 : (sizeLine : Nat) < 2 ^ 63 := by rw [sizeLine_eq]; decide
theorem tru_ok : TruR X (fun x H Q => ∃ k, TruV X.K x H k ∧ Q k H) := by
  intro pins s σ H x v Q I rx h
  obtain ⟨k, e, q⟩ := h
  have hl := line63
  have hs : sizeLine = 16777216 := sizeLine_eq
  cases x with
  | non =>
    cases rx
    have e' : k = false := e
    subst e'
    exact truthy_none ⟨H, I, q⟩
  | bl b =>
    cases rx
    have e' : k = b := e
    subst e'
    exact wpAny_truthy_bool ⟨H, I, q⟩
  | int i =>
    obtain ⟨t, rfl⟩ := rx
    have e' : k = (i != 0) := e
    subst e'
    exact PySem.P.truthy_int ⟨H, I, q⟩
  | str y =>
    obtain ⟨t, rfl⟩ := rx
    obtain ⟨hy, e'⟩ : y.length ≤ sizeLine ∧ k = ((y.length : Int) != 0) := e
    subst e'
    exact PySem.P.truthy_str (by omega) ⟨H, I.tok _, q⟩
  | byt y =>
    obtain ⟨t, rfl⟩ := rx
    obtain ⟨hy, e'⟩ : y.size ≤ sizeLine ∧ k = ((y.size : Int) != 0) := e
    subst e'
    exact PySem.W.truthy_bytes (by omega) ⟨H, I.tok _, q⟩
  | ref p =>
    cases rx
    have e' : (∃ xs, SqL X.K H p xs ∧ k = !xs.isEmpty) ∨ (∃ xs, SqT X.K H p xs ∧ k = !xs.isEmpty) ∨ ∃ kvs, H p = some (.dK kvs) ∧ k = !kvs.isEmpty := e
    rcases e' with ⟨xs, hx, e'⟩ | ⟨xs, hx, e'⟩ | ⟨kvs, hx, e'⟩
    · subst e'
      obtain ⟨its, r, pl, hz⟩ := I.list hx
      have hlen := r.length
      exact wpAny_truthy_list pl.isList (by simp only [List.size_toArray]; omega) ⟨H, I.tok _, by rw [isEmpty_of r]; exact q⟩
    · subst e'
      obtain ⟨its, r, pl, hz⟩ := I.tuple hx
      have hlen := r.length
      exact truthy_tuple pl (by simp only [List.size_toArray]; omega) ⟨H, I.tok _, by rw [isEmpty_of r]; exact q⟩
    · subst e'
      obtain ⟨hz, hS, vs, r, m⟩ : kvs.length ≤ sizeLine ∧ (p == sysModules) = false ∧ ∃ vs, KV kvs vs ∧ s.heap.DictOf (mixKind X.prog X.w) p vs := I.hok p _ hx
      have hlen : kvs.length = vs.length := Paired.length r
      exact wpAny_truthy_dict hS m (by omega) ⟨H, I.tok _, by rw [isEmpty_kv r]; exact q⟩
  | _ => exact (show False from e).elim
theorem pt_truth (ha : PE X a ta) (he : ∀ whole, isTrue a X.env whole = (do let v ← whole; standAt a.pos; holding [v] (truthy v))) :
    PT X a (fun σ H Q => ta σ H fun x H' => ∃ k, TruV X.K x H' k ∧ Q k H') := by
  intro pins s σ H Q I h
  exact isTrue_plain (thn (ha pins s σ H _ I h) fun v s1 ⟨x, H1, I1, r1, q1⟩ => tru_ok pins s1 σ H1 x v Q I1 r1 q1) (he _)
theorem op_add_str : OpR X (binaryOp .Add) (fun x y H Q => ∃ i j, x = .str i ∧ y = .str j ∧ i.length + j.length ≤ sizeLine ∧ Q (.str (i ++ j)) H) := by
  intro pins s σ H x y v u Q I rx ry h
  obtain ⟨i, j, rfl, rfl, hz, q⟩ := h
  obtain ⟨t, rfl⟩ := rx
  obtain ⟨t', rfl⟩ := ry
  exact add_str (fun t' tk => ⟨.str (i ++ j), H, I.tok _, ⟨_, rfl⟩, q⟩) hz
theorem vals1 {x : V} {us : List Value} (r : Vals [x] us) : ∃ u, us = [u] ∧ RelV x u := by
  cases r with
  | cons r1 r2 => cases r2; exact ⟨_, rfl, r1⟩
theorem call_int1 : CallR X (.type "int") (fun xs H Q => (∃ i, xs = [.int i] ∧ Q (.int i) H) ∨ ∃ k, xs = [.bl k] ∧ Q (.int (if k then 1 else 0)) H) := by
  intro pins s σ H xs us Q I r h
  rcases h with ⟨i, rfl, q⟩ | ⟨k, rfl, q⟩
  · obtain ⟨u, rfl, t, rfl⟩ := vals1 r
    exact call_int_int ⟨.int i, H, I, ⟨_, rfl⟩, q⟩
  · obtain ⟨u, rfl, r1⟩ := vals1 r
    cases r1
    exact call_int_bool ⟨.int (if k then 1 else 0), H, I.tok _, ⟨_, rfl⟩, q⟩
theorem call_str_int : CallR X (.type "str") (fun xs H Q => ∃ i, xs = [.int i] ∧ i.natAbs.log2 < 1920 ∧ Q (.str (toString i)) H) := by
  intro pins s σ H xs us Q I r h
  obtain ⟨i, rfl, hz, q⟩ := h
  obtain ⟨u, rfl, t, rfl⟩ := vals1 r
  exact PySem.P.str_of_int hz ⟨.str _, H, I.tok _, ⟨_, rfl⟩, q⟩
end
end L2
namespace L2
open PySem PySem.Spec PyProof.Rows
structure ObjM (h : Heap) (x dx C : Addr) (mA : Str → Option Value) : Prop where
  obj : h.get? x = some (PySem.W.instObj C dx)
  ns : h.Ns1 dx mA
  ne : dx ≠ x
theorem lookIn_ns {h : Heap} {dx : Addr} {mA : Str → Option Value} (n : h.Ns1 dx mA) : ∃ od, h.get? dx = some od ∧ ∀ name, PySem.W.lookIn name od = some (mA name) := by
  obtain ⟨o, es, ep, ho, hd, hk, _, hm⟩ := n
  refine ⟨o, ho, fun name => ?_⟩
  have e := hm name
  unfold nsFind findBy at e
  rw [← Array.find?_toList] at e
  unfold PySem.W.lookIn
  rw [hd]
  dsimp only
  split
  · rename_i y q
    rw [q] at e
    exact congrArg some e
  · rename_i q
    rw [q] at e
    have a : es.toList.any (·.refKey) = false := by
      rw [List.any_eq_false]
      intro y hy
      obtain ⟨z, t, hkey⟩ := hk y (Array.mem_toList_iff.mp hy)
      simp [DictEntry.refKey, hkey]
    have a' : ¬ es.toList.any (·.refKey) = true := by rw [a]; exact Bool.false_ne_true
    rw [if_neg a']
    exact congrArg some e
theorem ObjM.look {h : Heap} {x dx C : Addr} {mA : Str → Option Value} (I : ObjM h x dx C mA) : ∃ od, PySem.W.InstAt h x (PySem.W.instObj C dx) C (some od) ∧ ∀ name, PySem.W.lookIn name od = some (mA name) :=
  let ⟨od, ho, hl⟩ := lookIn_ns I.ns
  ⟨od, ⟨I.obj, rfl, rfl, ho⟩, hl⟩
section
variable {prog : Program} {w : World} {A : Around} {E : Value → Shared → Prop} {s : Shared} {K : PySem.W.Frag} {x dx C f : Addr} {mA : Str → Option Value} {name : Str} {v : Value}
theorem get_map {expr : Bool} {Q : Value → Shared → Prop} (X : K.In s.heap) (I : ObjM s.heap x dx C mA) (hg : PySem.W.plainGet K C name = true) (hh : PySem.W.hasDictIn K C = true)
    (ha : PySem.W.findIn K (.ref C) name = some none) (hv : mA name = some v) (hv' : PySem.W.handedIn v = true) (h : Q v { s with toks := s.toks + 1 }) :
    wpAny (model prog w) A (getAttr (.ref x) name expr) Q E s := by
  obtain ⟨od, J, hl⟩ := I.look
  exact PySem.W.get_value X J (PySem.W.plainGet_of hg).1 (PySem.W.findObj_own hh ha rfl (by rw [hl, hv])) hv' h
theorem get_meth {pl : Sem Bool} {Q : Value × List Value → Shared → Prop} (X : K.In s.heap) (I : ObjM s.heap x dx C mA) (hg : PySem.W.plainGet K C name = true)
    (hf : PySem.W.findIn K (.ref C) name = some (some (.ref f))) (ht : PySem.W.isFn K (.ref f) = true) (hv : mA name = none) (h : Q (.ref f, [.ref x]) s) :
    wpAny (model prog w) A (getMethod (.ref x) name pl) Q E s := by
  obtain ⟨od, J, hl⟩ := I.look
  exact PySem.W.method_fn X J (PySem.W.plainGet_of hg).1 (PySem.W.plainGet_of hg).2 hf (beq_iff_eq.mp ht) (by show (PySem.W.lookIn name od).map (·.isSome) = some false; rw [hl, hv]; rfl) h
theorem set_map {ns : List Str} {Q : Unit → Shared → Prop} (X : K.In s.heap) (I : ObjM s.heap x dx C mA)
    (hs : PySem.W.findIn K (.ref C) "__setattr__" = some (some (.builtin "object.__setattr__"))) (hp : PySem.W.plainOver K C = true) (ht : PySem.W.takerIn K C name = some none) (hh : PySem.W.hasDictIn K C = true)
    (hw : PySem.Within mA ns) (hsz : ns.length ≤ sizeLine)
    (h : ∀ h', ObjM h' x dx C (fun y => if y = name then some v else mA y) → Heap.SameBut dx s.heap h' → Q () { s with heap := h', toks := s.toks + 2 }) :
    wpAny (model prog w) A (setAttr (.ref x) name v) Q E s := by
  obtain ⟨od, J, hl⟩ := I.look
  refine PySem.W.set_plain X J hs (PySem.W.osa_open (s := { s with toks := s.toks + 1 }) (r := none) X J hp ht fun b => ?_)
  obtain ⟨cd, hc, hd'⟩ := PySem.W.any_some hh
  have hx : s.heap.get? x = some ⟨.ref C, some dx, .plain, #[]⟩ := I.obj
  refine wpAny_bind (wpAny_pure (wpAny_bind (wpAny_bind (wpAny_loadPart hx (wpAny_bind (PySem.W.Looks.here (s := { s with toks := s.toks + 1 }) (PySem.W.looks_clsIn X hc) ?_))))))
  rw [hd']
  refine wpAny_pure (a := some dx) (wpAny_bind (wpAny_pure (wpAny_bind ?_)))
  refine wpAny_nsSet1 (s := { s with toks := s.toks + 1 }) I.ns fun h' hn2 hs2 => ?_
  obtain ⟨oD, esD, epD, hoD, hdD, hcD⟩ := hn2.count (PySem.Within.cons name v hw)
  refine wpAny_bind (wpAny_lookBehind hoD (by rw [hdD]; exact pastItsLine_dict (Nat.le_trans hcD (by rw [List.length_cons]; omega))) ?_)
  exact wpAny_pure (h _ ⟨(hs2.2 _ (Ne.symm I.ne)).trans I.obj, hn2, I.ne⟩ hs2)
theorem make_map {R : Result → Shared → Prop} {vs : List Value} {kw : List (Str × Value)} (X : K.In s.heap) (hm : PySem.W.makesIn K C = true)
    (hi : PySem.W.findIn K (.ref C) "__init__" = some (some (.ref f))) (hf : PySem.W.typeIn K (.ref f) = some (.type "function"))
    (h : codeAny (model prog w) (A.under (.builtin "type.__call__" ⟨.ref C :: vs, kw⟩)) (.call (.ref f) ⟨.ref (s.heap.objs.size + 1) :: vs, kw⟩) (PySem.W.InitBack (s.heap.objs.size + 1) R)
      { s with heap := (s.heap.push PySem.W.emptyDict).push (PySem.W.instObj C s.heap.objs.size) }) :
    codeAny (model prog w) A (.call (.ref C) ⟨vs, kw⟩) R s := by
  obtain ⟨hh, g, d, t, os⟩ := s
  exact PySem.W.make_core (PySem.W.makes_of X hm) (PySem.W.looks_findIn X hi) (fun self => PySem.W.bind_fn X self hf) (.inl rfl) h
end
noncomputable def putF (f : Str) (v : V) : List (Str × V) → List (Str × V)
  | [] => [(f, v)]
  | (g, x) :: r => if g = f then (g, v) :: r else (g, x) :: putF f v r
theorem lookup_putF (f g : Str) (v : V) : ∀ fs : List (Str × V), (putF f v fs).lookup g = if g = f then some v else fs.lookup g
  | [] => by
    show List.lookup g [(f, v)] = _
    by_cases h : g = f
    · have hb : (g == f) = true := beq_iff_eq.mpr h
      simp only [List.lookup, hb, if_pos h]
    · have hb : (g == f) = false := beq_eq_false_iff_ne.mpr h
      simp only [List.lookup, hb, if_neg h]
  | (k, x) :: r => by
    have ih := lookup_putF f g v r
    rw [show putF f v ((k, x) :: r) = (if k = f then (k, v) :: r else (k, x) :: putF f v r) from rfl]
    by_cases hk : k = f
    · rw [if_pos hk]
      by_cases h : g = k
      · have hb : (g == k) = true := beq_iff_eq.mpr h
        simp only [List.lookup, hb, if_pos (h.trans hk)]
      · have hb : (g == k) = false := beq_eq_false_iff_ne.mpr h
        simp only [List.lookup, hb, if_neg (fun e : g = f => h (e.trans hk.symm))]
    · rw [if_neg hk]
      by_cases h : g = k
      · have hb : (g == k) = true := beq_iff_eq.mpr h
        simp only [List.lookup, hb, if_neg (fun e : g = f => hk (h.symm.trans e))]
      · have hb : (g == k) = false := beq_eq_false_iff_ne.mpr h
        simp only [List.lookup, hb]
        exact ih
theorem keys_putF (f : Str) (v : V) : ∀ fs : List (Str × V), f ∈ (putF f v fs).map (·.1) ∧ ∀ g, g ∈ fs.map (·.1) → g ∈ (putF f v fs).map (·.1)
  | [] => ⟨by simp [putF], fun g h => by simp at h⟩
  | (k, x) :: r => by
    obtain ⟨i1, i2⟩ := keys_putF f v r
    rw [show putF f v ((k, x) :: r) = (if k = f then (k, v) :: r else (k, x) :: putF f v r) from rfl]
    by_cases hk : k = f
    · rw [if_pos hk]
      subst hk
      exact ⟨by simp, fun g h => by simpa using h⟩
    · rw [if_neg hk]
      refine ⟨?_, fun g h => ?_⟩
      · rw [List.map_cons]
        exact List.mem_cons_of_mem _ i1
      · rw [List.map_cons] at h ⊢
        rcases List.mem_cons.mp h with e | e
        · exact List.mem_cons.mpr (.inl e)
        · exact List.mem_cons_of_mem _ (i2 g e)
theorem length_putF (f : Str) (v : V) : ∀ fs : List (Str × V), (putF f v fs).length ≤ fs.length + 1
  | [] => by simp [putF]
  | (k, x) :: r => by
    have ih := length_putF f v r
    rw [show putF f v ((k, x) :: r) = (if k = f then (k, v) :: r else (k, x) :: putF f v r) from rfl]
    by_cases hk : k = f
    · rw [if_pos hk, List.length_cons, List.length_cons]; omega
    · rw [if_neg hk, List.length_cons, List.length_cons]; omega
theorem RelO.some_of {v : V} {o : Option Value} (r : RelO (some v) o) : ∃ u, o = some u ∧ RelV v u := by
  cases o with
  | none => exact (show False from r).elim
  | some u => exact ⟨u, rfl, r⟩
theorem RelO.none_of {o : Option Value} (r : RelO none o) : o = none := by
  cases o with
  | none => rfl
  | some u => exact (show False from r).elim
theorem handed_of {v : V} {u : Value} (r : RelV v u) : PySem.W.handedIn u = true := by
  cases v with
  | non => cases (show u = Value.none from r); rfl
  | bl b => cases (show u = Value.bool b from r); rfl
  | int i => obtain ⟨t, e⟩ := (show ∃ t, u = Value.int i t from r); cases e; rfl
  | str x => obtain ⟨t, e⟩ := (show ∃ t, u = Value.str x t from r); cases e; rfl
  | byt b => obtain ⟨t, e⟩ := (show ∃ t, u = Value.bytes b t from r); cases e; rfl
  | flt b => obtain ⟨t, e⟩ := (show ∃ t, u = Value.float b t from r); cases e; rfl
  | ref a => cases (show u = Value.ref a from r); rfl
  | ty n => cases (show u = Value.type n from r); rfl
section
variable {P : Program} {w : World} {H H' : Hp} {h h' : Heap} {a C dx : Addr} {fs fs' : List (Str × V)}
theorem ins_get (hok : HOk P w H h) (e : H a = some (.ins C dx fs)) : ∃ mA, ObjM h a dx C mA ∧ (∀ f, RelO (fs.lookup f) (mA f)) ∧ PySem.Within mA (fs.map (·.1)) ∧ fs.length ≤ 1000 ∧ H dx = some (.own a) := by
  obtain ⟨d, z, ne, ob, mA, n, r, q⟩ := (show ObjOk P w H h a (.ins C dx fs) from hok a _ e)
  exact ⟨mA, ⟨ob, n, ne⟩, r, q, z, d⟩
end
structure Cls (K : PySem.W.Frag) (C : Addr) : Prop where
  pg : PySem.W.plainGet K C Str.empty = true
  hd : PySem.W.hasDictIn K C = true
  po : PySem.W.plainOver K C = true
  sa : PySem.W.findIn K (.ref C) "__setattr__" = some (some (.builtin "object.__setattr__"))
theorem Cls.get {K : PySem.W.Frag} {C : Addr} (c : Cls K C) (f : Str) : PySem.W.plainGet K C f = true := c.pg
noncomputable def NoAttr (K : PySem.W.Frag) (C : Addr) (f : Str) : Prop := PySem.W.findIn K (.ref C) f = some none
theorem NoAttr.taker {K : PySem.W.Frag} {C : Addr} {f : Str} (n : NoAttr K C f) : PySem.W.takerIn K C f = some none := by
  unfold PySem.W.takerIn
  rw [show PySem.W.findIn K (.ref C) f = some none from n]
  rfl
structure Meth (K : PySem.W.Frag) (C : Addr) (m : Str) (f : Addr) : Prop where
  at_ : PySem.W.findIn K (.ref C) m = some (some (.ref f))
  fn : PySem.W.isFn K (.ref f) = true
  kp : PySem.W.keepIn K (.ref f) = true
section
variable {X : Cx} {pins : List (Addr × Obj)} {σ : St} {H : Hp} {s : Shared} {a C dx : Addr} {fs : List (Str × V)} {f : Str} {v : V} {A : Around} {E : Value → Shared → Prop}
theorem getattr_ok {b : Bool} {Q : Value → Shared → Prop} (I : Inv X pins σ H s) (e : H a = some (.ins C dx fs)) (c : Cls X.K C) (n : NoAttr X.K C f) (l : fs.lookup f = some v)
    (h : ∀ u s', Inv X pins σ H s' → RelV v u → Q u s') : wpAny (model X.prog X.w) A (getAttr (.ref a) f b) Q E s := by
  obtain ⟨mA, O, r, _, _, _⟩ := ins_get I.hok e
  obtain ⟨u, hu, ru⟩ := RelO.some_of (v := v) (o := mA f) (by rw [← l]; exact r f)
  exact get_map I.kIn O (c.get f) c.hd n hu (handed_of ru) (h u _ (I.tok _) ru)
theorem getmeth_ok {m : Str} {g : Addr} {pl : Sem Bool} {Q : Value × List Value → Shared → Prop} (I : Inv X pins σ H s) (e : H a = some (.ins C dx fs)) (c : Cls X.K C) (k : Meth X.K C m g) (l : fs.lookup m = none)
    (h : Q (.ref g, [.ref a]) s) : wpAny (model X.prog X.w) A (getMethod (.ref a) m pl) Q E s := by
  obtain ⟨mA, O, r, _, _, _⟩ := ins_get I.hok e
  have hn : mA m = none := RelO.none_of (by rw [← l]; exact r m)
  exact get_meth I.kIn O (c.get m) k.at_ k.fn hn h
theorem setattr_ok {y : V} {u : Value} {Q : Unit → Shared → Prop} (I : Inv X pins σ H s) (e : H a = some (.ins C dx fs)) (c : Cls X.K C) (n : NoAttr X.K C f) (hl : fs.length < 1000) (ry : RelV y u)
    (h : ∀ s', Inv X pins σ (upd H a (.ins C dx (putF f y fs))) s' → Q () s') : wpAny (model X.prog X.w) A (setAttr (.ref a) f u) Q E s := by
  obtain ⟨mA, O, r, wi, _, ho⟩ := ins_get I.hok e
  have hz : (fs.map (·.1)).length ≤ sizeLine := by rw [List.length_map, sizeLine_eq]; omega
  refine set_map I.kIn O c.sa c.po n.taker c.hd wi hz fun h' O' sb => h _ ?_
  have hd : ∃ o, h'.get? dx = some o := let ⟨o, _, _, e', _⟩ := O'.ns; ⟨o, e'⟩
  refine I.write (x := a) (e := dx) (by rw [e]; exact True.intro) (.inr ho) (fun b q hb z => (sb.2 b hb).trans z) hd ?_
  refine ⟨by rw [upd_ne O.ne]; exact ho, ?_, O.ne, O'.obj, _, O'.ns, fun g => ?_, fun g hg => ?_⟩
  · have := length_putF f y fs; omega
  · show RelO ((putF f y fs).lookup g) (if g = f then some u else mA g)
    rw [lookup_putF]
    by_cases q : g = f
    · rw [if_pos q, if_pos q]; exact ry
    · rw [if_neg q, if_neg q]; exact r g
  · by_cases q : g = f
    · rw [q]; exact (keys_putF f y fs).1
    · refine (keys_putF f y fs).2 g (wi g fun z => hg ?_)
      show (if g = f then some u else mA g) = none
      rw [if_neg q]; exact z
theorem Inv.made (I : Inv X pins σ H s) : Inv X pins σ (upd (upd H s.heap.objs.size (.own (s.heap.objs.size + 1))) (s.heap.objs.size + 1) (.ins C s.heap.objs.size []))
    { s with heap := (s.heap.push PySem.W.emptyDict).push (PySem.W.instObj C s.heap.objs.size) } := by
  have e1 : (s.heap.push PySem.W.emptyDict).get? s.heap.objs.size = some PySem.W.emptyDict := Heap.get?_push_size s.heap rfl
  have e2 : ((s.heap.push PySem.W.emptyDict).push (PySem.W.instObj C s.heap.objs.size)).get? (s.heap.objs.size + 1) = some (PySem.W.instObj C s.heap.objs.size) := by
    have := Heap.get?_push_size (s.heap.push PySem.W.emptyDict) (o := PySem.W.instObj C s.heap.objs.size) rfl
    rwa [Heap.size_push] at this
  have e3 : (s.heap.push PySem.W.emptyDict).Ns s.heap.objs.size (fun _ => none) := ⟨PySem.W.emptyDict, #[], _, e1, rfl, (fun e he => absurd he (by simp)), fun _ => rfl⟩
  have I1 := I.laid (a := s.heap.objs.size) (o := .own (s.heap.objs.size + 1)) (h' := s.heap.push PySem.W.emptyDict) (t' := s.toks) (fun b u q => Heap.get?_push_of_some _ q) (Nat.le_refl _) ⟨_, e1⟩
  refine I1.laid (a := s.heap.objs.size + 1) (o := .ins C s.heap.objs.size []) (t' := s.toks) (fun b u q => Heap.get?_push_of_some _ q) (Nat.le_of_eq (Heap.size_push _ _)) ?_
  have ne : s.heap.objs.size ≠ s.heap.objs.size + 1 := Nat.ne_of_lt (Nat.lt_succ_self _)
  refine ⟨by rw [upd_ne ne, upd_same], Nat.zero_le _, ne, e2, fun _ => none, (Heap.Ns1.of_empty e3).at fun o q => Heap.get?_push_of_some _ q, fun _ => True.intro, fun y hy => absurd rfl hy⟩
theorem attr_of {prog : Program} {w : World} {env : Env} {e : Expr} {f : Str} {pos : Pos} {s : Shared} {Q : Value → Shared → Prop} (hb : attributeBase e f env (eval e env) = eval e env)
    (h : wpAny (model prog w) A (eval e env) (fun o s₁ => wpAny (model prog w) A (getAttr o f true) Q E s₁) E s) : wpAny (model prog w) A (eval (.Attribute e f pos) env) Q E s :=
  Attribute_any_ h (by rw [arm_eval_Attribute, hb])
end
noncomputable def tFld (K : PySem.W.Frag) (ta : TE) (f : Str) : TE := fun σ H Q => ta σ H fun x H1 => ∃ a C dx fs v, x = .ref a ∧ H1 a = some (.ins C dx fs) ∧ Cls K C ∧ NoAttr K C f ∧ fs.lookup f = some v ∧ Q v H1
noncomputable def sFld (K : PySem.W.Frag) (ta tv : TE) (f : Str) : TS := fun D σ H => tv σ H fun y H1 => ta σ H1 fun x H2 => ∃ a C dx fs, x = .ref a ∧ H2 a = some (.ins C dx fs) ∧ Cls K C ∧ NoAttr K C f ∧ fs.length < 1000 ∧
  D.nx σ (upd H2 a (.ins C dx (putF f y fs)))
section
variable {X : Cx} {o e value : Expr} {f : Str} {pos pos' tpos : Pos} {ta tv : TE}
theorem pe_fld (he : PE X e ta) (hb : attributeBase e f X.env (eval e X.env) = eval e X.env) : PE X (.Attribute e f pos) (tFld X.K ta f) := by
  intro pins s σ H Q I h
  refine attr_of hb (thn (he pins s σ H _ I h) fun u s1 ⟨x, H1, I1, rx, a, C, dx, fs, v, ex, ea, c, n, l, q⟩ => ?_)
  subst ex
  obtain rfl : u = Value.ref a := rx
  exact getattr_ok I1 ea c n l fun u' s2 I2 ru => ⟨v, H1, I2, ru, q⟩
theorem ps_fld (ha : PE X o ta) (hv : PE X value tv) (hs : swapsWith value (some (.Attribute o f pos')) pos.line X.env = pure false) : PS X (.Assign [.Attribute o f pos'] value pos) (sFld X.K ta tv f) := by
  intro pins s σ H D I h
  refine plainObj_wpAny_Assign_Attribute (thn (hv pins s σ H _ I h) fun u s1 ⟨y, H1, I1, ry, q⟩ => thn (ha pins s1 σ H1 _ I1 q) fun ov s2 ⟨x, H2, I2, rx, a, C, dx, fs, ex, ea, c, n, l, q2⟩ => ?_) hs
  subst ex
  obtain rfl : ov = Value.ref a := rx
  exact setattr_ok I2 ea c n l ry fun s3 I3 => ⟨σ, _, I3, q2⟩
end
section
variable {X : Cx} {pins : List (Addr × Obj)} {σ : St} {H : Hp} {s : Shared} {A : Around} {E : Value → Shared → Prop} {Q : Value → Shared → Prop} {c : Value} {b : Bool}
inductive TyOf (K : PySem.W.Frag) (H : Hp) : V → Value → Prop where
  | non : TyOf K H .non (.type "NoneType")
  | bl (x : Bool) : TyOf K H (.bl x) (.type "bool")
  | int (i : Int) : TyOf K H (.int i) (.type "int")
  | str (x : Str) : TyOf K H (.str x) (.type "str")
  | flt (x : UInt64) : TyOf K H (.flt x) (.type "float")
  | lst {a : Addr} {xs : List V} (e : H a = some (.lst xs)) : TyOf K H (.ref a) (.type "list")
  | frz {a : Addr} {o : Obj} {xs : List V} (e : H a = some (.frz o (.lst xs))) : TyOf K H (.ref a) (.type "list")
  | tup {a : Addr} {xs : List V} (e : H a = some (.tup xs)) : TyOf K H (.ref a) (.type "tuple")
  | dK {a : Addr} {kvs : List (Key × V)} (e : H a = some (.dK kvs)) : TyOf K H (.ref a) (.type "dict")
  | dT {a : Addr} {kvs : List (List Key × V)} (e : H a = some (.dT kvs)) : TyOf K H (.ref a) (.type "dict")
  | ins {a C dx : Addr} {fs : List (Str × V)} (e : H a = some (.ins C dx fs)) (cl : Cls K C) (ha : PySem.W.findIn K (.ref C) "__class__" = some (some (.builtin "object.__class__")))
      (hn : PySem.W.specialIn K (.builtin "object.__class__") "__get__" = some (some (.builtin "getset_descriptor.__get__"))) (htk : PySem.W.takesIn K (.builtin "object.__class__") = some true)
      (hm : PySem.W.mroIn K C (.type "object") = some true) : TyOf K H (.ref a) (.ref C)
theorem isinst_ok {x : V} {u t : Value} (I : Inv X pins σ H s) (rx : RelV x u) (ty : TyOf X.K H x t) (e : PySem.W.kitOne X.K t c = some b) (h : ∀ tk, Q (.bool b) { s with toks := tk }) :
    wpAny (model X.prog X.w) A (call (.builtin "isinstance") [u, c]) Q E s := by
  cases ty with
  | non => cases (show u = Value.none from rx); exact PySem.W.kia_one PySem.W.kitx_none I.kIn True.intro e (fun z => nomatch z) h
  | bl y => cases (show u = Value.bool y from rx); exact PySem.W.kia_one PySem.W.kitx_bool I.kIn True.intro e (fun z => nomatch z) h
  | int i => obtain ⟨t, q⟩ := (show ∃ t, u = Value.int i t from rx); cases q; exact PySem.W.kia_one PySem.W.kitx_int I.kIn True.intro e (fun z => nomatch z) h
  | str y => obtain ⟨t, q⟩ := (show ∃ t, u = Value.str y t from rx); cases q; exact PySem.W.kia_one PySem.W.kitx_str I.kIn True.intro e (fun z => nomatch z) h
  | flt y => obtain ⟨t, q⟩ := (show ∃ t, u = Value.float y t from rx); cases q; exact PySem.W.kia_one PySem.W.kitx_float I.kIn True.intro e (fun z => nomatch z) h
  | @lst a xs ea =>
    cases (show u = Value.ref a from rx)
    obtain ⟨_, _, n, _, h1⟩ := (show ObjOk X.prog X.w H s.heap a (.lst xs) from I.hok a _ ea)
    exact PySem.W.kia_one PySem.W.kitx_list I.kIn ⟨_, h1, rfl⟩ e (fun z => nomatch z) h
  | @frz a ob xs ea =>
    cases (show u = Value.ref a from rx)
    obtain ⟨_, _, _, n, _, h1⟩ := (show ObjOk X.prog X.w H s.heap a (.frz ob (.lst xs)) from I.hok a _ ea)
    exact PySem.W.kia_one PySem.W.kitx_list I.kIn ⟨_, h1, rfl⟩ e (fun z => nomatch z) h
  | @tup a xs ea =>
    cases (show u = Value.ref a from rx)
    obtain ⟨_, _, _, p⟩ := (show ObjOk X.prog X.w H s.heap a (.tup xs) from I.hok a _ ea)
    obtain ⟨o, h1, h2, _⟩ := p
    exact PySem.W.kia_one PySem.W.kitx_tuple I.kIn ⟨o, h1, h2⟩ e (fun z => nomatch z) h
  | @dK a kvs ea =>
    cases (show u = Value.ref a from rx)
    obtain ⟨_, _, vs, _, p⟩ := (show ObjOk X.prog X.w H s.heap a (.dK kvs) from I.hok a _ ea)
    obtain ⟨o, es, ep, h1, h2, _⟩ := p
    exact PySem.W.kia_one PySem.W.kitx_dict I.kIn ⟨o, h1, h2.1⟩ e (fun z => nomatch z) h
  | @dT a kvs ea =>
    cases (show u = Value.ref a from rx)
    obtain ⟨_, _, xs, _, o, es, ep, h1, h2, _⟩ := (show ObjOk X.prog X.w H s.heap a (.dT kvs) from I.hok a _ ea)
    exact PySem.W.kia_one PySem.W.kitx_dict I.kIn ⟨o, h1, h2.1⟩ e (fun z => nomatch z) h
  | @ins a C dx fs ea cl ha hn htk hm =>
    cases (show u = Value.ref a from rx)
    obtain ⟨mA, O, _⟩ := ins_get I.hok ea
    obtain ⟨od, J, _⟩ := O.look
    exact PySem.W.kia_one (PySem.W.kitx_own (cl.get _) cl.hd ha hn htk hm) I.kIn J e (fun z => nomatch z) h
end
end L2
namespace L2
open PySem PySem.Spec PyProof.Rows
structure Room (k : Nat) (A : Around) : Prop where
  hd : A.handled = none
  dp : A.depth + 3 * k + 5 < recursionLimit
  un : A.units + 16 * k + 200 < cLine
theorem Room.mono {j k : Nat} {A : Around} (r : Room k A) (h : j ≤ k) : Room j A := ⟨r.hd, by have := r.dp; omega, by have := r.un; omega⟩
theorem Room.deeper {k : Nat} {A : Around} (r : Room (k + 1) A) (env : Env) : Room k (A.deeper env) :=
  ⟨r.hd, by have := r.dp; show A.depth + 1 + 3 * k + 5 < _; omega, by have := r.un; show A.units + 3 + 16 * k + 200 < _; omega⟩
theorem Room.in1 {k : Nat} {A : Around} (r : Room (k + 1) A) : Room k A.in1 :=
  ⟨r.hd, by have := r.dp; show A.depth + 3 * k + 5 < _; omega, by have := r.un; show A.units + 1 + 16 * k + 200 < _; omega⟩
theorem make_depth {A : Around} {C : Addr} {us : List Value} {kw : List (Str × Value)} : (A.under (.builtin "type.__call__" ⟨.ref C :: us, kw⟩)).depth = A.depth + 1 := by
  first | rfl | simp [Around.under, Code.weight, Code.isCreation, Code.isGuard, Code.isCaller, Code.frames, Code.isFrame, guardIds]
theorem make_units {A : Around} {C : Addr} {us : List Value} {kw : List (Str × Value)} : (A.under (.builtin "type.__call__" ⟨.ref C :: us, kw⟩)).units = A.units + 1 := by
  first | rfl | simp [Around.under, Code.cUnits, Code.frames, Code.isFrame]
theorem Room.make {k : Nat} {A : Around} (r : Room (k + 1) A) (C : Addr) (us : List Value) (kw : List (Str × Value)) : Room k (A.under (.builtin "type.__call__" ⟨.ref C :: us, kw⟩)) :=
  ⟨r.hd, by have := r.dp; rw [make_depth]; omega, by have := r.un; rw [make_units]; omega⟩
theorem Room.depth {k : Nat} {A : Around} (r : Room k A) : A.depth < recursionLimit := by have := r.dp; omega
theorem Room.units {k : Nat} {A : Around} (r : Room k A) : A.units + 64 < cLine := by have := r.un; omega
noncomputable def tNil : TA := fun _ H Q => Q [] H
noncomputable def tCons (ta : TE) (tr : TA) : TA := fun σ H Q => ta σ H fun x H1 => tr σ H1 fun xs H2 => Q (x :: xs) H2
section
variable {X : Cx} {e : Expr} {es : List Expr} {te : TE} {t : TA} {pos : Pos}
theorem pa_nil : PA X [] tNil := fun _ _ _ _ H Q I h => Calls.spliced_nil ⟨[], H, I, .nil, h⟩
theorem pa_cons (ha : PE X e te) (hr : PA X es t) (hs : starEach (e :: es) X.env = (false, eval e X.env) :: starEach es X.env := by rfl) : PA X (e :: es) (tCons te t) := by
  intro pos pins s σ H Q I h
  rw [hs]
  show wpAny _ _ (spliced ((false, eval e X.env) :: backTo pos (starEach es X.env))) _ _ s
  refine Calls.spliced_cons (thn (ha pins s σ H _ I h) fun u s1 ⟨x, H1, I1, r1, q1⟩ => ?_)
  exact thn (hr pos pins s1 σ H1 _ I1 q1) fun us s2 ⟨xs, H2, I2, r2, q2⟩ => ⟨x :: xs, H2, I2, .cons r1 r2, q2⟩
noncomputable def tTup (t : TA) : TE := fun σ H Q => t σ H fun xs H1 => xs.length ≤ sizeLine ∧ ∀ p, H1 p = none → Q (.ref p) (upd H1 p (.tup xs))
noncomputable def tLst (t : TA) : TE := fun σ H Q => t σ H fun xs H1 => xs.length ≤ sizeLine ∧ ∀ p, H1 p = none → Q (.ref p) (upd H1 p (.lst xs))
theorem pe_tup {x1} (h : PA X es t) : PE X (.Tuple es x1 pos) (tTup t) := by
  intro pins s σ H Q I hq
  refine wpAny_Tuple_spliced (thn (h pos pins s σ H _ I hq) fun us s1 ⟨xs, H1, I1, r, z, q⟩ => ⟨by rw [← r.length]; exact z, ?_⟩)
  have hf : H1 s1.heap.objs.size = none := I1.hok.fresh (Nat.le_refl _)
  refine ⟨.ref s1.heap.objs.size, upd H1 s1.heap.objs.size (.tup xs), I1.laid (t' := s1.toks) (fun b u e => Heap.get?_push_of_some _ e) (Nat.le_refl _) ?_, rfl, q _ hf⟩
  exact ⟨z, us, r, ⟨_, Heap.get?_push_size _ rfl, rfl, _, rfl⟩⟩
theorem pe_lst (h : PA X es t) : PE X (.List es pos) (tLst t) := by
  intro pins s σ H Q I hq
  refine wpAny_List_spliced (thn (h pos pins s σ H _ I hq) fun us s1 ⟨xs, H1, I1, r, z, q⟩ => ⟨by rw [← r.length]; exact z, ?_⟩)
  have hf : H1 s1.heap.objs.size = none := I1.hok.fresh (Nat.le_refl _)
  refine ⟨.ref s1.heap.objs.size, upd H1 s1.heap.objs.size (.lst xs), I1.laid (t' := s1.toks) (fun b u e => Heap.get?_push_of_some _ e) (Nat.le_refl _) ?_, rfl, q _ hf⟩
  exact ⟨z, us, 0, r, Heap.get?_push_size _ rfl⟩
end
noncomputable abbrev Sp := List V → Hp → VK → XK → Prop
noncomputable abbrev CXT := List Env → Hp → Shared → XK → Value → Shared → Prop
structure Env0 (P : Program) (w : World) (K : PySem.W.Frag) (mg : Str → Option Value) (base : Heap) (A : Around) (outer : List Env) (s : Shared) (H : Hp) : Prop where
  frames : A.frames = some outer
  mod : Mod K mg base
  bs : ∀ b o, base.get? b = some o → s.heap.get? b = some o ∧ H b = none
  bsz : base.objs.size ≤ s.heap.objs.size
  funs : s.heap.FunFrames base outer
  frf : ∀ b ∈ frs outer, H b = none
  hok : HOk P w H s.heap
  bare : AllBare s.gens
noncomputable def CE (outer : List Env) (P : Program) (w : World) (H : Hp) (s : Shared) (Q : VK) (u : Value) (s' : Shared) : Prop :=
  ∃ v H', s'.os = s.os ∧ AllBare s'.gens ∧ Un (frs outer) [] H H' s.heap s'.heap ∧ HOk P w H' s'.heap ∧ RelV v u ∧ Q v H'
noncomputable def CR (CX : CXT) (outer : List Env) (P : Program) (w : World) (H : Hp) (s : Shared) (Q : VK) (E : XK) (r : Result) (s' : Shared) : Prop :=
  match r with
  | .ok (.ret u) => CE outer P w H s Q u s'
  | .ok _ => False
  | .error e => CX outer H s E e s'
structure FnOk (P : Program) (w : World) (K : PySem.W.Frag) (mg : Str → Option Value) (base : Heap) (CX : CXT) (k : Nat) (f : Addr) (fd : FuncData) (ps : List Str) (sp : Sp) : Prop where
  len : ∀ vs H Q E, sp vs H Q E → vs.length = ps.length
  run : ∀ (A : Around) (outer : List Env) (s : Shared) (H : Hp) (args : Args) (us : List Value) (vs : List V) (Q : VK) (E : XK), Room k A → Env0 P w K mg base A outer s H → BindsTo s fd args (ps.zip us) → Vals vs us → sp vs H Q E →
    codeAny (model P w) A (.call (.ref f) args) (CR CX outer P w H s Q E) s
theorem FnOk.mono {P : Program} {w : World} {K : PySem.W.Frag} {mg : Str → Option Value} {base : Heap} {CX : CXT} {j k : Nat} {f : Addr} {fd : FuncData} {ps : List Str} {sp : Sp} (F : FnOk P w K mg base CX j f fd ps sp) (h : j ≤ k) :
    FnOk P w K mg base CX k f fd ps sp := ⟨F.len, fun A outer s H args us vs Q E hr => F.run A outer s H args us vs Q E (hr.mono h)⟩
theorem FnOk.imp {P : Program} {w : World} {K : PySem.W.Frag} {mg : Str → Option Value} {base : Heap} {CX : CXT} {k : Nat} {f : Addr} {fd : FuncData} {ps : List Str} {sp sp' : Sp} (F : FnOk P w K mg base CX k f fd ps sp)
    (h : ∀ vs H Q E, sp' vs H Q E → sp vs H Q E) : FnOk P w K mg base CX k f fd ps sp' :=
  ⟨fun vs H Q E q => F.len vs H Q E (h _ _ _ _ q), fun A outer s H args us vs Q E hr he hb hv hs => F.run A outer s H args us vs Q E hr he hb hv (h _ _ _ _ hs)⟩
theorem Env0.make {P : Program} {w : World} {K : PySem.W.Frag} {mg : Str → Option Value} {base : Heap} {A : Around} {outer : List Env} {s : Shared} {H : Hp} (e : Env0 P w K mg base A outer s H) (C : Addr) (us : List Value) (kw : List (Str × Value)) :
    Env0 P w K mg base (A.under (.builtin "type.__call__" ⟨.ref C :: us, kw⟩)) outer s H := ⟨by first | exact e.frames | (simpa [Around.under, Code.envs, Code.isFrame, pushEnvs] using e.frames), e.mod, e.bs, e.bsz, e.funs, e.frf, e.hok, e.bare⟩
theorem Env0.in1 {P : Program} {w : World} {K : PySem.W.Frag} {mg : Str → Option Value} {base : Heap} {A : Around} {outer : List Env} {s : Shared} {H : Hp} (e : Env0 P w K mg base A outer s H) :
    Env0 P w K mg base A.in1 outer s H := ⟨e.frames, e.mod, e.bs, e.bsz, e.funs, e.frf, e.hok, e.bare⟩
section
variable {X : Cx} {pins : List (Addr × Obj)} {σ : St} {H : Hp} {s s' : Shared}
theorem Inv.env0 (I : Inv X pins σ H s) : Env0 X.prog X.w X.K X.mg X.base X.A X.stack s H :=
  ⟨I.ok.frames, I.ok.mod, I.bs, Nat.le_trans I.ok.bsz I.sz, I.stack, I.stkFree, I.hok, I.bare⟩
theorem Inv.after {Q : VK} {u : Value} (I : Inv X pins σ H s) (h : CE X.stack X.prog X.w H s Q u s') : EP X pins σ Q u s' := by
  obtain ⟨v, H', os, bare, un, hok, r, q⟩ := h
  obtain ⟨hh, g, d, t, os'⟩ := s'
  obtain rfl : os' = s.os := os
  exact ⟨v, H', I.call (h' := hh) (g' := g) (d' := d) (t' := t) (ch := []) un hok bare (fun b z => absurd z (by simp)), r, q⟩
end
noncomputable def tCall (sp : Sp) (dvs : List V) (E : XK) (t : TA) : TE := fun σ H Q => t σ H fun vs H1 => sp (vs ++ dvs) H1 Q E
noncomputable def tMeth (C : Addr) (m : Str) (sp : Sp) (dvs : List V) (E : XK) (ta : TE) (t : TA) : TE := fun σ H Q => ta σ H fun x H1 => ∃ a dx fs, x = .ref a ∧ H1 a = some (.ins C dx fs) ∧ fs.lookup m = none ∧
  t σ H1 fun vs H2 => sp (x :: (vs ++ dvs)) H2 Q E
noncomputable def tMake (C : Addr) (sp : Sp) (dvs : List V) (E : XK) (t : TA) : TE := fun σ H Q => t σ H fun vs H1 => ∀ x dx, H1 x = none → H1 dx = none → dx ≠ x →
  sp (.ref x :: (vs ++ dvs)) (upd (upd H1 dx (.own x)) x (.ins C dx [])) (fun v H2 => v = .non ∧ Q (.ref x) H2) E
noncomputable def Binds (K : PySem.W.Frag) (fd : FuncData) (ps : List Str) (ds : List Value) : Prop :=
  ∀ (s : Shared) (us : List Value), K.In s.heap → (us ++ ds).length = ps.length → BindsTo s fd ⟨us, []⟩ (ps.zip (us ++ ds))
theorem Binds.all {K : PySem.W.Frag} {fd : FuncData} {ps : List Str} (h : ∀ us : List Value, us.length = ps.length → bindArgs fd ⟨us, []⟩ = pure (ps.zip us)) : Binds K fd ps [] := fun s us _ hl => by
  rw [List.append_nil] at hl ⊢
  exact .of_eq (h us hl)
noncomputable def Passes (CX : CXT) (X : Cx) (E : XK) : Prop := ∀ (pins : List (Addr × Obj)) (σ : St) (H : Hp) (s : Shared) (e : Value) (s' : Shared), Inv X pins σ H s → CX X.stack H s E e s' → X.xe e s'
section
variable {X : Cx} {CX : CXT} {k : Nat} {f C : Addr} {fd : FuncData} {ps : List Str} {sp : Sp} {dvs : List V} {ds : List Value} {E : XK} {x m : Str} {p pos apos : Pos} {e o : Expr} {es : List Expr} {ta : TE} {t : TA}
theorem run_fn {pins : List (Addr × Obj)} {σ : St} {H : Hp} {s : Shared} {Q : VK} {us : List Value} {vs : List V} (F : FnOk X.prog X.w X.K X.mg X.base CX k f fd ps sp) (hr : Room k X.A) (hb : Binds X.K fd ps ds) (hd : Vals dvs ds) (hx : Passes CX X E)
    (I : Inv X pins σ H s) (r : Vals vs us) (h : sp (vs ++ dvs) H Q E) : wpAny (model X.prog X.w) X.A (call (.ref f) us) (EP X pins σ Q) X.xe s := by
  have r2 : Vals (vs ++ dvs) (us ++ ds) := r.append hd
  have hl : (us ++ ds).length = ps.length := by rw [← r2.length]; exact F.len _ _ _ _ h
  refine wpAny_call (codeAny_mono (F.run X.A X.stack s H ⟨us, []⟩ (us ++ ds) (vs ++ dvs) Q E hr I.env0 (hb s us I.kIn hl) r2 h) fun r s' hq => ?_)
  cases r with
  | error e => exact hx pins σ H s e s' I hq
  | ok fl =>
    cases fl with
    | ret u => exact I.after hq
    | next => exact False.elim hq
    | brk => exact False.elim hq
    | cont => exact False.elim hq
theorem pe_call (F : FnOk X.prog X.w X.K X.mg X.base CX k f fd ps sp) (hr : Room k X.A) (hg : Gl X x) (hm : X.mg x = some (.ref f)) (hk : PySem.W.keepIn X.K (.ref f) = true) (hb : Binds X.K fd ps ds) (hd : Vals dvs ds) (hx : Passes CX X E)
    (ha : PA X (e :: es) t) (hdb : (x == ("__debug__" : Str)) = false := by decide) (he : starEach (e :: es) X.env = (false, eval e X.env) :: starEach es X.env := by rfl) (hpl : (backTo pos (starEach es X.env)).any (·.1) = false := by rfl) :
    PE X (.Call (.Name x p) (e :: es) [] pos) (tCall sp dvs E t) := by
  intro pins s σ H Q I h
  refine wpAny_Call_Name_kw (ld_glob I hg hm ?_ hdb)
  refine PySem.W.callWith_K (h₀ := X.base) I.ok.mod.kin hk (thn (ha pos pins s σ H _ I h) fun us s1 ⟨vs, H1, I1, r, q⟩ => ⟨I1.kIn, ?_⟩) he hpl
  exact run_fn F hr hb hd hx I1 r q
theorem pe_meth {pl : Sem Bool} (he : PE X o ta) (c : Cls X.K C) (hm : Meth X.K C m f) (F : FnOk X.prog X.w X.K X.mg X.base CX k f fd ps sp) (hr : Room k X.A) (hb : Binds X.K fd ps ds) (hd : Vals dvs ds) (hx : Passes CX X E) (ha : PA X (e :: es) t)
    (hst : starEach (e :: es) X.env = (false, eval e X.env) :: starEach es X.env := by rfl) (hpl : (backTo pos (starEach es X.env)).any (·.1) = false := by rfl)
    (ht : eval (.Call (.Attribute o m apos) (e :: es) [] pos) X.env = (do
      let ov ← eval o X.env
      standAt apos.atName
      let (f, first) ← holding [ov] (getMethod ov m pl)
      callWith pos f first (backTo pos (starEach (e :: es) X.env)) (backToKw pos (keywordEach [] X.env))) := by rfl) :
    PE X (.Call (.Attribute o m apos) (e :: es) [] pos) (tMeth C m sp dvs E ta t) := by
  intro pins s σ H Q I h
  refine PySem.W.methodCall_KW (pl := pl) (thn (he pins s σ H _ I h) fun u s1 ⟨x, H1, I1, rx, a, dx, fs, ex, ea, l, q⟩ => ?_) ht
  subst ex
  obtain rfl : u = Value.ref a := rx
  refine getmeth_ok I1 ea c hm l ?_
  refine PySem.W.callWith_K (first := [.ref a]) (h₀ := X.base) I.ok.mod.kin hm.kp (thn (ha pos pins s1 σ H1 _ I1 q) fun us s2 ⟨vs, H2, I2, r, q2⟩ => ⟨I2.kIn, ?_⟩) hst hpl
  exact run_fn (us := .ref a :: us) (vs := .ref a :: vs) F hr hb hd hx I2 (.cons rfl r) q2
theorem pe_meth0 {pl : Sem Bool} (he : PE X o ta) (c : Cls X.K C) (hm : Meth X.K C m f) (F : FnOk X.prog X.w X.K X.mg X.base CX k f fd ps sp) (hr : Room k X.A) (hb : Binds X.K fd ps ds) (hd : Vals dvs ds) (hx : Passes CX X E)
    (ht : eval (.Call (.Attribute o m apos) [] [] pos) X.env = (do
      let ov ← eval o X.env
      standAt apos.atName
      let (f, first) ← holding [ov] (getMethod ov m pl)
      callWith pos f first (backTo pos (starEach [] X.env)) (backToKw pos (keywordEach [] X.env))) := by rfl) :
    PE X (.Call (.Attribute o m apos) [] [] pos) (tMeth C m sp dvs E ta tNil) := by
  intro pins s σ H Q I h
  refine PySem.W.methodCall_KW (pl := pl) (thn (he pins s σ H _ I h) fun u s1 ⟨x, H1, I1, rx, a, dx, fs, ex, ea, l, q⟩ => ?_) ht
  subst ex
  obtain rfl : u = Value.ref a := rx
  refine getmeth_ok I1 ea c hm l ?_
  exact PySem.W.callWith_K0 (first := [.ref a]) I1.kIn hm.kp (run_fn (us := [.ref a]) (vs := [.ref a]) F hr hb hd hx I1 (.cons rfl .nil) q)
structure Mk (K : PySem.W.Frag) (C f : Addr) : Prop where
  makes : PySem.W.makesIn K C = true
  init : PySem.W.findIn K (.ref C) "__init__" = some (some (.ref f))
  fn : PySem.W.isFn K (.ref f) = true
  kp : PySem.W.keepIn K (.ref C) = true
theorem run_make {pins : List (Addr × Obj)} {σ : St} {H : Hp} {s : Shared} {Q : VK} {us : List Value} {vs : List V} (M : Mk X.K C f) (F : FnOk X.prog X.w X.K X.mg X.base CX k f fd ps sp) (hr : Room (k + 1) X.A) (hb : Binds X.K fd ps ds) (hd : Vals dvs ds)
    (hx : Passes CX X E) (I : Inv X pins σ H s) (r : Vals vs us)
    (h : ∀ x dx, H x = none → H dx = none → dx ≠ x → sp (.ref x :: (vs ++ dvs)) (upd (upd H dx (.own x)) x (.ins C dx [])) (fun v H2 => v = .non ∧ Q (.ref x) H2) E) :
    wpAny (model X.prog X.w) X.A (call (.ref C) us) (EP X pins σ Q) X.xe s := by
  have hq := h (s.heap.objs.size + 1) s.heap.objs.size (I.hok.fresh (Nat.le_succ _)) (I.hok.fresh (Nat.le_refl _)) (Nat.ne_of_lt (Nat.lt_succ_self _))
  have I2 := Inv.made (C := C) I
  have r2 : Vals (V.ref (s.heap.objs.size + 1) :: (vs ++ dvs)) (Value.ref (s.heap.objs.size + 1) :: (us ++ ds)) := .cons rfl (r.append hd)
  have hl : (Value.ref (s.heap.objs.size + 1) :: us ++ ds).length = ps.length := by
    have e := r2.length
    rw [F.len _ _ _ _ hq] at e
    exact e.symm
  refine wpAny_call (make_map (f := f) I.kIn M.makes M.init (beq_iff_eq.mp M.fn) (codeAny_mono (F.run _ X.stack _ _ ⟨Value.ref (s.heap.objs.size + 1) :: us, []⟩ (Value.ref (s.heap.objs.size + 1) :: (us ++ ds)) _ _ E (hr.make C us [])
    (I2.env0.make C us []) (hb _ (Value.ref (s.heap.objs.size + 1) :: us) I2.kIn hl) r2 hq) fun r s' hq' => ?_))
  cases r with
  | error e => exact hx pins σ _ _ e s' I2 hq'
  | ok fl =>
    cases fl with
    | ret u =>
      obtain ⟨v, H', I3, rv, ev, q3⟩ := I2.after hq'
      subst ev
      exact ⟨rv, ⟨V.ref (s.heap.objs.size + 1), H', I3, rfl, q3⟩⟩
    | next => exact False.elim hq'
    | brk => exact False.elim hq'
    | cont => exact False.elim hq'
theorem pe_make (M : Mk X.K C f) (F : FnOk X.prog X.w X.K X.mg X.base CX k f fd ps sp) (hr : Room (k + 1) X.A) (hg : Gl X x) (hm : X.mg x = some (.ref C)) (hb : Binds X.K fd ps ds) (hd : Vals dvs ds) (hx : Passes CX X E)
    (ha : PA X (e :: es) t) (hdb : (x == ("__debug__" : Str)) = false := by decide) (he : starEach (e :: es) X.env = (false, eval e X.env) :: starEach es X.env := by rfl) (hpl : (backTo pos (starEach es X.env)).any (·.1) = false := by rfl) :
    PE X (.Call (.Name x p) (e :: es) [] pos) (tMake C sp dvs E t) := by
  intro pins s σ H Q I h
  refine wpAny_Call_Name_kw (ld_glob I hg hm ?_ hdb)
  refine PySem.W.callWith_K (h₀ := X.base) I.ok.mod.kin M.kp (thn (ha pos pins s σ H _ I h) fun us s1 ⟨vs, H1, I1, r, q⟩ => ⟨I1.kIn, ?_⟩) he hpl
  exact run_make M F hr hb hd hx I1 r q
end
section
variable {X : Cx} {CX : CXT} {k : Nat} {f C : Addr} {fd : FuncData} {ps ks : List Str} {sp : Sp} {E : XK} {x m : Str} {p pos apos kpos : Pos} {e o : Expr} {es : List Expr} {kws : List Keyword} {te ta : TE} {t tk : TA} {nm : Option Str}
variable {g : List Value → List Value → List Value} {gV : List V → List V → List V}
end
structure FnScope (N P : List Str) (sc : Scope) : Prop where
  kind : sc.kind = .function
  co : sc.isCoroutine = false
  gen : sc.isGenerator = false
  nd : N.Nodup
  pre : N.take P.length = P
  par : ∀ x ∈ P, sc.names.lookup x = some .local ∨ sc.names.lookup x = some .cell
  nofree : ∀ y ∈ sc.names, y.2 ≠ .free
theorem bindL_out {kindOf : Str → Option NameKind} {x : Str} : ∀ {binds : List (Str × Value)} {m : Str → Option Value}, (∀ v, (x, v) ∉ binds) → bindL kindOf binds m x = m x
  | [], _, _ => rfl
  | (n, v) :: r, m, h => by
    unfold bindL
    rw [bindL_out fun w hw => h w (List.mem_cons_of_mem _ hw)]
    split
    · have : x ≠ n := by rintro rfl; exact h v List.mem_cons_self
      simp [this]
    · rfl
theorem bindC_out {kindOf : Str → Option NameKind} {x : Str} : ∀ {binds : List (Str × Value)} {m : Str → Option Value}, (∀ v, (x, v) ∉ binds) → bindC kindOf binds m x = m x
  | [], _, _ => rfl
  | (n, v) :: r, m, h => by
    unfold bindC
    rw [bindC_out fun w hw => h w (List.mem_cons_of_mem _ hw)]
    split
    · rfl
    · have : x ≠ n := by rintro rfl; exact h v List.mem_cons_self
      simp [this]
theorem bindL_get {kindOf : Str → Option NameKind} {x : Str} {v : Value} : ∀ {P : List Str} {vs : List Value} {i : Nat} {m : Str → Option Value}, P.Nodup → P[i]? = some x → vs[i]? = some v → kindOf x = some .local →
    bindL kindOf (P.zip vs) m x = some v
  | [], _, _, _, _, h, _, _ => by simp at h
  | _ :: _, [], _, _, _, _, h, _ => by simp at h
  | p :: P, w :: vs, 0, m, nd, h1, h2, hk => by
    simp at h1 h2; subst h1; subst h2
    show bindL kindOf ((p, w) :: P.zip vs) m p = _
    unfold bindL
    rw [bindL_out fun v hv => (List.nodup_cons.mp nd).1 (List.of_mem_zip hv).1, if_pos hk]
    simp
  | p :: P, w :: vs, i + 1, m, nd, h1, h2, hk => by
    show bindL kindOf ((p, w) :: P.zip vs) m x = _
    unfold bindL
    exact bindL_get (i := i) (List.nodup_cons.mp nd).2 (by simpa using h1) (by simpa using h2) hk
theorem bindC_get {kindOf : Str → Option NameKind} {x : Str} {v : Value} : ∀ {P : List Str} {vs : List Value} {i : Nat} {m : Str → Option Value}, P.Nodup → P[i]? = some x → vs[i]? = some v → kindOf x ≠ some .local →
    bindC kindOf (P.zip vs) m x = some v
  | [], _, _, _, _, h, _, _ => by simp at h
  | _ :: _, [], _, _, _, _, h, _ => by simp at h
  | p :: P, w :: vs, 0, m, nd, h1, h2, hk => by
    simp at h1 h2; subst h1; subst h2
    show bindC kindOf ((p, w) :: P.zip vs) m p = _
    unfold bindC
    rw [bindC_out fun v hv => (List.nodup_cons.mp nd).1 (List.of_mem_zip hv).1, if_neg hk]
    simp
  | p :: P, w :: vs, i + 1, m, nd, h1, h2, hk => by
    show bindC kindOf ((p, w) :: P.zip vs) m x = _
    unfold bindC
    exact bindC_get (i := i) (List.nodup_cons.mp nd).2 (by simpa using h1) (by simpa using h2) hk
noncomputable def start (N : List Str) (vs : List V) : St := vs.map some ++ List.replicate (N.length - vs.length) none
noncomputable def cxOf (CX : CXT) (P : Program) (w : World) (K : PySem.W.Frag) (mg : Str → Option Value) (base : Heap) (N : List Str) (qual : Str) (scope : Scope) (f : Addr) (cd : Value) (A : Around) (outer : List Env) (s : Shared) (H : Hp) (E : XK) : Cx where
  prog := P
  w := w
  K := K
  mg := mg
  base := base
  A := A.deeper (envOfC qual scope s.heap.objs.size f cd)
  N := N
  s₀ := s
  H₀ := H
  env := envOfC qual scope s.heap.objs.size f cd
  outer := outer
  stack := envOfC qual scope s.heap.objs.size f cd :: outer
  ex := []
  calm := true
  fn := fun _ => true
  pn := []
  xe := fun e s' => wpAny (model P w) (A.deeper (envOfC qual scope s.heap.objs.size f cd)) (leaving (envOfC qual scope s.heap.objs.size f cd) e) (fun _ s'' => CX outer H s E e s'') (fun e' s'' => CX outer H s E e' s'') s'
theorem cell_has {sc : Scope} {n : Nat} {x : Str} (h : sc.names.lookup x = some .cell) : ∃ c, (cellsFrom n sc.names []).lookup x = some c := by
  have q := PySem.W.cellsFrom_some sc.names n [] (.inl h)
  exact Option.isSome_iff_exists.mp q
theorem inv_start {CX : CXT} {P : Program} {w : World} {K : PySem.W.Frag} {mg : Str → Option Value} {base : Heap} {N ps : List Str} {qual : Str} {scope : Scope} {f : Addr} {cd : Value} {A : Around} {outer : List Env} {s s1 : Shared} {H : Hp} {E : XK} {us : List Value} {vs : List V}
    (S : FnScope N ps scope) (hd : A.handled = none) (e0 : Env0 P w K mg base A outer s H) (hl : vs.length = ps.length) (r : Vals vs us)
    (x : InCallC s s.heap.objs.size (bindL (envOfC qual scope s.heap.objs.size f cd).kindOf (ps.zip us) fun _ => none) (cellsFrom (s.heap.objs.size + 1) scope.names []) (bindC (envOfC qual scope s.heap.objs.size f cd).kindOf (ps.zip us) fun _ => none) s1) :
    Inv (cxOf CX P w K mg base N qual scope f cd A outer s H E) [] (start N vs) H s1 := by
  have hpl : ps.length ≤ N.length := by have := congrArg List.length S.pre; rw [List.length_take] at this; omega
  obtain ⟨h1, tk, rfl, hk⟩ := x.done
  have noA : ∀ b : Addr, b ∉ (cxOf CX P w K mg base N qual scope f cd A outer s H E).ex := fun b z => absurd (show b ∈ ([] : List Addr) from z) (by simp)
  refine ⟨⟨e0.mod, S.kind, rfl, rfl, Nat.le_refl _, fun y z c h1 h2 => ?_, fun y hy => ?_, fun y c _ h => ?_, fun _ => hd, Around.frames_deeper e0.frames, .inr ⟨rfl, rfl⟩, fun b z => absurd z (noA b), e0.bs, e0.bsz, fun b _ _ => noA b, fun b z => absurd z (noA b), e0.funs, e0.frf⟩,
    rfl, e0.bare, Un.kept hk, ⟨_, x.toInCall.ns, fun i y v h1 h2 h3 => ?_⟩, fun y c h => ⟨_, x.cell y c h⟩, e0.hok.fresh (Nat.le_refl _), fun y c h => ?_, fun p hp => absurd (show p ∈ ([] : List (Addr × Obj)) from hp) (by simp), e0.hok.kept hk, ?_⟩
  · exact name_of_addr x.apart (PySem.mem_of_lookup h1) (PySem.mem_of_lookup h2)
  · have hy : scope.names.lookup y = some .cell ∨ scope.names.lookup y = some .free := hy
    rcases hy with hy | hy
    · exact cell_has hy
    · exact absurd rfl (S.nofree _ (PySem.mem_of_lookup hy))
  · exact Nat.le_of_lt (x.above y c (PySem.mem_of_lookup h))
  · have hi : i < vs.length := by
      unfold start at h2
      by_cases hi : i < vs.length
      · exact hi
      · rw [List.getElem?_append_right (by simpa using hi)] at h2
        rw [List.getElem?_replicate] at h2
        split at h2 <;> cases h2
    have ha : vs[i]? = some v := by
      unfold start at h2
      rw [List.getElem?_append_left (by simpa using hi), List.getElem?_map] at h2
      cases e : vs[i]? with
      | none => rw [e] at h2; cases h2
      | some a => rw [e] at h2; cases h2; rfl
    obtain ⟨u, hu, rv⟩ := r.get ha
    have hp : ps[i]? = some y := by
      rw [← S.pre, List.getElem?_take_of_lt (by omega)]; exact h1
    have ndP : ps.Nodup := by rw [← S.pre]; exact S.nd.sublist (List.take_sublist _ _)
    refine ⟨u, rv, ?_⟩
    rcases S.par y (List.mem_of_getElem? hp) with k | k
    · exact .inl ⟨k, bindL_get ndP hp hu k⟩
    · obtain ⟨c, e⟩ := cell_has (n := s.heap.objs.size + 1) k
      refine .inr ⟨.inl k, c, e, ?_⟩
      have q := x.cell y c e
      rw [bindC_get ndP hp hu (by show scope.names.lookup y ≠ _; rw [k]; decide)] at q
      exact q
  · exact e0.hok.fresh (Nat.le_of_lt (x.above y c (PySem.mem_of_lookup h)))
  · unfold start
    show _ = N.length
    rw [List.length_append, List.length_map, List.length_replicate]
    omega
theorem fn_of {CX : CXT} {P : Program} {w : World} {K : PySem.W.Frag} {mg : Str → Option Value} {base : Heap} {k : Nat} {f : Addr} {name qual : Str} {params : Arguments} {body : List Stmt} {scope : Scope} {dV kV doc pm cdv ct oc : Value} {an od : Option Addr}
    {osl : Array (Option Value)} {N ps : List Str} {sp : Sp} (lk : K.lookup f = some ⟨oc, od, .func (PySem.W.fnOf name qual params body scope dV kV doc pm an cdv ct), osl⟩) (hcd : PySem.W.codeIn K cdv qual = true) (S : FnScope N ps scope)
    (len : ∀ vs H Q E, sp vs H Q E → vs.length = ps.length)
    (hbody : ∀ (A : Around) (outer : List Env) (s : Shared) (H : Hp) (vs : List V) (Q : VK) (E : XK), Room k (A.deeper (envOfC qual scope s.heap.objs.size f cdv)) → sp vs H Q E →
      ∃ t, PSs (cxOf CX P w K mg base N qual scope f cdv A outer s H E) body t ∧ t { nx := fun _ H' => Q .non H', rt := Q } (start N vs) H) :
    FnOk P w K mg base CX (k + 1) f (PySem.W.fnOf name qual params body scope dV kV doc pm an cdv ct) ps sp := by
  refine ⟨len, fun A outer s H args us vs Q E hr e0 hb r hsp => ?_⟩
  have hl := len _ _ _ _ hsp
  have KX : K.In s.heap := e0.mod.kin.keeps fun b o e => (e0.bs b o e).1
  have lim : s.heap.NoLimit := e0.mod.nolimit.keeps fun b o e => (e0.bs b o e).1
  have hkind : ∀ y ∈ ps.zip us, scope.names.lookup y.1 = some .local ∨ (scope.names.lookup y.1 = some .cell ∧ ((cellsFrom (s.heap.objs.size + 1) scope.names []).lookup y.1).isSome = true) := fun ⟨n, v⟩ hy => by
    rcases S.par n (List.of_mem_zip hy).1 with q | q
    · exact .inl q
    · exact .inr ⟨q, PySem.W.cellsFrom_some _ _ _ (.inl q)⟩
  refine codeAny_call_function hr.depth (KX _ _ lk) rfl S.co S.gen rfl (PySem.W.codeRec_of KX hcd) (hb _ _ _ _ ?_)
  refine wpAny_newFunctionEnv_cells S.kind hkind fun env he s1 x => ?_
  subst he
  refine ⟨lim.keeps x.toInCall.keep, codeAny_func ?_⟩
  obtain ⟨t, ht, hq⟩ := hbody A outer s H vs Q E (hr.deeper _) hsp
  have I : Inv (cxOf CX P w K mg base N qual scope f cdv A outer s H E) [] (start N vs) H s1 := inv_start S hr.hd e0 hl r x
  refine wpAny_mono (ht [] s1 (start N vs) H _ I hq) (fun fl s' hs => ?_) fun e s' hs => hs
  have fin : ∀ {σ' : St} {H' : Hp} {v : V} {u : Value}, Inv (cxOf CX P w K mg base N qual scope f cdv A outer s H E) [] σ' H' s' → RelV v u → Q v H' → CE outer P w H s Q u s' :=
    fun {σ' H' v u} J rv q => ⟨v, H', J.os, J.bare, J.base, J.hok, rv, q⟩
  cases fl with
  | ret u =>
    obtain ⟨v, σ', H', J, rv, q⟩ := hs
    exact fin J rv q
  | next =>
    obtain ⟨σ', H', J, q⟩ := hs
    exact fin (v := V.non) (u := Value.none) J rfl q
  | brk =>
    obtain ⟨_, _, _, q⟩ := hs
    exact False.elim q
  | cont =>
    obtain ⟨_, _, _, q⟩ := hs
    exact False.elim q
end L2
namespace L2
open PySem PySem.Spec PyProof.Rows
section
variable {X : Cx} {x : Str} {p pos : Pos} {e : Expr} {es : List Expr} {t : TA} {id T : String} {r : List V → Hp → VK → Prop}
noncomputable def tCB (r : List V → Hp → VK → Prop) (t : TA) : TE := fun σ H Q => t σ H fun vs H1 => r vs H1 Q
theorem pe_callB (hc : CallR X (.builtin id) r) (hg : Gl X x) (hm : X.mg x = none) (hv : bootBuiltins x = some (.builtin id)) (ha : PA X (e :: es) t) (hn : x ≠ "__name__" := by decide) (hdb : (x == ("__debug__" : Str)) = false := by decide)
    (he : starEach (e :: es) X.env = (false, eval e X.env) :: starEach es X.env := by rfl) (hpl : (backTo pos (starEach es X.env)).any (·.1) = false := by rfl) : PE X (.Call (.Name x p) (e :: es) [] pos) (tCB r t) := by
  intro pins s σ H Q I h
  refine wpAny_Call_Name_kw (ld_blt I hg hm hv ?_ hn hdb)
  exact PyProof.Rows.callWith_builtin1 (thn (ha pos pins s σ H _ I h) fun us s1 ⟨vs, H1, I1, r1, q1⟩ => hc pins s1 σ H1 vs us Q I1 r1 q1) he hpl
theorem pe_callTy (hc : CallR X (.type T) r) (hg : Gl X x) (hm : X.mg x = none) (hv : bootBuiltins x = some (.type T)) (ha : PA X (e :: es) t) (hn : x ≠ "__name__" := by decide) (hdb : (x == ("__debug__" : Str)) = false := by decide)
    (he : starEach (e :: es) X.env = (false, eval e X.env) :: starEach es X.env := by rfl) (hpl : (backTo pos (starEach es X.env)).any (·.1) = false := by rfl) : PE X (.Call (.Name x p) (e :: es) [] pos) (tCB r t) := by
  intro pins s σ H Q I h
  refine wpAny_Call_Name_kw (ld_blt I hg hm hv ?_ hn hdb)
  exact PyProof.Rows.callWith_type1 (thn (ha pos pins s σ H _ I h) fun us s1 ⟨vs, H1, I1, r1, q1⟩ => hc pins s1 σ H1 vs us Q I1 r1 q1) he hpl
end
end L2
namespace HT
open PySem PyProof.Rows
section
open PySem.SeqAt
open PySem.AutoSeq1 (wpAny_loadPart')
open PySem.MeetsSeq PySem.MeetsSeq2 PySem.MeetsSeq3
end
section
variable {prog : Program} {w : World} {A : Around} {E : Value → Shared → Prop} {s : Shared}
noncomputable def sIx (n d : Nat) : Option Int → Nat
  | none => d
  | some v => if v < 0 then (v + (n : Int)).toNat else min v.toNat n
end
end HT
namespace L2
open PySem PySem.Spec PyProof.Rows
noncomputable abbrev TO := St → Hp → (Option Int → Hp → Prop) → Prop
noncomputable def PO (X : Cx) (e : Option Expr) (t : TO) : Prop :=
  ∀ (pins : List (Addr × Obj)) (s : Shared) (σ : St) (H : Hp) (Q : Option Int → Hp → Prop), Inv X pins σ H s → t σ H Q →
    wpAny (model X.prog X.w) X.A (evalPart e X.env) (fun u s' => ∃ o H', Inv X pins σ H' s' ∧ IsPart u o ∧ Q o H') X.xe s
noncomputable def tNoPart : TO := fun _ H Q => Q none H
noncomputable def tPart (t : TE) : TO := fun σ H Q => t σ H fun x H1 => ∃ i, x = .int i ∧ Q (some i) H1
section
variable {X : Cx} {e : Expr} {te : TE} {lo hi : Option Expr} {tl th : TO} {pos p2 : Pos}
theorem po_none : PO X none tNoPart := by
  intro pins s σ H Q I h
  rw [evalPart_none]
  exact wpAny_pure ⟨none, H, I, .none, h⟩
theorem po_some (h : PE X e te) : PO X (some e) (tPart te) := by
  intro pins s σ H Q I hw
  rw [evalPart_some]
  refine thn (h pins s σ H _ I hw) fun u s1 ⟨x, H1, I1, r1, q1⟩ => ?_
  obtain ⟨i, rfl, q⟩ := q1
  obtain ⟨t, rfl⟩ := r1
  exact ⟨some i, H1, I1, .int i t, q⟩
noncomputable def SlR (X : Cx) (r : V → Option Int → Option Int → Hp → VK → Prop) : Prop :=
  ∀ (pins : List (Addr × Obj)) (s : Shared) (σ : St) (H : Hp) (x : V) (v vl vu : Value) (lo hi : Option Int) (sl : Addr) (Q : VK), Inv X pins σ H s → RelV x v → s.heap.IsSliceOf sl vl vu .none → IsPart vl lo → IsPart vu hi → r x lo hi H Q →
    ∃ T id, typeLookup (.type T) "__getitem__" = pure (some (.builtin id)) ∧ s.TypeIs v T ∧ wpAny (model X.prog X.w) X.A (getItem v (.ref sl)) (EP X pins σ Q) X.xe s
theorem SlR.or {r r' : V → Option Int → Option Int → Hp → VK → Prop} (h : SlR X r) (h' : SlR X r') : SlR X (fun x lo hi H Q => r x lo hi H Q ∨ r' x lo hi H Q) := by
  intro pins s σ H x v vl vu lo hi sl Q I rx hs pl pu q
  rcases q with q | q
  · exact h pins s σ H x v vl vu lo hi sl Q I rx hs pl pu q
  · exact h' pins s σ H x v vl vu lo hi sl Q I rx hs pl pu q
noncomputable def tSl (r : V → Option Int → Option Int → Hp → VK → Prop) (te : TE) (tl th : TO) : TE := fun σ H Q => te σ H fun x H1 => tl σ H1 fun l H2 => th σ H2 fun u H3 => r x l u H3 Q
theorem pe_slice {r : V → Option Int → Option Int → Hp → VK → Prop} (hr : SlR X r) (he : PE X e te) (hl : PO X lo tl) (hu : PO X hi th) : PE X (.Subscript e (.Slice lo hi none p2) pos) (tSl r te tl th) := by
  intro pins s σ H Q I h
  refine Subscript_ (thn (he pins s σ H _ I h) fun v s1 ⟨x, H1, I1, r1, q1⟩ => ?_)
  refine wpAny_Slice (thn (hl pins s1 σ H1 _ I1 q1) fun vl s2 ⟨l, H2, I2, pl, q2⟩ => thn (hu pins s2 σ H2 _ I2 q2) fun vu s3 ⟨u, H3, I3, pu, q3⟩ => ?_)
  rw [evalPart_none]
  refine wpAny_pure ?_
  have I4 : Inv X pins σ H3 { s3 with heap := s3.heap.push { cls := .type "slice", data := .fields #[vl, vu, .none] } } := I3.kept (t' := s3.toks) fun b ob q => Heap.get?_push_of_some _ q
  obtain ⟨T, id, hT, ht, hg⟩ := hr pins { s3 with heap := s3.heap.push { cls := .type "slice", data := .fields #[vl, vu, .none] } } σ H3 x v vl vu l u s3.heap.objs.size Q I4 r1 (Heap.IsSliceOf.new ..) pl pu q3
  show wpAny (model X.prog X.w) X.A (subscriptTail e (.Slice lo hi none p2) v (.ref s3.heap.objs.size)) (EP X pins σ Q) X.xe { s3 with heap := s3.heap.push { cls := .type "slice", data := .fields #[vl, vu, .none] } }
  exact tail_any (ops := [.ref s3.heap.objs.size, v]) ht hT hg (by with_unfolding_all rfl)
noncomputable def cutV (xs : List V) (lo hi : Option Int) : List V := (xs.drop (HT.sIx xs.length 0 lo)).take (HT.sIx xs.length xs.length hi - HT.sIx xs.length 0 lo)
theorem cutV_length (xs : List V) (lo hi : Option Int) : (cutV xs lo hi).length ≤ xs.length := by
  unfold cutV
  rw [List.length_take, List.length_drop]
  omega
end
end L2
namespace L2
open PySem PySem.Spec PyProof.Rows
noncomputable def ixN (n : Nat) (i : Int) : Option Nat := if 0 ≤ i then (if i < n then some i.toNat else none) else if -(n : Int) ≤ i then some (i + n).toNat else none
noncomputable def atI {α : Type} (xs : List α) (i : Int) : Option α := (ixN xs.length i).bind fun j => xs[j]?
theorem ixN_seq {n : Nat} {i : Int} {j : Nat} (h : ixN n i = some j) : seqIndex? i n = some j ∧ j < n ∧ -(n : Int) ≤ i ∧ i < n := by
  unfold ixN at h
  by_cases h0 : 0 ≤ i
  · rw [if_pos h0] at h
    by_cases h1 : i < n
    · rw [if_pos h1] at h
      have e : i.toNat = j := Option.some.inj h
      exact ⟨by rw [seqIndex_of h0 h1, e], by omega, by omega, h1⟩
    · rw [if_neg h1] at h; cases h
  · rw [if_neg h0] at h
    by_cases h1 : -(n : Int) ≤ i
    · rw [if_pos h1] at h
      have e : (i + n).toNat = j := Option.some.inj h
      exact ⟨by rw [seqIndex_neg (by omega) h1, e], by omega, h1, by omega⟩
    · rw [if_neg h1] at h; cases h
theorem atI_get {α : Type} {xs : List α} {i : Int} {v : α} (h : atI xs i = some v) : ∃ j, seqIndex? i xs.length = some j ∧ xs[j]? = some v ∧ j < xs.length ∧ -(xs.length : Int) ≤ i ∧ i < xs.length := by
  unfold atI at h
  cases e : ixN xs.length i with
  | none => rw [e] at h; cases h
  | some j =>
    rw [e] at h
    obtain ⟨h1, h2, h3, h4⟩ := ixN_seq e
    exact ⟨j, h1, h, h2, h3, h4⟩
noncomputable def PlainIx (b : Expr) : Prop := ∀ o i, subscripted b false o i = operate [o, i] (getItem o i)
noncomputable def IxR (X : Cx) (r : R2) : Prop :=
  ∀ (value slice : Expr) (pins : List (Addr × Obj)) (s : Shared) (σ : St) (H : Hp) (x y : V) (v u : Value) (Q : VK), Inv X pins σ H s → RelV x v → RelV y u → r x y H Q →
    subscripted slice false v u = operate [v, u] (getItem v u) → wpAny (model X.prog X.w) X.A (subscriptTail value slice v u) (EP X pins σ Q) X.xe s
noncomputable def MtR (X : Cx) (id : String) (r : V → List V → Hp → VK → Prop) : Prop :=
  ∀ (pins : List (Addr × Obj)) (s : Shared) (σ : St) (H : Hp) (x : V) (xs : List V) (v : Value) (us : List Value) (Q : VK), Inv X pins σ H s → RelV x v → Vals xs us → r x xs H Q →
    wpAny (model X.prog X.w) X.A (call (.builtin id) (v :: us)) (EP X pins σ Q) X.xe s
section
variable {X : Cx} {a b : Expr} {ta tb : TE} {pos : Pos}
theorem IxR.or {r r' : R2} (h : IxR X r) (h' : IxR X r') : IxR X (fun x y H Q => r x y H Q ∨ r' x y H Q) := by
  intro value slice pins s σ H x y v u Q I rx ry q hs
  rcases q with q | q
  · exact h value slice pins s σ H x y v u Q I rx ry q hs
  · exact h' value slice pins s σ H x y v u Q I rx ry q hs
theorem MtR.or {id : String} {r r' : V → List V → Hp → VK → Prop} (h : MtR X id r) (h' : MtR X id r') : MtR X id (fun x xs H Q => r x xs H Q ∨ r' x xs H Q) := by
  intro pins s σ H x xs v us Q I rx rs q
  rcases q with q | q
  · exact h pins s σ H x xs v us Q I rx rs q
  · exact h' pins s σ H x xs v us Q I rx rs q
theorem pe_ix {r : R2} (hr : IxR X r) (ha : PE X a ta) (hb : PE X b tb) (hs : PlainIx b) : PE X (.Subscript a b pos) (tOp r ta tb) := by
  intro pins s σ H Q I h
  exact Subscript_ (binT ha hb I h fun v u s2 x y H2 I2 rx ry q => hr a b pins s2 σ H2 x y v u Q I2 rx ry q (hs _ _))
noncomputable def rIxL (K : PySem.W.Frag) : R2 := fun x y H Q => ∃ p xs i v, x = .ref p ∧ y = .int i ∧ SqL K H p xs ∧ atI xs i = some v ∧ Q v H
noncomputable def rIxT (K : PySem.W.Frag) : R2 := fun x y H Q => ∃ p xs i v, x = .ref p ∧ y = .int i ∧ SqT K H p xs ∧ atI xs i = some v ∧ Q v H
noncomputable def rIxS : R2 := fun x y H Q => ∃ z i c, x = .str z ∧ y = .int i ∧ z.length ≤ sizeLine ∧ atI z.cps.toList i = some c ∧ Q (.str ⟨#[c]⟩) H
theorem ix_list : IxR X (rIxL X.K) := by
  intro value slice pins s σ H x y v u Q I rx ry h hs
  obtain ⟨p, xs, i, z, rfl, rfl, hq, he, q⟩ := h
  cases rx
  obtain ⟨t, rfl⟩ := ry
  obtain ⟨its, r, pl, hz⟩ := I.list hq
  obtain ⟨j, h1, h2, h3, h4, h5⟩ := atI_get he
  obtain ⟨w, ew, rw'⟩ := r.get h2
  have hl := r.length
  have hn := line63
  have fin : EP X pins σ Q w s := ⟨z, H, I, rw', q⟩
  by_cases h0 : 0 ≤ i
  · have hj : i.toNat = j := by
      rw [seqIndex_of h0 h5] at h1
      exact Option.some.inj h1
    exact item_listR pl.isList h0 (by omega) (by rw [hj]; simpa using ew) fin hs
  · have hj : (i + (its.toArray.size : Int)).toNat = j := by
      rw [seqIndex_neg (by omega) h4] at h1
      rw [List.size_toArray, ← hl]
      exact Option.some.inj h1
    exact subscriptTail_builtinR (x := w) pl.isList.typeIs slot_list_getitem.lookup
      (wpAny_getItem_list_neg (Q := fun r s' => r = w ∧ EP X pins σ Q r s') pl.isList (by omega) (by rw [List.size_toArray] <;> omega) (by omega) (by rw [hj]; simpa using ew) ⟨rfl, fin⟩) hs
theorem ix_tup : IxR X (rIxT X.K) := by
  intro value slice pins s σ H x y v u Q I rx ry h hs
  obtain ⟨p, xs, i, z, rfl, rfl, hq, he, q⟩ := h
  cases rx
  obtain ⟨t, rfl⟩ := ry
  obtain ⟨its, r, pl, hz⟩ := I.tuple hq
  obtain ⟨j, h1, h2, h3, h4, h5⟩ := atI_get he
  obtain ⟨w, ew, rw'⟩ := r.get h2
  have hl := r.length
  have hn := line63
  have fin : EP X pins σ Q w s := ⟨z, H, I, rw', q⟩
  exact subscriptTail_builtinR (x := w) pl.typeIs slot_tuple_getitem.lookup
    (getItem_tuple (j := j) (Q := fun r s' => r = w ∧ EP X pins σ Q r s') pl (by omega) (by omega) (by rw [List.size_toArray, ← hl]; exact h1) (by simpa using ew) ⟨rfl, fin⟩) hs
theorem ix_str : IxR X rIxS := by
  intro value slice pins s σ H x y v u Q I rx ry h hs
  obtain ⟨z, i, c, rfl, rfl, hz, he, q⟩ := h
  obtain ⟨t, rfl⟩ := rx
  obtain ⟨t', rfl⟩ := ry
  obtain ⟨j, h1, h2, h3, h4, h5⟩ := atI_get he
  have hl : z.cps.toList.length = z.length := by simp [Str.length]
  rw [hl] at h1 h4 h5
  have hn := line63
  exact tail_any (typeIs_str s z t) slot_str_getitem.lookup (getItem_str (c := c) (by
    have e1 : decide (i < -(2 ^ 63 : Int)) = false := decide_eq_false (by omega)
    have e2 : decide (i ≥ 2 ^ 63) = false := decide_eq_false (by omega)
    rw [e1, e2, Bool.or_false]) (by rw [h1]; simpa using h2) ⟨.str ⟨#[c]⟩, H, I.tok _, ⟨_, rfl⟩, q⟩) hs
theorem mapSeq_set (its : List Value) (n j : Nat) (u : Value) : Obj.mapSeq (·.setIfInBounds j u) { cls := .type "list", data := .seq its.toArray n } = { cls := .type "list", data := .seq (its.set j u).toArray n } := by
  simp [Obj.mapSeq]
theorem Inv.lst {pins : List (Addr × Obj)} {σ : St} {H : Hp} {s : Shared} {p : Addr} {xs : List V} (I : Inv X pins σ H s) (h : H p = some (.lst xs)) :
    ∃ (its : List Value) (n : Nat), Vals xs its ∧ s.heap.get? p = some { cls := .type "list", data := .seq its.toArray n } ∧ xs.length ≤ sizeLine := by
  obtain ⟨z, its, n, r, e⟩ := I.hok p _ h
  exact ⟨its, n, r, e, z⟩
theorem Inv.lstUpd {pins : List (Addr × Obj)} {σ : St} {H : Hp} {s : Shared} {p : Addr} {xs ys : List V} {its its' : List Value} {n n' : Nat} {f : Obj → Obj} (I : Inv X pins σ H s) (h : H p = some (.lst xs))
    (ho : s.heap.get? p = some { cls := .type "list", data := .seq its.toArray n }) (hf : f { cls := .type "list", data := .seq its.toArray n } = { cls := .type "list", data := .seq its'.toArray n' }) (r : Vals ys its') (hz : ys.length ≤ sizeLine) (t : Nat) :
    Inv X pins σ (upd H p (.lst ys)) { s with heap := s.heap.update p f, toks := t } := by
  have e : (s.heap.update p f).get? p = some { cls := .type "list", data := .seq its'.toArray n' } := by
    rw [Heap.get?_update_self f ho (by rw [hf] <;> rfl), hf]
  refine I.write (x := p) (e := p) (by rw [h]; trivial) (.inl rfl) (fun b u hb q => (Heap.get?_update_other _ _ (Ne.symm hb)).trans q) ⟨_, e⟩ ?_
  exact ⟨hz, its', n', r, e⟩
noncomputable def rSetL : V → V → V → Hp → (Hp → Prop) → Prop := fun o i v H Q => ∃ p xs k j, o = .ref p ∧ i = .int k ∧ H p = some (.lst xs) ∧ ixN xs.length k = some j ∧ Q (upd H p (.lst (xs.set j v)))
theorem set_list : PSet X rSetL := by
  intro pins s σ H o i v ov iv u Q I ro ri rv h
  obtain ⟨p, xs, k, j, rfl, rfl, hp, hj, q⟩ := h
  cases ro
  obtain ⟨t, rfl⟩ := ri
  obtain ⟨its, n, r, ho, hz⟩ := I.lst hp
  obtain ⟨h1, h2, h3, h4⟩ := ixN_seq hj
  have hl := r.length
  have hn := line63
  have I' : Inv X pins σ (upd H p (.lst (xs.set j v))) { s with heap := s.heap.update p (Obj.mapSeq (·.setIfInBounds j u)) } :=
    I.lstUpd hp ho (mapSeq_set its n j u) (r.set rv j) (by rw [List.length_set]; exact hz) s.toks
  by_cases h0 : 0 ≤ k
  · have hk : k.toNat = j := by
      rw [seqIndex_of h0 h4] at h1
      exact Option.some.inj h1
    exact PySem.W.ki_setAt ho h0 (by omega) (by rw [List.size_toArray, ← hl]; exact h4) (by rw [hk]; exact ⟨_, I', q⟩)
  · have hk : (k + (its.toArray.size : Int)).toNat = j := by
      rw [seqIndex_neg (by omega) h3] at h1
      rw [List.size_toArray, ← hl]
      exact Option.some.inj h1
    exact PySem.W.ki_setBack ho (by omega) (by rw [List.size_toArray, ← hl]; exact h3) (by omega) (by rw [hk]; exact ⟨_, I', q⟩)
theorem slice_bounds (lo hi : Option Int) (n : Nat) : (sliceBounds lo hi none n).1 = ((HT.sIx n 0 lo : Nat) : Int) ∧ (sliceBounds lo hi none n).2.1 = ((HT.sIx n n hi : Nat) : Int) ∧ (sliceBounds lo hi none n).2.2 = 1 := by
  refine ⟨?_, ?_, rfl⟩
  · cases lo with
    | none => simp [sliceBounds, HT.sIx]
    | some i =>
      simp only [sliceBounds, HT.sIx, Option.getD_none, show (1 : Int) > 0 by decide, if_true]
      by_cases h : i < 0
      · simp only [h, if_true] <;> omega
      · simp only [h, if_false] <;> omega
  · cases hi with
    | none => simp [sliceBounds, HT.sIx]
    | some i =>
      simp only [sliceBounds, HT.sIx, Option.getD_none, show (1 : Int) > 0 by decide, if_true]
      by_cases h : i < 0
      · simp only [h, if_true] <;> omega
      · simp only [h, if_false] <;> omega
theorem slicePick_cut (its : List Value) (lo hi : Option Int) : slicePick its.toArray lo hi none = ((its.drop (HT.sIx its.length 0 lo)).take (HT.sIx its.length its.length hi - HT.sIx its.length 0 lo)).toArray := by
  obtain ⟨h1, h2, h3⟩ := slice_bounds lo hi its.toArray.size
  unfold slicePick
  rw [h1, h2, h3]
  simp only [sliceRange_one, pick_run, List.size_toArray] <;> rfl
noncomputable def rSlL (K : PySem.W.Frag) : V → Option Int → Option Int → Hp → VK → Prop := fun x lo hi H Q => ∃ a xs, x = .ref a ∧ SqL K H a xs ∧ ∀ p, H p = none → Q (.ref p) (upd H p (.lst (cutV xs lo hi)))
theorem sl_list : SlR X (rSlL X.K) := by
  intro pins s σ H x v vl vu lo hi sl Q I rx hs pl pu h
  obtain ⟨a, xs, rfl, hx, q⟩ := h
  cases rx
  obtain ⟨its, r, ht, hz⟩ := I.list hx
  have hlen := r.length
  refine ⟨"list", _, slot_list_getitem.lookup, ht.isList.typeIs, ?_⟩
  refine wpAny_getItem_list_slice ht.isList hs pl pu .none (by simp) ?_ (by rw [List.size_toArray] <;> omega)
  rw [slicePick_cut, ← hlen]
  refine ⟨.ref s.heap.objs.size, _, I.laid (t' := s.toks) (o := .lst (cutV xs lo hi)) (fun b ob q => Heap.get?_push_of_some _ q) (Nat.le_refl _) ?_, rfl, q _ (I.hok.fresh (Nat.le_refl _))⟩
  exact ⟨Nat.le_trans (cutV_length xs lo hi) hz, _, 0, (r.drop (HT.sIx xs.length 0 lo)).take (HT.sIx xs.length xs.length hi - HT.sIx xs.length 0 lo), Heap.get?_push_size _ rfl⟩
theorem call_len_seq : CallR X (.builtin "len") (fun xs H Q => ∃ p ys, xs = [.ref p] ∧ (SqL X.K H p ys ∨ SqT X.K H p ys) ∧ Q (.int ys.length) H) := by
  intro pins s σ H xs us Q I r h
  obtain ⟨p, ys, rfl, hq, q⟩ := h
  obtain ⟨u, rfl, rx⟩ := vals1 r
  cases rx
  have hn := line63
  rcases hq with hq | hq
  · obtain ⟨its, r', pl, hz⟩ := I.list hq
    have hlen := r'.length
    exact Calls.call_len_list pl.isList (by simp only [List.size_toArray] <;> omega) ⟨.int ys.length, H, I.tok _, ⟨s.toks + 1, by rw [List.size_toArray, hlen]⟩, q⟩
  · obtain ⟨its, r', pl, hz⟩ := I.tuple hq
    have hlen := r'.length
    exact len_tuple pl (by simp only [List.size_toArray] <;> omega) ⟨.int ys.length, H, I.tok _, ⟨s.toks + 1, by rw [List.size_toArray, hlen]⟩, q⟩
theorem call_len_str : CallR X (.builtin "len") (fun xs H Q => ∃ z, xs = [.str z] ∧ z.length ≤ sizeLine ∧ Q (.int z.length) H) := by
  intro pins s σ H xs us Q I r h
  obtain ⟨z, rfl, hz, q⟩ := h
  obtain ⟨u, rfl, t, rfl⟩ := vals1 r
  have hn := line63
  exact len_str (by omega) ⟨.int z.length, H, I.tok _, ⟨_, rfl⟩, q⟩
theorem CallR.or {f : Value} {r r' : List V → Hp → VK → Prop} (h : CallR X f r) (h' : CallR X f r') : CallR X f (fun xs H Q => r xs H Q ∨ r' xs H Q) := by
  intro pins s σ H xs us Q I rs q
  rcases q with q | q
  · exact h pins s σ H xs us Q I rs q
  · exact h' pins s σ H xs us Q I rs q
noncomputable def tyV (K : PySem.W.Frag) (T : String) (x : V) (H : Hp) : Prop := match x with
  | .str _ => T = "str"
  | .int _ => T = "int"
  | .ref p => (T = "list" ∧ ∃ xs, SqL K H p xs) ∨ (T = "tuple" ∧ ∃ o, K.lookup p = some o ∧ o.cls = .type "tuple" ∧ o.dict = none) ∨
      (T = "dict" ∧ ((∃ kvs, H p = some (.dK kvs)) ∨ ∃ kvs, H p = some (.dT kvs))) ∨ (T = "set" ∧ ∃ S n, H p = some (.set S n))
  | _ => False
theorem tyV_is {pins : List (Addr × Obj)} {σ : St} {H : Hp} {s : Shared} {T : String} {x : V} {v : Value} (I : Inv X pins σ H s) (r : RelV x v) (ty : tyV X.K T x H) :
    s.TypeIs v T ∧ ∀ a, v = .ref a → ∃ ob, s.heap.get? a = some ob ∧ ob.dict = none := by
  cases x with
  | str z =>
    obtain ⟨t, rfl⟩ := r
    cases (show T = "str" from ty)
    exact ⟨typeIs_str s z t, fun _ e => nomatch e⟩
  | int i =>
    obtain ⟨t, rfl⟩ := r
    cases (show T = "int" from ty)
    exact ⟨typeIs_int s i t, fun _ e => nomatch e⟩
  | ref p =>
    cases r
    rcases ty with ⟨rfl, xs, hq⟩ | ⟨rfl, o, hk, hc, hd⟩ | ⟨rfl, hk⟩ | ⟨rfl, S, n, hk⟩
    · obtain ⟨its, _, pl, _⟩ := I.list hq
      refine ⟨pl.isList.typeIs, fun a e => ?_⟩
      cases e
      obtain ⟨o, n, e, c, hd, _⟩ := pl
      exact ⟨o, e, hd⟩
    · refine ⟨⟨o, I.kIn p o hk, hc⟩, fun a e => ?_⟩
      cases e
      exact ⟨o, I.kIn _ o hk, hd⟩
    · have z : ∃ o, s.heap.get? p = some o ∧ o.ExactDict := by
        rcases hk with ⟨kvs, hk⟩ | ⟨kvs, hk⟩
        · obtain ⟨_, _, _, _, o, _, _, e, ex, _⟩ := I.hok p _ hk
          exact ⟨o, e, ex⟩
        · obtain ⟨_, _, _, _, o, _, _, e, ex, _⟩ := I.hok p _ hk
          exact ⟨o, e, ex⟩
      obtain ⟨o, e, ex⟩ := z
      refine ⟨⟨o, e, ex.1⟩, fun a e2 => ?_⟩
      cases e2
      exact ⟨o, e, ex.2.1⟩
    · obtain ⟨o, _, _, _, e, ex, _⟩ := I.hok p _ hk
      refine ⟨⟨o, e, ex.1⟩, fun a e2 => ?_⟩
      cases e2
      exact ⟨o, e, ex.2.1⟩
  | _ => exact False.elim ty
noncomputable def tBM (K : PySem.W.Frag) (T : String) (r : V → List V → Hp → VK → Prop) (to : TE) (t : TA) : TE := fun σ H Q => to σ H fun x H1 => tyV K T x H1 ∧ t σ H1 fun xs H2 => r x xs H2 Q
variable {o e : Expr} {es : List Expr} {to : TE} {t : TA} {name : Str} {apos cpos : Pos} {T id : String} {r : V → List V → Hp → VK → Prop}
theorem pe_bm (pa : PlainAttrs T) (slot : Slot T name id) (hty : typeOf (.builtin id) = pure (.type "method_descriptor")) (hm : MtR X id r) (ho : PE X o to) (ha : PA X (e :: es) t)
    (hbase : attributeBase o name X.env (eval o X.env) = eval o X.env := by rfl)
    (hfew : ((backTo cpos (starEach (e :: es) X.env)).all (fun x => !x.1) && (backToKw cpos (keywordEach [] X.env)).all (fun x => x.1.isSome)
      && decide ((e :: es).length + ([] : List Keyword).length + (if ([] : List Keyword).isEmpty then 0 else 1) < 30)) = true := by rfl)
    (hline : (apos.endLine == cpos.line) = true := by rfl) (hs : starEach (e :: es) X.env = (false, eval e X.env) :: starEach es X.env := by rfl) (hplain : (backTo cpos (starEach es X.env)).any (·.1) = false := by rfl) :
    PE X (.Call (.Attribute o name apos) (e :: es) [] cpos) (tBM X.K T r to t) := by
  intro pins s σ H Q I h
  refine wpAny_Call_method_late hbase hfew hline rfl (thn (ho pins s σ H _ I h) fun v s1 ⟨x, H1, I1, r1, ty, q1⟩ => ?_)
  obtain ⟨h1, h2⟩ := tyV_is I1 r1 ty
  refine ⟨T, id, pa, slot, hty, h1, h2, ?_⟩
  have hA := ha cpos pins s1 σ H1 _ I1 q1
  rw [hs] at hA ⊢
  refine Calls.callWith_builtin (by show (false || (backTo cpos (starEach es X.env)).any (·.1)) = false; rw [hplain] <;> rfl) (Calls.evalArgs_plain ?_)
  exact thn hA fun us s2 ⟨vs, H2, I2, r2, q2⟩ => hm pins s2 σ H2 x vs v us Q I2 r1 r2 q2
end
end L2
namespace L2
open PySem PySem.Spec PyProof.Rows
noncomputable def MtM (X : Cx) (id : String) (r : V → List V → Hp → VK → Prop) : Prop :=
  ∀ (pins : List (Addr × Obj)) (s : Shared) (σ : St) (H : Hp) (x : V) (xs : List V) (v : Value) (us : List Value) (Q : VK), Inv X pins σ H s → RelV x v → Vals xs us → r x xs H Q →
    wpAny (model X.prog X.w) X.A (call (.builtin id) (v :: us)) (EP X pins σ Q) X.xe s
theorem Vals.one : ∀ {x : V} {us : List Value}, Vals [x] us → ∃ u, us = [u] ∧ RelV x u
  | _, _, .cons r .nil => ⟨_, rfl, r⟩
theorem Vals.two : ∀ {x y : V} {us : List Value}, Vals [x, y] us → ∃ u v, us = [u, v] ∧ RelV x u ∧ RelV y v
  | _, _, _, .cons r (.cons q .nil) => ⟨_, _, rfl, r, q⟩
theorem Vals.zero : ∀ {us : List Value}, Vals [] us → us = []
  | _, .nil => rfl
theorem Vals.dropLast {xs : List V} {us : List Value} (h : Vals xs us) : Vals xs.dropLast us.dropLast := by
  induction h with
  | nil => exact .nil
  | cons r t ih =>
    cases t with
    | nil => exact .nil
    | cons q t' => exact .cons r ih
theorem Vals.eraseIdx : ∀ {xs : List V} {us : List Value} (i : Nat), Vals xs us → Vals (xs.eraseIdx i) (us.eraseIdx i)
  | _, _, _, .nil => .nil
  | _, _, 0, .cons _ t => t
  | _, _, i + 1, .cons r t => .cons r (Vals.eraseIdx i t)
theorem Vals.reverse {xs : List V} {us : List Value} (h : Vals xs us) : Vals xs.reverse us.reverse := by
  induction h with
  | nil => exact .nil
  | cons r t ih => rw [List.reverse_cons, List.reverse_cons]; exact Vals.append ih (.cons r .nil)
section
variable {X : Cx} {pins : List (Addr × Obj)} {σ : St} {H : Hp} {s : Shared} {l b : Addr} {xs ys zs : List V}
theorem Inv.lset {its its' : List Value} {n : Nat} {f : Array Value → Array Value} {t' : Nat} (I : Inv X pins σ H s) (hH : H l = some (.lst xs))
    (e : s.heap.get? l = some { cls := .type "list", data := .seq its.toArray n }) (hf : f its.toArray = its'.toArray) (hv : Vals ys its') (hz : ys.length ≤ sizeLine) :
    Inv X pins σ (upd H l (.lst ys)) { s with heap := s.heap.update l (Obj.mapSeq f), toks := t' } := by
  have q := PySem.IsL.update e f
  rw [hf] at q
  refine I.write (x := l) (e := l) (by rw [hH]; exact trivial) (.inl rfl) (fun b' u hb hu => (Heap.get?_update_other s.heap (Obj.mapSeq f) (Ne.symm hb)).trans hu) ⟨_, q⟩ ?_
  exact ⟨hz, its', _, hv, q⟩
theorem Inv.lnew {its : List Value} {t' : Nat} (I : Inv X pins σ H s) (hv : Vals ys its) (hz : ys.length ≤ sizeLine) :
    Inv X pins σ (upd H s.heap.objs.size (.lst ys)) { s with heap := s.heap.push { cls := .type "list", data := .seq its.toArray }, toks := t' } :=
  I.laid (fun _ _ q => Heap.get?_push_of_some _ q) (Nat.le_refl _) ⟨hz, its, 0, hv, Heap.get?_push_size _ rfl⟩
theorem Inv.fresh (I : Inv X pins σ H s) : H s.heap.objs.size = none := I.hok.fresh (Nat.le_refl _)
theorem Inv.lstM (I : Inv X pins σ H s) (hH : H l = some (.lst xs)) : xs.length ≤ sizeLine ∧ ∃ (its : List Value) (n : Nat), Vals xs its ∧ xs.length = its.length ∧ s.heap.get? l = some { cls := .type "list", data := .seq its.toArray n } := by
  obtain ⟨z, its, n, r, e⟩ := I.hok l _ hH
  exact ⟨z, its, n, r, r.length, e⟩
end
section
variable {X : Cx}
noncomputable def rAppend : V → List V → Hp → VK → Prop := fun x vs H Q => ∃ l xs y, x = .ref l ∧ vs = [y] ∧ H l = some (.lst xs) ∧ xs.length < sizeLine ∧ Q .non (upd H l (.lst (xs ++ [y])))
theorem mt_append : MtM X "list.append" rAppend := by
  intro pins s σ H x vs v us Q I rx rv h
  obtain ⟨l, xs, y, rfl, rfl, hH, hz, q⟩ := h
  cases rx
  obtain ⟨u, rfl, ru⟩ := rv.one
  obtain ⟨z, its, n, r, hl, e⟩ := I.lstM hH
  refine call_meets F.slot_list_append ⟨_, e, rfl⟩ F.entry_list_append (F.args_list_append_2 _ _) (PySem.list_append l its.toArray n u (by rw [List.size_toArray]; omega)) ⟨e, ?_⟩
  refine ⟨.non, _, I.lset (its' := its ++ [u]) hH e (by simp) (r.append (.cons ru .nil)) ?_, rfl, q⟩
  rw [List.length_append, List.length_singleton]
  omega
noncomputable def rCat : R2 := fun x y H Q => ∃ l b xs zs, x = .ref l ∧ y = .ref b ∧ H l = some (.lst xs) ∧ H b = some (.lst zs) ∧ xs.length + zs.length ≤ sizeLine ∧ ∀ p, H p = none → Q (.ref p) (upd H p (.lst (xs ++ zs)))
theorem op_cat : OpR X (binaryOp .Add) rCat := by
  intro pins s σ H x y v u Q I rx ry h
  obtain ⟨l, b, xs, zs, rfl, rfl, hH, hB, hz, q⟩ := h
  cases rx
  cases ry
  obtain ⟨z, its, n, r, hl, e⟩ := I.lstM hH
  obtain ⟨z2, its2, n2, r2, hl2, e2⟩ := I.lstM hB
  refine PySem.P.add_list e e2 ?_ (by rw [List.size_toArray, List.size_toArray]; omega)
  have ea : its.toArray ++ its2.toArray = (its ++ its2).toArray := by simp
  rw [ea]
  exact ⟨.ref _, _, I.lnew (t' := s.toks) (r.append r2) (by rw [List.length_append]; omega), rfl, q _ I.fresh⟩
end
section
variable {prog : Program} {w : World} {A : Around} {E : Value → Shared → Prop} {s : Shared}
end
section
variable {X : Cx}
end
end L2
namespace L2
open PySem PySem.Spec PyProof.Rows
section
variable {κ : Type} [DecidableEq κ]
noncomputable def valV (kvs : List (κ × V)) (k : κ) : Option V := (kvs.find? fun kv => decide (kv.1 = k)).map (·.2)
noncomputable def putK (kvs : List (κ × V)) (k : κ) (v : V) : List (κ × V) :=
  if (kvs.any fun kv => decide (kv.1 = k)) = true then kvs.map (fun kv => if kv.1 = k then (kv.1, v) else kv) else kvs ++ [(k, v)]
noncomputable def dropK (kvs : List (κ × V)) (k : κ) : List (κ × V) := kvs.filter fun kv => decide (kv.1 ≠ k)
theorem valV_nil {k : κ} : valV ([] : List (κ × V)) k = none := rfl
theorem valV_pos {p : κ × V} {r : List (κ × V)} {k : κ} (e : p.1 = k) : valV (p :: r) k = some p.2 := by simp [valV, List.find?_cons, e]
theorem valV_neg {p : κ × V} {r : List (κ × V)} {k : κ} (e : ¬ p.1 = k) : valV (p :: r) k = valV r k := by simp [valV, List.find?_cons, e]
theorem valV_any (k : κ) : ∀ kvs : List (κ × V), (kvs.any fun kv => decide (kv.1 = k)) = (valV kvs k).isSome
  | [] => rfl
  | p :: r => by
    rw [List.any_cons]
    by_cases e : p.1 = k
    · simp only [valV_pos e, decide_eq_true e, Bool.true_or, Option.isSome_some]
    · rw [valV_neg e, decide_eq_false e, Bool.false_or]; exact valV_any k r
theorem length_putK (kvs : List (κ × V)) (k : κ) (v : V) : (putK kvs k v).length ≤ kvs.length + 1 := by
  unfold putK
  split
  · rw [List.length_map]; omega
  · rw [List.length_append, List.length_cons, List.length_nil]; omega
theorem RelO.isSome_eq {o : Option V} {u : Option Value} (r : RelO o u) : o.isSome = u.isSome := by
  cases o with
  | none => cases u with
    | none => rfl
    | some _ => exact (show False from r).elim
  | some _ => cases u with
    | none => exact (show False from r).elim
    | some _ => rfl
theorem RelO.getD {o : Option V} {u : Option Value} {d : V} {d' : Value} (r : RelO o u) (rd : RelV d d') : RelV (o.getD d) (u.getD d') := by
  cases o with
  | none => cases u with
    | none => exact rd
    | some _ => exact (show False from r).elim
  | some _ => cases u with
    | none => exact (show False from r).elim
    | some _ => exact r
theorem KV.val {kvs : List (κ × V)} {vs : List (κ × Value)} (r : KV kvs vs) (k : κ) : RelO (valV kvs k) (valueAt vs k) := by
  unfold KV at r
  induction r with
  | nil => exact True.intro
  | @cons p q ps qs h t ih =>
    obtain ⟨h1, h2⟩ := h
    by_cases e : p.1 = k
    · have e' : q.1 = k := h1.symm.trans e
      have b : valueAt (q :: qs) k = some q.2 := by simp [valueAt, List.find?_cons, e']
      rw [valV_pos e, b]; exact h2
    · have e' : ¬ q.1 = k := fun z => e (h1.trans z)
      have b : valueAt (q :: qs) k = valueAt qs k := by simp [valueAt, List.find?_cons, e']
      rw [valV_neg e, b]; exact ih
theorem KV.any {kvs : List (κ × V)} {vs : List (κ × Value)} (r : KV kvs vs) (k : κ) : (kvs.any fun kv => decide (kv.1 = k)) = vs.any fun kv => decide (kv.1 = k) := by
  unfold KV at r
  induction r with
  | nil => rfl
  | cons h t ih => rw [List.any_cons, List.any_cons, ih, h.1]
theorem KV.repl {kvs : List (κ × V)} {vs : List (κ × Value)} (r : KV kvs vs) (k : κ) {y : V} {u : Value} (ry : RelV y u) :
    KV (kvs.map fun kv => if kv.1 = k then (kv.1, y) else kv) (vs.map fun kv => if kv.1 = k then (kv.1, u) else kv) := by
  unfold KV at r ⊢
  induction r with
  | nil => exact .nil
  | @cons p q ps qs h t ih =>
    rw [List.map_cons, List.map_cons]
    refine .cons ?_ ih
    obtain ⟨h1, h2⟩ := h
    by_cases e : p.1 = k
    · rw [if_pos e, if_pos (h1.symm.trans e)]; exact ⟨h1, ry⟩
    · rw [if_neg e, if_neg (fun z => e (h1.trans z))]; exact ⟨h1, h2⟩
theorem KV.put {kvs : List (κ × V)} {vs : List (κ × Value)} (r : KV kvs vs) (k : κ) {y : V} {u : Value} (ry : RelV y u) : KV (putK kvs k y) (stored vs k u) := by
  unfold putK stored
  rw [r.any k]
  by_cases e : (vs.any fun kv => decide (kv.1 = k)) = true
  · rw [if_pos e, if_pos e]; exact r.repl k ry
  · rw [if_neg e, if_neg e]; exact Paired.snoc r ⟨rfl, ry⟩
theorem KV.drop {kvs : List (κ × V)} {vs : List (κ × Value)} (r : KV kvs vs) (k : κ) : KV (dropK kvs k) (without vs k) := by
  unfold KV at r ⊢
  unfold dropK without
  induction r with
  | nil => exact .nil
  | @cons p q ps qs h t ih =>
    obtain ⟨h1, h2⟩ := h
    rw [List.filter_cons, List.filter_cons]
    by_cases e : p.1 = k
    · have a : ¬ decide (p.1 ≠ k) = true := by simp [e]
      have b : ¬ decide (q.1 ≠ k) = true := by simp [h1.symm.trans e]
      rw [if_neg a, if_neg b]; exact ih
    · have e' : ¬ q.1 = k := fun z => e (h1.trans z)
      have a : decide (p.1 ≠ k) = true := by simp [e]
      have b : decide (q.1 ≠ k) = true := by simp [e']
      rw [if_pos a, if_pos b]; exact .cons ⟨h1, h2⟩ ih
theorem KV.keys {kvs : List (κ × V)} {vs : List (κ × Value)} (r : KV kvs vs) : kvs.map (·.1) = vs.map (·.1) := by
  unfold KV at r
  induction r with
  | nil => rfl
  | cons h t ih => rw [List.map_cons, List.map_cons, ih, h.1]
theorem KV.length {kvs : List (κ × V)} {vs : List (κ × Value)} (r : KV kvs vs) : kvs.length = vs.length := Paired.length r
end
theorem kV_is {P : Program} {w : World} {k : Key} {u : Value} (r : RelV (kV k) u) : (mixKind P w).is k u = true := by
  cases k with
  | inl i => obtain ⟨t, e⟩ := (show ∃ t, u = Value.int i t from r); subst e; exact mixKind_int P w i t
  | inr x => obtain ⟨t, e⟩ := (show ∃ t, u = Value.str x t from r); subst e; exact mixKind_str P w x t
theorem items_are {P : Program} {w : World} : ∀ {ks : List Key} {us : List Value}, Vals (ks.map kV) us → ItemsAre (mixKind P w) ks us
  | [], _, r => by rw [List.map_nil] at r; cases r; exact .nil
  | k :: ks, _, r => by
    rw [List.map_cons] at r
    cases r with
    | cons h t => exact .cons (kV_is h) (items_are t)
noncomputable abbrev KT (H : Hp) : List (List Key × V) → List (List Key × Addr × Value) → Prop := Paired fun p q => p.1 = q.1 ∧ H q.2.1 = some (.tup (p.1.map kV)) ∧ RelV p.2 q.2.2
theorem KT.val {H : Hp} {kvs : List (List Key × V)} {xs : List (List Key × Addr × Value)} (r : KT H kvs xs) (k : List Key) : RelO (valV kvs k) ((atKey xs k).map (·.2)) := by
  induction r with
  | nil => exact True.intro
  | @cons p q ps qs h t ih =>
    obtain ⟨h1, _, h2⟩ := h
    by_cases e : p.1 = k
    · have e' : q.1 = k := h1.symm.trans e
      have b : atKey (q :: qs) k = some q.2 := by simp [atKey, List.find?_cons, e']
      rw [valV_pos e, b]; exact h2
    · have e' : ¬ q.1 = k := fun z => e (h1.trans z)
      have b : atKey (q :: qs) k = atKey qs k := by simp [atKey, List.find?_cons, e']
      rw [valV_neg e, b]; exact ih
theorem KT.repl {H : Hp} {kvs : List (List Key × V)} {xs : List (List Key × Addr × Value)} (r : KT H kvs xs) (k : List Key) {y : V} {u : Value} (ry : RelV y u) :
    KT H (kvs.map fun kv => if kv.1 = k then (kv.1, y) else kv) (xs.map (putAt k u)) := by
  induction r with
  | nil => exact .nil
  | @cons p q ps qs h t ih =>
    rw [List.map_cons, List.map_cons]
    refine .cons ?_ ih
    obtain ⟨h1, h2, h3⟩ := h
    unfold putAt
    by_cases e : p.1 = k
    · rw [if_pos e, if_pos (h1.symm.trans e)]; exact ⟨h1, h2, ry⟩
    · rw [if_neg e, if_neg (fun z => e (h1.trans z))]; exact ⟨h1, h2, h3⟩
theorem KT.put {H : Hp} {kvs : List (List Key × V)} {xs : List (List Key × Addr × Value)} (r : KT H kvs xs) (k : List Key) {b : Addr} {y : V} {u : Value} (hb : H b = some (.tup (k.map kV))) (ry : RelV y u) :
    KT H (putK kvs k y) (storedH xs k b u) := by
  have e : (kvs.any fun kv => decide (kv.1 = k)) = (atKey xs k).isSome := by
    rw [valV_any, (r.val k).isSome_eq, Option.isSome_map]
  unfold putK storedH
  rw [e]
  by_cases q : (atKey xs k).isSome = true
  · rw [if_pos q, if_pos q]; exact r.repl k ry
  · rw [if_neg q, if_neg q]; exact Paired.snoc r ⟨rfl, hb, ry⟩
theorem KT.keeps {H H' : Hp} {kvs : List (List Key × V)} {xs : List (List Key × Addr × Value)} (r : KT H kvs xs) (ht : ∀ b ys, H b = some (.tup ys) → H' b = some (.tup ys)) : KT H' kvs xs :=
  Paired.mapP r fun _ _ z => ⟨z.1, ht _ _ z.2.1, z.2.2⟩
section
variable {P : Program} {w : World} {H : Hp} {h : Heap} {a : Addr}
theorem rd_of {u : HO} (ok : HOk P w H h) (e : Rd H a u) : ObjOk P w H h a u := e.ok ok
theorem dk_rd {kvs : List (Key × V)} (ok : HOk P w H h) (e : Rd H a (.dK kvs)) : kvs.length ≤ sizeLine ∧ (a == sysModules) = false ∧ ∃ vs, KV kvs vs ∧ h.DictOf (mixKind P w) a vs :=
  show ObjOk P w H h a (.dK kvs) from rd_of ok e
theorem dk_of {kvs : List (Key × V)} (ok : HOk P w H h) (e : H a = some (.dK kvs)) : kvs.length ≤ sizeLine ∧ (a == sysModules) = false ∧ ∃ vs, KV kvs vs ∧ h.DictOf (mixKind P w) a vs := dk_rd ok (.inl e)
theorem key_of {ks : List Key} (ok : HOk P w H h) (e : H a = some (.tup (ks.map kV))) : (tupleKind (mixKind P w)).is h ks a := by
  obtain ⟨_, its, r, o, h1, h2, n, h3⟩ := (show ObjOk P w H h a (.tup (ks.map kV)) from ok a _ e)
  exact ⟨o, its.toArray, n, h1, h2, h3, by simpa using items_are r⟩
theorem dt_rd {kvs : List (List Key × V)} (ok : HOk P w H h) (e : Rd H a (.dT kvs)) : kvs.length ≤ sizeLine ∧ (a == sysModules) = false ∧
    ∃ xs, KT H kvs xs ∧ h.DictOfH (tupleKind (mixKind P w)) a xs := by
  obtain ⟨z, y, xs, r, o, es, ep, h1, h2, h3, h4, h5⟩ := (show ObjOk P w H h a (.dT kvs) from rd_of ok e)
  refine ⟨z, y, xs, r, o, es, ep, h1, h2, h3, h4, fun x hx => ?_, h5⟩
  have all : ∀ {l : List (List Key × V)} {m : List (List Key × Addr × Value)}, KT H l m → ∀ x ∈ m, (tupleKind (mixKind P w)).is h x.1 x.2.1 := by
    intro l m q
    induction q with
    | nil => intro x hx; exact nomatch hx
    | @cons p q ps qs hq t ih =>
      intro x hx
      rcases List.mem_cons.mp hx with e | hx
      · subst e
        exact key_of ok (by rw [← hq.1]; exact hq.2.1)
      · exact ih x hx
  exact all r x hx
theorem dt_of {kvs : List (List Key × V)} (ok : HOk P w H h) (e : H a = some (.dT kvs)) : kvs.length ≤ sizeLine ∧ (a == sysModules) = false ∧
    ∃ xs, KT H kvs xs ∧ h.DictOfH (tupleKind (mixKind P w)) a xs := dt_rd ok (.inl e)
end
noncomputable def DGet (H : Hp) (a : Addr) (y : V) (r : Option V) : Prop :=
  (∃ kvs k, Rd H a (.dK kvs) ∧ y = kV k ∧ r = valV kvs k) ∨ ∃ kvs k b, Rd H a (.dT kvs) ∧ y = .ref b ∧ H b = some (.tup (k.map kV)) ∧ r = valV kvs k
noncomputable def DPut (H : Hp) (a : Addr) (y v : V) (H' : Hp) : Prop :=
  (∃ kvs k, H a = some (.dK kvs) ∧ y = kV k ∧ kvs.length < sizeLine ∧ H' = upd H a (.dK (putK kvs k v))) ∨
  ∃ kvs k b, H a = some (.dT kvs) ∧ y = .ref b ∧ H b = some (.tup (k.map kV)) ∧ kvs.length < sizeLine ∧ H' = upd H a (.dT (putK kvs k v))
theorem DGet.k {H : Hp} {a : Addr} {kvs : List (Key × V)} {k : Key} (e : H a = some (.dK kvs)) : DGet H a (kV k) (valV kvs k) := .inl ⟨kvs, k, .inl e, rfl, rfl⟩
theorem DGet.t {H : Hp} {a b : Addr} {kvs : List (List Key × V)} {k : List Key} (e : H a = some (.dT kvs)) (eb : H b = some (.tup (k.map kV))) : DGet H a (.ref b) (valV kvs k) := .inr ⟨kvs, k, b, .inl e, rfl, eb, rfl⟩
theorem DPut.k {H : Hp} {a : Addr} {kvs : List (Key × V)} {k : Key} {v : V} (e : H a = some (.dK kvs)) (hl : kvs.length < sizeLine) : DPut H a (kV k) v (upd H a (.dK (putK kvs k v))) := .inl ⟨kvs, k, e, rfl, hl, rfl⟩
theorem DPut.t {H : Hp} {a b : Addr} {kvs : List (List Key × V)} {k : List Key} {v : V} (e : H a = some (.dT kvs)) (eb : H b = some (.tup (k.map kV))) (hl : kvs.length < sizeLine) :
    DPut H a (.ref b) v (upd H a (.dT (putK kvs k v))) := .inr ⟨kvs, k, b, e, rfl, eb, hl, rfl⟩
section
variable {X : Cx} {pins : List (Addr × Obj)} {σ : St} {H : Hp} {s : Shared} {a : Addr} {y v : V} {u r : Value} {o : Option V} {A : Around} {E : Value → Shared → Prop}
theorem Inv.big (I : Inv X pins σ H s) : sysModules < s.heap.objs.size := by
  have h : mainGlobals < s.heap.objs.size := (I.mod.glob.keeps I.bk).lt
  exact Nat.lt_trans (by decide) h
theorem d_getItem {Q : Value → Shared → Prop} (hu : A.units + 1 < cLine) (I : Inv X pins σ H s) (g : DGet H a y (some v)) (ry : RelV y u) (h : ∀ w' s', Inv X pins σ H s' → RelV v w' → Q w' s') :
    wpAny (model X.prog X.w) A (getItem (.ref a) u) Q E s := by
  rcases g with ⟨kvs, k, e, ey, l⟩ | ⟨kvs, k, b, e, ey, eb, l⟩
  · subst ey
    obtain ⟨z, hd, vs, rel, dd⟩ := dk_rd I.hok e
    obtain ⟨w', hw, rw'⟩ := RelO.some_of (v := v) (o := valueAt vs k) (by rw [l]; exact rel.val k)
    exact wpAny_getItem_of (kV_is ry) dd.mapOf hw (h w' _ (I.tok _) rw')
  · subst ey
    cases (show u = Value.ref b from ry)
    obtain ⟨z, hd, xs, rel, dd⟩ := dt_rd I.hok e
    obtain ⟨w', hw, rw'⟩ := RelO.some_of (v := v) (o := (atKey xs k).map (·.2)) (by rw [l]; exact rel.val k)
    obtain ⟨p, hp, hp2⟩ := Option.map_eq_some_iff.mp hw
    refine wpAny_getItem_heap (tupleKind_room_in1 hu) (key_of I.hok eb) dd hp ?_
    rw [hp2]
    exact h w' _ (I.tok _) rw'
theorem d_in {Q : Value → Shared → Prop} (hu : A.units + 1 < cLine) (I : Inv X pins σ H s) (g : DGet H a y o) (ry : RelV y u) (h : ∀ s', Inv X pins σ H s' → Q (.bool o.isSome) s') :
    wpAny (model X.prog X.w) A (compareOp .In u (.ref a)) Q E s := by
  rcases g with ⟨kvs, k, e, ey, l⟩ | ⟨kvs, k, b, e, ey, eb, l⟩
  · subst ey
    obtain ⟨z, hd, vs, rel, dd⟩ := dk_rd I.hok e
    refine wpAny_in_of (kV_is ry) hd dd.mapOf ?_
    rw [← (rel.val k).isSome_eq, ← l]
    exact h _ (I.tok _)
  · subst ey
    cases (show u = Value.ref b from ry)
    obtain ⟨z, hd, xs, rel, dd⟩ := dt_rd I.hok e
    refine wpAny_in_heap (tupleKind_room_in1 hu) (key_of I.hok eb) hd dd ?_
    have q := (rel.val k).isSome_eq
    rw [Option.isSome_map] at q
    rw [← q, ← l]
    exact h _ (I.tok _)
theorem d_notIn {Q : Value → Shared → Prop} (hu : A.units + 1 < cLine) (I : Inv X pins σ H s) (g : DGet H a y o) (ry : RelV y u) (h : ∀ s', Inv X pins σ H s' → Q (.bool (!o.isSome)) s') :
    wpAny (model X.prog X.w) A (compareOp .NotIn u (.ref a)) Q E s := by
  rcases g with ⟨kvs, k, e, ey, l⟩ | ⟨kvs, k, b, e, ey, eb, l⟩
  · subst ey
    obtain ⟨z, hd, vs, rel, dd⟩ := dk_rd I.hok e
    refine wpAny_notIn_of (kV_is ry) hd dd.mapOf ?_
    rw [← (rel.val k).isSome_eq, ← l]
    exact h _ (I.tok _)
  · subst ey
    cases (show u = Value.ref b from ry)
    obtain ⟨z, hd, xs, rel, dd⟩ := dt_rd I.hok e
    refine wpAny_notIn_heap (tupleKind_room_in1 hu) (key_of I.hok eb) hd dd ?_
    have q := (rel.val k).isSome_eq
    rw [Option.isSome_map] at q
    rw [← q, ← l]
    exact h _ (I.tok _)
theorem d_write {h' : Heap} {t' : Nat} {ob : HO} (I : Inv X pins σ H s) (mu : Mut (H a)) (hs : Heap.SameBut a s.heap h') (he : ∃ q, h'.get? a = some q) (new : ObjOk X.prog X.w (upd H a ob) h' a ob) :
    Inv X pins σ (upd H a ob) { s with heap := h', toks := t' } :=
  I.write (x := a) (e := a) mu (.inl rfl) (fun b q hb z => (hs.2 b hb).trans z) he new
theorem dk_new {P : Program} {w : World} {H' : Hp} {h' : Heap} {kvs : List (Key × V)} {vs : List (Key × Value)} (z : kvs.length ≤ sizeLine) (hd : (a == sysModules) = false) (rel : KV kvs vs) (dd : h'.DictOf (mixKind P w) a vs) :
    ObjOk P w H' h' a (.dK kvs) := ⟨z, hd, vs, rel, dd⟩
theorem d_setItem {H' : Hp} {Q : Unit → Shared → Prop} (hu : A.units + 1 < cLine) (I : Inv X pins σ H s) (g : DPut H a y v H') (ry : RelV y u) (rv : RelV v r) (h : ∀ s', Inv X pins σ H' s' → Q () s') :
    wpAny (model X.prog X.w) A (setItem (.ref a) u r) Q E s := by
  rcases g with ⟨kvs, k, e, ey, l, eH⟩ | ⟨kvs, k, b, e, ey, eb, l, eH⟩
  · subst ey eH
    obtain ⟨z, hd, vs, rel, dd⟩ := dk_of I.hok e
    have hz : vs.length ≤ sizeLine := by rw [← rel.length]; exact z
    have hl : (putK kvs k v).length ≤ sizeLine := by have := length_putK kvs k v; omega
    refine wpAny_setItem_pairs (hsz := hz) (kV_is ry) dd fun h' dd' hs => h _ ?_
    have he : ∃ q, h'.get? a = some q := let ⟨q, _, _, hq, _⟩ := dd'; ⟨q, hq⟩
    exact d_write I (by rw [e]; exact True.intro) hs he (dk_new hl hd (rel.put k rv) dd')
  · subst ey eH
    cases (show u = Value.ref b from ry)
    obtain ⟨z, hd, xs, rel, dd⟩ := dt_of I.hok e
    have hz : xs.length ≤ sizeLine := by rw [← Paired.length rel]; exact z
    have hl : (putK kvs k v).length ≤ sizeLine := by have := length_putK kvs k v; omega
    refine wpAny_setItem_heap (hsz := hz) (tupleKind_room_in1 hu) (key_of I.hok eb) dd fun h' dd' hs => h _ ?_
    obtain ⟨q, es, ep, hq, h2, h3, h4, _, h5⟩ := dd'
    refine d_write I (by rw [e]; exact True.intro) hs ⟨q, hq⟩ ⟨hl, hd, _, (rel.put k eb rv).keeps fun c ys ec => ?_, q, es, ep, hq, h2, h3, h4, h5⟩
    rw [upd_ne (ne_of ec e (fun z => nomatch z))]
    exact ec
end
section
variable {X : Cx} {pins : List (Addr × Obj)} {σ : St} {H : Hp} {s : Shared} {a : Addr} {kvs : List (Key × V)} {k : Key} {u : Value} {A : Around} {E : Value → Shared → Prop}
theorem d_len {Q : Value → Shared → Prop} (I : Inv X pins σ H s) (e : Rd H a (.dK kvs)) (h : ∀ t s', Inv X pins σ H s' → Q (.int kvs.length t) s') : wpAny (model X.prog X.w) A (call (.builtin "len") [.ref a]) Q E s := by
  obtain ⟨z, hd, vs, rel, dd⟩ := dk_rd I.hok e
  refine call_len_dict hd dd (by rw [← rel.length]; rw [sizeLine_eq] at z; omega) ?_
  rw [← rel.length]
  exact h _ _ (I.tok _)
end
noncomputable def NoSl (i : Expr) : Prop := ∀ ov iv, subscripted i false ov iv = operate [ov, iv] (getItem ov iv)
theorem subD_of {prog : Program} {w : World} {A : Around} {E : Value → Shared → Prop} {s : Shared} {env : Env} {value slice : Expr} {pos : Pos} {T id : String} {Q : Value → Shared → Prop}
    (hl : typeLookup (.type T) "__getitem__" = pure (some (.builtin id))) (hs : NoSl slice)
    (h : wpAny (model prog w) A (eval value env) (fun o s₁ => wpAny (model prog w) A (eval slice env) (fun i s₂ => s₂.TypeIs o T ∧ wpAny (model prog w) A (getItem o i) Q E s₂) E s₁) E s) :
    wpAny (model prog w) A (eval (.Subscript value slice pos) env) Q E s := by
  refine Subscript_ (wpAny_mono h (fun o s₁ h₁ => wpAny_mono h₁ (fun i s₂ h₂ => ?_) fun _ _ x => x) fun _ _ x => x)
  obtain ⟨hT, h₂⟩ := h₂
  unfold subscriptTail
  refine wpAny_bind ?_
  rw [getitemInPython_of_ne hT.not_modules]
  refine wpAny_bind (wpAny_specialOf hT hl ?_)
  have fin : wpAny (model prog w) A (subscripted slice false o i) (fun r s₃ => wpAny (model prog w) A (letTemporaryGo value o r >>= fun _ => pure r) Q E s₃) E s₂ := by
    rw [hs o i]
    exact wpAny_operating (wpAny_mono h₂ (fun r s₃ h₃ => wpAny_bind (wpAny_letTemporaryGo (wpAny_pure h₃))) fun _ _ x => x)
  first
    | exact wpAny_pure (wpAny_bind fin)
    | exact wpAny_bind (wpAny_pure (wpAny_bind fin))
    | exact wpAny_bind fin
theorem dict_typeIs {X : Cx} {pins : List (Addr × Obj)} {σ : St} {H : Hp} {s : Shared} {a : Addr} {y : V} {o : Option V} (I : Inv X pins σ H s) (g : DGet H a y o) : s.TypeIs (.ref a) "dict" := by
  rcases g with ⟨kvs, k, e, _, _⟩ | ⟨kvs, k, b, e, _, _, _⟩
  · obtain ⟨_, _, vs, _, dd⟩ := dk_rd I.hok e
    exact dd.typeIs
  · obtain ⟨_, _, xs, _, dd⟩ := dt_rd I.hok e
    exact dd.typeIs
noncomputable def tDGet (td ty : TE) : TE := fun σ H Q => td σ H fun x H1 => ty σ H1 fun y H2 => ∃ a v, x = .ref a ∧ DGet H2 a y (some v) ∧ Q v H2
section
variable {X : Cx} {o i e value : Expr} {pos pos' tpos : Pos} {td ty tv : TE}
theorem pe_dget (hu : X.A.units + 1 < cLine) (ho : PE X o td) (hi : PE X i ty) (hs : NoSl i) : PE X (.Subscript o i pos) (tDGet td ty) := by
  intro pins s σ H Q I h
  refine subD_of PySem.F.slot_dict_getitem.lookup hs (thn (ho pins s σ H _ I h) fun u s1 ⟨x, H1, I1, rx, q1⟩ => thn (hi pins s1 σ H1 _ I1 q1) fun iv s2 ⟨y, H2, I2, ry, a, v, ex, g, q2⟩ => ?_)
  subst ex
  obtain rfl : u = Value.ref a := rx
  exact ⟨dict_typeIs I2 g, d_getItem hu I2 g ry fun w' s3 I3 rw' => ⟨v, H2, I3, rw', q2⟩⟩
end
theorem dk_empty {P : Program} {w : World} {H : Hp} (h : Heap) (hb : sysModules < h.objs.size) : ObjOk P w H (h.push { cls := .type "dict", data := .dict #[] }) h.objs.size (.dK []) :=
  ⟨Nat.zero_le _, beq_eq_false_iff_ne.mpr (Ne.symm (Nat.ne_of_lt hb)), [], .nil, Heap.DictOf.new h⟩
section
variable {X : Cx} {pos : Pos}
end
noncomputable def tPairs : List (TE × TE) → St → Hp → (List (V × V) → Hp → Prop) → Prop
  | [], _, H, Q => Q [] H
  | (tk, tv) :: r, σ, H, Q => tk σ H fun x H1 => tv σ H1 fun y H2 => tPairs r σ H2 fun ps H3 => Q ((x, y) :: ps) H3
noncomputable abbrev VV : List (V × V) → List (Value × Value) → Prop := Paired fun p q => RelV p.1 q.1 ∧ RelV p.2 q.2
noncomputable def PPs (X : Cx) (pos : Pos) (keys : List (Option Expr)) (values : List Expr) (trs : List (TE × TE)) : Prop :=
  ∀ (pins : List (Addr × Obj)) (s : Shared) (σ : St) (H : Hp) (Q : List (V × V) → Hp → Prop), Inv X pins σ H s → tPairs trs σ H Q →
    wpAny (model X.prog X.w) X.A (evalPairs (pairTrees keys values X.env pos)) (fun vs s' => ∃ ps H', Inv X pins σ H' s' ∧ VV ps vs ∧ Q ps H') X.xe s
theorem pps_nil {X : Cx} {pos : Pos} : PPs X pos [] [] [] := fun pins s σ H Q I h => pairTrees_nil_walk ⟨[], H, I, .nil, h⟩
theorem pps_cons {X : Cx} {pos : Pos} {k v : Expr} {ks : List (Option Expr)} {vs : List Expr} {tk tv : TE} {trs : List (TE × TE)} (hk : PE X k tk) (hv : PE X v tv) (hr : PPs X pos ks vs trs) :
    PPs X pos (some k :: ks) (v :: vs) ((tk, tv) :: trs) := fun pins s σ H Q I h =>
  pairTrees_cons_walk (thn (hk pins s σ H _ I h) fun u s1 ⟨x, H1, I1, rx, q1⟩ => thn (hv pins s1 σ H1 _ I1 q1) fun w2 s2 ⟨y, H2, I2, ry, q2⟩ =>
    thn (hr pins s2 σ H2 _ I2 q2) fun ws s3 ⟨ps, H3, I3, rel, q3⟩ => ⟨(x, y) :: ps, H3, I3, .cons ⟨rx, ry⟩ rel, q3⟩)
noncomputable def mergeK (kvs more : List (Key × V)) : List (Key × V) := more.foldl (fun acc kv => putK acc kv.1 kv.2) kvs
theorem KV.merge : ∀ {more : List (Key × V)} {rs : List (Key × Value)} {kvs : List (Key × V)} {vs : List (Key × Value)}, KV more rs → KV kvs vs → KV (mergeK kvs more) (merged vs rs) := by
  intro more rs kvs vs r
  unfold KV at r
  induction r generalizing kvs vs with
  | nil => intro q; exact q
  | @cons p q ps qs h t ih =>
    intro r0
    have e : KV (putK kvs p.1 p.2) (stored vs q.1 q.2) := by
      have := r0.put p.1 h.2
      rw [← h.1]; exact this
    exact ih e
theorem length_mergeK : ∀ (more kvs : List (Key × V)), (mergeK kvs more).length ≤ kvs.length + more.length
  | [], kvs => by show kvs.length ≤ kvs.length + 0; omega
  | p :: r, kvs => by
    have h1 := length_mergeK r (putK kvs p.1 p.2)
    have h2 := length_putK kvs p.1 p.2
    show (mergeK (putK kvs p.1 p.2) r).length ≤ _
    rw [List.length_cons]; omega
theorem carries_of {P : Program} {w : World} : ∀ {kvs : List (Key × V)} {ws : List (Value × Value)}, VV (kvs.map fun kv => (kV kv.1, kv.2)) ws → ∃ rs, Carries (mixKind P w) ws rs ∧ KV kvs rs
  | [], _, r => by rw [List.map_nil] at r; cases r; exact ⟨[], True.intro, .nil⟩
  | p :: kvs, _, r => by
    rw [List.map_cons] at r
    cases r with
    | @cons a b as bs h t =>
      obtain ⟨rs, c, q⟩ := carries_of (P := P) (w := w) t
      obtain ⟨b1, b2⟩ := b
      exact ⟨(p.1, b2) :: rs, ⟨kV_is h.1, rfl, c⟩, .cons ⟨rfl, h.2⟩ q⟩
noncomputable def tDisp (trs : List (TE × TE)) : TE := fun σ H Q => ∀ p, H p = none → tPairs trs σ (upd H p (.dK [])) fun ps H2 => H2 p = some (.dK []) ∧ ∃ kvs : List (Key × V), ps = kvs.map (fun kv => (kV kv.1, kv.2)) ∧ kvs.length ≤ 15 ∧ Q (.ref p) (upd H2 p (.dK (mergeK [] kvs)))
theorem pe_disp {X : Cx} {pos : Pos} {keys : List (Option Expr)} {values : List Expr} {trs : List (TE × TE)} (h : PPs X pos keys values trs) (hall : keys.all (·.isSome) = true) (hl : keys.length = values.length) (h0 : keys ≠ [])
    (h15 : keys.length ≤ 15) : PE X (.Dict keys values pos) (tDisp trs) := by
  intro pins s σ H Q I q
  have hn := I.hok.fresh (Nat.le_refl s.heap.objs.size)
  have I1 := I.laid (a := s.heap.objs.size) (o := .dK []) (h' := s.heap.push { cls := .type "dict", data := .dict #[] }) (t' := s.toks) (fun _ _ q => Heap.get?_push_of_some _ q) (Nat.le_refl _) (dk_empty s.heap I.big)
  refine wpAny_Dict_walk (knd := mixKind X.prog X.w) hall hl h0 h15 (thn (h pins _ σ _ _ I1 (q _ hn)) fun ws s2 ⟨ps, H2, I2, rel, e, kvs, ep, lk, q2⟩ => ?_)
  subst ep
  obtain ⟨rs, c, rk⟩ := carries_of (P := X.prog) (w := X.w) rel
  obtain ⟨z, hd, vs0, r0, dd⟩ := dk_of I2.hok e
  cases r0
  refine ⟨rs, c, dd, fun h' dd' hs => ⟨.ref s.heap.objs.size, _, ?_, rfl, q2⟩⟩
  have hz : (mergeK [] kvs).length ≤ sizeLine := by
    have h1 := length_mergeK kvs []
    rw [List.length_nil] at h1
    rw [sizeLine_eq]; omega
  have he : ∃ q, h'.get? s.heap.objs.size = some q := let ⟨q, _, _, hq, _⟩ := dd'; ⟨q, hq⟩
  exact d_write I2 (by rw [e]; exact True.intro) hs he (dk_new hz hd (rk.merge .nil) dd')
structure M1 (X : Cx) (o : Expr) (m : Str) (apos : Pos) (e : Expr) (cpos : Pos) : Prop where
  base : attributeBase o m X.env (eval o X.env) = eval o X.env
  few : ((backTo cpos (starEach [e] X.env)).all (fun x => !x.1) && (backToKw cpos (keywordEach [] X.env)).all (fun x => x.1.isSome)
    && decide (([e] : List Expr).length + ([] : List Keyword).length + (if ([] : List Keyword).isEmpty then 0 else 1) < 30)) = true
  line : (apos.endLine == cpos.line) = true
  trees : backTo cpos (starEach [e] X.env) = [(false, eval e X.env)]
structure M2 (X : Cx) (o : Expr) (m : Str) (apos : Pos) (e f : Expr) (cpos : Pos) : Prop where
  base : attributeBase o m X.env (eval o X.env) = eval o X.env
  few : ((backTo cpos (starEach [e, f] X.env)).all (fun x => !x.1) && (backToKw cpos (keywordEach [] X.env)).all (fun x => x.1.isSome)
    && decide (([e, f] : List Expr).length + ([] : List Keyword).length + (if ([] : List Keyword).isEmpty then 0 else 1) < 30)) = true
  line : (apos.endLine == cpos.line) = true
  trees : backTo cpos (starEach [e, f] X.env) = [(false, eval e X.env), (false, eval f X.env)]
section
variable {X : Cx} {pins : List (Addr × Obj)} {σ : St} {H : Hp} {s : Shared} {a : Addr} {y d : V} {u r : Value} {o : Option V} {A : Around} {E : Value → Shared → Prop}
end
section
variable {X : Cx} {o e f : Expr} {apos cpos : Pos} {td ty tx : TE}
end
section
variable {X : Cx} {pins : List (Addr × Obj)} {σ : St} {H : Hp} {s : Shared} {a : Addr} {kvs : List (Key × V)} {A : Around} {E : Value → Shared → Prop}
end
section
variable {X : Cx} {pins : List (Addr × Obj)} {σ : St} {H : Hp} {s : Shared} {a : Addr} {y : V} {u : Value} {A : Around} {E : Value → Shared → Prop}
end
end L2
namespace Att
open PySem PySem.W PySem.Calls PyProof.Rows
theorem ints_of_wellAll {P : Params} {h : Heap} : ∀ (ns : List Int) (vs : List Value), WellAll P h vs (ns.map WData.int) → IntsAre vs ns := by
  intro ns
  induction ns with
  | nil =>
    intro vs w
    rw [List.map_nil] at w
    cases w
    exact .nil
  | cons n ns ih =>
    intro vs w
    rw [List.map_cons] at w
    cases w with
    | cons a b =>
      cases a
      exact .cons _ _ (ih _ b)
theorem script_of {l : OpenLaw} {n : Nat} (hn : l.most = some n) {P : Params} {h : Heap} {args : List WData} {vals : List Value}
    (hpre : l.row.toRowW.claim.pre args = true) (hwl : WellAll P h vals args) :
    ∃ a vs ns, vals = [Value.ref a] ∧ args = [WData.list (ns.map WData.int)] ∧ h.get? a = some { cls := .type "list", data := .seq vs.toArray } ∧ IntsAre vs ns ∧ ns.length ≤ n := by
  have hsh : WShape.hasAll [] args [.list .int] = true := (pre_splitW hpre).1
  have hc : l.pre.holds [] { args := args } = true := (pre_splitW hpre).2
  obtain ⟨d, r, rfl, h1, h2⟩ := hasAllW_cons hsh
  obtain rfl := hasAllW_nil h2
  obtain ⟨xs, rfl, h3⟩ := hasW_list h1
  obtain ⟨ns, rfl⟩ := items_int h3
  have hlen : ns.length ≤ n := by
    unfold OpenLaw.pre at hc
    have h4 : (WTm.not (.lt (.lit (.int (n : Int))) (.len (.arg 0)))).holds [] { args := [.list (ns.map .int)] } = true := by
      have h4 := (holds_andW hc).1
      rw [hn] at h4
      exact h4
    have h5 := condW_of h4 (w_not (w_lt w_lit (w_len_list (w_arg rfl))))
    rw [List.length_map] at h5
    refine Nat.le_of_not_lt fun q => ?_
    have q' : (n : Int) < ((ns.length : Nat) : Int) := by omega
    first
      | (rw [decide_eq_true q'] at h5; exact absurd h5 (by decide))
      | (simp at h5; omega)
  cases hwl with
  | cons w1 w2 =>
    cases w2
    cases w1 with
    | list ho hall => exact ⟨_, _, ns, rfl, rfl, ho, ints_of_wellAll ns _ hall, hlen⟩
theorem post_true (l : OpenLaw) (args : List WData) : l.row.toRowW.claim.post args (.bool true) args = true :=
  postW_of (r := l.row.toRowW) (X := (true == true))
    (show WShape.has [] (.bool true) .bool = true by first | rfl | decide | simp [WShape.has, WShape.arms, WShape.armsAll])
    (show (WTm.eq .res (.lit (.bool true))).value [] { args := args, res := some (.bool true), after := args } = some (.bool (true == true)) from w_eq_bool (w_res rfl) w_lit) rfl
theorem attach_call {l : OpenLaw} {n : Nat} {q : Program} {loose : List Str} {XP : (Str → Option Value) → Heap → Prop} {YP : World → Heap → Prop} {d : DefRec}
    (hn : l.most = some n) (hdf : d.params.defaults = [])
    (call : ∀ (w : World) (s₀ s₁ : Shared) (mg mb : Str → Option Value) (fa : Addr) (o : Obj) (pm cd doc : Value) (a : Addr) (vs : List Value) (ns : List Int),
      Ground q loose [] XP w s₀ mg mb s₁.heap → YP w s₁.heap →
      s₁.heap.get? fa = some o → o.data = .func (docDef d.name d.params d.body d.scope pm cd doc) → s₁.heap.CodeRec cd d.name → mg d.name = some (.ref fa) →
      s₁.heap.get? a = some { cls := .type "list", data := .seq vs.toArray } → IntsAre vs ns → ns.length ≤ n → s₁.gens = #[] →
      codeAny (model l.prog w) callerA (.call (.ref fa) ⟨[.ref a], []⟩) (fun r s' => r = .ok (.ret (.bool true)) ∧ OldK s₁.heap s'.heap ∧ s'.os = s₁.os ∧ AllBare s'.gens) s₁) :
    WalkO q loose XP YP l.row.toRowW d [] (fun f vs => PySem.call f vs) := by
  intro w s₀ s₁ mg mb G Y fa o pm cd doc dV kV ho hd hcd hD hmg hg args vals as hpre hlay hrd hwl hlo
  obtain rfl : dV = .none := Dflts.none hD hdf
  obtain rfl : kV = .none := Dflts.noKw hD
  obtain ⟨a, vs, ns, rfl, rfl, hobj, hints, hlen⟩ := script_of hn hpre hwl
  refine enter_call (codeAny_mono (call w s₀ s₁ mg mb fa o pm cd doc a vs ns G Y ho (fd_plain hd) hcd hmg hobj hints hlen hg) fun r s' hq => ?_)
  obtain ⟨rfl, h2, h3, h4⟩ := hq
  exact ⟨.inl ⟨.bool true, .bool true, [], rfl, fun _ => rfl, .bool true, post_true l _, fun _ => ⟨List.Pairwise.nil, fun _ hm => (nomatch hm)⟩⟩, h2, h3, h4⟩
section
variable {prog : Program} {w : World} {A : Around} {E : Value → Shared → Prop} {s : Shared} {K : Frag}
end
end Att
namespace L2
open PySem PySem.Spec PyProof.Rows
theorem vals_ints : ∀ {vs : List Value} {ns : List Int}, IntsAre vs ns → Vals (ns.map V.int) vs
  | _, _, .nil => .nil
  | _, _, .cons n t h => .cons ⟨t, rfl⟩ (vals_ints h)
noncomputable def Only (H : Hp) : Prop := ∀ b, H b = none ∨ ∃ o xs, H b = some (.frz o (.lst xs))
theorem law_call {P : Program} {w : World} {K : PySem.W.Frag} {mg mb : Str → Option Value} {CX : CXT} {k : Nat} {fa a : Addr} {fd : FuncData} {x : Str} {sp : Sp} {s₁ : Shared} {vs : List Value} {ns : List Int}
    (KX : K.In s₁.heap) (hns : s₁.heap.Ns mainGlobals mg) (hb : s₁.heap.Ns builtinsNs mb) (hbb : ∀ x : Str, x ≠ "__name__" → mb x = bootBuiltins x) (hlim : s₁.heap.NoLimit) (hg : s₁.gens = #[])
    (ha : s₁.heap.get? a = some { cls := .type "list", data := .seq vs.toArray }) (hi : IntsAre vs ns) (hl : ns.length ≤ sizeLine) (hr : Room k callerA)
    (F : ∀ base : Heap, K.In base → base.Ns mainGlobals mg → FnOk P w K mg base CX k fa fd [x] sp) (hbind : ∀ (s : Shared) (u : Value), BindsTo s fd ⟨[u], []⟩ [(x, u)])
    (hsp : ∀ H : Hp, Only H → SqL K H a (ns.map V.int) → sp [.ref a] H (fun v _ => v = .bl true) fun _ _ _ => False)
    (hCX : ∀ H e s', CX [] H s₁ (fun _ _ _ => False) e s' → False) :
    codeAny (model P w) callerA (.call (.ref fa) ⟨[.ref a], []⟩) (fun r s' => r = .ok (.ret (.bool true)) ∧ OldK s₁.heap s'.heap ∧ s'.os = s₁.os ∧ AllBare s'.gens) s₁ := by
  have rv := vals_ints hi
  have lenV := hi.length
  have core : ∀ H : Hp, Only H → SqL K H a (ns.map V.int) → HOk P w H s₁.heap → (∀ b, H b ≠ none → b = a) → (H a ≠ none → K.lookup a = none) →
      codeAny (model P w) callerA (.call (.ref fa) ⟨[.ref a], []⟩) (fun r s' => r = .ok (.ret (.bool true)) ∧ OldK s₁.heap s'.heap ∧ s'.os = s₁.os ∧ AllBare s'.gens) s₁ := by
    intro H hO hS hok hA hK
    have base_of : ∀ {b : Addr} {o : Obj}, s₁.heap.get? b = some o → H b = none → (hidT s₁.heap H).get? b = some o := fun e n => hidT_get e n
    have noA : ∀ {b : Addr} {o : Obj} {es : Array DictEntry} {ep : Nat}, s₁.heap.get? b = some o → o.data = .dict es ep → H b = none := fun {b o es ep} e d => by
      cases q : H b with
      | none => rfl
      | some u =>
        have e' : b = a := hA b (by rw [q]; simp)
        subst e'
        rw [ha] at e; cases e
        have d' : Data.seq vs.toArray _ = Data.dict es ep := d
        cases d'
    have nsK : ∀ {b : Addr} {m : Str → Option Value}, s₁.heap.Ns b m → (hidT s₁.heap H).Ns b m := fun {b m} ⟨o, es, ep, e, d, r⟩ => ⟨o, es, ep, base_of e (noA e d), d, r⟩
    have hKb : K.In (hidT s₁.heap H) := fun b o e => base_of (KX b o e) (by
      cases q : H b with
      | none => rfl
      | some u =>
        have e' : b = a := hA b (by rw [q]; simp)
        subst e'
        rw [hK (by rw [q]; simp)] at e; cases e)
    have hM : Mod K mg (hidT s₁.heap H) := ⟨hKb, nsK hns, ⟨mb, nsK hb, hbb⟩, let ⟨mc, h1, h2⟩ := hlim; ⟨mc, nsK h1, h2⟩⟩
    have e0 : Env0 P w K mg (hidT s₁.heap H) callerA [] s₁ H := ⟨rfl, hM, fun b o e => of_hidT e, Nat.le_of_eq (hidT_size _ _), trivial, fun b hb => absurd (show b ∈ ([] : List Addr) from hb) (by simp), hok, .of_eq hg⟩
    refine codeAny_mono ((F _ hKb (nsK hns)).run callerA [] s₁ H ⟨[.ref a], []⟩ [.ref a] [.ref a] _ _ hr e0 (hbind s₁ (.ref a)) (.cons rfl .nil) (hsp H hO hS)) fun r s' h => ?_
    cases r with
    | error e => exact (hCX H e s' h).elim
    | ok fl =>
      cases fl with
      | next => exact False.elim h
      | brk => exact False.elim h
      | cont => exact False.elim h
      | ret u =>
        obtain ⟨v, H', os, bare, un, hok', r', q⟩ := h
        have q' : v = .bl true := q
        subst q'
        obtain rfl : u = Value.bool true := r'
        refine ⟨rfl, OldK.of_keep fun b o e => ?_, os, bare⟩
        cases q : H b with
        | none => exact un.keep b o e q (by intro z; exact absurd (show b ∈ ([] : List Addr) from z) (by simp)) (by simp)
        | some u =>
          rcases hO b with z | ⟨ob, xs, z⟩
          · rw [q] at z; cases z
          · have z2 := un.frzs b ob _ z
            obtain ⟨e1, _⟩ := hok b _ z
            obtain ⟨e2, _⟩ := hok' b _ z2
            rw [e] at e1; cases e1
            exact e2
  cases hk : K.lookup a with
  | some o =>
    have e := KX a o hk
    rw [ha] at e
    cases e
    refine core (fun _ => none) (fun _ => .inl rfl) (.inr ⟨_, vs.toArray, _, hk, rfl, rfl, rfl, by rw [List.size_toArray, lenV]; exact hl, by simpa using rv⟩) (fun b u z => by have z' : (none : Option HO) = some u := z; cases z') (fun b z => absurd rfl z) fun z => absurd rfl z
  | none =>
    refine core (fun b => if b = a then some (.frz { cls := .type "list", data := .seq vs.toArray } (.lst (ns.map V.int))) else none) (fun b => ?_) (.inl (.inr ⟨{ cls := .type "list", data := .seq vs.toArray }, if_pos rfl⟩)) (fun b u z => ?_) (fun b z => ?_) fun _ => hk
    · by_cases hb : b = a
      · exact .inr ⟨_, _, if_pos hb⟩
      · exact .inl (if_neg hb)
    · by_cases hb : b = a
      · have z' := (if_pos hb).symm.trans z
        cases z'
        subst hb
        exact ⟨ha, by rw [List.length_map]; exact hl, vs, _, rv, ha⟩
      · have z' := (if_neg hb).symm.trans z
        cases z'
    · by_cases hb : b = a
      · exact hb
      · exact absurd (if_neg hb) z
end L2
namespace L2
open PySem PySem.Spec PyProof.Rows
theorem walk_of {l : PySem.W.OpenLaw} {n k : Nat} {q : Program} {loose : List Str} {XP : (Str → Option Value) → Heap → Prop} {YP : World → Heap → Prop} {d : DefRec} {K : Params → PySem.W.Frag} {CX : World → CXT} {sp : World → Sp} {x : Str}
    (hn : l.most = some n) (hn2 : n ≤ sizeLine) (hdf : d.params.defaults = []) (hr : Room k callerA)
    (hY : ∀ (w : World) (h : Heap), YP w h → (K w.params).In h)
    (F : ∀ (w : World) (mg : Str → Option Value) (fa : Addr) (h : Heap), (K w.params).In h → h.Ns mainGlobals mg → mg d.name = some (.ref fa) →
      ∃ fd : FuncData, (∀ (s : Shared) (u : Value), BindsTo s fd ⟨[u], []⟩ [(x, u)]) ∧
        ∀ base : Heap, (K w.params).In base → base.Ns mainGlobals mg → FnOk l.prog w (K w.params) mg base (CX w) k fa fd [x] (sp w))
    (hsp : ∀ (w : World) (H : Hp) (a : Addr) (ns : List Int), ns.length ≤ n → Only H → SqL (K w.params) H a (ns.map V.int) → sp w [.ref a] H (fun v _ => v = .bl true) fun _ _ _ => False)
    (hCX : ∀ (w : World) (H : Hp) (s : Shared) (e : Value) (s' : Shared), CX w [] H s (fun _ _ _ => False) e s' → False) :
    PySem.W.WalkO q loose XP YP l.row.toRowW d [] (fun f vs => PySem.call f vs) := by
  refine Att.attach_call hn hdf fun w s₀ s₁ mg mb fa o pm cd doc a vs ns G Y ho hd hcd hmg hobj hints hlen hg => ?_
  have KX := hY w _ Y
  obtain ⟨fd, hb, hF⟩ := F w mg fa _ KX G.T.g hmg
  exact law_call KX G.T.g G.T.b G.T.builtins G.T.nolimit hg hobj hints (Nat.le_trans hlen hn2) hr hF hb (fun H hO hS => hsp w H a ns hlen hO hS) fun H e s' => hCX w H s₁ e s'
theorem walk_ofK {l : PySem.W.OpenLaw} {n k : Nat} {q : Program} {loose : List Str} {XP : (Str → Option Value) → Heap → Prop} {YP : World → Heap → Prop} {d : DefRec} {K : Params → PySem.W.Frag} {CX : CXT} {sp : PySem.W.Frag → Sp} {x : Str}
    (hn : l.most = some n) (hn2 : n ≤ sizeLine) (hdf : d.params.defaults = []) (hr : Room k callerA)
    (hY : ∀ (w : World) (h : Heap), YP w h → (K w.params).In h)
    (F : ∀ (w : World) (mg : Str → Option Value) (fa : Addr) (h : Heap), (K w.params).In h → h.Ns mainGlobals mg → mg d.name = some (.ref fa) →
      ∃ fd : FuncData, (∀ (s : Shared) (u : Value), BindsTo s fd ⟨[u], []⟩ [(x, u)]) ∧
        ∀ base : Heap, (K w.params).In base → base.Ns mainGlobals mg → FnOk l.prog w (K w.params) mg base CX k fa fd [x] (sp (K w.params)))
    (hsp : ∀ (K : PySem.W.Frag) (H : Hp) (a : Addr) (ns : List Int), ns.length ≤ n → Only H → SqL K H a (ns.map V.int) → sp K [.ref a] H (fun v _ => v = .bl true) fun _ _ _ => False)
    (hCX : ∀ (H : Hp) (s : Shared) (e : Value) (s' : Shared), CX [] H s (fun _ _ _ => False) e s' → False) :
    PySem.W.WalkO q loose XP YP l.row.toRowW d [] (fun f vs => PySem.call f vs) :=
  walk_of (K := K) (CX := fun _ => CX) (sp := fun w => sp (K w.params)) hn hn2 hdf hr hY F (fun w H a ns h1 h2 h3 => hsp (K w.params) H a ns h1 h2 h3) fun _ H s e s' => hCX H s e s'
end L2
namespace L2
open PySem PySem.Spec PyProof.Rows
noncomputable def inClass (s : Stmt) (j : Nat) : Stmt := match s with
  | .ClassDef _ _ _ body _ _ _ _ _ _ _ => body.getD j (.Pass ⟨0, 0, 0, 0⟩)
  | _ => .Pass ⟨0, 0, 0, 0⟩
noncomputable def defArgs (s : Stmt) : Arguments := match s with
  | .FunctionDef _ a _ _ _ _ _ _ _ _ => a
  | _ => { posonlyargs := [], args := [], vararg := none, kwonlyargs := [], kw_defaults := [], kwarg := none, defaults := [] }
noncomputable def defBody (s : Stmt) : List Stmt := match s with
  | .FunctionDef _ _ b _ _ _ _ _ _ _ => b
  | _ => []
noncomputable def defScope (s : Stmt) : Scope := match s with
  | .FunctionDef _ _ _ _ _ _ sc _ _ _ => sc
  | _ => { kind := .function, names := [], isGenerator := false, isCoroutine := false }
noncomputable abbrev CX0 : CXT := fun _ _ _ _ _ _ => False
noncomputable abbrev E0 : XK := fun _ _ _ => False
theorem pass0 {X : Cx} : Passes CX0 X E0 := fun _ _ _ _ _ _ _ h => h.elim
structure Fun (K : PySem.W.Frag) (x qual : Str) (st : Stmt) (f : Addr) (fd : FuncData) : Prop where
  ex : ∃ (oc : Value) (od : Option Addr) (kV doc pm : Value) (an : Option Addr) (cdv ct : Value) (osl : Array (Option Value)),
    fd = PySem.W.fnOf x qual (defArgs st) (defBody st) (defScope st) .none kV doc pm an cdv ct ∧ K.lookup f = some ⟨oc, od, .func fd, osl⟩ ∧ PySem.W.codeIn K cdv qual = true
  kp : PySem.W.keepIn K (.ref f) = true
section
variable {P : Program} {w : World} {K : PySem.W.Frag} {mg : Str → Option Value} {base : Heap}
theorem Fun.ok {x qual : Str} {st : Stmt} {f : Addr} {fd : FuncData} {N ps : List Str} {k : Nat} {sp : Sp} (F : Fun K x qual st f fd) (S : FnScope N ps (defScope st)) (len : ∀ vs H Q E, sp vs H Q E → vs.length = ps.length)
    (hbody : ∀ (cdv : Value) (A : Around) (outer : List Env) (s : Shared) (H : Hp) (vs : List V) (Q : VK) (E : XK), Room k (A.deeper (envOfC qual (defScope st) s.heap.objs.size f cdv)) → sp vs H Q E →
      ∃ t, PSs (cxOf CX0 P w K mg base N qual (defScope st) f cdv A outer s H E).nox (defBody st) t ∧ t { nx := fun _ H' => Q .non H', rt := Q } (start N vs) H) : FnOk P w K mg base CX0 (k + 1) f fd ps sp := by
  obtain ⟨oc, od, kV, doc, pm, an, cdv, ct, osl, rfl, lk, hcd⟩ := F.ex
  refine fn_of lk hcd S len fun A outer s H vs Q E hr hsp => ?_
  obtain ⟨t, h, q⟩ := hbody cdv A outer s H vs Q E hr hsp
  exact ⟨t, h.nox, q⟩
theorem Fun.binds {x qual : Str} {st : Stmt} {f : Addr} {fd : FuncData} {ps : List Str} (F : Fun K x qual st f fd)
    (h : ∀ (kV doc pm : Value) (an : Option Addr) (cdv ct : Value) (us : List Value), us.length = ps.length → bindArgs (PySem.W.fnOf x qual (defArgs st) (defBody st) (defScope st) .none kV doc pm an cdv ct) ⟨us, []⟩ = pure (ps.zip us)) : Binds K fd ps [] := by
  obtain ⟨oc, od, kV, doc, pm, an, cdv, ct, osl, rfl, lk, hcd⟩ := F.ex
  exact .all (h kV doc pm an cdv ct)
theorem fun_mk {x qual : Str} {st : Stmt} {f : Addr} {oc : Value} {od an : Option Addr} {osl : Array (Option Value)} {kV doc pm cdv ct : Value} (l : K.lookup f = some ⟨oc, od, .func (PySem.W.fnOf x qual (defArgs st) (defBody st) (defScope st) .none kV doc pm an cdv ct), osl⟩)
    (c : PySem.W.codeIn K cdv qual = true) (k : PySem.W.keepIn K (.ref f) = true) : Fun K x qual st f (PySem.W.fnOf x qual (defArgs st) (defBody st) (defScope st) .none kV doc pm an cdv ct) := ⟨⟨oc, od, kV, doc, pm, an, cdv, ct, osl, rfl, l, c⟩, k⟩
end
section
variable {X : Cx}
end
noncomputable def Same (H H' : Hp) : Prop := ∀ b o, H b = some o → H' b = some o
theorem Same.refl (H : Hp) : Same H H := fun _ _ h => h
theorem Same.trans {H H1 H2 : Hp} (a : Same H H1) (b : Same H1 H2) : Same H H2 := fun c o h => b c o (a c o h)
theorem Same.free {H H' : Hp} (e : Same H H') {l : Addr} (h : H' l = Option.none) : H l = Option.none := by
  cases q : H l with
  | none => rfl
  | some o =>
    rw [e l o q] at h
    cases h
theorem Same.seq {K : PySem.W.Frag} {H H' : Hp} {a : Addr} {xs : List V} (e : Same H H') (h : SqL K H a xs) : SqL K H' a xs := by
  rcases h with (h | ⟨o, h⟩) | h
  · exact .inl (.inl (e _ _ h))
  · exact .inl (.inr ⟨o, e _ _ h⟩)
  · exact .inr h
section
variable {X : Cx}
theorem call_lenD : CallR X (.builtin "len") (fun xs H Q => ∃ a kvs, xs = [V.ref a] ∧ H a = some (.dK kvs) ∧ Q (.int kvs.length) H) := by
  intro pins s σ H xs us Q I r h
  obtain ⟨a, kvs, rfl, ha, q⟩ := h
  obtain ⟨u, rfl, ru⟩ := vals1 r
  cases ru
  exact d_len I (.inl ha) fun t s' I' => ⟨.int kvs.length, H, I', ⟨t, rfl⟩, q⟩
end
section
variable {κ : Type} [DecidableEq κ]
end
end L2
namespace L2
open PySem PySem.Spec PyProof.Rows
noncomputable def cxC (X : Cx) (N' : List Str) (scope : Scope) (cl : List (Str × Addr)) (C : Addr) (s₀ : Shared) (H₀ : Hp) (ex : List Addr) : Cx where
  prog := X.prog
  w := X.w
  K := X.K
  mg := X.mg
  base := X.base
  A := X.A
  N := N'
  s₀ := s₀
  H₀ := H₀
  env := compEnvC scope cl C X.env
  outer := X.stack
  stack := X.stack
  ex := ex
  fn := fun _ => false
  calm := X.calm
  pn := []
  xe := fun _ _ => False
theorem closure_of {scope : Scope} {env : Env} (h : ∀ y ∈ scope.names, y.2 = .free → ∃ c, env.cells.lookup y.1 = some c) :
    ∃ cl, closureFor scope env = pure cl ∧ (∀ y c, cl.lookup y = some c → env.cells.lookup y = some c) ∧ ∀ y ∈ scope.names, y.2 = .free → ∃ c, cl.lookup y.1 = some c := by
  have go : ∀ (names : List (Str × NameKind)) (acc : List (Str × Addr)), (∀ y ∈ names, y.2 = .free → ∃ c, env.cells.lookup y.1 = some c) → (∀ y c, acc.lookup y = some c → env.cells.lookup y = some c) →
      ∃ cl, (forIn names acc fun x r => if (x.2 == NameKind.free) = true then do let c ← cellOf env x.1; pure (ForInStep.yield ((x.1, c) :: r)) else pure (ForInStep.yield r) : Sem _) = pure cl ∧
        (∀ y c, cl.lookup y = some c → env.cells.lookup y = some c) ∧ (∀ y c, acc.lookup y = some c → ∃ c, cl.lookup y = some c) ∧ ∀ y ∈ names, y.2 = .free → ∃ c, cl.lookup y.1 = some c := by
    intro names
    induction names with
    | nil => intro acc _ h2; exact ⟨acc, rfl, h2, fun y c e => ⟨c, e⟩, fun y hy => nomatch hy⟩
    | cons z r ih =>
      intro acc h1 h2
      obtain ⟨n, k⟩ := z
      rw [List.forIn_cons]
      by_cases hk : k = .free
      · subst hk
        obtain ⟨c, hc⟩ := h1 (n, .free) List.mem_cons_self rfl
        obtain ⟨cl, e, a1, a2, a3⟩ := ih ((n, c) :: acc) (fun y hy => h1 y (List.mem_cons_of_mem _ hy)) (fun y d hd => by
          rw [List.lookup_cons] at hd
          cases hb : y == n with
          | true => rw [hb] at hd; simp only at hd; cases hd; rw [eq_of_beq hb]; exact hc
          | false => rw [hb] at hd; exact h2 y d hd)
        refine ⟨cl, ?_, a1, fun y d hd => ?_, fun y hy hf => ?_⟩
        · rw [← e]
          have e1 : cellOf env n = pure c := by
            unfold cellOf
            rw [hc]
          simp only [beq_self_eq_true, if_true, e1, pure_bind]
        · by_cases hyn : y = n
          · exact a2 y c (by rw [hyn, List.lookup_cons, beq_self_eq_true])
          · exact a2 y d (by rw [List.lookup_cons, show (y == n) = false by simpa using hyn]; exact hd)
        · (rcases List.mem_cons.mp hy with rfl | hy)
          · exact a2 n c (by rw [List.lookup_cons, beq_self_eq_true])
          · exact a3 y hy hf
      · have hb : (k == NameKind.free) = false := by simpa using hk
        obtain ⟨cl, e, a1, a2, a3⟩ := ih acc (fun y hy => h1 y (List.mem_cons_of_mem _ hy)) h2
        refine ⟨cl, ?_, a1, a2, fun y hy hf => ?_⟩
        · rw [← e]
          simp only [hb, Bool.false_eq_true, if_false, pure_bind]
        · (rcases List.mem_cons.mp hy with rfl | hy)
          · exact absurd hf hk
          · exact a3 y hy hf
  obtain ⟨cl, e, a1, _, a3⟩ := go scope.names [] h (fun y c e => nomatch e)
  refine ⟨cl, ?_, a1, a3⟩
  unfold closureFor
  simp only [] at e ⊢
  rw [e]
  rfl
theorem relabel_free {env : Env} : ∀ {names : List (Str × NameKind)} {x : Str}, names.lookup x = some .free →
    (names.map fun (n, k) => if (k == NameKind.free && env.scope.kind == .function && env.kindOf n == some .cell) then (n, NameKind.cell) else (n, k)).lookup x = some .cell ∨
    (names.map fun (n, k) => if (k == NameKind.free && env.scope.kind == .function && env.kindOf n == some .cell) then (n, NameKind.cell) else (n, k)).lookup x = some .free
  | [], _, h => by simp at h
  | (n, k) :: r, x, h => by
    have ih := @relabel_free env r x
    show List.lookup x ((if (k == NameKind.free && env.scope.kind == .function && env.kindOf n == some .cell) = true then (n, NameKind.cell) else (n, k)) :: _) = _ ∨ List.lookup x ((if (k == NameKind.free && env.scope.kind == .function && env.kindOf n == some .cell) = true then (n, NameKind.cell) else (n, k)) :: _) = _
    cases hx : x == n with
    | true =>
      (simp only [List.lookup_cons, hx] at h)
      cases h
      by_cases hc : (NameKind.free == NameKind.free && env.scope.kind == .function && env.kindOf n == some .cell) = true
      · rw [if_pos hc]; left; simp only [List.lookup_cons, hx]
      · rw [if_neg hc]; right; simp only [List.lookup_cons, hx]
    | false =>
      (simp only [List.lookup_cons, hx] at h)
      (by_cases hc : (k == NameKind.free && env.scope.kind == .function && env.kindOf n == some .cell) = true)
      · (rw [if_pos hc]; simp only [List.lookup_cons, hx]; exact ih h)
      · (rw [if_neg hc]; simp only [List.lookup_cons, hx]; exact ih h)
noncomputable def compOk (osc : Scope) (oN : List Str) (k : Nat) (js : List Nat) (N' : List Str) (scope : Scope) : Bool :=
  scope.kind == .function && scope.names.all (fun y => y.2 != .cell) && scope.names.all (fun y => y.2 != .local || scope.names.lookup y.1 == some .local) &&
  scope.names.all (fun y => y.2 != .free || osc.names.lookup y.1 == some .cell || osc.names.lookup y.1 == some .free) &&
  N'.length == k + js.length && decide N'.Nodup &&
  (List.range js.length).all fun i => match js[i]? with
    | none => false
    | some j => match oN[j]? with
      | none => false
      | some y => N'[k + i]? == some y && scope.names.lookup y == some .free
structure CompScope (X : Cx) (k : Nat) (js : List Nat) (N' : List Str) (scope : Scope) : Prop where
  kind : scope.kind = .function
  nocell : ∀ y ∈ scope.names, y.2 ≠ .cell
  names : ∀ y ∈ scope.names, y.2 = .local → scope.names.lookup y.1 = some .local
  free : ∀ y ∈ scope.names, y.2 = .free → X.env.kindOf y.1 = some .cell ∨ X.env.kindOf y.1 = some .free
  len : N'.length = k + js.length
  nd : N'.Nodup
  idx : ∀ i j : Nat, js[i]? = some j → ∃ y, X.N[j]? = some y ∧ N'[k + i]? = some y ∧ scope.names.lookup y = some .free
theorem CompScope.of {X : Cx} {osc : Scope} {oN : List Str} {k : Nat} {js : List Nat} {N' : List Str} {scope : Scope} (h : compOk osc oN k js N' scope = true) (e : X.env.scope = osc) (eN : X.N = oN) : CompScope X k js N' scope := by
  subst e eN
  unfold compOk at h
  (simp only [Bool.and_eq_true] at h)
  obtain ⟨⟨⟨⟨⟨⟨h1, h2⟩, h3⟩, h4⟩, h5⟩, h6⟩, h7⟩ := h
  refine ⟨eq_of_beq h1, fun y hy => by simpa using List.all_eq_true.mp h2 y hy, fun y hy hl => ?_, fun y hy hf => ?_, eq_of_beq h5, of_decide_eq_true h6, fun i j hj => ?_⟩
  · have q := List.all_eq_true.mp h3 y hy
    rw [hl] at q
    simpa using q
  · have q := List.all_eq_true.mp h4 y hy
    rw [hf] at q
    simp at q
    exact q
  · have hi : i < js.length := (List.getElem?_eq_some_iff.mp hj).1
    have q := List.all_eq_true.mp h7 i (List.mem_range.mpr hi)
    rw [hj] at q
    simp only at q
    cases hN : X.N[j]? with
    | none => rw [hN] at q; cases q
    | some y =>
      rw [hN] at q
      simp only [Bool.and_eq_true] at q
      exact ⟨y, rfl, eq_of_beq q.1, eq_of_beq q.2⟩
noncomputable def capsOf (js : List Nat) (σ : St) : St := js.map fun j => (σ[j]?).join
noncomputable def start0 (k : Nat) (js : List Nat) (σ : St) : St := List.replicate k none ++ capsOf js σ
section
variable {X : Cx}
theorem inv_comp {pins : List (Addr × Obj)} {σ : St} {H : Hp} {s : Shared} {k : Nat} {js : List Nat} {N' : List Str} {scope : Scope} {cl : List (Str × Addr)} {fp : List Addr} {h1 : Heap} {tk : Nat}
    (I : Inv X pins σ H s) (S : CompScope X k js N' scope) (hf : ∀ b ∈ fp, FpOk X pins H b) (hfo : ∀ b ∈ fp, b < s.heap.objs.size)
    (c1 : ∀ y c, cl.lookup y = some c → X.env.cells.lookup y = some c) (c2 : ∀ y ∈ scope.names, y.2 = .free → ∃ c, cl.lookup y.1 = some c)
    (ns : ∃ m, h1.Ns (s.heap.objs.size + 1) m) (kp : ∀ b o, s.heap.get? b = some o → h1.get? b = some o) (hD : h1.get? s.heap.objs.size = some { cls := .type "list", data := .seq #[] }) :
    Inv (cxC X N' scope cl (s.heap.objs.size + 1) s H fp) [] (start0 k js σ) (upd H s.heap.objs.size (.lst [])) { s with heap := h1, toks := tk } := by
  have hfr : H s.heap.objs.size = none := I.hok.fresh (Nat.le_refl _)
  have hfr1 : H (s.heap.objs.size + 1) = none := I.hok.fresh (Nat.le_succ _)
  have cells : ∀ y c, cl.lookup y = some c → c < s.heap.objs.size := fun y c e => by
    obtain ⟨v, q⟩ := I.cell y c (c1 y c e)
    exact q.lt
  have exb : ∀ b ∈ fp, ∀ o, X.base.get? b = some o → False := fun b hb o e => by
    rcases (hf b hb).2.2.2.1 with z | z
    · exact I.ok.noex b o e z
    · exact absurd (Nat.lt_of_lt_of_le (Heap.lt_size (I.ok.bs b o e).1) z) (Nat.lt_irrefl _)
  have exs : ∀ b ∈ fp, b ∉ frs X.stack := fun b hb z => by
    rcases List.mem_cons.mp (I.stkSub b z) with q | q
    · exact (hf b hb).2.1 q
    · exact (hf b hb).2.2.1 q
  obtain ⟨m1, hn1⟩ := ns
  have upk : ∀ y, scope.names.lookup y = some .free → ((cxC X N' scope cl (s.heap.objs.size + 1) s H fp).env.kindOf y = some .cell ∨ (cxC X N' scope cl (s.heap.objs.size + 1) s H fp).env.kindOf y = some .free) := fun y hy => relabel_free hy
  have memf : ∀ y, scope.names.lookup y = some .free → ∃ c, cl.lookup y = some c := fun y hy => c2 (y, .free) (PySem.mem_of_lookup hy) rfl
  have back : ∀ y, ((cxC X N' scope cl (s.heap.objs.size + 1) s H fp).env.kindOf y = some .cell ∨ (cxC X N' scope cl (s.heap.objs.size + 1) s H fp).env.kindOf y = some .free) → scope.names.lookup y = some .free := by
    intro y hy
    have key : ∀ names : List (Str × NameKind), (∀ z ∈ names, z.2 ≠ .cell) →
        ((names.map fun (n, k) => if (k == NameKind.free && X.env.scope.kind == .function && X.env.kindOf n == some .cell) then (n, NameKind.cell) else (n, k)).lookup y = some .cell ∨
        (names.map fun (n, k) => if (k == NameKind.free && X.env.scope.kind == .function && X.env.kindOf n == some .cell) then (n, NameKind.cell) else (n, k)).lookup y = some .free) → names.lookup y = some .free := by
      intro names
      induction names with
      | nil => intro _ h; simp at h
      | cons z r ih =>
        intro hz h
        obtain ⟨n, kd⟩ := z
        have ih' := ih fun z hz' => hz z (List.mem_cons_of_mem _ hz')
        have hkd : kd ≠ .cell := hz (n, kd) List.mem_cons_self
        have h' : List.lookup y ((if (kd == NameKind.free && X.env.scope.kind == .function && X.env.kindOf n == some .cell) = true then (n, NameKind.cell) else (n, kd)) :: r.map _) = _ ∨
            List.lookup y ((if (kd == NameKind.free && X.env.scope.kind == .function && X.env.kindOf n == some .cell) = true then (n, NameKind.cell) else (n, kd)) :: r.map _) = _ := h
        rw [List.lookup_cons]
        cases hx : y == n with
        | true =>
          by_cases hc : (kd == NameKind.free && X.env.scope.kind == .function && X.env.kindOf n == some .cell) = true
          · have : (kd == NameKind.free) = true := by
              (simp only [Bool.and_eq_true] at hc)
              exact hc.1.1
            rw [eq_of_beq this]
          · rw [if_neg hc] at h'
            simp only [List.lookup_cons, hx] at h'
            rcases h' with q | q
            · exact absurd (Option.some.inj q) hkd
            · exact q
        | false =>
          simp only
          by_cases hc : (kd == NameKind.free && X.env.scope.kind == .function && X.env.kindOf n == some .cell) = true
          · rw [if_pos hc] at h'
            simp only [List.lookup_cons, hx] at h'
            exact ih' h'
          · rw [if_neg hc] at h'
            simp only [List.lookup_cons, hx] at h'
            exact ih' h'
    exact key scope.names S.nocell hy
  refine ⟨⟨I.mod, S.kind, I.ok.glob, I.ok.blt, Nat.le_succ _, fun x y c e1 e2 => I.ok.inj x y c (c1 x c e1) (c1 y c e2), fun y hy => memf y (back y hy), fun x c hx => (nomatch hx), I.ok.hd, I.ok.frames, .inl rfl,
      fun b hb => ⟨Nat.ne_of_lt (Nat.lt_succ_of_lt (hfo b hb)), fun x c e => (hf b hb).2.2.2.2.1 x c (c1 x c e)⟩, I.bs, Nat.le_trans I.ok.bsz I.sz, fun b o e hb => exb b hb o e, exs, I.stack, I.stkFree⟩,
    rfl, I.bare, Un.laid kp (Nat.le_refl _) hfr, ⟨m1, hn1, fun i x v e1 e2 e3 => ?_⟩, fun x c e => ?_, ?_, fun x c e => ?_, fun p hp => (nomatch hp), I.hok.laid kp (Nat.le_refl _) ⟨by simp, [], 0, .nil, hD⟩, ?_⟩
  · -- a name's value within the block
    have hi : ¬ i < k := fun hi => by
      unfold start0 at e2
      rw [List.getElem?_append_left (by simpa using hi), List.getElem?_replicate, if_pos hi] at e2
      cases e2
    have hik : k ≤ i := Nat.le_of_not_lt hi
    have e2' : (capsOf js σ)[i - k]? = some (some v) := by
      unfold start0 at e2
      rw [List.getElem?_append_right (by simpa using hik), List.length_replicate] at e2
      exact e2
    unfold capsOf at e2'
    rw [List.getElem?_map] at e2'
    cases hj : js[i - k]? with
    | none => rw [hj] at e2'; cases e2'
    | some j =>
      rw [hj] at e2'
      have e4 : (σ[j]?).join = some v := Option.some.inj e2'
      obtain ⟨y, n1, n2, n3⟩ := S.idx (i - k) j hj
      rw [Nat.add_sub_cancel' hik] at n2
      have e1' : N'[i]? = some x := e1
      rw [e1'] at n2
      obtain rfl : x = y := Option.some.inj n2
      have e5 : σ[j]? = some (some v) := by
        cases q : σ[j]? with
        | none => rw [q] at e4; cases e4
        | some o => rw [q] at e4; exact congrArg some e4
      obtain ⟨m, hn, hl⟩ := I.loc
      have hk := S.free (x, .free) (PySem.mem_of_lookup n3) rfl
      have hv : Vis X.env.scope x := .inr hk
      obtain ⟨u, r, l⟩ := hl j x v n1 e5 hv
      refine ⟨u, r, .inr ⟨upk x n3, ?_⟩⟩
      rcases l with ⟨q, _⟩ | ⟨_, c, hc, hcell⟩
      · rcases hk with z | z <;> (rw [show X.env.kindOf x = some NameKind.local from q] at z; cases z)
      · obtain ⟨c', hc'⟩ := memf x n3
        have : c' = c := Option.some.inj ((c1 x c' hc').symm.trans hc)
        subst this
        obtain ⟨o, ho, hd⟩ := hcell
        exact ⟨c', hc', o, kp _ _ ho, hd⟩
  · obtain ⟨v, o, ho, hd⟩ := I.cell x c (c1 x c e)
    exact ⟨v, o, kp _ _ ho, hd⟩
  · show upd H s.heap.objs.size (.lst []) (s.heap.objs.size + 1) = none
    rw [upd_ne (Nat.succ_ne_self _)]
    exact hfr1
  · show upd H s.heap.objs.size (.lst []) c = none
    rw [upd_ne (Nat.ne_of_lt (cells x c e))]
    exact I.freeC x c (c1 x c e)
  · show (start0 k js σ).length = N'.length
    unfold start0 capsOf
    rw [List.length_append, List.length_replicate, List.length_map, S.len]
noncomputable def PIf (X : Cx) (ifs : List Expr) (t : TT) : Prop :=
  ∀ (pins : List (Addr × Obj)) (s : Shared) (σ : St) (H : Hp) (Q : Bool → Hp → Prop), Inv X pins σ H s → t σ H Q →
    wpAny (model X.prog X.w) X.A (forIn ifs true fun c r => if r = true then do let ok ← isTrue c X.env (eval c X.env); pure (ForInStep.yield ok) else pure (ForInStep.yield r)) (TP X pins σ Q) X.xe s
noncomputable def tIf0 : TT := fun _ H Q => Q true H
theorem pif_nil : PIf X [] tIf0 := fun _ _ _ H _ I h => wpAny_tests_nil ⟨H, I, h⟩
noncomputable def CompW (J : It) (g : TG) (tif : TT) (te : TE) (D : Addr) (Q : VK) (W : Nat → Nat → St → List V → Hp → Prop) : Prop :=
  ∀ i m σ ys H, W i m σ ys H → H D = some (.lst ys) → (J.stop i H ∧ Q (.ref D) H) ∨ (J.go i H ∧ ∀ x H', J.yld i H x H' → g x σ H' fun σ2 H2 => tif σ2 H2 fun b H3 =>
    if b = true then te σ2 H3 fun y H4 => H4 D = some (.lst ys) ∧ ys.length < sizeLine ∧ ∃ m', m' < m ∧ W (i + 1) m' σ2 (ys ++ [y]) (upd H4 D (.lst (ys ++ [y])))
    else H3 D = some (.lst ys) ∧ ∃ m', m' < m ∧ W (i + 1) m' σ2 ys H3)
theorem comp_loop {elt tg iter : Expr} {ifs : List Expr} {scope : Scope} {pos : Pos} {it D : Addr} {J : It} {fp : List Addr} {tn : Nat → Heap → Prop} {g : TG} {tif : TT} {te : TE} {Q : VK} {R : Result → Shared → Prop}
    (hx : ∀ e s', X.xe e s' → False) (hc : X.calm = true) (T : Turn X.prog X.w X.K tg J fp it tn) (hg : PG X tg g) (hif : PIf X ifs tif) (he : PE X elt te)
    (stat : ∀ {H' : Hp}, (∀ b ∈ fp, H' b = none) → ∀ b ∈ fp, FpOk X [] H' b)
    {W : Nat → Nat → St → List V → Hp → Prop} (turn : CompW J g tif te D Q W)
    (hR : ∀ σ' H' s', Inv X [] σ' H' s' → Q (.ref D) H' → R (.ok .next) s')
    {σ : St} {H : Hp} {s : Shared} {m : Nat} (I : Inv X [] σ H s) (st : tn 0 s.heap) (fr : ∀ b ∈ fp, H b = none) (hD : H D = some (.lst [])) (w0 : W 0 m σ [] H) :
    codeAny (model X.prog X.w) X.A (.compLoop (.ListComp elt [⟨tg, iter, ifs, 0⟩] scope pos) 0 (.ref it) (.ref D) X.env) R s := by
  refine codeAny_loop rfl (fun n s' => ∃ i ys σ' H', Inv X [] σ' H' s' ∧ tn i s'.heap ∧ (∀ b ∈ fp, H' b = none) ∧ H' D = some (.lst ys) ∧ W i n σ' ys H') (fun n s3 hI => ?_) m ⟨0, [], σ, H, I, st, fr, hD, w0⟩
  obtain ⟨i, ys, σ3, H3, I3, st3, fr3, d3, w3⟩ := hI
  show wpAny _ X.A ((compTurn (.ListComp elt [⟨tg, iter, ifs, 0⟩] scope pos) 0 (.ref it) (.ref D) X.env).onRaise (fun x => do noteFrame x X.env; theTreesLotGoes x)) _ _ s3
  refine wpAny_noted ?_
  rw [compTurn_list]
  (refine wpAny_bind (wpAny_standAt (wpAny_bind ?_)))
  have sub : ∀ {α : Type} {t : Sem α} {P : α → Shared → Prop} {E' : Value → Shared → Prop} {s : Shared}, wpAny (model X.prog X.w) X.A t P X.xe s → wpAny (model X.prog X.w) X.A t P E' s := fun h => wpAny_mono h (fun _ _ q => q) fun e s' q => (hx e s' q).elim
  rcases turn i n σ3 ys H3 w3 d3 with ⟨stop, q⟩ | ⟨go, step⟩
  · refine sub (thn (T.done X rfl rfl rfl hc i [] s3 σ3 H3 X.xe I3 (stat fr3) st3 stop) fun r s4 ⟨hr, I4⟩ => ?_)
    subst hr
    exact wpAny_pure (hR σ3 H3 s4 I4 q)
  · refine sub (thn (T.item X rfl rfl rfl hc i [] s3 σ3 H3 X.xe I3 (stat fr3) st3 go) fun r s4 ⟨u, hr, h4⟩ => ?_)
    subst hr
    refine wpAny_bind (sub (thn h4 fun _ s5 ⟨x, H5, I5, r5, y5, st5, fr5⟩ => ?_))
    have I5' := I5.pinned (stat fr5) (T.obj _ _ st5)
    refine wpAny_bind (sub (thn (hg _ s5 σ3 H5 x u _ I5' r5 (step x H5 y5)) fun _ s6 ⟨σ6, H6, I6, q6⟩ => ?_))
    have again : ∀ {s7 : Shared} {H7 : Hp} {ys7 : List V}, Inv X ([] ++ pinsAt fp s5.heap) σ6 H7 s7 → H7 D = some (.lst ys7) → (∃ m', m' < n ∧ W (i + 1) m' σ6 ys7 H7) →
        ∃ m, m < n ∧ ∃ i ys σ' H', Inv X [] σ' H' s7 ∧ tn i s7.heap ∧ (∀ b ∈ fp, H' b = none) ∧ H' D = some (.lst ys) ∧ W i m σ' ys H' := fun {s7 H7 ys7} I7 d7 w7 => by
      obtain ⟨m', hm, w7⟩ := w7
      refine ⟨m', hm, i + 1, ys7, σ6, H7, I7.unpinned, T.keep _ _ _ st5 fun b hb o e => (I7.pin (b, o) (List.mem_append_right _ (List.mem_append_right _ (mem_pinsAt hb e)))).1, fun b hb => ?_, d7, w7⟩
      obtain ⟨o, e, d⟩ := T.obj _ _ st5 b hb
      exact (I7.pin (b, o) (List.mem_append_right _ (List.mem_append_right _ (mem_pinsAt hb e)))).2.1
    refine wpAny_bind (sub (thn (hif _ s6 σ6 H6 _ I6 q6) fun ok s7 ⟨H7, I7, q7⟩ => ?_))
    cases ok with
    | false =>
      rw [if_neg Bool.false_ne_true] at q7
      exact wpAny_pure ⟨rfl, again I7 q7.1 q7.2⟩
    | true =>
      rw [if_pos rfl] at q7
      refine wpAny_bind (wpAny_bind (sub (thn (he _ s7 σ6 H7 _ I7 q7) fun y s8 ⟨v, H8, I8, r8, d8, z8, w8⟩ => ?_)))
      have ap := mt_append (X := X) _ s8 σ6 H8 (.ref D) [v] (.ref D) [y] (fun _ H9 => H9 = upd H8 D (.lst (ys ++ [v]))) I8 rfl (.cons r8 .nil) ⟨D, ys, v, rfl, rfl, d8, z8, rfl⟩
      refine wpAny_bind (sub (thn ap fun _ s9 ⟨_, H9, I9, _, e9⟩ => ?_))
      subst e9
      exact wpAny_pure (wpAny_pure ⟨rfl, again I9 upd_same w8⟩)
noncomputable def tComp (k : Nat) (js : List Nat) (wi : TI) (g : TG) (tif : TT) (te : TE) : TE := fun σ H Q => wi σ H fun J H1 => ∀ D, H1 D = none → ∃ W : Nat → Nat → St → List V → Hp → Prop,
  (∃ m, W 0 m (start0 k js σ) [] (upd H1 D (.lst []))) ∧ CompW J g tif te D Q W
theorem comp_block {elt tg iter : Expr} {ifs : List Expr} {scope : Scope} {pos : Pos} {k : Nat} {js : List Nat} {N' : List Str} {J : It} {fp : List Addr} {tn : Nat → Heap → Prop} {it : Addr} {g : TG} {tif : TT} {te : TE} {Q : VK} {E : Value → Shared → Prop}
    {pins : List (Addr × Obj)} {s : Shared} {σ : St} {H : Hp} {cl : List (Str × Addr)} {RR : Value → Addr → Result → Shared → Prop}
    (hc : X.calm = true) (S : CompScope X k js N' scope) (T : Turn X.prog X.w X.K tg J fp it tn) (st : tn 0 s.heap) (hf : ∀ b ∈ fp, FpOk X pins H b)
    (c1 : ∀ y c, cl.lookup y = some c → X.env.cells.lookup y = some c) (c2 : ∀ y ∈ scope.names, y.2 = .free → ∃ c, cl.lookup y.1 = some c)
    (hin : ∀ (cl : List (Str × Addr)) (C : Addr) (s₀ : Shared) (H₀ : Hp) (ex : List Addr), PG (cxC X N' scope cl C s₀ H₀ ex) tg g ∧ PIf (cxC X N' scope cl C s₀ H₀ ex) ifs tif ∧ PE (cxC X N' scope cl C s₀ H₀ ex) elt te)
    (I : Inv X pins σ H s) (q : ∀ D, H D = none → ∃ W : Nat → Nat → St → List V → Hp → Prop, (∃ m, W 0 m (start0 k js σ) [] (upd H D (.lst []))) ∧ CompW J g tif te D Q W)
    (hRR : ∀ (D C : Addr) (s' : Shared) (H' : Hp), s.heap.get? C = none → (∃ m, s'.heap.Ns C m) → Inv X pins σ H' s' → FpOk X pins H' C → Q (.ref D) H' → RR (.ref D) C (.ok .next) s') :
    wpAny (model X.prog X.w) X.A (newList []) (fun acc s₃ => wpAny (model X.prog X.w) X.A (newFunctionEnv scope X.env.globals cl [] X.env.qual none .none (some X.env)) (fun cenv s₄ =>
      codeAny (model X.prog X.w) X.A (.compStart (.ListComp elt [⟨tg, iter, ifs, 0⟩] scope pos) 0 (.ref it) acc { cenv with scope := relabel scope X.env }) (RR acc cenv.locals) s₄) E s₃) E s := by
  refine wpAny_newObj_type (wpAny_newFunctionEnv S.nocell (by intro y hy; simp at hy) (fun h₁ hns₁ hsb₁ => ?_) S.kind)
  dsimp only at hns₁ hsb₁ ⊢
  generalize hH2 : s.heap.push { cls := .type "list", dict := none, data := .seq ([] : List Value).toArray } = H2 at hns₁ hsb₁ ⊢
  have hC : H2.objs.size = s.heap.objs.size + 1 := by rw [← hH2, Heap.size_push]
  rw [hC] at hns₁ hsb₁ ⊢
  have kp : ∀ b o, s.heap.get? b = some o → h₁.get? b = some o := fun b o e => hsb₁.extBut b o (Nat.ne_of_lt (Nat.lt_succ_of_lt (Heap.lt_size e))) (Heap.get?_push_of_some _ (hH2 ▸ Heap.get?_push_of_some _ e))
  have hD : h₁.get? s.heap.objs.size = some { cls := .type "list", data := .seq #[] } := hsb₁.extBut _ _ (Nat.ne_of_lt (Nat.lt_succ_self _)) (Heap.get?_push_of_some _ (hH2 ▸ Heap.get?_push_size _ rfl))
  have hfo : ∀ b ∈ fp, b < s.heap.objs.size := fun b hb => by obtain ⟨o, e, _⟩ := T.obj _ _ st b hb; exact Heap.lt_size e
  obtain ⟨W, ⟨m0, w0⟩, turn⟩ := q s.heap.objs.size (I.hok.fresh (Nat.le_refl _))
  obtain ⟨gG, gI, gE⟩ := hin cl (s.heap.objs.size + 1) s H fp
  have fresh1 : s.heap.get? (s.heap.objs.size + 1) = none := by
    cases e : s.heap.get? (s.heap.objs.size + 1) with
    | none => rfl
    | some o => exact absurd (Heap.lt_size e) (Nat.not_lt.mpr (Nat.le_succ _))
  have I1 : ∀ tk, Inv (cxC X N' scope cl (s.heap.objs.size + 1) s H fp) [] (start0 k js σ) (upd H s.heap.objs.size (.lst [])) { s with heap := h₁, toks := tk } := fun tk => inv_comp I S hf hfo c1 c2 ⟨_, hns₁⟩ kp hD
  have ffr : ∀ b ∈ fp, upd H s.heap.objs.size (.lst []) b = none := fun b hb => by
    rw [upd_ne (Nat.ne_of_lt (hfo b hb))]
    exact (hf b hb).1
  have exs : ∀ b ∈ fp, b ∉ frs X.stack := (I1 0).ok.exfs
  have stat : ∀ {H' : Hp}, (∀ b ∈ fp, H' b = none) → ∀ b ∈ fp, FpOk (cxC X N' scope cl (s.heap.objs.size + 1) s H fp) [] H' b := fun hn b hb =>
    ⟨hn b hb, ((I1 0).ok.exf b hb).1, exs b hb, .inl hb, ((I1 0).ok.exf b hb).2, fun p hp => (nomatch hp)⟩
  have st1 : tn 0 h₁ := T.keep _ _ _ st fun b _ o e => kp b o e
  have loop : ∀ tk, codeAny (model X.prog X.w) X.A (.compLoop (.ListComp elt [⟨tg, iter, ifs, 0⟩] scope pos) 0 (.ref it) (.ref s.heap.objs.size) (compEnvC scope cl (s.heap.objs.size + 1) X.env))
      (RR (.ref s.heap.objs.size) (s.heap.objs.size + 1)) { s with heap := h₁, toks := tk } := fun tk => by
    refine comp_loop (X := cxC X N' scope cl (s.heap.objs.size + 1) s H fp) (fun _ _ z => z) hc T gG gI gE stat turn (fun σ' H' s' J q' => ?_) (I1 tk) st1 ffr upd_same w0
    have u : Un (frs X.stack) fp H H' s.heap s'.heap := J.base
    have J1 : Inv X pins σ H' s' := I.call' J.os u J.hok J.bare fun b hb => ⟨(hf b hb).2.2.2.1, (hf b hb).2.1, (hf b hb).2.2.2.2.1, (hf b hb).2.2.2.2.2⟩
    obtain ⟨m', hn', _⟩ := J.loc
    refine hRR _ _ s' H' fresh1 ⟨m', hn'⟩ J1 ⟨J.free, Nat.ne_of_gt (Nat.lt_succ_of_lt I.lt), I.nofs (Nat.le_succ _), .inr (Nat.le_trans I.sz (Nat.le_succ _)), fun x c e z => ?_, fun p hp z => ?_⟩ q'
    · obtain ⟨v, qc⟩ := I.cell x c e
      have h1 := qc.lt
      rw [z] at h1
      exact absurd h1 (Nat.not_lt.mpr (Nat.le_succ _))
    · have h1 := Heap.lt_size (I.pin p hp).1
      rw [z] at h1
      exact absurd h1 (Nat.not_lt.mpr (Nat.le_succ _))
  exact codeAny_compStart_list (loop _) (T.self X.A 0 _ _ _ st1 (loop _))
theorem pe_comp {elt tg iter : Expr} {ifs : List Expr} {scope : Scope} {pos : Pos} {k : Nat} {js : List Nat} {N' : List Str} {wi : TI} {g : TG} {tif : TT} {te : TE}
    (hc : X.calm = true) (S : CompScope X k js N' scope) (hi : PI X tg iter wi)
    (hin : ∀ (cl : List (Str × Addr)) (C : Addr) (s₀ : Shared) (H₀ : Hp) (ex : List Addr), PG (cxC X N' scope cl C s₀ H₀ ex) tg g ∧ PIf (cxC X N' scope cl C s₀ H₀ ex) ifs tif ∧ PE (cxC X N' scope cl C s₀ H₀ ex) elt te)
    (hs : ∀ x, foldedSetIterable iter X.env x = pure x := by intro _; rfl) : PE X (.ListComp elt [⟨tg, iter, ifs, 0⟩] scope pos) (tComp k js wi g tif te) := by
  intro pins s σ H Q I h
  obtain ⟨cl, ec, c1, c2⟩ := closure_of (scope := scope) (env := X.env) fun y hy hf => I.ok.has y.1 (S.free y hy hf)
  rw [eval_ListComp]
  refine wpAny_comprehension_free (use := none) rfl hs ec S.kind S.names (thn (hi pins s σ H _ I h) fun xv s1 h1 => thn h1 fun itv s2 h2 => ?_)
  obtain ⟨it, fp, tn, J, H2, e, I2, T, st2, f2, q⟩ := h2
  subst e
  refine comp_block (RR := fun acc C => compPost (model X.prog X.w) X.A X.xe none (EP X pins σ Q) acc C) hc S T st2 f2 c1 c2 hin I2 q ?_
  intro D C s' H' _ hn J1 fC q'
  obtain ⟨m', hn⟩ := hn
  obtain ⟨f0, f1, f2, f3, f4, f5⟩ := fC
  exact ⟨m', hn, fun h' hs' => ⟨.ref D, H', J1.turned (t' := s'.toks) (fun b o hb e => hs'.extBut b o hb e) f0 f1 f3 f4 f5, rfl, q'⟩⟩
theorem ps_setc {i : Nat} {x : Str} {elt tg iter : Expr} {ifs : List Expr} {scope : Scope} {pos spos pos' : Pos} {k : Nat} {js : List Nat} {N' : List Str} {wi : TI} {g : TG} {tif : TT} {te : TE}
    (hN : X.N.Nodup) (hi : X.N[i]? = some x) (hx : Loc X.env.scope x)
    (hc : X.calm = true) (S : CompScope X k js N' scope) (hit : PI X tg iter wi)
    (hin : ∀ (cl : List (Str × Addr)) (C : Addr) (s₀ : Shared) (H₀ : Hp) (ex : List Addr), PG (cxC X N' scope cl C s₀ H₀ ex) tg g ∧ PIf (cxC X N' scope cl C s₀ H₀ ex) ifs tif ∧ PE (cxC X N' scope cl C s₀ H₀ ex) elt te)
    (hsw : swapsWith (.ListComp elt [⟨tg, iter, ifs, 0⟩] scope pos) (some (.Name x pos')) spos.line X.env = pure true := by rfl)
    (hf : X.fn x = true ∨ X.env.scope.names.lookup x = some .local := by first | exact .inl rfl | exact .inr rfl | assumption)
    (hs : ∀ x, foldedSetIterable iter X.env x = pure x := by intro _; rfl) : PS X (.Assign [.Name x pos'] (.ListComp elt [⟨tg, iter, ifs, 0⟩] scope pos) spos) (tAsg (tComp k js wi g tif te) (gName i)) := by
  intro pins s σ H D I h
  obtain ⟨cl, ec, c1, c2⟩ := closure_of (scope := scope) (env := X.env) fun y hy hf => I.ok.has y.1 (S.free y hy hf)
  (rw [exec_Assign_Name_used _ _ _ _ hsw])
  (refine wpAny_bind (wpAny_standAt (wpAny_bind ?_)))
  show wpAny _ X.A (do let _ ← comprehension (.ListComp elt [⟨tg, iter, ifs, 0⟩] scope pos) scope X.env _ (newList []) false (eval iter X.env) (some (assign (.Name x pos') X.env))) _ _ s
  refine wpAny_bind (wpAny_mono (wpAny_comprehension_free (use := some (assign (.Name x pos') X.env)) (Q := fun _ s' => SP X pins D .next s') rfl hs ec S.kind S.names
    (thn (hit pins s σ H _ I h) fun xv s1 h1 => thn h1 fun itv s2 h2 => ?_)) (fun _ s' hq => wpAny_pure (wpAny_pure hq)) fun _ _ e => e)
  obtain ⟨it, fp, tn, J, H2, e, I2, T, st2, f2, q⟩ := h2
  subst e
  refine comp_block (Q := fun v H' => gName i v σ H' D.nx) (RR := fun acc C => compPost (model X.prog X.w) X.A X.xe (some (assign (.Name x pos') X.env)) (fun _ s' => SP X pins D .next s') acc C) hc S T st2 f2 c1 c2 hin I2 q ?_
  intro Da C s' H' fr hn J1 fC q'
  obtain ⟨m', hn⟩ := hn
  obtain ⟨f0, f1, f2, f3, f4, f5⟩ := fC
  obtain ⟨oC, es, ep, hoC, hdC, hkC, hmC⟩ := id hn
  show wpAny _ X.A (assign (.Name x pos') X.env (.ref Da)) _ _ _
  have J2 : Inv X (pins ++ [(C, oC)]) σ H' s' := J1.pins_of fun p hp => by
    (rcases List.mem_append.mp hp with z | z)
    · exact J1.pin p (List.mem_append_right _ z)
    · have z' : p = (C, oC) := by simpa using z
      subst z'
      exact ⟨hoC, f0, f1, f2, fun v e => by rw [hdC] at e; cases e⟩
  refine wpAny_assign_Name (store_ok J2 hN hi hx (v := .ref Da) rfl (fun s'' I'' => ?_) hf)
  have hC'' := (I''.pin (C, oC) (List.mem_append_right _ (List.mem_append_right _ (by simp)))).1
  refine ⟨m', ⟨oC, es, ep, hC'', hdC, hkC, hmC⟩, fun h' hs' => ?_⟩
  have I3 : Inv X pins (σ.set i (some (.ref Da))) H' s'' := I''.unpinned
  exact ⟨_, H', I3.turned (t' := s''.toks) (fun b o hb e => hs'.extBut b o hb e) f0 f1 f3 f4 f5, q'⟩
end
end L2
namespace L2
open PySem PySem.Spec PyProof.Rows
mutual
inductive Den (K : PySem.W.Frag) (H : Hp) : V → PyData → Prop
  | non : Den K H .non .none
  | bl (b : Bool) : Den K H (.bl b) (.bool b)
  | int (i : Int) : Den K H (.int i) (.int i)
  | str (x : Str) : Den K H (.str x) (.str x)
  | lst {a : Addr} {vs : List V} {ds : List PyData} : SqL K H a vs → DenL K H vs ds → Den K H (.ref a) (.list ds)
  | tup {a : Addr} {vs : List V} {ds : List PyData} : SqT K H a vs → DenL K H vs ds → Den K H (.ref a) (.tuple ds)
inductive DenL (K : PySem.W.Frag) (H : Hp) : List V → List PyData → Prop
  | nil : DenL K H [] []
  | cons {v : V} {d : PyData} {vs : List V} {ds : List PyData} : Den K H v d → DenL K H vs ds → DenL K H (v :: vs) (d :: ds)
end
theorem Same.tupq {K : PySem.W.Frag} {H H' : Hp} {a : Addr} {xs : List V} (e : Same H H') (h : SqT K H a xs) : SqT K H' a xs := by
  rcases h with (h | ⟨o, h⟩) | h
  · exact .inl (.inl (e _ _ h))
  · exact .inl (.inr ⟨o, e _ _ h⟩)
  · exact .inr h
mutual
theorem Den.same {K : PySem.W.Frag} {H H' : Hp} (e : Same H H') : ∀ {v : V} {d : PyData}, Den K H v d → Den K H' v d
  | _, _, .non => .non
  | _, _, .bl b => .bl b
  | _, _, .int i => .int i
  | _, _, .str x => .str x
  | _, _, .lst h r => .lst (e.seq h) (DenL.same e r)
  | _, _, .tup h r => .tup (e.tupq h) (DenL.same e r)
theorem DenL.same {K : PySem.W.Frag} {H H' : Hp} (e : Same H H') : ∀ {vs : List V} {ds : List PyData}, DenL K H vs ds → DenL K H' vs ds
  | _, _, .nil => .nil
  | _, _, .cons h r => .cons (Den.same e h) (DenL.same e r)
end
section
variable {X : Cx} {pins : List (Addr × Obj)} {σ : St} {H : Hp} {s : Shared}
mutual
theorem Den.reads (I : Inv X pins σ H s) : ∀ {v : V} {d : PyData} {u : Value}, Den X.K H v d → RelV v u → ∃ as, Reads s.heap u d as
  | _, _, _, .non, r => by cases (show _ = Value.none from r); exact ⟨_, .none⟩
  | _, _, _, .bl b, r => by cases (show _ = Value.bool b from r); exact ⟨_, .bool b⟩
  | _, _, _, .int i, r => by obtain ⟨t, q⟩ := (show ∃ t, _ = Value.int i t from r); cases q; exact ⟨_, .int i t⟩
  | _, _, _, .str x, r => by obtain ⟨t, q⟩ := (show ∃ t, _ = Value.str x t from r); cases q; exact ⟨_, .str x t⟩
  | _, _, _, .lst (a := a) h q, r => by
    cases (show _ = Value.ref a from r)
    obtain ⟨its, rv, p, hz⟩ := I.list h
    obtain ⟨as, ra⟩ := DenL.reads I q rv
    obtain ⟨o, ho, hc, n, hd⟩ := p.isList
    exact ⟨_, .list ho hc hd (by simpa using ra)⟩
  | _, _, _, .tup (a := a) h q, r => by
    cases (show _ = Value.ref a from r)
    obtain ⟨its, rv, p, hz⟩ := I.tuple h
    obtain ⟨as, ra⟩ := DenL.reads I q rv
    obtain ⟨o, ho, hc, n, hd⟩ := (show s.heap.IsTuple a its.toArray from p)
    exact ⟨_, .tuple ho hc hd (by simpa using ra)⟩
theorem DenL.reads (I : Inv X pins σ H s) : ∀ {vs : List V} {ds : List PyData} {us : List Value}, DenL X.K H vs ds → Vals vs us → ∃ as, ReadsAll s.heap us ds as
  | _, _, _, .nil, r => by cases r; exact ⟨_, .nil⟩
  | _, _, _, .cons h q, r => by
    cases r with
    | cons r1 r2 =>
      obtain ⟨as, ra⟩ := Den.reads I h r1
      obtain ⟨bs, rb⟩ := DenL.reads I q r2
      exact ⟨_, .cons ra rb⟩
end
end
section
variable {X : Cx}
noncomputable def rEqD (K : PySem.W.Frag) : R2 := fun x y H Q => ∃ d e, Den K H x d ∧ Den K H y e ∧ SeqAt.shaped d = true ∧ SeqAt.shaped e = true ∧ Q (.bl (PyData.eqv d e)) H
noncomputable def rNeD (K : PySem.W.Frag) : R2 := fun x y H Q => ∃ d e, Den K H x d ∧ Den K H y e ∧ SeqAt.shaped d = true ∧ SeqAt.shaped e = true ∧ Q (.bl (!PyData.eqv d e)) H
theorem op_eqD (hu : X.A.units + 64 < cLine) : OpR X (compareOp .Eq) (rEqD X.K) := by
  intro pins s σ H x y v u Q I rx ry h
  obtain ⟨d, e, hd, he, s1, s2, q⟩ := h
  obtain ⟨as, ra⟩ := hd.reads I rx
  obtain ⟨bs, rb⟩ := he.reads I ry
  exact eq_dataH ra rb s1 s2 hu ⟨.bl _, H, I, rfl, q⟩
theorem op_neD (hu : X.A.units + 64 < cLine) : OpR X (compareOp .NotEq) (rNeD X.K) := by
  intro pins s σ H x y v u Q I rx ry h
  obtain ⟨d, e, hd, he, s1, s2, q⟩ := h
  obtain ⟨as, ra⟩ := hd.reads I rx
  obtain ⟨bs, rb⟩ := he.reads I ry
  exact ne_dataH ra rb s1 s2 hu ⟨.bl _, H, I, rfl, q⟩
theorem vals_strs : ∀ (l : List (Str × Tok)), Vals ((l.map (·.1)).map V.str) (strValues l)
  | [] => .nil
  | (x, t) :: l => .cons ⟨t, rfl⟩ (vals_strs l)
theorem strs_vals : ∀ (ts : List Str) (us : List Value), Vals (ts.map V.str) us → ∃ l : List (Str × Tok), us = strValues l ∧ l.map (·.1) = ts
  | [], us, r => by cases r; exact ⟨[], rfl, rfl⟩
  | x :: ts, us, r => by
    cases r with
    | cons r1 r2 =>
      obtain ⟨t, rfl⟩ := r1
      obtain ⟨l, e1, e2⟩ := strs_vals ts _ r2
      exact ⟨(x, t) :: l, by rw [e1]; rfl, by rw [List.map_cons, e2]⟩
theorem split_le (x : Str) (c : Nat) : (Txt.split x ⟨#[c]⟩).length ≤ x.length + 2 := by
  unfold Txt.split
  split
  · show 1 ≤ _
    omega
  · split
    · show 1 ≤ _
      omega
    · have e1 := StrLaws.occ_length_le x ⟨#[c]⟩ 0 x.length (x.length + 1)
      rw [length_partsBetween]
      omega
noncomputable def rSplit : V → List V → Hp → VK → Prop := fun x vs H Q => ∃ z c, x = .str z ∧ vs = [.str ⟨#[c]⟩] ∧ z.length + 2 ≤ sizeLine ∧ ∀ p, H p = none → Q (.ref p) (upd H p (.lst ((Txt.split z ⟨#[c]⟩).map V.str)))
theorem mt_split : MtR X "str.split" rSplit := by
  intro pins s σ H x vs v us Q I rx rv h
  obtain ⟨z, c, rfl, rfl, hz, q⟩ := h
  obtain ⟨t, rfl⟩ := rx
  obtain ⟨u0, rfl, ru⟩ := rv.one
  obtain ⟨u, rfl⟩ := ru
  have hy : ((⟨#[c]⟩ : Str).length == 0) = false := rfl
  have fin : ∀ (l : List (Str × Tok)) (tk : Nat), l.map (·.1) = Txt.split z ⟨#[c]⟩ → EP X pins σ Q (.ref s.heap.objs.size) { s with heap := s.heap.push { cls := .type "list", data := .seq (strValues l).toArray }, toks := tk } := fun l tk e => by
    have rv := vals_strs l
    rw [e] at rv
    refine ⟨.ref s.heap.objs.size, _, I.lnew rv ?_, rfl, q _ I.fresh⟩
    rw [List.length_map]
    have := split_le z c
    omega
  have hn : (Builtin.Str.partsBetween z (Builtin.Str.occurrences z ⟨#[c]⟩ 0 z.length (z.length + 1)) (⟨#[c]⟩ : Str).length).length ≤ sizeLine := by
    have e1 := StrLaws.occ_length_le z ⟨#[c]⟩ 0 z.length (z.length + 1)
    rw [length_partsBetween]
    omega
  cases h1 : (decide (z.length < (⟨#[c]⟩ : Str).length) || decide (Builtin.Str.strKind z < Builtin.Str.strKind ⟨#[c]⟩))
  · cases hf : (Builtin.Str.occurrences z ⟨#[c]⟩ 0 z.length (z.length + 1)).isEmpty
    · refine call_meets F.slot_str_split (typeIs_str _ _ _) F.entry_str_split (F.args_str_split_2 _ _) (meets_str_split_sep z ⟨#[c]⟩ t u h1 hy hf (by omega) hn) ?_
      show wants (EP X pins σ Q) X.xe _ { s with toks := _, heap := s.heap.push { cls := .type "list", data := .seq (strsFrom s.toks (Builtin.Str.partsBetween z (Builtin.Str.occurrences z ⟨#[c]⟩ 0 z.length (z.length + 1)) (⟨#[c]⟩ : Str).length)).toArray } }
      rw [strsFrom_eq]
      exact fin (numbered s.toks _) _ ((numbered_texts _ _).trans ((if_neg (ne_true_of_eq_false h1)).trans (if_neg (ne_true_of_eq_false hf))).symm)
    · exact call_meets F.slot_str_split (typeIs_str _ _ _) F.entry_str_split (F.args_str_split_2 _ _) (meets_str_split_not_found z ⟨#[c]⟩ t u h1 hy hf)
        (fin [(z, t)] s.toks ((if_neg (ne_true_of_eq_false h1)).trans (if_pos hf)).symm)
  · exact call_meets F.slot_str_split (typeIs_str _ _ _) F.entry_str_split (F.args_str_split_2 _ _) (meets_str_split_cannot_occur z ⟨#[c]⟩ t u h1)
      (fin [(z, t)] s.toks (if_pos h1).symm)
noncomputable def rJoin (K : PySem.W.Frag) : V → List V → Hp → VK → Prop := fun x vs H Q => ∃ sep l ts, x = .str sep ∧ vs = [.ref l] ∧ SqL K H l (ts.map V.str) ∧ JoinOk sep ts = true ∧ Q (.str (Txt.join sep ts)) H
theorem mt_join : MtR X "str.join" (rJoin X.K) := by
  intro pins s σ H x vs v us Q I rx rv h
  obtain ⟨sep, l, ts, rfl, rfl, hl, hj, q⟩ := h
  obtain ⟨t, rfl⟩ := rx
  obtain ⟨u0, rfl, ru⟩ := rv.one
  cases (show u0 = Value.ref l from ru)
  obtain ⟨its, r, p, hz⟩ := I.list hl
  obtain ⟨ll, rfl, e⟩ := strs_vals ts its r
  exact SC.join p.isList e hj fun t' k => ⟨.str _, H, I.tok k, ⟨t', rfl⟩, q⟩
noncomputable def rSlS : V → Option Int → Option Int → Hp → VK → Prop := fun x lo hi H Q => ∃ z, x = .str z ∧ z.length ≤ sizeLine ∧ Q (.str (Txt.slice z lo hi)) H
theorem sl_str : SlR X rSlS := by
  intro pins s σ H x v vl vu lo hi sl Q I rx hs pl pu h
  obtain ⟨z, rfl, hz, q⟩ := h
  obtain ⟨t, rfl⟩ := rx
  refine ⟨"str", _, F.slot_str_getitem.lookup, typeIs_str _ _ _, ?_⟩
  have fin : ∀ t' k, EP X pins σ Q (.str (Txt.slice z lo hi) t') { s with toks := k } := fun t' k => ⟨.str _, H, I.tok k, ⟨t', rfl⟩, q⟩
  have hle := Nat.le_trans (Txt.slice_le z lo hi) hz
  cases pl with
  | none =>
    cases pu with
    | none => exact wpAny_getItem_str_slice (l := none) (u := none) (st := none) hs rfl (post_val_or_str ⟨hle, fin⟩)
    | int j tj => exact wpAny_getItem_str_slice (l := none) (u := some (j, tj)) (st := none) hs rfl (post_val_or_str ⟨hle, fin⟩)
  | int i ti =>
    cases pu with
    | none => exact wpAny_getItem_str_slice (l := some (i, ti)) (u := none) (st := none) hs rfl (post_val_or_str ⟨hle, fin⟩)
    | int j tj => exact wpAny_getItem_str_slice (l := some (i, ti)) (u := some (j, tj)) (st := none) hs rfl (post_val_or_str ⟨hle, fin⟩)
theorem call_int_str : CallR X (.type "int") (fun xs H Q => ∃ z n, xs = [.str z] ∧ intText? z = some n ∧ z.length ≤ 640 ∧ Q (.int n) H) := by
  intro pins s σ H xs us Q I r h
  obtain ⟨z, n, rfl, hn, hl, q⟩ := h
  obtain ⟨u, rfl, ru⟩ := r.one
  obtain ⟨t, rfl⟩ := ru
  exact PySem.W.KIN.call_text hn hl ⟨.int n, H, I.tok _, ⟨_, rfl⟩, q⟩
theorem call_isi (c : V) (cu : Value) (rc : RelV c cu) (huniq : ∀ u, RelV c u → u = cu) : CallR X (.builtin "isinstance") (fun xs H Q => ∃ x t b, xs = [x, c] ∧ TyOf X.K H x t ∧ PySem.W.kitOne X.K t cu = some b ∧ Q (.bl b) H) := by
  intro pins s σ H xs us Q I r h
  obtain ⟨x, t, b, rfl, ty, e, q⟩ := h
  obtain ⟨u, w', rfl, ru, rw'⟩ := r.two
  obtain rfl := huniq w' rw'
  exact isinst_ok I ru ty e fun tk => ⟨.bl b, H, I.tok tk, rfl, q⟩
theorem bools_vals : ∀ (bs : List Bool) (us : List Value), Vals (bs.map V.bl) us → us = bs.map Value.bool
  | [], us, r => by cases r; rfl
  | b :: bs, us, r => by
    cases r with
    | cons r1 r2 => rw [bools_vals bs _ r2, show _ = Value.bool b from r1]; rfl
theorem range_allB (bs : List Bool) : ((List.range bs.length).all fun i => (bs[i]?).getD true) = bs.all id := by
  (rw [Bool.eq_iff_iff, List.all_eq_true, List.all_eq_true])
  constructor
  · intro h b hb
    obtain ⟨i, hi, e⟩ := List.mem_iff_getElem.mp hb
    have q := h i (List.mem_range.mpr hi)
    rw [List.getElem?_eq_getElem hi, Option.getD_some, e] at q
    exact q
  · intro h i hi
    (have hi' := List.mem_range.mp hi)
    rw [List.getElem?_eq_getElem hi', Option.getD_some]
    (exact h _ (List.getElem_mem hi'))
theorem kept_it {h h' : Heap} {o : Obj} (hk : ∀ b x, b ∉ [h.objs.size] → (h.push o).get? b = some x → h'.get? b = some x) : ∀ b x, h.get? b = some x → h'.get? b = some x :=
  fun c o e => hk c o (fun hm => by rw [List.mem_singleton.mp hm] at e; exact Nat.lt_irrefl _ (Heap.lt_size e)) (Heap.get?_push_of_some _ e)
theorem call_all (hc : X.calm = true) : CallR X (.builtin "all") (fun xs H Q => ∃ (l : Addr) (bs : List Bool), xs = [.ref l] ∧ SqL X.K H l (bs.map V.bl) ∧ Q (.bl (bs.all id)) H) := by
  intro pins s σ H xs us Q I r h
  obtain ⟨l, bs, rfl, hl, q⟩ := h
  obtain ⟨u, rfl, ru⟩ := r.one
  cases (show u = Value.ref l from ru)
  obtain ⟨its, rv, p, hz⟩ := I.list hl
  have ei := bools_vals bs its rv
  have hlt : l < s.heap.objs.size := by obtain ⟨_, e, _⟩ := p.isList; exact Heap.lt_size e
  refine call_all_walk (wpAny_pyIter_list p.isList ?_)
  refine ⟨s.heap.objs.size, [s.heap.objs.size, l], [s.heap.objs.size], its.toArray.size, _, _, fun i => (bs[i]?).getD true, rfl, Walks.list (A := X.A.in1) (I.ok.hd hc) _ l (Nat.ne_of_lt hlt) its.toArray,
    ⟨⟨_, Heap.get?_push_size _ rfl, rfl, rfl⟩, p.isList.push _⟩, fun i v s' Q' E' hP hQ => ?_, fun h' tk hk => ?_⟩
  · have hP' : its[i]? = some v := by simpa using hP
    rw [ei, List.getElem?_map] at hP'
    cases e : bs[i]? with
    | none => rw [e] at hP'; cases hP'
    | some b =>
      rw [e] at hP'
      cases hP'
      (simp only [e, Option.getD_some] at hQ)
      exact wpAny_truthy_bool hQ
  · have e : ((List.range its.toArray.size).all fun i => (bs[i]?).getD true) = bs.all id := by
      rw [List.size_toArray, ← rv.length, List.length_map]
      exact range_allB bs
    rw [e]
    exact ⟨.bl _, H, I.kept (t' := tk) (kept_it hk), rfl, q⟩
noncomputable def fmtV : V → Option Str
  | .int i => if i.natAbs.log2 < 1920 then some (toString i : String) else none
  | .str x => some x
  | .non => some ("None" : String)
  | _ => none
noncomputable def tFmt (te : TE) : TE := fun σ H Q => te σ H fun x H1 => ∃ z, fmtV x = some z ∧ z.length ≤ sizeLine ∧ Q (.str z) H1
theorem pe_fmt {e : Expr} {te : TE} {pos : Pos} (h : PE X e te) : PE X (.FormattedValue e (-1) none pos) (tFmt te) := by
  intro pins s σ H Q I hw
  refine PyProof.Rows.FormattedValue_plain (thn (h pins s σ H _ I hw) fun v s1 ⟨x, H1, I1, r1, z, e1, hz, q⟩ => ?_)
  have fin : ∀ t' k, EP X pins σ Q (.str z t') { s1 with toks := k } := fun t' k => ⟨.str _, H1, I1.tok k, ⟨t', rfl⟩, q⟩
  cases x with
  | int i =>
    obtain ⟨t, rfl⟩ := r1
    unfold fmtV at e1
    simp only at e1
    split at e1
    · rename_i hl
      cases e1
      exact PyProof.Rows.formatField_int_small hl (fin _ _)
    · cases e1
  | str y =>
    obtain ⟨t, rfl⟩ := r1
    cases e1
    exact PyProof.Rows.formatField_str (fun t' k => fin t' k) hz
  | non =>
    cases (show v = Value.none from r1)
    cases e1
    exact wpAny_formatField_none (fin _ _)
  | _ => cases e1
noncomputable def tJoin : List TE → Str → TE
  | [], acc => fun _ H Q => Q (.str acc) H
  | t :: r, acc => fun σ H Q => t σ H fun x H1 => ∃ z, x = .str z ∧ (acc ++ z).length ≤ sizeLine ∧ tJoin r (acc ++ z) σ H1 Q
noncomputable def PEs (X : Cx) : List Expr → List TE → Prop := Paired (PE X)
theorem join_parts : ∀ {es : List Expr} {ts : List TE} (acc : Str) (pins : List (Addr × Obj)) (s : Shared) (σ : St) (H : Hp) (Q : VK), PEs X es ts → acc.length ≤ sizeLine → Inv X pins σ H s → tJoin ts acc σ H Q →
    wpAny (model X.prog X.w) X.A (joinParts acc (es.map fun e => eval e X.env)) (EP X pins σ Q) X.xe s
  | _, _, acc, pins, s, σ, H, Q, .nil, hz, I, h => PyProof.Rows.joinParts_nil ⟨.str acc, H, I.tok _, ⟨_, rfl⟩, h⟩ hz
  | _, _, acc, pins, s, σ, H, Q, .cons h1 h2, hz, I, h => by
    refine PyProof.Rows.joinParts_cons (thn (h1 pins s σ H _ I h) fun v s1 ⟨x, H1, I1, r1, z, e, hl, q⟩ => ?_)
    subst e
    obtain ⟨t, rfl⟩ := r1
    exact ⟨hl, join_parts (acc ++ z) pins s1 σ H1 Q h2 hl I1 q⟩
theorem evalEach_map (env : Env) : ∀ es : List Expr, evalEach es env = es.map fun e => eval e env
  | [] => rfl
  | e :: es => by
    have ih := evalEach_map env es
    show eval e env :: evalEach es env = _
    rw [ih, List.map_cons]
theorem pe_fstr {a b : Expr} {es : List Expr} {ts : List TE} {pos : Pos} (h : PEs X (a :: b :: es) ts) : PE X (.JoinedStr (a :: b :: es) pos) (tJoin ts Str.empty) := by
  intro pins s σ H Q I hw
  have q := join_parts (X := X) Str.empty pins s σ H Q h (by decide) I hw
  refine PyProof.Rows.JoinedStr_many ?_
  rw [evalEach_map]
  exact q
end
end L2
namespace L2
open PySem PySem.Spec PyProof.Rows
noncomputable def Its (x : Str) : It := ⟨fun i _ => i < x.cps.size, fun i H v H' => H' = H ∧ ∃ c, x.cps[i]? = some c ∧ v = .str ⟨#[c]⟩, fun i _ => x.cps.size ≤ i⟩
theorem turn_str {P : Program} {w : World} {K : PySem.W.Frag} {tg : Expr} (it : Addr) (x : Str) (t : Tok) {ty : String} (hty : ty = "str_ascii_iterator" ∨ ty = "str_iterator") : Turn P w K tg (Its x) [it] it (fun i h => i ≤ x.cps.size ∧ h.IsStrIter it ty x t i) where
  mem := by simp
  obj := fun i h st b hb => by
    have e : b = it := by simpa using hb
    subst e
    obtain ⟨_, o, e, c, d⟩ := st
    exact ⟨o, e, fun v z => by rw [d] at z; cases z⟩
  keep := fun i h h' st k => ⟨st.1, let ⟨o, ho, r⟩ := st.2; ⟨o, k it (by simp) o ho, r⟩⟩
  item := by
    intro X hP hw hK hc i pins s σ H E I hf st hg
    subst hP hw hK
    obtain ⟨f0, f1, f2, f3, f4, f5⟩ := hf it (by simp)
    have go : ∀ {W : Walks X.prog X.w X.A it [it] [it] x.cps.size (SignAt x) (fun i h => h.IsStrIter it ty x t i)}, wpAny (model X.prog X.w) X.A (pyNext (.ref it)) (fun r s1 => ∃ u, r = some u ∧
      wpAny (model X.prog X.w) X.A (letOwnedTupleGo tg (.ref it) u) (fun _ s2 => ∃ v H', Inv X pins σ H' s2 ∧ RelV v u ∧ (Its x).yld i H v H' ∧ (i + 1 ≤ x.cps.size ∧ s2.heap.IsStrIter it ty x t (i + 1)) ∧ ∀ b ∈ [it], H' b = none) E s1) E s := fun {W} => by
      refine W.item i s _ _ hg st.2 fun v h' tk hv st' kk => ?_
      obtain ⟨c, u, ec, rfl⟩ := hv
      have I1 : Inv X pins σ H { s with heap := h', toks := tk } := I.turned (fun b o hb e => kk b o (by simpa using hb) e) f0 f1 f3 f4 f5
      obtain ⟨o, e, cc, d⟩ := id st'
      refine ⟨_, rfl, go_of (s := { s with heap := h', toks := tk }) e cc d ?_ ⟨.str ⟨#[c]⟩, H, I1, ⟨u, rfl⟩, ⟨rfl, c, ec, rfl⟩, ⟨hg, st'⟩, fun b hb => (hf b hb).1⟩⟩
      rcases hty with rfl | rfl <;> decide
    rcases hty with rfl | rfl
    · exact go (W := Walks.strAscii (I.ok.hd hc) it x t)
    · exact go (W := Walks.strWide (I.ok.hd hc) it x t)
  done := by
    intro X hP hw hK hc i pins s σ H E I hf st hg
    subst hP hw hK
    obtain ⟨f0, f1, f2, f3, f4, f5⟩ := hf it (by simp)
    obtain rfl : i = x.cps.size := Nat.le_antisymm st.1 hg
    rcases hty with rfl | rfl
    · exact (Walks.strAscii (prog := X.prog) (w := X.w) (I.ok.hd hc) it x t).done s _ _ st.2 fun h' tk kk => ⟨rfl, I.turned (fun b o hb e => kk b o (by simpa using hb) e) f0 f1 f3 f4 f5⟩
    · exact (Walks.strWide (prog := X.prog) (w := X.w) (I.ok.hd hc) it x t).done s _ _ st.2 fun h' tk kk => ⟨rfl, I.turned (fun b o hb e => kk b o (by simpa using hb) e) f0 f1 f3 f4 f5⟩
  self := fun A i s Q E st h => by
    rcases hty with rfl | rfl
    · exact wpAny_pyIter_striter_ascii st.2 h
    · exact wpAny_pyIter_striter_wide st.2 h
section
variable {X : Cx} {tg : Expr}
noncomputable def iStr (tl : TE) : TI := fun σ H R => tl σ H fun v H1 => ∃ x, v = .str x ∧ R (Its x) H1
theorem pi_str {l : Expr} {tl : TE} (hl : PE X l tl) : PI X tg l (iStr tl) := by
  intro pins s σ H R I h
  refine thn (hl pins s σ H _ I h) fun v s1 ⟨y, H1, I1, r1, q1⟩ => ?_
  obtain ⟨x, e, q⟩ := q1
  subst e
  obtain ⟨t, rfl⟩ := r1
  have fin : ∀ (o : Obj) (ty : String), (ty = "str_ascii_iterator" ∨ ty = "str_iterator") → (s1.heap.push o).IsStrIter s1.heap.objs.size ty x t 0 → PIE X pins σ tg R (.ref s1.heap.objs.size) { s1 with heap := s1.heap.push o } := fun o ty hty hit => by
    refine ⟨s1.heap.objs.size, [s1.heap.objs.size], _, _, H1, rfl, I1.kept (t' := s1.toks) fun b o e => Heap.get?_push_of_some _ e, turn_str _ x t hty, ⟨Nat.zero_le _, hit⟩, fun b hb => ?_, q⟩
    have e : b = s1.heap.objs.size := by simpa using hb
    subst e
    exact I1.fpOk (Nat.le_refl _) (I1.hok.fresh (Nat.le_refl _))
  (cases ha : x.cps.all (· < 128))
  · exact wpAny_pyIter_wide ha (fin _ _ (.inr rfl) ⟨_, Heap.get?_push_size _ rfl, rfl, rfl⟩)
  · exact wpAny_pyIter_ascii ha (fin _ _ (.inl rfl) ⟨_, Heap.get?_push_size _ rfl, rfl, rfl⟩)
end
end L2
namespace L2
open PySem PySem.Spec PyProof.Rows
structure FnAt (P : Program) (w : World) (K : PySem.W.Frag) (mg : Str → Option Value) (base : Heap) (x : Str) (k : Nat) (ps : List Str) (sp : Sp) : Prop where
  ex : ∃ (f : Addr) (fd : FuncData), FnOk P w K mg base CX0 k f fd ps sp ∧ mg x = some (.ref f) ∧ PySem.W.keepIn K (.ref f) = true ∧ Binds K fd ps []
structure MeAt (P : Program) (w : World) (K : PySem.W.Frag) (mg : Str → Option Value) (base : Heap) (C : Addr) (m : Str) (k : Nat) (ps : List Str) (sp : Sp) : Prop where
  ex : ∃ (f : Addr) (fd : FuncData), FnOk P w K mg base CX0 k f fd ps sp ∧ Meth K C m f ∧ Binds K fd ps []
  cl : Cls K C
structure MkAt (P : Program) (w : World) (K : PySem.W.Frag) (mg : Str → Option Value) (base : Heap) (x : Str) (C : Addr) (k : Nat) (ps : List Str) (sp : Sp) : Prop where
  ex : ∃ (f : Addr) (fd : FuncData), FnOk P w K mg base CX0 k f fd ps sp ∧ Mk K C f ∧ mg x = some (.ref C) ∧ Binds K fd ps []
section
variable {X : Cx} {x m : Str} {j n : Nat} {ps : List Str} {sp : Sp} {C : Addr} {e o : Expr} {es : List Expr} {ta : TE} {t : TA} {p pos apos : Pos}
theorem pe_fn (G : FnAt X.prog X.w X.K X.mg X.base x j ps sp) (hr : Room n X.A) (ha : PA X (e :: es) t) (hj : j ≤ n := by decide) (hg : Gl X x := by rfl) (hdb : (x == ("__debug__" : Str)) = false := by decide)
    (he : starEach (e :: es) X.env = (false, eval e X.env) :: starEach es X.env := by rfl) (hpl : (backTo pos (starEach es X.env)).any (·.1) = false := by rfl) : PE X (.Call (.Name x p) (e :: es) [] pos) (tCall sp [] E0 t) := by
  obtain ⟨f, fd, F, hm, hk, hb⟩ := G.ex
  exact pe_call F (hr.mono hj) hg hm hk hb .nil pass0 ha hdb he hpl
theorem pe_me {pl : Sem Bool} (G : MeAt X.prog X.w X.K X.mg X.base C m j ps sp) (hr : Room n X.A) (ho : PE X o ta) (ha : PA X (e :: es) t) (hj : j ≤ n := by decide)
    (hst : starEach (e :: es) X.env = (false, eval e X.env) :: starEach es X.env := by rfl) (hpl : (backTo pos (starEach es X.env)).any (·.1) = false := by rfl)
    (ht : eval (.Call (.Attribute o m apos) (e :: es) [] pos) X.env = (do
      let ov ← eval o X.env
      standAt apos.atName
      let (f, first) ← holding [ov] (getMethod ov m pl)
      callWith pos f first (backTo pos (starEach (e :: es) X.env)) (backToKw pos (keywordEach [] X.env))) := by rfl) : PE X (.Call (.Attribute o m apos) (e :: es) [] pos) (tMeth C m sp [] E0 ta t) := by
  obtain ⟨f, fd, F, hm, hb⟩ := G.ex
  exact pe_meth ho G.cl hm F (hr.mono hj) hb .nil pass0 ha hst hpl ht
theorem pe_me0 {pl : Sem Bool} (G : MeAt X.prog X.w X.K X.mg X.base C m j ps sp) (hr : Room n X.A) (ho : PE X o ta) (hj : j ≤ n := by decide)
    (ht : eval (.Call (.Attribute o m apos) [] [] pos) X.env = (do
      let ov ← eval o X.env
      standAt apos.atName
      let (f, first) ← holding [ov] (getMethod ov m pl)
      callWith pos f first (backTo pos (starEach [] X.env)) (backToKw pos (keywordEach [] X.env))) := by rfl) : PE X (.Call (.Attribute o m apos) [] [] pos) (tMeth C m sp [] E0 ta tNil) := by
  obtain ⟨f, fd, F, hm, hb⟩ := G.ex
  exact pe_meth0 ho G.cl hm F (hr.mono hj) hb .nil pass0 ht
theorem pe_mk (G : MkAt X.prog X.w X.K X.mg X.base x C j ps sp) (hr : Room n X.A) (ha : PA X (e :: es) t) (hj : j + 1 ≤ n := by decide) (hg : Gl X x := by rfl) (hdb : (x == ("__debug__" : Str)) = false := by decide)
    (he : starEach (e :: es) X.env = (false, eval e X.env) :: starEach es X.env := by rfl) (hpl : (backTo pos (starEach es X.env)).any (·.1) = false := by rfl) : PE X (.Call (.Name x p) (e :: es) [] pos) (tMake C sp [] E0 t) := by
  obtain ⟨f, fd, F, M, hm, hb⟩ := G.ex
  exact pe_make M F (hr.mono hj) hg hm hb .nil pass0 ha hdb he hpl
end
theorem capsOf_cons (j : Nat) (js : List Nat) (σ : St) : capsOf (j :: js) σ = (σ[j]?).join :: capsOf js σ := rfl
theorem DenL.length {K : PySem.W.Frag} {H : Hp} : ∀ {vs : List V} {ds : List PyData}, DenL K H vs ds → vs.length = ds.length
  | _, _, .nil => rfl
  | _, _, .cons _ r => by rw [List.length_cons, List.length_cons, DenL.length r]
theorem DenL.get {K : PySem.W.Frag} {H : Hp} : ∀ {vs : List V} {ds : List PyData} {i : Nat} {d : PyData}, DenL K H vs ds → ds[i]? = some d → ∃ v, vs[i]? = some v ∧ Den K H v d
  | _, _, _, _, .nil, e => by simp at e
  | _, _, 0, _, .cons h _, e => by simp at e; subst e; exact ⟨_, rfl, h⟩
  | _, _, i + 1, d, .cons _ r, e => by
    obtain ⟨v, h1, h2⟩ := DenL.get (i := i) (d := d) r (by simpa using e)
    exact ⟨v, by simpa using h1, h2⟩
theorem DenL.append {K : PySem.W.Frag} {H : Hp} : ∀ {vs ws : List V} {ds es : List PyData}, DenL K H vs ds → DenL K H ws es → DenL K H (vs ++ ws) (ds ++ es)
  | _, _, _, _, .nil, s => s
  | _, _, _, _, .cons h r, s => .cons h (DenL.append r s)
theorem DenL.strs {K : PySem.W.Frag} {H : Hp} : ∀ ts : List Str, DenL K H (ts.map V.str) (ts.map PyData.str)
  | [] => .nil
  | x :: ts => .cons (.str x) (DenL.strs ts)
end L2
namespace L2
open PySem PySem.Spec PyProof.Rows
theorem b_isinstance : bootBuiltins "isinstance" = some (.builtin "isinstance") := by decide +kernel
theorem b_str : bootBuiltins "str" = some (.type "str") := by decide +kernel
theorem b_int : bootBuiltins "int" = some (.type "int") := by decide +kernel
theorem b_bool : bootBuiltins "bool" = some (.type "bool") := by decide +kernel
theorem b_tuple : bootBuiltins "tuple" = some (.type "tuple") := by decide +kernel
end L2
namespace L2
open PySem PySem.Spec PyProof.Rows
noncomputable def slotOk (sc : Scope) (N : List Str) (i : Nat) (x : Str) (b : Bool) : Bool := N[i]? == some x && sc.names.lookup x == some (if b then .cell else .local) && !(x == ("__debug__" : Str)) && !(x == ("__classdict__" : Str))
noncomputable def freeOk (sc : Scope) (N : List Str) (i : Nat) (x : Str) : Bool := N[i]? == some x && (sc.names.lookup x == some .cell || sc.names.lookup x == some .free) && !(x == ("__debug__" : Str)) && !(x == ("__classdict__" : Str))
noncomputable def glOk (sc : Scope) (x : Str) : Bool := sc.names.lookup x == some .globalImplicit && !(x == ("__debug__" : Str)) && !(x == ("__name__" : Str))
noncomputable def relabelS (scope osc : Scope) : Scope :=
  { scope with names := scope.names.map fun (n, k) => if (k == .free && osc.kind == .function && osc.names.lookup n == some .cell) then (n, .cell) else (n, k) }
section
variable {X : Cx} {sc : Scope} {N : List Str} {i : Nat} {x : Str} {b : Bool} {pos : Pos}
theorem slotOk.at (h : slotOk sc N i x b = true) : N[i]? = some x ∧ sc.names.lookup x = some (if b then .cell else .local) ∧ (x == ("__debug__" : Str)) = false ∧ (x == ("__classdict__" : Str)) = false := by
  unfold slotOk at h
  (simp only [Bool.and_eq_true, Bool.not_eq_true'] at h)
  exact ⟨eq_of_beq h.1.1.1, eq_of_beq h.1.1.2, h.1.2, h.2⟩
theorem slotOk.loc (h : slotOk sc N i x b = true) : Loc sc x := by
  have q := (slotOk.at h).2.1
  cases b
  · exact .inl q
  · exact .inr q
theorem pvs (h : slotOk sc N i x b = true) (e1 : X.env.scope = sc := by rfl) (e2 : X.N = N := by rfl) : PE X (.Name x pos) (tVar i) := by
  obtain ⟨h1, h2, h3, h4⟩ := slotOk.at h
  have l := slotOk.loc h
  subst e1 e2
  refine pe_var h1 ?_ h3 h4
  rcases l with l | l
  · exact .inl l
  · exact .inr (.inl l)
theorem pvf (h : freeOk sc N i x = true) (e1 : X.env.scope = sc := by rfl) (e2 : X.N = N := by rfl) : PE X (.Name x pos) (tVar i) := by
  unfold freeOk at h
  simp only [Bool.and_eq_true, Bool.not_eq_true', Bool.or_eq_true] at h
  subst e1 e2
  refine pe_var (eq_of_beq h.1.1.1) ?_ h.1.2 h.2
  rcases h.1.1.2 with l | l
  · exact .inr (.inl (eq_of_beq l))
  · exact .inr (.inr (eq_of_beq l))
theorem glk (h : glOk sc x = true) (e1 : X.env.scope = sc := by rfl) : Gl X x := by
  unfold glOk at h
  (simp only [Bool.and_eq_true] at h)
  subst e1
  exact eq_of_beq h.1.1
theorem dbk (h : glOk sc x = true) : (x == ("__debug__" : Str)) = false := by
  unfold glOk at h
  (simp only [Bool.and_eq_true, Bool.not_eq_true'] at h)
  exact h.1.2
theorem nmk (h : glOk sc x = true) : x ≠ "__name__" := by
  unfold glOk at h
  (simp only [Bool.and_eq_true, Bool.not_eq_true'] at h)
  intro e
  have := h.2
  rw [e, beq_self_eq_true] at this
  cases this
theorem pg_names (h : slotOk sc N i x b = true) (nd : N.Nodup) (e1 : X.env.scope = sc := by rfl) (e2 : X.N = N := by rfl) (hf : X.fn x = true ∨ b = false := by first | exact .inl rfl | exact .inr rfl) : PG X (.Name x pos) (gName i) := by
  obtain ⟨h1, h2, h3, h4⟩ := slotOk.at h
  have l := slotOk.loc h
  subst e1 e2
  refine pg_name nd h1 l ?_
  rcases hf with q | q
  · exact .inl q
  · subst q
    exact .inr h2
noncomputable def swapOk (osc scope : Scope) (x : Str) : Bool := osc.kind == .function && osc.names.lookup x == some .local && !(scope.names.any fun (n, k) => n == x && (k == .local || k == .cell))
theorem swaps_true {elt : Expr} {gens : List Comprehension} {scope osc : Scope} {pos' : Pos} {line : Nat} {env : Env} (h : swapOk osc scope x = true) (hl : (pos'.line == pos.line) = true) (e : env.scope = osc) :
    swapsWith (.ListComp elt gens scope pos) (some (.Name x pos')) line env = pure true := by
  subst e
  unfold swapOk at h
  (simp only [Bool.and_eq_true, Bool.not_eq_true'] at h)
  obtain ⟨⟨h1, h2⟩, h3⟩ := h
  show (pure (env.blockKind == .function && env.kindOf x == some .local && pos'.line == pos.line && !(scope.names.any fun (n, k) => n == x && (k == .local || k == .cell))) : Sem Bool) = pure true
  have hb : (env.blockKind == ScopeKind.function) = true := by
    unfold Env.blockKind
    rw [eq_of_beq h1]
    rfl
  have hk : (env.kindOf x == some NameKind.local) = true := h2
  rw [hb, hk, hl, h3]
  rfl
theorem ps_setcs {elt tg iter : Expr} {ifs : List Expr} {scope : Scope} {spos pos' : Pos} {k : Nat} {js : List Nat} {N' : List Str} {wi : TI} {g : TG} {tif : TT} {te : TE}
    (h : slotOk sc N i x false = true) (nd : N.Nodup) (hw : swapOk sc scope x = true)
    (hc : X.calm = true) (S : CompScope X k js N' scope) (hit : PI X tg iter wi)
    (hin : ∀ (cl : List (Str × Addr)) (C : Addr) (s₀ : Shared) (H₀ : Hp) (ex : List Addr), PG (cxC X N' scope cl C s₀ H₀ ex) tg g ∧ PIf (cxC X N' scope cl C s₀ H₀ ex) ifs tif ∧ PE (cxC X N' scope cl C s₀ H₀ ex) elt te)
    (hl : (pos'.line == pos.line) = true := by rfl) (e1 : X.env.scope = sc := by rfl) (e2 : X.N = N := by rfl)
    (hs : ∀ x, foldedSetIterable iter X.env x = pure x := by intro _; rfl) : PS X (.Assign [.Name x pos'] (.ListComp elt [⟨tg, iter, ifs, 0⟩] scope pos) spos) (tAsg (tComp k js wi g tif te) (gName i)) := by
  obtain ⟨h1, h2, h3, h4⟩ := slotOk.at h
  have l := slotOk.loc h
  have w := fun (e : X.env.scope = sc) => swaps_true (elt := elt) (gens := [⟨tg, iter, ifs, 0⟩]) (pos := pos) (line := spos.line) hw hl e
  have w1 := w e1
  subst e1 e2
  exact ps_setc nd h1 l hc S hit hin w1 (.inr h2) hs
end
end L2
namespace L2
open PySem
section
variable {A : Around} {M : Model} {s : Shared} {E : Value → Shared → Prop}
end
section
variable {prog : Program} {w : World} {A : Around} {E : Value → Shared → Prop} {s : Shared}
end
end L2
namespace L2
open PySem PySem.Spec
section
variable {X : Cx} {pins : List (Addr × Obj)} {σ : St} {H : Hp} {s : Shared} {h' : Heap}
end
section
variable {X : Cx} {es : List Expr} {k1 : Nat} {l ke : Expr} {t : TA} {p pos q kp : Pos} {c : Int}
end
end L2
namespace L2
open PySem PySem.Spec
section
variable {X : Cx} {es : List Expr} {k1 : Nat} {l r : Expr} {t : TA} {p pos q : Pos}
end
end L2
namespace T
open PySem L2
inductive Kd where
  | lst | frl | tup | ftp | dic (ks : List Key) | ins (C : Addr) (fs : List Str)
  deriving DecidableEq
inductive D where
  | sc (v : V) | hole | node (k : Kd) (o : Bool) (ds : List D)
mutual
noncomputable def shr : D → D
  | .sc v => .sc v
  | .hole => .hole
  | .node k _ ds => .node k false (shrL ds)
noncomputable def shrL : List D → List D
  | [] => []
  | d :: ds => shr d :: shrL ds
end
noncomputable def NodeR (K : PySem.W.Frag) (H : Hp) (a : Addr) (vs : List V) : Kd → Prop
  | .lst => H a = some (.lst vs)
  | .frl => SqL K H a vs
  | .tup => H a = some (.tup vs)
  | .ftp => SqT K H a vs
  | .dic ks => ks.length = vs.length ∧ H a = some (.dK (ks.zip vs))
  | .ins C fs => fs.length = vs.length ∧ ∃ dx, H a = some (.ins C dx (fs.zip vs))
noncomputable def NodeO (H : Hp) (a : Addr) (vs : List V) : Kd → Prop
  | .lst => H a = some (.lst vs)
  | .frl => False
  | .tup => H a = some (.tup vs)
  | .ftp => False
  | .dic ks => ks.length = vs.length ∧ H a = some (.dK (ks.zip vs))
  | .ins C fs => fs.length = vs.length ∧ ∃ dx, H a = some (.ins C dx (fs.zip vs))
theorem NodeO.r {K : PySem.W.Frag} {H : Hp} {a : Addr} {vs : List V} {k : Kd} (h : NodeO H a vs k) : NodeR K H a vs k := by
  cases k with
  | lst => exact h
  | frl => exact h.elim
  | tup => exact h
  | ftp => exact h.elim
  | dic ks => exact h
  | ins C fs => exact h
theorem NodeO.at {H : Hp} {a : Addr} {vs : List V} {k : Kd} (h : NodeO H a vs k) : H a ≠ none := by
  cases k with
  | lst => rw [show H a = _ from h]; simp
  | frl => exact h.elim
  | tup => rw [show H a = _ from h]; simp
  | ftp => exact h.elim
  | dic ks => rw [h.2]; simp
  | ins C fs => obtain ⟨_, dx, e⟩ := h; rw [e]; simp
theorem NodeO.eq {H H' : Hp} {a : Addr} {vs : List V} {k : Kd} (h : NodeO H a vs k) (e : H' a = H a) : NodeO H' a vs k := by
  cases k with
  | lst => exact e.trans h
  | frl => exact h.elim
  | tup => exact e.trans h
  | ftp => exact h.elim
  | dic ks => exact ⟨h.1, e.trans h.2⟩
  | ins C fs => obtain ⟨l, dx, q⟩ := h; exact ⟨l, dx, e.trans q⟩
theorem Same.tupq' {K : PySem.W.Frag} {H H' : Hp} {a : Addr} {xs : List V} (e : Same H H') (h : SqT K H a xs) : SqT K H' a xs := by
  rcases h with (h | ⟨o, h⟩) | h
  · exact .inl (.inl (e _ _ h))
  · exact .inl (.inr ⟨o, e _ _ h⟩)
  · exact .inr h
theorem NodeR.same {K : PySem.W.Frag} {H H' : Hp} {a : Addr} {vs : List V} {k : Kd} (e : Same H H') (h : NodeR K H a vs k) : NodeR K H' a vs k := by
  cases k with
  | lst => exact e _ _ h
  | frl => exact e.seq h
  | tup => exact e _ _ h
  | ftp => exact Same.tupq' e h
  | dic ks => exact ⟨h.1, e _ _ h.2⟩
  | ins C fs => obtain ⟨l, dx, q⟩ := h; exact ⟨l, dx, e _ _ q⟩
noncomputable abbrev Bud := Addr → Nat
noncomputable def one (a : Addr) : Bud := fun b => if b = a then 1 else 0
mutual
inductive Rep (K : PySem.W.Frag) (H Hs : Hp) : V → D → Bud → Prop
  | sc (v : V) (m : Bud) : Rep K H Hs v (.sc v) m
  | hole (v : V) (m : Bud) : Rep K H Hs v .hole m
  | own {a : Addr} {k : Kd} {vs : List V} {ds : List D} {m m' : Bud} : NodeO H a vs k → RepL K H Hs vs ds m' → (∀ b, one a b + m' b ≤ m b) → Rep K H Hs (.ref a) (.node k true ds) m
  | shd {a : Addr} {k : Kd} {vs : List V} {ds : List D} {m : Bud} : NodeR K Hs a vs k → RepL K H Hs vs ds (fun _ => 0) → Rep K H Hs (.ref a) (.node k false ds) m
inductive RepL (K : PySem.W.Frag) (H Hs : Hp) : List V → List D → Bud → Prop
  | nil (m : Bud) : RepL K H Hs [] [] m
  | cons {v : V} {d : D} {vs : List V} {ds : List D} {m1 m2 m : Bud} : Rep K H Hs v d m1 → RepL K H Hs vs ds m2 → (∀ b, m1 b + m2 b ≤ m b) → RepL K H Hs (v :: vs) (d :: ds) m
end
structure Good (H Hs : Hp) (M : Bud) : Prop where
  sub : Same Hs H
  le : ∀ b, M b ≤ 1
  ne : ∀ b, M b = 1 → Hs b = none
  has : ∀ b, M b = 1 → H b ≠ none
structure Stp (H Hs : Hp) (M : Bud) (H' Hs' : Hp) (M' : Bud) : Prop where
  keep : ∀ b o, H b = some o → M b = 0 → H' b = some o
  own : ∀ b, M' b = 1 → M b = 1 ∨ H b = none
  grow : Same Hs Hs'
  shr : ∀ b, Hs b = none → Hs' b ≠ none → M b = 1 ∨ H b = none
  stay : ∀ b, H b ≠ none → H' b ≠ none
section
variable {K : PySem.W.Frag} {H Hs H' Hs' H1 Hs1 H2 Hs2 : Hp} {M M' M1 M2 m m1 m2 m' : Bud}
mutual
theorem Rep.mono : ∀ {v : V} {d : D} {m m' : Bud}, Rep K H Hs v d m → (∀ b, m b ≤ m' b) → Rep K H Hs v d m'
  | _, _, _, _, .sc v _, _ => .sc v _
  | _, _, _, _, .hole v _, _ => .hole v _
  | _, _, _, _, .own n r h, l => .own n r fun b => Nat.le_trans (h b) (l b)
  | _, _, _, _, .shd n r, _ => .shd n r
end
theorem RepL.mono {vs : List V} {ds : List D} {m m' : Bud} (h : RepL K H Hs vs ds m) (l : ∀ b, m b ≤ m' b) : RepL K H Hs vs ds m' := by
  cases h with
  | nil => exact .nil _
  | cons a b c => exact .cons a b fun x => Nat.le_trans (c x) (l x)
mutual
theorem Rep.frame (g : Same Hs Hs') : ∀ {v : V} {d : D} {m : Bud}, (∀ b, m b ≥ 1 → H b ≠ none → H' b = H b) → Rep K H Hs v d m → Rep K H' Hs' v d m
  | _, _, _, _, .sc v _ => .sc v _
  | _, _, _, _, .hole v _ => .hole v _
  | _, _, m, k, .own (a := a) (m' := m') n r h => by
    have h1 : m a ≥ 1 := by have := h a; simp only [one, if_pos] at this; omega
    refine .own (n.eq (k a h1 n.at)) (RepL.frame g (fun b hb hn => k b ?_ hn) r) h
    have := h b
    omega
  | _, _, _, k, .shd n r => .shd (n.same g) (RepL.frame g (fun b hb => absurd hb (by simp)) r)
theorem RepL.frame (g : Same Hs Hs') : ∀ {vs : List V} {ds : List D} {m : Bud}, (∀ b, m b ≥ 1 → H b ≠ none → H' b = H b) → RepL K H Hs vs ds m → RepL K H' Hs' vs ds m
  | _, _, _, _, .nil _ => .nil _
  | _, _, m, k, .cons (m1 := m1) (m2 := m2) x y h => by
    refine .cons (Rep.frame g (fun b hb => k b ?_) x) (RepL.frame g (fun b hb => k b ?_) y) h
    · have := h b; omega
    · have := h b; omega
end
theorem Good.drop (g : Good H Hs M) (l : ∀ b, M' b ≤ M b) : Good H Hs M' :=
  ⟨g.sub, fun b => Nat.le_trans (l b) (g.le b), fun b h => g.ne b (by have := l b; have := g.le b; omega), fun b h => g.has b (by have := l b; have := g.le b; omega)⟩
theorem Stp.drop (s : Stp H Hs M H' Hs' M1) (l : ∀ b, M2 b ≤ M1 b) (le : ∀ b, M1 b ≤ 1) : Stp H Hs M H' Hs' M2 :=
  ⟨s.keep, fun b h => s.own b (by have := l b; have := le b; omega), s.grow, s.shr, s.stay⟩
theorem Stp.refl (H Hs : Hp) (M : Bud) : Stp H Hs M H Hs M := ⟨fun _ _ h _ => h, fun _ h => .inl h, Same.refl _, fun _ h h' => absurd h h', fun _ h => h⟩
theorem step2 (g : Good H Hs M) (g1 : Good H1 Hs1 (fun b => m1 b + M1 b)) (s1 : Stp H Hs M H1 Hs1 (fun b => m1 b + M1 b)) (g2 : Good H2 Hs2 M2) (s2 : Stp H1 Hs1 M1 H2 Hs2 M2) :
    Good H2 Hs2 (fun b => m1 b + M2 b) ∧ Stp H Hs M H2 Hs2 (fun b => m1 b + M2 b) ∧ (∀ b, m1 b ≥ 1 → H1 b ≠ none → H2 b = H1 b) := by
  have d : ∀ b, m1 b = 1 → M2 b = 0 := fun b h => by
    have l1 : m1 b + M1 b ≤ 1 := g1.le b
    have l2 := g2.le b
    have : M2 b ≠ 1 := fun e => by
      rcases s2.own b e with q | q
      · omega
      · exact g1.has b (by show m1 b + M1 b = 1; omega) q
    omega
  have k1 : ∀ b, m1 b ≥ 1 → H1 b ≠ none → H2 b = H1 b := fun b h n => by
    have l1 : m1 b + M1 b ≤ 1 := g1.le b
    cases q : H1 b with
    | none => exact absurd q n
    | some o => exact s2.keep b o q (by omega)
  refine ⟨⟨g2.sub, fun b => ?_, fun b h => ?_, fun b h => ?_⟩, ⟨fun b o e z => ?_, fun b h => ?_, s1.grow.trans s2.grow, fun b n n' => ?_, fun b n => s2.stay b (s1.stay b n)⟩, k1⟩
  · have l1 : m1 b + M1 b ≤ 1 := g1.le b
    have l2 := g2.le b
    show m1 b + M2 b ≤ 1
    by_cases h : m1 b = 1
    · have := d b h; omega
    · omega
  · have h : m1 b + M2 b = 1 := h
    have l1 : m1 b + M1 b ≤ 1 := g1.le b
    by_cases h1 : m1 b = 1
    · cases q : Hs2 b with
      | none => rfl
      | some o =>
        have n1 : Hs1 b = none := g1.ne b (by show m1 b + M1 b = 1; omega)
        rcases s2.shr b n1 (by rw [q]; simp) with z | z
        · omega
        · exact absurd z (g1.has b (by show m1 b + M1 b = 1; omega))
    · exact g2.ne b (by omega)
  · have h : m1 b + M2 b = 1 := h
    have l1 : m1 b + M1 b ≤ 1 := g1.le b
    by_cases h1 : m1 b = 1
    · have n := g1.has b (by show m1 b + M1 b = 1; omega)
      rw [k1 b (by omega) n]; exact n
    · exact g2.has b (by omega)
  · have e1 := s1.keep b o e z
    have : ¬ (m1 b + M1 b = 1) := fun q => by
      rcases s1.own b q with w | w
      · omega
      · rw [e] at w; cases w
    have l1 : m1 b + M1 b ≤ 1 := g1.le b
    exact s2.keep b o e1 (by omega)
  · have h : m1 b + M2 b = 1 := h
    have l1 : m1 b + M1 b ≤ 1 := g1.le b
    by_cases h1 : m1 b = 1
    · exact s1.own b (by show m1 b + M1 b = 1; omega)
    · rcases s2.own b (by omega) with q | q
      · exact s1.own b (by show m1 b + M1 b = 1; omega)
      · cases w : H b with
        | none => exact .inr rfl
        | some o => exact absurd q (s1.stay b (by rw [w]; simp))
  · cases q : Hs1 b with
    | some o => exact s1.shr b n (by rw [q]; simp)
    | none =>
      rcases s2.shr b q n' with z | z
      · have l1 : m1 b + M1 b ≤ 1 := g1.le b
        exact s1.own b (by show m1 b + M1 b = 1; omega)
      · cases w : H b with
        | none => exact .inr rfl
        | some o => exact absurd z (s1.stay b (by rw [w]; simp))
end
end T
namespace T
open PySem L2
inductive Rs (α : Type) where
  | ok (a : α) | exc (x : D) (δ : List D) | stuck
noncomputable abbrev M (α : Type) := List D → Rs (α × List D)
noncomputable def M.ret {α : Type} (a : α) : M α := fun δ => .ok (a, δ)
noncomputable def M.bnd {α β : Type} (c : M α) (f : α → M β) : M β := fun δ => match c δ with
  | .ok (a, δ') => f a δ'
  | .exc x δ' => .exc x δ'
  | .stuck => .stuck
noncomputable def lift {α : Type} : Option α → M α
  | some a => M.ret a
  | none => fun _ => .stuck
noncomputable def stk {α : Type} : M α := fun _ => .stuck
inductive Ty where
  | int | bool | str | list | tuple | dict | own (C : Addr)
  deriving DecidableEq
inductive BF where
  | len | abs | str | int | bool | sum | min | max | list | tuple | all | any | sorted | isi (t : Ty) | dict | ord
  deriving DecidableEq
inductive BM where
  | split | join | get | index | count | find | replace | strip | startswith | endswith | isdigit | copy | lower | upper
  deriving DecidableEq
inductive MM where
  | append | extend | pop | popAt | reverse | clear | insert | update | popKey | remove
  deriving DecidableEq
inductive IK where
  | rng1 | rng2 | rng3 | val | valS | enum | zip | rev | items | values
  deriving DecidableEq
inductive Tg where
  | name (i : Nat) | tup (is : List Nat)
structure FI where
  lend : Bool
  run : List D → Rs (D × List D)
inductive E where
  | k (v : V)
  | g (d : D)
  | v (i : Nat)
  | bin (op : Operator) (a b : E)
  | neg (a : E)
  | cmp (op : CmpOp) (a b : E)
  | chain (op op' : CmpOp) (a b c : E)
  | isN (p : Bool) (a : E)
  | isB (c p : Bool) (a : E)
  | nt (a : E)
  | and (a b : E)
  | or (a b : E)
  | ife (c a b : E)
  | ix (a i : E)
  | sl (a lo hi : E)
  | fld (a : E) (f : Str)
  | lst (es : List E)
  | tup (es : List E)
  | kl (vs : List V)
  | kt (vs : List V)
  | dct0
  | call (f : FI) (es : List E)
  | bf (f : BF) (es : List E)
  | bm (m : BM) (o : E) (es : List E)
  | mut (m : MM) (i : Nat) (ps : List E) (es : List E)
  | meth (A : Addr) (m : Str) (f : FI) (o : E) (es : List E)
  | new (A : Addr) (f : FI) (es : List E)
  | comp (k : Nat) (js : List Nat) (tg : Tg) (ik : IK) (ies : List E) (cond : List E) (elt : E)
  | fs (es : List E)
  | dct1 (k : Key) (e : E)
inductive S where
  | asg (i : Nat) (e : E)
  | unp (is : List Nat) (e : E)
  | sub (i : Nat) (ps : List E) (ix : E) (e : E)
  | attr (i : Nat) (f : Str) (e : E)
  | ex (e : E)
  | ret (e : E)
  | retN
  | iff (c : E) (a b : List S)
  | for_ (tg : Tg) (ik : IK) (ies : List E) (body : List S)
  | while_ (c : E) (body : List S)
  | pass | brk | cnt
  | raise (e : E)
inductive Op where
  | late (i : Nat) | tmp (d : D)
inductive W where
  | sc (v : V) | nd (k : Kd) (ds : List D)
noncomputable def lateM (i : Nat) : M Op := fun δ => match δ[i]? with
  | some (.sc _) => .ok (.late i, δ)
  | some (.node _ _ _) => .ok (.late i, δ)
  | _ => .stuck
noncomputable def opdOf (e : E) (c : M D) : M Op := match e with
  | .v i => lateM i
  | _ => c.bnd fun d => M.ret (.tmp d)
noncomputable def view : Op → M W
  | .tmp (.sc v) => M.ret (.sc v)
  | .tmp (.node k _ ds) => M.ret (.nd k ds)
  | .tmp .hole => stk
  | .late i => fun δ => match δ[i]? with
    | some (.sc v) => .ok (.sc v, δ)
    | some (.node k false ds) => .ok (.nd k ds, δ)
    | some (.node k true ds) => .ok (.nd k (shrL ds), δ.set i (.node k true (shrL ds)))
    | _ => .stuck
noncomputable def views : List Op → M (List W)
  | [] => M.ret []
  | p :: ps => (view p).bnd fun w => (views ps).bnd fun ws => M.ret (w :: ws)
noncomputable def valV (i : Nat) : M D := fun δ => match δ[i]? with
  | some (.sc v) => .ok (.sc v, δ)
  | some (.node k false ds) => .ok (.node k false ds, δ)
  | some (.node k true ds) => .ok (.node k false (shrL ds), δ.set i (.node k false (shrL ds)))
  | _ => .stuck
noncomputable def newL (ds : List D) : Option D := if ds.length ≤ sizeLine then some (.node .lst true ds) else none
noncomputable def newT (ds : List D) : Option D := if ds.length ≤ sizeLine then some (.node .tup true ds) else none
noncomputable def intsW (f : Int → Int → Option D) : W → W → Option D
  | .sc (.int i), .sc (.int j) => f i j
  | _, _ => none
noncomputable def addW : W → W → Option D
  | .sc (.int i), .sc (.int j) => some (.sc (.int (i + j)))
  | .sc (.str x), .sc (.str y) => if x.length + y.length ≤ sizeLine then some (.sc (.str (x ++ y))) else none
  | .nd .lst xs, .nd .lst ys => newL (xs ++ ys)
  | _, _ => none
noncomputable def binW (op : Operator) : W → W → Option D := match op with
  | .Add => addW
  | .Sub => intsW fun i j => some (.sc (.int (i - j)))
  | .Mult => intsW fun i j => if (-(2 ^ 64) < i ∧ i < 2 ^ 64) ∨ (-(2 ^ 64) < j ∧ j < 2 ^ 64) then some (.sc (.int (i * j))) else none
  | .FloorDiv => intsW fun i j => if 0 < j ∧ j < 1073741824 then some (.sc (.int (i / j))) else none
  | .Mod => intsW fun i j => if 0 < j then some (.sc (.int (i % j))) else none
  | .Pow => intsW fun i j => if 0 ≤ j ∧ j ≤ 1000000 ∧ i.natAbs < 2 ^ 64 then some (.sc (.int (i ^ j.toNat))) else none
  | _ => fun _ _ => none
theorem intsW_ok {f : Int → Int → Option D} {x y : W} {d : D} (h : intsW f x y = some d) : ∃ i j, x = .sc (.int i) ∧ y = .sc (.int j) ∧ f i j = some d := by
  unfold intsW at h
  split at h
  · exact ⟨_, _, rfl, rfl, h⟩
  · cases h
noncomputable def cmpI (op : CmpOp) (i j : Int) : Option Bool := match op with
  | .Lt => some (decide (i < j)) | .LtE => some (decide (i ≤ j)) | .Gt => some (decide (j < i)) | .GtE => some (decide (j ≤ i))
  | _ => none
mutual
noncomputable def py : D → Option PyData
  | .sc .non => some .none
  | .sc (.bl b) => some (.bool b)
  | .sc (.int i) => some (.int i)
  | .sc (.str x) => some (.str x)
  | .node .lst _ ds => (pyL ds).map .list
  | .node .frl _ ds => (pyL ds).map .list
  | .node .tup _ ds => (pyL ds).map .tuple
  | .node .ftp _ ds => (pyL ds).map .tuple
  | _ => none
noncomputable def pyL : List D → Option (List PyData)
  | [] => some []
  | d :: ds => (py d).bind fun a => (pyL ds).map (a :: ·)
end
noncomputable def toD : W → D
  | .sc v => .sc v
  | .nd k ds => .node k false ds
noncomputable def eqPy (a b : PyData) : Option Bool := if SeqAt.shaped a = true ∧ SeqAt.shaped b = true then some (PyData.eqv a b) else none
noncomputable def eqW : W → W → Option Bool
  | .sc u, .sc v => if scal u v = true then some (decide (u = v)) else (py (.sc u)).bind fun a => (py (.sc v)).bind fun b => eqPy a b
  | x, y => (py (toD x)).bind fun a => (py (toD y)).bind fun b => eqPy a b
noncomputable def cmpW : CmpOp → W → W → Option Bool
  | .Eq, x, y => eqW x y
  | .NotEq, x, y => (eqW x y).map (!·)
  | op, .sc (.int i), .sc (.int j) => cmpI op i j
  | _, _, _ => none
noncomputable def ixN' (n : Nat) (i : Int) : Option Nat := if 0 ≤ i then (if i < n then some i.toNat else none) else if -(n : Int) ≤ i then some (i + n).toNat else none
noncomputable def ixW : W → W → Option D
  | .nd .lst ds, .sc (.int i) => (ixN' ds.length i).bind fun j => ds[j]?
  | .nd .frl ds, .sc (.int i) => (ixN' ds.length i).bind fun j => ds[j]?
  | .nd .tup ds, .sc (.int i) => (ixN' ds.length i).bind fun j => ds[j]?
  | .nd .ftp ds, .sc (.int i) => (ixN' ds.length i).bind fun j => ds[j]?
  | .sc (.str z), .sc (.int i) => if z.length ≤ sizeLine then ((ixN' z.cps.toList.length i).bind fun j => z.cps.toList[j]?).map fun c => .sc (.str ⟨#[c]⟩) else none
  | _, _ => none
noncomputable def keyD : V → Option Key
  | .int i => some (.inl i)
  | .str x => some (.inr x)
  | _ => none
noncomputable def lookK {α : Type} (k : Key) : List Key → List α → Option α
  | j :: ks, d :: ds => if j = k then some d else lookK k ks ds
  | _, _ => none
noncomputable def storK {α : Type} (k : Key) (d : α) : List Key → List α → Option (List Key × List α)
  | [], [] => some ([k], [d])
  | j :: ks, x :: ds => if j = k then (if (ks.any fun j => decide (j = k)) = true then none else some (j :: ks, d :: ds)) else (storK k d ks ds).map fun r => (j :: r.1, x :: r.2)
  | _, _ => none
noncomputable def ixD : W → W → Option D
  | .nd (.dic ks) ds, .sc v => (keyD v).bind fun k => lookK k ks ds
  | _, _ => none
noncomputable def ixW2 : W → W → Option D
  | .nd (.dic ks) ds, y => ixD (.nd (.dic ks) ds) y
  | x, y => ixW x y
noncomputable def inD (p : Bool) : W → W → Option Bool
  | .sc v, .nd (.dic ks) ds => (keyD v).map fun k => (lookK k ks ds).isSome == p
  | _, _ => none
noncomputable def cmpW2 : CmpOp → W → W → Option Bool
  | .In, x, y => inD true x y
  | .NotIn, x, y => inD false x y
  | op, x, y => cmpW op x y
noncomputable def lookF (f : Str) : List Str → List D → Option D
  | g :: fs, d :: ds => if g = f then some d else lookF f fs ds
  | _, _ => none
noncomputable def fldW (ok : Addr → Str → Bool) (f : Str) : W → Option D
  | .nd (.ins C fs) ds => if ok C f then lookF f fs ds else none
  | _ => none
noncomputable def truW : W → Option Bool
  | .sc (.bl b) => some b
  | .sc (.int i) => some (decide (i ≠ 0))
  | .sc (.str x) => if x.length ≤ sizeLine then some (decide (x.length ≠ 0)) else none
  | .sc .non => some false
  | .nd .lst ds => some (!ds.isEmpty)
  | .nd .frl ds => some (!ds.isEmpty)
  | .nd .tup ds => some (!ds.isEmpty)
  | .nd .ftp ds => some (!ds.isEmpty)
  | .nd (.dic _) ds => some (!ds.isEmpty)
  | _ => none
noncomputable def tyW : Ty → W → Option Bool
  | .int, .sc (.int _) => some true | .int, .sc (.bl _) => some true | .int, .sc (.str _) => some false | .int, .sc .non => some false
  | .int, .nd .lst _ => some false | .int, .nd .tup _ => some false
  | .bool, .sc (.bl _) => some true | .bool, .sc (.int _) => some false | .bool, .sc (.str _) => some false | .bool, .sc .non => some false
  | .bool, .nd .lst _ => some false | .bool, .nd .tup _ => some false
  | .str, .sc (.str _) => some true | .str, .sc (.int _) => some false | .str, .sc (.bl _) => some false | .str, .sc .non => some false
  | .str, .nd .lst _ => some false | .str, .nd .tup _ => some false
  | .list, .nd .lst _ => some true | .list, .nd .tup _ => some false | .list, .sc (.int _) => some false | .list, .sc (.bl _) => some false | .list, .sc (.str _) => some false | .list, .sc .non => some false
  | .tuple, .nd .tup _ => some true | .tuple, .nd .lst _ => some false | .tuple, .sc (.int _) => some false | .tuple, .sc (.bl _) => some false | .tuple, .sc (.str _) => some false | .tuple, .sc .non => some false
  | _, _ => none
noncomputable def intsOf : List D → Option (List Int)
  | [] => some []
  | .sc (.int i) :: r => (intsOf r).map (i :: ·)
  | _ => none
noncomputable def boolsOf : List D → Option (List Bool)
  | [] => some []
  | .sc (.bl b) :: r => (boolsOf r).map (b :: ·)
  | _ => none
noncomputable def cutD (xs : List D) (lo hi : Option Int) : List D := (xs.drop (HT.sIx xs.length 0 lo)).take (HT.sIx xs.length xs.length hi - HT.sIx xs.length 0 lo)
noncomputable def slD : W → Option Int → Option Int → Option D
  | .nd .lst ds, lo, hi => some (.node .lst true (cutD ds lo hi))
  | .nd .frl ds, lo, hi => some (.node .lst true (cutD ds lo hi))
  | .sc (.str z), lo, hi => if z.length ≤ sizeLine then some (.sc (.str (Txt.slice z lo hi))) else none
  | _, _, _ => none
noncomputable def intP : W → Option (Option Int)
  | .sc (.int i) => some (some i)
  | _ => none
noncomputable def partM (e : E) (c : M Op) : M (Option Int) := match e with
  | .k .non => M.ret none
  | _ => (c.bnd view).bnd fun w => lift (intP w)
noncomputable def strsOf : List D → Option (List Str)
  | [] => some []
  | .sc (.str x) :: r => (strsOf r).map (x :: ·)
  | _ => none
noncomputable def lenB : List W → Option D
  | [.nd .lst ds] => some (.sc (.int ds.length))
  | [.nd .frl ds] => some (.sc (.int ds.length))
  | [.nd .tup ds] => some (.sc (.int ds.length))
  | [.nd .ftp ds] => some (.sc (.int ds.length))
  | [.nd (.dic _) ds] => some (.sc (.int ds.length))
  | [.sc (.str x)] => if x.length ≤ sizeLine then some (.sc (.int x.length)) else none
  | _ => none
noncomputable def absB : List W → Option D
  | [.sc (.int i)] => some (.sc (.int (if i < 0 then -i else i)))
  | _ => none
noncomputable def strB : List W → Option D
  | [.sc (.int i)] => if i.natAbs.log2 < 1920 then some (.sc (.str (Str.ofString (toString i)))) else none
  | _ => none
noncomputable def intB : List W → Option D
  | [.sc (.int i)] => some (.sc (.int i))
  | [.sc (.bl b)] => some (.sc (.int (if b then 1 else 0)))
  | [.sc (.str z)] => match intText? z with
    | some n => if z.length ≤ 640 then some (.sc (.int n)) else none
    | none => none
  | _ => none
noncomputable def listB : List W → Option D
  | [.nd .lst ds] => some (.node .lst true ds)
  | [.nd .frl ds] => some (.node .lst true ds)
  | [.nd .tup ds] => some (.node .lst true ds)
  | [.nd .ftp ds] => some (.node .lst true ds)
  | _ => none
noncomputable def tupleB : List W → Option D
  | [.nd .lst ds] => some (.node .tup true ds)
  | _ => none
noncomputable def isiB (t : Ty) : List W → Option D
  | [w] => (tyW t w).map fun b => .sc (.bl b)
  | _ => none
noncomputable def allB : List W → Option D
  | [.nd .lst ds] => (boolsOf ds).map fun bs => .sc (.bl (bs.all id))
  | _ => none
noncomputable def sumB : List W → Option D
  | [.nd .lst ds] => (intsOf ds).map fun is => .sc (.int is.sum)
  | _ => none
noncomputable def minB : List W → Option D
  | [.sc (.int i), .sc (.int j)] => some (.sc (.int (if j < i then j else i)))
  | _ => none
noncomputable def maxB : List W → Option D
  | [.sc (.int i), .sc (.int j)] => some (.sc (.int (if j > i then j else i)))
  | _ => none
noncomputable def bfW : BF → List W → Option D
  | .len, ws => lenB ws
  | .abs, ws => absB ws
  | .str, ws => strB ws
  | .int, ws => intB ws
  | .list, ws => listB ws
  | .tuple, ws => tupleB ws
  | .isi t, ws => isiB t ws
  | .all, ws => allB ws
  | .sum, ws => sumB ws
  | .min, ws => minB ws
  | .max, ws => maxB ws
  | _, _ => none
noncomputable def strW : W → Option Str
  | .sc (.str z) => some z
  | _ => none
noncomputable def bmW : BM → Str → List W → Option D
  | .split, z, [.sc (.str s)] => if s.cps.size = 1 ∧ z.length + 2 ≤ sizeLine then some (.node .lst true ((Txt.split z s).map fun x => .sc (.str x))) else none
  | .join, z, [.nd .lst ds] => (strsOf ds).bind fun ts => if JoinOk z ts = true then some (.sc (.str (Txt.join z ts))) else none
  | _, _, _ => none
noncomputable def rng (a b : Int) : List D := (List.range (b - a).toNat).map fun (k : Nat) => .sc (.int (a + k))
noncomputable def okR (i : Int) : Bool := decide (-(2 ^ 62) ≤ i) && decide (i < 2 ^ 62)
noncomputable def enumD : Int → List D → List D
  | _, [] => []
  | c, d :: ds => .node .tup false [.sc (.int c), d] :: enumD (c + 1) ds
noncomputable def zipD : List D → List D → List D
  | d :: ds, e :: es => .node .tup false [d, e] :: zipD ds es
  | _, _ => []
noncomputable def zipI : List W → Option (List D)
  | [.nd k ds, .nd k' es] => if (k = .lst ∨ k = .frl) ∧ (k' = .lst ∨ k' = .frl) then some (zipD ds es) else none
  | _ => none
noncomputable def enumI : List W → Option (List D)
  | [.nd k ds, .sc (.int c)] => if (k = .lst ∨ k = .frl) ∧ okR c = true then some (enumD c ds) else none
  | _ => none
noncomputable def rng1I : List W → Option (List D)
  | [.sc (.int n)] => if okR n then some (rng 0 n) else none
  | _ => none
noncomputable def rng2I : List W → Option (List D)
  | [.sc (.int a), .sc (.int b)] => if okR a && okR b then some (rng a b) else none
  | _ => none
noncomputable def valI : List W → Option (List D)
  | [.nd .lst ds] => some ds
  | [.nd .frl ds] => some ds
  | [.nd .tup ds] => some ds
  | [.nd .ftp ds] => some ds
  | [.sc (.str x)] => some (x.cps.toList.map fun c => .sc (.str ⟨#[c]⟩))
  | _ => none
noncomputable def itW : IK → List W → Option (List D)
  | .zip, ws => zipI ws
  | .enum, ws => enumI ws
  | .rng1, ws => rng1I ws
  | .rng2, ws => rng2I ws
  | .val, ws => valI ws
  | _, _ => none
noncomputable def holdV : Op → M (W × Option (Nat × D))
  | .tmp (.sc v) => M.ret (.sc v, none)
  | .tmp (.node k _ ds) => M.ret (.nd k (shrL ds), none)
  | .tmp .hole => stk
  | .late i => fun δ => match δ[i]? with
    | some (.sc v) => .ok ((.sc v, none), δ)
    | some (.node k false ds) => .ok ((.nd k ds, none), δ)
    | some (.node k true ds) => .ok ((.nd k (shrL ds), some (i, .node k true (shrL ds))), δ.set i .hole)
    | _ => .stuck
noncomputable def holdVs : List Op → M (List W × List (Nat × D))
  | [] => M.ret ([], [])
  | p :: ps => (holdV p).bnd fun w => (holdVs ps).bnd fun ws => M.ret (w.1 :: ws.1, w.2.toList ++ ws.2)
noncomputable def giveH : List (Nat × D) → M Unit
  | [] => M.ret ()
  | (i, d) :: r => fun δ => giveH r (δ.set i d)
noncomputable def walked : List E → Nat → Bool
  | [], _ => false
  | .v i :: r, j => i == j || walked r j
  | _ :: r, j => walked r j
noncomputable def takeA (lend : Bool) : Op → M D
  | .tmp d => M.ret d
  | .late i => fun δ => match δ[i]? with
    | some (.sc v) => .ok (.sc v, δ)
    | some (.node k false ds) => .ok (.node k false ds, δ)
    | some (.node k true ds) => if lend then .ok (.node k true ds, δ.set i .hole) else .ok (.node k false (shrL ds), δ.set i (.node k false (shrL ds)))
    | _ => .stuck
noncomputable def takeAs (lend : Bool) : List Op → M (List D)
  | [] => M.ret []
  | p :: ps => (takeA lend p).bnd fun d => (takeAs lend ps).bnd fun ds => M.ret (d :: ds)
noncomputable def giveA : Op → D → M Unit
  | .tmp _, _ => M.ret ()
  | .late i, d => fun δ => match δ[i]? with
    | some .hole => .ok ((), δ.set i d)
    | _ => .ok ((), δ)
noncomputable def giveAs : List Op → List D → M Unit
  | p :: ps, d :: ds => (giveA p d).bnd fun _ => giveAs ps ds
  | _, _ => M.ret ()
noncomputable def callF (fi : FI) (ps : List Op) : M D := (takeAs fi.lend ps).bnd fun ds => match fi.run ds with
  | .ok (d, ds') => (giveAs ps ds').bnd fun _ => M.ret d
  | .exc x _ => fun δ => .exc x δ
  | .stuck => stk
noncomputable def chkI (A : Addr) (m : Str) : Op → M Unit
  | .late i => fun δ => match δ[i]? with
    | some (.node (.ins B fs) _ _) => if B = A ∧ m ∉ fs then .ok ((), δ) else .stuck
    | _ => .stuck
  | .tmp (.node (.ins B fs) _ _) => fun δ => if B = A ∧ m ∉ fs then .ok ((), δ) else .stuck
  | _ => stk
noncomputable def newF (C : Addr) (fi : FI) (ps : List Op) : M D := (takeAs fi.lend ps).bnd fun ds => match fi.run (.node (.ins C []) true [] :: ds) with
  | .ok (.sc .non, d :: ds') => (giveAs ps ds').bnd fun _ => M.ret d
  | .ok _ => stk
  | .exc x _ => fun δ => .exc x δ
  | .stuck => stk
noncomputable def asgN (lock : Nat → Bool) (i : Nat) (d : D) : M Unit := fun δ => if i < δ.length && !lock i then .ok ((), δ.set i d) else .stuck
noncomputable def asgNs (lock : Nat → Bool) : List Nat → List D → M Unit
  | [], [] => M.ret ()
  | i :: is, d :: ds => (asgN lock i d).bnd fun _ => asgNs lock is ds
  | _, _ => stk
noncomputable def asgT (lock : Nat → Bool) : Tg → D → M Unit
  | .name i, d => asgN lock i d
  | .tup is, .node .tup _ ds => asgNs lock is ds
  | .tup _, _ => stk
noncomputable def modS (i : Nat) (f : Kd → List D → Option (D × Kd × List D)) : M D := fun δ => match δ[i]? with
  | some (.node k true ds) => match f k ds with
    | some (r, k', ds') => .ok (r, δ.set i (.node k' true ds'))
    | none => .stuck
  | _ => .stuck
noncomputable def mutD : MM → List W → Kd → List D → Option (D × Kd × List D)
  | .extend, [.nd .lst es], .lst, ds => if ds.length + es.length ≤ sizeLine then some (.sc .non, .lst, ds ++ es) else none
  | .pop, [], .lst, ds => ds.getLast?.map fun d => (d, .lst, ds.dropLast)
  | .popAt, [.sc (.int i)], .lst, ds => if -(2 ^ 63) ≤ i ∧ i < 2 ^ 63 then (ixN' ds.length i).bind fun j => ds[j]?.map fun d => (d, .lst, ds.eraseIdx j) else none
  | .reverse, [], .lst, ds => some (.sc .non, .lst, ds.reverse)
  | .clear, [], .lst, _ => some (.sc .non, .lst, [])
  | _, _, _, _ => none
noncomputable def appD (d : D) : Kd → List D → Option (D × Kd × List D)
  | .lst, ds => if ds.length < sizeLine then some (.sc .non, .lst, ds ++ [d]) else none
  | _, _ => none
noncomputable def appM (i : Nat) : List D → M D
  | [d] => modS i (appD d)
  | _ => stk
noncomputable def chkL (i : Nat) : M Unit := fun δ => match δ[i]? with
  | some (.node .lst _ _) => .ok ((), δ)
  | _ => .stuck
noncomputable def setD (w : W) (d : D) : Kd → List D → Option (D × Kd × List D)
  | .lst, ds => match w with
    | .sc (.int i) => (ixN' ds.length i).map fun j => (.sc .non, .lst, ds.set j d)
    | _ => none
  | _, _ => none
noncomputable def setD2 (w : W) (d : D) : Kd → List D → Option (D × Kd × List D)
  | .dic ks, ds => match w with
    | .sc v => if ds.length < sizeLine then (keyD v).bind fun k => (storK k d ks ds).map fun r => (.sc .non, .dic r.1, r.2) else none
    | _ => none
  | k, ds => setD w d k ds
noncomputable def putN (f : Str) : List Str → List Str
  | [] => [f]
  | g :: r => if g = f then g :: r else g :: putN f r
noncomputable def putV {α : Type} (f : Str) (d : α) : List Str → List α → List α
  | g :: r, x :: ds => if g = f then d :: ds else x :: putV f d r ds
  | _, _ => [d]
noncomputable def putD (ok : Addr → Str → Bool) (f : Str) (d : D) : Kd → List D → Option (D × Kd × List D)
  | .ins C fs, ds => if fs.length < 1000 ∧ ok C f = true then some (.sc .non, .ins C (putN f fs), putV f d fs ds) else none
  | _, _ => none
structure Ctx where
  lock : Nat → Bool
  fok : Addr → Str → Bool
  fuel : Nat
noncomputable def capTake : List Nat → M (List D)
  | [] => M.ret []
  | j :: js => fun δ => match δ[j]? with
    | some d => ((capTake js).bnd fun ds => M.ret (d :: ds)) (δ.set j .hole)
    | none => .stuck
noncomputable def capGive : List Nat → List D → M Unit
  | j :: js, d :: ds => fun δ => capGive js ds (δ.set j d)
  | _, _ => M.ret ()
noncomputable def compL (asg : D → M Unit) (cond : M Bool) (elt : M D) : List D → List D → M (List D)
  | [], acc => M.ret acc
  | d :: ds, acc => (asg d).bnd fun _ => cond.bnd fun b => if b then elt.bnd fun x => compL asg cond elt ds (acc ++ [x]) else compL asg cond elt ds acc
noncomputable def compM (k : Nat) (js : List Nat) (loop : M (List D)) : M D := (capTake js).bnd fun caps δ => match loop (List.replicate k .hole ++ caps) with
  | .ok (acc, δ') => ((capGive js (δ'.drop k)).bnd fun _ => lift (newL acc)) δ
  | .exc _ _ => .stuck
  | .stuck => .stuck
noncomputable def fmtD : V → Option Str
  | .int i => if i.natAbs.log2 < 1920 then some (Str.ofString (toString i)) else none
  | .str x => some x
  | .non => some (Str.ofString "None")
  | _ => none
noncomputable def fmtW (acc : Str) : W → Option Str
  | .sc v => (fmtD v).bind fun z => if z.length ≤ sizeLine ∧ (acc ++ z).length ≤ sizeLine then some (acc ++ z) else none
  | _ => none
noncomputable def isNW (p : Bool) : W → D
  | .sc v => .sc (.bl (decide (v = .non) == p))
  | .nd _ _ => .sc (.bl (!p))
noncomputable def isBW (c p : Bool) : W → Option D
  | .sc (.bl b) => some (.sc (.bl ((b == c) == p)))
  | _ => none
noncomputable def negW : W → Option D
  | .sc (.int i) => some (.sc (.int (-i)))
  | _ => none
noncomputable def notW : W → Option D
  | .sc (.bl t) => some (.sc (.bl (!t)))
  | _ => none
noncomputable def andM (b : M D) : W → M D
  | .sc (.bl true) => b
  | .sc (.bl false) => M.ret (.sc (.bl false))
  | _ => stk
noncomputable def orM (b : M D) : W → M D
  | .sc (.bl false) => b
  | .sc (.bl true) => M.ret (.sc (.bl true))
  | _ => stk
noncomputable def boolM (c : M D) : M Bool := c.bnd fun d => lift (match d with | .sc (.bl b) => some b | _ => none)
noncomputable def tdef (e : E) (c : M D) : M Bool := (opdOf e c).bnd fun p => (view p).bnd fun w => lift (truW w)
noncomputable def vdef (e : E) (c : M D) : M W := (opdOf e c).bnd view
mutual
noncomputable def evb (C : Ctx) : E → M D × M Bool
  | .k v => let c : M D := M.ret (.sc v); (c, tdef (.k v) c)
  | .g d => let c : M D := M.ret d; (c, tdef (.g d) c)
  | .v i => (valV i, tdef (.v i) (valV i))
  | .bin op a b =>
    let c : M D := (opdOf a (evb C a).1).bnd fun p => (opdOf b (evb C b).1).bnd fun q => (view p).bnd fun x => (view q).bnd fun y => lift (binW op x y)
    (c, tdef (.bin op a b) c)
  | .neg a =>
    let c : M D := (vdef a (evb C a).1).bnd fun x => lift (negW x)
    (c, tdef (.neg a) c)
  | .cmp op a b =>
    let c : M D := (opdOf a (evb C a).1).bnd fun p => (opdOf b (evb C b).1).bnd fun q => (view p).bnd fun x => (view q).bnd fun y => lift ((cmpW2 op x y).map fun t => .sc (.bl t))
    (c, boolM c)
  | .chain op op' a b e =>
    let c : M D := (opdOf a (evb C a).1).bnd fun p => (opdOf b (evb C b).1).bnd fun q => (view p).bnd fun x => (view q).bnd fun y => (lift (cmpW op x y)).bnd fun t => if t then (opdOf e (evb C e).1).bnd fun r => (view q).bnd fun y => (view r).bnd fun z => lift ((cmpW op' y z).map fun t => .sc (.bl t)) else M.ret (.sc (.bl false))
    (c, boolM c)
  | .isN p a =>
    let c : M D := (vdef a (evb C a).1).bnd fun x => M.ret (isNW p x)
    (c, tdef (.isN p a) c)
  | .isB c p a =>
    let r : M D := (vdef a (evb C a).1).bnd fun x => lift (isBW c p x)
    (r, tdef (.isB c p a) r)
  | .nt a => ((vdef a (evb C a).1).bnd fun w => lift (notW w), (evb C a).2.bnd fun b => M.ret (!b))
  | .and a b => ((vdef a (evb C a).1).bnd (andM (evb C b).1), (evb C a).2.bnd fun t => if t then (evb C b).2 else M.ret false)
  | .or a b => ((vdef a (evb C a).1).bnd (orM (evb C b).1), (evb C a).2.bnd fun t => if t then M.ret true else (evb C b).2)
  | .ife c a b =>
    let r : M D := (evb C c).2.bnd fun t => if t then (evb C a).1 else (evb C b).1
    (r, tdef (.ife c a b) r)
  | .ix a i =>
    let c : M D := (opdOf a (evb C a).1).bnd fun p => (opdOf i (evb C i).1).bnd fun q => (view p).bnd fun x => (view q).bnd fun y => lift (ixW2 x y)
    (c, tdef (.ix a i) c)
  | .sl a lo hi =>
    let c : M D := (opdOf a (evb C a).1).bnd fun p => (partM lo (opdOf lo (evb C lo).1)).bnd fun l => (partM hi (opdOf hi (evb C hi).1)).bnd fun h => (view p).bnd fun x => lift (slD x l h)
    (c, tdef (.sl a lo hi) c)
  | .fld a f =>
    let c : M D := (vdef a (evb C a).1).bnd fun x => lift (fldW C.fok f x)
    (c, tdef (.fld a f) c)
  | .lst es =>
    let c : M D := (evs C es).bnd fun ds => lift (newL ds)
    (c, tdef (.lst es) c)
  | .tup es =>
    let c : M D := (evs C es).bnd fun ds => lift (newT ds)
    (c, tdef (.tup es) c)
  | .kl vs =>
    let c : M D := lift (newL (vs.map D.sc))
    (c, tdef (.kl vs) c)
  | .kt vs =>
    let c : M D := lift (newT (vs.map D.sc))
    (c, tdef (.kt vs) c)
  | .dct0 =>
    let c : M D := M.ret (.node (.dic []) true [])
    (c, tdef .dct0 c)
  | .call f es =>
    let c : M D := (opds C es).bnd fun ps => callF f ps
    (c, tdef (.call f es) c)
  | .bf f es =>
    let c : M D := (opds C es).bnd fun ps => (views ps).bnd fun ws => lift (bfW f ws)
    (c, tdef (.bf f es) c)
  | .bm m o es =>
    let c : M D := (vdef o (evb C o).1).bnd fun w => (lift (strW w)).bnd fun z => (opds C es).bnd fun ps => (views ps).bnd fun ws => lift (bmW m z ws)
    (c, tdef (.bm m o es) c)
  | .mut m i ps es =>
    let c : M D := match m, ps with
      | .append, [] => (chkL i).bnd fun _ => (evs C es).bnd fun ds => appM i ds
      | m, [] => (chkL i).bnd fun _ => (opds C es).bnd fun ps => (views ps).bnd fun ws => modS i (mutD m ws)
      | _, _ => stk
    (c, tdef (.mut m i ps es) c)
  | .meth A m f o es =>
    let c : M D := (opdOf o (evb C o).1).bnd fun p => (chkI A m p).bnd fun _ => (opds C es).bnd fun ps => callF f (p :: ps)
    (c, tdef (.meth A m f o es) c)
  | .new A f es =>
    let c : M D := (opds C es).bnd fun ps => newF A f ps
    (c, tdef (.new A f es) c)
  | .comp k js tg ik ies cond elt =>
    let C' : Ctx := { C with lock := fun i => decide (k ≤ i) }
    let loop (items : List D) : M (List D) := compL (asgT C'.lock tg) (tsts C' cond) (evb C' elt).1 items []
    let c : M D := (opds C ies).bnd fun ps => (holdVs ps).bnd fun h => (lift (itW ik h.1)).bnd fun items => (compM k js (loop items)).bnd fun d => (giveH h.2).bnd fun _ => M.ret d
    (c, tdef (.comp k js tg ik ies cond elt) c)
  | .fs es =>
    let c : M D := fss C es Str.empty
    (c, tdef (.fs es) c)
  | .dct1 k e =>
    let c : M D := (evb C e).1.bnd fun d => M.ret (.node (.dic [k]) true [d])
    (c, tdef (.dct1 k e) c)
noncomputable def fss (C : Ctx) : List E → Str → M D
  | [], acc => M.ret (.sc (.str acc))
  | e :: es, acc => (vdef e (evb C e).1).bnd fun w => (lift (fmtW acc w)).bnd fun acc' => fss C es acc'
noncomputable def opds (C : Ctx) : List E → M (List Op)
  | [] => M.ret []
  | e :: es => (opdOf e (evb C e).1).bnd fun p => (opds C es).bnd fun ps => M.ret (p :: ps)
noncomputable def evs (C : Ctx) : List E → M (List D)
  | [] => M.ret []
  | e :: es => (evb C e).1.bnd fun p => (evs C es).bnd fun ps => M.ret (p :: ps)
noncomputable def tsts (C : Ctx) : List E → M Bool
  | [] => M.ret true
  | e :: es => (evb C e).2.bnd fun b => if b then tsts C es else M.ret false
end
noncomputable abbrev ev (C : Ctx) (e : E) : M D := (evb C e).1
noncomputable abbrev tst (C : Ctx) (e : E) : M Bool := (evb C e).2
inductive Fl where
  | nx | rt (d : D) | bk | ct
noncomputable def forL (asg : D → M Unit) (body : M Fl) : List D → M Fl
  | [] => M.ret .nx
  | d :: ds => (asg d).bnd fun _ => body.bnd fun f => match f with
    | .nx => forL asg body ds
    | .ct => forL asg body ds
    | .bk => M.ret .nx
    | .rt x => M.ret (.rt x)
noncomputable def whileL (c : M Bool) (body : M Fl) : Nat → M Fl
  | 0 => stk
  | n + 1 => c.bnd fun b => if b then body.bnd fun f => match f with
    | .nx => whileL c body n
    | .ct => whileL c body n
    | .bk => M.ret .nx
    | .rt x => M.ret (.rt x)
    else M.ret .nx
noncomputable def movV (i : Nat) : M D := fun δ => match δ[i]? with
  | some (.sc v) => .ok (.sc v, δ)
  | some (.node k o ds) => .ok (.node k o ds, δ.set i .hole)
  | _ => .stuck
noncomputable def retV (C : Ctx) (e : E) : M D := match e with
  | .v i => if C.lock i then valV i else movV i
  | e => ev C e
noncomputable def seqL (c : M Fl) (r : M Fl) : M Fl := c.bnd fun f => match f with
  | .nx => r
  | f => M.ret f
noncomputable def unpM (lock : Nat → Bool) (is : List Nat) : W → M Unit
  | .nd .tup ds => asgNs lock is ds
  | .nd .lst ds => asgNs lock is ds
  | _ => stk
mutual
noncomputable def ex (C : Ctx) : S → M Fl
  | .asg i e => (ev C e).bnd fun d => (asgN C.lock i d).bnd fun _ => M.ret .nx
  | .unp is e => (vdef e (ev C e)).bnd fun w => (unpM C.lock is w).bnd fun _ => M.ret .nx
  | .sub i ps ix e => match ps with
    | [] => (ev C e).bnd fun d => (lateM i).bnd fun _ => (vdef ix (ev C ix)).bnd fun w => (modS i (setD2 w d)).bnd fun _ => M.ret .nx
    | _ => stk
  | .attr i f e => (ev C e).bnd fun d => (lateM i).bnd fun _ => (modS i (putD C.fok f d)).bnd fun _ => M.ret .nx
  | .ex e => (ev C e).bnd fun _ => M.ret .nx
  | .ret e => (retV C e).bnd fun d => M.ret (.rt d)
  | .retN => M.ret (.rt (.sc .non))
  | .iff c a b => (tst C c).bnd fun t => if t then exs C a else exs C b
  | .for_ tg ik ies body =>
    let lk : Nat → Bool := fun j => C.lock j || walked ies j
    (opds C ies).bnd fun ps => (holdVs ps).bnd fun h => (lift (itW ik h.1)).bnd fun items => (forL (asgT lk tg) (exs { C with lock := lk } body) items).bnd fun f => (giveH h.2).bnd fun _ => M.ret f
  | .while_ c body => whileL (tst C c) (exs C body) C.fuel
  | .pass => M.ret .nx
  | .brk => M.ret .bk
  | .cnt => M.ret .ct
  | .raise _ => stk
noncomputable def exs (C : Ctx) : List S → M Fl
  | [] => M.ret .nx
  | s :: r => seqL (ex C s) (exs C r)
end
noncomputable def endDef (n : Nat) : Rs (Fl × List D) → Rs (D × List D)
  | .ok (.rt d, δ) => .ok (d, δ.take n)
  | .ok (.nx, δ) => .ok (.sc .non, δ.take n)
  | .ok _ => .stuck
  | .exc x _ => .exc x []
  | .stuck => .stuck
noncomputable def runDef (C : Ctx) (n N : Nat) (body : List S) (ds : List D) : Rs (D × List D) :=
  if ds.length = n then endDef n (exs { C with lock := fun i => decide (i < n) } body (ds ++ List.replicate (N - n) .hole)) else .stuck
end T
namespace T
open PySem L2
inductive Sep {α : Type} (R : α → D → Bud → Prop) : List α → List D → Bud → Prop
  | nil (m : Bud) : Sep R [] [] m
  | cons {a : α} {d : D} {as : List α} {ds : List D} {m1 m2 m : Bud} : R a d m1 → Sep R as ds m2 → (∀ b, m1 b + m2 b ≤ m b) → Sep R (a :: as) (d :: ds) m
theorem RepL.sep {K : PySem.W.Frag} {H Hs : Hp} : ∀ {vs : List V} {ds : List D} {m : Bud}, RepL K H Hs vs ds m → Sep (Rep K H Hs) vs ds m
  | _, _, _, .nil _ => .nil _
  | _, _, _, .cons a b c => .cons a b.sep c
theorem Sep.repL {K : PySem.W.Frag} {H Hs : Hp} : ∀ {vs : List V} {ds : List D} {m : Bud}, Sep (Rep K H Hs) vs ds m → RepL K H Hs vs ds m
  | _, _, _, .nil _ => .nil _
  | _, _, _, .cons a b c => .cons a b.repL c
section
variable {α β : Type} {R R' : α → D → Bud → Prop}
theorem Sep.length : ∀ {as : List α} {ds : List D} {m : Bud}, Sep R as ds m → as.length = ds.length
  | _, _, _, .nil _ => rfl
  | _, _, _, .cons _ b _ => by rw [List.length_cons, List.length_cons, b.length]
theorem Sep.mono {as : List α} {ds : List D} {m m' : Bud} (h : Sep R as ds m) (l : ∀ b, m b ≤ m' b) : Sep R as ds m' := by
  cases h with
  | nil => exact .nil _
  | cons a b c => exact .cons a b fun x => Nat.le_trans (c x) (l x)
theorem Sep.imp : ∀ {as : List α} {ds : List D} {m : Bud}, (∀ a d m', (∀ b, m' b ≤ m b) → R a d m' → R' a d m') → Sep R as ds m → Sep R' as ds m
  | _, _, _, _, .nil _ => .nil _
  | _, _, m, f, .cons (m1 := m1) (m2 := m2) x y c => .cons (f _ _ _ (fun b => by have := c b; omega) x) (y.imp fun a d m' l => f a d m' fun b => by have := c b; have := l b; (try dsimp only at *); omega) c
theorem Sep.focus : ∀ {as : List α} {ds : List D} {m : Bud} {i : Nat} {d : D}, Sep R as ds m → ds[i]? = some d → ∃ (a : α) (m1 m2 : Bud), as[i]? = some a ∧ R a d m1 ∧ (∀ b, m1 b + m2 b ≤ m b) ∧
    ∀ (R' : α → D → Bud → Prop) (a' : α) (d' : D) (m' : Bud), (∀ a d m', (∀ b, m' b ≤ m2 b) → R a d m' → R' a d m') → R' a' d' m' → Sep R' (as.set i a') (ds.set i d') (fun b => m' b + m2 b)
  | _, _, _, _, _, .nil _, h => by simp at h
  | _, _, m, 0, _, .cons (a := a) (m1 := m1) (m2 := m2) x y c, h => by
    (simp only [List.getElem?_cons_zero, Option.some.injEq] at h)
    subst h
    exact ⟨a, m1, m2, rfl, x, c, fun R' a' d' m' f x' => .cons x' (y.imp f) fun b => Nat.le_refl _⟩
  | _, _, m, i + 1, d, .cons (a := a) (m1 := m1) (m2 := m2) x y c, h => by
    obtain ⟨a', n1, n2, e, r, l, f⟩ := Sep.focus (i := i) y (by simpa using h)
    refine ⟨a', n1, fun b => m1 b + n2 b, by simpa using e, r, fun b => by have := c b; have := l b; (try dsimp only at *); omega, fun R' a'' d'' m' g x' => ?_⟩
    have q := f R' a'' d'' m' (fun a d m' l' => g a d m' fun b => by have := l' b; (try dsimp only at *); omega) x'
    exact .cons (m2 := fun b => m' b + n2 b) (g _ _ _ (fun b => by (try dsimp only at *); omega) x) q fun b => by (try dsimp only at *); omega
theorem Sep.append : ∀ {as bs : List α} {ds es : List D} {m1 m2 : Bud}, Sep R as ds m1 → Sep R bs es m2 → Sep R (as ++ bs) (ds ++ es) (fun b => m1 b + m2 b)
  | _, _, _, _, _, _, .nil _, y => y.mono fun b => by (try dsimp only at *); omega
  | _, _, _, _, _, m2, .cons (m2 := n2) x y c, z => .cons (m2 := fun b => n2 b + m2 b) x (y.append z) fun b => by have := c b; omega
theorem Sep.get {as : List α} {ds : List D} {m : Bud} {i : Nat} {d : D} (h : Sep R as ds m) (e : ds[i]? = some d) : ∃ (a : α) (m1 : Bud), as[i]? = some a ∧ R a d m1 ∧ ∀ b, m1 b ≤ m b := by
  obtain ⟨a, m1, m2, e, r, l, _⟩ := h.focus e
  exact ⟨a, m1, e, r, fun b => by have := l b; omega⟩
theorem Sep.split : ∀ {as : List α} {ds es : List D} {m : Bud}, Sep R as (ds ++ es) m → ∃ (a1 a2 : List α) (m1 m2 : Bud), as = a1 ++ a2 ∧ Sep R a1 ds m1 ∧ Sep R a2 es m2 ∧ ∀ b, m1 b + m2 b ≤ m b
  | as, [], es, m, h => ⟨[], as, fun _ => 0, m, rfl, .nil _, h, fun b => by (try dsimp only at *); omega⟩
  | _, d :: ds, es, m, .cons (a := a) (m1 := m1) x y c => by
    obtain ⟨a1, a2, n1, n2, e, p, q, l⟩ := Sep.split (ds := ds) (es := es) y
    subst e
    exact ⟨a :: a1, a2, fun b => m1 b + n1 b, n2, rfl, .cons x p fun b => Nat.le_refl _, q, fun b => by have := c b; have := l b; (try dsimp only at *); omega⟩
theorem Sep.take {as : List α} {ds : List D} {m : Bud} (h : Sep R as ds m) (n : Nat) : Sep R (as.take n) (ds.take n) m := by
  have e : ds.take n ++ ds.drop n = ds := List.take_append_drop n ds
  rw [← e] at h
  obtain ⟨a1, a2, m1, m2, q, p, p', l⟩ := h.split
  have hl := p.length
  have hd := h.length
  subst q
  have : (a1 ++ a2).take n = a1 := by
    by_cases hn : n ≤ ds.length
    · rw [List.take_left' (by rw [hl, List.length_take]; omega)]
    · have e2 : a2 = [] := by
        have := p'.length
        rw [List.length_drop] at this
        exact List.length_eq_zero_iff.mp (by (try dsimp only at *); omega)
      rw [e2, List.append_nil]
      exact List.take_of_length_le (by rw [hl, List.length_take]; omega)
  rw [this]
  exact p.mono fun b => by have := l b; omega
theorem Sep.drop {as : List α} {ds : List D} {m : Bud} (h : Sep R as ds m) (n : Nat) : Sep R (as.drop n) (ds.drop n) m := by
  have e : ds.take n ++ ds.drop n = ds := List.take_append_drop n ds
  rw [← e] at h
  obtain ⟨a1, a2, m1, m2, q, p, p', l⟩ := h.split
  have hl := p.length
  subst q
  have : (a1 ++ a2).drop n = a2 := by
    by_cases hn : n ≤ ds.length
    · rw [List.drop_left' (by rw [hl, List.length_take]; omega)]
    · have e2 : a2 = [] := by
        have := p'.length
        rw [List.length_drop] at this
        exact List.length_eq_zero_iff.mp (by (try dsimp only at *); omega)
      rw [e2, List.append_nil]
      exact List.drop_of_length_le (by rw [hl, List.length_take]; omega)
  rw [this]
  exact p'.mono fun b => by have := l b; omega
end
section
variable {K : PySem.W.Frag} {H Hs Hs' : Hp}
mutual
theorem Rep.share (g : Same Hs Hs') : ∀ {v : V} {d : D} {m : Bud}, (∀ b, m b ≥ 1 → H b ≠ none → Hs' b = H b) → Rep K H Hs v d m → Rep K H Hs' v (shr d) (fun _ => 0)
  | _, _, _, _, .sc v _ => .sc v _
  | _, _, _, _, .hole v _ => .hole v _
  | _, _, m, k, .own (a := a) (m' := m') n r h => by
    have h1 : m a ≥ 1 := by have := h a; simp only [one, if_pos] at this; omega
    refine .shd (NodeO.r (n.eq (k a h1 n.at))) (RepL.share g (fun b hb => k b ?_) r)
    have := h b
    omega
  | _, _, _, _, .shd n r => .shd (n.same g) (RepL.share g (fun b hb => absurd hb (by simp)) r)
theorem RepL.share (g : Same Hs Hs') : ∀ {vs : List V} {ds : List D} {m : Bud}, (∀ b, m b ≥ 1 → H b ≠ none → Hs' b = H b) → RepL K H Hs vs ds m → RepL K H Hs' vs (shrL ds) (fun _ => 0)
  | _, _, _, _, .nil _ => .nil _
  | _, _, m, k, .cons x y h => by
    refine .cons (Rep.share g (fun b hb => k b ?_) x) (RepL.share g (fun b hb => k b ?_) y) fun b => Nat.le_refl _
    · have := h b; omega
    · have := h b; omega
end
noncomputable def shH (H Hs : Hp) (m : Bud) : Hp := fun b => if m b ≥ 1 then H b else Hs b
theorem shH_same {M : Bud} {m : Bud} (g : Good H Hs M) (l : ∀ b, m b ≤ M b) : Same Hs (shH H Hs m) := fun b o e => by
  unfold shH
  split
  · exact g.sub b o e
  · exact e
theorem shH_at {m : Bud} : ∀ b, m b ≥ 1 → H b ≠ none → shH H Hs m b = H b := fun b h _ => if_pos h
theorem Good.share {m M : Bud} (g : Good H Hs (fun b => m b + M b)) : Good H (shH H Hs m) M where
  sub := fun b o e => by
    unfold shH at e
    split at e
    · exact e
    · exact g.sub b o e
  le := fun b => by have : m b + M b ≤ 1 := g.le b; omega
  ne := fun b h => by
    have : m b + M b ≤ 1 := g.le b
    unfold shH
    rw [if_neg (by (try dsimp only at *); omega)]
    exact g.ne b (by show m b + M b = 1; omega)
  has := fun b h => by
    have : m b + M b ≤ 1 := g.le b
    exact g.has b (by show m b + M b = 1; omega)
theorem Stp.share {m M : Bud} (g : Good H Hs (fun b => m b + M b)) : Stp H Hs (fun b => m b + M b) H (shH H Hs m) M where
  keep := fun _ _ h _ => h
  own := fun b h => .inl (by have : m b + M b ≤ 1 := g.le b; show m b + M b = 1; omega)
  grow := shH_same g fun b => by (try dsimp only at *); omega
  shr := fun b h h' => by
    unfold shH at h'
    split at h'
    · have : m b + M b ≤ 1 := g.le b
      exact .inl (by show m b + M b = 1; omega)
    · exact absurd h h'
  stay := fun _ h => h
end
noncomputable def RepO (K : PySem.W.Frag) (H Hs : Hp) (o : Option V) (d : D) (m : Bud) : Prop := d = .hole ∨ ∃ v, o = some v ∧ Rep K H Hs v d m
noncomputable abbrev RepS (K : PySem.W.Frag) (H Hs : Hp) (σ : St) (δ : List D) (m : Bud) : Prop := Sep (RepO K H Hs) σ δ m
section
variable {K : PySem.W.Frag} {H Hs H' Hs' : Hp}
theorem RepO.frame {o : Option V} {d : D} {m : Bud} (g : Same Hs Hs') (k : ∀ b, m b ≥ 1 → H b ≠ none → H' b = H b) (h : RepO K H Hs o d m) : RepO K H' Hs' o d m := by
  rcases h with h | ⟨v, e, r⟩
  · exact .inl h
  · exact .inr ⟨v, e, r.frame g k⟩
theorem RepS.frame {σ : St} {δ : List D} {m : Bud} (g : Same Hs Hs') (k : ∀ b, m b ≥ 1 → H b ≠ none → H' b = H b) (h : RepS K H Hs σ δ m) : RepS K H' Hs' σ δ m :=
  h.imp fun a d m' l r => RepO.frame g (fun b hb => k b (Nat.le_trans hb (l b))) r
theorem RepL.slots : ∀ {vs : List V} {ds : List D} {m : Bud}, RepL K H Hs vs ds m → RepS K H Hs (vs.map some) ds m
  | _, _, _, .nil _ => .nil _
  | _, _, _, .cons x y c => .cons (.inr ⟨_, rfl, x⟩) (RepL.slots y) c
theorem holes (o : Nat → Option V) : ∀ (n : Nat) (m : Bud) (σ : St), σ.length = n → RepS K H Hs σ (List.replicate n .hole) m
  | 0, m, [], _ => .nil _
  | n + 1, m, o :: σ, h => .cons (m1 := fun _ => 0) (.inl rfl) (holes (fun _ => none) n m σ (by simpa using h)) fun b => by (try dsimp only at *); omega
theorem RepS.slot {σ : St} {δ : List D} {m : Bud} {i : Nat} {d : D} (h : RepS K H Hs σ δ m) (e : δ[i]? = some d) (hd : d ≠ .hole) : ∃ (v : V) (m1 m2 : Bud), σ[i]? = some (some v) ∧ Rep K H Hs v d m1 ∧ (∀ b, m1 b + m2 b ≤ m b) ∧
    ∀ (H' Hs' : Hp) (o : Option V) (d' : D) (m' : Bud), Same Hs Hs' → (∀ b, m2 b ≥ 1 → H b ≠ none → H' b = H b) → RepO K H' Hs' o d' m' → RepS K H' Hs' (σ.set i o) (δ.set i d') (fun b => m' b + m2 b) := by
  obtain ⟨o, m1, m2, e1, r, l, f⟩ := h.focus e
  rcases r with r | ⟨v, rfl, r⟩
  · exact absurd r hd
  · exact ⟨v, m1, m2, e1, r, l, fun H' Hs' o d' m' g k x => f _ o d' m' (fun a d m'' l' q => RepO.frame g (fun b hb => k b (Nat.le_trans hb (l' b))) q) x⟩
theorem set_self {α : Type} : ∀ {l : List α} {i : Nat} {a : α}, l[i]? = some a → l.set i a = l
  | [], _, _, h => by simp at h
  | b :: l, 0, a, h => by simp at h; subst h; rfl
  | b :: l, i + 1, a, h => by rw [List.set_cons_succ, set_self (by simpa using h)]
end
end T
namespace T
open PySem PySem.Spec L2
theorem bnd_ok {α β : Type} {c : M α} {f : α → M β} {δ : List D} {r : β × List D} (h : c.bnd f δ = .ok r) : ∃ a δ', c δ = .ok (a, δ') ∧ f a δ' = .ok r := by
  unfold M.bnd at h
  split at h
  · rename_i a δ' e
    exact ⟨a, δ', e, h⟩
  · cases h
  · cases h
theorem ret_ok {α : Type} {a : α} {δ : List D} {r : α × List D} (h : M.ret a δ = .ok r) : r = (a, δ) := by
  unfold M.ret at h
  injection h with h
  exact h.symm
theorem lift_ok {α : Type} {o : Option α} {δ : List D} {a : α} {δ' : List D} (h : lift o δ = .ok (a, δ')) : o = some a ∧ δ' = δ := by
  cases o with
  | none => cases h
  | some x =>
    have := ret_ok h
    cases this
    exact ⟨rfl, rfl⟩
noncomputable def RepP (K : PySem.W.Frag) (H Hs : Hp) (σ : St) (v : V) : Op → Bud → Prop
  | .late i, _ => σ[i]? = some (some v)
  | .tmp d, m => Rep K H Hs v d m
theorem RepP.frame {K : PySem.W.Frag} {H Hs H' Hs' : Hp} {σ : St} {v : V} {p : Op} {m : Bud} (g : Same Hs Hs') (k : ∀ b, m b ≥ 1 → H b ≠ none → H' b = H b) (h : RepP K H Hs σ v p m) : RepP K H' Hs' σ v p m := by
  cases p with
  | late i => exact h
  | tmp d => exact Rep.frame g k h
inductive View (K : PySem.W.Frag) (H Hs : Hp) : V → W → Bud → Prop
  | sc (v : V) (m : Bud) : View K H Hs v (.sc v) m
  | nd {a : Addr} {k : Kd} {vs : List V} {ds : List D} {m : Bud} : NodeR K H a vs k → RepL K H Hs vs ds m → View K H Hs (.ref a) (.nd k ds) m
theorem View.frame {K : PySem.W.Frag} {H Hs Hs' : Hp} {v : V} {w : W} {m : Bud} (g : Same Hs Hs') (h : View K H Hs v w m) : View K H Hs' v w m := by
  cases h with
  | sc v m => exact .sc v m
  | nd n r => exact .nd n (r.frame g fun _ _ _ => rfl)
section
variable {K : PySem.W.Frag} {H Hs H' Hs' H1 Hs1 H2 Hs2 : Hp} {σ : St} {δ δ' : List D} {M M' B m : Bud}
theorem Good.re (g : Good H Hs M) (l : ∀ b, M' b ≤ M b := by intro b; (try dsimp only); omega) : Good H Hs M' := g.drop l
theorem view_ok {p : Op} {v : V} {w : W} (g : Good H Hs (fun b => B b + M b)) (s : RepS K H Hs σ δ M) (r : RepP K H Hs σ v p m) (e : view p δ = .ok (w, δ')) :
    ∃ Hs' M', Good H Hs' (fun b => B b + M' b) ∧ Stp H Hs (fun b => B b + M b) H Hs' (fun b => B b + M' b) ∧ View K H Hs' v w m ∧ RepS K H Hs' σ δ' M' := by
  cases p with
  | tmp d =>
    cases d with
    | sc u =>
      have := ret_ok e
      cases this
      cases r
      exact ⟨Hs, M, g, Stp.refl _ _ _, .sc _ _, s⟩
    | hole => cases e
    | node k o ds =>
      have := ret_ok e
      cases this
      refine ⟨Hs, M, g, Stp.refl _ _ _, ?_, s⟩
      cases r with
      | own n q l => exact .nd n.r (q.mono fun b => by have := l b; omega)
      | shd n q => exact .nd (n.same g.sub) (q.mono fun b => Nat.zero_le _)
  | late i =>
    have r : σ[i]? = some (some v) := r
    unfold view at e
    dsimp only at e
    split at e
    · rename_i u hi
      cases e
      obtain ⟨v', m1, m2, e1, q, l, f⟩ := s.slot hi (by simp)
      rw [r] at e1
      cases e1
      cases q
      exact ⟨Hs, M, g, Stp.refl _ _ _, .sc _ _, s⟩
    · rename_i k ds hi
      cases e
      obtain ⟨v', m1, m2, e1, q, l, f⟩ := s.slot hi (by simp)
      rw [r] at e1
      cases e1
      cases q with
      | shd n q => exact ⟨Hs, M, g, Stp.refl _ _ _, .nd (n.same g.sub) (q.mono fun b => Nat.zero_le _), s⟩
    · rename_i k ds hi
      cases e
      obtain ⟨v', m1, m2, e1, q, l, f⟩ := s.slot hi (by simp)
      rw [r] at e1
      cases e1
      cases q with
      | @own a _ vs _ _ m' n q l' =>
        have g2 : Good H Hs (fun b => m' b + (B b + (one a b + m2 b))) := g.re fun b => by have := l b; have := l' b; omega
        have hsame := shH_same g2 (m := m') fun b => by omega
        have q2 := RepL.share hsame (shH_at (H := H) (Hs := Hs) (m := m')) q
        refine ⟨shH H Hs m', fun b => one a b + m2 b, g2.share, ?_, .nd n.r (q2.mono fun b => Nat.zero_le _), ?_⟩
        · have s1 := Stp.share g2
          exact ⟨fun b o h z => h, fun b h => by
            rcases s1.own b h with q | q
            · left
              have : B b + M b ≤ 1 := g.le b
              have h1 := l b
              have h2 := l' b
              have h3 : m' b + (B b + (one a b + m2 b)) = 1 := q
              show B b + M b = 1
              omega
            · exact .inr q, s1.grow, fun b h h' => by
            rcases s1.shr b h h' with q | q
            · left
              have : B b + M b ≤ 1 := g.le b
              have h1 := l b
              have h2 := l' b
              have h3 : m' b + (B b + (one a b + m2 b)) = 1 := q
              show B b + M b = 1
              omega
            · exact .inr q, fun b h => h⟩
        · have z := f H (shH H Hs m') (some (.ref a)) (.node k true (shrL ds)) (one a) hsame (fun _ _ _ => rfl) (.inr ⟨_, rfl, .own n q2 fun b => by simp⟩)
          rw [set_self r] at z
          exact z
    · cases e
noncomputable def Outs (K : PySem.W.Frag) (H Hs : Hp) (m : Bud) (d : D) (Q : VK) : Prop := ∀ (v : V) (H' : Hp) (m' : Bud), Same H H' → (∀ b, m' b ≤ 1) → (∀ b, m' b = 1 → H' b ≠ none) → (∀ b, H b ≠ none → m' b ≤ m b) → Rep K H' Hs v d m' → Q v H'
theorem Outs.sc {u : V} {Q : VK} (h : Outs K H Hs m (.sc u) Q) : Q u H := h u H (fun _ => 0) (Same.refl _) (fun _ => Nat.zero_le _) (fun _ h => by simp at h) (fun _ _ => Nat.zero_le _) (.sc u _)
theorem upd_same_new {H : Hp} {p : Addr} {o : HO} (h : H p = none) : Same H (upd H p o) := fun b u e => by
  rw [upd_ne (ne_of_none e h)]
  exact e
theorem Outs.new {k : Kd} {ds : List D} {vs : List V} {o : HO} {p : Addr} {Q : VK} (h : Outs K H Hs m (.node k true ds) Q) (hm : ∀ b, m b ≤ 1) (hh : ∀ b, m b = 1 → H b ≠ none) (hp : H p = none) (n : NodeO (upd H p o) p vs k) (r : RepL K H Hs vs ds m) : Q (.ref p) (upd H p o) := by
  have hs := upd_same_new (o := o) hp
  have mp : m p = 0 := by
    have := hm p
    by_cases q : m p = 1
    · exact absurd hp (hh p q)
    · omega
  refine h (.ref p) (upd H p o) (fun b => one p b + m b) hs (fun b => ?_) (fun b q => ?_) (fun b q => ?_) (.own n (r.frame (Same.refl _) fun b hb hn => ?_) fun b => Nat.le_refl _)
  · unfold one
    have := hm b
    split
    · rename_i e; subst e; omega
    · omega
  · by_cases e : b = p
    · subst e; rw [upd_same]; simp
    · rw [upd_ne e]
      exact hh b (by simp only [one, if_neg e] at q; omega)
  · have e : b ≠ p := fun e => by subst e; exact q hp
    simp only [one, if_neg e]
    omega
  · have e : b ≠ p := fun e => by subst e; exact hn hp
    rw [upd_ne e]
theorem outs_of {H0 Hs0 : Hp} {M0 : Bud} {d : D} {Q : VK} (st : Stp H0 Hs0 M0 H Hs (fun b => B b + M b)) (g : Good H Hs (fun b => B b + M b)) (s : RepS K H Hs σ δ M)
    (q : ∀ (v : V) (H' Hs' : Hp) (m M' : Bud), Good H' Hs' (fun b => m b + M' b) → Stp H0 Hs0 M0 H' Hs' (fun b => m b + M' b) → Rep K H' Hs' v d m → RepS K H' Hs' σ δ M' → Q v H') : Outs K H Hs B d Q := by
  intro v H' m' hs h1 h2 h3 r
  have hz : ∀ b, H b = none → M b = 0 ∧ B b = 0 := fun b hb => by
    have := g.has b
    have l : B b + M b ≤ 1 := g.le b
    by_cases e : B b + M b = 1
    · exact absurd hb (this e)
    · omega
  have hst : ∀ b, H b ≠ none → H' b ≠ none := fun b hb => by
    cases e : H b with
    | none => exact absurd e hb
    | some o => rw [hs b o e]; simp
  refine q v H' Hs m' M ⟨fun b o e => hs b o (g.sub b o e), fun b => ?_, fun b h => ?_, fun b h => ?_⟩ ⟨fun b o e z => hs b o (st.keep b o e z), fun b h => ?_, st.grow, st.shr, fun b h => hst b (st.stay b h)⟩ r (s.frame (Same.refl _) fun b hb hn => ?_)
  · have l : B b + M b ≤ 1 := g.le b
    have := h1 b
    by_cases e : H b = none
    · have := hz b e; show m' b + M b ≤ 1; omega
    · have := h3 b e; show m' b + M b ≤ 1; omega
  · have h : m' b + M b = 1 := h
    have l : B b + M b ≤ 1 := g.le b
    by_cases e : H b = none
    · cases q : Hs b with
      | none => rfl
      | some o => rw [g.sub b o q] at e; cases e
    · have := h3 b e
      exact g.ne b (by show B b + M b = 1; omega)
  · have h : m' b + M b = 1 := h
    have l : B b + M b ≤ 1 := g.le b
    by_cases e : m' b = 1
    · exact h2 b e
    · exact hst b (g.has b (by show B b + M b = 1; omega))
  · have h : m' b + M b = 1 := h
    have l : B b + M b ≤ 1 := g.le b
    by_cases e : H b = none
    · right
      cases w : H0 b with
      | none => rfl
      | some o => exact absurd e (st.stay b (by rw [w]; simp))
    · have := h3 b e
      exact st.own b (by show B b + M b = 1; omega)
  · cases e : H b with
    | none => exact absurd e hn
    | some o => exact hs b o e
theorem RepL.app {vs ws : List V} {ds es : List D} {m1 m2 : Bud} (a : RepL K H Hs vs ds m1) (b : RepL K H Hs ws es m2) : RepL K H Hs (vs ++ ws) (ds ++ es) (fun b => m1 b + m2 b) := (a.sep.append b.sep).repL
theorem RepL.len {vs : List V} {ds : List D} {m : Bud} (a : RepL K H Hs vs ds m) : vs.length = ds.length := a.sep.length
end
end T
namespace T
open PySem PySem.Spec L2
noncomputable def tG {α : Type} (K : PySem.W.Frag) (c : M α) (R : Hp → Hp → St → α → V → Bud → Prop) : TE := fun σ H Q => ∃ (δ : List D) (Hs : Hp) (M : Bud) (a : α) (δ' : List D), Good H Hs M ∧ RepS K H Hs σ δ M ∧ c δ = .ok (a, δ') ∧
  ∀ (v : V) (H' Hs' : Hp) (m M' : Bud), Good H' Hs' (fun b => m b + M' b) → Stp H Hs M H' Hs' (fun b => m b + M' b) → R H' Hs' σ a v m → RepS K H' Hs' σ δ' M' → Q v H'
noncomputable def tM (K : PySem.W.Frag) (c : M D) : TE := tG K c fun H Hs _ d v m => Rep K H Hs v d m
noncomputable def tP (K : PySem.W.Frag) (c : M Op) : TE := tG K c fun H Hs σ p v m => RepP K H Hs σ v p m
noncomputable def tT (K : PySem.W.Frag) (c : M Bool) : TT := fun σ H Q => ∃ (δ : List D) (Hs : Hp) (M : Bud) (b : Bool) (δ' : List D), Good H Hs M ∧ RepS K H Hs σ δ M ∧ c δ = .ok (b, δ') ∧
  ∀ (H' Hs' : Hp) (M' : Bud), Good H' Hs' M' → Stp H Hs M H' Hs' M' → RepS K H' Hs' σ δ' M' → Q b H'
noncomputable def RepPs (K : PySem.W.Frag) (H Hs : Hp) (σ : St) : List V → List Op → Bud → Prop
  | [], [], _ => True
  | v :: vs, p :: ps, m => ∃ m1 m2 : Bud, RepP K H Hs σ v p m1 ∧ RepPs K H Hs σ vs ps m2 ∧ ∀ b, m1 b + m2 b ≤ m b
  | _, _, _ => False
theorem RepPs.frame {K : PySem.W.Frag} {H Hs H' Hs' : Hp} {σ : St} (g : Same Hs Hs') : ∀ {vs : List V} {ps : List Op} {m : Bud}, (∀ b, m b ≥ 1 → H b ≠ none → H' b = H b) → RepPs K H Hs σ vs ps m → RepPs K H' Hs' σ vs ps m
  | [], [], _, _, h => h
  | v :: vs, p :: ps, m, k, ⟨m1, m2, a, b, l⟩ => ⟨m1, m2, a.frame g fun c hc => k c (by have := l c; omega), b.frame g fun c hc => k c (by have := l c; omega), l⟩
  | [], _ :: _, _, _, h => h.elim
  | _ :: _, [], _, _, h => h.elim
noncomputable def tPs (K : PySem.W.Frag) (c : M (List Op)) : TA := fun σ H Q => ∃ (δ : List D) (Hs : Hp) (M : Bud) (a : List Op) (δ' : List D), Good H Hs M ∧ RepS K H Hs σ δ M ∧ c δ = .ok (a, δ') ∧
  ∀ (vs : List V) (H' Hs' : Hp) (m M' : Bud), Good H' Hs' (fun b => m b + M' b) → Stp H Hs M H' Hs' (fun b => m b + M' b) → RepPs K H' Hs' σ vs a m → RepS K H' Hs' σ δ' M' → Q vs H'
noncomputable def tDs (K : PySem.W.Frag) (c : M (List D)) : TA := fun σ H Q => ∃ (δ : List D) (Hs : Hp) (M : Bud) (a : List D) (δ' : List D), Good H Hs M ∧ RepS K H Hs σ δ M ∧ c δ = .ok (a, δ') ∧
  ∀ (vs : List V) (H' Hs' : Hp) (m M' : Bud), Good H' Hs' (fun b => m b + M' b) → Stp H Hs M H' Hs' (fun b => m b + M' b) → RepL K H' Hs' vs a m → RepS K H' Hs' σ δ' M' → Q vs H'
section
variable {X : Cx} {e a b : Expr} {es : List Expr} {pos : Pos}
theorem PE.imp {t t' : TE} (h : PE X e t) (w : ∀ σ H Q, t' σ H Q → t σ H Q) : PE X e t' := fun pins s σ H Q I q => h pins s σ H Q I (w σ H Q q)
theorem PT.imp {t t' : TT} (h : PT X e t) (w : ∀ σ H Q, t' σ H Q → t σ H Q) : PT X e t' := fun pins s σ H Q I q => h pins s σ H Q I (w σ H Q q)
theorem PA.imp {t t' : TA} (h : PA X es t) (w : ∀ σ H Q, t' σ H Q → t σ H Q) : PA X es t' := fun pos pins s σ H Q I q => h pos pins s σ H Q I (w σ H Q q)
theorem good0 {H Hs : Hp} {M : Bud} (g : Good H Hs M) : Good H Hs (fun b => (fun _ => 0) b + M b) := g.drop fun b => by simp
theorem stp0 (H Hs : Hp) (M : Bud) : Stp H Hs M H Hs (fun b => (fun _ => 0) b + M b) := by
  have e : (fun b => (fun _ => 0) b + M b) = M := by funext b; simp
  rw [e]
  exact Stp.refl H Hs M
theorem ok_k {v : V} (h : PE X e (tC v)) : PE X e (tM X.K (M.ret (.sc v))) := PE.imp h fun σ H Q ⟨δ, Hs, M, d, δ', g, r, e, q⟩ => by
  have := ret_ok e
  cases this
  exact q v H Hs (fun _ => 0) M (good0 g) (stp0 H Hs M) (.sc v _) r
theorem ok_late {i : Nat} (h : PE X e (tVar i)) : PE X e (tP X.K (lateM i)) := PE.imp h fun σ H Q ⟨δ, Hs, M, p, δ', g, r, e, q⟩ => by
  have fin : ∀ {d : D}, δ[i]? = some d → d ≠ .hole → p = .late i → δ' = δ → tVar i σ H Q := fun hd hn e1 e2 => by
    subst e1 e2
    obtain ⟨v, m1, m2, e3, _⟩ := r.slot hd hn
    exact ⟨v, e3, q v H Hs (fun _ => 0) M (good0 g) (stp0 H Hs M) e3 r⟩
  unfold lateM at e
  split at e
  · rename_i hd
    injection e with e
    cases e
    exact fin hd (by simp) rfl rfl
  · rename_i hd
    injection e with e
    cases e
    exact fin hd (by simp) rfl rfl
  · cases e
theorem ok_v {i : Nat} (h : PE X e (tVar i)) : PE X e (tM X.K (valV i)) := PE.imp h fun σ H Q ⟨δ, Hs, M, d, δ', g, s, e, q⟩ => by
  unfold valV at e
  split at e
  · rename_i u hd
    injection e with e
    cases e
    obtain ⟨v, m1, m2, e3, r, _⟩ := s.slot hd (by simp)
    cases r
    exact ⟨u, e3, q u H Hs (fun _ => 0) M (good0 g) (stp0 H Hs M) (.sc _ _) s⟩
  · rename_i k ds hd
    injection e with e
    cases e
    obtain ⟨v, m1, m2, e3, r, _⟩ := s.slot hd (by simp)
    cases r with
    | shd n r => exact ⟨_, e3, q _ H Hs (fun _ => 0) M (good0 g) (stp0 H Hs M) (.shd n r) s⟩
  · rename_i k ds hd
    injection e with e
    cases e
    obtain ⟨v, m1, m2, e3, r, l, f⟩ := s.slot hd (by simp)
    refine ⟨v, e3, ?_⟩
    have g2 : Good H Hs (fun b => m1 b + m2 b) := g.re fun b => by have := l b; omega
    have hsame := shH_same g2 (m := m1) fun b => by omega
    have r2 := Rep.share hsame (shH_at (H := H) (Hs := Hs) (m := m1)) r
    have st := Stp.share g2
    refine q v H (shH H Hs m1) (fun _ => 0) m2 (good0 g2.share) ⟨fun b o h _ => h, fun b h => ?_, st.grow, fun b h h' => ?_, fun b h => h⟩ r2 ?_
    · have h : (fun _ => 0) b + m2 b = 1 := h
      have := l b
      have := g.le b
      left; simp at h; omega
    · rcases st.shr b h h' with z | z
      · have z : m1 b + m2 b = 1 := z
        have := l b
        have := g.le b
        left; omega
      · exact .inr z
    · have z := f H (shH H Hs m1) (some v) (.node k false (shrL ds)) (fun _ => 0) hsame (fun _ _ _ => rfl) (.inr ⟨v, rfl, r2⟩)
      rw [set_self e3] at z
      exact z.mono fun b => by simp
  · cases e
theorem ok_tmp {c : M D} (h : PE X e (tM X.K c)) : PE X e (tP X.K (c.bnd fun d => M.ret (.tmp d))) := PE.imp h fun σ H Q ⟨δ, Hs, M, p, δ', g, s, e, q⟩ => by
  obtain ⟨d, δ1, e1, e2⟩ := bnd_ok e
  have := ret_ok e2
  cases this
  exact ⟨δ, Hs, M, d, _, g, s, e1, fun v H' Hs' m M' g' st r s' => q v H' Hs' m M' g' st r s'⟩
theorem seq2 {K : PySem.W.Frag} {ca cb : M Op} {σ : St} {H Hs : Hp} {M : Bud} {δ δ1 δ2 : List D} {p q : Op} {R : V → V → Hp → Prop} (g : Good H Hs M) (s : RepS K H Hs σ δ M) (e1 : ca δ = .ok (p, δ1)) (e2 : cb δ1 = .ok (q, δ2))
    (h : ∀ (x y : V) (H2 Hs2 : Hp) (m1 m2 M2 : Bud), Good H2 Hs2 (fun b => (m1 b + m2 b) + M2 b) → Stp H Hs M H2 Hs2 (fun b => (m1 b + m2 b) + M2 b) → RepP K H2 Hs2 σ x p m1 → RepP K H2 Hs2 σ y q m2 → RepS K H2 Hs2 σ δ2 M2 → R x y H2) :
    tP K ca σ H fun x H1 => tP K cb σ H1 fun y H2 => R x y H2 := by
  refine ⟨δ, Hs, M, p, δ1, g, s, e1, fun x H1 Hs1 m1 M1 g1 st1 r1 s1 => ⟨δ1, Hs1, M1, q, δ2, g1.re, s1, e2, fun y H2 Hs2 m2 M2 g2 st2 r2 s2 => ?_⟩⟩
  obtain ⟨G, S, k⟩ := step2 g g1 st1 g2 st2
  have le : ∀ b, m1 b + (m2 b + M2 b) ≤ 1 := G.le
  exact h x y H2 Hs2 m1 m2 M2 G.re (S.drop (fun b => by omega) le) (r1.frame st2.grow k) r2 s2
theorem view2 {K : PySem.W.Frag} {σ : St} {H Hs : Hp} {m1 m2 M : Bud} {δ δ1 δ2 : List D} {p q : Op} {x y : V} {w1 w2 : W} (g : Good H Hs (fun b => (m1 b + m2 b) + M b)) (s : RepS K H Hs σ δ M) (r1 : RepP K H Hs σ x p m1) (r2 : RepP K H Hs σ y q m2)
    (e1 : view p δ = .ok (w1, δ1)) (e2 : view q δ1 = .ok (w2, δ2)) : ∃ Hs' M', Good H Hs' (fun b => (m1 b + m2 b) + M' b) ∧ Stp H Hs (fun b => (m1 b + m2 b) + M b) H Hs' (fun b => (m1 b + m2 b) + M' b) ∧ View K H Hs' x w1 m1 ∧ View K H Hs' y w2 m2 ∧ RepS K H Hs' σ δ2 M' := by
  obtain ⟨Hs1, M1, g1, st1, v1, s1⟩ := view_ok (B := fun b => m1 b + m2 b) g s r1 e1
  obtain ⟨Hs2, M2, g2, st2, v2, s2⟩ := view_ok (B := fun b => m1 b + m2 b) g1 s1 (r2.frame st1.grow fun _ _ _ => rfl) e2
  refine ⟨Hs2, M2, g2, ?_, v1.frame st2.grow, v2, s2⟩
  have z := step2 (m1 := fun _ => 0) g (g1.re fun b => by simp) (st1.drop (fun b => by simp) g1.le) g2 st2
  exact z.2.1.drop (fun b => by simp) z.1.le
noncomputable def r2W (K : PySem.W.Frag) (f : W → W → Option D) : R2 := fun x y H Q => ∃ (Hs : Hp) (w1 w2 : W) (m1 m2 : Bud) (d : D), Same Hs H ∧ (∀ b, m1 b + m2 b ≤ 1) ∧ (∀ b, m1 b + m2 b = 1 → H b ≠ none) ∧ View K H Hs x w1 m1 ∧ View K H Hs y w2 m2 ∧ f w1 w2 = some d ∧ Outs K H Hs (fun b => m1 b + m2 b) d Q
theorem op2 {K : PySem.W.Frag} {ca cb : M Op} {f : W → W → Option D} {σ : St} {H : Hp} {Q : VK} (h : tM K (ca.bnd fun p => cb.bnd fun q => (view p).bnd fun x => (view q).bnd fun y => lift (f x y)) σ H Q) : tOp (r2W K f) (tP K ca) (tP K cb) σ H Q := by
  obtain ⟨δ, Hs, M, d, δ', g, s, e, q⟩ := h
  obtain ⟨p, δ1, e1, e⟩ := bnd_ok e
  obtain ⟨p2, δ2, e2, e⟩ := bnd_ok e
  obtain ⟨w1, δ3, e3, e⟩ := bnd_ok e
  obtain ⟨w2, δ4, e4, e⟩ := bnd_ok e
  obtain ⟨e5, rfl⟩ := lift_ok e
  refine seq2 g s e1 e2 fun x y H2 Hs2 m1 m2 M2 g2 st2 r1 r2 s2 => ?_
  obtain ⟨Hs3, M3, g3, st3, v1, v2, s3⟩ := view2 g2 s2 r1 r2 e3 e4
  have z := step2 (m1 := fun _ => 0) g (g2.re fun b => by simp) (st2.drop (fun b => by simp) g2.le) g3 st3
  have st : Stp H Hs M H2 Hs3 (fun b => (m1 b + m2 b) + M3 b) := z.2.1.drop (fun b => by simp) z.1.le
  exact ⟨Hs3, w1, w2, m1, m2, d, g3.sub, fun b => by have : (m1 b + m2 b) + M3 b ≤ 1 := g3.le b; omega, fun b hb => g3.has b (by have : (m1 b + m2 b) + M3 b ≤ 1 := g3.le b; show (m1 b + m2 b) + M3 b = 1; omega), v1, v2, e5, outs_of st g3 s3 q⟩
theorem ok_bin {op : Operator} {ca cb : M Op} (ho : OpR X (binaryOp op) (r2W X.K (binW op))) (ha : PE X a (tP X.K ca)) (hb : PE X b (tP X.K cb)) :
    PE X (.BinOp a op b pos) (tM X.K (ca.bnd fun p => cb.bnd fun q => (view p).bnd fun x => (view q).bnd fun y => lift (binW op x y))) := PE.imp (pe_op ho ha hb) fun σ H Q h => op2 h
theorem bin_ok (op : Operator) : OpR X (binaryOp op) (r2W X.K (binW op)) := by
  intro pins s σ H x y v u Q I rx ry h
  obtain ⟨Hs, w1, w2, m1, m2, d, hs, h1, h2, v1, v2, e, o⟩ := h
  cases op with
  | Add =>
    replace e : addW w1 w2 = some d := e
    unfold addW at e
    split at e
    · cases e; cases v1; cases v2; exact op_add pins s σ H _ _ v u Q I rx ry ⟨_, _, rfl, rfl, o.sc⟩
    · split at e
      · rename_i hc; cases e; cases v1; cases v2; exact op_add_str pins s σ H _ _ v u Q I rx ry ⟨_, _, rfl, rfl, hc, o.sc⟩
      · cases e
    · unfold newL at e
      split at e
      · rename_i hc
        cases e
        cases v1 with
        | nd n1 r1 => cases v2 with
          | nd n2 r2 =>
            have l1 := r1.len
            have l2 := r2.len
            rw [List.length_append] at hc
            exact op_cat pins s σ H _ _ v u Q I rx ry ⟨_, _, _, _, rfl, rfl, n1, n2, by omega, fun p hp => o.new h1 h2 hp (show upd H p _ p = _ from upd_same) (r1.app r2)⟩
      · cases e
    · cases e
  | Sub =>
    obtain ⟨i, j, rfl, rfl, e'⟩ := intsW_ok e
    cases e'; cases v1; cases v2; exact op_sub pins s σ H _ _ v u Q I rx ry ⟨_, _, rfl, rfl, o.sc⟩
  | Mult =>
    obtain ⟨i, j, rfl, rfl, e'⟩ := intsW_ok e
    split at e'
    · rename_i hc; cases e'; cases v1; cases v2; exact op_mul pins s σ H _ _ v u Q I rx ry ⟨_, _, rfl, rfl, hc, o.sc⟩
    · cases e'
  | FloorDiv =>
    obtain ⟨i, j, rfl, rfl, e'⟩ := intsW_ok e
    split at e'
    · rename_i hc; cases e'; cases v1; cases v2; exact op_fdiv pins s σ H _ _ v u Q I rx ry ⟨_, _, rfl, rfl, hc, o.sc⟩
    · cases e'
  | Mod =>
    obtain ⟨i, j, rfl, rfl, e'⟩ := intsW_ok e
    split at e'
    · rename_i hc; cases e'; cases v1; cases v2; exact op_mod pins s σ H _ _ v u Q I rx ry ⟨_, _, rfl, rfl, hc, o.sc⟩
    · cases e'
  | Pow =>
    obtain ⟨i, j, rfl, rfl, e'⟩ := intsW_ok e
    split at e'
    · rename_i hc; cases e'; cases v1; cases v2; exact op_pow pins s σ H _ _ v u Q I rx ry ⟨_, _, rfl, rfl, hc, o.sc⟩
    · cases e'
  | _ => cases e
end
end T
namespace T
open PySem PySem.Spec L2
mutual
theorem Rep.den {K : PySem.W.Frag} {H Hs : Hp} (g : Same Hs H) : ∀ {v : V} {d : D} {m : Bud} {a : PyData}, Rep K H Hs v d m → py d = some a → Den K H v a
  | _, _, _, _, .sc .non _, h => by simp only [py, Option.some.injEq] at h; subst h; exact .non
  | _, _, _, _, .sc (.bl b) _, h => by simp only [py, Option.some.injEq] at h; subst h; exact .bl b
  | _, _, _, _, .sc (.int b) _, h => by simp only [py, Option.some.injEq] at h; subst h; exact .int b
  | _, _, _, _, .sc (.str b) _, h => by simp only [py, Option.some.injEq] at h; subst h; exact .str b
  | _, _, _, _, .sc (.byt b) _, h => by simp [py] at h
  | _, _, _, _, .sc (.flt b) _, h => by simp [py] at h
  | _, _, _, _, .sc (.ref b) _, h => by simp [py] at h
  | _, _, _, _, .sc (.ty b) _, h => by simp [py] at h
  | _, _, _, _, .hole v _, h => by simp [py] at h
  | _, _, _, _, .own (k := .lst) n r _, h => by
    simp only [py, Option.map_eq_some_iff] at h
    obtain ⟨x, h, rfl⟩ := h
    exact .lst (.inl (.inl n)) (RepL.den g r h)
  | _, _, _, _, .own (k := .frl) n r _, h => n.elim
  | _, _, _, _, .own (k := .tup) n r _, h => by
    simp only [py, Option.map_eq_some_iff] at h
    obtain ⟨x, h, rfl⟩ := h
    exact .tup (.inl (.inl n)) (RepL.den g r h)
  | _, _, _, _, .own (k := .ftp) n r _, h => n.elim
  | _, _, _, _, .own (k := .dic _) n r _, h => by simp [py] at h
  | _, _, _, _, .own (k := .ins _ _) n r _, h => by simp [py] at h
  | _, _, _, _, .shd (k := .lst) n r, h => by
    simp only [py, Option.map_eq_some_iff] at h
    obtain ⟨x, h, rfl⟩ := h
    exact .lst (.inl (.inl (g _ _ n))) (RepL.den g r h)
  | _, _, _, _, .shd (k := .frl) n r, h => by
    simp only [py, Option.map_eq_some_iff] at h
    obtain ⟨x, h, rfl⟩ := h
    exact .lst (g.seq n) (RepL.den g r h)
  | _, _, _, _, .shd (k := .tup) n r, h => by
    simp only [py, Option.map_eq_some_iff] at h
    obtain ⟨x, h, rfl⟩ := h
    exact .tup (.inl (.inl (g _ _ n))) (RepL.den g r h)
  | _, _, _, _, .shd (k := .ftp) n r, h => by
    simp only [py, Option.map_eq_some_iff] at h
    obtain ⟨x, h, rfl⟩ := h
    exact .tup (Same.tupq' g n) (RepL.den g r h)
  | _, _, _, _, .shd (k := .dic _) n r, h => by simp [py] at h
  | _, _, _, _, .shd (k := .ins _ _) n r, h => by simp [py] at h
theorem RepL.den {K : PySem.W.Frag} {H Hs : Hp} (g : Same Hs H) : ∀ {vs : List V} {ds : List D} {m : Bud} {as : List PyData}, RepL K H Hs vs ds m → pyL ds = some as → DenL K H vs as
  | _, _, _, _, .nil _, h => by simp only [pyL, Option.some.injEq] at h; subst h; exact .nil
  | _, _, _, _, .cons x y _, h => by
    simp only [pyL, Option.bind_eq_some_iff, Option.map_eq_some_iff] at h
    obtain ⟨a, h1, as, h2, rfl⟩ := h
    exact .cons (Rep.den g x h1) (RepL.den g y h2)
end
theorem View.den {K : PySem.W.Frag} {H Hs : Hp} (g : Same Hs H) {v : V} {w : W} {m : Bud} {a : PyData} (h : View K H Hs v w m) (e : py (toD w) = some a) : Den K H v a := by
  cases h with
  | sc v m => exact Rep.den g (.sc v m) e
  | @nd ad k vs ds m n r =>
    cases k with
    | lst =>
      simp only [toD, py, Option.map_eq_some_iff] at e
      obtain ⟨x, e, rfl⟩ := e
      exact .lst (.inl (.inl n)) (r.den g e)
    | frl =>
      simp only [toD, py, Option.map_eq_some_iff] at e
      obtain ⟨x, e, rfl⟩ := e
      exact .lst n (r.den g e)
    | tup =>
      simp only [toD, py, Option.map_eq_some_iff] at e
      obtain ⟨x, e, rfl⟩ := e
      exact .tup (.inl (.inl n)) (r.den g e)
    | ftp =>
      simp only [toD, py, Option.map_eq_some_iff] at e
      obtain ⟨x, e, rfl⟩ := e
      exact .tup n (r.den g e)
    | dic ks => simp [toD, py] at e
    | ins C fs => simp [toD, py] at e
section
variable {X : Cx} {e a b c : Expr} {es rest : List Expr} {pos : Pos}
theorem eqPy_ok {a b : PyData} {t : Bool} (h : eqPy a b = some t) : SeqAt.shaped a = true ∧ SeqAt.shaped b = true ∧ PyData.eqv a b = t := by
  unfold eqPy at h
  split at h
  · rename_i q
    exact ⟨q.1, q.2, Option.some.inj h⟩
  · cases h
theorem eqW_ok {K : PySem.W.Frag} {H Hs : Hp} (g : Same Hs H) {x y : V} {w1 w2 : W} {m1 m2 : Bud} {t : Bool} (v1 : View K H Hs x w1 m1) (v2 : View K H Hs y w2 m2) (h : eqW w1 w2 = some t) :
    (scal x y = true ∧ decide (x = y) = t) ∨ ∃ d e, Den K H x d ∧ Den K H y e ∧ SeqAt.shaped d = true ∧ SeqAt.shaped e = true ∧ PyData.eqv d e = t := by
  have go : ((py (toD w1)).bind fun a => (py (toD w2)).bind fun b => eqPy a b) = some t → ∃ d e, Den K H x d ∧ Den K H y e ∧ SeqAt.shaped d = true ∧ SeqAt.shaped e = true ∧ PyData.eqv d e = t := fun q => by
    simp only [Option.bind_eq_some_iff] at q
    obtain ⟨d, q1, e, q2, q3⟩ := q
    obtain ⟨s1, s2, s3⟩ := eqPy_ok q3
    exact ⟨d, e, v1.den g q1, v2.den g q2, s1, s2, s3⟩
  cases v1 with
  | sc u _ => cases v2 with
    | sc v _ =>
      have h : (if scal x y = true then some (decide (x = y)) else (py (.sc x)).bind fun a => (py (.sc y)).bind fun b => eqPy a b) = some t := h
      by_cases q : scal x y = true
      · rw [if_pos q] at h
        exact .inl ⟨q, Option.some.inj h⟩
      · rw [if_neg q] at h
        exact .inr (go h)
    | nd n r => exact .inr (go h)
  | nd n r => exact .inr (go h)
theorem boolM_ok {c : M D} {δ : List D} {r : Bool × List D} (h : boolM c δ = .ok r) : c δ = .ok (.sc (.bl r.1), r.2) := by
  obtain ⟨d, δ1, e1, e2⟩ := bnd_ok h
  obtain ⟨b, δ2⟩ := r
  obtain ⟨e3, rfl⟩ := lift_ok e2
  cases d with
  | sc v => cases v with
    | bl t => cases e3; exact e1
    | _ => cases e3
  | _ => cases e3
theorem test_of {c : M D} {σ : St} {H : Hp} {Q : Bool → Hp → Prop} {K : PySem.W.Frag} (h : tT K (boolM c) σ H Q) : tM K c σ H fun x H' => ∃ k, x = .bl k ∧ Q k H' := by
  obtain ⟨δ, Hs, M, b, δ', g, s, e, q⟩ := h
  refine ⟨δ, Hs, M, .sc (.bl b), δ', g, s, boolM_ok e, fun v H' Hs' m M' g' st r s' => ?_⟩
  cases r
  exact ⟨b, rfl, q H' Hs' M' g'.re (st.drop (fun b => by omega) g'.le) s'⟩
theorem op1 {K : PySem.W.Frag} {ca : M Op} {f : W → Option D} {σ : St} {H : Hp} {Q : VK} {r : V → Hp → VK → Prop} (h : tM K ((ca.bnd view).bnd fun x => lift (f x)) σ H Q)
    (hr : ∀ (x : V) (H Hs : Hp) (w : W) (m : Bud) (d : D), Same Hs H → (∀ b, m b ≤ 1) → (∀ b, m b = 1 → H b ≠ none) → View K H Hs x w m → f w = some d → Outs K H Hs m d Q → r x H Q) : tUn r (tP K ca) σ H Q := by
  obtain ⟨δ, Hs, M, d, δ', g, s, e, q⟩ := h
  obtain ⟨w, δ2, e, e5⟩ := bnd_ok e
  obtain ⟨p, δ1, e1, e3⟩ := bnd_ok e
  obtain ⟨e6, rfl⟩ := lift_ok e5
  refine ⟨δ, Hs, M, p, δ1, g, s, e1, fun x H2 Hs2 m1 M2 g2 st2 r1 s2 => ?_⟩
  obtain ⟨Hs3, M3, g3, st3, v1, s3⟩ := view_ok (B := m1) g2 s2 r1 e3
  have z := step2 (m1 := fun _ => 0) g (g2.re fun b => by simp) (st2.drop (fun b => by simp) g2.le) g3 st3
  have st : Stp H Hs M H2 Hs3 (fun b => m1 b + M3 b) := z.2.1.drop (fun b => by simp) z.1.le
  exact hr x H2 Hs3 w m1 d g3.sub (fun b => by have : m1 b + M3 b ≤ 1 := g3.le b; omega) (fun b hb => g3.has b (by have : m1 b + M3 b ≤ 1 := g3.le b; show m1 b + M3 b = 1; omega)) v1 e6 (outs_of st g3 s3 q)
theorem tru_of {K : PySem.W.Frag} {H Hs : Hp} {v : V} {w : W} {m : Bud} {t : Bool} (h : View K H Hs v w m) (e : truW w = some t) : TruV K v H t := by
  cases h with
  | sc v m =>
    cases v with
    | bl b => cases e; rfl
    | int i => cases e; show decide (i ≠ 0) = (i != 0); rw [Bool.eq_iff_iff]; simp
    | str x =>
      have e : (if x.length ≤ sizeLine then some (decide (x.length ≠ 0)) else none) = some t := e
      split at e
      · rename_i q
        cases e
        exact ⟨q, by rw [Bool.eq_iff_iff]; simp⟩
      · cases e
    | non => cases e; rfl
    | _ => cases e
  | @nd a k vs ds m n r =>
    have l : (!vs.isEmpty) = !ds.isEmpty := by
      have := r.len
      cases vs <;> cases ds <;> simp at this ⊢
    cases k with
    | lst => cases e; exact .inl ⟨vs, .inl (.inl n), by rw [l]⟩
    | frl => cases e; exact .inl ⟨vs, n, by rw [l]⟩
    | tup => cases e; exact .inr (.inl ⟨vs, .inl (.inl n), by rw [l]⟩)
    | ftp => cases e; exact .inr (.inl ⟨vs, n, by rw [l]⟩)
    | dic ks =>
      cases e
      obtain ⟨hl, n⟩ := n
      refine .inr (.inr ⟨_, n, ?_⟩)
      rw [← l]
      cases ks <;> cases vs <;> simp at hl ⊢
    | ins C fs => cases e
theorem ok_tst {ca : M Op} (ha : PE X e (tP X.K ca)) (he : ∀ whole, isTrue e X.env whole = (do let v ← whole; standAt e.pos; holding [v] (truthy v)) := by intro _; rfl) :
    PT X e (tT X.K (ca.bnd fun p => (view p).bnd fun w => lift (truW w))) := PT.imp (pt_truth ha he) fun σ H Q h => by
  obtain ⟨δ, Hs, M, t, δ', g, s, e, q⟩ := h
  obtain ⟨p, δ1, e1, e⟩ := bnd_ok e
  obtain ⟨w, δ2, e3, e5⟩ := bnd_ok e
  obtain ⟨e6, rfl⟩ := lift_ok e5
  refine ⟨δ, Hs, M, p, δ1, g, s, e1, fun x H2 Hs2 m1 M2 g2 st2 r1 s2 => ?_⟩
  obtain ⟨Hs3, M3, g3, st3, v1, s3⟩ := view_ok (B := m1) g2 s2 r1 e3
  have z := step2 (m1 := fun _ => 0) g (g2.re fun b => by simp) (st2.drop (fun b => by simp) g2.le) g3 st3
  exact ⟨t, tru_of v1 e6, q H2 Hs3 M3 g3.re (z.2.1.drop (fun b => by simp) z.1.le) s3⟩
end
end T
namespace T
open PySem PySem.Spec L2
section
variable {X : Cx} {e a b c : Expr} {es rest : List Expr} {pos : Pos}
theorem PW.imp {t t' : TT} (h : PW X e t) (w : ∀ σ H Q, t' σ H Q → t σ H Q) : PW X e t' := fun wh pins s σ H Q I q => h wh pins s σ H Q I (w σ H Q q)
theorem tt_seq {K : PySem.W.Frag} {ca : M Bool} {f : Bool → M Bool} {σ : St} {H : Hp} {Q : Bool → Hp → Prop} (h : tT K (ca.bnd f) σ H Q) : tT K ca σ H fun t H1 => tT K (f t) σ H1 Q := by
  obtain ⟨δ, Hs, M, b, δ', g, s, e, q⟩ := h
  obtain ⟨t, δ1, e1, e2⟩ := bnd_ok e
  refine ⟨δ, Hs, M, t, δ1, g, s, e1, fun H1 Hs1 M1 g1 st1 s1 => ⟨δ1, Hs1, M1, b, δ', g1, s1, e2, fun H2 Hs2 M2 g2 st2 s2 => ?_⟩⟩
  have z := step2 (m1 := fun _ => 0) g (g1.re fun b => by simp) (st1.drop (fun b => by simp) g1.le) g2 st2
  exact q H2 Hs2 M2 g2 (z.2.1.drop (fun b => by simp) z.1.le) s2
theorem tt_ret {K : PySem.W.Frag} {t : Bool} {σ : St} {H : Hp} {Q : Bool → Hp → Prop} (h : tT K (M.ret t) σ H Q) : Q t H := by
  obtain ⟨δ, Hs, M, b, δ', g, s, e, q⟩ := h
  have := ret_ok e
  cases this
  exact q H Hs M g (Stp.refl _ _ _) s
theorem ok_or1 {ca : M Bool} (ha : PT X a (tT X.K ca)) : PW X (.BoolOp .Or [a] pos) (tT X.K ca) := pw_or1 ha
theorem ok_orT {ca cb : M Bool} (ha : PT X a (tT X.K ca)) (hb : PW X (.BoolOp .Or (b :: rest) pos) (tT X.K cb)) : PW X (.BoolOp .Or (a :: b :: rest) pos) (tT X.K (ca.bnd fun t => if t then M.ret true else cb)) :=
  PW.imp (pw_or ha hb) fun σ H Q h => by
    obtain ⟨δ, Hs, M, t, δ', g, s, e, q⟩ := tt_seq h
    refine ⟨δ, Hs, M, t, δ', g, s, e, fun H' Hs' M' g' st s' => ?_⟩
    have z := q H' Hs' M' g' st s'
    cases t with
    | false => exact z
    | true => exact tt_ret z
theorem ok_notT {ca : M Bool} (ha : PT X a (tT X.K ca)) : PT X (.UnaryOp .Not a pos) (tT X.K (ca.bnd fun t => M.ret (!t))) :=
  PT.imp (pt_not ha) fun σ H Q h => by
    obtain ⟨δ, Hs, M, t, δ', g, s, e, q⟩ := tt_seq h
    exact ⟨δ, Hs, M, t, δ', g, s, e, fun H' Hs' M' g' st s' => tt_ret (q H' Hs' M' g' st s')⟩
theorem vw_seq {K : PySem.W.Frag} {ca : M Op} {f : W → M D} {σ : St} {H : Hp} {Q : VK} (h : tM K ((ca.bnd view).bnd f) σ H Q) : tP K ca σ H fun x H1 => ∃ (Hs : Hp) (w : W) (m : Bud), View K H1 Hs x w m ∧ tM K (f w) σ H1 Q := by
  obtain ⟨δ, Hs, M, d, δ', g, s, e, q⟩ := h
  obtain ⟨w, δ2, e, e5⟩ := bnd_ok e
  obtain ⟨p, δ1, e1, e3⟩ := bnd_ok e
  refine ⟨δ, Hs, M, p, δ1, g, s, e1, fun x H2 Hs2 m1 M2 g2 st2 r1 s2 => ?_⟩
  obtain ⟨Hs3, M3, g3, st3, v1, s3⟩ := view_ok (B := m1) g2 s2 r1 e3
  refine ⟨Hs3, w, m1, v1, δ2, Hs3, M3, d, δ', g3.re, s3, e5, fun v H4 Hs4 m4 M4 g4 st4 r4 s4 => ?_⟩
  have z := step2 (m1 := fun _ => 0) g (g2.re fun b => by simp) (st2.drop (fun b => by simp) g2.le) g3 st3
  have st : Stp H Hs M H2 Hs3 (fun b => m1 b + M3 b) := z.2.1.drop (fun b => by simp) z.1.le
  have z := step2 (m1 := m1) (M1 := M3) g g3 st g4 st4
  exact q v H4 Hs4 m4 M4 g4 (z.2.1.drop (fun b => by omega) z.1.le) r4 s4
theorem tm_ret {K : PySem.W.Frag} {v : V} {σ : St} {H : Hp} {Q : VK} (h : tM K (M.ret (.sc v)) σ H Q) : Q v H := by
  obtain ⟨δ, Hs, M, b, δ', g, s, e, q⟩ := h
  have := ret_ok e
  cases this
  exact q v H Hs (fun _ => 0) M (good0 g) (stp0 _ _ _) (.sc v _) s
theorem tm_stk {K : PySem.W.Frag} {σ : St} {H : Hp} {Q : VK} (h : tM K stk σ H Q) : False := by
  obtain ⟨δ, Hs, M, b, δ', g, s, e, q⟩ := h
  cases e
theorem ok_one {op} {ca : M D} (ha : PE X a (tM X.K ca)) : PE X (.BoolOp op [a] pos) (tM X.K ca) := pe_one ha
theorem ok_andV {ca : M Op} {cb : M D} (ha : PE X a (tP X.K ca)) (hb : PE X (.BoolOp .And (b :: rest) pos) (tM X.K cb)) : PE X (.BoolOp .And (a :: b :: rest) pos) (tM X.K ((ca.bnd view).bnd (andM cb))) :=
  PE.imp (pe_and ha hb) fun σ H Q h => by
    obtain ⟨δ, Hs, M, t, δ', g, s, e, q⟩ := vw_seq h
    refine ⟨δ, Hs, M, t, δ', g, s, e, fun v H' Hs' m M' g' st r s' => ?_⟩
    obtain ⟨Hs2, w, m2, v2, z⟩ := q v H' Hs' m M' g' st r s'
    cases v2 with
    | sc u _ => cases v with
      | bl t => cases t with
        | true => exact ⟨true, rfl, z⟩
        | false => exact ⟨false, rfl, tm_ret z⟩
      | _ => exact (tm_stk z).elim
    | nd n r => exact (tm_stk z).elim
theorem ok_notV {ca : M Op} (ha : PE X a (tP X.K ca)) : PE X (.UnaryOp .Not a pos) (tM X.K ((ca.bnd view).bnd fun w => lift (notW w))) :=
  PE.imp (pe_not ha) fun σ H Q h => by
    obtain ⟨δ, Hs, M, t, δ', g, s, e, q⟩ := vw_seq h
    refine ⟨δ, Hs, M, t, δ', g, s, e, fun v H' Hs' m M' g' st r s' => ?_⟩
    obtain ⟨Hs2, w, m2, v2, z⟩ := q v H' Hs' m M' g' st r s'
    cases v2 with
    | sc u _ => cases v with
      | bl t => exact ⟨t, rfl, tm_ret z⟩
      | _ => exact (tm_stk z).elim
    | nd n r => exact (tm_stk z).elim
theorem RepL.at {K : PySem.W.Frag} {H Hs : Hp} {vs : List V} {ds : List D} {m : Bud} {j : Nat} {d : D} (r : RepL K H Hs vs ds m) (e : ds[j]? = some d) : ∃ (v : V) (m1 : Bud), vs[j]? = some v ∧ Rep K H Hs v d m1 ∧ ∀ b, m1 b ≤ m b := r.sep.get e
theorem Outs.part {K : PySem.W.Frag} {H Hs : Hp} {m m1 : Bud} {v : V} {d : D} {Q : VK} (h : Outs K H Hs m d Q) (hm : ∀ b, m b ≤ 1) (hh : ∀ b, m b = 1 → H b ≠ none) (l : ∀ b, m1 b ≤ m b) (r : Rep K H Hs v d m1) : Q v H :=
  h v H m1 (Same.refl _) (fun b => Nat.le_trans (l b) (hm b)) (fun b e => hh b (by have := l b; have := hm b; omega)) (fun b _ => l b) r
theorem ixN_eq (n : Nat) (i : Int) : ixN' n i = ixN n i := rfl
theorem ix_ok : IxR X (r2W X.K ixW) := by
  intro value slice pins s σ H x y v u Q I rx ry h hsl
  obtain ⟨Hs, w1, w2, m1, m2, d, hs, h1, h2, v1, v2, e, o⟩ := h
  have fin : ∀ {ds : List D} {vs : List V} {i : Int}, RepL X.K H Hs vs ds m1 → ((ixN' ds.length i).bind fun j => ds[j]?) = some d → ∃ z, atI vs i = some z ∧ Q z H := fun {ds vs i} r e => by
    simp only [Option.bind_eq_some_iff] at e
    obtain ⟨j, e1, e2⟩ := e
    obtain ⟨z, m3, e3, rz, l⟩ := r.at e2
    refine ⟨z, ?_, o.part h1 h2 (fun b => by have := l b; omega) rz⟩
    unfold atI
    rw [r.len, ← ixN_eq, e1]
    exact e3
  unfold ixW at e
  split at e
  · cases v1 with
    | nd n r => cases v2; obtain ⟨z, e1, q⟩ := fin r e; exact ix_list value slice pins s σ H _ _ v u Q I rx ry ⟨_, _, _, z, rfl, rfl, .inl (.inl n), e1, q⟩ hsl
  · cases v1 with
    | nd n r => cases v2; obtain ⟨z, e1, q⟩ := fin r e; exact ix_list value slice pins s σ H _ _ v u Q I rx ry ⟨_, _, _, z, rfl, rfl, n, e1, q⟩ hsl
  · cases v1 with
    | nd n r => cases v2; obtain ⟨z, e1, q⟩ := fin r e; exact ix_tup value slice pins s σ H _ _ v u Q I rx ry ⟨_, _, _, z, rfl, rfl, .inl (.inl n), e1, q⟩ hsl
  · cases v1 with
    | nd n r => cases v2; obtain ⟨z, e1, q⟩ := fin r e; exact ix_tup value slice pins s σ H _ _ v u Q I rx ry ⟨_, _, _, z, rfl, rfl, n, e1, q⟩ hsl
  · split at e
    · rename_i z i hz
      cases v1; cases v2
      simp only [Option.map_eq_some_iff] at e
      obtain ⟨c, e, rfl⟩ := e
      exact ix_str value slice pins s σ H _ _ v u Q I rx ry ⟨_, _, c, rfl, rfl, hz, e, o.sc⟩ hsl
    · cases e
  · cases e
end
end T
namespace T
open PySem PySem.Spec L2
section
variable {X : Cx} {e a b c : Expr} {es rest : List Expr} {pos : Pos}
theorem tG.mono {α : Type} {K : PySem.W.Frag} {c : M α} {R : Hp → Hp → St → α → V → Bud → Prop} {σ : St} {H : Hp} {Q Q' : VK} (h : tG K c R σ H Q) (w : ∀ v H', Q v H' → Q' v H') : tG K c R σ H Q' := by
  obtain ⟨δ, Hs, M, a, δ', g, s, e, q⟩ := h
  exact ⟨δ, Hs, M, a, δ', g, s, e, fun v H' Hs' m M' g' st r s' => w v H' (q v H' Hs' m M' g' st r s')⟩
theorem RepL.take {K : PySem.W.Frag} {H Hs : Hp} {vs : List V} {ds : List D} {m : Bud} (r : RepL K H Hs vs ds m) (n : Nat) : RepL K H Hs (vs.take n) (ds.take n) m := (r.sep.take n).repL
theorem RepL.drop {K : PySem.W.Frag} {H Hs : Hp} {vs : List V} {ds : List D} {m : Bud} (r : RepL K H Hs vs ds m) (n : Nat) : RepL K H Hs (vs.drop n) (ds.drop n) m := (r.sep.drop n).repL
noncomputable def rSlW (K : PySem.W.Frag) : V → Option Int → Option Int → Hp → VK → Prop := fun x lo hi H Q => ∃ (Hs : Hp) (w : W) (m : Bud) (d : D), Same Hs H ∧ (∀ b, m b ≤ 1) ∧ (∀ b, m b = 1 → H b ≠ none) ∧ View K H Hs x w m ∧ slD w lo hi = some d ∧ Outs K H Hs m d Q
theorem sl_ok : SlR X (rSlW X.K) := by
  intro pins s σ H x v vl vu lo hi sl Q I rx hsl pl pu h
  obtain ⟨Hs, w, m, d, hs, h1, h2, v1, e, o⟩ := h
  have go : ∀ {a : Addr} {vs : List V} {ds : List D}, RepL X.K H Hs vs ds m → d = .node .lst true (cutD ds lo hi) → ∀ p, H p = none → Q (.ref p) (upd H p (.lst (cutV vs lo hi))) := fun {a vs ds} r e p hp => by
    subst e
    refine o.new h1 h2 hp (vs := cutV vs lo hi) upd_same ?_
    unfold cutV cutD
    rw [r.len]
    exact (r.drop _).take _
  unfold slD at e
  split at e
  · cases v1 with
    | nd n r => exact sl_list pins s σ H _ v vl vu lo hi sl Q I rx hsl pl pu ⟨_, _, rfl, .inl (.inl n), go (a := 0) r (Option.some.inj e).symm⟩
  · cases v1 with
    | nd n r => exact sl_list pins s σ H _ v vl vu lo hi sl Q I rx hsl pl pu ⟨_, _, rfl, n, go (a := 0) r (Option.some.inj e).symm⟩
  · split at e
    · rename_i hz
      cases e
      cases v1
      exact sl_str pins s σ H _ v vl vu lo hi sl Q I rx hsl pl pu ⟨_, rfl, hz, o.sc⟩
    · cases e
  · cases e
noncomputable def tW (K : PySem.W.Frag) (c : M (Option Int)) : TO := fun σ H Q => ∃ (δ : List D) (Hs : Hp) (M : Bud) (l : Option Int) (δ' : List D), Good H Hs M ∧ RepS K H Hs σ δ M ∧ c δ = .ok (l, δ') ∧
  ∀ (H' Hs' : Hp) (M' : Bud), Good H' Hs' M' → Stp H Hs M H' Hs' M' → RepS K H' Hs' σ δ' M' → Q l H'
theorem PO.imp {o : Option Expr} {t t' : TO} (h : PO X o t) (w : ∀ σ H Q, t' σ H Q → t σ H Q) : PO X o t' := fun pins s σ H Q I q => h pins s σ H Q I (w σ H Q q)
theorem ok_no : PO X none (tW X.K (M.ret none)) := PO.imp po_none fun σ H Q h => by
  obtain ⟨δ, Hs, M, b, δ', g, s, e, q⟩ := h
  have := ret_ok e
  cases this
  exact q H Hs M g (Stp.refl _ _ _) s
theorem ok_part {ca : M Op} (ha : PE X a (tP X.K ca)) : PO X (some a) (tW X.K ((ca.bnd view).bnd fun w => lift (intP w))) := PO.imp (po_some ha) fun σ H Q h => by
  obtain ⟨δ, Hs, M, l, δ', g, s, e, q⟩ := h
  obtain ⟨w, δ2, e, e5⟩ := bnd_ok e
  obtain ⟨p, δ1, e1, e3⟩ := bnd_ok e
  obtain ⟨e6, rfl⟩ := lift_ok e5
  refine ⟨δ, Hs, M, p, δ1, g, s, e1, fun x H2 Hs2 m1 M2 g2 st2 r1 s2 => ?_⟩
  obtain ⟨Hs3, M3, g3, st3, v1, s3⟩ := view_ok (B := m1) g2 s2 r1 e3
  have z := step2 (m1 := fun _ => 0) g (g2.re fun b => by simp) (st2.drop (fun b => by simp) g2.le) g3 st3
  have fin := q H2 Hs3 M3 g3.re (z.2.1.drop (fun b => by simp) z.1.le) s3
  cases v1 with
  | sc u _ => cases x with
    | int i => cases e6; exact ⟨i, rfl, fin⟩
    | _ => cases e6
  | nd n r => cases e6
variable {lo hi : Option Expr} {ca : M Op} {cl ch : M (Option Int)} {p2 : Pos}
theorem ok_sl (ha : PE X a (tP X.K ca)) (hl : PO X lo (tW X.K cl)) (hh : PO X hi (tW X.K ch)) :
    PE X (.Subscript a (.Slice lo hi none p2) pos) (tM X.K (ca.bnd fun p => cl.bnd fun l => ch.bnd fun h => (view p).bnd fun x => lift (slD x l h))) :=
  PE.imp (pe_slice sl_ok ha hl hh) fun σ H Q h => by
    obtain ⟨δ, Hs, M, d, δ', g, s, e, q⟩ := h
    obtain ⟨p, δ1, e1, e⟩ := bnd_ok e
    obtain ⟨l, δ2, e2, e⟩ := bnd_ok e
    obtain ⟨u, δ3, e3, e⟩ := bnd_ok e
    obtain ⟨w, δ4, e4, e⟩ := bnd_ok e
    obtain ⟨e7, rfl⟩ := lift_ok e
    refine ⟨δ, Hs, M, p, δ1, g, s, e1, fun x H1 Hs1 m1 M1 g1 st1 r1 s1 => ⟨δ1, Hs1, M1, l, δ2, g1.re, s1, e2, fun H2 Hs2 M2 g2 st2 s2 => ⟨δ2, Hs2, M2, u, δ3, g2, s2, e3, fun H3 Hs3 M3 g3 st3 s3 => ?_⟩⟩⟩
    obtain ⟨G2, S2, k2⟩ := step2 g g1 st1 g2 st2
    obtain ⟨G3, S3, k3⟩ := step2 g G2 S2 g3 st3
    have r2 := RepP.frame st2.grow k2 r1
    have r3 := RepP.frame st3.grow (fun b hb hn => k3 b hb hn) r2
    obtain ⟨Hs4, M4, g4, st4, v4, s4⟩ := view_ok (B := m1) G3 s3 r3 e4
    have z := step2 (m1 := fun _ => 0) g (G3.re fun b => by simp) (S3.drop (fun b => by simp) G3.le) g4 st4
    have S4 : Stp H Hs M H3 Hs4 (fun b => m1 b + M4 b) := z.2.1.drop (fun b => by simp) z.1.le
    have le : ∀ b, m1 b + M4 b ≤ 1 := g4.le
    exact ⟨Hs4, w, m1, d, g4.sub, fun b => by have := le b; omega, fun b hb => g4.has b (by have := le b; show m1 b + M4 b = 1; omega), v4, e7, outs_of S4 g4 s4 q⟩
theorem look_at {K : PySem.W.Frag} {H Hs : Hp} {f : Str} : ∀ {fs : List Str} {vs : List V} {ds : List D} {m : Bud} {d : D}, RepL K H Hs vs ds m → fs.length = vs.length → lookF f fs ds = some d → ∃ (v : V) (m1 : Bud), (fs.zip vs).lookup f = some v ∧ Rep K H Hs v d m1 ∧ ∀ b, m1 b ≤ m b
  | [], _, _, _, _, _, _, h => by simp [lookF] at h
  | _ :: _, _, _, _, _, .nil _, hl, h => by simp at hl
  | g :: fs, v :: vs, d' :: ds, m, d, .cons (m1 := m1) (m2 := m2) x y c, hl, h => by
    simp only [lookF] at h
    by_cases e : g = f
    · rw [if_pos e] at h
      cases h
      refine ⟨v, m1, ?_, x, fun b => by have := c b; omega⟩
      subst e
      simp [List.lookup]
    · rw [if_neg e] at h
      obtain ⟨v', m', h1, h2, h3⟩ := look_at y (by simpa using hl) h
      refine ⟨v', m', ?_, h2, fun b => by have := c b; have := h3 b; omega⟩
      rw [List.zip_cons_cons]
      have hb : (f == g) = false := beq_eq_false_iff_ne.mpr (fun q => e q.symm)
      simp only [List.lookup, hb]
      exact h1
theorem ok_fld {f : Str} {ok : Addr → Str → Bool} (hf : ∀ C f, ok C f = true → Cls X.K C ∧ NoAttr X.K C f) (ha : PE X a (tP X.K ca)) (hb : attributeBase a f X.env (eval a X.env) = eval a X.env := by rfl) :
    PE X (.Attribute a f pos) (tM X.K ((ca.bnd view).bnd fun x => lift (fldW ok f x))) :=
  PE.imp (pe_fld ha hb) fun σ H Q h => op1 (r := fun x H1 Q => ∃ a C dx fs v, x = .ref a ∧ H1 a = some (.ins C dx fs) ∧ Cls X.K C ∧ NoAttr X.K C f ∧ fs.lookup f = some v ∧ Q v H1) h fun x H Hs w m d g h1 h2 v e o => by
    unfold fldW at e
    split at e
    · split at e
      · rename_i C fs ds hok
        cases v with
        | nd n r =>
          obtain ⟨hl, dx, n⟩ := n
          obtain ⟨z, m1, e1, rz, l⟩ := look_at r hl e
          exact ⟨_, C, dx, _, z, rfl, n, (hf C f hok).1, (hf C f hok).2, e1, o.part h1 h2 l rz⟩
      · cases e
    · cases e
theorem ok_pa0 : PA X [] (tPs X.K (M.ret [])) := PA.imp pa_nil fun σ H Q h => by
  obtain ⟨δ, Hs, M, b, δ', g, s, e, q⟩ := h
  have := ret_ok e
  cases this
  exact q [] H Hs (fun _ => 0) M (good0 g) (stp0 _ _ _) trivial s
theorem ok_pa {cs : M (List Op)} (ha : PE X e (tP X.K ca)) (hr : PA X es (tPs X.K cs)) (hs : starEach (e :: es) X.env = (false, eval e X.env) :: starEach es X.env := by rfl) :
    PA X (e :: es) (tPs X.K (ca.bnd fun p => cs.bnd fun ps => M.ret (p :: ps))) := PA.imp (pa_cons ha hr hs) fun σ H Q h => by
  obtain ⟨δ, Hs, M, b, δ', g, s, e, q⟩ := h
  obtain ⟨p, δ1, e1, e⟩ := bnd_ok e
  obtain ⟨ps, δ2, e2, e⟩ := bnd_ok e
  have := ret_ok e
  cases this
  refine ⟨δ, Hs, M, p, δ1, g, s, e1, fun x H1 Hs1 m1 M1 g1 st1 r1 s1 => ⟨δ1, Hs1, M1, ps, _, g1.re, s1, e2, fun xs H2 Hs2 m2 M2 g2 st2 r2 s2 => ?_⟩⟩
  obtain ⟨G2, S2, k2⟩ := step2 g g1 st1 g2 st2
  exact q (x :: xs) H2 Hs2 (fun b => m1 b + m2 b) M2 (G2.re fun b => by omega) (S2.drop (fun b => by omega) G2.le) ⟨m1, m2, r1.frame st2.grow k2, r2, fun b => Nat.le_refl _⟩ s2
theorem ok_ds0 : PA X [] (tDs X.K (M.ret [])) := PA.imp pa_nil fun σ H Q h => by
  obtain ⟨δ, Hs, M, b, δ', g, s, e, q⟩ := h
  have := ret_ok e
  cases this
  exact q [] H Hs (fun _ => 0) M (good0 g) (stp0 _ _ _) (.nil _) s
theorem ok_ds {c : M D} {cs : M (List D)} (ha : PE X e (tM X.K c)) (hr : PA X es (tDs X.K cs)) (hs : starEach (e :: es) X.env = (false, eval e X.env) :: starEach es X.env := by rfl) :
    PA X (e :: es) (tDs X.K (c.bnd fun p => cs.bnd fun ps => M.ret (p :: ps))) := PA.imp (pa_cons ha hr hs) fun σ H Q h => by
  obtain ⟨δ, Hs, M, b, δ', g, s, e, q⟩ := h
  obtain ⟨p, δ1, e1, e⟩ := bnd_ok e
  obtain ⟨ps, δ2, e2, e⟩ := bnd_ok e
  have := ret_ok e
  cases this
  refine ⟨δ, Hs, M, p, δ1, g, s, e1, fun x H1 Hs1 m1 M1 g1 st1 r1 s1 => ⟨δ1, Hs1, M1, ps, _, g1.re, s1, e2, fun xs H2 Hs2 m2 M2 g2 st2 r2 s2 => ?_⟩⟩
  obtain ⟨G2, S2, k2⟩ := step2 g g1 st1 g2 st2
  exact q (x :: xs) H2 Hs2 (fun b => m1 b + m2 b) M2 (G2.re fun b => by omega) (S2.drop (fun b => by omega) G2.le) (.cons (r1.frame st2.grow k2) r2 fun b => Nat.le_refl _) s2
theorem tds_new {K : PySem.W.Frag} {cs : M (List D)} {f : List D → Option D} {σ : St} {H : Hp} {Q : VK} (h : tM K (cs.bnd fun ds => lift (f ds)) σ H Q) : tDs K cs σ H fun vs H1 => ∃ (Hs : Hp) (m : Bud) (ds : List D) (d : D), (∀ b, m b ≤ 1) ∧ (∀ b, m b = 1 → H1 b ≠ none) ∧ RepL K H1 Hs vs ds m ∧ f ds = some d ∧ Outs K H1 Hs m d Q := by
  obtain ⟨δ, Hs, M, b, δ', g, s, e, q⟩ := h
  obtain ⟨ds, δ1, e1, e⟩ := bnd_ok e
  obtain ⟨e2, rfl⟩ := lift_ok e
  refine ⟨δ, Hs, M, ds, _, g, s, e1, fun vs H1 Hs1 m1 M1 g1 st1 r1 s1 => ⟨Hs1, m1, ds, b, fun b => by have : m1 b + M1 b ≤ 1 := g1.le b; omega, fun b hb => g1.has b (by have : m1 b + M1 b ≤ 1 := g1.le b; show m1 b + M1 b = 1; omega), r1, e2, outs_of st1 g1 s1 q⟩⟩
theorem ok_lst {cs : M (List D)} (h : PA X es (tDs X.K cs)) : PE X (.List es pos) (tM X.K (cs.bnd fun ds => lift (newL ds))) := PE.imp (pe_lst h) fun σ H Q hq => by
  obtain ⟨δ, Hs, M, ds, δ', g, s, e, q⟩ := tds_new hq
  refine ⟨δ, Hs, M, ds, δ', g, s, e, fun vs H1 Hs1 m1 M1 g1 st1 r1 s1 => ?_⟩
  obtain ⟨Hs2, m, ds, d, h1, h2, r, e, o⟩ := q vs H1 Hs1 m1 M1 g1 st1 r1 s1
  unfold newL at e
  split at e
  · rename_i hl
    cases e
    exact ⟨by rw [r.len]; exact hl, fun p hp => o.new h1 h2 hp (vs := vs) upd_same r⟩
  · cases e
theorem ok_tup {cs : M (List D)} {k : Nat} (h : PA X es (tDs X.K cs)) : PE X (.Tuple es k pos) (tM X.K (cs.bnd fun ds => lift (newT ds))) := PE.imp (pe_tup h) fun σ H Q hq => by
  obtain ⟨δ, Hs, M, ds, δ', g, s, e, q⟩ := tds_new hq
  refine ⟨δ, Hs, M, ds, δ', g, s, e, fun vs H1 Hs1 m1 M1 g1 st1 r1 s1 => ?_⟩
  obtain ⟨Hs2, m, ds, d, h1, h2, r, e, o⟩ := q vs H1 Hs1 m1 M1 g1 st1 r1 s1
  unfold newT at e
  split at e
  · rename_i hl
    cases e
    exact ⟨by rw [r.len]; exact hl, fun p hp => o.new h1 h2 hp (vs := vs) upd_same r⟩
  · cases e
end
end T
namespace T
open PySem PySem.Spec L2
noncomputable def Views (K : PySem.W.Frag) (H Hs : Hp) : List V → List W → Bud → Prop
  | [], [], _ => True
  | v :: vs, w :: ws, m => ∃ m1 m2 : Bud, View K H Hs v w m1 ∧ Views K H Hs vs ws m2 ∧ ∀ b, m1 b + m2 b ≤ m b
  | _, _, _ => False
theorem views_ok {K : PySem.W.Frag} {H : Hp} {σ : St} {B : Bud} : ∀ {ps : List Op} {vs : List V} {Hs : Hp} {δ δ' : List D} {M m : Bud} {ws : List W}, Good H Hs (fun b => B b + M b) → RepS K H Hs σ δ M → RepPs K H Hs σ vs ps m → views ps δ = .ok (ws, δ') →
    ∃ Hs' M', Good H Hs' (fun b => B b + M' b) ∧ Stp H Hs (fun b => B b + M b) H Hs' (fun b => B b + M' b) ∧ Views K H Hs' vs ws m ∧ RepS K H Hs' σ δ' M'
  | [], [], Hs, δ, δ', M, m, ws, g, s, r, e => by
    have := ret_ok e
    cases this
    exact ⟨Hs, M, g, Stp.refl _ _ _, trivial, s⟩
  | [], _ :: _, _, _, _, _, _, _, _, _, r, _ => r.elim
  | _ :: _, [], _, _, _, _, _, _, _, _, r, _ => r.elim
  | p :: ps, v :: vs, Hs, δ, δ', M, m, ws, g, s, ⟨m1, m2, r1, r2, l⟩, e => by
    obtain ⟨w, δ1, e1, e⟩ := bnd_ok e
    obtain ⟨ws', δ2, e2, e⟩ := bnd_ok e
    have := ret_ok e
    cases this
    obtain ⟨Hs1, M1, g1, st1, v1, s1⟩ := view_ok g s r1 e1
    obtain ⟨Hs2, M2, g2, st2, v2, s2⟩ := views_ok g1 s1 (r2.frame st1.grow fun _ _ _ => rfl) e2
    have z := step2 (m1 := fun _ => 0) g (g1.re fun b => by simp) (st1.drop (fun b => by simp) g1.le) g2 st2
    exact ⟨Hs2, M2, g2, z.2.1.drop (fun b => by simp) z.1.le, ⟨m1, m2, v1.frame st2.grow, v2, l⟩, s2⟩
noncomputable def rNW (K : PySem.W.Frag) (f : List W → Option D) : List V → Hp → VK → Prop := fun vs H Q => ∃ (Hs : Hp) (ws : List W) (m : Bud) (d : D), Same Hs H ∧ (∀ b, m b ≤ 1) ∧ (∀ b, m b = 1 → H b ≠ none) ∧ Views K H Hs vs ws m ∧ f ws = some d ∧ Outs K H Hs m d Q
theorem opN {K : PySem.W.Frag} {cs : M (List Op)} {f : List W → Option D} {σ : St} {H : Hp} {Q : VK} (h : tM K (cs.bnd fun ps => (views ps).bnd fun ws => lift (f ws)) σ H Q) : tPs K cs σ H fun vs H1 => rNW K f vs H1 Q := by
  obtain ⟨δ, Hs, M, d, δ', g, s, e, q⟩ := h
  obtain ⟨ps, δ1, e1, e⟩ := bnd_ok e
  obtain ⟨ws, δ2, e2, e⟩ := bnd_ok e
  obtain ⟨e3, rfl⟩ := lift_ok e
  refine ⟨δ, Hs, M, ps, δ1, g, s, e1, fun vs H1 Hs1 m1 M1 g1 st1 r1 s1 => ?_⟩
  obtain ⟨Hs2, M2, g2, st2, v2, s2⟩ := views_ok (B := m1) g1 s1 r1 e2
  have z := step2 (m1 := fun _ => 0) g (g1.re fun b => by simp) (st1.drop (fun b => by simp) g1.le) g2 st2
  have S : Stp H Hs M H1 Hs2 (fun b => m1 b + M2 b) := z.2.1.drop (fun b => by simp) z.1.le
  have le : ∀ b, m1 b + M2 b ≤ 1 := g2.le
  exact ⟨Hs2, ws, m1, d, g2.sub, fun b => by have := le b; omega, fun b hb => g2.has b (by have := le b; show m1 b + M2 b = 1; omega), v2, e3, outs_of S g2 s2 q⟩
theorem Views.one {K : PySem.W.Frag} {H Hs : Hp} {vs : List V} {w : W} {m : Bud} (h : Views K H Hs vs [w] m) : ∃ (v : V) (m1 : Bud), vs = [v] ∧ View K H Hs v w m1 ∧ ∀ b, m1 b ≤ m b := by
  cases vs with
  | nil => exact h.elim
  | cons v vs =>
    obtain ⟨m1, m2, h1, h2, l⟩ := h
    cases vs with
    | nil => exact ⟨v, m1, rfl, h1, fun b => by have := l b; omega⟩
    | cons _ _ => exact h2.elim
theorem Views.two {K : PySem.W.Frag} {H Hs : Hp} {vs : List V} {w w' : W} {m : Bud} (h : Views K H Hs vs [w, w'] m) : ∃ (v v' : V) (m1 m2 : Bud), vs = [v, v'] ∧ View K H Hs v w m1 ∧ View K H Hs v' w' m2 ∧ ∀ b, m1 b + m2 b ≤ m b := by
  cases vs with
  | nil => exact h.elim
  | cons v vs =>
    obtain ⟨m1, m2, h1, h2, l⟩ := h
    obtain ⟨v', m3, rfl, h3, l'⟩ := Views.one h2
    exact ⟨v, v', m1, m3, rfl, h1, h3, fun b => by have := l b; have := l' b; omega⟩
section
variable {X : Cx} {e : Expr} {es : List Expr} {pos p : Pos} {x : Str} {id ty : String} {f : BF} {cs : M (List Op)}
theorem ok_bfB (hc : CallR X (.builtin id) (rNW X.K (bfW f))) (hg : Gl X x) (hm : X.mg x = none) (hv : bootBuiltins x = some (.builtin id)) (ha : PA X (e :: es) (tPs X.K cs)) (hn : x ≠ "__name__" := by decide) (hdb : (x == ("__debug__" : Str)) = false := by decide)
    (he : starEach (e :: es) X.env = (false, eval e X.env) :: starEach es X.env := by rfl) (hpl : (backTo pos (starEach es X.env)).any (·.1) = false := by rfl) :
    PE X (.Call (.Name x p) (e :: es) [] pos) (tM X.K (cs.bnd fun ps => (views ps).bnd fun ws => lift (bfW f ws))) := PE.imp (pe_callB hc hg hm hv ha hn hdb he hpl) fun σ H Q h => opN h
theorem ok_bfT (hc : CallR X (.type ty) (rNW X.K (bfW f))) (hg : Gl X x) (hm : X.mg x = none) (hv : bootBuiltins x = some (.type ty)) (ha : PA X (e :: es) (tPs X.K cs)) (hn : x ≠ "__name__" := by decide) (hdb : (x == ("__debug__" : Str)) = false := by decide)
    (he : starEach (e :: es) X.env = (false, eval e X.env) :: starEach es X.env := by rfl) (hpl : (backTo pos (starEach es X.env)).any (·.1) = false := by rfl) :
    PE X (.Call (.Name x p) (e :: es) [] pos) (tM X.K (cs.bnd fun ps => (views ps).bnd fun ws => lift (bfW f ws))) := PE.imp (pe_callTy hc hg hm hv ha hn hdb he hpl) fun σ H Q h => opN h
theorem len_ok : CallR X (.builtin "len") (rNW X.K (bfW .len)) := by
  intro pins s σ H xs us Q I r h
  obtain ⟨Hs, ws, m, d, hs, h1, h2, v, e, o⟩ := h
  replace e : lenB _ = _ := e
  unfold lenB at e
  split at e <;> first | (rename_i z; cases z; done) | skip
  all_goals first
    | (obtain ⟨y, m1, rfl, v, l⟩ := v.one
       cases v with
       | nd n r' =>
         have hl := r'.len
         cases e
         first
         | exact call_len_seq pins s σ H _ us Q I r ⟨_, _, rfl, .inl (.inl (.inl n)), by rw [hl]; exact o.sc⟩
         | exact call_len_seq pins s σ H _ us Q I r ⟨_, _, rfl, .inl n, by rw [hl]; exact o.sc⟩
         | exact call_len_seq pins s σ H _ us Q I r ⟨_, _, rfl, .inr n, by rw [hl]; exact o.sc⟩
         | exact call_len_seq pins s σ H _ us Q I r ⟨_, _, rfl, .inr (.inl (.inl n)), by rw [hl]; exact o.sc⟩
         | (obtain ⟨n1, n2⟩ := n
            exact call_lenD pins s σ H _ us Q I r ⟨_, _, rfl, n2, by rw [List.length_zip, n1, Nat.min_self, hl]; exact o.sc⟩))
    | (obtain ⟨y, m1, rfl, v, l⟩ := v.one
       split at e
       · rename_i hz
         cases e
         cases v
         exact call_len_str pins s σ H _ us Q I r ⟨_, rfl, hz, o.sc⟩
       · cases e)
    | cases e
theorem str_ok : CallR X (.type "str") (rNW X.K (bfW .str)) := by
  intro pins s σ H xs us Q I r h
  obtain ⟨Hs, ws, m, d, hs, h1, h2, v, e, o⟩ := h
  replace e : strB _ = _ := e
  unfold strB at e
  split at e <;> first | (rename_i z; cases z; done) | skip
  all_goals first
    | (obtain ⟨y, m1, rfl, v, l⟩ := v.one
       split at e
       · rename_i hz
         cases v
         cases e
         exact call_str_int pins s σ H _ us Q I r ⟨_, rfl, hz, o.sc⟩
       · cases e)
    | cases e
theorem int_ok : CallR X (.type "int") (rNW X.K (bfW .int)) := by
  intro pins s σ H xs us Q I r h
  obtain ⟨Hs, ws, m, d, hs, h1, h2, v, e, o⟩ := h
  replace e : intB _ = _ := e
  unfold intB at e
  split at e <;> first | (rename_i z; cases z; done) | skip
  all_goals first
    | (obtain ⟨y, m1, rfl, v, l⟩ := v.one
       cases v
       cases e
       first
       | exact call_int1 pins s σ H _ us Q I r (.inl ⟨_, rfl, o.sc⟩)
       | exact call_int1 pins s σ H _ us Q I r (.inr ⟨_, rfl, o.sc⟩))
    | (obtain ⟨y, m1, rfl, v, l⟩ := v.one
       cases v
       split at e
       · rename_i n hz
         split at e
         · rename_i hl
           cases e
           exact call_int_str pins s σ H _ us Q I r ⟨_, n, rfl, hz, hl, o.sc⟩
         · cases e
       · cases e)
    | cases e
theorem bools_all {K : PySem.W.Frag} {H Hs : Hp} : ∀ {ds : List D} {vs : List V} {m : Bud} {is : List Bool}, RepL K H Hs vs ds m → boolsOf ds = some is → vs = is.map V.bl
  | [], _, _, is, .nil _, h => by simp only [boolsOf, Option.some.injEq] at h; subst h; rfl
  | d :: ds, _, _, is, .cons x y _, h => by
    unfold boolsOf at h
    split at h
    · rename_i hh; cases hh
    · rename_i i r hh
      injection hh with h1 h2
      subst h1 h2
      (simp only [Option.map_eq_some_iff] at h)
      obtain ⟨js, h, rfl⟩ := h
      cases x
      rw [bools_all y h]
      rfl
    · cases h
theorem all_ok (hc : X.calm = true) : CallR X (.builtin "all") (rNW X.K (bfW .all)) := by
  intro pins s σ H xs us Q I r h
  obtain ⟨Hs, ws, m, d, hs, h1, h2, v, e, o⟩ := h
  replace e : allB _ = _ := e
  unfold allB at e
  split at e <;> first | (rename_i z; cases z; done) | skip
  all_goals first
    | (obtain ⟨y, m1, rfl, v, l⟩ := v.one
       cases v with
       | nd n r' =>
         simp only [Option.map_eq_some_iff] at e
         obtain ⟨is, e, rfl⟩ := e
         have ei := bools_all r' e
         subst ei
         exact call_all hc pins s σ H _ us Q I r ⟨_, _, rfl, .inl (.inl n), o.sc⟩)
    | cases e
end
end T
namespace T
open PySem PySem.Spec L2
noncomputable def kitB (a b : String) : Option Bool := if (Value.type a == Value.type b) = true then some true else if PySem.W.kitMeta b = true then (PySem.fastBuiltinMro a).map (·.contains (.type b)) else none
theorem kitB_eq (K : PySem.W.Frag) (a b : String) : PySem.W.kitOne K (.type a) (.type b) = kitB a b := rfl
noncomputable def tyS : Ty → Option String
  | .int => some "int" | .bool => some "bool" | .str => some "str" | .list => some "list" | .tuple => some "tuple" | .dict => some "dict" | .own _ => none
theorem kb_ii : kitB "int" "int" = some true := by decide +kernel
theorem kb_bi : kitB "bool" "int" = some true := by decide +kernel
theorem kb_si : kitB "str" "int" = some false := by decide +kernel
theorem kb_ni : kitB "NoneType" "int" = some false := by decide +kernel
theorem kb_li : kitB "list" "int" = some false := by decide +kernel
theorem kb_ti : kitB "tuple" "int" = some false := by decide +kernel
theorem kb_bb : kitB "bool" "bool" = some true := by decide +kernel
theorem kb_ib : kitB "int" "bool" = some false := by decide +kernel
theorem kb_sb : kitB "str" "bool" = some false := by decide +kernel
theorem kb_nb : kitB "NoneType" "bool" = some false := by decide +kernel
theorem kb_lb : kitB "list" "bool" = some false := by decide +kernel
theorem kb_tb : kitB "tuple" "bool" = some false := by decide +kernel
theorem kb_ss : kitB "str" "str" = some true := by decide +kernel
theorem kb_is : kitB "int" "str" = some false := by decide +kernel
theorem kb_bs : kitB "bool" "str" = some false := by decide +kernel
theorem kb_ns : kitB "NoneType" "str" = some false := by decide +kernel
theorem kb_ls : kitB "list" "str" = some false := by decide +kernel
theorem kb_ts : kitB "tuple" "str" = some false := by decide +kernel
theorem kb_ll : kitB "list" "list" = some true := by decide +kernel
theorem kb_tl : kitB "tuple" "list" = some false := by decide +kernel
theorem kb_il : kitB "int" "list" = some false := by decide +kernel
theorem kb_bl : kitB "bool" "list" = some false := by decide +kernel
theorem kb_sl : kitB "str" "list" = some false := by decide +kernel
theorem kb_nl : kitB "NoneType" "list" = some false := by decide +kernel
theorem kb_tt : kitB "tuple" "tuple" = some true := by decide +kernel
theorem kb_lt : kitB "list" "tuple" = some false := by decide +kernel
theorem kb_it : kitB "int" "tuple" = some false := by decide +kernel
theorem kb_bt : kitB "bool" "tuple" = some false := by decide +kernel
theorem kb_st : kitB "str" "tuple" = some false := by decide +kernel
theorem kb_nt : kitB "NoneType" "tuple" = some false := by decide +kernel
theorem ty_ok {K : PySem.W.Frag} {H Hs : Hp} {t : Ty} {n : String} {v : V} {w : W} {m : Bud} {b : Bool} (hn : tyS t = some n) (hv : View K H Hs v w m) (h : tyW t w = some b) : ∃ tv, TyOf K H v tv ∧ PySem.W.kitOne K tv (.type n) = some b := by
  cases hv with
  | sc v _ =>
    cases t <;> cases hn <;> cases v <;> cases h <;> first
      | exact ⟨_, .int _, by rw [kitB_eq]; first | exact kb_ii | exact kb_ib | exact kb_is | exact kb_il | exact kb_it⟩
      | exact ⟨_, .bl _, by rw [kitB_eq]; first | exact kb_bi | exact kb_bb | exact kb_bs | exact kb_bl | exact kb_bt⟩
      | exact ⟨_, .str _, by rw [kitB_eq]; first | exact kb_si | exact kb_sb | exact kb_ss | exact kb_sl | exact kb_st⟩
      | exact ⟨_, .non, by rw [kitB_eq]; first | exact kb_ni | exact kb_nb | exact kb_ns | exact kb_nl | exact kb_nt⟩
  | @nd a k vs ds m n r =>
    cases t <;> cases hn <;> cases k <;> cases h <;> first
      | exact ⟨_, .lst n, by rw [kitB_eq]; first | exact kb_li | exact kb_lb | exact kb_ls | exact kb_ll | exact kb_lt⟩
      | exact ⟨_, .tup n, by rw [kitB_eq]; first | exact kb_ti | exact kb_tb | exact kb_ts | exact kb_tl | exact kb_tt⟩
section
variable {X : Cx} {a e c : Expr} {es : List Expr} {pos p : Pos} {x : Str} {n : String} {ca : M Op}
theorem ok_isi {t : Ty} (hn : tyS t = some n) (hg : Gl X "isinstance") (hm : X.mg "isinstance" = none) (ha : PE X a (tP X.K ca)) (hc : PE X c (tC (.ty n))) (hs : starEach [a, c] X.env = [(false, eval a X.env), (false, eval c X.env)] := by rfl)
    (hs1 : starEach [c] X.env = [(false, eval c X.env)] := by rfl) :
    PE X (.Call (.Name "isinstance" p) [a, c] [] pos) (tM X.K ((ca.bnd fun p => (M.ret ([] : List Op)).bnd fun ps => M.ret (p :: ps)).bnd fun ps => (views ps).bnd fun ws => lift (bfW (.isi t) ws))) :=
  PE.imp (pe_callB (call_isi (.ty n) (.type n) rfl fun u h => h) hg hm b_isinstance (pa_cons ha (pa_cons hc pa_nil (by rw [hs1]; rfl)) (by rw [hs, hs1])) (by decide) (by decide) (by rw [hs, hs1]) (by rw [hs1]; rfl)) fun σ H Q h => by
    have h2 : tM X.K ((ca.bnd view).bnd fun w => lift (bfW (.isi t) [w])) σ H Q := by
      obtain ⟨δ, Hs, M, d, δ', g, s, e, q⟩ := h
      refine ⟨δ, Hs, M, d, δ', g, s, ?_, q⟩
      obtain ⟨ps, δ1, e1, e⟩ := bnd_ok e
      obtain ⟨pp, δ2, e2, e3⟩ := bnd_ok e1
      obtain ⟨z, δ3, e4, e5⟩ := bnd_ok e3
      have := ret_ok e4
      cases this
      have := ret_ok e5
      cases this
      obtain ⟨ws, δ4, e6, e⟩ := bnd_ok e
      obtain ⟨w, δ5, e7, e8⟩ := bnd_ok e6
      obtain ⟨z, δ6, e9, e10⟩ := bnd_ok e8
      have := ret_ok e9
      cases this
      have := ret_ok e10
      cases this
      show T.M.bnd (ca.bnd view) _ δ = _
      unfold T.M.bnd
      rw [e2]
      dsimp only
      rw [e7]
      exact e
    refine op1 (r := fun x H1 Q => ∃ x' t' b, [x, V.ty n] = [x', V.ty n] ∧ TyOf X.K H1 x' t' ∧ PySem.W.kitOne X.K t' (.type n) = some b ∧ Q (.bl b) H1) h2 fun x H Hs w m d g h1 h2 v e o => ?_
    simp only [bfW, isiB, Option.map_eq_some_iff] at e
    obtain ⟨b, e, rfl⟩ := e
    obtain ⟨tv, h3, h4⟩ := ty_ok hn v e
    exact ⟨x, tv, b, rfl, h3, h4, o.sc⟩
end
noncomputable def spF (K : PySem.W.Frag) (F : List D → Rs (D × List D)) : Sp := fun vs H Q _ => ∃ (ds : List D) (Hs : Hp) (m : Bud) (d : D) (ds' : List D), Good H Hs m ∧ RepL K H Hs vs ds m ∧ F ds = .ok (d, ds') ∧
  ∀ (v : V) (H' Hs' : Hp) (m1 m' : Bud), Good H' Hs' (fun b => m1 b + m' b) → Stp H Hs m H' Hs' (fun b => m1 b + m' b) → Rep K H' Hs' v d m1 → RepL K H' Hs' vs ds' m' → Q v H'
theorem take_ok {K : PySem.W.Frag} {H Hs : Hp} {σ : St} {B m M : Bud} {δ δ' : List D} {lend : Bool} {p : Op} {v : V} {d : D} (g : Good H Hs (fun b => B b + (m b + M b))) (s : RepS K H Hs σ δ M) (r : RepP K H Hs σ v p m) (e : takeA lend p δ = .ok (d, δ')) :
    ∃ Hs' m' M', Good H Hs' (fun b => B b + (m' b + M' b)) ∧ Stp H Hs (fun b => B b + (m b + M b)) H Hs' (fun b => B b + (m' b + M' b)) ∧ Rep K H Hs' v d m' ∧ RepS K H Hs' σ δ' M' ∧ ∀ b, m' b + M' b ≤ m b + M b := by
  cases p with
  | tmp d' =>
    have := ret_ok e
    cases this
    exact ⟨Hs, m, M, g, Stp.refl _ _ _, r, s, fun b => Nat.le_refl _⟩
  | late i =>
    have r : σ[i]? = some (some v) := r
    have same : ∀ {d : D}, δ[i]? = some d → d ≠ .hole → (∀ m1, Rep K H Hs v d m1 → Rep K H Hs v d (fun _ => 0)) → ∃ Hs' m' M', Good H Hs' (fun b => B b + (m' b + M' b)) ∧ Stp H Hs (fun b => B b + (m b + M b)) H Hs' (fun b => B b + (m' b + M' b)) ∧ Rep K H Hs' v d m' ∧ RepS K H Hs' σ δ M' ∧ ∀ b, m' b + M' b ≤ m b + M b := fun {d} hi hn hz => by
      obtain ⟨v', m1, m2, e1, q, l, f⟩ := s.slot hi hn
      rw [r] at e1
      cases e1
      exact ⟨Hs, fun _ => 0, M, g.re fun b => by (try simp); (try omega), (Stp.refl H Hs _).drop (fun b => by (try simp); (try omega)) g.le, hz _ q, s, fun b => by (try simp); (try omega)⟩
    unfold takeA at e
    dsimp only at e
    split at e
    · rename_i u hi
      cases e
      exact same hi (by simp) fun m1 q => by cases q; exact .sc _ _
    · rename_i k ds hi
      cases e
      exact same hi (by simp) fun m1 q => by cases q with | shd n q => exact .shd n q
    · rename_i k ds hi
      obtain ⟨v', m1, m2, e1, q, l, f⟩ := s.slot hi (by simp)
      rw [r] at e1
      cases e1
      split at e
      · cases e
        refine ⟨Hs, m1, m2, g.re fun b => by have := l b; omega, (Stp.refl H Hs _).drop (fun b => by have := l b; omega) g.le, q, ?_, fun b => by have := l b; omega⟩
        have z := f H Hs (some v) .hole (fun _ => 0) (Same.refl _) (fun _ _ _ => rfl) (.inl rfl)
        rw [set_self r] at z
        exact z.mono fun b => by simp
      · cases e
        have g2 : Good H Hs (fun b => m1 b + (B b + m2 b)) := g.re fun b => by have := l b; omega
        have hsame := shH_same g2 (m := m1) fun b => by omega
        have r2 := Rep.share hsame (shH_at (H := H) (Hs := Hs) (m := m1)) q
        have st := Stp.share g2
        refine ⟨shH H Hs m1, fun _ => 0, m2, g2.share.re fun b => by simp, ⟨fun b o h _ => h, fun b h => ?_, st.grow, fun b h h' => ?_, fun b h => h⟩, r2, ?_, fun b => by have := l b; simp; omega⟩
        · have h : B b + (0 + m2 b) = 1 := h
          have l0 : B b + (m b + M b) ≤ 1 := g.le b
          have := l b
          left
          show B b + (m b + M b) = 1
          omega
        · rcases st.shr b h h' with z | z
          · have z : m1 b + (B b + m2 b) = 1 := z
            have l0 : B b + (m b + M b) ≤ 1 := g.le b
            have := l b
            left
            show B b + (m b + M b) = 1
            omega
          · exact .inr z
        · have z := f H (shH H Hs m1) (some v) (.node k false (shrL ds)) (fun _ => 0) hsame (fun _ _ _ => rfl) (.inr ⟨v, rfl, r2⟩)
          rw [set_self r] at z
          exact z.mono fun b => by simp
    · cases e
theorem takes_ok {K : PySem.W.Frag} {H : Hp} {σ : St} {lend : Bool} : ∀ {ps : List Op} {vs : List V} {Hs : Hp} {δ δ' : List D} {B M m : Bud} {ds : List D}, Good H Hs (fun b => B b + (m b + M b)) → RepS K H Hs σ δ M → RepPs K H Hs σ vs ps m → takeAs lend ps δ = .ok (ds, δ') →
    ∃ Hs' m' M', Good H Hs' (fun b => B b + (m' b + M' b)) ∧ Stp H Hs (fun b => B b + (m b + M b)) H Hs' (fun b => B b + (m' b + M' b)) ∧ RepL K H Hs' vs ds m' ∧ RepS K H Hs' σ δ' M'
  | [], [], Hs, δ, δ', B, M, m, ds, g, s, r, e => by
    have := ret_ok e
    cases this
    exact ⟨Hs, m, M, g, Stp.refl _ _ _, .nil _, s⟩
  | [], _ :: _, _, _, _, _, _, _, _, _, _, r, _ => r.elim
  | _ :: _, [], _, _, _, _, _, _, _, _, _, r, _ => r.elim
  | p :: ps, v :: vs, Hs, δ, δ', B, M, m, ds, g, s, ⟨n1, n2, r1, r2, l⟩, e => by
    obtain ⟨d, δ1, e1, e⟩ := bnd_ok e
    obtain ⟨ds', δ2, e2, e⟩ := bnd_ok e
    have := ret_ok e
    cases this
    have g0 : Good H Hs (fun b => (B b + n2 b) + (n1 b + M b)) := g.re fun b => by have := l b; omega
    obtain ⟨Hs1, m1, M1, g1, st1, q1, s1, l1⟩ := take_ok g0 s r1 e1
    have g1' : Good H Hs1 (fun b => (B b + m1 b) + (n2 b + M1 b)) := g1.re fun b => by omega
    obtain ⟨Hs2, m2, M2, g2, st2, q2, s2⟩ := takes_ok g1' s1 (r2.frame st1.grow fun _ _ _ => rfl) e2
    have S0 : Stp H Hs (fun b => B b + (m b + M b)) H Hs1 (fun b => (B b + m1 b) + (n2 b + M1 b)) := by
      refine ⟨fun b o h _ => h, fun b h => ?_, st1.grow, fun b h h' => ?_, fun b h => h⟩
      · have h : (B b + m1 b) + (n2 b + M1 b) = 1 := h
        rcases st1.own b (show (B b + n2 b) + (m1 b + M1 b) = 1 by omega) with z | z
        · have z : (B b + n2 b) + (n1 b + M b) = 1 := z
          have l0 : B b + (m b + M b) ≤ 1 := g.le b
          have := l b
          left
          show B b + (m b + M b) = 1
          omega
        · exact .inr z
      · rcases st1.shr b h h' with z | z
        · have z : (B b + n2 b) + (n1 b + M b) = 1 := z
          have l0 : B b + (m b + M b) ≤ 1 := g.le b
          have := l b
          left
          show B b + (m b + M b) = 1
          omega
        · exact .inr z
    have z := step2 (m1 := fun _ => 0) g (g1'.re fun b => by simp) (S0.drop (fun b => by simp) g1'.le) g2 st2
    have S : Stp H Hs (fun b => B b + (m b + M b)) H Hs2 (fun b => (B b + m1 b) + (m2 b + M2 b)) := z.2.1.drop (fun b => by simp) z.1.le
    exact ⟨Hs2, fun b => m1 b + m2 b, M2, g2.re fun b => by dsimp only; omega, S.drop (fun b => by dsimp only; omega) g2.le, .cons (q1.frame st2.grow fun _ _ _ => rfl) q2 fun b => Nat.le_refl _, s2⟩
theorem gives_ok {K : PySem.W.Frag} {H Hs : Hp} {σ : St} : ∀ {ps : List Op} {vs : List V} {δ δ' : List D} {M m : Bud} {ds : List D} {u : Unit}, RepS K H Hs σ δ M → RepL K H Hs vs ds m → (∀ i v, (.late i, v) ∈ ps.zip vs → σ[i]? = some (some v)) → giveAs ps ds δ = .ok (u, δ') → RepS K H Hs σ δ' (fun b => m b + M b)
  | [], vs, δ, δ', M, m, ds, u, s, r, hl, e => by
    have := ret_ok (show T.M.ret () δ = Rs.ok (u, δ') by unfold giveAs at e; exact e)
    cases this
    exact s.mono fun b => by omega
  | p :: ps, [], δ, δ', M, m, ds, u, s, r, hl, e => by
    cases r
    have := ret_ok (show T.M.ret () δ = Rs.ok (u, δ') by unfold giveAs at e; exact e)
    cases this
    exact s.mono fun b => by omega
  | p :: ps, v :: vs, δ, δ', M, m, ds, u, s, r, hl, e => by
    cases r with
    | @cons _ d _ ds' m1 m2 _ x y l =>
      unfold giveAs at e
      obtain ⟨_, δ1, e1, e2⟩ := bnd_ok e
      have hl' : ∀ i v, (.late i, v) ∈ ps.zip vs → σ[i]? = some (some v) := fun i v h => hl i v (by rw [List.zip_cons_cons]; exact List.mem_cons_of_mem _ h)
      have go : ∀ {M1 : Bud}, RepS K H Hs σ δ1 M1 → (∀ b, M1 b ≤ m1 b + M b) → RepS K H Hs σ δ' (fun b => m b + M b) := fun {M1} s1 l1 =>
        (gives_ok s1 y hl' e2).mono fun b => by have := l b; have := l1 b; omega
      cases p with
      | tmp d' =>
        have := ret_ok e1
        cases this
        exact go s fun b => by omega
      | late i =>
        have hi := hl i v (by rw [List.zip_cons_cons]; exact List.mem_cons_self)
        unfold giveA at e1
        dsimp only at e1
        split at e1
        · rename_i hh
          cases e1
          obtain ⟨o, n1, n2, q1, q2, q3, f⟩ := s.focus hh
          have z := f (RepO K H Hs) (some v) d m1 (fun a d m' _ q => q) (.inr ⟨v, rfl, x⟩)
          rw [set_self hi] at z
          exact go z fun b => by have := q3 b; omega
        · cases e1
          exact go s fun b => by omega
theorem lates {K : PySem.W.Frag} {H Hs : Hp} {σ : St} : ∀ {ps : List Op} {vs : List V} {m : Bud}, RepPs K H Hs σ vs ps m → ∀ i v, (.late i, v) ∈ ps.zip vs → σ[i]? = some (some v)
  | [], [], _, _, i, v, h => by simp at h
  | [], _ :: _, _, r, _, _, _ => r.elim
  | _ :: _, [], _, r, _, _, _ => r.elim
  | p :: ps, w :: vs, _, ⟨m1, m2, r1, r2, _⟩, i, v, h => by
    rw [List.zip_cons_cons] at h
    rcases List.mem_cons.mp h with e | e
    · injection e with e1 e2
      subst e1 e2
      exact r1
    · exact lates r2 i v e
theorem call_fin {K : PySem.W.Frag} {fi : FI} {σ : St} {H H1 Hs Hs1 : Hp} {M m1 M1 : Bud} {δ1 δ' : List D} {d : D} {ps : List Op} {vs : List V} {Q : VK} {E : XK} (g : Good H Hs M) (g1 : Good H1 Hs1 (fun b => m1 b + M1 b)) (st1 : Stp H Hs M H1 Hs1 (fun b => m1 b + M1 b))
    (r1 : RepPs K H1 Hs1 σ vs ps m1) (s1 : RepS K H1 Hs1 σ δ1 M1) (e : callF fi ps δ1 = .ok (d, δ'))
    (q : ∀ (v : V) (H' Hs' : Hp) (m M' : Bud), Good H' Hs' (fun b => m b + M' b) → Stp H Hs M H' Hs' (fun b => m b + M' b) → Rep K H' Hs' v d m → RepS K H' Hs' σ δ' M' → Q v H') : spF K fi.run vs H1 Q E := by
  unfold callF at e
  obtain ⟨ds, δ2, e2, e⟩ := bnd_ok e
  cases hF : fi.run ds with
  | ok r =>
    obtain ⟨d', ds'⟩ := r
    rw [hF] at e
    dsimp only at e
    obtain ⟨u, δ3, e3, e⟩ := bnd_ok e
    have := ret_ok e
    cases this
    obtain ⟨Hs2, m2, M2, g2, st2, q2, s2⟩ := takes_ok (B := fun _ => 0) (g1.re fun b => by simp) s1 r1 e2
    have z0 := step2 (m1 := fun _ => 0) g (g1.re fun b => by simp) (st1.drop (fun b => by simp) g1.le) (g2.re fun b => by simp) (M1 := fun b => m1 b + M1 b) (M2 := fun b => m2 b + M2 b) (by
      have := st2
      exact ⟨fun b o h z => this.keep b o h (by simpa using z), fun b h => by have := this.own b (by simpa using h); simpa using this, this.grow, fun b h h' => by have := this.shr b h h'; simpa using this, this.stay⟩)
    have G2 : Good H1 Hs2 (fun b => M2 b + m2 b) := g2.re fun b => by simp; omega
    have S2 : Stp H Hs M H1 Hs2 (fun b => M2 b + m2 b) := z0.2.1.drop (fun b => by simp; omega) z0.1.le
    refine ⟨ds, Hs2, m2, _, ds', G2.re fun b => by omega, q2, hF, fun v H3 Hs3 n1 n2 g3 st3 r3 r4 => ?_⟩
    obtain ⟨G, S, k⟩ := step2 g G2 S2 g3 st3
    have s3 := RepS.frame st3.grow k s2
    have fin := gives_ok s3 r4 (lates r1) e3
    exact q v H3 Hs3 n1 (fun b => n2 b + M2 b) (G.re fun b => by (try dsimp only); omega) (S.drop (fun b => by (try dsimp only); omega) G.le) r3 fin
  | exc x y => rw [hF] at e; cases e
  | stuck => rw [hF] at e; cases e
theorem call_of {K : PySem.W.Frag} {fi : FI} {cs : M (List Op)} {σ : St} {H : Hp} {Q : VK} {E : XK} (h : tM K (cs.bnd fun ps => callF fi ps) σ H Q) : tPs K cs σ H fun vs H1 => spF K fi.run vs H1 Q E := by
  obtain ⟨δ, Hs, M, d, δ', g, s, e, q⟩ := h
  obtain ⟨ps, δ1, e1, e⟩ := bnd_ok e
  exact ⟨δ, Hs, M, ps, δ1, g, s, e1, fun vs H1 Hs1 m1 M1 g1 st1 r1 s1 => call_fin g g1 st1 r1 s1 e q⟩
section
variable {X : Cx} {a e c : Expr} {es : List Expr} {pos p : Pos} {x : Str} {j n : Nat} {fi : FI} {ps : List Str} {cs : M (List Op)}
theorem ok_fn (G : FnAt X.prog X.w X.K X.mg X.base x j ps (spF X.K fi.run)) (hr : Room n X.A) (ha : PA X (e :: es) (tPs X.K cs)) (hj : j ≤ n := by decide) (hg : Gl X x := by rfl) (hdb : (x == ("__debug__" : Str)) = false := by decide)
    (he : starEach (e :: es) X.env = (false, eval e X.env) :: starEach es X.env := by rfl) (hpl : (backTo pos (starEach es X.env)).any (·.1) = false := by rfl) :
    PE X (.Call (.Name x p) (e :: es) [] pos) (tM X.K (cs.bnd fun ps => callF fi ps)) := PE.imp (pe_fn G hr ha hj hg hdb he hpl) fun σ H Q h => by
  obtain ⟨δ, Hs, M, a, δ', g, s, e, q⟩ := call_of (E := E0) h
  refine ⟨δ, Hs, M, a, δ', g, s, e, fun vs H' Hs' m M' g' st r s' => ?_⟩
  show spF X.K fi.run (vs ++ []) H' Q E0
  rw [List.append_nil]
  exact q vs H' Hs' m M' g' st r s'
end
end T
namespace T
open PySem PySem.Spec L2
theorem modL {K : PySem.W.Frag} {H Hs : Hp} {σ : St} {B M : Bud} {δ : List D} {i : Nat} {k : Kd} {ds : List D} (g : Good H Hs (fun b => B b + M b)) (s : RepS K H Hs σ δ M) (hi : δ[i]? = some (.node k true ds)) :
    ∃ (p : Addr) (vs : List V) (m' m2 : Bud), σ[i]? = some (some (.ref p)) ∧ NodeO H p vs k ∧ RepL K H Hs vs ds m' ∧ (∀ b, one p b + m' b + m2 b ≤ M b) ∧
      ∀ (o' : HO) (k' : Kd) (vs' : List V) (ds' : List D) (n' nr : Bud) (rv : V) (r : D), (∀ b, n' b + nr b ≤ m' b + B b) → NodeO (upd H p o') p vs' k' → RepL K H Hs vs' ds' n' → Rep K H Hs rv r nr →
        Good (upd H p o') Hs (fun b => nr b + (one p b + n' b + m2 b)) ∧ Stp H Hs (fun b => B b + M b) (upd H p o') Hs (fun b => nr b + (one p b + n' b + m2 b)) ∧ Rep K (upd H p o') Hs rv r nr ∧
        RepS K (upd H p o') Hs σ (δ.set i (.node k' true ds')) (fun b => one p b + n' b + m2 b) := by
  obtain ⟨v, m1, m2, e1, q, l, f⟩ := s.slot hi (by simp)
  cases q with
  | @own p _ vs _ _ m' n r l' =>
    have le : ∀ b, one p b + m' b + m2 b ≤ M b := fun b => by have := l b; have := l' b; omega
    refine ⟨p, vs, m', m2, e1, n, r, le, fun o' k' vs' ds' n' nr rv rd h1 hn hr hq => ?_⟩
    have one_p : one p p = 1 := by simp [one]
    have tot : ∀ b, nr b + (one p b + n' b + m2 b) ≤ B b + M b := fun b => by have := le b; have := h1 b; omega
    have zp : m' p = 0 ∧ B p = 0 ∧ m2 p = 0 := by
      have := le p
      have := g.le p
      try dsimp only at this
      omega
    have zp2 : n' p = 0 ∧ nr p = 0 := by have := h1 p; omega
    have Hp : H p ≠ none := n.at
    have eqH : ∀ b, b ≠ p → upd H p o' b = H b := fun b hb => upd_ne hb
    have hs2 : Hs p = none := g.ne p (by have := le p; have := g.le p; (try dsimp only at this ⊢); omega)
    refine ⟨⟨fun b o e => ?_, fun b => ?_, fun b h => ?_, fun b h => ?_⟩, ⟨fun b o e z => ?_, fun b h => ?_, Same.refl _, fun b h h' => absurd h h', fun b h => ?_⟩, ?_, ?_⟩
    · have hb : b ≠ p := fun q => by subst q; rw [hs2] at e; cases e
      rw [eqH b hb]
      exact g.sub b o e
    · have := g.le b
      have := tot b
      (try dsimp only at *)
      omega
    · have := g.le b
      have := tot b
      exact g.ne b (by (try dsimp only at *); omega)
    · by_cases hb : b = p
      · subst hb; rw [upd_same]; simp
      · rw [eqH b hb]
        have := g.le b
        have := tot b
        exact g.has b (by (try dsimp only at *); omega)
    · have hb : b ≠ p := fun q => by
        subst q
        have := le b
        have := g.le b
        (try dsimp only at *)
        omega
      rw [eqH b hb]
      exact e
    · have := g.le b
      have := tot b
      left
      (try dsimp only at *)
      omega
    · by_cases hb : b = p
      · subst hb; rw [upd_same]; simp
      · rw [eqH b hb]; exact h
    · exact hq.frame (Same.refl _) fun b hb hn' => eqH b fun q => by subst q; omega
    · have r' : RepL K (upd H p o') Hs vs' ds' n' := hr.frame (Same.refl _) fun b hb hn' => eqH b fun q => by subst q; omega
      have z := f (upd H p o') Hs (some (.ref p)) (.node k' true ds') (fun b => one p b + n' b) (Same.refl _) (fun b hb hn' => eqH b fun q => by subst q; omega) (.inr ⟨_, rfl, .own hn r' fun b => Nat.le_refl _⟩)
      rw [set_self e1] at z
      exact z.mono fun b => by (try dsimp only); omega
theorem modS_ok {i : Nat} {f : Kd → List D → Option (D × Kd × List D)} {δ δ' : List D} {d : D} (h : modS i f δ = .ok (d, δ')) : ∃ k ds k' ds', δ[i]? = some (.node k true ds) ∧ f k ds = some (d, k', ds') ∧ δ' = δ.set i (.node k' true ds') := by
  unfold modS at h
  split at h
  · rename_i k ds hi
    split at h
    · rename_i r k' ds' hf
      cases h
      exact ⟨k, ds, k', ds', hi, hf, rfl⟩
    · cases h
  · cases h
section
variable {X : Cx} {o e : Expr} {es : List Expr} {cpos apos : Pos} {i : Nat} {name : Str} {id : String}
theorem chk_ok {K : PySem.W.Frag} {H Hs : Hp} {σ : St} {M : Bud} {δ δ' : List D} {u : Unit} (g : Good H Hs M) (s : RepS K H Hs σ δ M) (h : chkL i δ = .ok (u, δ')) : δ' = δ ∧ ∃ p, σ[i]? = some (some (.ref p)) ∧ tyV K "list" (.ref p) H := by
  unfold chkL at h
  split at h
  · rename_i oo ds hi
    cases h
    obtain ⟨v, m1, m2, e1, q, l, f⟩ := s.slot hi (by simp)
    refine ⟨rfl, ?_⟩
    cases q with
    | own n r _ => exact ⟨_, e1, .inl ⟨rfl, _, .inl (.inl n)⟩⟩
    | shd n r => exact ⟨_, e1, .inl ⟨rfl, _, .inl (.inl (g.sub _ _ n))⟩⟩
  · cases h
theorem ok_append {cs : M (List D)} (ho : PE X o (tVar i)) (ha : PA X [e] (tDs X.K cs))
    (hbase : attributeBase o "append" X.env (eval o X.env) = eval o X.env := by rfl)
    (hfew : ((backTo cpos (starEach [e] X.env)).all (fun x => !x.1) && (backToKw cpos (keywordEach [] X.env)).all (fun x => x.1.isSome)
      && decide ([e].length + ([] : List Keyword).length + (if ([] : List Keyword).isEmpty then 0 else 1) < 30)) = true := by rfl)
    (hline : (apos.endLine == cpos.line) = true := by rfl) (hs : starEach [e] X.env = (false, eval e X.env) :: starEach [] X.env := by rfl) (hplain : (backTo cpos (starEach [] X.env)).any (·.1) = false := by rfl) :
    PE X (.Call (.Attribute o "append" apos) [e] [] cpos) (tM X.K ((chkL i).bnd fun _ => cs.bnd fun ds => appM i ds)) :=
  PE.imp (pe_bm PySem.F.plainAttrs_list PySem.F.slot_list_append PySem.F.type_list_append mt_append ho ha hbase hfew hline hs hplain) fun σ H Q h => by
    obtain ⟨δ, Hs, M, d, δ', g, s, ea, q⟩ := h
    obtain ⟨u, δ0, e0, eb⟩ := bnd_ok ea
    obtain ⟨ds, δ1, e1, ec⟩ := bnd_ok eb
    obtain ⟨rfl, p0, h1, h2⟩ := chk_ok g s e0
    refine ⟨_, h1, h2, δ0, Hs, M, ds, δ1, g, s, e1, fun vs H1 Hs1 m1 M1 g1 st1 r1 s1 => ?_⟩
    unfold appM at ec
    split at ec
    · rename_i x
      obtain ⟨k, ds0, k', ds', hi, hf, rfl⟩ := modS_ok ec
      unfold appD at hf
      split at hf
      · split at hf
        · rename_i hl
          cases hf
          cases r1 with
          | @cons y _ _ _ a1 a2 _ rx r2 la =>
            cases r2
            obtain ⟨p, ws, m', m2, e2, n, rl, le, fin⟩ := modL g1 s1 hi
            have e3 : some (some (V.ref p)) = some (some (V.ref p0)) := by rw [← e2, h1]
            cases e3
            obtain ⟨G, S, R, SS⟩ := fin (.lst (ws ++ [y])) .lst (ws ++ [y]) (ds0 ++ [x]) (fun b => m' b + a1 b) (fun _ => 0) .non (.sc .non) (fun b => by have := la b; (try dsimp only); omega) upd_same (rl.app (.cons rx (.nil (fun _ => 0)) fun b => by simp)) (.sc _ _)
            have z := step2 (m1 := fun _ => 0) g (g1.re fun b => by simp) (st1.drop (fun b => by simp) g1.le) G S
            exact ⟨_, ws, y, rfl, rfl, n, by rw [rl.len]; exact hl, q _ _ Hs1 _ _ G (z.2.1.drop (fun b => by simp) z.1.le) R SS⟩
        · cases hf
      · cases hf
    · cases ec
end
end T
namespace L2
open PySem PySem.Spec PyProof.Rows
section
variable {prog : Program} {w : World} {A : Around} {E : Value → Shared → Prop} {s : Shared}
end
noncomputable def gSeq (K : PySem.W.Frag) (n : Nat) (t : TGs) : TG := fun v σ H Q => ∃ a xs, v = .ref a ∧ (SqT K H a xs ∨ SqL K H a xs) ∧ xs.length = n ∧ t xs σ H Q
end L2
namespace T
open PySem PySem.Spec L2
noncomputable def Keeps (lk : Nat → Bool) (σ σ' : St) : Prop := ∀ i, lk i = true → σ'[i]? = σ[i]?
theorem Keeps.refl (lk : Nat → Bool) (σ : St) : Keeps lk σ σ := fun _ _ => rfl
theorem Keeps.trans {lk : Nat → Bool} {σ σ1 σ2 : St} (a : Keeps lk σ σ1) (b : Keeps lk σ1 σ2) : Keeps lk σ σ2 := fun i h => (b i h).trans (a i h)
noncomputable def Post (K : PySem.W.Frag) (lk : Nat → Bool) (E : Ends) (σ : St) (H Hs : Hp) (M : Bud) (f : Fl) (δ' : List D) : Prop := match f with
  | .nx => ∀ (σ' : St) (H' Hs' : Hp) (M' : Bud), Keeps lk σ σ' → Good H' Hs' M' → Stp H Hs M H' Hs' M' → RepS K H' Hs' σ' δ' M' → E.nx σ' H'
  | .bk => ∀ (σ' : St) (H' Hs' : Hp) (M' : Bud), Keeps lk σ σ' → Good H' Hs' M' → Stp H Hs M H' Hs' M' → RepS K H' Hs' σ' δ' M' → E.bk σ' H'
  | .ct => ∀ (σ' : St) (H' Hs' : Hp) (M' : Bud), Keeps lk σ σ' → Good H' Hs' M' → Stp H Hs M H' Hs' M' → RepS K H' Hs' σ' δ' M' → E.ct σ' H'
  | .rt d => ∀ (v : V) (σ' : St) (H' Hs' : Hp) (m M' : Bud), Keeps lk σ σ' → Good H' Hs' (fun b => m b + M' b) → Stp H Hs M H' Hs' (fun b => m b + M' b) → Rep K H' Hs' v d m → RepS K H' Hs' σ' δ' M' → E.rt v H'
noncomputable def tS (K : PySem.W.Frag) (lk : Nat → Bool) (c : M Fl) : TS := fun E σ H => ∃ (δ : List D) (Hs : Hp) (M : Bud) (f : Fl) (δ' : List D), Good H Hs M ∧ RepS K H Hs σ δ M ∧ c δ = .ok (f, δ') ∧ Post K lk E σ H Hs M f δ'
theorem Post.ahead {K : PySem.W.Frag} {lk : Nat → Bool} {E : Ends} {σ σ1 : St} {H Hs H1 Hs1 : Hp} {M M1 : Bud} {f : Fl} {δ' : List D} (k : Keeps lk σ σ1) (g : Good H Hs M) (g1 : Good H1 Hs1 M1) (st : Stp H Hs M H1 Hs1 M1) (h : Post K lk E σ H Hs M f δ') : Post K lk E σ1 H1 Hs1 M1 f δ' := by
  have tr : ∀ {H' Hs' : Hp} {M' : Bud}, Good H' Hs' M' → Stp H1 Hs1 M1 H' Hs' M' → Stp H Hs M H' Hs' M' := fun {H' Hs' M'} g' st' => by
    have z := step2 (m1 := fun _ => 0) g (g1.re fun b => by simp) (st.drop (fun b => by simp) g1.le) g' st'
    exact z.2.1.drop (fun b => by simp) z.1.le
  cases f with
  | nx => exact fun σ' H' Hs' M' k' g' st' r => h σ' H' Hs' M' (k.trans k') g' (tr g' st') r
  | bk => exact fun σ' H' Hs' M' k' g' st' r => h σ' H' Hs' M' (k.trans k') g' (tr g' st') r
  | ct => exact fun σ' H' Hs' M' k' g' st' r => h σ' H' Hs' M' (k.trans k') g' (tr g' st') r
  | rt d => exact fun v σ' H' Hs' m M' k' g' st' rv r => h v σ' H' Hs' m M' (k.trans k') g' (tr g' st') rv r
section
variable {X : Cx} {e a b c o : Expr} {st : Stmt} {rest : List Stmt} {pos pos' : Pos} {lk : Nat → Bool} {i : Nat} {x : Str}
theorem PS.imp {t t' : TS} (h : PS X st t) (w : ∀ E σ H, t' E σ H → t E σ H) : PS X st t' := fun pins s σ H E I q => h pins s σ H E I (w E σ H q)
theorem PSs.imp {t t' : TS} (h : PSs X rest t) (w : ∀ E σ H, t' E σ H → t E σ H) : PSs X rest t' := fun pins s σ H E I q => h pins s σ H E I (w E σ H q)
theorem ok_nil : PSs X [] (tS X.K lk (M.ret .nx)) := PSs.imp pss_nil fun E σ H h => by
  obtain ⟨δ, Hs, M, f, δ', g, s, e, q⟩ := h
  have := ret_ok e
  cases this
  exact q σ H Hs M (Keeps.refl _ _) g (Stp.refl _ _ _) s
theorem ok_seq {c r : M Fl} (h1 : PS X st (tS X.K lk c)) (h2 : PSs X rest (tS X.K lk r)) : PSs X (st :: rest) (tS X.K lk (seqL c r)) := PSs.imp (pss_cons h1 h2) fun E σ H h => by
  obtain ⟨δ, Hs, M, f, δ', g, s, e, q⟩ := h
  obtain ⟨f1, δ1, e1, e2⟩ := bnd_ok e
  refine ⟨δ, Hs, M, f1, δ1, g, s, e1, ?_⟩
  cases f1 with
  | nx => exact fun σ' H' Hs' M' k g' st' r => ⟨δ1, Hs', M', f, δ', g', r, e2, q.ahead k g g' st'⟩
  | bk => have := ret_ok e2; cases this; exact q
  | ct => have := ret_ok e2; cases this; exact q
  | rt d => have := ret_ok e2; cases this; exact q
theorem ok_never : PS X st (tS X.K lk stk) := fun pins s σ H E I ⟨δ, Hs, M, f, δ', g, _, e, q⟩ => by cases e
theorem ok_expr {c : M D} (he : PE X e (tM X.K c)) (hs : swapsWith e none pos.line X.env = pure false := by rfl) : PS X (.Expr e pos) (tS X.K lk (c.bnd fun _ => M.ret .nx)) := PS.imp (ps_expr he hs) fun E σ H h => by
  obtain ⟨δ, Hs, M, f, δ', g, s, e, q⟩ := h
  obtain ⟨d, δ1, e1, e2⟩ := bnd_ok e
  have := ret_ok e2
  cases this
  exact ⟨δ, Hs, M, d, _, g, s, e1, fun v H' Hs' m M' g' st' r s' => q σ H' Hs' M' (Keeps.refl _ _) g'.re (st'.drop (fun b => by omega) g'.le) s'⟩
theorem ok_ret {c : M D} (he : PE X e (tM X.K c)) : PS X (.Return (some e) pos) (tS X.K lk (c.bnd fun d => M.ret (.rt d))) := PS.imp (ps_ret he) fun E σ H h => by
  obtain ⟨δ, Hs, M, f, δ', g, s, e, q⟩ := h
  obtain ⟨d, δ1, e1, e2⟩ := bnd_ok e
  have := ret_ok e2
  cases this
  exact ⟨δ, Hs, M, d, _, g, s, e1, fun v H' Hs' m M' g' st' r s' => q v σ H' Hs' m M' (Keeps.refl _ _) g' st' r s'⟩
theorem ok_mov (h : PE X e (tVar i)) : PE X e (tM X.K (movV i)) := PE.imp h fun σ H Q ⟨δ, Hs, M, d, δ', g, s, e, q⟩ => by
  unfold movV at e
  split at e
  · rename_i u hd
    cases e
    obtain ⟨v, m1, m2, e3, r, _⟩ := s.slot hd (by simp)
    cases r
    exact ⟨u, e3, q u H Hs (fun _ => 0) M (good0 g) (stp0 H Hs M) (.sc _ _) s⟩
  · rename_i k oo ds hd
    cases e
    obtain ⟨v, m1, m2, e3, r, l, f⟩ := s.slot hd (by simp)
    have z := f H Hs (some v) .hole (fun _ => 0) (Same.refl _) (fun _ _ _ => rfl) (.inl rfl)
    rw [set_self e3] at z
    exact ⟨v, e3, q v H Hs m1 m2 (g.re fun b => by have := l b; omega) ((Stp.refl H Hs M).drop (fun b => by have := l b; omega) g.le) r (z.mono fun b => by simp)⟩
  · cases e
theorem ok_if {cc : M Bool} {ca cb : M Fl} {A B : List Stmt} (hc : PT X c (tT X.K cc)) (ha : PSs X A (tS X.K lk ca)) (hb : PSs X B (tS X.K lk cb)) : PS X (.If c A B pos) (tS X.K lk (cc.bnd fun t => if t then ca else cb)) := PS.imp (ps_if hc ha hb) fun E σ H h => by
  obtain ⟨δ, Hs, M, f, δ', g, s, e, q⟩ := h
  obtain ⟨t, δ1, e1, e2⟩ := bnd_ok e
  refine ⟨δ, Hs, M, t, δ1, g, s, e1, fun H' Hs' M' g' st' s' => ?_⟩
  cases t with
  | true => exact ⟨δ1, Hs', M', f, δ', g', s', e2, q.ahead (Keeps.refl _ _) g g' st'⟩
  | false => exact ⟨δ1, Hs', M', f, δ', g', s', e2, q.ahead (Keeps.refl _ _) g g' st'⟩
theorem set_slot {K : PySem.W.Frag} {H Hs : Hp} {σ : St} {δ : List D} {m M : Bud} {v : V} {d : D} (s : RepS K H Hs σ δ M) (hi : i < δ.length) (r : Rep K H Hs v d m) : RepS K H Hs (σ.set i (some v)) (δ.set i d) (fun b => m b + M b) := by
  obtain ⟨o, m1, m2, e1, q, l, f⟩ := s.focus (List.getElem?_eq_getElem hi)
  exact (f (RepO K H Hs) (some v) d m (fun a d m' _ q => q) (.inr ⟨v, rfl, r⟩)).mono fun b => by have := l b; (try dsimp only); omega
theorem asgN_ok {δ δ' : List D} {d : D} {u : Unit} (h : asgN lk i d δ = .ok (u, δ')) : i < δ.length ∧ lk i = false ∧ δ' = δ.set i d := by
  unfold asgN at h
  split at h
  · rename_i hc
    simp only [Bool.and_eq_true, decide_eq_true_eq, Bool.not_eq_true'] at hc
    cases h
    exact ⟨hc.1, hc.2, rfl⟩
  · cases h
theorem keeps_set {σ : St} {v : Option V} (h : lk i = false) : Keeps lk σ (σ.set i v) := fun j hj => by
  have : i ≠ j := fun q => by subst q; rw [h] at hj; cases hj
  rw [List.getElem?_set_ne this]
theorem ok_asg {c : M D} (hN : X.N.Nodup) (hi : X.N[i]? = some x) (hx : Loc X.env.scope x) (he : PE X e (tM X.K c)) (hs : swapsWith e (some (.Name x pos')) pos.line X.env = pure false := by rfl)
    (hf : X.fn x = true ∨ X.env.scope.names.lookup x = some .local := by first | exact .inl rfl | exact .inr rfl | assumption) :
    PS X (.Assign [.Name x pos'] e pos) (tS X.K lk (c.bnd fun d => (asgN lk i d).bnd fun _ => M.ret .nx)) := PS.imp (ps_set hN hi hx he hs hf) fun E σ H h => by
  obtain ⟨δ, Hs, M, f, δ', g, s, e, q⟩ := h
  obtain ⟨d, δ1, e1, e2⟩ := bnd_ok e
  obtain ⟨u, δ2, e3, e4⟩ := bnd_ok e2
  have := ret_ok e4
  cases this
  obtain ⟨h1, h2, rfl⟩ := asgN_ok e3
  exact ⟨δ, Hs, M, d, δ1, g, s, e1, fun v H' Hs' m M' g' st' r s' => q _ H' Hs' _ (keeps_set h2) g' st' (set_slot s' h1 r)⟩
end
end T
namespace T
open PySem PySem.Spec L2
noncomputable def gNs : List Nat → TGs
  | [] => gNil
  | i :: is => gCons (gName i) (gNs is)
theorem asgs_ok {K : PySem.W.Frag} {H Hs : Hp} {lk : Nat → Bool} : ∀ {is : List Nat} {ds : List D} {vs : List V} {σ : St} {δ δ' : List D} {m M : Bud} {u : Unit} {Q : St → Hp → Prop}, asgNs lk is ds δ = .ok (u, δ') → RepL K H Hs vs ds m → RepS K H Hs σ δ M →
    (∀ σ', Keeps lk σ σ' → RepS K H Hs σ' δ' (fun b => m b + M b) → Q σ' H) → vs.length = is.length ∧ gNs is vs σ H Q
  | [], [], _, σ, δ, δ', m, M, u, Q, e, .nil _, s, q => by
    have := ret_ok e
    cases this
    exact ⟨rfl, rfl, q σ (Keeps.refl _ _) (s.mono fun b => by omega)⟩
  | [], _ :: _, _, _, _, _, _, _, _, _, e, _, _, _ => by cases e
  | _ :: _, [], _, _, _, _, _, _, _, _, e, _, _, _ => by cases e
  | i :: is, d :: ds, _, σ, δ, δ', m, M, u, Q, e, .cons (v := v) (vs := vs) (m1 := m1) (m2 := m2) x y l, s, q => by
    obtain ⟨u1, δ1, e1, e2⟩ := bnd_ok e
    obtain ⟨h1, h2, rfl⟩ := asgN_ok e1
    obtain ⟨hl, hq⟩ := asgs_ok (Q := Q) e2 y (set_slot s h1 x) fun σ' k r => q σ' ((keeps_set h2).trans k) (r.mono fun b => by have := l b; (try dsimp only); omega)
    exact ⟨by rw [List.length_cons, List.length_cons, hl], v, vs, rfl, hq⟩
section
variable {X : Cx} {e o k : Expr} {es : List Expr} {pos pos' : Pos} {lk : Nat → Bool} {i j : Nat} {is : List Nat} {x : Str}
theorem RepL.set {K : PySem.W.Frag} {H Hs : Hp} {vs : List V} {ds : List D} {m m1 : Bud} {n : Nat} {v : V} {d d0 : D} (r : RepL K H Hs vs ds m) (hn : ds[n]? = some d0) (x : Rep K H Hs v d m1) : RepL K H Hs (vs.set n v) (ds.set n d) (fun b => m b + m1 b) := by
  obtain ⟨a, n1, n2, e1, q, l, f⟩ := r.sep.focus hn
  exact ((f (Rep K H Hs) v d m1 (fun a d m' _ q => q) x).mono fun b => by have := l b; (try dsimp only); omega).repL
theorem late_ok {K : PySem.W.Frag} {H Hs : Hp} {σ : St} {δ δ' : List D} {M : Bud} {p : Op} (s : RepS K H Hs σ δ M) (h : lateM i δ = .ok (p, δ')) : δ' = δ ∧ ∃ v, σ[i]? = some (some v) := by
  unfold lateM at h
  split at h
  · rename_i hd
    cases h
    obtain ⟨v, _, _, e, _⟩ := s.slot hd (by simp)
    exact ⟨rfl, v, e⟩
  · rename_i hd
    cases h
    obtain ⟨v, _, _, e, _⟩ := s.slot hd (by simp)
    exact ⟨rfl, v, e⟩
  · cases h
end
end T
namespace T
open PySem PySem.Spec L2
structure WalkV (J : It) (vs : List V) (B : Bud) (Pp : Hp → Hp → Prop) : Prop where
  stay : ∀ {H Hs H' Hs' : Hp}, Pp H Hs → Same Hs Hs' → (∀ b, B b ≥ 1 → H b ≠ none → H' b = H b) → Pp H' Hs'
  go : ∀ {H Hs : Hp} {i : Nat} {v : V}, Same Hs H → Pp H Hs → vs[i]? = some v → J.go i H
  yld : ∀ {H Hs H' : Hp} {i : Nat} {x v : V}, Same Hs H → Pp H Hs → vs[i]? = some v → J.yld i H x H' → H' = H ∧ x = v
  stop : ∀ {H Hs : Hp} {i : Nat}, Same Hs H → Pp H Hs → vs.length ≤ i → J.stop i H
noncomputable def Grow (H Hs H' Hs' : Hp) : Prop := (H' = H ∧ Hs' = Hs) ∨ ∃ A o, H A = none ∧ H' = upd H A o ∧ Hs' = upd Hs A o
theorem Grow.same {H Hs H' Hs' : Hp} (w : Grow H Hs H' Hs') (g : Same Hs H) : Same Hs Hs' ∧ (∀ b, H b ≠ none → H' b = H b) ∧ Same Hs' H' := by
  rcases w with ⟨rfl, rfl⟩ | ⟨A, o, h, rfl, rfl⟩
  · exact ⟨Same.refl _, fun _ _ => rfl, g⟩
  · have hs : Hs A = none := by
      cases q : Hs A with
      | none => rfl
      | some u => rw [g A u q] at h; cases h
    have ne : ∀ b u, Hs b = some u → b ≠ A := fun b u e z => by subst z; rw [hs] at e; cases e
    refine ⟨fun b u e => ?_, fun b n => upd_ne fun z => n (by rw [z]; exact h), fun b u e => ?_⟩
    · rw [upd_ne (ne b u e)]; exact e
    · by_cases z : b = A
      · subst z; rw [upd_same] at e ⊢; exact e
      · rw [upd_ne z] at e ⊢; exact g b u e
theorem Grow.good {H Hs H' Hs' : Hp} {M : Bud} (w : Grow H Hs H' Hs') (g : Good H Hs M) : Good H' Hs' M := by
  obtain ⟨s1, s2, s3⟩ := w.same g.sub
  refine ⟨s3, g.le, fun b h => ?_, fun b h => ?_⟩
  · rcases w with ⟨rfl, rfl⟩ | ⟨A, o, n, rfl, rfl⟩
    · exact g.ne b h
    · rw [upd_ne fun z => g.has b h (by rw [z]; exact n)]; exact g.ne b h
  · rw [s2 b (g.has b h)]; exact g.has b h
theorem Grow.stp {H Hs H' Hs' H0 Hs0 : Hp} {M M0 : Bud} (w : Grow H Hs H' Hs') (g : Good H Hs M) (t : Stp H0 Hs0 M0 H Hs M) : Stp H0 Hs0 M0 H' Hs' M := by
  obtain ⟨s1, s2, s3⟩ := w.same g.sub
  refine ⟨fun b o e z => ?_, t.own, t.grow.trans s1, fun b n n' => ?_, fun b n => ?_⟩
  · have e1 := t.keep b o e z
    rw [s2 b (by rw [e1]; simp)]; exact e1
  · by_cases q : Hs b = none
    · rcases w with ⟨rfl, rfl⟩ | ⟨A, o, h, rfl, rfl⟩
      · exact absurd q n'
      · by_cases z : b = A
        · subst z
          cases y : H0 b with
          | none => exact .inr rfl
          | some u => exact absurd h (t.stay b (by rw [y]; simp))
        · rw [upd_ne z] at n'; exact absurd q n'
    · exact t.shr b n q
  · have := t.stay b n
    rw [s2 b this]; exact this
structure Walk (K : PySem.W.Frag) (J : It) (items : List D) (B : Bud) (Pp : Hp → Hp → Prop) : Prop where
  stay : ∀ {H Hs H' Hs' : Hp}, Pp H Hs → Same Hs Hs' → (∀ b, B b ≥ 1 → H b ≠ none → H' b = H b) → Pp H' Hs'
  go : ∀ {H Hs : Hp} {i : Nat}, Same Hs H → Pp H Hs → i < items.length → J.go i H
  yld : ∀ {H Hs H' : Hp} {i : Nat} {x : V} {d : D}, Same Hs H → Pp H Hs → items[i]? = some d → J.yld i H x H' → ∃ Hs', Grow H Hs H' Hs' ∧ Rep K H' Hs' x d (fun _ => 0)
  stop : ∀ {H Hs : Hp} {i : Nat}, Same Hs H → Pp H Hs → items.length ≤ i → J.stop i H
theorem WalkV.w {K : PySem.W.Frag} {J : It} {vs : List V} {items : List D} {B : Bud} {Pp : Hp → Hp → Prop} (w : WalkV J vs B Pp) : Walk K J items B (fun H Hs => Pp H Hs ∧ RepL K H Hs vs items (fun _ => 0)) where
  stay := fun h g k => ⟨w.stay h.1 g k, h.2.frame g fun b hb => absurd hb (by simp)⟩
  go := fun {H Hs i} g h l => by
    have e := h.2.len
    exact w.go g h.1 (List.getElem?_eq_getElem (show i < vs.length by omega))
  yld := fun {H Hs H' i x d} g h e y => by
    obtain ⟨v, m1, ev, rv, lv⟩ := h.2.at e
    obtain ⟨rfl, rfl⟩ := w.yld g h.1 ev y
    exact ⟨Hs, .inl ⟨rfl, rfl⟩, rv.mono lv⟩
  stop := fun {H Hs i} g h l => w.stop g h.1 (by have := h.2.len; omega)
noncomputable def Held (K : PySem.W.Frag) (H Hs : Hp) (σ : St) : List (Nat × D) → Bud → Prop
  | [], _ => True
  | (i, d) :: r, m => ∃ (v : V) (m1 m2 : Bud), σ[i]? = some (some v) ∧ Rep K H Hs v d m1 ∧ Held K H Hs σ r m2 ∧ ∀ b, m1 b + m2 b ≤ m b
theorem Held.frame {K : PySem.W.Frag} {H Hs H' Hs' : Hp} {σ : St} (g : Same Hs Hs') : ∀ {hs : List (Nat × D)} {m : Bud}, (∀ b, m b ≥ 1 → H b ≠ none → H' b = H b) → Held K H Hs σ hs m → Held K H' Hs' σ hs m
  | [], _, _, h => h
  | (i, d) :: r, m, k, ⟨v, m1, m2, e, x, y, l⟩ => ⟨v, m1, m2, e, x.frame g fun b hb => k b (by have := l b; omega), y.frame g fun b hb => k b (by have := l b; omega), l⟩
theorem Held.keeps {K : PySem.W.Frag} {H Hs : Hp} {σ σ' : St} {lk : Nat → Bool} (k : Keeps lk σ σ') : ∀ {hs : List (Nat × D)} {m : Bud}, (∀ p ∈ hs, lk p.1 = true) → Held K H Hs σ hs m → Held K H Hs σ' hs m
  | [], _, _, h => h
  | (i, d) :: r, m, hl, ⟨v, m1, m2, e, x, y, l⟩ => ⟨v, m1, m2, (k i (hl (i, d) List.mem_cons_self)).trans e, x, y.keeps k fun p hp => hl p (List.mem_cons_of_mem _ hp), l⟩
theorem giveH_ok {K : PySem.W.Frag} {H Hs : Hp} {σ : St} : ∀ {hs : List (Nat × D)} {m M : Bud} {δ δ' : List D} {u : Unit}, giveH hs δ = .ok (u, δ') → Held K H Hs σ hs m → RepS K H Hs σ δ M → RepS K H Hs σ δ' (fun b => m b + M b)
  | [], m, M, δ, δ', u, e, h, s => by
    have := ret_ok e
    cases this
    exact s.mono fun b => by omega
  | (i, d) :: r, m, M, δ, δ', u, e, ⟨v, m1, m2, e1, x, y, l⟩, s => by
    have hi : i < δ.length := by
      have := s.length
      have := (List.getElem?_eq_some_iff.mp e1).1
      omega
    have z := set_slot s hi x
    rw [set_self e1] at z
    exact (giveH_ok (show giveH r (δ.set i d) = _ from e) y z).mono fun b => by have := l b; (try dsimp only); omega
noncomputable def tI (K : PySem.W.Frag) (ik : IK) (cs : M (List Op)) : TI := fun σ H R => ∃ (δ : List D) (Hs : Hp) (M : Bud) (h : List W × List (Nat × D)) (items : List D) (δ' : List D), Good H Hs M ∧ RepS K H Hs σ δ M ∧ (cs.bnd holdVs) δ = .ok (h, δ') ∧ itW ik h.1 = some items ∧
  ∀ (J : It) (Pp : Hp → Hp → Prop) (H' Hs' : Hp) (B M' : Bud), Good H' Hs' (fun b => B b + M' b) → Stp H Hs M H' Hs' (fun b => B b + M' b) → RepS K H' Hs' σ δ' M' → Held K H' Hs' σ h.2 B → Walk K J items B Pp → Pp H' Hs' → R J H'
theorem PI.imp {X : Cx} {tg it : Expr} {w w' : TI} (h : PI X tg it w) (q : ∀ σ H R, w' σ H R → w σ H R) : PI X tg it w' := fun pins s σ H R I z => h pins s σ H R I (q σ H R z)
noncomputable def HW (K : PySem.W.Frag) (H Hs : Hp) (B : Bud) (v : V) : W → Prop
  | .sc u => v = u
  | .nd k ds => ∃ a vs, v = .ref a ∧ RepL K H Hs vs ds (fun _ => 0) ∧ (NodeR K Hs a vs k ∨ (NodeO H a vs k ∧ B a ≥ 1))
theorem hold_ok {K : PySem.W.Frag} {H Hs : Hp} {σ : St} {δ δ' : List D} {m M : Bud} {p : Op} {v : V} {w : W × Option (Nat × D)} (g : Good H Hs (fun b => m b + M b)) (s : RepS K H Hs σ δ M) (r : RepP K H Hs σ v p m) (e : holdV p δ = .ok (w, δ')) :
    ∃ Hs' B M', Good H Hs' (fun b => B b + M' b) ∧ Stp H Hs (fun b => m b + M b) H Hs' (fun b => B b + M' b) ∧ RepS K H Hs' σ δ' M' ∧ Held K H Hs' σ w.2.toList B ∧ HW K H Hs' B v w.1 := by
  have dropM : ∀ {Hs' : Hp} {M' : Bud}, Good H Hs' M' → Good H Hs' (fun b => (fun _ => 0) b + M' b) := fun g => g.re fun b => by simp
  cases p with
  | tmp d =>
    cases d with
    | hole => cases e
    | sc u =>
      have := ret_ok e
      cases this
      cases r
      exact ⟨Hs, fun _ => 0, M, g.re fun b => by simp, (Stp.refl H Hs _).drop (fun b => by simp) g.le, s, trivial, rfl⟩
    | node k o ds =>
      have := ret_ok e
      cases this
      have hsame := shH_same g (m := m) fun b => by omega
      have r2 := Rep.share hsame (shH_at (H := H) (Hs := Hs) (m := m)) r
      refine ⟨shH H Hs m, fun _ => 0, M, dropM g.share, (Stp.share g).drop (fun b => by simp) g.share.le, s.frame hsame fun _ _ _ => rfl, trivial, ?_⟩
      simp only [shr] at r2
      cases r2 with
      | shd n r3 => exact ⟨_, _, rfl, r3, .inl n⟩
  | late i =>
    have r : σ[i]? = some (some v) := r
    unfold holdV at e
    dsimp only at e
    split at e
    · rename_i u hi
      cases e
      obtain ⟨v', m1, m2, e1, q, l, f⟩ := s.slot hi (by simp)
      rw [r] at e1
      cases e1
      cases q
      exact ⟨Hs, fun _ => 0, M, g.re fun b => by simp, (Stp.refl H Hs _).drop (fun b => by simp) g.le, s, trivial, rfl⟩
    · rename_i k ds hi
      cases e
      obtain ⟨v', m1, m2, e1, q, l, f⟩ := s.slot hi (by simp)
      rw [r] at e1
      cases e1
      cases q with
      | shd n q => exact ⟨Hs, fun _ => 0, M, g.re fun b => by simp, (Stp.refl H Hs _).drop (fun b => by simp) g.le, s, trivial, _, _, rfl, q, .inl n⟩
    · rename_i k ds hi
      cases e
      obtain ⟨v', m1, m2, e1, q, l, f⟩ := s.slot hi (by simp)
      rw [r] at e1
      cases e1
      cases q with
      | @own a _ vs _ _ m' n q l' =>
        have g2 : Good H Hs (fun b => m' b + (one a b + m2 b)) := g.re fun b => by have := l b; have := l' b; omega
        have hsame := shH_same g2 (m := m') fun b => by omega
        have q2 := RepL.share hsame (shH_at (H := H) (Hs := Hs) (m := m')) q
        have st := Stp.share g2
        have z := f H (shH H Hs m') (some (.ref a)) .hole (fun _ => 0) hsame (fun _ _ _ => rfl) (.inl rfl)
        rw [set_self r] at z
        refine ⟨shH H Hs m', one a, m2, g2.share, ⟨fun b o h _ => h, fun b h => ?_, st.grow, fun b h h' => ?_, fun b h => h⟩, z.mono fun b => by simp, ⟨_, one a, fun _ => 0, r, .own n q2 fun b => by simp, trivial, fun b => by simp⟩, _, _, rfl, q2, .inr ⟨n, by simp [one]⟩⟩
        · have h : one a b + m2 b = 1 := h
          have l0 : m b + M b ≤ 1 := g.le b
          have := l b
          have := l' b
          left
          show m b + M b = 1
          omega
        · rcases st.shr b h h' with z | z
          · have z : m' b + (one a b + m2 b) = 1 := z
            have l0 : m b + M b ≤ 1 := g.le b
            have := l b
            have := l' b
            left
            show m b + M b = 1
            omega
          · exact .inr z
    · cases e
theorem walk_range (lo : Int) (n : Nat) (B : Bud) : WalkV (Itr lo n) ((List.range n).map fun (k : Nat) => V.int (lo + k)) B (fun _ _ => True) where
  stay := fun _ _ _ => trivial
  go := fun {H Hs i v} _ _ h => by
    have := (List.getElem?_eq_some_iff.mp h).1
    simp only [List.length_map, List.length_range] at this
    exact this
  yld := fun {H Hs H' i x v} _ _ h y => by
    obtain ⟨e, y⟩ := y
    have := (List.getElem?_eq_some_iff.mp h).1
    simp only [List.length_map, List.length_range] at this
    rw [List.getElem?_map, List.getElem?_range this] at h
    simp only [Option.map_some, Option.some.injEq] at h
    exact ⟨e, y.trans h⟩
  stop := fun {H Hs i} _ _ h => by
    simp only [List.length_map, List.length_range] at h
    exact h
theorem walk_list {K : PySem.W.Frag} {a : Addr} {vs : List V} {B : Bud} : WalkV (Itl K a) vs B (fun H Hs => SqL K Hs a vs ∨ (H a = some (.lst vs) ∧ B a ≥ 1)) := by
  have sq : ∀ {H Hs : Hp}, Same Hs H → (SqL K Hs a vs ∨ (H a = some (.lst vs) ∧ B a ≥ 1)) → SqL K H a vs := fun g h => by
    rcases h with h | h
    · exact g.seq h
    · exact .inl (.inl h.1)
  refine ⟨fun h g k => ?_, fun g h e => ⟨vs, _, sq g h, e⟩, fun g h e y => ?_, fun g h e => ⟨vs, sq g h, e⟩⟩
  · rcases h with h | ⟨h, hb⟩
    · exact .inl (g.seq h)
    · exact .inr ⟨(k a hb (by rw [h]; simp)).trans h, hb⟩
  · obtain ⟨e1, y⟩ := y
    have := y vs (sq g h)
    rw [e] at this
    exact ⟨e1, (Option.some.inj this).symm⟩
theorem walk_tup {K : PySem.W.Frag} {a : Addr} {vs : List V} {B : Bud} : WalkV (Itt K a) vs B (fun H Hs => SqT K Hs a vs ∨ (H a = some (.tup vs) ∧ B a ≥ 1)) := by
  have sq : ∀ {H Hs : Hp}, Same Hs H → (SqT K Hs a vs ∨ (H a = some (.tup vs) ∧ B a ≥ 1)) → SqT K H a vs := fun g h => by
    rcases h with h | h
    · exact Same.tupq' g h
    · exact .inl (.inl h.1)
  refine ⟨fun h g k => ?_, fun g h e => ⟨vs, _, sq g h, e⟩, fun g h e y => ?_, fun g h e => ⟨vs, sq g h, e⟩⟩
  · rcases h with h | ⟨h, hb⟩
    · exact .inl (Same.tupq' g h)
    · exact .inr ⟨(k a hb (by rw [h]; simp)).trans h, hb⟩
  · obtain ⟨e1, y⟩ := y
    have := y vs (sq g h)
    rw [e] at this
    exact ⟨e1, (Option.some.inj this).symm⟩
section
variable {X : Cx} {tg a b l : Expr} {ca cb : M Op} {pos p : Pos}
theorem hold1 {c : M Op} {δ δ' : List D} {h : List W × List (Nat × D)} (e : ((c.bnd fun p => (M.ret ([] : List Op)).bnd fun ps => M.ret (p :: ps)).bnd holdVs) δ = .ok (h, δ')) : ∃ p δ1 w, c δ = .ok (p, δ1) ∧ holdV p δ1 = .ok (w, δ') ∧ h = ([w.1], w.2.toList) := by
  obtain ⟨ps, δ1, e1, e2⟩ := bnd_ok e
  obtain ⟨p, δ2, e3, e4⟩ := bnd_ok e1
  obtain ⟨z, δ3, e5, e6⟩ := bnd_ok e4
  have := ret_ok e5
  cases this
  have := ret_ok e6
  cases this
  obtain ⟨w, δ4, e7, e8⟩ := bnd_ok e2
  obtain ⟨z, δ5, e9, e10⟩ := bnd_ok e8
  have := ret_ok e9
  cases this
  have := ret_ok e10
  cases this
  exact ⟨p, δ1, w, e3, e7, by simp⟩
theorem repl_ints {K : PySem.W.Frag} {H Hs : Hp} : ∀ (l : List Int), RepL K H Hs (l.map V.int) (l.map fun i => D.sc (.int i)) (fun _ => 0)
  | [] => .nil _
  | i :: l => .cons (m1 := fun _ => 0) (m2 := fun _ => 0) (.sc _ _) (repl_ints l) fun b => by simp
theorem rng_rep {K : PySem.W.Frag} {H Hs : Hp} (lo hi : Int) : RepL K H Hs ((List.range (hi - lo).toNat).map fun (k : Nat) => V.int (lo + k)) (rng lo hi) (fun _ => 0) := by
  have z := repl_ints (K := K) (H := H) (Hs := Hs) ((List.range (hi - lo).toNat).map fun (k : Nat) => lo + k)
  rw [List.map_map, List.map_map] at z
  exact z
theorem ok_rng1 (hg : Gl X "range") (hm : X.mg "range" = none) (ha : PE X a (tP X.K ca)) (hs : starEach [a] X.env = [(false, eval a X.env)] := by rfl) :
    PI X tg (.Call (.Name "range" p) [a] [] pos) (tI X.K .rng1 (ca.bnd fun p => (M.ret ([] : List Op)).bnd fun ps => M.ret (p :: ps))) := PI.imp (pi_range1 hg hm (pa_cons ha pa_nil (by rw [hs]; rfl)) hs) fun σ H R h => by
  obtain ⟨δ, Hs, M, h, items, δ', g, s, e, ei, q⟩ := h
  obtain ⟨p, δ1, w, e1, e2, rfl⟩ := hold1 e
  refine ⟨δ, Hs, M, p, δ1, g, s, e1, fun x H2 Hs2 m1 M2 g2 st2 r1 s2 => ?_⟩
  obtain ⟨Hs3, B, M3, g3, st3, s3, hh, hw⟩ := hold_ok g2 s2 r1 e2
  have z := step2 (m1 := fun _ => 0) g (g2.re fun b => by simp) (st2.drop (fun b => by simp) g2.le) g3 st3
  obtain ⟨w1, w2⟩ := w
  replace ei : rng1I _ = _ := ei
  unfold rng1I at ei
  split at ei
  rotate_left
  · cases ei
  rename_i n hx
  cases hx
  split at ei
  · rename_i hok
    cases ei
    obtain rfl := hw
    simp only [okR, Bool.and_eq_true, decide_eq_true_eq] at hok
    have hz : (n - 0).toNat = n.toNat := by omega
    refine ⟨n, rfl, hok.1, hok.2, ?_⟩
    have := rng_rep (K := X.K) (H := H2) (Hs := Hs3) 0 n
    rw [hz] at this
    exact q _ _ H2 Hs3 B M3 g3 (z.2.1.drop (fun b => by simp) z.1.le) s3 hh (walk_range 0 n.toNat B).w ⟨trivial, this⟩
  · cases ei
theorem hold2 {ca cb : M Op} {δ δ' : List D} {h : List W × List (Nat × D)} (e : ((ca.bnd fun p => (cb.bnd fun p => (M.ret ([] : List Op)).bnd fun ps => M.ret (p :: ps)).bnd fun ps => M.ret (p :: ps)).bnd holdVs) δ = .ok (h, δ')) : ∃ p1 δ1 p2 δ2 w1 δ3 w2, ca δ = .ok (p1, δ1) ∧ cb δ1 = .ok (p2, δ2) ∧ holdV p1 δ2 = .ok (w1, δ3) ∧ holdV p2 δ3 = .ok (w2, δ') ∧ h = ([w1.1, w2.1], w1.2.toList ++ (w2.2.toList ++ [])) := by
  obtain ⟨ps, δ1, e1, e2⟩ := bnd_ok e
  obtain ⟨p1, δ2, e3, e4⟩ := bnd_ok e1
  obtain ⟨qs, δ3, e5, e6⟩ := bnd_ok e4
  obtain ⟨p2, δ4, e7, e8⟩ := bnd_ok e5
  obtain ⟨z, δ5, e9, e10⟩ := bnd_ok e8
  clear e e1 e4 e5 e8
  have := ret_ok e9
  cases this
  have := ret_ok e10
  cases this
  have := ret_ok e6
  cases this
  obtain ⟨w1, δ6, e11, e12⟩ := bnd_ok e2
  obtain ⟨ws, δ7, e13, e14⟩ := bnd_ok e12
  obtain ⟨w2, δ8, e15, e16⟩ := bnd_ok e13
  obtain ⟨z, δ9, e17, e18⟩ := bnd_ok e16
  clear e2 e12 e13 e16
  have := ret_ok e17
  cases this
  have := ret_ok e18
  cases this
  have := ret_ok e14
  cases this
  exact ⟨p1, δ2, p2, _, w1, _, w2, e3, e7, e11, e15, rfl⟩
theorem hold_sc {p : Op} {δ δ' : List D} {v : V} {h : Option (Nat × D)} (e : holdV p δ = .ok ((.sc v, h), δ')) : h = none := by
  cases p with
  | tmp d => cases d with
    | sc u => cases e; rfl
    | hole => cases e
    | node k o ds => cases e
  | late i =>
    unfold holdV at e
    dsimp only at e
    split at e <;> cases e
    rfl
theorem ok_rng2 (hg : Gl X "range") (hm : X.mg "range" = none) (ha : PE X a (tP X.K ca)) (hb : PE X b (tP X.K cb)) (hs : starEach [a, b] X.env = [(false, eval a X.env), (false, eval b X.env)] := by rfl) (hs2 : starEach [b] X.env = [(false, eval b X.env)] := by rfl) :
    PI X tg (.Call (.Name "range" p) [a, b] [] pos) (tI X.K .rng2 (ca.bnd fun p => (cb.bnd fun p => (M.ret ([] : List Op)).bnd fun ps => M.ret (p :: ps)).bnd fun ps => M.ret (p :: ps))) := PI.imp (pi_range2 hg hm (pa_cons ha (pa_cons hb pa_nil (by rw [hs2]; rfl)) (by rw [hs, hs2])) hs hs2) fun σ H R h => by
  obtain ⟨δ, Hs, M, h, items, δ', g, s, e, ei, q⟩ := h
  obtain ⟨p1, δ2, p2, δ4, w1, δ6, w2, e3, e7, e11, e15, rfl⟩ := hold2 e
  obtain ⟨w1, h1⟩ := w1
  obtain ⟨w2, h2⟩ := w2
  replace ei : rng2I _ = _ := ei
  unfold rng2I at ei
  split at ei
  rotate_left
  · cases ei
  rename_i lo hi hx
  cases hx
  split at ei
  · rename_i hok
    cases ei
    simp only [okR, Bool.and_eq_true, decide_eq_true_eq] at hok
    refine ⟨δ, Hs, M, p1, δ2, g, s, e3, fun x H1 Hs1 m1 M1 g1 st1 r1 s1 => ⟨δ2, Hs1, M1, p2, _, g1.re, s1, e7, fun y H2 Hs2 m2 M2 g2 st2 r2 s2 => ?_⟩⟩
    obtain ⟨G2, S2, k2⟩ := step2 g g1 st1 g2 st2
    have r1' := RepP.frame st2.grow k2 r1
    have r2b : RepP X.K H2 Hs2 σ x p1 (fun b => m1 b + m2 b) := by
      cases p1 with
      | late i => exact r1'
      | tmp d => exact Rep.mono r1' fun b => by omega
    obtain ⟨Hs3, B3, M3, g3, st3, s3, hh3, hw3⟩ := hold_ok (m := fun b => m1 b + m2 b) (G2.re fun b => by (try dsimp only); omega) s2 r2b e11
    obtain rfl := hw3
    have r2' : RepP X.K H2 Hs3 σ y p2 (fun _ => 0) := by
      cases p2 with
      | late i => exact r2
      | tmp d =>
        cases d with
        | sc u => cases r2; exact .sc _ _
        | hole => cases e15
        | node k o ds => cases e15
    have nh1 : h1 = none := hold_sc e11
    have nh2 : h2 = none := hold_sc e15
    subst nh1 nh2
    obtain ⟨Hs4, B4, M4, g4, st4, s4, hh4, hw4⟩ := hold_ok (m := fun _ => 0) (g3.re fun b => by simp) s3 r2' e15
    obtain rfl := hw4
    have S2' : Stp H Hs M H2 Hs2 (fun b => m1 b + m2 b + M2 b) := S2.drop (fun b => by omega) G2.le
    have G2' : Good H2 Hs2 (fun b => m1 b + m2 b + M2 b) := G2.re fun b => by omega
    have z3 := step2 (m1 := fun _ => 0) g (G2'.re fun b => by simp) (S2'.drop (fun b => by simp) G2'.le) g3 st3
    have S3 : Stp H Hs M H2 Hs3 (fun b => B3 b + M3 b) := z3.2.1.drop (fun b => by simp) z3.1.le
    have st4' : Stp H2 Hs3 (fun b => B3 b + M3 b) H2 Hs4 (fun b => B4 b + M4 b) := ⟨fun b o h _ => h, fun b h => by
        rcases st4.own b h with z | z
        · have z : 0 + M3 b = 1 := z
          have : B3 b + M3 b ≤ 1 := g3.le b
          left; show B3 b + M3 b = 1; omega
        · exact .inr z, st4.grow, fun b h h' => by
        rcases st4.shr b h h' with z | z
        · have z : 0 + M3 b = 1 := z
          have : B3 b + M3 b ≤ 1 := g3.le b
          left; show B3 b + M3 b = 1; omega
        · exact .inr z, fun b h => h⟩
    have z4 := step2 (m1 := fun _ => 0) g (g3.re fun b => by simp) (S3.drop (fun b => by simp) g3.le) g4 st4'
    exact ⟨lo, hi, rfl, ⟨hok.1.1, hok.1.2, hok.2.1, hok.2.2⟩, q _ _ H2 Hs4 B4 M4 g4 (z4.2.1.drop (fun b => by simp) z4.1.le) s4 trivial (walk_range lo _ B4).w ⟨trivial, rng_rep lo hi⟩⟩
  · cases ei
theorem repl_chars {K : PySem.W.Frag} {H Hs : Hp} : ∀ (l : List Nat), RepL K H Hs (l.map fun c => V.str ⟨#[c]⟩) (l.map fun c => D.sc (.str ⟨#[c]⟩)) (fun _ => 0)
  | [] => .nil _
  | i :: l => .cons (m1 := fun _ => 0) (m2 := fun _ => 0) (.sc _ _) (repl_chars l) fun b => by simp
theorem walk_str (x : Str) (B : Bud) : WalkV (Its x) (x.cps.toList.map fun c => V.str ⟨#[c]⟩) B (fun _ _ => True) where
  stay := fun _ _ _ => trivial
  go := fun {H Hs i v} _ _ h => by
    have := (List.getElem?_eq_some_iff.mp h).1
    have : i < x.cps.size := by simpa using this
    exact this
  yld := fun {H Hs H' i y v} _ _ h z => by
    obtain ⟨e, c, h1, h2⟩ := z
    refine ⟨e, ?_⟩
    rw [List.getElem?_map, Array.getElem?_toList, h1] at h
    simp only [Option.map_some, Option.some.injEq] at h
    exact h2.trans h
  stop := fun {H Hs i} _ _ h => by
    have h : x.cps.size ≤ i := by simpa using h
    exact h
theorem ok_val (hl : PE X l (tP X.K ca)) : PI X tg l (tI X.K .val (ca.bnd fun p => (M.ret ([] : List Op)).bnd fun ps => M.ret (p :: ps))) := by
  intro pins st0 σ H R I hh0
  obtain ⟨δ, Hs, M, h, items, δ', g, s, e, ei, q⟩ := hh0
  obtain ⟨p, δ1, w, e1, e2, rfl⟩ := hold1 e
  obtain ⟨w1, w2⟩ := w
  have core : ∀ (x : V) (H2 Hs2 : Hp) (m1 M2 : Bud), Good H2 Hs2 (fun b => m1 b + M2 b) → Stp H Hs M H2 Hs2 (fun b => m1 b + M2 b) → RepP X.K H2 Hs2 σ x p m1 → RepS X.K H2 Hs2 σ δ1 M2 →
      ∃ Hs3 B M3, Good H2 Hs3 (fun b => B b + M3 b) ∧ Stp H Hs M H2 Hs3 (fun b => B b + M3 b) ∧ RepS X.K H2 Hs3 σ δ' M3 ∧ Held X.K H2 Hs3 σ w2.toList B ∧ HW X.K H2 Hs3 B x w1 := fun x H2 Hs2 m1 M2 g2 st2 r1 s2 => by
    obtain ⟨Hs3, B, M3, g3, st3, s3, hh, hw⟩ := hold_ok g2 s2 r1 e2
    have z := step2 (m1 := fun _ => 0) g (g2.re fun b => by simp) (st2.drop (fun b => by simp) g2.le) g3 st3
    exact ⟨Hs3, B, M3, g3, z.2.1.drop (fun b => by simp) z.1.le, s3, hh, hw⟩
  cases w1 with
  | sc u =>
    cases u with
    | str z =>
      cases ei
      refine pi_str hl pins st0 σ H R I ⟨δ, Hs, M, p, δ1, g, s, e1, fun x H2 Hs2 m1 M2 g2 st2 r1 s2 => ?_⟩
      obtain ⟨Hs3, B, M3, g3, st3, s3, hh, hw⟩ := core x H2 Hs2 m1 M2 g2 st2 r1 s2
      exact ⟨z, hw, q _ _ H2 Hs3 B M3 g3 st3 s3 hh (walk_str z B).w ⟨trivial, repl_chars _⟩⟩
    | _ => cases ei
  | nd k ds =>
    cases k with
    | lst =>
      cases ei
      refine pi_list hl pins st0 σ H R I ⟨δ, Hs, M, p, δ1, g, s, e1, fun x H2 Hs2 m1 M2 g2 st2 r1 s2 => ?_⟩
      obtain ⟨Hs3, B, M3, g3, st3, s3, hh, a, vs, hx, hr, hn⟩ := core x H2 Hs2 m1 M2 g2 st2 r1 s2
      have hp : SqL X.K Hs3 a vs ∨ (H2 a = some (.lst vs) ∧ B a ≥ 1) := hn.elim (fun n => .inl (.inl (.inl n))) fun n => .inr n
      refine ⟨a, hx, ⟨vs, ?_⟩, q _ _ H2 Hs3 B M3 g3 st3 s3 hh walk_list.w ⟨hp, hr⟩⟩
      rcases hp with hp | hp
      · exact g3.sub.seq hp
      · exact .inl (.inl hp.1)
    | frl =>
      cases ei
      refine pi_list hl pins st0 σ H R I ⟨δ, Hs, M, p, δ1, g, s, e1, fun x H2 Hs2 m1 M2 g2 st2 r1 s2 => ?_⟩
      obtain ⟨Hs3, B, M3, g3, st3, s3, hh, a, vs, hx, hr, hn⟩ := core x H2 Hs2 m1 M2 g2 st2 r1 s2
      have hp : SqL X.K Hs3 a vs ∨ (H2 a = some (.lst vs) ∧ B a ≥ 1) := hn.elim (fun n => .inl n) fun n => n.1.elim
      refine ⟨a, hx, ⟨vs, ?_⟩, q _ _ H2 Hs3 B M3 g3 st3 s3 hh walk_list.w ⟨hp, hr⟩⟩
      rcases hp with hp | hp
      · exact g3.sub.seq hp
      · exact .inl (.inl hp.1)
    | tup =>
      cases ei
      refine pi_tup hl pins st0 σ H R I ⟨δ, Hs, M, p, δ1, g, s, e1, fun x H2 Hs2 m1 M2 g2 st2 r1 s2 => ?_⟩
      obtain ⟨Hs3, B, M3, g3, st3, s3, hh, a, vs, hx, hr, hn⟩ := core x H2 Hs2 m1 M2 g2 st2 r1 s2
      have hp : SqT X.K Hs3 a vs ∨ (H2 a = some (.tup vs) ∧ B a ≥ 1) := hn.elim (fun n => .inl (.inl (.inl n))) fun n => .inr n
      refine ⟨a, hx, ⟨vs, ?_⟩, q _ _ H2 Hs3 B M3 g3 st3 s3 hh walk_tup.w ⟨hp, hr⟩⟩
      rcases hp with hp | hp
      · exact Same.tupq' g3.sub hp
      · exact .inl (.inl hp.1)
    | ftp =>
      cases ei
      refine pi_tup hl pins st0 σ H R I ⟨δ, Hs, M, p, δ1, g, s, e1, fun x H2 Hs2 m1 M2 g2 st2 r1 s2 => ?_⟩
      obtain ⟨Hs3, B, M3, g3, st3, s3, hh, a, vs, hx, hr, hn⟩ := core x H2 Hs2 m1 M2 g2 st2 r1 s2
      have hp : SqT X.K Hs3 a vs ∨ (H2 a = some (.tup vs) ∧ B a ≥ 1) := hn.elim (fun n => .inl n) fun n => n.1.elim
      refine ⟨a, hx, ⟨vs, ?_⟩, q _ _ H2 Hs3 B M3 g3 st3 s3 hh walk_tup.w ⟨hp, hr⟩⟩
      rcases hp with hp | hp
      · exact Same.tupq' g3.sub hp
      · exact .inl (.inl hp.1)
    | dic ks => cases ei
    | ins C fs => cases ei
end
end T
namespace T
open PySem PySem.Spec L2
noncomputable def gT (K : PySem.W.Frag) : Tg → TG
  | .name i => gName i
  | .tup is => gSeq K is.length (gNs is)
theorem asgT_ok {K : PySem.W.Frag} {H Hs : Hp} {lk : Nat → Bool} {tg : Tg} {d : D} {v : V} {σ : St} {δ δ' : List D} {M : Bud} {u : Unit} {Q : St → Hp → Prop} (hs : Same Hs H) (e : asgT lk tg d δ = .ok (u, δ')) (r : Rep K H Hs v d (fun _ => 0)) (s : RepS K H Hs σ δ M)
    (q : ∀ σ', Keeps lk σ σ' → RepS K H Hs σ' δ' M → Q σ' H) : gT K tg v σ H Q := by
  cases tg with
  | name i =>
    obtain ⟨h1, h2, rfl⟩ := asgN_ok e
    exact q _ (keeps_set h2) ((set_slot s h1 r).mono fun b => by simp)
  | tup is =>
    cases d with
    | sc v => cases e
    | hole => cases e
    | node k o ds =>
      cases k with
      | tup =>
        have e : asgNs lk is ds δ = .ok (u, δ') := e
        cases r with
        | own n r l =>
          rename_i a _ _
          have := l a
          simp [one] at this
        | shd n r =>
          obtain ⟨hl, hq⟩ := asgs_ok (Q := Q) e r s fun σ' k z => q σ' k (z.mono fun b => by simp)
          exact ⟨_, _, rfl, .inl (.inl (.inl (hs _ _ n))), hl, hq⟩
      | _ => cases e
theorem opd_tmp {a : E} {c : M D} (h : ∀ j, a ≠ .v j) : opdOf a c = c.bnd fun d => M.ret (.tmp d) := by
  cases a <;> first | rfl | exact absurd rfl (h _)
theorem holdVs_late : ∀ {ps : List Op} {δ δ' : List D} {h : List W × List (Nat × D)}, holdVs ps δ = .ok (h, δ') → ∀ q ∈ h.2, .late q.1 ∈ ps
  | [], δ, δ', h, e, q, hq => by
    have := ret_ok (show T.M.ret (([] : List W), ([] : List (Nat × D))) δ = .ok (h, δ') from e)
    cases this
    simp at hq
  | p :: ps, δ, δ', h, e, q, hq => by
    obtain ⟨w, δ1, e1, e2⟩ := bnd_ok e
    obtain ⟨ws, δ2, e3, e4⟩ := bnd_ok e2
    have := ret_ok e4
    cases this
    rcases List.mem_append.mp hq with h | h
    · have : p = .late q.1 := by
        cases p with
        | tmp d => cases d <;> cases e1 <;> simp at h
        | late i =>
          unfold holdV at e1
          dsimp only at e1
          split at e1 <;> cases e1 <;> simp at h
          subst h
          rfl
      rw [this]
      exact List.mem_cons_self
    · exact List.mem_cons_of_mem _ (holdVs_late e3 q h)
noncomputable def HWs (cs : M (List Op)) (lk : Nat → Bool) : Prop := ∀ δ h δ', (cs.bnd holdVs) δ = .ok (h, δ') → ∀ q ∈ h.2, lk q.1 = true
noncomputable def LkLe (lk lk' : Nat → Bool) : Prop := ∀ i, lk i = true → lk' i = true
theorem le_or (lk f : Nat → Bool) : LkLe lk (fun j => lk j || f j) := fun i h => by
  show (lk i || f i) = true
  rw [h]
  rfl
section
variable {X : Cx} {tg iter : Expr} {body : List Stmt} {pos : Pos} {lk lk' : Nat → Bool} {ik : IK} {cs : M (List Op)} {tgt : Tg} {cb : M Fl}
theorem ok_for (hp : PassesOwn (model X.prog X.w) X.A X.env X.xe) (hc : X.calm = true) (hl : LkLe lk lk') (hw : HWs cs lk')
    (hi : PI X tg iter (tI X.K ik cs)) (hg : PG X tg (gT X.K tgt)) (hb : PSs X body (tS X.K lk' cb)) (hs : ∀ x, foldedSetIterable iter X.env x = pure x := by intro _; rfl) :
    PS X (.For tg iter body [] pos) (tS X.K lk (cs.bnd fun ps => (holdVs ps).bnd fun h => (lift (itW ik h.1)).bnd fun items => (forL (asgT lk' tgt) cb items).bnd fun f => (giveH h.2).bnd fun _ => M.ret f)) :=
  PS.imp (ps_for hp hc hi hg hb hs) fun E σ H h => by
  obtain ⟨δ, Hs, M, f, δ', g, s, ea, q⟩ := h
  obtain ⟨ps, δ1, e1, eb⟩ := bnd_ok ea
  obtain ⟨hh, δ2, e2, ec⟩ := bnd_ok eb
  obtain ⟨items, δ3, e3, ed⟩ := bnd_ok ec
  obtain ⟨e3', rfl⟩ := lift_ok e3
  obtain ⟨f1, δ4, e4, ee⟩ := bnd_ok ed
  obtain ⟨u, δ5, e5, e6⟩ := bnd_ok ee
  have := ret_ok e6
  cases this
  have e12 : (cs.bnd holdVs) δ = .ok (hh, δ3) := by
    show T.M.bnd cs holdVs δ = _
    unfold T.M.bnd
    rw [e1]
    exact e2
  have locked := hw _ _ _ e12
  refine ⟨δ, Hs, M, hh, items, δ3, g, s, e12, e3', fun J Pp H1 Hs1 B M1 g1 st1 s1 held wk pp => ?_⟩
  have kl : ∀ {σ1 σ2 : St}, Keeps lk' σ1 σ2 → Keeps lk σ1 σ2 := fun k i h => k i (hl i h)
  refine ⟨fun i m σ2 H2 => m = items.length - i ∧ i ≤ items.length ∧ Keeps lk' σ σ2 ∧ ∃ (δ2 : List D) (Hs2 : Hp) (M2 : Bud), Good H2 Hs2 (fun b => B b + M2 b) ∧ Stp H Hs M H2 Hs2 (fun b => B b + M2 b) ∧ RepS X.K H2 Hs2 σ2 δ2 M2 ∧ Held X.K H2 Hs2 σ2 hh.2 B ∧ Pp H2 Hs2 ∧ forL (asgT lk' tgt) cb (items.drop i) δ2 = .ok (f, δ4),
    ⟨items.length, by simp, Nat.zero_le _, Keeps.refl _ _, δ3, Hs1, M1, g1, st1, s1, held, pp, by rw [List.drop_zero]; exact e4⟩, ?_⟩
  rintro i m σ2 H2 ⟨rfl, hle, k2, δ2, Hs2, M2, g2, st2, s2, held2, pp2, e7⟩
  have fin_nx : ∀ {σ3 : St} {H3 Hs3 : Hp} {M3 : Bud}, f = .nx → Keeps lk' σ σ3 → Good H3 Hs3 (fun b => B b + M3 b) → Stp H Hs M H3 Hs3 (fun b => B b + M3 b) → RepS X.K H3 Hs3 σ3 δ4 M3 → Held X.K H3 Hs3 σ3 hh.2 B → E.nx σ3 H3 := fun {σ3 H3 Hs3 M3} ef k3 g3 st3 s3 held3 => by
    subst ef
    exact q σ3 H3 Hs3 _ (kl k3) g3 st3 (giveH_ok e5 held3 s3)
  by_cases hlt : i < items.length
  · right
    have hd : items[i]? = some (items[i]'(by omega)) := List.getElem?_eq_getElem (by omega)
    have hdrop : items.drop i = items[i]'(by omega) :: items.drop (i + 1) := List.drop_eq_getElem_cons (by omega)
    rw [hdrop] at e7
    obtain ⟨u1, δ5', e8, e9⟩ := bnd_ok e7
    obtain ⟨fl, δ6, e10, e11⟩ := bnd_ok e9
    refine ⟨wk.go g2.sub pp2 hlt, fun σ3 H3 => Keeps lk' σ σ3 ∧ ∃ (δ2 : List D) (Hs2 : Hp) (M2 : Bud), Good H3 Hs2 (fun b => B b + M2 b) ∧ Stp H Hs M H3 Hs2 (fun b => B b + M2 b) ∧ RepS X.K H3 Hs2 σ3 δ2 M2 ∧ Held X.K H3 Hs2 σ3 hh.2 B ∧ Pp H3 Hs2 ∧ forL (asgT lk' tgt) cb (items.drop (i + 1)) δ2 = .ok (f, δ4),
      fun σ3 H3 ⟨k3, z⟩ => ⟨items.length - (i + 1), by omega, rfl, hlt, k3, z⟩, fun x H' y => ?_⟩
    obtain ⟨Hs3, gr, rv⟩ := wk.yld g2.sub pp2 hd y
    obtain ⟨sm, fr, _⟩ := gr.same g2.sub
    have pp2 := wk.stay pp2 sm fun b _ n => fr b n
    have s2 := RepS.frame sm (fun b _ n => fr b n) s2
    have held2 := held2.frame sm fun b _ n => fr b n
    have st2 := gr.stp g2 st2
    have g2 := gr.good g2
    clear gr sm fr y
    generalize Hs3 = Hs2 at *
    refine asgT_ok (Hs := Hs2) g2.sub e8 rv s2 fun σ3 k3 s3 => ?_
    refine ⟨δ5', Hs2, M2, fl, δ6, g2.re, s3, e10, ?_⟩
    have held3 : Held X.K H' Hs2 σ3 hh.2 B := held2.keeps k3 locked
    have nxt : ∀ {σ4 : St} {H4 Hs4 : Hp} {M4 : Bud}, Keeps lk' σ3 σ4 → Good H4 Hs4 M4 → Stp H' Hs2 M2 H4 Hs4 M4 →
        Keeps lk' σ σ4 ∧ Good H4 Hs4 (fun b => B b + M4 b) ∧ Stp H Hs M H4 Hs4 (fun b => B b + M4 b) ∧ Held X.K H4 Hs4 σ4 hh.2 B ∧ Pp H4 Hs4 := fun {σ4 H4 Hs4 M4} k4 g4 st4 => by
      obtain ⟨G, S, kk⟩ := step2 g g2 st2 g4 st4
      exact ⟨k2.trans (k3.trans k4), G, S, (held3.keeps k4 locked).frame st4.grow kk, wk.stay pp2 st4.grow kk⟩
    cases fl with
    | nx =>
      refine fun σ4 H4 Hs4 M4 k4 g4 st4 s4 => ?_
      obtain ⟨a1, a2, a3, a4, a6⟩ := nxt k4 g4 st4
      exact ⟨a1, δ6, Hs4, M4, a2, a3, s4, a4, a6, e11⟩
    | ct =>
      refine fun σ4 H4 Hs4 M4 k4 g4 st4 s4 => ?_
      obtain ⟨a1, a2, a3, a4, a6⟩ := nxt k4 g4 st4
      exact ⟨a1, δ6, Hs4, M4, a2, a3, s4, a4, a6, e11⟩
    | bk =>
      refine fun σ4 H4 Hs4 M4 k4 g4 st4 s4 => ?_
      obtain ⟨a1, a2, a3, a4, a6⟩ := nxt k4 g4 st4
      have := ret_ok e11
      cases this
      exact fin_nx rfl a1 a2 a3 s4 a4
    | rt d =>
      refine fun v σ4 H4 Hs4 m4 M4 k4 g4 st4 rd s4 => ?_
      obtain ⟨a1, a2, a3, a4, a6⟩ := nxt k4 g4 st4
      have := ret_ok e11
      cases this
      exact q v σ4 H4 Hs4 m4 (fun b => B b + M4 b) (kl a1) (a2.re fun b => by (try dsimp only); omega) (a3.drop (fun b => by (try dsimp only); omega) a2.le) rd (giveH_ok e5 a4 s4)
  · left
    have e0 : items.drop i = [] := List.drop_of_length_le (by omega)
    rw [e0] at e7
    have := ret_ok e7
    cases this
    exact ⟨wk.stop g2.sub pp2 (by omega), fin_nx rfl k2 g2 st2 s2 held2⟩
end
theorem RepS.toL {K : PySem.W.Frag} {H Hs : Hp} : ∀ {vs : List V} {ds : List D} {m : Bud}, RepS K H Hs (vs.map some) ds m → RepL K H Hs vs ds m
  | [], _, _, h => by cases h; exact .nil _
  | v :: vs, _, _, h => by
    cases h with
    | cons x y l =>
      refine .cons ?_ (RepS.toL y) l
      rcases x with rfl | ⟨w, e, r⟩
      · exact .hole _ _
      · cases e
        exact r
end T
namespace T
open PySem PySem.Spec L2
section
variable {P : Program} {w : World} {K : PySem.W.Frag} {mg : Str → Option Value} {base : Heap}
theorem start_take {N : List Str} {vs : List V} {σ' : St} {n : Nat} (hn : vs.length = n) (k : Keeps (fun i => decide (i < n)) (L2.start N vs) σ') : σ'.take n = vs.map some := by
  apply List.ext_getElem?
  intro i
  by_cases hi : i < n
  · rw [List.getElem?_take_of_lt hi, k i (by simpa using hi)]
    unfold L2.start
    rw [List.getElem?_append_left (by rw [List.length_map]; omega)]
  · rw [List.getElem?_eq_none (by rw [List.length_take]; omega), List.getElem?_eq_none (by rw [List.length_map]; omega)]
theorem start_rep {N : List Str} {vs : List V} {ds : List D} {H Hs : Hp} {m : Bud} (r : RepL K H Hs vs ds m) : RepS K H Hs (L2.start N vs) (ds ++ List.replicate (N.length - ds.length) .hole) m := by
  unfold L2.start
  rw [r.len]
  have z := Sep.append (RepL.slots r) (holes (K := K) (H := H) (Hs := Hs) (fun _ => none) (N.length - ds.length) (fun _ => 0) (List.replicate (N.length - ds.length) none) (by simp))
  exact z.mono fun b => by simp
theorem def_ok {x qual : Str} {st : Stmt} {f : Addr} {fd : FuncData} {N ps : List Str} {k : Nat} {C : Ctx} {body : List S} (F : Fun K x qual st f fd) (Sc : FnScope N ps (defScope st))
    (hb : ∀ (cdv : Value) (A : Around) (outer : List Env) (s : Shared) (H : Hp) (E : XK), Room k (A.deeper (PyProof.Rows.envOfC qual (defScope st) s.heap.objs.size f cdv)) →
      PSs (cxOf CX0 P w K mg base N qual (defScope st) f cdv A outer s H E).nox (defBody st) (tS K (fun i => decide (i < ps.length)) (exs { C with lock := fun i => decide (i < ps.length) } body))) :
    FnOk P w K mg base CX0 (k + 1) f fd ps (spF K (runDef C ps.length N.length body)) := by
  refine F.ok Sc (fun vs H Q E h => ?_) (fun cdv A outer s H vs Q E hr h => ⟨_, hb cdv A outer s H E hr, ?_⟩)
  · obtain ⟨ds, Hs, m, d, ds', g, r, e, q⟩ := h
    unfold runDef at e
    split at e
    · rename_i hl
      rw [r.len]
      exact hl
    · cases e
  · obtain ⟨ds, Hs, m, d, ds', g, r, e, q⟩ := h
    unfold runDef at e
    split at e
    · rename_i hl
      have hv : vs.length = ps.length := by rw [r.len]; exact hl
      have hr0 := start_rep (N := N) r
      rw [hl] at hr0
      cases he : exs { C with lock := fun i => decide (i < ps.length) } body (ds ++ List.replicate (N.length - ps.length) .hole) with
      | ok z =>
        obtain ⟨fl, δ'⟩ := z
        rw [he] at e
        refine ⟨_, Hs, m, fl, δ', g, hr0, he, ?_⟩
        have back : ∀ {σ' : St} {H' Hs' : Hp} {M' : Bud}, Keeps (fun i => decide (i < ps.length)) (L2.start N vs) σ' → RepS K H' Hs' σ' δ' M' → RepL K H' Hs' vs (δ'.take ps.length) M' := fun k' s' => by
          have z := s'.take ps.length
          rw [start_take hv k'] at z
          exact RepS.toL z
        cases fl with
        | nx =>
          cases e
          exact fun σ' H' Hs' M' k' g' st' s' => q .non H' Hs' (fun _ => 0) M' (good0 g') (st'.drop (fun b => by simp) g'.le) (.sc _ _) (back k' s')
        | rt dd =>
          cases e
          exact fun v σ' H' Hs' m1 M' k' g' st' rv s' => q v H' Hs' m1 M' g' st' rv (back k' s')
        | bk => cases e
        | ct => cases e
      | exc x y => rw [he] at e; cases e
      | stuck => rw [he] at e; cases e
    · cases e
theorem def_ok' {x qual : Str} {st : Stmt} {f : Addr} {fd : FuncData} {N ps : List Str} {k n nN : Nat} {C : Ctx} {body : List S} (F : Fun K x qual st f fd) (Sc : FnScope N ps (defScope st)) (hn : ps.length = n) (hN : N.length = nN)
    (hb : ∀ (cdv : Value) (A : Around) (outer : List Env) (s : Shared) (H : Hp) (E : XK), Room k (A.deeper (PyProof.Rows.envOfC qual (defScope st) s.heap.objs.size f cdv)) →
      PSs (cxOf CX0 P w K mg base N qual (defScope st) f cdv A outer s H E).nox (defBody st) (tS K (fun i => decide (i < n)) (exs { C with lock := fun i => decide (i < n) } body))) :
    FnOk P w K mg base CX0 (k + 1) f fd ps (spF K (runDef C n nN body)) := by
  subst hn hN
  exact def_ok F Sc hb
end
end T
namespace T
open PySem PySem.Spec L2
theorem capTake_ok {K : PySem.W.Frag} {H Hs : Hp} {σ : St} : ∀ {js : List Nat} {δ δ' : List D} {caps : List D} {M : Bud}, capTake js δ = .ok (caps, δ') → RepS K H Hs σ δ M → ∃ mc M', RepS K H Hs (capsOf js σ) caps mc ∧ RepS K H Hs σ δ' M' ∧ (∀ b, mc b + M' b ≤ M b) ∧ ∀ j ∈ js, j < σ.length
  | [], δ, δ', caps, M, e, s => by
    have := ret_ok e
    cases this
    exact ⟨fun _ => 0, M, .nil _, s, fun b => by simp, fun j hj => by simp at hj⟩
  | j :: js, δ, δ', caps, M, e, s => by
    unfold capTake at e
    split at e
    · rename_i d hd
      obtain ⟨ds, δ1, e1, e2⟩ := bnd_ok e
      have := ret_ok e2
      cases this
      obtain ⟨o, m1, m2, q1, q2, l, f⟩ := s.focus hd
      have z := f (RepO K H Hs) o .hole (fun _ => 0) (fun a d m' _ q => q) (.inl rfl)
      rw [set_self q1] at z
      obtain ⟨mc, M', h1, h2, h3, h4⟩ := capTake_ok e1 z
      refine ⟨fun b => m1 b + mc b, M', ?_, h2, fun b => by have := l b; have := h3 b; dsimp only at *; omega, fun i hi => ?_⟩
      · rw [capsOf_cons]
        have ho : (σ[j]?).join = o := by rw [q1]; rfl
        rw [ho]
        exact .cons q2 h1 fun b => Nat.le_refl _
      · rcases List.mem_cons.mp hi with rfl | hi
        · exact (List.getElem?_eq_some_iff.mp q1).1
        · exact h4 i hi
    · cases e
theorem capGive_nil (caps : List D) : capGive [] caps = M.ret () := by cases caps <;> rfl
theorem capGive_cons (j : Nat) (js : List Nat) (d : D) (ds δ : List D) : capGive (j :: js) (d :: ds) δ = capGive js ds (δ.set j d) := rfl
theorem capGive_ok {K : PySem.W.Frag} {H Hs : Hp} {σ : St} (js : List Nat) : ∀ (caps δ δ' : List D) (mc M : Bud) (u : Unit), (∀ j ∈ js, j < σ.length) → capGive js caps δ = .ok (u, δ') → RepS K H Hs (capsOf js σ) caps mc → RepS K H Hs σ δ M → RepS K H Hs σ δ' (fun b => mc b + M b) := by
  induction js with
  | nil =>
    intro caps δ δ' mc M u hj e c s
    rw [capGive_nil] at e
    have := ret_ok e
    cases this
    exact s.mono fun b => by omega
  | cons j js ih =>
    intro caps δ δ' mc M u hj e c s
    rw [capsOf_cons] at c
    cases c with
    | @cons _ d _ ds m1 m2 _ x y l =>
      rw [capGive_cons] at e
      have hlt := hj j List.mem_cons_self
      have hlt2 : j < δ.length := by rw [← s.length]; exact hlt
      obtain ⟨o, n1, n2, q1, q2, l2, f⟩ := s.focus (List.getElem?_eq_getElem hlt2)
      have ho : (σ[j]?).join = o := by rw [q1]; rfl
      rw [ho] at x
      have z := f (RepO K H Hs) o d m1 (fun a d m' _ q => q) x
      rw [set_self q1] at z
      have fin := ih ds (δ.set j d) δ' m2 _ u (fun i hi => hj i (List.mem_cons_of_mem _ hi)) e y z
      exact fin.mono fun b => by have := l b; have := l2 b; (try dsimp only); omega
theorem acc_step {H Hs H0 Hs0 : Hp} {M0 N : Bud} {A : Addr} {o : HO} (hA0 : H0 A = none) (hA : Hs A = none) (g : Good H Hs (fun b => one A b + N b)) (st : Stp H0 Hs0 M0 H Hs (fun b => one A b + N b)) : Good (upd H A o) Hs (fun b => one A b + N b) ∧ Stp H0 Hs0 M0 (upd H A o) Hs (fun b => one A b + N b) ∧ ∀ b, N b ≥ 1 → upd H A o b = H b := by
  have hn : N A = 0 := by have : one A A + N A ≤ 1 := g.le A; simp [one] at this; omega
  have ne : ∀ b, b ≠ A → upd H A o b = H b := fun b hb => upd_ne hb
  refine ⟨⟨fun b u e => ?_, g.le, g.ne, fun b h => ?_⟩, ⟨fun b u e z => ?_, st.own, st.grow, st.shr, fun b h => ?_⟩, fun b hb => ne b fun q => by subst q; omega⟩
  · have hb : b ≠ A := fun q => by subst q; rw [hA] at e; cases e
    rw [ne b hb]
    exact g.sub b u e
  · by_cases hb : b = A
    · subst hb; rw [upd_same]; simp
    · rw [ne b hb]; exact g.has b h
  · have hb : b ≠ A := fun q => by subst q; rw [hA0] at e; cases e
    rw [ne b hb]
    exact st.keep b u e z
  · by_cases hb : b = A
    · subst hb; rw [upd_same]; simp
    · rw [ne b hb]; exact st.stay b h
theorem comp_of {K : PySem.W.Frag} {k : Nat} {js : List Nat} {ik : IK} {cs : M (List Op)} {tgt : Tg} {cc : M Bool} {celt : M D} {σ : St} {H : Hp} {Q : VK}
    (h : tM K (cs.bnd fun ps => (holdVs ps).bnd fun h => (lift (itW ik h.1)).bnd fun items => (compM k js (compL (asgT (fun i => decide (k ≤ i)) tgt) cc celt items [])).bnd fun d => (giveH h.2).bnd fun _ => M.ret d) σ H Q) :
    tComp k js (tI K ik cs) (gT K tgt) (tT K cc) (tM K celt) σ H Q := by
  obtain ⟨δ, Hs, M, d, δ', g, s, ea, q⟩ := h
  obtain ⟨ps, δ1, e1, eb⟩ := bnd_ok ea
  obtain ⟨hh, δ2, e2, ec⟩ := bnd_ok eb
  obtain ⟨items, δ3, e3, ed⟩ := bnd_ok ec
  obtain ⟨e3', rfl⟩ := lift_ok e3
  obtain ⟨dd, δ4, e4, ee⟩ := bnd_ok ed
  obtain ⟨u, δ5, e5, e6⟩ := bnd_ok ee
  have := ret_ok e6
  cases this
  have e12 : (cs.bnd holdVs) δ = .ok (hh, δ3) := by
    show T.M.bnd cs holdVs δ = _
    unfold T.M.bnd
    rw [e1]
    exact e2
  refine ⟨δ, Hs, M, hh, items, δ3, g, s, e12, e3', fun J Pp H1 Hs1 B M1 g1 st1 s1 held wk pp A hA => ?_⟩
  unfold compM at e4
  obtain ⟨caps, δ6, e7, e8⟩ := bnd_ok e4
  obtain ⟨mc, M2, c1, c2, c3, c4⟩ := capTake_ok e7 s1
  have hA0 : H A = none := by
    cases q : H A with
    | none => rfl
    | some o => exact absurd hA (st1.stay A (by rw [q]; simp))
  cases hL : compL (asgT (fun i => decide (k ≤ i)) tgt) cc celt items [] (List.replicate k .hole ++ caps) with
  | exc x y => rw [hL] at e8; cases e8
  | stuck => rw [hL] at e8; cases e8
  | ok r =>
  obtain ⟨accF, δF⟩ := r
  rw [hL] at e8
  obtain ⟨u2, δ7, e9, e10⟩ := bnd_ok e8
  obtain ⟨e11, rfl⟩ := lift_ok e10
  have hs1A : Hs1 A = none := by
    cases q : Hs1 A with
    | none => rfl
    | some o => rw [g1.sub A o q] at hA; cases hA
  have zA : B A = 0 ∧ M1 A = 0 := by
    have l : B A + M1 A ≤ 1 := g1.le A
    have : B A + M1 A ≠ 1 := fun e => g1.has A e hA
    omega
  have z2 : mc A = 0 ∧ M2 A = 0 := by have := c3 A; omega
  have fr : ∀ b, b ≠ A → upd H1 A (.lst []) b = H1 b := fun b hb => upd_ne hb
  have g2 : Good (upd H1 A (.lst [])) Hs1 (fun b => (one A b + (B b + M2 b)) + mc b) := by
    refine ⟨fun b o e => ?_, fun b => ?_, fun b hb => ?_, fun b hb => ?_⟩
    · have hb : b ≠ A := fun q => by subst q; rw [hs1A] at e; cases e
      rw [fr b hb]; exact g1.sub b o e
    · have l : B b + M1 b ≤ 1 := g1.le b
      have := c3 b
      unfold one
      (try dsimp only)
      split
      · rename_i e; subst e; omega
      · omega
    · by_cases e : b = A
      · subst e; exact hs1A
      · have hb : (one A b + (B b + M2 b)) + mc b = 1 := hb
        simp only [one, if_neg e] at hb
        have l : B b + M1 b ≤ 1 := g1.le b
        have := c3 b
        exact g1.ne b (by show B b + M1 b = 1; omega)
    · by_cases e : b = A
      · subst e; rw [upd_same]; simp
      · rw [fr b e]
        have hb : (one A b + (B b + M2 b)) + mc b = 1 := hb
        simp only [one, if_neg e] at hb
        have l : B b + M1 b ≤ 1 := g1.le b
        have := c3 b
        exact g1.has b (by show B b + M1 b = 1; omega)
  have st2 : Stp H Hs M (upd H1 A (.lst [])) Hs1 (fun b => (one A b + (B b + M2 b)) + mc b) := by
    refine ⟨fun b o e z => ?_, fun b hb => ?_, st1.grow, st1.shr, fun b hb => ?_⟩
    · have hb : b ≠ A := fun q => by subst q; rw [hA0] at e; cases e
      rw [fr b hb]; exact st1.keep b o e z
    · by_cases e : b = A
      · subst e; exact .inr hA0
      · have hb : (one A b + (B b + M2 b)) + mc b = 1 := hb
        simp only [one, if_neg e] at hb
        have l : B b + M1 b ≤ 1 := g1.le b
        have := c3 b
        exact st1.own b (by show B b + M1 b = 1; omega)
    · by_cases e : b = A
      · subst e; rw [upd_same]; simp
      · rw [fr b e]; exact st1.stay b hb
  have keepA : ∀ (N : Bud), N A = 0 → ∀ b, N b ≥ 1 → H1 b ≠ none → upd H1 A (.lst []) b = H1 b := fun N hN b hb _ => fr b fun q => by subst q; omega
  refine ⟨fun i m σ2 ys H2 => m = items.length - i ∧ i ≤ items.length ∧ Keeps (fun i => decide (k ≤ i)) (start0 k js σ) σ2 ∧ ∃ (δ2 : List D) (Hs2 : Hp) (N ma : Bud) (acc : List D), Good H2 Hs2 (fun b => (one A b + (B b + M2 b + ma b)) + N b) ∧ Stp H Hs M H2 Hs2 (fun b => (one A b + (B b + M2 b + ma b)) + N b) ∧ RepS K H2 Hs2 σ2 δ2 N ∧
      RepL K H2 Hs2 ys acc ma ∧ RepS K H2 Hs2 σ δ6 M2 ∧ Held K H2 Hs2 σ hh.2 B ∧ Pp H2 Hs2 ∧ compL (asgT (fun i => decide (k ≤ i)) tgt) cc celt (items.drop i) acc δ2 = .ok (accF, δF),
    ⟨items.length, by simp, Nat.zero_le _, Keeps.refl _ _, List.replicate k .hole ++ caps, Hs1, mc, fun _ => 0, [], g2.re fun b => by (try dsimp only); omega, st2.drop (fun b => by (try dsimp only); omega) g2.le, ?_, .nil _, c2.frame (Same.refl _) (keepA M2 z2.2), held.frame (Same.refl _) (keepA B zA.1), wk.stay pp (Same.refl _) (keepA B zA.1), by rw [List.drop_zero]; exact hL⟩, ?_⟩
  · have z := Sep.append (holes (K := K) (H := H1) (Hs := Hs1) (fun _ => none) k (fun _ => 0) (List.replicate k none) (by simp)) c1
    exact RepS.frame (Same.refl _) (keepA mc z2.1) (z.mono fun b => by simp)
  rintro i m σ2 ys H2 ⟨rfl, hle, k2, δ2, Hs2, N, ma, acc, g3, st3, s3, ra, so, held2, pp2, e13⟩ hD
  have hsA : Hs2 A = none := g3.ne A (by have := g3.le A; (try dsimp only at this ⊢); simp only [one, if_pos] at this ⊢; omega)
  by_cases hlt : i < items.length
  · right
    have hd : items[i]? = some (items[i]'(by omega)) := List.getElem?_eq_getElem (by omega)
    have hdrop : items.drop i = items[i]'(by omega) :: items.drop (i + 1) := List.drop_eq_getElem_cons (by omega)
    rw [hdrop] at e13
    obtain ⟨u3, δ8, e14, e15⟩ := bnd_ok e13
    obtain ⟨t, δ9, e16, e17⟩ := bnd_ok e15
    refine ⟨wk.go g3.sub pp2 hlt, fun x H' y => ?_⟩
    obtain ⟨Hs3, gr, rv⟩ := wk.yld g3.sub pp2 hd y
    obtain ⟨sm, fr, _⟩ := gr.same g3.sub
    have pp2 := wk.stay pp2 sm fun b _ n => fr b n
    have s3 := RepS.frame sm (fun b _ n => fr b n) s3
    have so := RepS.frame sm (fun b _ n => fr b n) so
    have ra := ra.frame sm fun b _ n => fr b n
    have held2 := held2.frame sm fun b _ n => fr b n
    have hD : H' A = some (.lst ys) := (fr A (by rw [hD]; simp)).trans hD
    have st3 := gr.stp g3 st3
    have g3 := gr.good g3
    clear gr sm fr y hsA
    generalize Hs3 = Hs2 at *
    generalize H' = H2 at *
    refine asgT_ok (Hs := Hs2) g3.sub e14 rv s3 fun σ3 k3 s4 => ?_
    refine ⟨δ8, Hs2, N, t, δ9, g3.re fun b => by (try dsimp only); omega, s4, e16, fun H4 Hs4 M4 g4 st4 s5 => ?_⟩
    obtain ⟨G, S, kk⟩ := step2 (m1 := fun b => one A b + (B b + M2 b + ma b)) g g3 st3 g4 st4
    have kA : H4 A = some (.lst ys) := by rw [← hD]; exact kk A (by simp [one]) (by rw [hD]; simp)
    have ra4 := ra.frame st4.grow fun b hb => kk b (by (try dsimp only); omega)
    have so4 := RepS.frame st4.grow (fun b hb => kk b (by (try dsimp only); omega)) so
    have held4 := held2.frame st4.grow fun b hb => kk b (by (try dsimp only); omega)
    have pp4 := wk.stay pp2 st4.grow fun b hb => kk b (by (try dsimp only); omega)
    have lmeas : items.length - (i + 1) < items.length - i := by omega
    cases t with
    | false =>
      dsimp only
      rw [if_neg Bool.false_ne_true]
      exact ⟨kA, _, lmeas, rfl, hlt, k2.trans k3, δ9, Hs4, M4, ma, acc, G, S, s5, ra4, so4, held4, pp4, e17⟩
    | true =>
      dsimp only
      rw [if_pos rfl]
      rw [if_pos rfl] at e17
      obtain ⟨xd, δ10, e18, e19⟩ := bnd_ok e17
      refine ⟨δ9, Hs4, M4, xd, δ10, g4, s5, e18, fun yv H5 Hs5 m5 M5 g5 st5 r5 s6 => ?_⟩
      obtain ⟨G5, S5, kk5⟩ := step2 (m1 := fun b => one A b + (B b + M2 b + ma b)) g G S g5 st5
      have kA5 : H5 A = some (.lst ys) := by rw [← kA]; exact kk5 A (by simp [one]) (by rw [kA]; simp)
      have hsz : ys.length < sizeLine := by
        have e20 : accF.length ≤ sizeLine := by
          unfold newL at e11
          split at e11
          · rename_i hz; exact hz
          · cases e11
        have grow : ∀ (its acc : List D) (δ : List D) (r : List D × List D), compL (asgT (fun i => decide (k ≤ i)) tgt) cc celt its acc δ = .ok r → acc.length ≤ r.1.length := by
          intro its
          induction its with
          | nil => intro acc δ r e; have := ret_ok e; subst this; exact Nat.le_refl _
          | cons a its ih =>
            intro acc δ r e
            obtain ⟨_, _, _, f1⟩ := bnd_ok e
            obtain ⟨tt, _, _, f2⟩ := bnd_ok f1
            cases tt with
            | false => exact ih _ _ _ f2
            | true =>
              rw [if_pos rfl] at f2
              obtain ⟨_, _, _, f3⟩ := bnd_ok f2
              have := ih _ _ _ f3
              rw [List.length_append, List.length_singleton] at this
              omega
        have := grow _ _ _ _ e19
        dsimp only at this
        rw [List.length_append, List.length_singleton] at this
        have := ra.len
        omega
      have hsA5 : Hs5 A = none := G5.ne A (by have := G5.le A; (try dsimp only at this ⊢); simp only [one, if_pos] at this ⊢; omega)
      have G5' : Good H5 Hs5 (fun b => one A b + (B b + M2 b + ma b + (m5 b + M5 b))) := G5.re fun b => by (try dsimp only); omega
      obtain ⟨G6, S6, k6⟩ := acc_step (o := .lst (ys ++ [yv])) hA0 hsA5 G5' (S5.drop (fun b => by (try dsimp only); omega) G5.le)
      have fr6 : ∀ (R : Bud), (∀ b, R b ≤ B b + M2 b + ma b + (m5 b + M5 b)) → ∀ b, R b ≥ 1 → H5 b ≠ none → upd H5 A (.lst (ys ++ [yv])) b = H5 b := fun R hR b hb _ => k6 b (by have := hR b; omega)
      refine ⟨kA5, hsz, _, lmeas, rfl, hlt, k2.trans k3, δ10, Hs5, M5, fun b => ma b + m5 b, acc ++ [xd], G6.re fun b => by (try dsimp only); omega, S6.drop (fun b => by (try dsimp only); omega) G6.le, RepS.frame (Same.refl _) (fr6 M5 fun b => by omega) s6, ?_, ?_, ?_, ?_, e19⟩
      · exact RepL.frame (Same.refl _) (fr6 _ fun b => by (try dsimp only); omega) ((ra4.frame st5.grow fun b hb => kk5 b (by (try dsimp only); omega)).app (.cons r5 (.nil (fun _ => 0)) fun b => by simp))
      · exact RepS.frame (Same.refl _) (fr6 M2 fun b => by omega) (RepS.frame st5.grow (fun b hb => kk5 b (by (try dsimp only); omega)) so4)
      · exact (held4.frame st5.grow fun b hb => kk5 b (by (try dsimp only); omega)).frame (Same.refl _) (fr6 B fun b => by omega)
      · exact wk.stay (wk.stay pp4 st5.grow fun b hb => kk5 b (by (try dsimp only); omega)) (Same.refl _) (fr6 B fun b => by omega)
  · left
    have e0 : items.drop i = [] := List.drop_of_length_le (by omega)
    rw [e0] at e13
    have := ret_ok e13
    cases this
    refine ⟨wk.stop g3.sub pp2 (by omega), ?_⟩
    have hdrop : σ2.drop k = capsOf js σ := by
      have hl2 : σ2.length = δF.length := s3.length
      apply List.ext_getElem?
      intro j
      rw [List.getElem?_drop, k2 (k + j) (by simp)]
      unfold start0
      rw [List.getElem?_append_right (by simp)]
      simp
    have sd := s3.drop k
    rw [hdrop] at sd
    have so' := capGive_ok js _ _ _ _ _ _ c4 e9 sd so
    unfold newL at e11
    split at e11
    · cases e11
      have rD : Rep K H2 Hs2 (.ref A) (.node .lst true accF) (fun b => one A b + ma b) := .own hD ra fun b => Nat.le_refl _
      exact q _ H2 Hs2 (fun b => one A b + ma b) (fun b => B b + (N b + M2 b)) (g3.re fun b => by (try dsimp only); omega) (st3.drop (fun b => by (try dsimp only); omega) g3.le) rD (giveH_ok e5 held2 so')
    · cases e11
section
variable {X : Cx} {elt tg iter : Expr} {ifs : List Expr} {scope : Scope} {pos spos pos' : Pos} {k : Nat} {js : List Nat} {N' : List Str} {ik : IK} {cs : M (List Op)} {tgt : Tg} {cc : M Bool} {celt : M D} {lk : Nat → Bool} {i : Nat} {x : Str} {sc : Scope} {N : List Str}
theorem PIf.imp {t t' : TT} (h : PIf X ifs t) (w : ∀ σ H Q, t' σ H Q → t σ H Q) : PIf X ifs t' := fun pins s σ H Q I q => h pins s σ H Q I (w σ H Q q)
theorem ok_if0 : PIf X [] (tT X.K (M.ret true)) := PIf.imp pif_nil fun σ H Q h => tt_ret h
theorem ok_comp (hc : X.calm = true) (S : CompScope X k js N' scope) (hi : PI X tg iter (tI X.K ik cs))
    (hin : ∀ (cl : List (Str × Addr)) (C : Addr) (s₀ : Shared) (H₀ : Hp) (ex : List Addr), PG (cxC X N' scope cl C s₀ H₀ ex) tg (gT X.K tgt) ∧ PIf (cxC X N' scope cl C s₀ H₀ ex) ifs (tT X.K cc) ∧ PE (cxC X N' scope cl C s₀ H₀ ex) elt (tM X.K celt))
    (hs : ∀ x, foldedSetIterable iter X.env x = pure x := by intro _; rfl) :
    PE X (.ListComp elt [⟨tg, iter, ifs, 0⟩] scope pos) (tM X.K (cs.bnd fun ps => (holdVs ps).bnd fun h => (lift (itW ik h.1)).bnd fun items => (compM k js (compL (asgT (fun i => decide (k ≤ i)) tgt) cc celt items [])).bnd fun d => (giveH h.2).bnd fun _ => M.ret d)) :=
  PE.imp (pe_comp hc S hi hin hs) fun σ H Q h => comp_of h
theorem ok_setc (h : slotOk sc N i x false = true) (nd : N.Nodup) (hw : swapOk sc scope x = true) (hc : X.calm = true) (S : CompScope X k js N' scope) (hi : PI X tg iter (tI X.K ik cs))
    (hin : ∀ (cl : List (Str × Addr)) (C : Addr) (s₀ : Shared) (H₀ : Hp) (ex : List Addr), PG (cxC X N' scope cl C s₀ H₀ ex) tg (gT X.K tgt) ∧ PIf (cxC X N' scope cl C s₀ H₀ ex) ifs (tT X.K cc) ∧ PE (cxC X N' scope cl C s₀ H₀ ex) elt (tM X.K celt))
    (hl : (pos'.line == pos.line) = true := by rfl) (e1 : X.env.scope = sc := by rfl) (e2 : X.N = N := by rfl) (hs : ∀ x, foldedSetIterable iter X.env x = pure x := by intro _; rfl) :
    PS X (.Assign [.Name x pos'] (.ListComp elt [⟨tg, iter, ifs, 0⟩] scope pos) spos) (tS X.K lk ((cs.bnd fun ps => (holdVs ps).bnd fun h => (lift (itW ik h.1)).bnd fun items => (compM k js (compL (asgT (fun i => decide (k ≤ i)) tgt) cc celt items [])).bnd fun d => (giveH h.2).bnd fun _ => M.ret d).bnd fun d => (asgN lk i d).bnd fun _ => M.ret .nx)) :=
  PS.imp (ps_setcs h nd hw hc S hi hin hl e1 e2 hs) fun E σ H hh => by
  obtain ⟨δ, Hs, M, f, δ', g, s, e, q⟩ := hh
  obtain ⟨d, δ1, e1, e2⟩ := bnd_ok e
  obtain ⟨u, δ2, e3, e4⟩ := bnd_ok e2
  have := ret_ok e4
  cases this
  obtain ⟨h1, h2, rfl⟩ := asgN_ok e3
  exact comp_of ⟨δ, Hs, M, d, δ1, g, s, e1, fun v H' Hs' m M' g' st' r s' => q _ H' Hs' _ (keeps_set h2) g' st' (set_slot s' h1 r)⟩
theorem ok_asgs {e : Expr} {c : M D} {b : Bool} (h : slotOk sc N i x b = true) (nd : N.Nodup) (he : PE X e (tM X.K c)) (hs : swapsWith e (some (.Name x pos')) pos.line X.env = pure false := by rfl) (e1 : X.env.scope = sc := by rfl) (e2 : X.N = N := by rfl)
    (hf : X.fn x = true ∨ b = false := by first | exact .inl rfl | exact .inr rfl) : PS X (.Assign [.Name x pos'] e pos) (tS X.K lk (c.bnd fun d => (asgN lk i d).bnd fun _ => M.ret .nx)) := by
  obtain ⟨h1, h2, h3, h4⟩ := slotOk.at h
  have l := slotOk.loc h
  subst e1 e2
  refine ok_asg nd h1 l he hs ?_
  rcases hf with q | q
  · exact .inl q
  · subst q
    exact .inr h2
theorem ok_tn {b : Bool} (h : slotOk sc N i x b = true) (nd : N.Nodup) (e1 : X.env.scope = sc := by rfl) (e2 : X.N = N := by rfl) (hf : X.fn x = true ∨ b = false := by first | exact .inl rfl | exact .inr rfl) : PG X (.Name x pos) (gT X.K (.name i)) := pg_names h nd e1 e2 hf
end
end T
namespace T
open PySem PySem.Spec L2
noncomputable def LatesIn (ca : M Op) (lk : Nat → Bool) : Prop := ∀ δ p δ', ca δ = .ok (p, δ') → ∀ i, p = .late i → lk i = true
theorem lt_late {i : Nat} {lk : Nat → Bool} (h : lk i = true) : LatesIn (lateM i) lk := fun δ p δ' e j hj => by
  unfold lateM at e
  split at e <;> cases e <;> cases hj <;> exact h
theorem lt_tmp {c : M D} {lk : Nat → Bool} : LatesIn (c.bnd fun d => M.ret (.tmp d)) lk := fun δ p δ' e j hj => by
  obtain ⟨d, δ1, e1, e2⟩ := bnd_ok e
  have := ret_ok e2
  cases this
  cases hj
theorem hold_late {p : Op} {δ δ' : List D} {w : W × Option (Nat × D)} (e : holdV p δ = .ok (w, δ')) : ∀ q ∈ w.2.toList, p = .late q.1 := fun q hq => by
  cases p with
  | tmp d => cases d <;> cases e <;> simp at hq
  | late i =>
    unfold holdV at e
    dsimp only at e
    split at e <;> cases e <;> simp at hq
    subst hq
    rfl
theorem hw_1 {ca : M Op} {lk : Nat → Bool} (h : LatesIn ca lk) : HWs (ca.bnd fun p => (M.ret ([] : List Op)).bnd fun ps => M.ret (p :: ps)) lk := fun δ w δ' e q hq => by
  obtain ⟨p, δ1, w1, e1, e2, rfl⟩ := hold1 e
  exact h _ _ _ e1 _ (hold_late e2 q hq)
theorem hw_2 {ca cb : M Op} {lk : Nat → Bool} (h1 : LatesIn ca lk) (h2 : LatesIn cb lk) : HWs (ca.bnd fun p => (cb.bnd fun p => (M.ret ([] : List Op)).bnd fun ps => M.ret (p :: ps)).bnd fun ps => M.ret (p :: ps)) lk := fun δ w δ' e q hq => by
  obtain ⟨ps, δ1, e1, e2⟩ := bnd_ok e
  obtain ⟨p1, δ2, e3, e4⟩ := bnd_ok e1
  obtain ⟨qs, δ3, e5, e6⟩ := bnd_ok e4
  obtain ⟨p2, δ4, e7, e8⟩ := bnd_ok e5
  obtain ⟨z, δ5, e9, e10⟩ := bnd_ok e8
  have := ret_ok e9
  cases this
  have := ret_ok e10
  cases this
  have := ret_ok e6
  cases this
  have := holdVs_late e2 q hq
  rcases List.mem_cons.mp this with z | z
  · exact h1 _ _ _ e3 _ z.symm
  · exact h2 _ _ _ e7 _ (List.mem_singleton.mp z).symm
section
variable {X : Cx} {e a b c : Expr} {pos p : Pos} {ca cb cc : M Op} {x : Str} {j n : Nat} {fi : FI} {ps : List Str}
theorem ok_gl {v : V} {d : D} (h : PE X e (tC v)) (hr : ∀ H Hs m, Rep X.K H Hs v d m) : PE X e (tM X.K (M.ret d)) := PE.imp h fun σ H Q ⟨δ, Hs, M, d', δ', g, r, e, q⟩ => by
  have := ret_ok e
  cases this
  exact q v H Hs (fun _ => 0) M (good0 g) (stp0 H Hs M) (hr H Hs _) r
end
noncomputable def constOf : Expr → Option V
  | .Constant (.int n) _ _ => some (.int n)
  | .Constant (.str z) _ _ => some (.str z)
  | .Constant (.bool b) _ _ => some (.bl b)
  | .Constant .none _ _ => some .non
  | _ => none
noncomputable def constsOf : List Expr → Option (List V)
  | [] => some []
  | e :: es => (constOf e).bind fun v => (constsOf es).map (v :: ·)
theorem const_ok {X : Cx} {e : Expr} {v : V} (h : constOf e = some v) : PE X e (tC v) ∧ ∀ es : List Expr, starEach (e :: es) X.env = (false, eval e X.env) :: starEach es X.env := by
  unfold constOf at h
  split at h
  · cases h; exact ⟨pe_int, fun es => rfl⟩
  · cases h; exact ⟨pe_str, fun es => rfl⟩
  · cases h; exact ⟨pe_bl, fun es => rfl⟩
  · cases h; exact ⟨pe_non, fun es => rfl⟩
  · cases h
theorem pa_consts {X : Cx} : ∀ {es : List Expr} {vs : List V}, constsOf es = some vs → PA X es (fun _ H Q => Q vs H)
  | [], vs, h => by
    simp only [constsOf, Option.some.injEq] at h
    subst h
    exact pa_nil
  | e :: es, vs, h => by
    simp only [constsOf, Option.bind_eq_some_iff, Option.map_eq_some_iff] at h
    obtain ⟨v, h1, ws, h2, rfl⟩ := h
    obtain ⟨c1, c2⟩ := const_ok (X := X) h1
    exact pa_cons c1 (pa_consts h2) (c2 es)
theorem repl_sc {K : PySem.W.Frag} {H Hs : Hp} : ∀ (vs : List V), RepL K H Hs vs (vs.map D.sc) (fun _ => 0)
  | [] => .nil _
  | v :: vs => .cons (m1 := fun _ => 0) (m2 := fun _ => 0) (.sc v _) (repl_sc vs) fun b => by simp
theorem ok_kl {X : Cx} {es : List Expr} {vs : List V} {pos : Pos} (h : constsOf es = some vs) : PE X (.List es pos) (tM X.K (lift (newL (vs.map D.sc)))) := PE.imp (pe_lst (pa_consts h)) fun σ H Q hq => by
  obtain ⟨δ, Hs, M, d, δ', g, s, e, q⟩ := hq
  obtain ⟨e1, rfl⟩ := lift_ok e
  unfold newL at e1
  split at e1
  · rename_i hl
    cases e1
    have o : Outs X.K H Hs (fun _ => 0) _ Q := outs_of (B := fun _ => 0) (M := M) (stp0 H Hs M) (good0 g) s q
    exact ⟨by simpa using hl, fun p hp => o.new (fun b => by simp) (fun b hb => by simp at hb) hp (vs := vs) upd_same (repl_sc vs)⟩
  · cases e1
theorem bb_len : bootBuiltins "len" = some (.builtin "len") := by decide +kernel
theorem bb_all : bootBuiltins "all" = some (.builtin "all") := by decide +kernel
theorem bb_str : bootBuiltins "str" = some (.type "str") := by decide +kernel
theorem bb_int : bootBuiltins "int" = some (.type "int") := by decide +kernel
noncomputable def C0 : Ctx := { lock := fun _ => false, fok := fun _ _ => false, fuel := 0 }
end T
namespace T
open PySem PySem.Spec L2
section
variable {X : Cx} {o e a : Expr} {es : List Expr} {cpos apos pos p : Pos} {ca : M Op} {cs : M (List Op)} {i : Nat} {name m x f : Str} {A : Addr} {fi : FI} {j n : Nat} {ps : List Str}
theorem bm_of {K : PySem.W.Frag} {bm : BM} {σ : St} {H : Hp} {Q : VK} {r : V → List V → Hp → VK → Prop}
    (h : tM K ((ca.bnd view).bnd fun w => (lift (strW w)).bnd fun z => cs.bnd fun ps => (views ps).bnd fun ws => lift (bmW bm z ws)) σ H Q)
    (hr : ∀ (z : Str) (vs : List V) (H1 : Hp), rNW K (bmW bm z) vs H1 Q → r (.str z) vs H1 Q) : tBM K "str" r (tP K ca) (tPs K cs) σ H Q := by
  obtain ⟨δ, Hs, M, d, δ', g, s, e, q⟩ := h
  obtain ⟨w, δ2, e, e5⟩ := bnd_ok e
  obtain ⟨p, δ1, e1, e3⟩ := bnd_ok e
  obtain ⟨z, δ3, e6, e7⟩ := bnd_ok e5
  obtain ⟨e8, rfl⟩ := lift_ok e6
  refine ⟨δ, Hs, M, p, δ1, g, s, e1, fun x H2 Hs2 m1 M2 g2 st2 r1 s2 => ?_⟩
  obtain ⟨Hs3, M3, g3, st3, v1, s3⟩ := view_ok (B := m1) g2 s2 r1 e3
  have z2 := step2 (m1 := fun _ => 0) g (g2.re fun b => by simp) (st2.drop (fun b => by simp) g2.le) g3 st3
  have S3 : Stp H Hs M H2 Hs3 (fun b => m1 b + M3 b) := z2.2.1.drop (fun b => by simp) z2.1.le
  have hx : x = .str z := by
    cases v1 with
    | sc u _ => cases x with
      | str y => cases e8; rfl
      | _ => cases e8
    | nd n r => cases e8
  subst hx
  refine ⟨rfl, ?_⟩
  have h2 : tM K (cs.bnd fun ps => (views ps).bnd fun ws => lift (bmW bm z ws)) σ H2 Q := ⟨_, Hs3, M3, d, δ', g3.re, s3, e7, fun v H4 Hs4 m4 M4 g4 st4 r4 s4 => by
    obtain ⟨G, S, k⟩ := step2 (m1 := m1) (M1 := M3) g g3 S3 g4 st4
    exact q v H4 Hs4 m4 M4 g4 (S.drop (fun b => by omega) G.le) r4 s4⟩
  obtain ⟨δa, Hsa, Ma, aa, δb, ga, sa, ea, qa⟩ := opN h2
  exact ⟨δa, Hsa, Ma, aa, δb, ga, sa, ea, fun vs H5 Hs5 m5 M5 g5 st5 r5 s5 => hr z vs H5 (qa vs H5 Hs5 m5 M5 g5 st5 r5 s5)⟩
theorem strs_all {K : PySem.W.Frag} {H Hs : Hp} : ∀ {ds : List D} {vs : List V} {m : Bud} {ts : List Str}, RepL K H Hs vs ds m → strsOf ds = some ts → vs = ts.map V.str
  | [], _, _, is, .nil _, h => by simp only [strsOf, Option.some.injEq] at h; subst h; rfl
  | d :: ds, _, _, is, .cons x y _, h => by
    unfold strsOf at h
    split at h
    · rename_i hh; cases hh
    · rename_i i r hh
      injection hh with h1 h2
      subst h1 h2
      (simp only [Option.map_eq_some_iff] at h)
      obtain ⟨js, h, rfl⟩ := h
      cases x
      rw [strs_all y h]
      rfl
    · cases h
theorem ok_split (ho : PE X o (tP X.K ca)) (ha : PA X [e] (tPs X.K cs))
    (hbase : attributeBase o "split" X.env (eval o X.env) = eval o X.env := by rfl)
    (hfew : ((backTo cpos (starEach [e] X.env)).all (fun x => !x.1) && (backToKw cpos (keywordEach [] X.env)).all (fun x => x.1.isSome)
      && decide ([e].length + ([] : List Keyword).length + (if ([] : List Keyword).isEmpty then 0 else 1) < 30)) = true := by rfl)
    (hline : (apos.endLine == cpos.line) = true := by rfl) (hs : starEach [e] X.env = (false, eval e X.env) :: starEach [] X.env := by rfl) (hplain : (backTo cpos (starEach [] X.env)).any (·.1) = false := by rfl) :
    PE X (.Call (.Attribute o "split" apos) [e] [] cpos) (tM X.K ((ca.bnd view).bnd fun w => (lift (strW w)).bnd fun z => cs.bnd fun ps => (views ps).bnd fun ws => lift (bmW .split z ws))) :=
  PE.imp (pe_bm PySem.F.plainAttrs_str PySem.F.slot_str_split PySem.F.type_str_split mt_split ho ha hbase hfew hline hs hplain) fun σ H Q h => bm_of h fun z vs H1 hq => by
    obtain ⟨Hs, ws, m, d, hs, h1, h2, v, e, o⟩ := hq
    match ws, e with
    | [.sc (.str s)], e =>
      simp only [bmW] at e
      split at e
      · rename_i hc
        cases e
        obtain ⟨y, m1, rfl, v, l⟩ := v.one
        cases v
        have hs1 : ∃ c, s = ⟨#[c]⟩ := by
          cases s with
          | mk cps =>
            cases cps with
            | mk l =>
              have hl : l.length = 1 := by simpa using hc.1
              match l, hl with
              | [c], _ => exact ⟨c, rfl⟩
        obtain ⟨c, rfl⟩ := hs1
        refine ⟨z, c, rfl, rfl, hc.2, fun p hp => ?_⟩
        have rr : RepL X.K H1 Hs ((Txt.split z ⟨#[c]⟩).map V.str) ((Txt.split z ⟨#[c]⟩).map fun x => D.sc (.str x)) m := by
          have := repl_sc (K := X.K) (H := H1) (Hs := Hs) ((Txt.split z ⟨#[c]⟩).map V.str)
          rw [List.map_map] at this
          exact this.mono fun b => Nat.zero_le _
        exact o.new h1 h2 hp (vs := (Txt.split z ⟨#[c]⟩).map V.str) upd_same rr
      · cases e
theorem ok_join (ho : PE X o (tP X.K ca)) (ha : PA X [e] (tPs X.K cs))
    (hbase : attributeBase o "join" X.env (eval o X.env) = eval o X.env := by rfl)
    (hfew : ((backTo cpos (starEach [e] X.env)).all (fun x => !x.1) && (backToKw cpos (keywordEach [] X.env)).all (fun x => x.1.isSome)
      && decide ([e].length + ([] : List Keyword).length + (if ([] : List Keyword).isEmpty then 0 else 1) < 30)) = true := by rfl)
    (hline : (apos.endLine == cpos.line) = true := by rfl) (hs : starEach [e] X.env = (false, eval e X.env) :: starEach [] X.env := by rfl) (hplain : (backTo cpos (starEach [] X.env)).any (·.1) = false := by rfl) :
    PE X (.Call (.Attribute o "join" apos) [e] [] cpos) (tM X.K ((ca.bnd view).bnd fun w => (lift (strW w)).bnd fun z => cs.bnd fun ps => (views ps).bnd fun ws => lift (bmW .join z ws))) :=
  PE.imp (pe_bm PySem.F.plainAttrs_str PySem.F.slot_str_join PySem.F.type_str_join mt_join ho ha hbase hfew hline hs hplain) fun σ H Q h => bm_of h fun z vs H1 hq => by
    obtain ⟨Hs, ws, m, d, hs, h1, h2, v, e, o⟩ := hq
    match ws, e with
    | [.nd .lst ds], e =>
      simp only [bmW, Option.bind_eq_some_iff] at e
      obtain ⟨ts, e1, e2⟩ := e
      split at e2
      · rename_i hj
        cases e2
        obtain ⟨y, m1, rfl, v, l⟩ := v.one
        cases v with
        | nd n r =>
          have := strs_all r e1
          subst this
          exact ⟨z, _, ts, rfl, rfl, .inl (.inl n), hj, o.sc⟩
      · cases e2
theorem chkI_ok {K : PySem.W.Frag} {H Hs : Hp} {σ : St} {δ δ' : List D} {m0 M : Bud} {p : Op} {v : V} {u : Unit} (g : Good H Hs (fun b => m0 b + M b)) (s : RepS K H Hs σ δ M) (r : RepP K H Hs σ v p m0) (h : chkI A m p δ = .ok (u, δ')) :
    δ' = δ ∧ ∃ a dx fs, v = .ref a ∧ H a = some (.ins A dx fs) ∧ fs.lookup m = none := by
  have fin : ∀ {B : Addr} {fs : List Str} {o : Bool} {ds : List D} {m1 : Bud}, Rep K H Hs v (.node (.ins B fs) o ds) m1 → B = A → m ∉ fs → ∃ a dx fs, v = .ref a ∧ H a = some (.ins A dx fs) ∧ fs.lookup m = none := fun {B fs o ds m1} q hB hm => by
    subst hB
    have nl : ∀ {vs : List V}, fs.length = vs.length → (fs.zip vs).lookup m = none := fun {vs} hl => by
      rw [List.lookup_eq_none_iff]
      intro p hp
      have := (List.of_mem_zip (a := p.1) (b := p.2) hp).1
      have hne : m ≠ p.1 := fun q => hm (by rw [q]; exact this)
      simpa using hne
    cases q with
    | own n q _ => obtain ⟨hl, dx, e⟩ := n; exact ⟨_, dx, _, rfl, e, nl hl⟩
    | shd n q => obtain ⟨hl, dx, e⟩ := n; exact ⟨_, dx, _, rfl, g.sub _ _ e, nl hl⟩
  cases p with
  | late i =>
    unfold chkI at h
    dsimp only at h
    split at h
    · rename_i B fs oo ds hi
      split at h
      · rename_i hc
        cases h
        obtain ⟨v', m1, m2, e1, q, l, f⟩ := s.slot hi (by simp)
        rw [show σ[i]? = some (some v) from r] at e1
        cases e1
        exact ⟨rfl, fin q hc.1 hc.2⟩
      · cases h
    · cases h
  | tmp d =>
    cases d with
    | sc u => cases h
    | hole => cases h
    | node k oo ds =>
      cases k with
      | ins B fs =>
        unfold chkI at h
        dsimp only at h
        split at h
        · rename_i hc
          cases h
          exact ⟨rfl, fin r hc.1 hc.2⟩
        · cases h
      | _ => cases h
theorem meth_of {K : PySem.W.Frag} {σ : St} {H : Hp} {Q : VK} {E : XK} (h : tM K (ca.bnd fun p => (chkI A m p).bnd fun _ => cs.bnd fun ps => callF fi (p :: ps)) σ H Q) :
    tP K ca σ H fun x H1 => ∃ a dx fs, x = .ref a ∧ H1 a = some (.ins A dx fs) ∧ fs.lookup m = none ∧ tPs K cs σ H1 fun vs H2 => spF K fi.run (x :: vs) H2 Q E := by
  obtain ⟨δ, Hs, M, d, δ', g, s, ea, q⟩ := h
  obtain ⟨p, δ1, e1, eb⟩ := bnd_ok ea
  obtain ⟨u, δ2, e2, ec⟩ := bnd_ok eb
  obtain ⟨ps, δ3, e3, ed⟩ := bnd_ok ec
  refine ⟨δ, Hs, M, p, δ1, g, s, e1, fun x H1 Hs1 m1 M1 g1 st1 r1 s1 => ?_⟩
  obtain ⟨rfl, a, dx, fs, hx, ha, hl⟩ := chkI_ok g1 s1 r1 e2
  refine ⟨a, dx, fs, hx, ha, hl, δ2, Hs1, M1, ps, δ3, g1.re, s1, e3, fun vs H2 Hs2 m2 M2 g2 st2 r2 s2 => ?_⟩
  obtain ⟨G2, S2, k2⟩ := step2 g g1 st1 g2 st2
  have r1' := RepP.frame st2.grow k2 r1
  exact call_fin (m1 := fun b => m1 b + m2 b) g (G2.re fun b => by (try dsimp only); omega) (S2.drop (fun b => by (try dsimp only); omega) G2.le) (show RepPs K H2 Hs2 σ (x :: vs) (p :: ps) (fun b => m1 b + m2 b) from ⟨m1, m2, r1', r2, fun b => Nat.le_refl _⟩) s2 ed q
theorem ok_meth {pl : Sem Bool} (G : MeAt X.prog X.w X.K X.mg X.base A m j ps (spF X.K fi.run)) (hr : Room n X.A) (ho : PE X o (tP X.K ca)) (ha : PA X (e :: es) (tPs X.K cs)) (hj : j ≤ n := by decide)
    (hst : starEach (e :: es) X.env = (false, eval e X.env) :: starEach es X.env := by rfl) (hpl : (backTo pos (starEach es X.env)).any (·.1) = false := by rfl)
    (ht : eval (.Call (.Attribute o m apos) (e :: es) [] pos) X.env = (do
      let ov ← eval o X.env
      standAt apos.atName
      let (f, first) ← holding [ov] (getMethod ov m pl)
      callWith pos f first (backTo pos (starEach (e :: es) X.env)) (backToKw pos (keywordEach [] X.env))) := by rfl) :
    PE X (.Call (.Attribute o m apos) (e :: es) [] pos) (tM X.K (ca.bnd fun p => (chkI A m p).bnd fun _ => cs.bnd fun ps => callF fi (p :: ps))) := PE.imp (pe_me G hr ho ha hj hst hpl ht) fun σ H Q h => by
  refine tG.mono (meth_of (E := E0) h) fun x H1 ⟨a, dx, fs, hx, hh, hl, z⟩ => ⟨a, dx, fs, hx, hh, hl, ?_⟩
  obtain ⟨δ, Hs, M, aa, δ', g, s, e, q⟩ := z
  refine ⟨δ, Hs, M, aa, δ', g, s, e, fun vs H' Hs' m M' g' st r s' => ?_⟩
  show spF X.K fi.run (x :: (vs ++ [])) H' Q E0
  rw [List.append_nil]
  exact q vs H' Hs' m M' g' st r s'
theorem ok_meth0 {pl : Sem Bool} (G : MeAt X.prog X.w X.K X.mg X.base A m j ps (spF X.K fi.run)) (hr : Room n X.A) (ho : PE X o (tP X.K ca)) (hj : j ≤ n := by decide)
    (ht : eval (.Call (.Attribute o m apos) [] [] pos) X.env = (do
      let ov ← eval o X.env
      standAt apos.atName
      let (f, first) ← holding [ov] (getMethod ov m pl)
      callWith pos f first (backTo pos (starEach [] X.env)) (backToKw pos (keywordEach [] X.env))) := by rfl) :
    PE X (.Call (.Attribute o m apos) [] [] pos) (tM X.K (ca.bnd fun p => (chkI A m p).bnd fun _ => (M.ret ([] : List Op)).bnd fun ps => callF fi (p :: ps))) := PE.imp (pe_me0 G hr ho hj ht) fun σ H Q h => by
  refine tG.mono (meth_of (E := E0) h) fun x H1 ⟨a, dx, fs, hx, hh, hl, z⟩ => ⟨a, dx, fs, hx, hh, hl, ?_⟩
  obtain ⟨δ, Hs, M, aa, δ', g, s, e, q⟩ := z
  have := ret_ok e
  cases this
  exact q [] H1 Hs (fun _ => 0) M (good0 g) (stp0 _ _ _) trivial s
theorem new_of {K : PySem.W.Frag} {σ : St} {H : Hp} {Q : VK} {E : XK} (h : tM K (cs.bnd fun ps => newF A fi ps) σ H Q) :
    tPs K cs σ H fun vs H1 => ∀ x dx, H1 x = none → H1 dx = none → dx ≠ x → spF K fi.run (.ref x :: vs) (upd (upd H1 dx (.own x)) x (.ins A dx [])) (fun v H2 => v = .non ∧ Q (.ref x) H2) E := by
  obtain ⟨δ, Hs, M, d, δ', g, s, e, q⟩ := h
  obtain ⟨ps, δ1, e1, e⟩ := bnd_ok e
  refine ⟨δ, Hs, M, ps, δ1, g, s, e1, fun vs H1 Hs1 m1 M1 g1 st1 r1 s1 x dx hx hdx hne => ?_⟩
  unfold newF at e
  obtain ⟨ds, δ2, e2, e⟩ := bnd_ok e
  cases hF : fi.run (.node (.ins A []) true [] :: ds) with
  | exc x y => rw [hF] at e; cases e
  | stuck => rw [hF] at e; cases e
  | ok r =>
    obtain ⟨d', ds'⟩ := r
    rw [hF] at e
    match d', ds', e, hF with
    | .sc .non, dI :: ds', e, hF =>
      dsimp only at e
      obtain ⟨u, δ3, e3, e⟩ := bnd_ok e
      have := ret_ok e
      cases this
      obtain ⟨Hs2, m2, M2, g2, st2, q2, s2⟩ := takes_ok (B := fun _ => 0) (g1.re fun b => by simp) s1 r1 e2
      have z0 := step2 (m1 := fun _ => 0) g (g1.re fun b => by simp) (st1.drop (fun b => by simp) g1.le) (g2.re fun b => by simp) (M1 := fun b => m1 b + M1 b) (M2 := fun b => m2 b + M2 b) (by
        have := st2
        exact ⟨fun b o h z => this.keep b o h (by simpa using z), fun b h => by have := this.own b (by simpa using h); simpa using this, this.grow, fun b h h' => by have := this.shr b h h'; simpa using this, this.stay⟩)
      have G2 : Good H1 Hs2 (fun b => M2 b + m2 b) := g2.re fun b => by simp; omega
      have S2 : Stp H Hs M H1 Hs2 (fun b => M2 b + m2 b) := z0.2.1.drop (fun b => by simp; omega) z0.1.le
      have hsx : Hs2 x = none := by
        cases w : Hs2 x with
        | none => rfl
        | some o => rw [G2.sub x o w] at hx; cases hx
      have hsd : Hs2 dx = none := by
        cases w : Hs2 dx with
        | none => rfl
        | some o => rw [G2.sub dx o w] at hdx; cases hdx
      have zz : ∀ b, H1 b = none → M2 b = 0 ∧ m2 b = 0 := fun b hb => by
        have l : M2 b + m2 b ≤ 1 := G2.le b
        have : M2 b + m2 b ≠ 1 := fun e => G2.has b e hb
        omega
      have nw : ∀ b, b ≠ x → b ≠ dx → upd (upd H1 dx (.own x)) x (.ins A dx []) b = H1 b := fun b h1 h2 => by rw [upd_ne h1, upd_ne h2]
      have atx : upd (upd H1 dx (.own x)) x (.ins A dx []) x = some (.ins A dx []) := upd_same
      have atd : upd (upd H1 dx (.own x)) x (.ins A dx []) dx = some (.own x) := by rw [upd_ne hne]; exact upd_same
      have old : ∀ b, H1 b ≠ none → b ≠ x ∧ b ≠ dx := fun b hb => ⟨fun e => hb (by rw [e]; exact hx), fun e => hb (by rw [e]; exact hdx)⟩
      have same : Same H1 (upd (upd H1 dx (.own x)) x (.ins A dx [])) := fun b o e => by
        obtain ⟨h1, h2⟩ := old b (by rw [e]; simp)
        rw [nw b h1 h2]; exact e
      have G3 : Good (upd (upd H1 dx (.own x)) x (.ins A dx [])) Hs2 (fun b => M2 b + (one x b + m2 b)) := by
        refine ⟨fun b o e => same b o (G2.sub b o e), fun b => ?_, fun b hb => ?_, fun b hb => ?_⟩
        · have l : M2 b + m2 b ≤ 1 := G2.le b
          unfold one
          (try dsimp only)
          split
          · rename_i e; subst e; have := zz b hx; omega
          · omega
        · by_cases e : b = x
          · subst e; exact hsx
          · have hb : M2 b + (one x b + m2 b) = 1 := hb
            simp only [one, if_neg e] at hb
            exact G2.ne b (by show M2 b + m2 b = 1; omega)
        · by_cases e : b = x
          · subst e; rw [atx]; simp
          · have hb : M2 b + (one x b + m2 b) = 1 := hb
            simp only [one, if_neg e] at hb
            have := G2.has b (by show M2 b + m2 b = 1; omega)
            obtain ⟨h1, h2⟩ := old b this
            rw [nw b h1 h2]; exact this
      have S3 : Stp H Hs M (upd (upd H1 dx (.own x)) x (.ins A dx [])) Hs2 (fun b => M2 b + (one x b + m2 b)) := by
        refine ⟨fun b o e z => same b o (S2.keep b o e z), fun b hb => ?_, S2.grow, S2.shr, fun b hb => ?_⟩
        · by_cases e : b = x
          · subst e
            right
            cases w : H b with
            | none => rfl
            | some o => exact absurd hx (S2.stay b (by rw [w]; simp))
          · have hb : M2 b + (one x b + m2 b) = 1 := hb
            simp only [one, if_neg e] at hb
            exact S2.own b (by show M2 b + m2 b = 1; omega)
        · have := S2.stay b hb
          obtain ⟨h1, h2⟩ := old b this
          rw [nw b h1 h2]; exact this
      have fr : ∀ b, H1 b ≠ none → upd (upd H1 dx (.own x)) x (.ins A dx []) b = H1 b := fun b hb => nw b (old b hb).1 (old b hb).2
      have q3 : RepL K (upd (upd H1 dx (.own x)) x (.ins A dx [])) Hs2 vs ds m2 := q2.frame (Same.refl _) fun b _ hb => fr b hb
      have s3 : RepS K (upd (upd H1 dx (.own x)) x (.ins A dx [])) Hs2 σ δ2 M2 := RepS.frame (Same.refl _) (fun b _ hb => fr b hb) s2
      have rx : Rep K (upd (upd H1 dx (.own x)) x (.ins A dx [])) Hs2 (.ref x) (.node (.ins A []) true []) (one x) := .own (vs := []) (m' := fun _ => 0) ⟨rfl, dx, atx⟩ (.nil _) fun b => by simp
      refine ⟨_, Hs2, fun b => one x b + m2 b, _, _, G3.re fun b => by (try dsimp only); omega, .cons rx q3 fun b => Nat.le_refl _, hF, fun v H4 Hs4 n1 n2 g4 st4 r4 rl4 => ?_⟩
      cases r4
      refine ⟨rfl, ?_⟩
      cases rl4 with
      | @cons _ _ _ _ k1 k2 _ ra rb lk =>
        obtain ⟨G, S, k⟩ := step2 g G3 S3 g4 st4
        have s4 := RepS.frame st4.grow k s3
        have fin := gives_ok s4 rb (lates r1) e3
        exact q _ H4 Hs4 k1 (fun b => k2 b + M2 b) (G.re fun b => by have := lk b; (try dsimp only); omega) (S.drop (fun b => by have := lk b; (try dsimp only); omega) G.le) ra fin
theorem ok_new (G : MkAt X.prog X.w X.K X.mg X.base x A j ps (spF X.K fi.run)) (hr : Room n X.A) (ha : PA X (e :: es) (tPs X.K cs)) (hj : j + 1 ≤ n := by decide) (hg : Gl X x := by rfl) (hdb : (x == ("__debug__" : Str)) = false := by decide)
    (he : starEach (e :: es) X.env = (false, eval e X.env) :: starEach es X.env := by rfl) (hpl : (backTo pos (starEach es X.env)).any (·.1) = false := by rfl) :
    PE X (.Call (.Name x p) (e :: es) [] pos) (tM X.K (cs.bnd fun ps => newF A fi ps)) := PE.imp (pe_mk G hr ha hj hg hdb he hpl) fun σ H Q h => by
  obtain ⟨δ, Hs, M, aa, δ', g, s, e, q⟩ := new_of (E := E0) h
  refine ⟨δ, Hs, M, aa, δ', g, s, e, fun vs H' Hs' m M' g' st r s' x dx h1 h2 h3 => ?_⟩
  show spF X.K fi.run (.ref x :: (vs ++ [])) _ _ E0
  rw [List.append_nil]
  exact q vs H' Hs' m M' g' st r s' x dx h1 h2 h3
theorem putF_zip (f : Str) (v : V) : ∀ (fs : List Str) (vs : List V), fs.length = vs.length → putF f v (fs.zip vs) = (putN f fs).zip (putV f v fs vs) ∧ (putN f fs).length = (putV f v fs vs).length
  | [], [], _ => ⟨rfl, rfl⟩
  | g :: fs, x :: vs, h => by
    obtain ⟨i1, i2⟩ := putF_zip f v fs vs (by simpa using h)
    rw [List.zip_cons_cons]
    show (if g = f then (g, v) :: fs.zip vs else (g, x) :: putF f v (fs.zip vs)) = _ ∧ _
    simp only [putN, putV]
    split
    · exact ⟨rfl, by simpa using h⟩
    · rw [i1]
      exact ⟨rfl, by rw [List.length_cons, List.length_cons, i2]⟩
  | [], _ :: _, h => by simp at h
  | _ :: _, [], h => by simp at h
theorem RepL.putV {K : PySem.W.Frag} {H Hs : Hp} {v : V} {d : D} {m1 : Bud} (f : Str) (x : Rep K H Hs v d m1) : ∀ {fs : List Str} {vs : List V} {ds : List D} {m : Bud}, fs.length = vs.length → RepL K H Hs vs ds m → RepL K H Hs (T.putV f v fs vs) (T.putV f d fs ds) (fun b => m b + m1 b)
  | [], _, _, m, h, .nil _ => .cons x (.nil (fun _ => 0)) fun b => by (try dsimp only); omega
  | [], _, _, m, h, .cons _ _ _ => by simp at h
  | _ :: _, _, _, m, h, .nil _ => by simp at h
  | g :: fs, _, _, m, h, .cons (m1 := a1) (m2 := a2) y z l => by
    simp only [T.putV]
    split
    · exact .cons x z fun b => by have := l b; (try dsimp only); omega
    · exact .cons y (RepL.putV f x (by simpa using h) z) fun b => by have := l b; (try dsimp only); omega
theorem ok_attr {c : M D} {lk : Nat → Bool} {value : Expr} {ok : Addr → Str → Bool} {pos' : Pos} (hf : ∀ C f, ok C f = true → Cls X.K C ∧ NoAttr X.K C f) (ho : PE X o (tVar i)) (hv : PE X value (tM X.K c)) (hs : swapsWith value (some (.Attribute o f pos')) pos.line X.env = pure false := by rfl) :
    PS X (.Assign [.Attribute o f pos'] value pos) (tS X.K lk (c.bnd fun d => (lateM i).bnd fun _ => (modS i (putD ok f d)).bnd fun _ => M.ret .nx)) := PS.imp (ps_fld ho hv hs) fun E σ H h => by
  obtain ⟨δ, Hs, M, fl, δ', g, s, ea, q⟩ := h
  obtain ⟨d, δ1, e1, eb⟩ := bnd_ok ea
  obtain ⟨p0, δ2, e2, ec⟩ := bnd_ok eb
  obtain ⟨r0, δ3, e3, ed⟩ := bnd_ok ec
  have := ret_ok ed
  cases this
  obtain ⟨kk, ds0, k', ds', hi, hff, rfl⟩ := modS_ok e3
  refine ⟨δ, Hs, M, d, δ1, g, s, e1, fun v H1 Hs1 m1 M1 g1 st1 r1 s1 => ?_⟩
  obtain ⟨rfl, vo, hvo⟩ := late_ok s1 e2
  obtain ⟨p1, us, m', n2, e8, nn, rl, le, fin⟩ := modL g1 s1 hi
  rw [hvo] at e8
  cases e8
  refine ⟨_, hvo, ?_⟩
  unfold putD at hff
  split at hff
  · rename_i ds C fs
    split at hff
    · rename_i hc
      cases hff
      obtain ⟨hl, dx, hH⟩ := nn
      obtain ⟨z1, z2⟩ := putF_zip f v fs us hl
      obtain ⟨G, S, R, SS⟩ := fin (.ins C dx (putF f v (fs.zip us))) (.ins C (putN f fs)) (T.putV f v fs us) (T.putV f d fs ds0) (fun b => m' b + m1 b) (fun _ => 0) .non (.sc .non) (fun b => by (try dsimp only); omega) ⟨z2, dx, by rw [upd_same, z1]⟩ (rl.putV f r1 hl) (.sc _ _)
      have z := step2 (m1 := fun _ => 0) g (g1.re fun b => by simp) (st1.drop (fun b => by simp) g1.le) G S
      refine ⟨p1, C, dx, fs.zip us, rfl, hH, (hf C f hc.2).1, (hf C f hc.2).2, ?_, ?_⟩
      · rw [List.length_zip, hl, Nat.min_self]
        rw [← hl]
        exact hc.1
      · exact q σ _ Hs1 _ (Keeps.refl _ _) (G.re fun b => by (try dsimp only); omega) ((z.2.1.drop (fun b => by simp) z.1.le).drop (fun b => by (try dsimp only); omega) G.le) SS
    · cases hff
  · cases hff
end
end T
namespace T
open PySem PySem.Spec L2 PySem.W
noncomputable def scr (ns : List Int) : D := .node .frl false (ns.map fun i => .sc (.int i))
theorem law_sp {K : PySem.W.Frag} {H : Hp} {a : Addr} {ns : List Int} {F : List D → Rs (D × List D)} {E : XK} (hS : SqL K H a (ns.map V.int)) (e : ∃ ds', F [scr ns] = .ok (.sc (.bl true), ds')) : spF K F [.ref a] H (fun v _ => v = .bl true) E := by
  obtain ⟨ds', e⟩ := e
  refine ⟨[scr ns], H, fun _ => 0, _, ds', ⟨Same.refl _, fun b => Nat.zero_le _, fun b h => by simp at h, fun b h => by simp at h⟩, .cons (m1 := fun _ => 0) (m2 := fun _ => 0) (.shd (vs := ns.map V.int) hS (repl_ints ns)) (.nil _) fun b => by simp, e, fun v H' Hs' m1 m' g st r _ => ?_⟩
  cases r
  rfl
theorem law_walk {l : PySem.W.OpenLaw} {q : Program} {loose : List Str} {XP : (Str → Option Value) → Heap → Prop} {YP : World → Heap → Prop} {d : DefRec} {K : Params → PySem.W.Frag} {k : Nat} {x : Str} {R : PySem.W.Frag → List D → Rs (D × List D)} (hn : l.most = some 63) (hdf : d.params.defaults = []) (hr : Room k callerA)
    (hY : ∀ (w : World) (h : Heap), YP w h → (K w.params).In h)
    (F : ∀ (w : World) (mg : Str → Option Value) (fa : Addr) (h : Heap), (K w.params).In h → h.Ns mainGlobals mg → mg d.name = some (.ref fa) →
      ∃ fd : FuncData, (∀ (s : Shared) (u : Value), BindsTo s fd ⟨[u], []⟩ [(x, u)]) ∧ ∀ base : Heap, (K w.params).In base → base.Ns mainGlobals mg → FnOk l.prog w (K w.params) mg base CX0 k fa fd [x] (spF (K w.params) (R (K w.params))))
    (hL : ∀ (K : PySem.W.Frag) (ns : List Int), ns.length ≤ 63 → ∃ ds', R K [scr ns] = .ok (.sc (.bl true), ds')) :
    PySem.W.WalkO q loose XP YP l.row.toRowW d [] (fun f vs => PySem.call f vs) :=
  L2.walk_ofK (n := 63) (k := k) (x := x) (CX := CX0) (sp := fun K => spF K (R K)) hn (by decide) hdf hr hY F (fun K H a ns hl _ hS => law_sp hS (hL K ns hl)) fun _ _ _ _ z => z
end T
namespace T
open PySem PySem.Spec L2 PySem.W
theorem bnd_eq {α β : Type} {c : M α} {f : α → M β} {δ δ' : List D} {a : α} (h : c δ = .ok (a, δ')) : c.bnd f δ = f a δ' := by
  unfold M.bnd
  rw [h]
theorem runA {C : Ctx} {n N : Nat} {body : List S} {ds : List D} (h : ds.length = n) : runDef C n N body ds = endDef n (exs { C with lock := fun i => decide (i < n) } body (ds ++ List.replicate (N - n) .hole)) := if_pos h
theorem szl : sizeLine = 16777216 := by rw [sizeLine_eq]
section
variable {α β : Type} {C : Ctx} {δ δ' : List D} {a : α} {i j : Nat} {x y : Int} {v w : V} {k : Kd} {ds es : List D} {d : D}
noncomputable def bndR (f : α → M β) : Rs (α × List D) → Rs (β × List D)
  | .ok (a, δ) => f a δ
  | .exc x δ => .exc x δ
  | .stuck => .stuck
theorem bndA (c : M α) (f : α → M β) (δ : List D) : c.bnd f δ = bndR f (c δ) := by
  unfold M.bnd bndR
  cases c δ <;> rfl
theorem bndR_ok (f : α → M β) : bndR f (.ok (a, δ)) = f a δ := (rfl)
theorem retA : M.ret a δ = .ok (a, δ) := (rfl)
theorem liftA : lift (some a) δ = .ok (a, δ) := (rfl)
theorem ite_app (c : Prop) [Decidable c] (f g : M α) (δ : List D) : (if c then f else g) δ = if c then f δ else g δ := by split <;> rfl
theorem opd_v (c : M D) : opdOf (.v i) c = lateM i := (rfl)
noncomputable def atR (i : Nat) (δ : List D) : Option D → Rs (Op × List D)
  | some (.sc _) => .ok (.late i, δ)
  | some (.node _ _ _) => .ok (.late i, δ)
  | _ => .stuck
theorem lateA : lateM i δ = atR i δ δ[i]? := by unfold lateM atR; cases δ[i]? with | none => rfl | some d => cases d <;> rfl
theorem atR_sc : atR i δ (some (.sc v)) = .ok (.late i, δ) := (rfl)
theorem atR_nd {o : Bool} : atR i δ (some (.node k o ds)) = .ok (.late i, δ) := (rfl)
noncomputable def vwR (i : Nat) (δ : List D) : Option D → Rs (W × List D)
  | some (.sc v) => .ok (.sc v, δ)
  | some (.node k false ds) => .ok (.nd k ds, δ)
  | some (.node k true ds) => .ok (.nd k (shrL ds), δ.set i (.node k true (shrL ds)))
  | _ => .stuck
theorem viewA : view (.late i) δ = vwR i δ δ[i]? := by
  unfold view vwR
  (try dsimp only)
  all_goals
    cases δ[i]? with
    | none => rfl
    | some d => cases d with
      | node k o ds => cases o <;> rfl
      | _ => rfl
theorem vwR_sc : vwR i δ (some (.sc v)) = .ok (.sc v, δ) := (rfl)
theorem vwR_f : vwR i δ (some (.node k false ds)) = .ok (.nd k ds, δ) := (rfl)
theorem vwR_t : vwR i δ (some (.node k true ds)) = .ok (.nd k (shrL ds), δ.set i (.node k true (shrL ds))) := (rfl)
theorem view_sc : view (.tmp (.sc v)) = M.ret (.sc v) := (rfl)
theorem view_nd {o : Bool} : view (.tmp (.node k o ds)) = M.ret (.nd k ds) := (rfl)
noncomputable def vlR (i : Nat) (δ : List D) : Option D → Rs (D × List D)
  | some (.sc v) => .ok (.sc v, δ)
  | some (.node k false ds) => .ok (.node k false ds, δ)
  | some (.node k true ds) => .ok (.node k false (shrL ds), δ.set i (.node k false (shrL ds)))
  | _ => .stuck
theorem valA : T.valV i δ = vlR i δ δ[i]? := by
  unfold T.valV vlR
  cases δ[i]? with
  | none => rfl
  | some d => cases d with
    | node k o ds => cases o <;> rfl
    | _ => rfl
theorem vlR_sc : vlR i δ (some (.sc v)) = .ok (.sc v, δ) := (rfl)
noncomputable def mvR (i : Nat) (δ : List D) : Option D → Rs (D × List D)
  | some (.sc v) => .ok (.sc v, δ)
  | some (.node k o ds) => .ok (.node k o ds, δ.set i .hole)
  | _ => .stuck
theorem movA : movV i δ = mvR i δ δ[i]? := by unfold movV mvR; cases δ[i]? with | none => rfl | some d => cases d <;> rfl
theorem mvR_nd {o : Bool} : mvR i δ (some (.node k o ds)) = .ok (.node k o ds, δ.set i .hole) := (rfl)
noncomputable def tkR (lend : Bool) (i : Nat) (δ : List D) : Option D → Rs (D × List D)
  | some (.sc v) => .ok (.sc v, δ)
  | some (.node k false ds) => .ok (.node k false ds, δ)
  | some (.node k true ds) => if lend then .ok (.node k true ds, δ.set i .hole) else .ok (.node k false (shrL ds), δ.set i (.node k false (shrL ds)))
  | _ => .stuck
theorem takeL {lend : Bool} : takeA lend (.late i) δ = tkR lend i δ δ[i]? := by
  unfold takeA tkR
  (try dsimp only)
  all_goals
    cases δ[i]? with
    | none => rfl
    | some d => cases d with
      | node k o ds => cases o <;> rfl
      | _ => rfl
theorem takeT {lend : Bool} : takeA lend (.tmp d) = M.ret d := (rfl)
theorem tkR_sc {lend : Bool} : tkR lend i δ (some (.sc v)) = .ok (.sc v, δ) := (rfl)
theorem tkR_f {lend : Bool} : tkR lend i δ (some (.node k false ds)) = .ok (.node k false ds, δ) := (rfl)
theorem tkR_t : tkR true i δ (some (.node k true ds)) = .ok (.node k true ds, δ.set i .hole) := (rfl)
theorem takes0 {lend : Bool} : takeAs lend [] = M.ret [] := (rfl)
theorem takes1 {lend : Bool} {p : Op} {ps : List Op} : takeAs lend (p :: ps) = (takeA lend p).bnd fun d => (takeAs lend ps).bnd fun ds => M.ret (d :: ds) := (rfl)
noncomputable def gvR (i : Nat) (δ : List D) (d : D) : Option D → Rs (Unit × List D)
  | some .hole => .ok ((), δ.set i d)
  | _ => .ok ((), δ)
theorem giveL : giveA (.late i) d δ = gvR i δ d δ[i]? := by unfold giveA gvR; (try dsimp only); all_goals (cases δ[i]? with | none => rfl | some d => cases d <;> rfl)
theorem giveT {d' : D} : giveA (.tmp d') d = M.ret () := (rfl)
theorem gvR_sc : gvR i δ d (some (.sc v)) = .ok ((), δ) := (rfl)
theorem gvR_nd {o : Bool} : gvR i δ d (some (.node k o ds)) = .ok ((), δ) := (rfl)
theorem gvR_h : gvR i δ d (some .hole) = .ok ((), δ.set i d) := (rfl)
theorem gives0 {ds : List D} : giveAs [] ds = M.ret () := by cases ds <;> rfl
theorem gives1 {p : Op} {ps : List Op} : giveAs (p :: ps) (d :: ds) = (giveA p d).bnd fun _ => giveAs ps ds := (rfl)
theorem views0 : views [] = M.ret [] := (rfl)
theorem views1 {p : Op} {ps : List Op} : views (p :: ps) = (view p).bnd fun w => (views ps).bnd fun ws => M.ret (w :: ws) := (rfl)
noncomputable def cfR (ps : List Op) (δ : List D) : Rs (D × List D) → Rs (D × List D)
  | .ok (d, ds') => ((giveAs ps ds').bnd fun _ => M.ret d) δ
  | .exc x _ => .exc x δ
  | .stuck => .stuck
theorem callA {fi : FI} {ps : List Op} : callF fi ps = (takeAs fi.lend ps).bnd fun ds δ => cfR ps δ (fi.run ds) := by
  unfold callF cfR
  congr 1
  funext ds δ
  cases fi.run ds with
  | ok r => obtain ⟨d, ds'⟩ := r; rfl
  | exc x y => rfl
  | stuck => rfl
theorem cfR_ok {ps : List Op} {ds' : List D} : cfR ps δ (.ok (d, ds')) = ((giveAs ps ds').bnd fun _ => M.ret d) δ := (rfl)
noncomputable def seqR (r : M Fl) : Rs (Fl × List D) → Rs (Fl × List D)
  | .ok (.nx, δ) => r δ
  | .ok (f, δ) => .ok (f, δ)
  | .exc x δ => .exc x δ
  | .stuck => .stuck
theorem exs1 {s : S} {r : List S} : exs C (s :: r) δ = seqR (exs C r) (ex C s δ) := by
  show seqL (ex C s) (exs C r) δ = _
  unfold seqL M.bnd seqR
  cases ex C s δ with
  | ok z => obtain ⟨f, δ1⟩ := z; cases f <;> rfl
  | exc x y => rfl
  | stuck => rfl
noncomputable def forR (asg : D → M Unit) (body : M Fl) (ds : List D) : Rs (Fl × List D) → Rs (Fl × List D)
  | .ok (.nx, δ) => forL asg body ds δ
  | .ok (.ct, δ) => forL asg body ds δ
  | .ok (.bk, δ) => .ok (.nx, δ)
  | .ok (.rt x, δ) => .ok (.rt x, δ)
  | .exc x δ => .exc x δ
  | .stuck => .stuck
theorem forL1 {asg : D → M Unit} {body : M Fl} : forL asg body (d :: ds) δ = forR asg body ds (((asg d).bnd fun _ => body) δ) := by
  show ((asg d).bnd fun _ => body.bnd fun f => match f with | .nx => forL asg body ds | .ct => forL asg body ds | .bk => M.ret .nx | .rt x => M.ret (.rt x)) δ = _
  unfold forR M.bnd
  cases asg d δ with
  | ok r =>
    dsimp only
    cases body r.2 with
    | ok z => obtain ⟨f, δ1⟩ := z; cases f <;> rfl
    | exc x y => rfl
    | stuck => rfl
  | exc x y => rfl
  | stuck => rfl
theorem forR_nx {asg : D → M Unit} {body : M Fl} : forR asg body ds (.ok (.nx, δ)) = forL asg body ds δ := (rfl)
theorem exs0 : exs C [] δ = .ok (.nx, δ) := (rfl)
theorem seqR_nx (r : M Fl) : seqR r (.ok (.nx, δ)) = r δ := (rfl)
theorem seqR_rt (r : M Fl) : seqR r (.ok (.rt d, δ)) = .ok (.rt d, δ) := (rfl)
end
end T
namespace T
open PySem PySem.Spec L2 PySem.W
theorem e_k (C : Ctx) (v : V) : (evb C (.k v)).1 = (M.ret (.sc v)) := (rfl)
theorem o_k (v : V) (z : M D) : opdOf (.k v) z = z.bnd fun d => M.ret (.tmp d) := (rfl)
theorem e_bin (C : Ctx) (op : Operator) (a : E) (b : E) : (evb C (.bin op a b)).1 = ((opdOf a (evb C a).1).bnd fun p => (opdOf b (evb C b).1).bnd fun q => (view p).bnd fun x => (view q).bnd fun y => lift (binW op x y)) := (rfl)
theorem o_bin (op : Operator) (a : E) (b : E) (z : M D) : opdOf (.bin op a b) z = z.bnd fun d => M.ret (.tmp d) := (rfl)
theorem e_cmp (C : Ctx) (op : CmpOp) (a : E) (b : E) : (evb C (.cmp op a b)).1 = ((opdOf a (evb C a).1).bnd fun p => (opdOf b (evb C b).1).bnd fun q => (view p).bnd fun x => (view q).bnd fun y => lift ((cmpW2 op x y).map fun t => .sc (.bl t))) := (rfl)
theorem t_cmp (C : Ctx) (op : CmpOp) (a : E) (b : E) : (evb C (.cmp op a b)).2 = boolM (evb C (.cmp op a b)).1 := (rfl)
theorem e_nt (C : Ctx) (a : E) : (evb C (.nt a)).1 = (((opdOf a (evb C a).1).bnd view).bnd fun w => lift (notW w)) := (rfl)
theorem t_nt (C : Ctx) (a : E) : (evb C (.nt a)).2 = ((evb C a).2.bnd fun b => M.ret (!b)) := (rfl)
theorem o_nt (a : E) (z : M D) : opdOf (.nt a) z = z.bnd fun d => M.ret (.tmp d) := (rfl)
theorem e_and (C : Ctx) (a : E) (b : E) : (evb C (.and a b)).1 = (((opdOf a (evb C a).1).bnd view).bnd (andM (evb C b).1)) := (rfl)
theorem t_or (C : Ctx) (a : E) (b : E) : (evb C (.or a b)).2 = ((evb C a).2.bnd fun t => if t then M.ret true else (evb C b).2) := (rfl)
theorem e_ix (C : Ctx) (a : E) (b : E) : (evb C (.ix a b)).1 = ((opdOf a (evb C a).1).bnd fun p => (opdOf b (evb C b).1).bnd fun q => (view p).bnd fun x => (view q).bnd fun y => lift (ixW2 x y)) := (rfl)
theorem o_ix (a : E) (b : E) (z : M D) : opdOf (.ix a b) z = z.bnd fun d => M.ret (.tmp d) := (rfl)
theorem e_sl (C : Ctx) (a : E) (b : E) (c : E) : (evb C (.sl a b c)).1 = ((opdOf a (evb C a).1).bnd fun p => (partM b (opdOf b (evb C b).1)).bnd fun l => (partM c (opdOf c (evb C c).1)).bnd fun h => (view p).bnd fun x => lift (slD x l h)) := (rfl)
theorem o_sl (a : E) (b : E) (c : E) (z : M D) : opdOf (.sl a b c) z = z.bnd fun d => M.ret (.tmp d) := (rfl)
theorem e_fld (C : Ctx) (a : E) (f : Str) : (evb C (.fld a f)).1 = (((opdOf a (evb C a).1).bnd view).bnd fun x => lift (fldW C.fok f x)) := (rfl)
theorem o_fld (a : E) (f : Str) (z : M D) : opdOf (.fld a f) z = z.bnd fun d => M.ret (.tmp d) := (rfl)
theorem e_lst (C : Ctx) (es : List E) : (evb C (.lst es)).1 = ((evs C es).bnd fun ds => lift (newL ds)) := (rfl)
theorem e_tup (C : Ctx) (es : List E) : (evb C (.tup es)).1 = ((evs C es).bnd fun ds => lift (newT ds)) := (rfl)
theorem o_kl (vs : List V) (z : M D) : opdOf (.kl vs) z = z.bnd fun d => M.ret (.tmp d) := (rfl)
theorem e_call (C : Ctx) (fi : FI) (es : List E) : (evb C (.call fi es)).1 = ((opds C es).bnd fun ps => callF fi ps) := (rfl)
theorem t_call (C : Ctx) (fi : FI) (es : List E) : (evb C (.call fi es)).2 = ((opdOf (.call fi es) (evb C (.call fi es)).1).bnd fun p => (view p).bnd fun w => lift (truW w)) := (rfl)
theorem o_call (fi : FI) (es : List E) (z : M D) : opdOf (.call fi es) z = z.bnd fun d => M.ret (.tmp d) := (rfl)
theorem e_bf (C : Ctx) (f : BF) (es : List E) : (evb C (.bf f es)).1 = ((opds C es).bnd fun ps => (views ps).bnd fun ws => lift (bfW f ws)) := (rfl)
theorem t_bf (C : Ctx) (f : BF) (es : List E) : (evb C (.bf f es)).2 = ((opdOf (.bf f es) (evb C (.bf f es)).1).bnd fun p => (view p).bnd fun w => lift (truW w)) := (rfl)
theorem o_bf (f : BF) (es : List E) (z : M D) : opdOf (.bf f es) z = z.bnd fun d => M.ret (.tmp d) := (rfl)
theorem e_bm (C : Ctx) (m : BM) (a : E) (es : List E) : (evb C (.bm m a es)).1 = (((opdOf a (evb C a).1).bnd view).bnd fun w => (lift (strW w)).bnd fun z => (opds C es).bnd fun ps => (views ps).bnd fun ws => lift (bmW m z ws)) := (rfl)
theorem e_meth (C : Ctx) (A : Addr) (f : Str) (fi : FI) (a : E) (es : List E) : (evb C (.meth A f fi a es)).1 = ((opdOf a (evb C a).1).bnd fun p => (chkI A f p).bnd fun _ => (opds C es).bnd fun ps => callF fi (p :: ps)) := (rfl)
theorem o_meth (A : Addr) (f : Str) (fi : FI) (a : E) (es : List E) (z : M D) : opdOf (.meth A f fi a es) z = z.bnd fun d => M.ret (.tmp d) := (rfl)
theorem e_new (C : Ctx) (A : Addr) (fi : FI) (es : List E) : (evb C (.new A fi es)).1 = ((opds C es).bnd fun ps => newF A fi ps) := (rfl)
theorem o_comp (k : Nat) (js : List Nat) (tg : Tg) (ik : IK) (es : List E) (es' : List E) (a : E) (z : M D) : opdOf (.comp k js tg ik es es' a) z = z.bnd fun d => M.ret (.tmp d) := (rfl)
theorem ix_d (ks : List Key) (ds : List D) (v : V) : ixW2 (.nd (.dic ks) ds) (.sc v) = (keyD v).bind fun k => lookK k ks ds := (rfl)
theorem key_s (x : Str) : keyD (.str x) = some (.inr x) := (rfl)
theorem c_in (v : V) (ks : List Key) (ds : List D) : cmpW2 .In (.sc v) (.nd (.dic ks) ds) = ((keyD v).map fun k => (lookK k ks ds).isSome == true) := (rfl)
theorem e_v (C : Ctx) (i : Nat) : (evb C (.v i)).1 = T.valV i := (rfl)
theorem e_append (C : Ctx) (i : Nat) (es : List E) : (evb C (.mut .append i [] es)).1 = ((chkL i).bnd fun _ => (evs C es).bnd fun ds => appM i ds) := (rfl)
theorem opds0 (C : Ctx) : opds C [] = M.ret [] := (rfl)
theorem opds1 (C : Ctx) (e : E) (es : List E) : opds C (e :: es) = ((opdOf e (evb C e).1).bnd fun p => (opds C es).bnd fun ps => M.ret (p :: ps)) := (rfl)
theorem evs0 (C : Ctx) : evs C [] = M.ret [] := (rfl)
theorem evs1 (C : Ctx) (e : E) (es : List E) : evs C (e :: es) = ((evb C e).1.bnd fun p => (evs C es).bnd fun ps => M.ret (p :: ps)) := (rfl)
theorem tsts0 (C : Ctx) : tsts C [] = M.ret true := (rfl)
theorem x_asg (C : Ctx) (i : Nat) (e : E) : ex C (.asg i e) = ((evb C e).1.bnd fun d => (asgN C.lock i d).bnd fun _ => M.ret .nx) := (rfl)
theorem x_attr (C : Ctx) (i : Nat) (f : Str) (e : E) : ex C (.attr i f e) = ((evb C e).1.bnd fun d => (lateM i).bnd fun _ => (modS i (putD C.fok f d)).bnd fun _ => M.ret .nx) := (rfl)
theorem x_ex (C : Ctx) (e : E) : ex C (.ex e) = ((evb C e).1.bnd fun _ => M.ret .nx) := (rfl)
theorem x_ret (C : Ctx) (e : E) : ex C (.ret e) = ((retV C e).bnd fun d => M.ret (.rt d)) := (rfl)
theorem x_iff (C : Ctx) (c : E) (a b : List S) : ex C (.iff c a b) = ((evb C c).2.bnd fun t => if t then exs C a else exs C b) := (rfl)
theorem x_for_ (C : Ctx) (tg : Tg) (ik : IK) (ies : List E) (body : List S) : ex C (.for_ tg ik ies body) = ((opds C ies).bnd fun ps => (holdVs ps).bnd fun h => (lift (itW ik h.1)).bnd fun items => (forL (asgT (fun j => C.lock j || walked ies j) tg) (exs { C with lock := fun j => C.lock j || walked ies j } body) items).bnd fun f => (giveH h.2).bnd fun _ => M.ret f) := (rfl)
theorem ret_v (C : Ctx) (i : Nat) : retV C (.v i) = if C.lock i then T.valV i else movV i := (rfl)
theorem r_k (C : Ctx) (v : V) : retV C (.k v) = (evb C (.k v)).1 := (rfl)
theorem r_bin (C : Ctx) (op : Operator) (a : E) (b : E) : retV C (.bin op a b) = (evb C (.bin op a b)).1 := (rfl)
theorem r_and (C : Ctx) (a : E) (b : E) : retV C (.and a b) = (evb C (.and a b)).1 := (rfl)
theorem r_ix (C : Ctx) (a : E) (b : E) : retV C (.ix a b) = (evb C (.ix a b)).1 := (rfl)
theorem r_fld (C : Ctx) (a : E) (f : Str) : retV C (.fld a f) = (evb C (.fld a f)).1 := (rfl)
theorem r_tup (C : Ctx) (es : List E) : retV C (.tup es) = (evb C (.tup es)).1 := (rfl)
theorem r_call (C : Ctx) (fi : FI) (es : List E) : retV C (.call fi es) = (evb C (.call fi es)).1 := (rfl)
theorem r_bf (C : Ctx) (f : BF) (es : List E) : retV C (.bf f es) = (evb C (.bf f es)).1 := (rfl)
theorem r_bm (C : Ctx) (m : BM) (a : E) (es : List E) : retV C (.bm m a es) = (evb C (.bm m a es)).1 := (rfl)
theorem b_add (i j : Int) : binW .Add (.sc (.int i)) (.sc (.int j)) = some (.sc (.int (i + j))) := (rfl)
theorem b_sub (i j : Int) : binW .Sub (.sc (.int i)) (.sc (.int j)) = some (.sc (.int (i - j))) := (rfl)
theorem b_mul (i j : Int) (h : (-(2 ^ 64) < i ∧ i < 2 ^ 64) ∨ (-(2 ^ 64) < j ∧ j < 2 ^ 64)) : binW .Mult (.sc (.int i)) (.sc (.int j)) = some (.sc (.int (i * j))) := if_pos h
theorem b_div (i j : Int) (h : 0 < j ∧ j < 1073741824) : binW .FloorDiv (.sc (.int i)) (.sc (.int j)) = some (.sc (.int (i / j))) := if_pos h
theorem b_mod (i j : Int) (h : 0 < j) : binW .Mod (.sc (.int i)) (.sc (.int j)) = some (.sc (.int (i % j))) := if_pos h
theorem newL_eq (ds : List D) (h : ds.length ≤ sizeLine) : newL ds = some (.node .lst true ds) := if_pos h
theorem c_lt2 (i j : Int) : cmpW2 .Lt (.sc (.int i)) (.sc (.int j)) = some (decide (i < j)) := (rfl)
theorem c_gt2 (i j : Int) : cmpW2 .Gt (.sc (.int i)) (.sc (.int j)) = some (decide (j < i)) := (rfl)
theorem c_ge2 (i j : Int) : cmpW2 .GtE (.sc (.int i)) (.sc (.int j)) = some (decide (j ≤ i)) := (rfl)
theorem c_eqi2 (i j : Int) : cmpW2 .Eq (.sc (.int i)) (.sc (.int j)) = some (decide (V.int i = V.int j)) := (rfl)
theorem c_nei2 (i j : Int) : cmpW2 .NotEq (.sc (.int i)) (.sc (.int j)) = some (!decide (V.int i = V.int j)) := (rfl)
theorem c_eqs2 (i j : Str) : cmpW2 .Eq (.sc (.str i)) (.sc (.str j)) = some (decide (V.str i = V.str j)) := (rfl)
theorem boolA (c : M D) (δ : List D) : boolM c δ = bndR (fun d => lift (match d with | .sc (.bl b) => some b | _ => none)) (c δ) := bndA _ _ _
theorem and_t (b : M D) : andM b (.sc (.bl true)) = b := (rfl)
theorem not_b (b : Bool) : notW (.sc (.bl b)) = some (.sc (.bl (!b))) := (rfl)
theorem tru_b (b : Bool) : truW (.sc (.bl b)) = some b := (rfl)
theorem len_l (ds : List D) : bfW .len [.nd .lst ds] = some (.sc (.int ds.length)) := (rfl)
theorem len_f (ds : List D) : bfW .len [.nd .frl ds] = some (.sc (.int ds.length)) := (rfl)
theorem part_n (c : M Op) : partM (.k .non) c = M.ret none := (rfl)
theorem part_v (i : Nat) (c : M Op) : partM (.v i) c = ((c.bnd view).bnd fun w => lift (intP w)) := (rfl)
theorem part_c (f : FI) (a : List E) (c : M Op) : partM (.call f a) c = ((c.bnd view).bnd fun w => lift (intP w)) := (rfl)
theorem intp (i : Int) : intP (.sc (.int i)) = some (some i) := (rfl)
theorem asgt_n (lk : Nat → Bool) (i : Nat) (d : D) : asgT lk (.name i) d = asgN lk i d := (rfl)
theorem asgn (lk : Nat → Bool) (i : Nat) (d : D) (δ : List D) : asgN lk i d δ = if (decide (i < δ.length) && !lk i) = true then .ok ((), δ.set i d) else .stuck := (rfl)
theorem holds0 : holdVs [] = M.ret ([], []) := (rfl)
theorem holds1 (p : Op) (ps : List Op) : holdVs (p :: ps) = ((holdV p).bnd fun w => (holdVs ps).bnd fun ws => M.ret (w.1 :: ws.1, w.2.toList ++ ws.2)) := (rfl)
noncomputable def hdR (i : Nat) (δ : List D) : Option D → Rs ((W × Option (Nat × D)) × List D)
  | some (.sc v) => .ok ((.sc v, none), δ)
  | some (.node k false ds) => .ok ((.nd k ds, none), δ)
  | some (.node k true ds) => .ok ((.nd k (shrL ds), some (i, .node k true (shrL ds))), δ.set i .hole)
  | _ => .stuck
theorem hold_l (i : Nat) (δ : List D) : holdV (.late i) δ = hdR i δ δ[i]? := by
  unfold holdV hdR
  (try dsimp only)
  all_goals
    cases δ[i]? with
    | none => rfl
    | some d => cases d with
      | node k o ds => cases o <;> rfl
      | _ => rfl
theorem hdR_sc (i : Nat) (δ : List D) (v : V) : hdR i δ (some (.sc v)) = .ok ((.sc v, none), δ) := (rfl)
theorem hdR_t (i : Nat) (δ : List D) (k : Kd) (ds : List D) : hdR i δ (some (.node k true ds)) = .ok ((.nd k (shrL ds), some (i, .node k true (shrL ds))), δ.set i .hole) := (rfl)
theorem hold_s (v : V) : holdV (.tmp (.sc v)) = M.ret (.sc v, none) := (rfl)
theorem giveH0 : giveH [] = M.ret () := (rfl)
theorem giveH1 (i : Nat) (d : D) (r : List (Nat × D)) (δ : List D) : giveH ((i, d) :: r) δ = giveH r (δ.set i d) := (rfl)
theorem it_l (ds : List D) : itW .val [.nd .lst ds] = some ds := (rfl)
theorem it_1 (n : Int) (h : okR n = true) : itW .rng1 [.sc (.int n)] = some (rng 0 n) := if_pos h
theorem it_2 (a b : Int) (h : (okR a && okR b) = true) : itW .rng2 [.sc (.int a), .sc (.int b)] = some (rng a b) := if_pos h
noncomputable def mdR (i : Nat) (δ : List D) (f : Kd → List D → Option (D × Kd × List D)) : Option D → Rs (D × List D)
  | some (.node k true ds) => match f k ds with
    | some (r, k', ds') => .ok (r, δ.set i (.node k' true ds'))
    | none => .stuck
  | _ => .stuck
theorem modA (i : Nat) (f : Kd → List D → Option (D × Kd × List D)) (δ : List D) : modS i f δ = mdR i δ f δ[i]? := by
  unfold modS mdR
  cases δ[i]? with
  | none => rfl
  | some d => cases d with
    | node k o ds => cases o <;> rfl
    | _ => rfl
theorem md_app (i : Nat) (δ : List D) (d : D) (ds : List D) (h : ds.length < sizeLine) : mdR i δ (appD d) (some (.node .lst true ds)) = .ok (.sc .non, δ.set i (.node .lst true (ds ++ [d]))) := by
  show (match (if ds.length < sizeLine then some (D.sc .non, Kd.lst, ds ++ [d]) else none) with | some (r, k', ds') => Rs.ok (r, δ.set i (.node k' true ds')) | none => .stuck) = _
  rw [if_pos h]
theorem appM1 (i : Nat) (d : D) : appM i [d] = modS i (appD d) := (rfl)
noncomputable def ckR (δ : List D) : Option D → Rs (Unit × List D)
  | some (.node .lst _ _) => .ok ((), δ)
  | _ => .stuck
theorem chkA (i : Nat) (δ : List D) : chkL i δ = ckR δ δ[i]? := by
  unfold chkL ckR
  cases δ[i]? with
  | none => rfl
  | some d => cases d with
    | node k o ds => cases k <;> rfl
    | _ => rfl
theorem ckR_l (δ : List D) (o : Bool) (ds : List D) : ckR δ (some (.node .lst o ds)) = .ok ((), δ) := (rfl)
theorem ix_l (ds : List D) (i : Int) : ixW2 (.nd .lst ds) (.sc (.int i)) = (ixN' ds.length i).bind fun j => ds[j]? := (rfl)
theorem ix_f (ds : List D) (i : Int) : ixW2 (.nd .frl ds) (.sc (.int i)) = (ixN' ds.length i).bind fun j => ds[j]? := (rfl)
theorem ix_t (ds : List D) (i : Int) : ixW2 (.nd .tup ds) (.sc (.int i)) = (ixN' ds.length i).bind fun j => ds[j]? := (rfl)
theorem ixN_nat (n j : Nat) (h : j < n) : ixN' n (j : Int) = some j := by
  unfold ixN'
  rw [if_pos (Int.natCast_nonneg j), if_pos (by omega)]
  simp
end T
namespace T
open PySem PySem.Spec L2
section
variable {X : Cx} {a b c : Expr} {pos : Pos}
noncomputable def r2C (K : PySem.W.Frag) (f : W → W → Option Bool) : R2 := fun x y H Q => ∃ (Hs : Hp) (w1 w2 : W) (m1 m2 : Bud) (t : Bool), Same Hs H ∧ View K H Hs x w1 m1 ∧ View K H Hs y w2 m2 ∧ f w1 w2 = some t ∧ Q (.bl t) H
theorem cmp_ok2 (op : CmpOp) (hu : X.A.units + 64 < cLine) : OpR X (compareOp op) (r2C X.K (cmpW op)) := by
  intro pins s σ H x y v u Q I rx ry h
  obtain ⟨Hs, w1, w2, m1, m2, t, hs, v1, v2, e, q⟩ := h
  unfold cmpW at e
  split at e
  · rcases eqW_ok hs v1 v2 e with ⟨h3, rfl⟩ | ⟨d, f, h3, h4, h5, h6, rfl⟩
    · exact op_eq pins s σ H _ _ v u Q I rx ry ⟨h3, q⟩
    · exact op_eqD hu pins s σ H _ _ v u Q I rx ry ⟨d, f, h3, h4, h5, h6, q⟩
  · simp only [Option.map_eq_some_iff] at e
    obtain ⟨t, e, rfl⟩ := e
    rcases eqW_ok hs v1 v2 e with ⟨h3, rfl⟩ | ⟨d, f, h3, h4, h5, h6, rfl⟩
    · exact op_ne pins s σ H _ _ v u Q I rx ry ⟨h3, q⟩
    · exact op_neD hu pins s σ H _ _ v u Q I rx ry ⟨d, f, h3, h4, h5, h6, q⟩
  · rename_i i j _ _
    cases v1; cases v2
    cases op with
    | Lt => cases e; exact op_lt pins s σ H _ _ v u Q I rx ry ⟨_, _, rfl, rfl, q⟩
    | LtE => cases e; exact op_le pins s σ H _ _ v u Q I rx ry ⟨_, _, rfl, rfl, q⟩
    | Gt => cases e; exact op_gt pins s σ H _ _ v u Q I rx ry ⟨_, _, rfl, rfl, q⟩
    | GtE => cases e; exact op_ge pins s σ H _ _ v u Q I rx ry ⟨_, _, rfl, rfl, q⟩
    | _ => cases e
  · cases e
end
section
variable {K : PySem.W.Frag} {H Hs : Hp}
theorem RepL.rev : ∀ {vs : List V} {ds : List D} {m : Bud}, RepL K H Hs vs ds m → RepL K H Hs vs.reverse ds.reverse m
  | _, _, _, .nil m => .nil m
  | _, _, _, .cons (m1 := m1) (m2 := m2) x r l => by
    (rw [List.reverse_cons, List.reverse_cons])
    exact ((RepL.rev r).app (.cons x (.nil (fun _ => 0)) fun b => by simp; exact Nat.le_refl _)).mono fun b => by have := l b; (try dsimp only); omega
end
section
variable {X : Cx} {o e : Expr} {es : List Expr} {cpos apos : Pos} {i : Nat}
end
section
variable {X : Cx} {e a b : Expr} {es : List Expr} {pos : Pos} {K : PySem.W.Frag}
theorem step1 {c : M Op} {f : W → M D} {σ : St} {H : Hp} {Q : VK} (h : tM K ((c.bnd view).bnd f) σ H Q) : tP K c σ H fun x H1 => ∃ (Hs : Hp) (w : W) (m : Bud), View K H1 Hs x w m ∧ tM K (f w) σ H1 Q := by
  obtain ⟨δ, Hs, M, d, δ', g, s, e, q⟩ := h
  obtain ⟨w, δ2, e, e5⟩ := bnd_ok e
  obtain ⟨p, δ1, e1, e3⟩ := bnd_ok e
  refine ⟨δ, Hs, M, p, δ1, g, s, e1, fun x H2 Hs2 m1 M2 g2 st2 r1 s2 => ?_⟩
  obtain ⟨Hs3, M3, g3, st3, v1, s3⟩ := view_ok (B := m1) g2 s2 r1 e3
  have z := step2 (m1 := fun _ => 0) g (g2.re fun b => by simp) (st2.drop (fun b => by simp) g2.le) g3 st3
  have st : Stp H Hs M H2 Hs3 (fun b => m1 b + M3 b) := z.2.1.drop (fun b => by simp) z.1.le
  have G : Good H2 Hs3 (fun b => (fun _ => 0) b + M3 b) := g3.re fun b => by simp
  have st' : Stp H Hs M H2 Hs3 (fun b => (fun _ => 0) b + M3 b) := st.drop (fun b => by simp) g3.le
  refine ⟨Hs3, w, m1, v1, δ2, Hs3, M3, d, δ', g3.re, s3, e5, fun v H' Hs' m M' g' sx r s' => q v H' Hs' m M' g' ?_ r s'⟩
  have z2 := step2 (m1 := fun _ => 0) g G st' g' sx
  exact z2.2.1.drop (fun b => by simp) z2.1.le
noncomputable def PF (X : Cx) (es : List Expr) (f : Str → M D) : Prop := ∃ ts, PEs X es ts ∧ ∀ acc σ H Q, tM X.K (f acc) σ H Q → tJoin ts acc σ H Q
theorem ok_f0 : PF X [] fun acc => M.ret (.sc (.str acc)) := ⟨[], .nil, fun acc σ H Q ⟨δ, Hs, M, d, δ', g, s, e, q⟩ => by
  have := ret_ok e
  cases this
  exact q _ H Hs (fun _ => 0) M (good0 g) (stp0 H Hs M) (.sc _ _) s⟩
theorem fmt_lift {α : Type} {o : Option α} {f : α → M D} {σ : St} {H : Hp} {Q : VK} (h : tM K ((lift o).bnd f) σ H Q) : ∃ a, o = some a ∧ tM K (f a) σ H Q := by
  obtain ⟨δ, Hs, M, d, δ', g, s, e, q⟩ := h
  obtain ⟨a, δ1, e1, e2⟩ := bnd_ok e
  obtain ⟨e3, rfl⟩ := lift_ok e1
  exact ⟨a, e3, δ1, Hs, M, d, δ', g, s, e2, q⟩
theorem fmtW_ok {H Hs : Hp} {x : V} {w : W} {m : Bud} {acc z : Str} (v : View K H Hs x w m) (h : fmtW acc w = some z) : ∃ y, fmtV x = some y ∧ y.length ≤ sizeLine ∧ (acc ++ y).length ≤ sizeLine ∧ z = acc ++ y := by
  cases v with
  | sc v m =>
    have h : ((fmtD x).bind fun z => if z.length ≤ sizeLine ∧ (acc ++ z).length ≤ sizeLine then some (acc ++ z) else none) = some z := h
    simp only [Option.bind_eq_some_iff] at h
    obtain ⟨y, h1, h2⟩ := h
    split at h2
    · rename_i hl
      cases h2
      exact ⟨y, h1, hl.1, hl.2, rfl⟩
    · cases h2
  | nd n r => cases h
theorem ok_fe {ca : M Op} {f : Str → M D} (ha : PE X e (tP X.K ca)) (hr : PF X es f) : PF X (.FormattedValue e (-1) none pos :: es) fun acc => (ca.bnd view).bnd fun w => (lift (fmtW acc w)).bnd f := by
  obtain ⟨ts, h1, h2⟩ := hr
  refine ⟨_ :: ts, .cons (pe_fmt ha) h1, fun acc σ H Q h => ?_⟩
  obtain ⟨δ, Hs, M, p, δ1, g, s, e1, q⟩ := step1 h
  refine ⟨δ, Hs, M, p, δ1, g, s, e1, fun x H1 Hs1 m M1 g1 st1 r1 s1 => ?_⟩
  obtain ⟨Hs2, w, m2, v, h3⟩ := q x H1 Hs1 m M1 g1 st1 r1 s1
  obtain ⟨z, h4, h5⟩ := fmt_lift h3
  obtain ⟨y, a1, a2, a3, rfl⟩ := fmtW_ok v h4
  exact ⟨y, a1, a2, y, rfl, a3, h2 _ _ _ _ h5⟩
theorem ok_fk {z : Str} {f : Str → M D} {j pos'} (hr : PF X es f) : PF X (.Constant (.str z) j pos' :: es) fun acc => (((M.ret (D.sc (.str z))).bnd fun d => M.ret (Op.tmp d)).bnd view).bnd fun w => (lift (fmtW acc w)).bnd f := by
  obtain ⟨ts, h1, h2⟩ := hr
  refine ⟨_ :: ts, .cons pe_str h1, fun acc σ H Q h => ?_⟩
  have h' : tM X.K ((lift (fmtW acc (.sc (.str z)))).bnd f) σ H Q := h
  obtain ⟨y, h4, h5⟩ := fmt_lift h'
  obtain ⟨y, a1, a2, a3, rfl⟩ := fmtW_ok (K := X.K) (H := H) (Hs := H) (View.sc (V.str z) (fun _ => 0)) h4
  cases a1
  exact ⟨_, rfl, a3, h2 _ _ _ _ h5⟩
theorem ok_fs {f : Str → M D} (h : PF X (a :: b :: es) f) : PE X (.JoinedStr (a :: b :: es) pos) (tM X.K (f Str.empty)) := by
  obtain ⟨ts, h1, h2⟩ := h
  exact PE.imp (pe_fstr h1) fun σ H Q h => h2 _ _ _ _ h
end
end T
namespace T
open PySem PySem.Spec L2
theorem keyD_ok {v : V} {k : Key} (h : keyD v = some k) : v = kV k := by
  unfold keyD at h
  split at h <;> cases h <;> rfl
theorem look_zip {k : Key} : ∀ {ks : List Key} {vs : List V}, L2.valV (ks.zip vs) k = lookK k ks vs
  | [], _ => by simp [lookK, L2.valV_nil]
  | _ :: _, [] => by simp [lookK, L2.valV_nil]
  | j :: ks, v :: vs => by
    rw [List.zip_cons_cons]
    unfold lookK
    by_cases e : j = k
    · rw [if_pos e, L2.valV_pos (p := (j, v)) e]
    · rw [if_neg e, L2.valV_neg (p := (j, v)) e]
      exact look_zip
section
variable {K : PySem.W.Frag} {H Hs : Hp}
theorem RepL.look {k : Key} {d : D} : ∀ {ks : List Key} {vs : List V} {ds : List D} {m : Bud}, RepL K H Hs vs ds m → lookK k ks ds = some d → ∃ (v : V) (m1 : Bud), lookK k ks vs = some v ∧ Rep K H Hs v d m1 ∧ ∀ b, m1 b ≤ m b
  | [], _, _, _, .nil _, e => by cases e
  | _ :: _, _, _, _, .nil _, e => by cases e
  | [], _, _, _, .cons x r l, e => by cases e
  | j :: ks, _, _, _, .cons (m1 := m1) (m2 := m2) x r l, e => by
    unfold lookK at e ⊢
    by_cases h : j = k
    · rw [if_pos h] at e ⊢
      cases e
      exact ⟨_, m1, rfl, x, fun b => by have := l b; omega⟩
    · rw [if_neg h] at e ⊢
      obtain ⟨v, n1, h1, h2, h3⟩ := RepL.look r e
      exact ⟨v, n1, h1, h2, fun b => by have := l b; have := h3 b; omega⟩
theorem RepL.lookS {k : Key} : ∀ {ks : List Key} {vs : List V} {ds : List D} {m : Bud}, RepL K H Hs vs ds m → (lookK k ks vs).isSome = (lookK k ks ds).isSome
  | [], _, _, _, .nil _ => rfl
  | _ :: _, _, _, _, .nil _ => rfl
  | [], _, _, _, .cons x r l => rfl
  | j :: ks, _, _, _, .cons x r l => by
    unfold lookK
    by_cases h : j = k
    · rw [if_pos h, if_pos h]; rfl
    · rw [if_neg h, if_neg h]; exact RepL.lookS r
theorem put_cons {p : Key × V} {r : List (Key × V)} {k : Key} {v : V} (e : ¬ p.1 = k) : putK (p :: r) k v = p :: putK r k v := by
  unfold putK
  rw [List.any_cons, decide_eq_false e, Bool.false_or]
  split
  · rw [List.map_cons, if_neg e]
  · rfl
theorem put_keep {k : Key} {v : V} : ∀ {ks : List Key} {vs : List V}, k ∉ ks → (ks.zip vs).map (fun kv => if kv.1 = k then (kv.1, v) else kv) = ks.zip vs
  | [], _, _ => rfl
  | _ :: _, [], _ => rfl
  | j :: ks, x :: vs, h => by
    rw [List.zip_cons_cons, List.map_cons, if_neg (fun e : j = k => h (e ▸ List.mem_cons_self)), put_keep fun q => h (List.mem_cons_of_mem _ q)]
theorem RepL.stor {k : Key} {d : D} {v : V} {n : Bud} (x : Rep K H Hs v d n) : ∀ {ks ks' : List Key} {vs : List V} {ds ds' : List D} {m : Bud}, ks.length = vs.length → RepL K H Hs vs ds m → storK k d ks ds = some (ks', ds') →
    ∃ vs', ks'.length = vs'.length ∧ RepL K H Hs vs' ds' (fun b => m b + n b) ∧ putK (ks.zip vs) k v = ks'.zip vs'
  | [], _, _, _, _, _, hl, .nil m, e => by
    cases e
    exact ⟨[v], rfl, .cons x (.nil m) fun b => by omega, rfl⟩
  | _ :: _, _, _, _, _, _, hl, .nil m, e => by cases e
  | [], _, _, _, _, _, hl, .cons y r l, e => by cases e
  | j :: ks, ks', y0 :: vs, x0 :: ds, ds', m, hl, .cons (m1 := m1) (m2 := m2) y r l, e => by
    have hl : ks.length = vs.length := Nat.succ.inj hl
    unfold storK at e
    by_cases h : j = k
    · rw [if_pos h] at e
      split at e
      · cases e
      · rename_i hk
        have hk : k ∉ ks := fun hm => hk (List.any_eq_true.mpr ⟨k, hm, decide_eq_true rfl⟩)
        cases e
        refine ⟨v :: vs, by simp [hl], .cons x r fun b => by have := l b; (try dsimp only); omega, ?_⟩
        rw [List.zip_cons_cons, List.zip_cons_cons]
        unfold putK
        rw [List.any_cons, decide_eq_true (show (j, y0).1 = k from h), Bool.true_or, if_pos rfl, List.map_cons, if_pos h, put_keep hk]
    · rw [if_neg h] at e
      simp only [Option.map_eq_some_iff] at e
      obtain ⟨⟨ks2, ds2⟩, e2, e3⟩ := e
      cases e3
      obtain ⟨vs2, h1, h2, h3⟩ := RepL.stor x hl r e2
      refine ⟨y0 :: vs2, by simp [h1], .cons y h2 fun b => by have := l b; (try dsimp only); omega, ?_⟩
      rw [List.zip_cons_cons, put_cons (show ¬ (j, y0).1 = k from h), h3]
      rfl
end
section
variable {X : Cx} {a b o e k : Expr} {pos pos' : Pos} {i : Nat} {lk : Nat → Bool}
theorem tp_mono {K : PySem.W.Frag} {c : M Op} {σ : St} {H : Hp} {R R' : VK} (h : tP K c σ H R) (w : ∀ v H', R v H' → R' v H') : tP K c σ H R' := by
  obtain ⟨δ, Hs, M, a, δ', g, s, e, q⟩ := h
  exact ⟨δ, Hs, M, a, δ', g, s, e, fun v H' Hs' m M' g' st r s' => w v H' (q v H' Hs' m M' g' st r s')⟩
theorem bnd_run {α β : Type} {c : M α} {f : α → M β} {δ δ' : List D} {x : α} (h : c δ = .ok (x, δ')) : c.bnd f δ = f x δ' := by
  unfold M.bnd
  rw [h]
theorem PE.or {t t' : TE} (h : PE X e t) (h' : PE X e t') : PE X e fun σ H Q => t σ H Q ∨ t' σ H Q := fun pins s σ H Q I q => q.elim (h pins s σ H Q I) (h' pins s σ H Q I)
theorem ok_ix2 {ca cb : M Op} (hu : X.A.units + 64 < cLine) (ha : PE X a (tP X.K ca)) (hb : PE X b (tP X.K cb)) (hs : PlainIx b := by intro _ _; rfl) :
    PE X (.Subscript a b pos) (tM X.K (ca.bnd fun p => cb.bnd fun q => (view p).bnd fun x => (view q).bnd fun y => lift (ixW2 x y))) :=
  PE.imp (PE.or (pe_ix ix_ok ha hb hs) (pe_dget (by omega) ha hb hs)) fun σ H Q h => by
    obtain ⟨δ, Hs, M, d, δ', g, s, e, q⟩ := h
    obtain ⟨p, δ1, e1, e⟩ := bnd_ok e
    obtain ⟨p2, δ2, e2, e⟩ := bnd_ok e
    obtain ⟨w1, δ3, e3, e⟩ := bnd_ok e
    obtain ⟨w2, δ4, e4, e⟩ := bnd_ok e
    obtain ⟨e5, rfl⟩ := lift_ok e
    have back : ∀ f : W → W → Option D, f w1 w2 = some d → tM X.K (ca.bnd fun p => cb.bnd fun q => (view p).bnd fun x => (view q).bnd fun y => lift (f x y)) σ H Q := fun f hf => by
      refine ⟨δ, Hs, M, d, _, g, s, ?_, q⟩
      rw [bnd_run e1, bnd_run e2, bnd_run e3, bnd_run e4, hf]
      rfl
    unfold ixW2 at e5
    split at e5
    · right
      refine tp_mono (op2 (back ixD e5)) fun x H1 h1 => tp_mono h1 fun y H2 h2 => ?_
      obtain ⟨Hs2, w1', w2', m1, m2, d2, hs2, l1, l2, v1, v2, e6, oo⟩ := h2
      unfold ixD at e6
      split at e6
      · simp only [Option.bind_eq_some_iff] at e6
        obtain ⟨kk, hk, hl⟩ := e6
        cases v1 with
        | nd n r =>
          cases v2
          obtain ⟨z, n1, h3, h4, h5⟩ := r.look hl
          have hy := keyD_ok hk
          subst hy
          have g := DGet.k (k := kk) n.2
          rw [look_zip, h3] at g
          exact ⟨_, z, rfl, g, oo.part l1 l2 (fun b => by have := h5 b; omega) h4⟩
      · cases e6
    · exact .inl (op2 (back ixW e5))
theorem in_ok (p : Bool) (op : CmpOp) (hop : op = if p then .In else .NotIn) (hu : X.A.units + 64 < cLine) : OpR X (compareOp op) (r2C X.K (inD p)) := by
  intro pins s σ H x y v u Q I rx ry h
  obtain ⟨Hs, w1, w2, m1, m2, t, hs, v1, v2, e, q⟩ := h
  unfold inD at e
  split at e
  · simp only [Option.map_eq_some_iff] at e
    obtain ⟨kk, hk, rfl⟩ := e
    cases v2 with
    | @nd a _ vs _ _ n r =>
      cases v1
      have hy := keyD_ok hk
      subst hy
      obtain rfl : u = Value.ref a := ry
      have g := DGet.k (k := kk) n.2
      rw [look_zip] at g
      have es := fun ks => r.lookS (k := kk) (ks := ks)
      cases p with
      | true =>
        subst hop
        refine d_in (by omega) I g rx fun s' I' => ⟨.bl _, H, I', rfl, ?_⟩
        rw [es]
        simpa using q
      | false =>
        subst hop
        refine d_notIn (by omega) I g rx fun s' I' => ⟨.bl _, H, I', rfl, ?_⟩
        rw [es]
        have z : ∀ c : Bool, (c == false) = !c := by decide
        rw [z] at q
        exact q
  · cases e
theorem cmp_ok3 (op : CmpOp) (hu : X.A.units + 64 < cLine) : OpR X (compareOp op) (r2C X.K (cmpW2 op)) := by
  by_cases h1 : op = .In
  · subst h1
    exact in_ok true .In rfl hu
  · by_cases h2 : op = .NotIn
    · subst h2
      exact in_ok false .NotIn rfl hu
    · have e : cmpW2 op = cmpW op := by
        funext x y
        unfold cmpW2
        split
        · exact absurd rfl h1
        · exact absurd rfl h2
        · rfl
      rw [e]
      exact cmp_ok2 op hu
theorem op2C {K : PySem.W.Frag} {ca cb : M Op} {f : W → W → Option Bool} {σ : St} {H : Hp} {Q : VK} (h : tM K (ca.bnd fun p => cb.bnd fun q => (view p).bnd fun x => (view q).bnd fun y => lift ((f x y).map fun t => .sc (.bl t))) σ H Q) : tOp (r2C K f) (tP K ca) (tP K cb) σ H Q :=
  tp_mono (op2 (f := fun x y => (f x y).map fun t => .sc (.bl t)) h) fun x H1 h1 => tp_mono h1 fun y H2 h2 => by
    obtain ⟨Hs2, w1, w2, m1, m2, d2, hs2, l1, l2, v1, v2, e, oo⟩ := h2
    simp only [Option.map_eq_some_iff] at e
    obtain ⟨t, e, rfl⟩ := e
    exact ⟨Hs2, w1, w2, m1, m2, t, hs2, v1, v2, e, oo.sc⟩
theorem ok_cmp2 {op : CmpOp} {ca cb : M Op} (hu : X.A.units + 64 < cLine) (ha : PE X a (tP X.K ca)) (hb : PE X b (tP X.K cb)) (hm : behindInMarks op b = false := by first | exact nomark _ | with_unfolding_all rfl) :
    PE X (.Compare a [op] [b] pos) (tM X.K (ca.bnd fun p => cb.bnd fun q => (view p).bnd fun x => (view q).bnd fun y => lift ((cmpW2 op x y).map fun t => .sc (.bl t)))) := PE.imp (pe_cmpR (cmp_ok3 op hu) ha hb hm) fun σ H Q h => op2C h
theorem ok_cmp2T {op : CmpOp} {ca cb : M Op} (hu : X.A.units + 64 < cLine) (ha : PE X a (tP X.K ca)) (hb : PE X b (tP X.K cb)) (hm : behindInMarks op b = false := by first | exact nomark _ | with_unfolding_all rfl) :
    PT X (.Compare a [op] [b] pos) (tT X.K (boolM (ca.bnd fun p => cb.bnd fun q => (view p).bnd fun x => (view q).bnd fun y => lift ((cmpW2 op x y).map fun t => .sc (.bl t))))) := PT.imp (pt_cmpR (cmp_ok3 op hu) ha hb hm) fun σ H Q h => op2C (test_of h)
noncomputable def rSet2 : V → V → V → Hp → (Hp → Prop) → Prop := fun o i v H Q => rSetL o i v H Q ∨ ∃ a H', o = .ref a ∧ DPut H a i v H' ∧ Q H'
theorem set_2 (hu : X.A.units + 64 < cLine) : PSet X rSet2 := by
  intro pins s σ H o i v ov iv u Q I ro ri rv h
  rcases h with h | ⟨a, H', rfl, g, q⟩
  · exact set_list pins s σ H o i v ov iv u Q I ro ri rv h
  · obtain rfl : ov = Value.ref a := ro
    exact d_setItem (by omega) I g ri rv fun s' I' => ⟨H', I', q⟩
theorem ok_sub2 {c : M D} {ck : M Op} (hu : X.A.units + 64 < cLine) (ho : PE X o (tVar i)) (hk : PE X k (tP X.K ck)) (he : PE X e (tM X.K c))
    (ha : ∀ v, assign (.Subscript o k pos') X.env v = (do
      let ov ← holding [v] (eval o X.env)
      let iv ← holding [v, ov] (eval k X.env)
      standAt pos'
      holding [v, ov, iv] (setItem ov iv v)
      release [v, ov, iv] []) := by intro _; rfl)
    (hs : swapsWithSole [.Subscript o k pos'] e pos.line X.env = pure false := by rfl) (hw : swappedStores [.Subscript o k pos'] e X.env = pure none := by rfl)
    (h1 : (assignEach [.Subscript o k pos'] X.env).map (·.2) = [assign (.Subscript o k pos') X.env] := by rfl) :
    PS X (.Assign [.Subscript o k pos'] e pos) (tS X.K lk (c.bnd fun d => (lateM i).bnd fun _ => (ck.bnd view).bnd fun w => (modS i (setD2 w d)).bnd fun _ => M.ret .nx)) :=
  PS.imp (ps_asg he (pg_sub ho hk (set_2 hu) ha) hs hw h1) fun E σ H h => by
  obtain ⟨δ, Hs, M, f, δ', g, s, ea, q⟩ := h
  obtain ⟨d, δ1, e1, eb⟩ := bnd_ok ea
  obtain ⟨p0, δ2, e2, ec⟩ := bnd_ok eb
  obtain ⟨w, δ3, e3, ed⟩ := bnd_ok ec
  obtain ⟨p, δ4, e4, e5⟩ := bnd_ok e3
  obtain ⟨r0, δ5, e6, e7⟩ := bnd_ok ed
  have := ret_ok e7
  cases this
  obtain ⟨kk, ds0, k', ds', hi, hf, rfl⟩ := modS_ok e6
  refine ⟨δ, Hs, M, d, δ1, g, s, e1, fun v H1 Hs1 m1 M1 g1 st1 r1 s1 => ?_⟩
  obtain ⟨rfl, vo, ho⟩ := late_ok s1 e2
  refine ⟨vo, ho, δ2, Hs1, M1, p, δ4, g1.re, s1, e4, fun y H2 Hs2 m2 M2 g2 st2 r2 s2 => ?_⟩
  obtain ⟨G2, S2, k2⟩ := step2 g g1 st1 g2 st2
  have r1' := r1.frame st2.grow k2
  obtain ⟨Hs3, M3, g3, st3, v3, s3⟩ := view_ok (B := fun b => m1 b + m2 b) (G2.re fun b => by (try dsimp only); omega) s2 r2 e5
  have r1'' := r1'.frame (H' := H2) st3.grow fun _ _ _ => rfl
  obtain ⟨p1, us, m', n2, e8, n, rl, le, fin⟩ := modL g3 s3 hi
  rw [ho] at e8
  cases e8
  have S2' : Stp H Hs M H2 Hs2 (fun b => m1 b + m2 b + M2 b) := S2.drop (fun b => by omega) G2.le
  have G2' : Good H2 Hs2 (fun b => m1 b + m2 b + M2 b) := G2.re fun b => by omega
  have z3 := step2 (m1 := fun _ => 0) g (G2'.re fun b => by simp) (S2'.drop (fun b => by simp) G2'.le) g3 st3
  have S3 : Stp H Hs M H2 Hs3 (fun b => m1 b + m2 b + M3 b) := z3.2.1.drop (fun b => by simp) z3.1.le
  have last : ∀ (ob : HO) (us' : List V) (n' : Bud), (∀ b, n' b ≤ m' b + m1 b) → NodeO (upd H2 p1 ob) p1 us' k' → RepL X.K H2 Hs3 us' ds' n' → E.nx σ (upd H2 p1 ob) := fun ob us' n' hn no rn => by
    obtain ⟨G, S, R, SS⟩ := fin ob k' us' ds' n' (fun _ => 0) .non (.sc .non) (fun b => by have := hn b; (try dsimp only); omega) no rn (.sc _ _)
    have z := step2 (m1 := fun _ => 0) g (g3.re fun b => by simp) (S3.drop (fun b => by simp) g3.le) G S
    exact q σ _ Hs3 _ (Keeps.refl _ _) (G.re fun b => by (try dsimp only); omega) ((z.2.1.drop (fun b => by simp) z.1.le).drop (fun b => by (try dsimp only); omega) G.le) SS
  unfold setD2 at hf
  split at hf
  · split at hf
    · split at hf
      · rename_i hz
        simp only [Option.bind_eq_some_iff, Option.map_eq_some_iff] at hf
        obtain ⟨kk, hk, rr, hst, hf⟩ := hf
        cases hf
        cases v3
        have hy := keyD_ok hk
        subst hy
        obtain ⟨us', h1, h2, h3⟩ := RepL.stor r1'' n.1 rl hst
        right
        have hl := rl.len
        have hp := DPut.k (k := kk) (v := v) n.2 (by rw [List.length_zip, n.1]; omega)
        rw [h3] at hp
        exact ⟨p1, _, rfl, hp, last _ us' _ (fun b => Nat.le_refl _) ⟨h1, upd_same⟩ h2⟩
      · cases hf
    · cases hf
  · unfold setD at hf
    split at hf
    · split at hf
      · rename_i nn
        simp only [Option.map_eq_some_iff] at hf
        obtain ⟨jj, hj, hf⟩ := hf
        cases hf
        cases v3
        have hl := rl.len
        have hjj : ixN us.length nn = some jj := by rw [hl]; exact hj
        have hlt : jj < ds0.length := by
          unfold ixN' at hj
          split at hj
          · split at hj
            · cases hj; omega
            · cases hj
          · split at hj
            · cases hj; omega
            · cases hj
        exact .inl ⟨p1, us, nn, jj, rfl, rfl, n, hjj, last (.lst (us.set jj v)) (us.set jj v) _ (fun b => Nat.le_refl _) upd_same (rl.set (List.getElem?_eq_getElem hlt) r1'')⟩
      · cases hf
    · cases hf
end
end T
namespace T
open PySem PySem.Spec L2
theorem ok_gi {X : Cx} {x : Str} {i : Int} {p : Pos} (hg : Gl X x) (h : ∃ t, X.mg x = some (.int i t)) (hd : (x == ("__debug__" : Str)) = false) : PE X (.Name x p) (tM X.K (M.ret (.sc (.int i)))) := by
  obtain ⟨t, h⟩ := h
  exact ok_k (pe_glob hg h ⟨t, rfl⟩ hd)
section
variable {X : Cx} {es : List Expr} {k1 : Nat} {l ke : Expr} {ca cb : M Op} {p pos q kp : Pos} {c : Int}
end
end T
namespace T
open PySem PySem.Spec L2 PySem.W
noncomputable abbrev dI (xs : List Int) : List D := xs.map fun i => D.sc (.int i)
theorem dI_cons (x : Int) (xs : List Int) : dI (x :: xs) = .sc (.int x) :: dI xs := (rfl)
theorem dI_app (xs ys : List Int) : dI (xs ++ ys) = dI xs ++ dI ys := List.map_append
theorem dI_len (xs : List Int) : (dI xs).length = xs.length := List.length_map _
theorem shr_ints (xs : List Int) : shrL (dI xs) = dI xs := by
  induction xs with
  | nil => rfl
  | cons x xs ih => simp only [List.map_cons, shrL, shr] at ih ⊢; rw [ih]
theorem isi_b (w : W) : bfW (.isi .bool) [w] = (tyW .bool w).map fun b => .sc (.bl b) := (rfl)
noncomputable def rngI : Int → Nat → List Int
  | _, 0 => []
  | a, n + 1 => a :: rngI (a + 1) n
theorem rng_map (a : Int) : ∀ (n : Nat) (f : Nat → Int), (∀ k, f k = a + k) → (List.range n).map (fun k => D.sc (.int (f k))) = dI (rngI a n) := by
  intro n
  induction n generalizing a with
  | zero => intro f _; rfl
  | succ n ih =>
    intro f hf
    (rw [List.range_succ_eq_map, List.map_cons, List.map_map])
    show _ = D.sc (.int a) :: dI (rngI (a + 1) n)
    have h0 : f 0 = a := by rw [hf]; simp
    rw [h0]
    congr 1
    exact ih (a + 1) (fun k => f (k + 1)) fun k => by rw [hf]; omega
theorem rng_ints (a b : Int) : rng a b = dI (rngI a (b - a).toNat) := rng_map a _ (fun k => a + k) fun k => rfl
theorem it_r1 (n : Int) (h : -(2 ^ 62) ≤ n ∧ n < 2 ^ 62) : itW .rng1 [.sc (.int n)] = some (dI (rngI 0 n.toNat)) := by
  rw [it_1 n (by simp only [okR, Bool.and_eq_true, decide_eq_true_eq]; exact h), rng_ints]
  have : n - 0 = n := by omega
  rw [this]
theorem it_r2 (a b : Int) (h : -(2 ^ 62) ≤ a ∧ a < 2 ^ 62 ∧ -(2 ^ 62) ≤ b ∧ b < 2 ^ 62) : itW .rng2 [.sc (.int a), .sc (.int b)] = some (dI (rngI a (b - a).toNat)) := by
  rw [it_2 a b (by simp only [okR, Bool.and_eq_true, decide_eq_true_eq]; exact ⟨⟨h.1, h.2.1⟩, h.2.2⟩), rng_ints]
theorem ixI (xs : List Int) (k : Int) (h0 : 0 ≤ k) (h : k < xs.length) : ((ixN' (dI xs).length k).bind fun j => (dI xs)[j]?) = some (.sc (.int (xs.getD k.toNat 0))) := by
  rw [List.length_map]
  unfold ixN'
  rw [if_pos h0, if_pos h]
  (have hk : k.toNat < xs.length := by omega)
  show (dI xs)[k.toNat]? = _
  rw [List.getElem?_map, List.getElem?_eq_getElem hk, List.getD_eq_getElem?_getD, List.getElem?_eq_getElem hk]
  rfl
noncomputable def notV : E → Bool
  | .v _ => false
  | _ => true
theorem lt_opd {e : E} {c : M D} {lk : Nat → Bool} (h : notV e = true) : LatesIn (opdOf e c) lk := by
  rw [opd_tmp fun j z => by subst z; cases h]
  exact lt_tmp
section
variable {asg : D → M Unit} {cond : M Bool} {elt : M D} {d : D} {ds acc δ δ' δ1 caps : List D} {k : Nat} {js : List Nat} {loop : M (List D)}
theorem compL1 : compL asg cond elt (d :: ds) acc δ = ((asg d).bnd fun _ => cond.bnd fun b => if b then elt.bnd fun x => compL asg cond elt ds (acc ++ [x]) else compL asg cond elt ds acc) δ := (rfl)
noncomputable def compE (fok : Addr → Str → Bool) (fuel k : Nat) (tg : Tg) (cond : List E) (elt : E) (items acc : List D) : M (List D) := compL (asgT (fun i => decide (k ≤ i)) tg) (tsts ⟨fun i => decide (k ≤ i), fok, fuel⟩ cond) (evb ⟨fun i => decide (k ≤ i), fok, fuel⟩ elt).1 items acc
theorem e_compE (C : Ctx) (k : Nat) (js : List Nat) (tg : Tg) (ik : IK) (es es' : List E) (a : E) : (evb C (.comp k js tg ik es es' a)).1 = ((opds C es).bnd fun ps => (holdVs ps).bnd fun h => (lift (itW ik h.1)).bnd fun items => (compM k js (compE C.fok C.fuel k tg es' a items [])).bnd fun d => (giveH h.2).bnd fun _ => M.ret d) := (rfl)
theorem compM_ok (h1 : capTake js δ = .ok (caps, δ1)) (h2 : loop (List.replicate k .hole ++ caps) = .ok (acc, δ')) (h3 : acc.length ≤ sizeLine) : compM k js loop δ = ((capGive js (δ'.drop k)).bnd fun _ => M.ret (.node .lst true acc)) δ1 := by
  unfold compM
  rw [bnd_eq h1, h2]
  show ((capGive js (δ'.drop k)).bnd fun _ => lift (newL acc)) δ1 = _
  rw [newL_eq _ h3]
  rfl
end
end T
namespace T
open PySem PySem.Spec L2
section
variable {X : Cx} {a : Expr} {pos pos' : Pos} {ca : M Op}
end
end T
namespace T
open PySem PySem.Spec L2
noncomputable def Stays (K : PySem.W.Frag) (B : Bud) (a : Addr) (vs : List V) (H Hs : Hp) : Prop := SqL K Hs a vs ∨ (H a = some (.lst vs) ∧ B a ≥ 1)
theorem Stays.sq {K : PySem.W.Frag} {B : Bud} {a : Addr} {vs : List V} {H Hs : Hp} (g : Same Hs H) (h : Stays K B a vs H Hs) : SqL K H a vs := h.elim (fun h => g.seq h) fun h => .inl (.inl h.1)
theorem Stays.frame {K : PySem.W.Frag} {B : Bud} {a : Addr} {vs : List V} {H Hs H' Hs' : Hp} (h : Stays K B a vs H Hs) (g : Same Hs Hs') (k : ∀ b, B b ≥ 1 → H b ≠ none → H' b = H b) : Stays K B a vs H' Hs' := by
  rcases h with h | ⟨h, hb⟩
  · exact .inl (g.seq h)
  · exact .inr ⟨(k a hb (by rw [h]; simp)).trans h, hb⟩
theorem Held.app {K : PySem.W.Frag} {H Hs : Hp} {σ : St} : ∀ {l r : List (Nat × D)} {m n : Bud}, Held K H Hs σ l m → Held K H Hs σ r n → Held K H Hs σ (l ++ r) (fun b => m b + n b)
  | [], r, m, n, _, h => Held.more h fun b => by omega
  | (i, d) :: l, r, m, n, ⟨v, m1, m2, e, x, y, q⟩, h => ⟨v, m1, fun b => m2 b + n b, e, x, Held.app y h, fun b => by have := q b; (try dsimp only); omega⟩
where
  Held.more {K : PySem.W.Frag} {H Hs : Hp} {σ : St} : ∀ {l : List (Nat × D)} {m n : Bud}, Held K H Hs σ l m → (∀ b, m b ≤ n b) → Held K H Hs σ l n
    | [], _, _, h, _ => h
    | (i, d) :: l, m, n, ⟨v, m1, m2, e, x, y, q⟩, k => ⟨v, m1, m2, e, x, y, fun b => Nat.le_trans (q b) (k b)⟩
section
variable {X : Cx} {es : List Expr} {k1 : Nat} {l r : Expr} {ca cb : M Op} {p pos q : Pos}
end
end T
namespace T
open PySem PySem.Spec L2
section
variable {X : Cx} {e k v : Expr} {pos : Pos}
theorem ok_disp1 {key : Key} {c : M D} (hk : PE X k (tC (kV key))) (hv : PE X v (tM X.K c)) : PE X (.Dict [some k] [v] pos) (tM X.K (c.bnd fun d => M.ret (.node (.dic [key]) true [d]))) := PE.imp (pe_disp (pps_cons hk hv pps_nil) rfl rfl (by simp) (by simp)) fun σ H Q h => by
  obtain ⟨δ, Hs, M, d, δ', g, s, e, q⟩ := h
  obtain ⟨d0, δ1, e1, e2⟩ := bnd_ok e
  have := ret_ok e2
  cases this
  intro p hp
  have hs := upd_same_new (o := .dK []) hp
  have Mp : M p = 0 := by
    have := g.le p
    by_cases q : M p = 1
    · exact absurd hp (g.has p q)
    · omega
  have ne : ∀ b, H b ≠ none → b ≠ p := fun b h e => by subst e; exact h hp
  have Hsp : Hs p = none := by
    cases q : Hs p with
    | none => rfl
    | some o => rw [g.sub p o q] at hp; cases hp
  refine ⟨δ, Hs, M, d0, δ', ⟨fun b o e => hs b o (g.sub b o e), g.le, g.ne, fun b h => by rw [upd_ne (ne b (g.has b h))]; exact g.has b h⟩, s.frame (Same.refl _) fun b _ hn => upd_ne (ne b hn), e1, fun v H' Hs' m M' g2 st r s2 => ?_⟩
  have tot : m p + M' p = 0 := by
    have l : m p + M' p ≤ 1 := g2.le p
    by_cases q : m p + M' p = 1
    · rcases st.own p q with z | z
      · omega
      · rw [upd_same] at z; cases z
    · omega
  have Hsp' : Hs' p = none := by
    cases q : Hs' p with
    | none => rfl
    | some o =>
      rcases st.shr p Hsp (by rw [q]; simp) with z | z
      · omega
      · rw [upd_same] at z; cases z
  refine ⟨st.keep p _ upd_same Mp, [(key, v)], rfl, by simp, ?_⟩
  have u1 : ∀ {o : HO} {b : Addr}, b ≠ p → upd H' p o b = H' b := fun h => upd_ne h
  refine q (.ref p) _ Hs' (fun b => one p b + m b) M' ⟨fun b o e => ?_, fun b => ?_, fun b h => ?_, fun b h => ?_⟩ ⟨fun b o e z => ?_, fun b h => ?_, st.grow, fun b h h' => ?_, fun b h => ?_⟩ (.own (vs := [v]) (m' := m) ⟨rfl, upd_same⟩ (.cons (m1 := m) (m2 := fun _ => 0) (r.frame (Same.refl _) fun b hb hn => ?_) (.nil _) fun b => by simp) fun b => Nat.le_refl _) (s2.frame (Same.refl _) fun b hb hn => ?_)
  · have : b ≠ p := fun z => by subst z; rw [Hsp'] at e; cases e
    rw [u1 this]
    exact g2.sub b o e
  · have l : m b + M' b ≤ 1 := g2.le b
    show one p b + m b + M' b ≤ 1
    unfold one
    split
    · rename_i z; subst z; omega
    · omega
  · by_cases z : b = p
    · rw [z]; exact Hsp'
    · have h : one p b + m b + M' b = 1 := h
      simp only [one, if_neg z] at h
      exact g2.ne b (by show m b + M' b = 1; omega)
  · by_cases z : b = p
    · rw [z, upd_same]; simp
    · have h : one p b + m b + M' b = 1 := h
      simp only [one, if_neg z] at h
      rw [u1 z]
      exact g2.has b (by show m b + M' b = 1; omega)
  · have z1 : b ≠ p := ne b (by rw [e]; simp)
    rw [u1 z1]
    exact st.keep b o (by rw [upd_ne z1]; exact e) z
  · by_cases z : b = p
    · right; rw [z]; exact hp
    · have h : one p b + m b + M' b = 1 := h
      simp only [one, if_neg z] at h
      rcases st.own b (show m b + M' b = 1 by omega) with y | y
      · exact .inl y
      · rw [upd_ne z] at y; exact .inr y
  · rcases st.shr b h h' with y | y
    · exact .inl y
    · by_cases z : b = p
      · right; rw [z]; exact hp
      · rw [upd_ne z] at y; exact .inr y
  · have z1 := ne b h
    rw [u1 z1]
    exact st.stay b (by rw [upd_ne z1]; exact h)
  · have : b ≠ p := fun z => by subst z; omega
    exact u1 this
  · have : b ≠ p := fun z => by subst z; omega
    exact u1 this
theorem ok_gt {x z : Str} {p : Pos} (hg : Gl X x) (h : ∃ t, X.mg x = some (.str z t)) (hd : (x == ("__debug__" : Str)) = false) : PE X (.Name x p) (tM X.K (M.ret (.sc (.str z)))) := by
  obtain ⟨t, h⟩ := h
  exact ok_k (pe_glob hg h ⟨t, rfl⟩ hd)
structure ModT (K : PySem.W.Frag) (mg : Str → Option Value) (x : Str) (vs : List V) : Prop where
  ex : ∃ a, mg x = some (.ref a) ∧ ∃ (o : Obj) (its : Array Value) (n : Nat), K.lookup a = some o ∧ o.cls = .type "tuple" ∧ o.data = .seq its n ∧ its.size ≤ sizeLine ∧ Vals vs its.toList
theorem ok_gtup {x : Str} {vs : List V} {p : Pos} (hg : Gl X x) (h : ModT X.K X.mg x vs) (hd : (x == ("__debug__" : Str)) = false) : PE X (.Name x p) (tM X.K (M.ret (.node .ftp false (vs.map D.sc)))) := by
  obtain ⟨a, h, z⟩ := h.ex
  exact ok_gl (pe_glob (v := .ref a) hg h rfl hd) fun H Hs m => .shd (vs := vs) (.inr z) (repl_sc vs)
theorem vals_ints : ∀ {is : List Int} {its : List Value}, (its.map fun u => match u with | .int i _ => some i | _ => none) = is.map some → Vals (is.map V.int) its
  | [], [], _ => .nil
  | [], _ :: _, h => by simp at h
  | _ :: _, [], h => by simp at h
  | i :: is, u :: its, h => by
    (simp only [List.map_cons, List.cons.injEq] at h)
    refine .cons ?_ (vals_ints h.2)
    cases u <;> simp at h
    rename_i j t
    exact ⟨t, by rw [h.1]⟩
theorem modT_mk {K : PySem.W.Frag} {h : Heap} {mg : Str → Option Value} {x : Str} {a : Addr} {is : List Int} {dct : Option Addr} {its : Array Value} {n : Nat} {sl : Array (Option Value)} (X : K.In h) (G : h.Ns mainGlobals mg) (hx : PySem.W.nsIn K mainGlobals x = some (some (.ref a))) (hl : K.lookup a = some ⟨.type "tuple", dct, .seq its n, sl⟩) (hs : its.size ≤ sizeLine) (hi : (its.toList.map fun u => match u with | .int i _ => some i | _ => none) = is.map some) : ModT K mg x (is.map V.int) :=
  ⟨a, PySem.W.mg_of X G hx, _, its, n, hl, rfl, rfl, hs, vals_ints hi⟩
end
section
variable {X : Cx} {tg iter : Expr} {body : List Stmt} {pos : Pos} {tgt : Tg} {C : T.Ctx} {body' : List S}
theorem ok_forG {d : D} (hp : PassesOwn (model X.prog X.w) X.A X.env X.xe) (hc : X.calm = true) (he : PE X iter (tM X.K (M.ret d))) (hg : PG X tg (gT X.K tgt)) (hb : PSs X body (tS X.K (fun j => C.lock j || walked [.g d] j) (exs { C with lock := fun j => C.lock j || walked [.g d] j } body'))) (hs : ∀ x, foldedSetIterable iter X.env x = pure x := by intro _; rfl) :
    PS X (.For tg iter body [] pos) (tS X.K C.lock (ex C (.for_ tgt .val [.g d] body'))) := by
  have e : ex C (.for_ tgt .val [.g d] body') = ((((M.ret d).bnd fun d => M.ret (.tmp d)).bnd fun p => (M.ret ([] : List Op)).bnd fun ps => M.ret (p :: ps)).bnd fun ps => (holdVs ps).bnd fun h => (lift (itW .val h.1)).bnd fun items => (forL (asgT (fun j => C.lock j || walked [.g d] j) tgt) (exs { C with lock := fun j => C.lock j || walked [.g d] j } body') items).bnd fun f => (giveH h.2).bnd fun _ => M.ret f) := rfl
  rw [e]
  exact ok_for hp hc (le_or _ _) (hw_1 lt_tmp) (ok_val (ok_tmp he)) hg hb hs
theorem ok_forK {v : V} (hp : PassesOwn (model X.prog X.w) X.A X.env X.xe) (hc : X.calm = true) (he : PE X iter (tM X.K (M.ret (.sc v)))) (hg : PG X tg (gT X.K tgt)) (hb : PSs X body (tS X.K (fun j => C.lock j || walked [.k v] j) (exs { C with lock := fun j => C.lock j || walked [.k v] j } body'))) (hs : ∀ x, foldedSetIterable iter X.env x = pure x := by intro _; rfl) :
    PS X (.For tg iter body [] pos) (tS X.K C.lock (ex C (.for_ tgt .val [.k v] body'))) := by
  have e : ex C (.for_ tgt .val [.k v] body') = ((((M.ret (D.sc v)).bnd fun d => M.ret (.tmp d)).bnd fun p => (M.ret ([] : List Op)).bnd fun ps => M.ret (p :: ps)).bnd fun ps => (holdVs ps).bnd fun h => (lift (itW .val h.1)).bnd fun items => (forL (asgT (fun j => C.lock j || walked [.k v] j) tgt) (exs { C with lock := fun j => C.lock j || walked [.k v] j } body') items).bnd fun f => (giveH h.2).bnd fun _ => M.ret f) := rfl
  rw [e]
  exact ok_for hp hc (le_or _ _) (hw_1 lt_tmp) (ok_val (ok_tmp he)) hg hb hs
end
theorem us1 {P : List Value → Prop} (h : ∀ a, P [a]) : ∀ us : List Value, us.length = 1 → P us
  | [a], _ => h a
theorem us2 {P : List Value → Prop} (h : ∀ a b, P [a, b]) : ∀ us : List Value, us.length = 2 → P us
  | [a, b], _ => h a b
theorem us3 {P : List Value → Prop} (h : ∀ a b c, P [a, b, c]) : ∀ us : List Value, us.length = 3 → P us
  | [a, b, c], _ => h a b c
end T
namespace My
open PySem PySem.Spec L2 T
section
seal L2.PE L2.PS L2.PSs L2.PT L2.PI L2.PA L2.PG L2.PGs
noncomputable def top (i : Nat) : Stmt := PySem.Challenge.pw_barlabel_k01_tables_told.main.body.getD i (.Pass ⟨0, 0, 0, 0⟩)
noncomputable def inClass (s : Stmt) (i : Nat) : Stmt := match s with
  | .ClassDef (body := b) .. => b.getD i (.Pass ⟨0, 0, 0, 0⟩)
  | _ => .Pass ⟨0, 0, 0, 0⟩
noncomputable def CK (C : Addr) : T.Ctx := { C0 with fok := fun A f => decide (A = C) && (f == "size" || f == "meanings" || f == "text") }
noncomputable def clsOf (K : PySem.W.Frag) : Addr := match PySem.W.nsIn K mainGlobals "Table" with
  | some (some (.ref C)) => C
  | _ => 0
structure Txt (K : PySem.W.Frag) (mg : Str → Option Value) (C : Addr) : Prop where
  all_ : mg "all" = none
  bool_ : mg "bool" = none
  int_ : mg "int" = none
  isinstance_ : mg "isinstance" = none
  len_ : mg "len" = none
  range_ : mg "range" = none
  str_ : mg "str" = none
  tuple_ : mg "tuple" = none
  MOST_ROWS_ : ∃ t, mg "MOST_ROWS" = some (.int 5 t)
  SIGNS_ : ∃ t, mg "SIGNS" = some (.str "abcdefghijklmnopqrstuvwxyz0123456789" t)
  PRIMES_ : T.ModT K mg "PRIMES" (([5, 7, 11, 13, 17, 19, 23, 29, 31, 37, 41, 43, 47] : List Int).map V.int)
  cl : Cls K C
  nF_size : NoAttr K C "size"
  nF_meanings : NoAttr K C "meanings"
  nF_text : NoAttr K C "text"
theorem Txt.fok {K : PySem.W.Frag} {mg : Str → Option Value} {C : Addr} (Z : Txt K mg C) : ∀ A f, (CK C).fok A f = true → Cls K A ∧ NoAttr K A f := fun A f h => by
  unfold CK at h
  simp only [Bool.and_eq_true, Bool.or_eq_true, decide_eq_true_eq, beq_iff_eq] at h
  obtain ⟨rfl, h⟩ := h
  rcases h with (rfl | rfl) | rfl
  · exact ⟨Z.cl, Z.nF_size⟩
  · exact ⟨Z.cl, Z.nF_meanings⟩
  · exact ⟨Z.cl, Z.nF_text⟩
noncomputable abbrev s_prime_told : Stmt := top 14
noncomputable abbrev N_prime_told : List Str := ["first", "prime"]
theorem sc_prime_told : FnScope N_prime_told ["first"] (defScope s_prime_told) := ⟨rfl, rfl, rfl, by decide +kernel, rfl, by decide +kernel, by decide +kernel⟩
theorem g_prime_told_PRIMES : glOk (defScope s_prime_told) "PRIMES" = true := by decide +kernel
theorem n_prime_told_1 : slotOk (defScope s_prime_told) N_prime_told 1 "prime" false = true := by decide +kernel
theorem n_prime_told_0 : slotOk (defScope s_prime_told) N_prime_told 0 "first" false = true := by decide +kernel
noncomputable def ir_prime_told : List T.S := [.for_ (.name 1) .val [.g (.node .ftp false ((([5, 7, 11, 13, 17, 19, 23, 29, 31, 37, 41, 43, 47] : List Int).map V.int).map D.sc))] [.iff (.cmp .Eq (.v 0) (.fs [.k (.str "symbols "), .v 1])) [.ret (.v 1)] []], .raise (.k .non)]
noncomputable def f_prime_told : T.FI := ⟨true, T.runDef C0 1 2 ir_prime_told⟩
set_option maxHeartbeats 8000000 in
theorem ok_prime_told {P : Program} {w : World} {K : PySem.W.Frag} {mg : Str → Option Value} {base : Heap} {f : Addr} {fd : FuncData} {C : Addr} (F : Fun K "prime_told" "prime_told" s_prime_told f fd) (Z : Txt K mg C)  : FnOk P w K mg base CX0 (0 + 1) f fd ["first"] (T.spF K (T.runDef C0 1 2 ir_prime_told)) :=
  T.def_ok' (C := C0) (body := ir_prime_told) (k := 0) (N := N_prime_told) F sc_prime_told rfl rfl fun cdv A outer s H E hr =>
  have hu := hr.units
  (ok_seq (ok_forG PassesOwn.never rfl (ok_gtup (glk g_prime_told_PRIMES) Z.PRIMES_ (dbk g_prime_told_PRIMES)) (ok_tn n_prime_told_1 sc_prime_told.nd)
      (ok_seq (ok_if (ok_cmp2T hu (ok_late (pvs n_prime_told_0)) (ok_tmp (ok_fs (ok_fk (ok_fe (ok_late (pvs n_prime_told_1)) ok_f0))))) (ok_seq (ok_ret (ok_mov (pvs n_prime_told_1)))
      ok_nil) ok_nil)
      ok_nil))
      (ok_seq ok_never
      ok_nil))
noncomputable abbrev s_meanings_of_words : Stmt := top 15
noncomputable abbrev N_meanings_of_words : List Str := ["cases", "meanings", "sign", "case"]
theorem sc_meanings_of_words : FnScope N_meanings_of_words ["cases"] (defScope s_meanings_of_words) := ⟨rfl, rfl, rfl, by decide +kernel, rfl, by decide +kernel, by decide +kernel⟩
theorem n_meanings_of_words_1 : slotOk (defScope s_meanings_of_words) N_meanings_of_words 1 "meanings" false = true := by decide +kernel
theorem g_meanings_of_words_SIGNS : glOk (defScope s_meanings_of_words) "SIGNS" = true := by decide +kernel
theorem n_meanings_of_words_2 : slotOk (defScope s_meanings_of_words) N_meanings_of_words 2 "sign" false = true := by decide +kernel
theorem n_meanings_of_words_0 : slotOk (defScope s_meanings_of_words) N_meanings_of_words 0 "cases" false = true := by decide +kernel
theorem g_meanings_of_words_range : glOk (defScope s_meanings_of_words) "range" = true := by decide +kernel
theorem n_meanings_of_words_3 : slotOk (defScope s_meanings_of_words) N_meanings_of_words 3 "case" false = true := by decide +kernel
noncomputable def ir_meanings_of_words : List T.S := [.asg 1 (.dct1 (.inr "-") (.tup [.k (.str "nothing"), .k .non])), .for_ (.name 2) .val [.k (.str "abcdefghijklmnopqrstuvwxyz0123456789")] [.sub 1 [] (.v 2) (.tup [.k (.str "sign"), .v 2])], .for_ (.name 3) .rng1 [.v 0] [.sub 1 [] (.fs [.k (.str "lock"), .v 3]) (.tup [.k (.str "lock"), .v 3]), .sub 1 [] (.fs [.k (.str "shift"), .v 3]) (.tup [.k (.str "shift"), .v 3])], .ret (.v 1)]
noncomputable def f_meanings_of_words : T.FI := ⟨true, T.runDef C0 1 4 ir_meanings_of_words⟩
set_option maxHeartbeats 8000000 in
theorem ok_meanings_of_words {P : Program} {w : World} {K : PySem.W.Frag} {mg : Str → Option Value} {base : Heap} {f : Addr} {fd : FuncData} {C : Addr} (F : Fun K "meanings_of_words" "meanings_of_words" s_meanings_of_words f fd) (Z : Txt K mg C)  : FnOk P w K mg base CX0 (0 + 1) f fd ["cases"] (T.spF K (T.runDef C0 1 4 ir_meanings_of_words)) :=
  T.def_ok' (C := C0) (body := ir_meanings_of_words) (k := 0) (N := N_meanings_of_words) F sc_meanings_of_words rfl rfl fun cdv A outer s H E hr =>
  have hu := hr.units
  (ok_seq (ok_asgs n_meanings_of_words_1 sc_meanings_of_words.nd (ok_disp1 (key := .inr "-") pe_str (ok_tup (ok_ds (ok_k pe_str) (ok_ds (ok_k pe_non) ok_ds0)))))
      (ok_seq (ok_forK PassesOwn.never rfl (ok_gt (glk g_meanings_of_words_SIGNS) Z.SIGNS_ (dbk g_meanings_of_words_SIGNS)) (ok_tn n_meanings_of_words_2 sc_meanings_of_words.nd)
      (ok_seq (ok_sub2 hu (pvs n_meanings_of_words_1) (ok_late (pvs n_meanings_of_words_2)) (ok_tup (ok_ds (ok_k pe_str) (ok_ds (ok_v (pvs n_meanings_of_words_2)) ok_ds0))))
      ok_nil))
      (ok_seq (ok_for PassesOwn.never rfl (le_or _ _) (hw_1 (lt_late rfl)) (ok_rng1 (glk g_meanings_of_words_range) Z.range_ (ok_late (pvs n_meanings_of_words_0))) (ok_tn n_meanings_of_words_3 sc_meanings_of_words.nd)
      (ok_seq (ok_sub2 hu (pvs n_meanings_of_words_1) (ok_tmp (ok_fs (ok_fk (ok_fe (ok_late (pvs n_meanings_of_words_3)) ok_f0)))) (ok_tup (ok_ds (ok_k pe_str) (ok_ds (ok_v (pvs n_meanings_of_words_3)) ok_ds0))))
      (ok_seq (ok_sub2 hu (pvs n_meanings_of_words_1) (ok_tmp (ok_fs (ok_fk (ok_fe (ok_late (pvs n_meanings_of_words_3)) ok_f0)))) (ok_tup (ok_ds (ok_k pe_str) (ok_ds (ok_v (pvs n_meanings_of_words_3)) ok_ds0))))
      ok_nil)))
      (ok_seq (ok_ret (ok_mov (pvs n_meanings_of_words_1)))
      ok_nil))))
noncomputable abbrev s_rows_of : Stmt := top 16
noncomputable abbrev N_rows_of : List Str := ["text"]
theorem sc_rows_of : FnScope N_rows_of ["text"] (defScope s_rows_of) := ⟨rfl, rfl, rfl, by decide +kernel, rfl, by decide +kernel, by decide +kernel⟩
theorem g_rows_of_isinstance : glOk (defScope s_rows_of) "isinstance" = true := by decide +kernel
theorem n_rows_of_0 : slotOk (defScope s_rows_of) N_rows_of 0 "text" false = true := by decide +kernel
theorem g_rows_of_str : glOk (defScope s_rows_of) "str" = true := by decide +kernel
noncomputable def ir_rows_of : List T.S := [.iff (.nt (.bf (.isi .str) [.v 0])) [.raise (.k .non)] [], .ret (.bm .split (.v 0) [.k (.str "\n")])]
noncomputable def f_rows_of : T.FI := ⟨true, T.runDef C0 1 1 ir_rows_of⟩
set_option maxHeartbeats 8000000 in
theorem ok_rows_of {P : Program} {w : World} {K : PySem.W.Frag} {mg : Str → Option Value} {base : Heap} {f : Addr} {fd : FuncData} {C : Addr} (F : Fun K "rows_of" "rows_of" s_rows_of f fd) (Z : Txt K mg C)  : FnOk P w K mg base CX0 (0 + 1) f fd ["text"] (T.spF K (T.runDef C0 1 1 ir_rows_of)) :=
  T.def_ok' (C := C0) (body := ir_rows_of) (k := 0) (N := N_rows_of) F sc_rows_of rfl rfl fun cdv A outer s H E hr =>
  have hu := hr.units
  (ok_seq (ok_if (ok_notT (ok_tst (ok_tmp (ok_isi (t := .str) (n := "str") rfl (glk g_rows_of_isinstance) Z.isinstance_ (ok_late (pvs n_rows_of_0)) (pe_bltn (v := .ty "str") (glk g_rows_of_str) Z.str_ b_str rfl (nmk g_rows_of_str) (dbk g_rows_of_str)))))) (ok_seq ok_never
      ok_nil) ok_nil)
      (ok_seq (ok_ret (ok_split (ok_late (pvs n_rows_of_0)) (ok_pa (ok_tmp (ok_k pe_str)) ok_pa0)))
      ok_nil))
noncomputable abbrev s_check_row_count : Stmt := top 17
noncomputable abbrev N_check_row_count : List Str := ["rows"]
theorem sc_check_row_count : FnScope N_check_row_count ["rows"] (defScope s_check_row_count) := ⟨rfl, rfl, rfl, by decide +kernel, rfl, by decide +kernel, by decide +kernel⟩
theorem g_check_row_count_len : glOk (defScope s_check_row_count) "len" = true := by decide +kernel
theorem n_check_row_count_0 : slotOk (defScope s_check_row_count) N_check_row_count 0 "rows" false = true := by decide +kernel
theorem g_check_row_count_MOST_ROWS : glOk (defScope s_check_row_count) "MOST_ROWS" = true := by decide +kernel
noncomputable def ir_check_row_count : List T.S := [.iff (.cmp .Gt (.bf .len [.v 0]) (.k (.int 5))) [.raise (.k .non)] [], .iff (.cmp .Eq (.bf .len [.v 0]) (.k (.int 1))) [.raise (.k .non)] []]
noncomputable def f_check_row_count : T.FI := ⟨true, T.runDef C0 1 1 ir_check_row_count⟩
set_option maxHeartbeats 8000000 in
theorem ok_check_row_count {P : Program} {w : World} {K : PySem.W.Frag} {mg : Str → Option Value} {base : Heap} {f : Addr} {fd : FuncData} {C : Addr} (F : Fun K "check_row_count" "check_row_count" s_check_row_count f fd) (Z : Txt K mg C)  : FnOk P w K mg base CX0 (0 + 1) f fd ["rows"] (T.spF K (T.runDef C0 1 1 ir_check_row_count)) :=
  T.def_ok' (C := C0) (body := ir_check_row_count) (k := 0) (N := N_check_row_count) F sc_check_row_count rfl rfl fun cdv A outer s H E hr =>
  have hu := hr.units
  (ok_seq (ok_if (ok_cmp2T hu (ok_tmp (ok_bfB len_ok (glk g_check_row_count_len) Z.len_ bb_len (ok_pa (ok_late (pvs n_check_row_count_0)) ok_pa0) (nmk g_check_row_count_len) (dbk g_check_row_count_len))) (ok_tmp (ok_gi (glk g_check_row_count_MOST_ROWS) Z.MOST_ROWS_ (dbk g_check_row_count_MOST_ROWS)))) (ok_seq ok_never
      ok_nil) ok_nil)
      (ok_seq (ok_if (ok_cmp2T hu (ok_tmp (ok_bfB len_ok (glk g_check_row_count_len) Z.len_ bb_len (ok_pa (ok_late (pvs n_check_row_count_0)) ok_pa0) (nmk g_check_row_count_len) (dbk g_check_row_count_len))) (ok_tmp (ok_k pe_int))) (ok_seq ok_never
      ok_nil) ok_nil)
      ok_nil))
noncomputable abbrev s_meanings_of_rows : Stmt := top 18
noncomputable abbrev N_meanings_of_rows : List Str := ["prime", "rows", "words", "found", "number", "row"]
theorem sc_meanings_of_rows : FnScope N_meanings_of_rows ["prime", "rows"] (defScope s_meanings_of_rows) := ⟨rfl, rfl, rfl, by decide +kernel, rfl, by decide +kernel, by decide +kernel⟩
theorem n_meanings_of_rows_2 : slotOk (defScope s_meanings_of_rows) N_meanings_of_rows 2 "words" true = true := by decide +kernel
theorem g_meanings_of_rows_meanings_of_words : glOk (defScope s_meanings_of_rows) "meanings_of_words" = true := by decide +kernel
theorem g_meanings_of_rows_len : glOk (defScope s_meanings_of_rows) "len" = true := by decide +kernel
theorem n_meanings_of_rows_1 : slotOk (defScope s_meanings_of_rows) N_meanings_of_rows 1 "rows" false = true := by decide +kernel
theorem n_meanings_of_rows_3 : slotOk (defScope s_meanings_of_rows) N_meanings_of_rows 3 "found" false = true := by decide +kernel
theorem g_meanings_of_rows_range : glOk (defScope s_meanings_of_rows) "range" = true := by decide +kernel
theorem n_meanings_of_rows_4 : slotOk (defScope s_meanings_of_rows) N_meanings_of_rows 4 "number" false = true := by decide +kernel
theorem n_meanings_of_rows_5 : slotOk (defScope s_meanings_of_rows) N_meanings_of_rows 5 "row" false = true := by decide +kernel
theorem g_meanings_of_rows_all : glOk (defScope s_meanings_of_rows) "all" = true := by decide +kernel
noncomputable abbrev cs_meanings_of_rows_c0 : Scope := { kind := .function, names := [(Str.ofString ".0", NameKind.local), (Str.ofString "word", NameKind.local), (Str.ofString "words", NameKind.free)], isGenerator := false, isCoroutine := false, more := [] }
noncomputable abbrev N_meanings_of_rows_c0 : List Str := ["word", "words"]
theorem ocs_meanings_of_rows_c0 : compOk (defScope s_meanings_of_rows) N_meanings_of_rows 1 [2] N_meanings_of_rows_c0 cs_meanings_of_rows_c0 = true := by decide +kernel
theorem ndcs_meanings_of_rows_c0 : N_meanings_of_rows_c0.Nodup := by decide +kernel
theorem n_meanings_of_rows_c0_0 : slotOk (relabelS cs_meanings_of_rows_c0 (defScope s_meanings_of_rows)) N_meanings_of_rows_c0 0 "word" false = true := by decide +kernel
theorem f_meanings_of_rows_c0_1 : freeOk (relabelS cs_meanings_of_rows_c0 (defScope s_meanings_of_rows)) N_meanings_of_rows_c0 1 "words" = true := by decide +kernel
theorem n_meanings_of_rows_0 : slotOk (defScope s_meanings_of_rows) N_meanings_of_rows 0 "prime" false = true := by decide +kernel
noncomputable abbrev cs_meanings_of_rows_c1 : Scope := { kind := .function, names := [(Str.ofString ".0", NameKind.local), (Str.ofString "word", NameKind.local), (Str.ofString "words", NameKind.free)], isGenerator := false, isCoroutine := false, more := [] }
noncomputable abbrev N_meanings_of_rows_c1 : List Str := ["word", "words"]
theorem ocs_meanings_of_rows_c1 : compOk (defScope s_meanings_of_rows) N_meanings_of_rows 1 [2] N_meanings_of_rows_c1 cs_meanings_of_rows_c1 = true := by decide +kernel
theorem ndcs_meanings_of_rows_c1 : N_meanings_of_rows_c1.Nodup := by decide +kernel
theorem n_meanings_of_rows_c1_0 : slotOk (relabelS cs_meanings_of_rows_c1 (defScope s_meanings_of_rows)) N_meanings_of_rows_c1 0 "word" false = true := by decide +kernel
theorem f_meanings_of_rows_c1_1 : freeOk (relabelS cs_meanings_of_rows_c1 (defScope s_meanings_of_rows)) N_meanings_of_rows_c1 1 "words" = true := by decide +kernel
noncomputable def ir_meanings_of_rows : List T.S := [.asg 2 (.call f_meanings_of_words [.bin .Sub (.bf .len [.v 1]) (.k (.int 1))]), .asg 3 (.lst []), .for_ (.name 4) .rng2 [.k (.int 1), .bf .len [.v 1]] [.asg 5 (.bm .split (.ix (.v 1) (.v 4)) [.k (.str " ")]), .iff (.or (.cmp .NotEq (.bf .len [.v 5]) (.v 0)) (.nt (.bf .all [.comp 1 [2] (.name 0) .val [.v 5] [] (.cmp .In (.v 0) (.v 1))]))) [.raise (.k .non)] [], .ex (.mut .append 3 [] [.comp 1 [2] (.name 0) .val [.v 5] [] (.ix (.v 1) (.v 0))])], .ret (.v 3)]
noncomputable def f_meanings_of_rows : T.FI := ⟨true, T.runDef C0 2 6 ir_meanings_of_rows⟩
set_option maxHeartbeats 8000000 in
theorem ok_meanings_of_rows {P : Program} {w : World} {K : PySem.W.Frag} {mg : Str → Option Value} {base : Heap} {f : Addr} {fd : FuncData} {C : Addr} (F : Fun K "meanings_of_rows" "meanings_of_rows" s_meanings_of_rows f fd) (Z : Txt K mg C) (G_meanings_of_words : FnAt P w K mg base "meanings_of_words" 1 ["cases"] (T.spF K f_meanings_of_words.run)) : FnOk P w K mg base CX0 (1 + 1) f fd ["prime", "rows"] (T.spF K (T.runDef C0 2 6 ir_meanings_of_rows)) :=
  T.def_ok' (C := C0) (body := ir_meanings_of_rows) (k := 1) (N := N_meanings_of_rows) F sc_meanings_of_rows rfl rfl fun cdv A outer s H E hr =>
  have hu := hr.units
  (ok_seq (ok_asgs n_meanings_of_rows_2 sc_meanings_of_rows.nd (ok_fn G_meanings_of_words hr (ok_pa (ok_tmp (ok_bin (bin_ok _) (ok_tmp (ok_bfB len_ok (glk g_meanings_of_rows_len) Z.len_ bb_len (ok_pa (ok_late (pvs n_meanings_of_rows_1)) ok_pa0) (nmk g_meanings_of_rows_len) (dbk g_meanings_of_rows_len))) (ok_tmp (ok_k pe_int)))) ok_pa0) (hg := glk g_meanings_of_rows_meanings_of_words) (hdb := dbk g_meanings_of_rows_meanings_of_words)))
      (ok_seq (ok_asgs n_meanings_of_rows_3 sc_meanings_of_rows.nd (ok_lst ok_ds0))
      (ok_seq (ok_for PassesOwn.never rfl (le_or _ _) (hw_2 (lt_opd rfl) (lt_opd rfl)) (ok_rng2 (glk g_meanings_of_rows_range) Z.range_ (ok_tmp (ok_k pe_int)) (ok_tmp (ok_bfB len_ok (glk g_meanings_of_rows_len) Z.len_ bb_len (ok_pa (ok_late (pvs n_meanings_of_rows_1)) ok_pa0) (nmk g_meanings_of_rows_len) (dbk g_meanings_of_rows_len)))) (ok_tn n_meanings_of_rows_4 sc_meanings_of_rows.nd)
      (ok_seq (ok_asgs n_meanings_of_rows_5 sc_meanings_of_rows.nd (ok_split (ok_tmp (ok_ix2 hu (ok_late (pvs n_meanings_of_rows_1)) (ok_late (pvs n_meanings_of_rows_4)))) (ok_pa (ok_tmp (ok_k pe_str)) ok_pa0)))
      (ok_seq (ok_if (PW.pt (ok_orT (ok_cmp2T hu (ok_tmp (ok_bfB len_ok (glk g_meanings_of_rows_len) Z.len_ bb_len (ok_pa (ok_late (pvs n_meanings_of_rows_5)) ok_pa0) (nmk g_meanings_of_rows_len) (dbk g_meanings_of_rows_len))) (ok_late (pvs n_meanings_of_rows_0))) (ok_or1 (ok_notT (ok_tst (ok_tmp (ok_bfB (all_ok rfl) (glk g_meanings_of_rows_all) Z.all_ bb_all (ok_pa (ok_tmp (ok_comp rfl (CompScope.of ocs_meanings_of_rows_c0 rfl rfl) (ok_val (ok_late (pvs n_meanings_of_rows_5))) (fun cl C s₀ H₀ ex => ⟨(ok_tn n_meanings_of_rows_c0_0 ndcs_meanings_of_rows_c0), ok_if0, (ok_cmp2 hu (ok_late (pvs n_meanings_of_rows_c0_0)) (ok_late (pvf f_meanings_of_rows_c0_1)))⟩))) ok_pa0) (nmk g_meanings_of_rows_all) (dbk g_meanings_of_rows_all)))))))) (ok_seq ok_never
      ok_nil) ok_nil)
      (ok_seq (ok_expr (ok_append (pvs n_meanings_of_rows_3) (ok_ds (ok_comp rfl (CompScope.of ocs_meanings_of_rows_c1 rfl rfl) (ok_val (ok_late (pvs n_meanings_of_rows_5))) (fun cl C s₀ H₀ ex => ⟨(ok_tn n_meanings_of_rows_c1_0 ndcs_meanings_of_rows_c1), ok_if0, (ok_ix2 hu (ok_late (pvf f_meanings_of_rows_c1_1)) (ok_late (pvs n_meanings_of_rows_c1_0)))⟩)) ok_ds0)))
      ok_nil))))
      (ok_seq (ok_ret (ok_mov (pvs n_meanings_of_rows_3)))
      ok_nil))))
noncomputable abbrev s_Table___init__ : Stmt := inClass (top 19) 0
noncomputable abbrev N_Table___init__ : List Str := ["self", "text", "rows"]
theorem sc_Table___init__ : FnScope N_Table___init__ ["self", "text"] (defScope s_Table___init__) := ⟨rfl, rfl, rfl, by decide +kernel, rfl, by decide +kernel, by decide +kernel⟩
theorem n_Table___init___2 : slotOk (defScope s_Table___init__) N_Table___init__ 2 "rows" false = true := by decide +kernel
theorem g_Table___init___rows_of : glOk (defScope s_Table___init__) "rows_of" = true := by decide +kernel
theorem n_Table___init___1 : slotOk (defScope s_Table___init__) N_Table___init__ 1 "text" false = true := by decide +kernel
theorem g_Table___init___prime_told : glOk (defScope s_Table___init__) "prime_told" = true := by decide +kernel
theorem n_Table___init___0 : slotOk (defScope s_Table___init__) N_Table___init__ 0 "self" false = true := by decide +kernel
theorem g_Table___init___check_row_count : glOk (defScope s_Table___init__) "check_row_count" = true := by decide +kernel
theorem g_Table___init___meanings_of_rows : glOk (defScope s_Table___init__) "meanings_of_rows" = true := by decide +kernel
noncomputable def ir_Table___init__ (C : Addr) : List T.S := [.asg 2 (.call f_rows_of [.v 1]), .attr 0 "size" (.call f_prime_told [.ix (.v 2) (.k (.int 0))]), .ex (.call f_check_row_count [.v 2]), .attr 0 "meanings" (.call f_meanings_of_rows [.fld (.v 0) "size", .v 2]), .attr 0 "text" (.v 1)]
noncomputable def f_Table___init__ (C : Addr) : T.FI := ⟨true, T.runDef (CK C) 2 3 (ir_Table___init__ C)⟩
set_option maxHeartbeats 8000000 in
theorem ok_Table___init__ {P : Program} {w : World} {K : PySem.W.Frag} {mg : Str → Option Value} {base : Heap} {f : Addr} {fd : FuncData} {C : Addr} (F : Fun K "__init__" "Table.__init__" s_Table___init__ f fd) (Z : Txt K mg C) (G_rows_of : FnAt P w K mg base "rows_of" 1 ["text"] (T.spF K f_rows_of.run)) (G_prime_told : FnAt P w K mg base "prime_told" 1 ["first"] (T.spF K f_prime_told.run)) (G_check_row_count : FnAt P w K mg base "check_row_count" 1 ["rows"] (T.spF K f_check_row_count.run)) (G_meanings_of_rows : FnAt P w K mg base "meanings_of_rows" 2 ["prime", "rows"] (T.spF K f_meanings_of_rows.run)) : FnOk P w K mg base CX0 (2 + 1) f fd ["self", "text"] (T.spF K (T.runDef (CK C) 2 3 (ir_Table___init__ C))) :=
  T.def_ok' (C := (CK C)) (body := (ir_Table___init__ C)) (k := 2) (N := N_Table___init__) F sc_Table___init__ rfl rfl fun cdv A outer s H E hr =>
  have hu := hr.units
  (ok_seq (ok_asgs n_Table___init___2 sc_Table___init__.nd (ok_fn G_rows_of hr (ok_pa (ok_late (pvs n_Table___init___1)) ok_pa0) (hg := glk g_Table___init___rows_of) (hdb := dbk g_Table___init___rows_of)))
      (ok_seq (ok_attr Z.fok (pvs n_Table___init___0) (ok_fn G_prime_told hr (ok_pa (ok_tmp (ok_ix2 hu (ok_late (pvs n_Table___init___2)) (ok_tmp (ok_k pe_int)))) ok_pa0) (hg := glk g_Table___init___prime_told) (hdb := dbk g_Table___init___prime_told)))
      (ok_seq (ok_expr (ok_fn G_check_row_count hr (ok_pa (ok_late (pvs n_Table___init___2)) ok_pa0) (hg := glk g_Table___init___check_row_count) (hdb := dbk g_Table___init___check_row_count)))
      (ok_seq (ok_attr Z.fok (pvs n_Table___init___0) (ok_fn G_meanings_of_rows hr (ok_pa (ok_tmp (ok_fld Z.fok (ok_late (pvs n_Table___init___0)))) (ok_pa (ok_late (pvs n_Table___init___2)) ok_pa0)) (hg := glk g_Table___init___meanings_of_rows) (hdb := dbk g_Table___init___meanings_of_rows)))
      (ok_seq (ok_attr Z.fok (pvs n_Table___init___0) (ok_v (pvs n_Table___init___1)))
      ok_nil)))))
noncomputable abbrev s_Table_prime : Stmt := inClass (top 19) 1
noncomputable abbrev N_Table_prime : List Str := ["self"]
theorem sc_Table_prime : FnScope N_Table_prime ["self"] (defScope s_Table_prime) := ⟨rfl, rfl, rfl, by decide +kernel, rfl, by decide +kernel, by decide +kernel⟩
theorem n_Table_prime_0 : slotOk (defScope s_Table_prime) N_Table_prime 0 "self" false = true := by decide +kernel
noncomputable def ir_Table_prime (C : Addr) : List T.S := [.ret (.fld (.v 0) "size")]
noncomputable def f_Table_prime (C : Addr) : T.FI := ⟨true, T.runDef (CK C) 1 1 (ir_Table_prime C)⟩
set_option maxHeartbeats 8000000 in
theorem ok_Table_prime {P : Program} {w : World} {K : PySem.W.Frag} {mg : Str → Option Value} {base : Heap} {f : Addr} {fd : FuncData} {C : Addr} (F : Fun K "prime" "Table.prime" s_Table_prime f fd) (Z : Txt K mg C)  : FnOk P w K mg base CX0 (0 + 1) f fd ["self"] (T.spF K (T.runDef (CK C) 1 1 (ir_Table_prime C))) :=
  T.def_ok' (C := (CK C)) (body := (ir_Table_prime C)) (k := 0) (N := N_Table_prime) F sc_Table_prime rfl rfl fun cdv A outer s H E hr =>
  have hu := hr.units
  (ok_seq (ok_ret (ok_fld Z.fok (ok_late (pvs n_Table_prime_0))))
      ok_nil)
noncomputable abbrev s_Table_cases : Stmt := inClass (top 19) 2
noncomputable abbrev N_Table_cases : List Str := ["self"]
theorem sc_Table_cases : FnScope N_Table_cases ["self"] (defScope s_Table_cases) := ⟨rfl, rfl, rfl, by decide +kernel, rfl, by decide +kernel, by decide +kernel⟩
theorem g_Table_cases_len : glOk (defScope s_Table_cases) "len" = true := by decide +kernel
theorem n_Table_cases_0 : slotOk (defScope s_Table_cases) N_Table_cases 0 "self" false = true := by decide +kernel
noncomputable def ir_Table_cases (C : Addr) : List T.S := [.ret (.bf .len [.fld (.v 0) "meanings"])]
noncomputable def f_Table_cases (C : Addr) : T.FI := ⟨true, T.runDef (CK C) 1 1 (ir_Table_cases C)⟩
set_option maxHeartbeats 8000000 in
theorem ok_Table_cases {P : Program} {w : World} {K : PySem.W.Frag} {mg : Str → Option Value} {base : Heap} {f : Addr} {fd : FuncData} {C : Addr} (F : Fun K "cases" "Table.cases" s_Table_cases f fd) (Z : Txt K mg C)  : FnOk P w K mg base CX0 (0 + 1) f fd ["self"] (T.spF K (T.runDef (CK C) 1 1 (ir_Table_cases C))) :=
  T.def_ok' (C := (CK C)) (body := (ir_Table_cases C)) (k := 0) (N := N_Table_cases) F sc_Table_cases rfl rfl fun cdv A outer s H E hr =>
  have hu := hr.units
  (ok_seq (ok_ret (ok_bfB len_ok (glk g_Table_cases_len) Z.len_ bb_len (ok_pa (ok_tmp (ok_fld Z.fok (ok_late (pvs n_Table_cases_0)))) ok_pa0) (nmk g_Table_cases_len) (dbk g_Table_cases_len)))
      ok_nil)
noncomputable abbrev s_Table_means : Stmt := inClass (top 19) 3
noncomputable abbrev N_Table_means : List Str := ["self", "case", "symbol", "meaning"]
theorem sc_Table_means : FnScope N_Table_means ["self", "case", "symbol"] (defScope s_Table_means) := ⟨rfl, rfl, rfl, by decide +kernel, rfl, by decide +kernel, by decide +kernel⟩
theorem n_Table_means_3 : slotOk (defScope s_Table_means) N_Table_means 3 "meaning" false = true := by decide +kernel
theorem n_Table_means_0 : slotOk (defScope s_Table_means) N_Table_means 0 "self" false = true := by decide +kernel
theorem n_Table_means_1 : slotOk (defScope s_Table_means) N_Table_means 1 "case" false = true := by decide +kernel
theorem n_Table_means_2 : slotOk (defScope s_Table_means) N_Table_means 2 "symbol" false = true := by decide +kernel
noncomputable def ir_Table_means (C : Addr) : List T.S := [.asg 3 (.ix (.ix (.fld (.v 0) "meanings") (.v 1)) (.v 2)), .ret (.tup [.ix (.v 3) (.k (.int 0)), .ix (.v 3) (.k (.int 1))])]
noncomputable def f_Table_means (C : Addr) : T.FI := ⟨true, T.runDef (CK C) 3 4 (ir_Table_means C)⟩
set_option maxHeartbeats 8000000 in
theorem ok_Table_means {P : Program} {w : World} {K : PySem.W.Frag} {mg : Str → Option Value} {base : Heap} {f : Addr} {fd : FuncData} {C : Addr} (F : Fun K "means" "Table.means" s_Table_means f fd) (Z : Txt K mg C)  : FnOk P w K mg base CX0 (0 + 1) f fd ["self", "case", "symbol"] (T.spF K (T.runDef (CK C) 3 4 (ir_Table_means C))) :=
  T.def_ok' (C := (CK C)) (body := (ir_Table_means C)) (k := 0) (N := N_Table_means) F sc_Table_means rfl rfl fun cdv A outer s H E hr =>
  have hu := hr.units
  (ok_seq (ok_asgs n_Table_means_3 sc_Table_means.nd (ok_ix2 hu (ok_tmp (ok_ix2 hu (ok_tmp (ok_fld Z.fok (ok_late (pvs n_Table_means_0)))) (ok_late (pvs n_Table_means_1)))) (ok_late (pvs n_Table_means_2))))
      (ok_seq (ok_ret (ok_tup (ok_ds (ok_ix2 hu (ok_late (pvs n_Table_means_3)) (ok_tmp (ok_k pe_int))) (ok_ds (ok_ix2 hu (ok_late (pvs n_Table_means_3)) (ok_tmp (ok_k pe_int))) ok_ds0))))
      ok_nil))
noncomputable abbrev s_Table_shown : Stmt := inClass (top 19) 4
noncomputable abbrev N_Table_shown : List Str := ["self"]
theorem sc_Table_shown : FnScope N_Table_shown ["self"] (defScope s_Table_shown) := ⟨rfl, rfl, rfl, by decide +kernel, rfl, by decide +kernel, by decide +kernel⟩
theorem n_Table_shown_0 : slotOk (defScope s_Table_shown) N_Table_shown 0 "self" false = true := by decide +kernel
noncomputable def ir_Table_shown (C : Addr) : List T.S := [.ret (.fld (.v 0) "text")]
noncomputable def f_Table_shown (C : Addr) : T.FI := ⟨true, T.runDef (CK C) 1 1 (ir_Table_shown C)⟩
set_option maxHeartbeats 8000000 in
theorem ok_Table_shown {P : Program} {w : World} {K : PySem.W.Frag} {mg : Str → Option Value} {base : Heap} {f : Addr} {fd : FuncData} {C : Addr} (F : Fun K "shown" "Table.shown" s_Table_shown f fd) (Z : Txt K mg C)  : FnOk P w K mg base CX0 (0 + 1) f fd ["self"] (T.spF K (T.runDef (CK C) 1 1 (ir_Table_shown C))) :=
  T.def_ok' (C := (CK C)) (body := (ir_Table_shown C)) (k := 0) (N := N_Table_shown) F sc_Table_shown rfl rfl fun cdv A outer s H E hr =>
  have hu := hr.units
  (ok_seq (ok_ret (ok_fld Z.fok (ok_late (pvs n_Table_shown_0))))
      ok_nil)
noncomputable abbrev s__law_cell : Stmt := top 21
noncomputable abbrev N__law_cell : List Str := ["_law_script", "_law_place"]
theorem sc__law_cell : FnScope N__law_cell ["_law_script", "_law_place"] (defScope s__law_cell) := ⟨rfl, rfl, rfl, by decide +kernel, rfl, by decide +kernel, by decide +kernel⟩
theorem n__law_cell_1 : slotOk (defScope s__law_cell) N__law_cell 1 "_law_place" false = true := by decide +kernel
theorem g__law_cell_len : glOk (defScope s__law_cell) "len" = true := by decide +kernel
theorem n__law_cell_0 : slotOk (defScope s__law_cell) N__law_cell 0 "_law_script" false = true := by decide +kernel
noncomputable def ir__law_cell : List T.S := [.iff (.cmp .GtE (.v 1) (.bf .len [.v 0])) [.ret (.k (.int 0))] [], .ret (.ix (.v 0) (.v 1))]
noncomputable def f__law_cell : T.FI := ⟨true, T.runDef C0 2 2 ir__law_cell⟩
set_option maxHeartbeats 8000000 in
theorem ok__law_cell {P : Program} {w : World} {K : PySem.W.Frag} {mg : Str → Option Value} {base : Heap} {f : Addr} {fd : FuncData} {C : Addr} (F : Fun K "_law_cell" "_law_cell" s__law_cell f fd) (Z : Txt K mg C)  : FnOk P w K mg base CX0 (0 + 1) f fd ["_law_script", "_law_place"] (T.spF K (T.runDef C0 2 2 ir__law_cell)) :=
  T.def_ok' (C := C0) (body := ir__law_cell) (k := 0) (N := N__law_cell) F sc__law_cell rfl rfl fun cdv A outer s H E hr =>
  have hu := hr.units
  (ok_seq (ok_if (ok_cmp2T hu (ok_late (pvs n__law_cell_1)) (ok_tmp (ok_bfB len_ok (glk g__law_cell_len) Z.len_ bb_len (ok_pa (ok_late (pvs n__law_cell_0)) ok_pa0) (nmk g__law_cell_len) (dbk g__law_cell_len)))) (ok_seq (ok_ret (ok_k pe_int))
      ok_nil) ok_nil)
      (ok_seq (ok_ret (ok_ix2 hu (ok_late (pvs n__law_cell_0)) (ok_late (pvs n__law_cell_1))))
      ok_nil))
noncomputable abbrev s__law_spun : Stmt := top 22
noncomputable abbrev N__law_spun : List Str := ["_law_cell_here", "_law_turn", "_law_many", "_law_low", "_law_high", "_law_number_here"]
theorem sc__law_spun : FnScope N__law_spun ["_law_cell_here", "_law_turn", "_law_many"] (defScope s__law_spun) := ⟨rfl, rfl, rfl, by decide +kernel, rfl, by decide +kernel, by decide +kernel⟩
theorem n__law_spun_3 : slotOk (defScope s__law_spun) N__law_spun 3 "_law_low" false = true := by decide +kernel
theorem n__law_spun_0 : slotOk (defScope s__law_spun) N__law_spun 0 "_law_cell_here" false = true := by decide +kernel
theorem n__law_spun_4 : slotOk (defScope s__law_spun) N__law_spun 4 "_law_high" false = true := by decide +kernel
theorem n__law_spun_5 : slotOk (defScope s__law_spun) N__law_spun 5 "_law_number_here" false = true := by decide +kernel
theorem n__law_spun_1 : slotOk (defScope s__law_spun) N__law_spun 1 "_law_turn" false = true := by decide +kernel
theorem n__law_spun_2 : slotOk (defScope s__law_spun) N__law_spun 2 "_law_many" false = true := by decide +kernel
noncomputable def ir__law_spun : List T.S := [.asg 3 (.bin .Mod (.v 0) (.k (.int 1000000009))), .asg 4 (.bin .Mod (.bin .FloorDiv (.v 0) (.k (.int 1000000009))) (.k (.int 998244353))), .asg 5 (.bin .Mod (.bin .Mult (.bin .Add (.bin .Add (.v 3) (.bin .Mult (.k (.int 7919)) (.v 1))) (.k (.int 1))) (.bin .Add (.bin .Add (.v 4) (.bin .Mult (.k (.int 104729)) (.v 1))) (.k (.int 2)))) (.k (.int 2147483629))), .ret (.bin .Mod (.bin .Mod (.bin .Mult (.v 5) (.bin .Add (.bin .Add (.v 5) (.bin .Mult (.k (.int 2)) (.v 1))) (.k (.int 3)))) (.k (.int 2147483629))) (.v 2))]
noncomputable def f__law_spun : T.FI := ⟨true, T.runDef C0 3 6 ir__law_spun⟩
set_option maxHeartbeats 8000000 in
theorem ok__law_spun {P : Program} {w : World} {K : PySem.W.Frag} {mg : Str → Option Value} {base : Heap} {f : Addr} {fd : FuncData} {C : Addr} (F : Fun K "_law_spun" "_law_spun" s__law_spun f fd) (Z : Txt K mg C)  : FnOk P w K mg base CX0 (0 + 1) f fd ["_law_cell_here", "_law_turn", "_law_many"] (T.spF K (T.runDef C0 3 6 ir__law_spun)) :=
  T.def_ok' (C := C0) (body := ir__law_spun) (k := 0) (N := N__law_spun) F sc__law_spun rfl rfl fun cdv A outer s H E hr =>
  have hu := hr.units
  (ok_seq (ok_asgs n__law_spun_3 sc__law_spun.nd (ok_bin (bin_ok _) (ok_late (pvs n__law_spun_0)) (ok_tmp (ok_k pe_int))))
      (ok_seq (ok_asgs n__law_spun_4 sc__law_spun.nd (ok_bin (bin_ok _) (ok_tmp (ok_bin (bin_ok _) (ok_late (pvs n__law_spun_0)) (ok_tmp (ok_k pe_int)))) (ok_tmp (ok_k pe_int))))
      (ok_seq (ok_asgs n__law_spun_5 sc__law_spun.nd (ok_bin (bin_ok _) (ok_tmp (ok_bin (bin_ok _) (ok_tmp (ok_bin (bin_ok _) (ok_tmp (ok_bin (bin_ok _) (ok_late (pvs n__law_spun_3)) (ok_tmp (ok_bin (bin_ok _) (ok_tmp (ok_k pe_int)) (ok_late (pvs n__law_spun_1)))))) (ok_tmp (ok_k pe_int)))) (ok_tmp (ok_bin (bin_ok _) (ok_tmp (ok_bin (bin_ok _) (ok_late (pvs n__law_spun_4)) (ok_tmp (ok_bin (bin_ok _) (ok_tmp (ok_k pe_int)) (ok_late (pvs n__law_spun_1)))))) (ok_tmp (ok_k pe_int)))))) (ok_tmp (ok_k pe_int))))
      (ok_seq (ok_ret (ok_bin (bin_ok _) (ok_tmp (ok_bin (bin_ok _) (ok_tmp (ok_bin (bin_ok _) (ok_late (pvs n__law_spun_5)) (ok_tmp (ok_bin (bin_ok _) (ok_tmp (ok_bin (bin_ok _) (ok_late (pvs n__law_spun_5)) (ok_tmp (ok_bin (bin_ok _) (ok_tmp (ok_k pe_int)) (ok_late (pvs n__law_spun_1)))))) (ok_tmp (ok_k pe_int)))))) (ok_tmp (ok_k pe_int)))) (ok_late (pvs n__law_spun_2))))
      ok_nil))))
noncomputable abbrev s__law_word : Stmt := top 23
noncomputable abbrev N__law_word : List Str := ["_law_x", "_law_pool", "_law_cases"]
theorem sc__law_word : FnScope N__law_word ["_law_x", "_law_pool", "_law_cases"] (defScope s__law_word) := ⟨rfl, rfl, rfl, by decide +kernel, rfl, by decide +kernel, by decide +kernel⟩
theorem n__law_word_0 : slotOk (defScope s__law_word) N__law_word 0 "_law_x" false = true := by decide +kernel
theorem n__law_word_1 : slotOk (defScope s__law_word) N__law_word 1 "_law_pool" false = true := by decide +kernel
theorem g__law_word_len : glOk (defScope s__law_word) "len" = true := by decide +kernel
theorem g__law_word_str : glOk (defScope s__law_word) "str" = true := by decide +kernel
theorem n__law_word_2 : slotOk (defScope s__law_word) N__law_word 2 "_law_cases" false = true := by decide +kernel
noncomputable def ir__law_word : List T.S := [.iff (.cmp .Lt (.bin .Mod (.v 0) (.k (.int 16))) (.k (.int 10))) [.ret (.ix (.v 1) (.bin .Mod (.bin .FloorDiv (.v 0) (.k (.int 16))) (.bf .len [.v 1])))] [], .iff (.cmp .Lt (.bin .Mod (.v 0) (.k (.int 16))) (.k (.int 12))) [.ret (.bin .Add (.k (.str "lock")) (.bf .str [.bin .Mod (.bin .FloorDiv (.v 0) (.k (.int 16))) (.v 2)]))] [], .iff (.cmp .Lt (.bin .Mod (.v 0) (.k (.int 16))) (.k (.int 14))) [.ret (.bin .Add (.k (.str "shift")) (.bf .str [.bin .Mod (.bin .FloorDiv (.v 0) (.k (.int 16))) (.v 2)]))] [], .ret (.k (.str "-"))]
noncomputable def f__law_word : T.FI := ⟨true, T.runDef C0 3 3 ir__law_word⟩
set_option maxHeartbeats 8000000 in
theorem ok__law_word {P : Program} {w : World} {K : PySem.W.Frag} {mg : Str → Option Value} {base : Heap} {f : Addr} {fd : FuncData} {C : Addr} (F : Fun K "_law_word" "_law_word" s__law_word f fd) (Z : Txt K mg C)  : FnOk P w K mg base CX0 (0 + 1) f fd ["_law_x", "_law_pool", "_law_cases"] (T.spF K (T.runDef C0 3 3 ir__law_word)) :=
  T.def_ok' (C := C0) (body := ir__law_word) (k := 0) (N := N__law_word) F sc__law_word rfl rfl fun cdv A outer s H E hr =>
  have hu := hr.units
  (ok_seq (ok_if (ok_cmp2T hu (ok_tmp (ok_bin (bin_ok _) (ok_late (pvs n__law_word_0)) (ok_tmp (ok_k pe_int)))) (ok_tmp (ok_k pe_int))) (ok_seq (ok_ret (ok_ix2 hu (ok_late (pvs n__law_word_1)) (ok_tmp (ok_bin (bin_ok _) (ok_tmp (ok_bin (bin_ok _) (ok_late (pvs n__law_word_0)) (ok_tmp (ok_k pe_int)))) (ok_tmp (ok_bfB len_ok (glk g__law_word_len) Z.len_ bb_len (ok_pa (ok_late (pvs n__law_word_1)) ok_pa0) (nmk g__law_word_len) (dbk g__law_word_len)))))))
      ok_nil) ok_nil)
      (ok_seq (ok_if (ok_cmp2T hu (ok_tmp (ok_bin (bin_ok _) (ok_late (pvs n__law_word_0)) (ok_tmp (ok_k pe_int)))) (ok_tmp (ok_k pe_int))) (ok_seq (ok_ret (ok_bin (bin_ok _) (ok_tmp (ok_k pe_str)) (ok_tmp (ok_bfT str_ok (glk g__law_word_str) Z.str_ bb_str (ok_pa (ok_tmp (ok_bin (bin_ok _) (ok_tmp (ok_bin (bin_ok _) (ok_late (pvs n__law_word_0)) (ok_tmp (ok_k pe_int)))) (ok_late (pvs n__law_word_2)))) ok_pa0) (nmk g__law_word_str) (dbk g__law_word_str)))))
      ok_nil) ok_nil)
      (ok_seq (ok_if (ok_cmp2T hu (ok_tmp (ok_bin (bin_ok _) (ok_late (pvs n__law_word_0)) (ok_tmp (ok_k pe_int)))) (ok_tmp (ok_k pe_int))) (ok_seq (ok_ret (ok_bin (bin_ok _) (ok_tmp (ok_k pe_str)) (ok_tmp (ok_bfT str_ok (glk g__law_word_str) Z.str_ bb_str (ok_pa (ok_tmp (ok_bin (bin_ok _) (ok_tmp (ok_bin (bin_ok _) (ok_late (pvs n__law_word_0)) (ok_tmp (ok_k pe_int)))) (ok_late (pvs n__law_word_2)))) ok_pa0) (nmk g__law_word_str) (dbk g__law_word_str)))))
      ok_nil) ok_nil)
      (ok_seq (ok_ret (ok_k pe_str))
      ok_nil))))
noncomputable abbrev s__law_rows : Stmt := top 24
noncomputable abbrev N__law_rows : List Str := ["_law_script", "_law_at", "_law_first", "_law_primes", "_law_prime", "_law_cases", "_law_known", "_law_size", "_law_pool", "_law_rows_here", "_law_case", "_law_cell_here", "_law_xs"]
theorem sc__law_rows : FnScope N__law_rows ["_law_script", "_law_at"] (defScope s__law_rows) := ⟨rfl, rfl, rfl, by decide +kernel, rfl, by decide +kernel, by decide +kernel⟩
theorem n__law_rows_2 : slotOk (defScope s__law_rows) N__law_rows 2 "_law_first" false = true := by decide +kernel
theorem g__law_rows__law_cell : glOk (defScope s__law_rows) "_law_cell" = true := by decide +kernel
theorem n__law_rows_0 : slotOk (defScope s__law_rows) N__law_rows 0 "_law_script" false = true := by decide +kernel
theorem n__law_rows_1 : slotOk (defScope s__law_rows) N__law_rows 1 "_law_at" false = true := by decide +kernel
theorem n__law_rows_3 : slotOk (defScope s__law_rows) N__law_rows 3 "_law_primes" false = true := by decide +kernel
theorem n__law_rows_4 : slotOk (defScope s__law_rows) N__law_rows 4 "_law_prime" false = true := by decide +kernel
theorem g__law_rows__law_spun : glOk (defScope s__law_rows) "_law_spun" = true := by decide +kernel
theorem n__law_rows_5 : slotOk (defScope s__law_rows) N__law_rows 5 "_law_cases" true = true := by decide +kernel
theorem n__law_rows_6 : slotOk (defScope s__law_rows) N__law_rows 6 "_law_known" false = true := by decide +kernel
theorem n__law_rows_7 : slotOk (defScope s__law_rows) N__law_rows 7 "_law_size" false = true := by decide +kernel
theorem n__law_rows_8 : slotOk (defScope s__law_rows) N__law_rows 8 "_law_pool" true = true := by decide +kernel
theorem n__law_rows_9 : slotOk (defScope s__law_rows) N__law_rows 9 "_law_rows_here" false = true := by decide +kernel
theorem g__law_rows_range : glOk (defScope s__law_rows) "range" = true := by decide +kernel
theorem n__law_rows_10 : slotOk (defScope s__law_rows) N__law_rows 10 "_law_case" false = true := by decide +kernel
theorem n__law_rows_11 : slotOk (defScope s__law_rows) N__law_rows 11 "_law_cell_here" true = true := by decide +kernel
theorem n__law_rows_12 : slotOk (defScope s__law_rows) N__law_rows 12 "_law_xs" false = true := by decide +kernel
noncomputable abbrev cs__law_rows_c0 : Scope := { kind := .function, names := [(Str.ofString ".0", NameKind.local), (Str.ofString "_law_k", NameKind.local), (Str.ofString "_law_spun", NameKind.globalImplicit), (Str.ofString "_law_cell_here", NameKind.free)], isGenerator := false, isCoroutine := false, more := [] }
noncomputable abbrev N__law_rows_c0 : List Str := ["_law_k", "_law_cell_here"]
theorem ocs__law_rows_c0 : compOk (defScope s__law_rows) N__law_rows 1 [11] N__law_rows_c0 cs__law_rows_c0 = true := by decide +kernel
theorem ndcs__law_rows_c0 : N__law_rows_c0.Nodup := by decide +kernel
theorem n__law_rows_c0_0 : slotOk (relabelS cs__law_rows_c0 (defScope s__law_rows)) N__law_rows_c0 0 "_law_k" false = true := by decide +kernel
theorem g__law_rows_c0__law_spun : glOk (relabelS cs__law_rows_c0 (defScope s__law_rows)) "_law_spun" = true := by decide +kernel
theorem f__law_rows_c0_1 : freeOk (relabelS cs__law_rows_c0 (defScope s__law_rows)) N__law_rows_c0 1 "_law_cell_here" = true := by decide +kernel
theorem w_cs__law_rows_c0 : swapOk (defScope s__law_rows) cs__law_rows_c0 "_law_xs" = true := by decide +kernel
noncomputable abbrev cs__law_rows_c1 : Scope := { kind := .function, names := [(Str.ofString ".0", NameKind.local), (Str.ofString "_law_x", NameKind.local), (Str.ofString "_law_word", NameKind.globalImplicit), (Str.ofString "_law_cases", NameKind.free), (Str.ofString "_law_pool", NameKind.free)], isGenerator := false, isCoroutine := false, more := [] }
noncomputable abbrev N__law_rows_c1 : List Str := ["_law_x", "_law_pool", "_law_cases"]
theorem ocs__law_rows_c1 : compOk (defScope s__law_rows) N__law_rows 1 [8, 5] N__law_rows_c1 cs__law_rows_c1 = true := by decide +kernel
theorem ndcs__law_rows_c1 : N__law_rows_c1.Nodup := by decide +kernel
theorem n__law_rows_c1_0 : slotOk (relabelS cs__law_rows_c1 (defScope s__law_rows)) N__law_rows_c1 0 "_law_x" false = true := by decide +kernel
theorem g__law_rows_c1__law_word : glOk (relabelS cs__law_rows_c1 (defScope s__law_rows)) "_law_word" = true := by decide +kernel
theorem f__law_rows_c1_1 : freeOk (relabelS cs__law_rows_c1 (defScope s__law_rows)) N__law_rows_c1 1 "_law_pool" = true := by decide +kernel
theorem f__law_rows_c1_2 : freeOk (relabelS cs__law_rows_c1 (defScope s__law_rows)) N__law_rows_c1 2 "_law_cases" = true := by decide +kernel
noncomputable def ir__law_rows : List T.S := [.asg 2 (.call f__law_cell [.v 0, .v 1]), .asg 3 (.kl [(.int 5), (.int 7), (.int 11), (.int 13), (.int 17), (.int 19), (.int 23), (.int 29), (.int 31), (.int 37), (.int 41), (.int 43), (.int 47), (.int 5), (.int 7), (.int 5), (.int 7), (.int 11)]), .asg 4 (.ix (.v 3) (.call f__law_spun [.v 2, .k (.int 1), .k (.int 18)])), .asg 5 (.bin .Add (.k (.int 1)) (.call f__law_spun [.v 2, .k (.int 2), .k (.int 4)])), .asg 6 (.k (.str "q7abcdefghijklmnoprstuvwxyz012345689")), .asg 7 (.ix (.kl [(.int 2), (.int 4), (.int 8), (.int 36)]) (.call f__law_spun [.v 2, .k (.int 3), .k (.int 4)])), .asg 8 (.sl (.sl (.v 6) (.call f__law_spun [.v 2, .k (.int 4), .bin .Sub (.k (.int 37)) (.v 7)]) (.k .non)) (.k .non) (.v 7)), .asg 9 (.lst []), .for_ (.name 10) .rng1 [.v 5] [.asg 11 (.call f__law_cell [.v 0, .bin .Add (.bin .Add (.v 1) (.k (.int 1))) (.v 10)]), .asg 12 (.comp 1 [11] (.name 0) .rng1 [.v 4] [] (.call f__law_spun [.v 1, .bin .Add (.k (.int 10)) (.v 0), .bin .Mult (.k (.int 16)) (.k (.int 144))])), .ex (.mut .append 9 [] [.comp 1 [8, 5] (.name 0) .val [.v 12] [] (.call f__law_word [.v 0, .v 1, .v 2])])], .ret (.v 9)]
noncomputable def f__law_rows : T.FI := ⟨true, T.runDef C0 2 13 ir__law_rows⟩
set_option maxHeartbeats 8000000 in
theorem ok__law_rows {P : Program} {w : World} {K : PySem.W.Frag} {mg : Str → Option Value} {base : Heap} {f : Addr} {fd : FuncData} {C : Addr} (F : Fun K "_law_rows" "_law_rows" s__law_rows f fd) (Z : Txt K mg C) (G__law_cell : FnAt P w K mg base "_law_cell" 1 ["_law_script", "_law_place"] (T.spF K f__law_cell.run)) (G__law_spun : FnAt P w K mg base "_law_spun" 1 ["_law_cell_here", "_law_turn", "_law_many"] (T.spF K f__law_spun.run)) (G__law_word : FnAt P w K mg base "_law_word" 1 ["_law_x", "_law_pool", "_law_cases"] (T.spF K f__law_word.run)) : FnOk P w K mg base CX0 (1 + 1) f fd ["_law_script", "_law_at"] (T.spF K (T.runDef C0 2 13 ir__law_rows)) :=
  T.def_ok' (C := C0) (body := ir__law_rows) (k := 1) (N := N__law_rows) F sc__law_rows rfl rfl fun cdv A outer s H E hr =>
  have hu := hr.units
  (ok_seq (ok_asgs n__law_rows_2 sc__law_rows.nd (ok_fn G__law_cell hr (ok_pa (ok_late (pvs n__law_rows_0)) (ok_pa (ok_late (pvs n__law_rows_1)) ok_pa0)) (hg := glk g__law_rows__law_cell) (hdb := dbk g__law_rows__law_cell)))
      (ok_seq (ok_asgs n__law_rows_3 sc__law_rows.nd (ok_kl (vs := [(.int 5), (.int 7), (.int 11), (.int 13), (.int 17), (.int 19), (.int 23), (.int 29), (.int 31), (.int 37), (.int 41), (.int 43), (.int 47), (.int 5), (.int 7), (.int 5), (.int 7), (.int 11)]) (by kernel_rfl)))
      (ok_seq (ok_asgs n__law_rows_4 sc__law_rows.nd (ok_ix2 hu (ok_late (pvs n__law_rows_3)) (ok_tmp (ok_fn G__law_spun hr (ok_pa (ok_late (pvs n__law_rows_2)) (ok_pa (ok_tmp (ok_k pe_int)) (ok_pa (ok_tmp (ok_k pe_int)) ok_pa0))) (hg := glk g__law_rows__law_spun) (hdb := dbk g__law_rows__law_spun)))))
      (ok_seq (ok_asgs n__law_rows_5 sc__law_rows.nd (ok_bin (bin_ok _) (ok_tmp (ok_k pe_int)) (ok_tmp (ok_fn G__law_spun hr (ok_pa (ok_late (pvs n__law_rows_2)) (ok_pa (ok_tmp (ok_k pe_int)) (ok_pa (ok_tmp (ok_k pe_int)) ok_pa0))) (hg := glk g__law_rows__law_spun) (hdb := dbk g__law_rows__law_spun)))))
      (ok_seq (ok_asgs n__law_rows_6 sc__law_rows.nd (ok_k pe_str))
      (ok_seq (ok_asgs n__law_rows_7 sc__law_rows.nd (ok_ix2 hu (ok_tmp (ok_kl (vs := [(.int 2), (.int 4), (.int 8), (.int 36)]) (by kernel_rfl))) (ok_tmp (ok_fn G__law_spun hr (ok_pa (ok_late (pvs n__law_rows_2)) (ok_pa (ok_tmp (ok_k pe_int)) (ok_pa (ok_tmp (ok_k pe_int)) ok_pa0))) (hg := glk g__law_rows__law_spun) (hdb := dbk g__law_rows__law_spun)))))
      (ok_seq (ok_asgs n__law_rows_8 sc__law_rows.nd (ok_sl (ok_tmp (ok_sl (ok_late (pvs n__law_rows_6)) (ok_part (ok_tmp (ok_fn G__law_spun hr (ok_pa (ok_late (pvs n__law_rows_2)) (ok_pa (ok_tmp (ok_k pe_int)) (ok_pa (ok_tmp (ok_bin (bin_ok _) (ok_tmp (ok_k pe_int)) (ok_late (pvs n__law_rows_7)))) ok_pa0))) (hg := glk g__law_rows__law_spun) (hdb := dbk g__law_rows__law_spun)))) ok_no)) ok_no (ok_part (ok_late (pvs n__law_rows_7)))))
      (ok_seq (ok_asgs n__law_rows_9 sc__law_rows.nd (ok_lst ok_ds0))
      (ok_seq (ok_for PassesOwn.never rfl (le_or _ _) (hw_1 (lt_late rfl)) (ok_rng1 (glk g__law_rows_range) Z.range_ (ok_late (pvs n__law_rows_5))) (ok_tn n__law_rows_10 sc__law_rows.nd)
      (ok_seq (ok_asgs n__law_rows_11 sc__law_rows.nd (ok_fn G__law_cell hr (ok_pa (ok_late (pvs n__law_rows_0)) (ok_pa (ok_tmp (ok_bin (bin_ok _) (ok_tmp (ok_bin (bin_ok _) (ok_late (pvs n__law_rows_1)) (ok_tmp (ok_k pe_int)))) (ok_late (pvs n__law_rows_10)))) ok_pa0)) (hg := glk g__law_rows__law_cell) (hdb := dbk g__law_rows__law_cell)))
      (ok_seq (ok_setc n__law_rows_12 sc__law_rows.nd w_cs__law_rows_c0 rfl (CompScope.of ocs__law_rows_c0 rfl rfl) (ok_rng1 (glk g__law_rows_range) Z.range_ (ok_late (pvs n__law_rows_4))) (fun cl C s₀ H₀ ex => ⟨(ok_tn n__law_rows_c0_0 ndcs__law_rows_c0), ok_if0, (ok_fn G__law_spun hr (ok_pa (ok_late (pvf f__law_rows_c0_1)) (ok_pa (ok_tmp (ok_bin (bin_ok _) (ok_tmp (ok_k pe_int)) (ok_late (pvs n__law_rows_c0_0)))) (ok_pa (ok_tmp (ok_bin (bin_ok _) (ok_tmp (ok_k pe_int)) (ok_tmp (ok_k pe_int)))) ok_pa0))) (hg := glk g__law_rows_c0__law_spun) (hdb := dbk g__law_rows_c0__law_spun))⟩))
      (ok_seq (ok_expr (ok_append (pvs n__law_rows_9) (ok_ds (ok_comp rfl (CompScope.of ocs__law_rows_c1 rfl rfl) (ok_val (ok_late (pvs n__law_rows_12))) (fun cl C s₀ H₀ ex => ⟨(ok_tn n__law_rows_c1_0 ndcs__law_rows_c1), ok_if0, (ok_fn G__law_word hr (ok_pa (ok_late (pvs n__law_rows_c1_0)) (ok_pa (ok_late (pvf f__law_rows_c1_1)) (ok_pa (ok_late (pvf f__law_rows_c1_2)) ok_pa0))) (hg := glk g__law_rows_c1__law_word) (hdb := dbk g__law_rows_c1__law_word))⟩)) ok_ds0)))
      ok_nil))))
      (ok_seq (ok_ret (ok_mov (pvs n__law_rows_9)))
      ok_nil))))))))))
noncomputable abbrev s__law_text : Stmt := top 25
noncomputable abbrev N__law_text : List Str := ["_law_rows_here", "_law_lines", "_law_row"]
theorem sc__law_text : FnScope N__law_text ["_law_rows_here"] (defScope s__law_text) := ⟨rfl, rfl, rfl, by decide +kernel, rfl, by decide +kernel, by decide +kernel⟩
theorem n__law_text_1 : slotOk (defScope s__law_text) N__law_text 1 "_law_lines" false = true := by decide +kernel
theorem g__law_text_str : glOk (defScope s__law_text) "str" = true := by decide +kernel
theorem g__law_text_len : glOk (defScope s__law_text) "len" = true := by decide +kernel
theorem n__law_text_0 : slotOk (defScope s__law_text) N__law_text 0 "_law_rows_here" false = true := by decide +kernel
theorem n__law_text_2 : slotOk (defScope s__law_text) N__law_text 2 "_law_row" false = true := by decide +kernel
noncomputable def ir__law_text : List T.S := [.asg 1 (.lst [.bin .Add (.k (.str "symbols ")) (.bf .str [.bf .len [.ix (.v 0) (.k (.int 0))]])]), .for_ (.name 2) .val [.v 0] [.ex (.mut .append 1 [] [.bm .join (.k (.str " ")) [.v 2]])], .ret (.bm .join (.k (.str "\n")) [.v 1])]
noncomputable def f__law_text : T.FI := ⟨true, T.runDef C0 1 3 ir__law_text⟩
set_option maxHeartbeats 8000000 in
theorem ok__law_text {P : Program} {w : World} {K : PySem.W.Frag} {mg : Str → Option Value} {base : Heap} {f : Addr} {fd : FuncData} {C : Addr} (F : Fun K "_law_text" "_law_text" s__law_text f fd) (Z : Txt K mg C)  : FnOk P w K mg base CX0 (0 + 1) f fd ["_law_rows_here"] (T.spF K (T.runDef C0 1 3 ir__law_text)) :=
  T.def_ok' (C := C0) (body := ir__law_text) (k := 0) (N := N__law_text) F sc__law_text rfl rfl fun cdv A outer s H E hr =>
  have hu := hr.units
  (ok_seq (ok_asgs n__law_text_1 sc__law_text.nd (ok_lst (ok_ds (ok_bin (bin_ok _) (ok_tmp (ok_k pe_str)) (ok_tmp (ok_bfT str_ok (glk g__law_text_str) Z.str_ bb_str (ok_pa (ok_tmp (ok_bfB len_ok (glk g__law_text_len) Z.len_ bb_len (ok_pa (ok_tmp (ok_ix2 hu (ok_late (pvs n__law_text_0)) (ok_tmp (ok_k pe_int)))) ok_pa0) (nmk g__law_text_len) (dbk g__law_text_len))) ok_pa0) (nmk g__law_text_str) (dbk g__law_text_str)))) ok_ds0)))
      (ok_seq (ok_for PassesOwn.never rfl (le_or _ _) (hw_1 (lt_late rfl)) (ok_val (ok_late (pvs n__law_text_0))) (ok_tn n__law_text_2 sc__law_text.nd)
      (ok_seq (ok_expr (ok_append (pvs n__law_text_1) (ok_ds (ok_join (ok_tmp (ok_k pe_str)) (ok_pa (ok_late (pvs n__law_text_2)) ok_pa0)) ok_ds0)))
      ok_nil))
      (ok_seq (ok_ret (ok_join (ok_tmp (ok_k pe_str)) (ok_pa (ok_late (pvs n__law_text_1)) ok_pa0)))
      ok_nil)))
noncomputable abbrev s__law_due : Stmt := top 26
noncomputable abbrev N__law_due : List Str := ["_law_word_here"]
theorem sc__law_due : FnScope N__law_due ["_law_word_here"] (defScope s__law_due) := ⟨rfl, rfl, rfl, by decide +kernel, rfl, by decide +kernel, by decide +kernel⟩
theorem n__law_due_0 : slotOk (defScope s__law_due) N__law_due 0 "_law_word_here" false = true := by decide +kernel
theorem g__law_due_int : glOk (defScope s__law_due) "int" = true := by decide +kernel
noncomputable def ir__law_due : List T.S := [.iff (.cmp .Eq (.v 0) (.k (.str "-"))) [.ret (.tup [.k (.str "nothing"), .k .non])] [], .iff (.cmp .Eq (.sl (.v 0) (.k .non) (.k (.int 4))) (.k (.str "lock"))) [.ret (.tup [.k (.str "lock"), .bf .int [.sl (.v 0) (.k (.int 4)) (.k .non)]])] [], .iff (.cmp .Eq (.sl (.v 0) (.k .non) (.k (.int 5))) (.k (.str "shift"))) [.ret (.tup [.k (.str "shift"), .bf .int [.sl (.v 0) (.k (.int 5)) (.k .non)]])] [], .ret (.tup [.k (.str "sign"), .v 0])]
noncomputable def f__law_due : T.FI := ⟨true, T.runDef C0 1 1 ir__law_due⟩
set_option maxHeartbeats 8000000 in
theorem ok__law_due {P : Program} {w : World} {K : PySem.W.Frag} {mg : Str → Option Value} {base : Heap} {f : Addr} {fd : FuncData} {C : Addr} (F : Fun K "_law_due" "_law_due" s__law_due f fd) (Z : Txt K mg C)  : FnOk P w K mg base CX0 (0 + 1) f fd ["_law_word_here"] (T.spF K (T.runDef C0 1 1 ir__law_due)) :=
  T.def_ok' (C := C0) (body := ir__law_due) (k := 0) (N := N__law_due) F sc__law_due rfl rfl fun cdv A outer s H E hr =>
  have hu := hr.units
  (ok_seq (ok_if (ok_cmp2T hu (ok_late (pvs n__law_due_0)) (ok_tmp (ok_k pe_str))) (ok_seq (ok_ret (ok_tup (ok_ds (ok_k pe_str) (ok_ds (ok_k pe_non) ok_ds0))))
      ok_nil) ok_nil)
      (ok_seq (ok_if (ok_cmp2T hu (ok_tmp (ok_sl (ok_late (pvs n__law_due_0)) ok_no (ok_part (ok_tmp (ok_k pe_int))))) (ok_tmp (ok_k pe_str))) (ok_seq (ok_ret (ok_tup (ok_ds (ok_k pe_str) (ok_ds (ok_bfT int_ok (glk g__law_due_int) Z.int_ bb_int (ok_pa (ok_tmp (ok_sl (ok_late (pvs n__law_due_0)) (ok_part (ok_tmp (ok_k pe_int))) ok_no)) ok_pa0) (nmk g__law_due_int) (dbk g__law_due_int)) ok_ds0))))
      ok_nil) ok_nil)
      (ok_seq (ok_if (ok_cmp2T hu (ok_tmp (ok_sl (ok_late (pvs n__law_due_0)) ok_no (ok_part (ok_tmp (ok_k pe_int))))) (ok_tmp (ok_k pe_str))) (ok_seq (ok_ret (ok_tup (ok_ds (ok_k pe_str) (ok_ds (ok_bfT int_ok (glk g__law_due_int) Z.int_ bb_int (ok_pa (ok_tmp (ok_sl (ok_late (pvs n__law_due_0)) (ok_part (ok_tmp (ok_k pe_int))) ok_no)) ok_pa0) (nmk g__law_due_int) (dbk g__law_due_int)) ok_ds0))))
      ok_nil) ok_nil)
      (ok_seq (ok_ret (ok_tup (ok_ds (ok_k pe_str) (ok_ds (ok_v (pvs n__law_due_0)) ok_ds0))))
      ok_nil))))
noncomputable abbrev s__law_number : Stmt := top 27
noncomputable abbrev N__law_number : List Str := ["_law_found", "_law_due_here"]
theorem sc__law_number : FnScope N__law_number ["_law_found", "_law_due_here"] (defScope s__law_number) := ⟨rfl, rfl, rfl, by decide +kernel, rfl, by decide +kernel, by decide +kernel⟩
theorem n__law_number_0 : slotOk (defScope s__law_number) N__law_number 0 "_law_found" false = true := by decide +kernel
theorem n__law_number_1 : slotOk (defScope s__law_number) N__law_number 1 "_law_due_here" false = true := by decide +kernel
theorem g__law_number_isinstance : glOk (defScope s__law_number) "isinstance" = true := by decide +kernel
theorem g__law_number_bool : glOk (defScope s__law_number) "bool" = true := by decide +kernel
theorem g__law_number_int : glOk (defScope s__law_number) "int" = true := by decide +kernel
noncomputable def ir__law_number : List T.S := [.ret (.and (.bf (.isi .int) [.v 0]) (.and (.nt (.bf (.isi .bool) [.v 0])) (.cmp .Eq (.v 0) (.v 1))))]
noncomputable def f__law_number : T.FI := ⟨true, T.runDef C0 2 2 ir__law_number⟩
set_option maxHeartbeats 8000000 in
theorem ok__law_number {P : Program} {w : World} {K : PySem.W.Frag} {mg : Str → Option Value} {base : Heap} {f : Addr} {fd : FuncData} {C : Addr} (F : Fun K "_law_number" "_law_number" s__law_number f fd) (Z : Txt K mg C)  : FnOk P w K mg base CX0 (0 + 1) f fd ["_law_found", "_law_due_here"] (T.spF K (T.runDef C0 2 2 ir__law_number)) :=
  T.def_ok' (C := C0) (body := ir__law_number) (k := 0) (N := N__law_number) F sc__law_number rfl rfl fun cdv A outer s H E hr =>
  have hu := hr.units
  (ok_seq (ok_ret (ok_andV (ok_tmp (ok_isi (t := .int) (n := "int") rfl (glk g__law_number_isinstance) Z.isinstance_ (ok_late (pvs n__law_number_0)) (pe_bltn (v := .ty "int") (glk g__law_number_int) Z.int_ b_int rfl (nmk g__law_number_int) (dbk g__law_number_int)))) (ok_andV (ok_tmp (ok_notV (ok_tmp (ok_isi (t := .bool) (n := "bool") rfl (glk g__law_number_isinstance) Z.isinstance_ (ok_late (pvs n__law_number_0)) (pe_bltn (v := .ty "bool") (glk g__law_number_bool) Z.bool_ b_bool rfl (nmk g__law_number_bool) (dbk g__law_number_bool)))))) (ok_one (ok_cmp2 hu (ok_late (pvs n__law_number_0)) (ok_late (pvs n__law_number_1)))))))
      ok_nil)
noncomputable abbrev s__law_right : Stmt := top 28
noncomputable abbrev N__law_right : List Str := ["_law_table", "_law_rows_here", "_law_text_here", "_law_case", "_law_symbol", "_law_found", "_law_shown"]
theorem sc__law_right : FnScope N__law_right ["_law_table", "_law_rows_here", "_law_text_here"] (defScope s__law_right) := ⟨rfl, rfl, rfl, by decide +kernel, rfl, by decide +kernel, by decide +kernel⟩
theorem g__law_right__law_number : glOk (defScope s__law_right) "_law_number" = true := by decide +kernel
theorem n__law_right_0 : slotOk (defScope s__law_right) N__law_right 0 "_law_table" false = true := by decide +kernel
theorem g__law_right_len : glOk (defScope s__law_right) "len" = true := by decide +kernel
theorem n__law_right_1 : slotOk (defScope s__law_right) N__law_right 1 "_law_rows_here" false = true := by decide +kernel
theorem g__law_right_range : glOk (defScope s__law_right) "range" = true := by decide +kernel
theorem n__law_right_3 : slotOk (defScope s__law_right) N__law_right 3 "_law_case" false = true := by decide +kernel
theorem n__law_right_4 : slotOk (defScope s__law_right) N__law_right 4 "_law_symbol" false = true := by decide +kernel
theorem n__law_right_5 : slotOk (defScope s__law_right) N__law_right 5 "_law_found" false = true := by decide +kernel
theorem g__law_right__law_due : glOk (defScope s__law_right) "_law_due" = true := by decide +kernel
theorem g__law_right_isinstance : glOk (defScope s__law_right) "isinstance" = true := by decide +kernel
theorem g__law_right_tuple : glOk (defScope s__law_right) "tuple" = true := by decide +kernel
theorem g__law_right_bool : glOk (defScope s__law_right) "bool" = true := by decide +kernel
theorem n__law_right_6 : slotOk (defScope s__law_right) N__law_right 6 "_law_shown" false = true := by decide +kernel
theorem n__law_right_2 : slotOk (defScope s__law_right) N__law_right 2 "_law_text_here" false = true := by decide +kernel
theorem g__law_right_str : glOk (defScope s__law_right) "str" = true := by decide +kernel
noncomputable def ir__law_right (C : Addr) : List T.S := [.iff (.or (.nt (.call f__law_number [.meth C "prime" (f_Table_prime C) (.v 0) [], .bf .len [.ix (.v 1) (.k (.int 0))]])) (.nt (.call f__law_number [.meth C "cases" (f_Table_cases C) (.v 0) [], .bf .len [.v 1]]))) [.ret (.k (.bl false))] [], .for_ (.name 3) .rng1 [.bf .len [.v 1]] [.for_ (.name 4) .rng1 [.bf .len [.ix (.v 1) (.k (.int 0))]] [.asg 5 (.meth C "means" (f_Table_means C) (.v 0) [.v 3, .v 4]), .iff (.or (.nt (.bf (.isi .tuple) [.v 5])) (.cmp .NotEq (.v 5) (.call f__law_due [.ix (.ix (.v 1) (.v 3)) (.v 4)]))) [.ret (.k (.bl false))] [], .iff (.bf (.isi .bool) [.ix (.v 5) (.k (.int 1))]) [.ret (.k (.bl false))] []]], .asg 6 (.meth C "shown" (f_Table_shown C) (.v 0) []), .ret (.and (.bf (.isi .str) [.v 6]) (.cmp .Eq (.v 6) (.v 2)))]
noncomputable def f__law_right (C : Addr) : T.FI := ⟨true, T.runDef (CK C) 3 7 (ir__law_right C)⟩
set_option maxHeartbeats 8000000 in
theorem ok__law_right {P : Program} {w : World} {K : PySem.W.Frag} {mg : Str → Option Value} {base : Heap} {f : Addr} {fd : FuncData} {C : Addr} (F : Fun K "_law_right" "_law_right" s__law_right f fd) (Z : Txt K mg C) (G__law_number : FnAt P w K mg base "_law_number" 1 ["_law_found", "_law_due_here"] (T.spF K f__law_number.run)) (G_Table_cases : MeAt P w K mg base C "cases" 1 ["self"] (T.spF K (f_Table_cases C).run)) (G_Table_prime : MeAt P w K mg base C "prime" 1 ["self"] (T.spF K (f_Table_prime C).run)) (G_Table_means : MeAt P w K mg base C "means" 1 ["self", "case", "symbol"] (T.spF K (f_Table_means C).run)) (G__law_due : FnAt P w K mg base "_law_due" 1 ["_law_word_here"] (T.spF K f__law_due.run)) (G_Table_shown : MeAt P w K mg base C "shown" 1 ["self"] (T.spF K (f_Table_shown C).run)) : FnOk P w K mg base CX0 (1 + 1) f fd ["_law_table", "_law_rows_here", "_law_text_here"] (T.spF K (T.runDef (CK C) 3 7 (ir__law_right C))) :=
  T.def_ok' (C := (CK C)) (body := (ir__law_right C)) (k := 1) (N := N__law_right) F sc__law_right rfl rfl fun cdv A outer s H E hr =>
  have hu := hr.units
  (ok_seq (ok_if (PW.pt (ok_orT (ok_notT (ok_tst (ok_tmp (ok_fn G__law_number hr (ok_pa (ok_tmp (ok_meth0 G_Table_prime hr (ok_late (pvs n__law_right_0)))) (ok_pa (ok_tmp (ok_bfB len_ok (glk g__law_right_len) Z.len_ bb_len (ok_pa (ok_tmp (ok_ix2 hu (ok_late (pvs n__law_right_1)) (ok_tmp (ok_k pe_int)))) ok_pa0) (nmk g__law_right_len) (dbk g__law_right_len))) ok_pa0)) (hg := glk g__law_right__law_number) (hdb := dbk g__law_right__law_number))))) (ok_or1 (ok_notT (ok_tst (ok_tmp (ok_fn G__law_number hr (ok_pa (ok_tmp (ok_meth0 G_Table_cases hr (ok_late (pvs n__law_right_0)))) (ok_pa (ok_tmp (ok_bfB len_ok (glk g__law_right_len) Z.len_ bb_len (ok_pa (ok_late (pvs n__law_right_1)) ok_pa0) (nmk g__law_right_len) (dbk g__law_right_len))) ok_pa0)) (hg := glk g__law_right__law_number) (hdb := dbk g__law_right__law_number)))))))) (ok_seq (ok_ret (ok_k pe_bl))
      ok_nil) ok_nil)
      (ok_seq (ok_for PassesOwn.never rfl (le_or _ _) (hw_1 (lt_opd rfl)) (ok_rng1 (glk g__law_right_range) Z.range_ (ok_tmp (ok_bfB len_ok (glk g__law_right_len) Z.len_ bb_len (ok_pa (ok_late (pvs n__law_right_1)) ok_pa0) (nmk g__law_right_len) (dbk g__law_right_len)))) (ok_tn n__law_right_3 sc__law_right.nd)
      (ok_seq (ok_for PassesOwn.never rfl (le_or _ _) (hw_1 (lt_opd rfl)) (ok_rng1 (glk g__law_right_range) Z.range_ (ok_tmp (ok_bfB len_ok (glk g__law_right_len) Z.len_ bb_len (ok_pa (ok_tmp (ok_ix2 hu (ok_late (pvs n__law_right_1)) (ok_tmp (ok_k pe_int)))) ok_pa0) (nmk g__law_right_len) (dbk g__law_right_len)))) (ok_tn n__law_right_4 sc__law_right.nd)
      (ok_seq (ok_asgs n__law_right_5 sc__law_right.nd (ok_meth G_Table_means hr (ok_late (pvs n__law_right_0)) (ok_pa (ok_late (pvs n__law_right_3)) (ok_pa (ok_late (pvs n__law_right_4)) ok_pa0))))
      (ok_seq (ok_if (PW.pt (ok_orT (ok_notT (ok_tst (ok_tmp (ok_isi (t := .tuple) (n := "tuple") rfl (glk g__law_right_isinstance) Z.isinstance_ (ok_late (pvs n__law_right_5)) (pe_bltn (v := .ty "tuple") (glk g__law_right_tuple) Z.tuple_ b_tuple rfl (nmk g__law_right_tuple) (dbk g__law_right_tuple)))))) (ok_or1 (ok_cmp2T hu (ok_late (pvs n__law_right_5)) (ok_tmp (ok_fn G__law_due hr (ok_pa (ok_tmp (ok_ix2 hu (ok_tmp (ok_ix2 hu (ok_late (pvs n__law_right_1)) (ok_late (pvs n__law_right_3)))) (ok_late (pvs n__law_right_4)))) ok_pa0) (hg := glk g__law_right__law_due) (hdb := dbk g__law_right__law_due))))))) (ok_seq (ok_ret (ok_k pe_bl))
      ok_nil) ok_nil)
      (ok_seq (ok_if (ok_tst (ok_tmp (ok_isi (t := .bool) (n := "bool") rfl (glk g__law_right_isinstance) Z.isinstance_ (ok_tmp (ok_ix2 hu (ok_late (pvs n__law_right_5)) (ok_tmp (ok_k pe_int)))) (pe_bltn (v := .ty "bool") (glk g__law_right_bool) Z.bool_ b_bool rfl (nmk g__law_right_bool) (dbk g__law_right_bool))))) (ok_seq (ok_ret (ok_k pe_bl))
      ok_nil) ok_nil)
      ok_nil))))
      ok_nil))
      (ok_seq (ok_asgs n__law_right_6 sc__law_right.nd (ok_meth0 G_Table_shown hr (ok_late (pvs n__law_right_0))))
      (ok_seq (ok_ret (ok_andV (ok_tmp (ok_isi (t := .str) (n := "str") rfl (glk g__law_right_isinstance) Z.isinstance_ (ok_late (pvs n__law_right_6)) (pe_bltn (v := .ty "str") (glk g__law_right_str) Z.str_ b_str rfl (nmk g__law_right_str) (dbk g__law_right_str)))) (ok_one (ok_cmp2 hu (ok_late (pvs n__law_right_6)) (ok_late (pvs n__law_right_2))))))
      ok_nil))))
noncomputable abbrev s_law : Stmt := top 29
noncomputable abbrev N_law : List Str := ["_law_script", "_law_rows_here", "_law_others", "_law_table", "_law_other"]
theorem sc_law : FnScope N_law ["_law_script"] (defScope s_law) := ⟨rfl, rfl, rfl, by decide +kernel, rfl, by decide +kernel, by decide +kernel⟩
theorem n_law_1 : slotOk (defScope s_law) N_law 1 "_law_rows_here" false = true := by decide +kernel
theorem g_law__law_rows : glOk (defScope s_law) "_law_rows" = true := by decide +kernel
theorem n_law_0 : slotOk (defScope s_law) N_law 0 "_law_script" false = true := by decide +kernel
theorem n_law_2 : slotOk (defScope s_law) N_law 2 "_law_others" false = true := by decide +kernel
theorem n_law_3 : slotOk (defScope s_law) N_law 3 "_law_table" false = true := by decide +kernel
theorem g_law_Table : glOk (defScope s_law) "Table" = true := by decide +kernel
theorem g_law__law_text : glOk (defScope s_law) "_law_text" = true := by decide +kernel
theorem g_law__law_right : glOk (defScope s_law) "_law_right" = true := by decide +kernel
theorem n_law_4 : slotOk (defScope s_law) N_law 4 "_law_other" false = true := by decide +kernel
noncomputable def ir_law (C : Addr) : List T.S := [.asg 1 (.call f__law_rows [.v 0, .k (.int 0)]), .asg 2 (.call f__law_rows [.v 0, .k (.int 5)]), .asg 3 (.new C (f_Table___init__ C) [.call f__law_text [.v 1]]), .iff (.nt (.call (f__law_right C) [.v 3, .v 1, .call f__law_text [.v 1]])) [.ret (.k (.bl false))] [], .asg 4 (.new C (f_Table___init__ C) [.call f__law_text [.v 2]]), .iff (.nt (.call (f__law_right C) [.v 4, .v 2, .call f__law_text [.v 2]])) [.ret (.k (.bl false))] [], .ret (.call (f__law_right C) [.v 3, .v 1, .call f__law_text [.v 1]])]
noncomputable def f_law (C : Addr) : T.FI := ⟨true, T.runDef (CK C) 1 5 (ir_law C)⟩
set_option maxHeartbeats 8000000 in
theorem ok_law {P : Program} {w : World} {K : PySem.W.Frag} {mg : Str → Option Value} {base : Heap} {f : Addr} {fd : FuncData} {C : Addr} (F : Fun K "law" "law" s_law f fd) (Z : Txt K mg C) (G__law_rows : FnAt P w K mg base "_law_rows" 2 ["_law_script", "_law_at"] (T.spF K f__law_rows.run)) (G_Table___init__ : MkAt P w K mg base "Table" C 3 ["self", "text"] (T.spF K (f_Table___init__ C).run)) (G__law_text : FnAt P w K mg base "_law_text" 1 ["_law_rows_here"] (T.spF K f__law_text.run)) (G__law_right : FnAt P w K mg base "_law_right" 2 ["_law_table", "_law_rows_here", "_law_text_here"] (T.spF K (f__law_right C).run)) : FnOk P w K mg base CX0 (4 + 1) f fd ["_law_script"] (T.spF K (T.runDef (CK C) 1 5 (ir_law C))) :=
  T.def_ok' (C := (CK C)) (body := (ir_law C)) (k := 4) (N := N_law) F sc_law rfl rfl fun cdv A outer s H E hr =>
  have hu := hr.units
  (ok_seq (ok_asgs n_law_1 sc_law.nd (ok_fn G__law_rows hr (ok_pa (ok_late (pvs n_law_0)) (ok_pa (ok_tmp (ok_k pe_int)) ok_pa0)) (hg := glk g_law__law_rows) (hdb := dbk g_law__law_rows)))
      (ok_seq (ok_asgs n_law_2 sc_law.nd (ok_fn G__law_rows hr (ok_pa (ok_late (pvs n_law_0)) (ok_pa (ok_tmp (ok_k pe_int)) ok_pa0)) (hg := glk g_law__law_rows) (hdb := dbk g_law__law_rows)))
      (ok_seq (ok_asgs n_law_3 sc_law.nd (ok_new G_Table___init__ hr (ok_pa (ok_tmp (ok_fn G__law_text hr (ok_pa (ok_late (pvs n_law_1)) ok_pa0) (hg := glk g_law__law_text) (hdb := dbk g_law__law_text))) ok_pa0) (hg := glk g_law_Table) (hdb := dbk g_law_Table)))
      (ok_seq (ok_if (ok_notT (ok_tst (ok_tmp (ok_fn G__law_right hr (ok_pa (ok_late (pvs n_law_3)) (ok_pa (ok_late (pvs n_law_1)) (ok_pa (ok_tmp (ok_fn G__law_text hr (ok_pa (ok_late (pvs n_law_1)) ok_pa0) (hg := glk g_law__law_text) (hdb := dbk g_law__law_text))) ok_pa0))) (hg := glk g_law__law_right) (hdb := dbk g_law__law_right))))) (ok_seq (ok_ret (ok_k pe_bl))
      ok_nil) ok_nil)
      (ok_seq (ok_asgs n_law_4 sc_law.nd (ok_new G_Table___init__ hr (ok_pa (ok_tmp (ok_fn G__law_text hr (ok_pa (ok_late (pvs n_law_2)) ok_pa0) (hg := glk g_law__law_text) (hdb := dbk g_law__law_text))) ok_pa0) (hg := glk g_law_Table) (hdb := dbk g_law_Table)))
      (ok_seq (ok_if (ok_notT (ok_tst (ok_tmp (ok_fn G__law_right hr (ok_pa (ok_late (pvs n_law_4)) (ok_pa (ok_late (pvs n_law_2)) (ok_pa (ok_tmp (ok_fn G__law_text hr (ok_pa (ok_late (pvs n_law_2)) ok_pa0) (hg := glk g_law__law_text) (hdb := dbk g_law__law_text))) ok_pa0))) (hg := glk g_law__law_right) (hdb := dbk g_law__law_right))))) (ok_seq (ok_ret (ok_k pe_bl))
      ok_nil) ok_nil)
      (ok_seq (ok_ret (ok_fn G__law_right hr (ok_pa (ok_late (pvs n_law_3)) (ok_pa (ok_late (pvs n_law_1)) (ok_pa (ok_tmp (ok_fn G__law_text hr (ok_pa (ok_late (pvs n_law_1)) ok_pa0) (hg := glk g_law__law_text) (hdb := dbk g_law__law_text))) ok_pa0))) (hg := glk g_law__law_right) (hdb := dbk g_law__law_right)))
      ok_nil)))))))
theorem all_mk {l : PySem.W.OpenLaw} {w : World} {K : PySem.W.Frag} {h : Heap} {mg : Str → Option Value} {fa a0 a1 a2 a3 a4 a5 a6 a7 a8 a9 a10 a11 a12 a13 a14 a15 a16 a17 a18 C : Addr} (X : K.In h) (G : h.Ns mainGlobals mg) (hfa : mg "law" = some (.ref fa))
    {od0 an0 od1 an1 od2 an2 od3 an3 od4 an4 od5 an5 od6 an6 od7 an7 od8 an8 od9 an9 od10 an10 od11 an11 od12 an12 od13 an13 od14 an14 od15 an15 od16 an16 od17 an17 od18 an18 : Option Addr} {sl0 sl1 sl2 sl3 sl4 sl5 sl6 sl7 sl8 sl9 sl10 sl11 sl12 sl13 sl14 sl15 sl16 sl17 sl18 : Array (Option Value)} {oc0 kV0 dc0 pm0 cd0 ct0 oc1 kV1 dc1 pm1 cd1 ct1 oc2 kV2 dc2 pm2 cd2 ct2 oc3 kV3 dc3 pm3 cd3 ct3 oc4 kV4 dc4 pm4 cd4 ct4 oc5 kV5 dc5 pm5 cd5 ct5 oc6 kV6 dc6 pm6 cd6 ct6 oc7 kV7 dc7 pm7 cd7 ct7 oc8 kV8 dc8 pm8 cd8 ct8 oc9 kV9 dc9 pm9 cd9 ct9 oc10 kV10 dc10 pm10 cd10 ct10 oc11 kV11 dc11 pm11 cd11 ct11 oc12 kV12 dc12 pm12 cd12 ct12 oc13 kV13 dc13 pm13 cd13 ct13 oc14 kV14 dc14 pm14 cd14 ct14 oc15 kV15 dc15 pm15 cd15 ct15 oc16 kV16 dc16 pm16 cd16 ct16 oc17 kV17 dc17 pm17 cd17 ct17 oc18 kV18 dc18 pm18 cd18 ct18 : Value}
    (aC : PySem.W.nsIn K mainGlobals "Table" = some (some (.ref C))) (pgC : PySem.W.plainGet K C Str.empty = true) (hdC : PySem.W.hasDictIn K C = true) (poC : PySem.W.plainOver K C = true) (saC : PySem.W.findIn K (.ref C) "__setattr__" = some (some (.builtin "object.__setattr__"))) (mkC : PySem.W.makesIn K C = true) (kcC : PySem.W.keepIn K (.ref C) = true)
    (nF0 : PySem.W.findIn K (.ref C) "size" = some none)
    (nF1 : PySem.W.findIn K (.ref C) "meanings" = some none)
    (nF2 : PySem.W.findIn K (.ref C) "text" = some none)
    (x0 : PySem.W.nsIn K mainGlobals "prime_told" = some (some (.ref a0))) (l0 : K.lookup a0 = some ⟨oc0, od0, .func (PySem.W.fnOf "prime_told" "prime_told" (defArgs s_prime_told) (defBody s_prime_told) (defScope s_prime_told) .none kV0 dc0 pm0 an0 cd0 ct0), sl0⟩) (c0 : PySem.W.codeIn K cd0 "prime_told" = true) (k0 : PySem.W.keepIn K (.ref a0) = true)
    (x1 : PySem.W.nsIn K mainGlobals "meanings_of_words" = some (some (.ref a1))) (l1 : K.lookup a1 = some ⟨oc1, od1, .func (PySem.W.fnOf "meanings_of_words" "meanings_of_words" (defArgs s_meanings_of_words) (defBody s_meanings_of_words) (defScope s_meanings_of_words) .none kV1 dc1 pm1 an1 cd1 ct1), sl1⟩) (c1 : PySem.W.codeIn K cd1 "meanings_of_words" = true) (k1 : PySem.W.keepIn K (.ref a1) = true)
    (x2 : PySem.W.nsIn K mainGlobals "rows_of" = some (some (.ref a2))) (l2 : K.lookup a2 = some ⟨oc2, od2, .func (PySem.W.fnOf "rows_of" "rows_of" (defArgs s_rows_of) (defBody s_rows_of) (defScope s_rows_of) .none kV2 dc2 pm2 an2 cd2 ct2), sl2⟩) (c2 : PySem.W.codeIn K cd2 "rows_of" = true) (k2 : PySem.W.keepIn K (.ref a2) = true)
    (x3 : PySem.W.nsIn K mainGlobals "check_row_count" = some (some (.ref a3))) (l3 : K.lookup a3 = some ⟨oc3, od3, .func (PySem.W.fnOf "check_row_count" "check_row_count" (defArgs s_check_row_count) (defBody s_check_row_count) (defScope s_check_row_count) .none kV3 dc3 pm3 an3 cd3 ct3), sl3⟩) (c3 : PySem.W.codeIn K cd3 "check_row_count" = true) (k3 : PySem.W.keepIn K (.ref a3) = true)
    (x4 : PySem.W.nsIn K mainGlobals "meanings_of_rows" = some (some (.ref a4))) (l4 : K.lookup a4 = some ⟨oc4, od4, .func (PySem.W.fnOf "meanings_of_rows" "meanings_of_rows" (defArgs s_meanings_of_rows) (defBody s_meanings_of_rows) (defScope s_meanings_of_rows) .none kV4 dc4 pm4 an4 cd4 ct4), sl4⟩) (c4 : PySem.W.codeIn K cd4 "meanings_of_rows" = true) (k4 : PySem.W.keepIn K (.ref a4) = true)
    (x5 : PySem.W.findIn K (.ref C) "__init__" = some (some (.ref a5))) (y5 : PySem.W.isFn K (.ref a5) = true) (l5 : K.lookup a5 = some ⟨oc5, od5, .func (PySem.W.fnOf "__init__" "Table.__init__" (defArgs s_Table___init__) (defBody s_Table___init__) (defScope s_Table___init__) .none kV5 dc5 pm5 an5 cd5 ct5), sl5⟩) (c5 : PySem.W.codeIn K cd5 "Table.__init__" = true) (k5 : PySem.W.keepIn K (.ref a5) = true)
    (x6 : PySem.W.findIn K (.ref C) "prime" = some (some (.ref a6))) (y6 : PySem.W.isFn K (.ref a6) = true) (l6 : K.lookup a6 = some ⟨oc6, od6, .func (PySem.W.fnOf "prime" "Table.prime" (defArgs s_Table_prime) (defBody s_Table_prime) (defScope s_Table_prime) .none kV6 dc6 pm6 an6 cd6 ct6), sl6⟩) (c6 : PySem.W.codeIn K cd6 "Table.prime" = true) (k6 : PySem.W.keepIn K (.ref a6) = true)
    (x7 : PySem.W.findIn K (.ref C) "cases" = some (some (.ref a7))) (y7 : PySem.W.isFn K (.ref a7) = true) (l7 : K.lookup a7 = some ⟨oc7, od7, .func (PySem.W.fnOf "cases" "Table.cases" (defArgs s_Table_cases) (defBody s_Table_cases) (defScope s_Table_cases) .none kV7 dc7 pm7 an7 cd7 ct7), sl7⟩) (c7 : PySem.W.codeIn K cd7 "Table.cases" = true) (k7 : PySem.W.keepIn K (.ref a7) = true)
    (x8 : PySem.W.findIn K (.ref C) "means" = some (some (.ref a8))) (y8 : PySem.W.isFn K (.ref a8) = true) (l8 : K.lookup a8 = some ⟨oc8, od8, .func (PySem.W.fnOf "means" "Table.means" (defArgs s_Table_means) (defBody s_Table_means) (defScope s_Table_means) .none kV8 dc8 pm8 an8 cd8 ct8), sl8⟩) (c8 : PySem.W.codeIn K cd8 "Table.means" = true) (k8 : PySem.W.keepIn K (.ref a8) = true)
    (x9 : PySem.W.findIn K (.ref C) "shown" = some (some (.ref a9))) (y9 : PySem.W.isFn K (.ref a9) = true) (l9 : K.lookup a9 = some ⟨oc9, od9, .func (PySem.W.fnOf "shown" "Table.shown" (defArgs s_Table_shown) (defBody s_Table_shown) (defScope s_Table_shown) .none kV9 dc9 pm9 an9 cd9 ct9), sl9⟩) (c9 : PySem.W.codeIn K cd9 "Table.shown" = true) (k9 : PySem.W.keepIn K (.ref a9) = true)
    (x10 : PySem.W.nsIn K mainGlobals "_law_cell" = some (some (.ref a10))) (l10 : K.lookup a10 = some ⟨oc10, od10, .func (PySem.W.fnOf "_law_cell" "_law_cell" (defArgs s__law_cell) (defBody s__law_cell) (defScope s__law_cell) .none kV10 dc10 pm10 an10 cd10 ct10), sl10⟩) (c10 : PySem.W.codeIn K cd10 "_law_cell" = true) (k10 : PySem.W.keepIn K (.ref a10) = true)
    (x11 : PySem.W.nsIn K mainGlobals "_law_spun" = some (some (.ref a11))) (l11 : K.lookup a11 = some ⟨oc11, od11, .func (PySem.W.fnOf "_law_spun" "_law_spun" (defArgs s__law_spun) (defBody s__law_spun) (defScope s__law_spun) .none kV11 dc11 pm11 an11 cd11 ct11), sl11⟩) (c11 : PySem.W.codeIn K cd11 "_law_spun" = true) (k11 : PySem.W.keepIn K (.ref a11) = true)
    (x12 : PySem.W.nsIn K mainGlobals "_law_word" = some (some (.ref a12))) (l12 : K.lookup a12 = some ⟨oc12, od12, .func (PySem.W.fnOf "_law_word" "_law_word" (defArgs s__law_word) (defBody s__law_word) (defScope s__law_word) .none kV12 dc12 pm12 an12 cd12 ct12), sl12⟩) (c12 : PySem.W.codeIn K cd12 "_law_word" = true) (k12 : PySem.W.keepIn K (.ref a12) = true)
    (x13 : PySem.W.nsIn K mainGlobals "_law_rows" = some (some (.ref a13))) (l13 : K.lookup a13 = some ⟨oc13, od13, .func (PySem.W.fnOf "_law_rows" "_law_rows" (defArgs s__law_rows) (defBody s__law_rows) (defScope s__law_rows) .none kV13 dc13 pm13 an13 cd13 ct13), sl13⟩) (c13 : PySem.W.codeIn K cd13 "_law_rows" = true) (k13 : PySem.W.keepIn K (.ref a13) = true)
    (x14 : PySem.W.nsIn K mainGlobals "_law_text" = some (some (.ref a14))) (l14 : K.lookup a14 = some ⟨oc14, od14, .func (PySem.W.fnOf "_law_text" "_law_text" (defArgs s__law_text) (defBody s__law_text) (defScope s__law_text) .none kV14 dc14 pm14 an14 cd14 ct14), sl14⟩) (c14 : PySem.W.codeIn K cd14 "_law_text" = true) (k14 : PySem.W.keepIn K (.ref a14) = true)
    (x15 : PySem.W.nsIn K mainGlobals "_law_due" = some (some (.ref a15))) (l15 : K.lookup a15 = some ⟨oc15, od15, .func (PySem.W.fnOf "_law_due" "_law_due" (defArgs s__law_due) (defBody s__law_due) (defScope s__law_due) .none kV15 dc15 pm15 an15 cd15 ct15), sl15⟩) (c15 : PySem.W.codeIn K cd15 "_law_due" = true) (k15 : PySem.W.keepIn K (.ref a15) = true)
    (x16 : PySem.W.nsIn K mainGlobals "_law_number" = some (some (.ref a16))) (l16 : K.lookup a16 = some ⟨oc16, od16, .func (PySem.W.fnOf "_law_number" "_law_number" (defArgs s__law_number) (defBody s__law_number) (defScope s__law_number) .none kV16 dc16 pm16 an16 cd16 ct16), sl16⟩) (c16 : PySem.W.codeIn K cd16 "_law_number" = true) (k16 : PySem.W.keepIn K (.ref a16) = true)
    (x17 : PySem.W.nsIn K mainGlobals "_law_right" = some (some (.ref a17))) (l17 : K.lookup a17 = some ⟨oc17, od17, .func (PySem.W.fnOf "_law_right" "_law_right" (defArgs s__law_right) (defBody s__law_right) (defScope s__law_right) .none kV17 dc17 pm17 an17 cd17 ct17), sl17⟩) (c17 : PySem.W.codeIn K cd17 "_law_right" = true) (k17 : PySem.W.keepIn K (.ref a17) = true)
    (x18 : PySem.W.nsIn K mainGlobals "law" = some (some (.ref a18))) (l18 : K.lookup a18 = some ⟨oc18, od18, .func (PySem.W.fnOf "law" "law" (defArgs s_law) (defBody s_law) (defScope s_law) .none kV18 dc18 pm18 an18 cd18 ct18), sl18⟩) (c18 : PySem.W.codeIn K cd18 "law" = true) (k18 : PySem.W.keepIn K (.ref a18) = true)
    (z0 : PySem.W.nsIn K mainGlobals "all" = some none)
    (z1 : PySem.W.nsIn K mainGlobals "bool" = some none)
    (z2 : PySem.W.nsIn K mainGlobals "int" = some none)
    (z3 : PySem.W.nsIn K mainGlobals "isinstance" = some none)
    (z4 : PySem.W.nsIn K mainGlobals "len" = some none)
    (z5 : PySem.W.nsIn K mainGlobals "range" = some none)
    (z6 : PySem.W.nsIn K mainGlobals "str" = some none)
    (z7 : PySem.W.nsIn K mainGlobals "tuple" = some none)
    {tc0 : Tok} (zc0 : PySem.W.nsIn K mainGlobals "MOST_ROWS" = some (some (.int 5 tc0)))
    {ts0 : Tok} (zs0 : PySem.W.nsIn K mainGlobals "SIGNS" = some (some (.str "abcdefghijklmnopqrstuvwxyz0123456789" ts0)))
    {at0 : Addr} {dt0 : Option Addr} {it0 : Array Value} {nt0 : Nat} {st0 : Array (Option Value)} (zt0 : PySem.W.nsIn K mainGlobals "PRIMES" = some (some (.ref at0))) (zl0 : K.lookup at0 = some ⟨.type "tuple", dt0, .seq it0 nt0, st0⟩) (zz0 : it0.size ≤ 1000) (zi0 : (it0.toList.map fun u => match u with | .int i _ => some i | _ => none) = ([5, 7, 11, 13, 17, 19, 23, 29, 31, 37, 41, 43, 47] : List Int).map some)
    : ∃ fd : FuncData, (∀ (s : Shared) (v : Value), BindsTo s fd ⟨[v], []⟩ [("_law_script", v)]) ∧ ∀ base : Heap, K.In base → base.Ns mainGlobals mg → FnOk l.prog w K mg base CX0 5 fa fd ["_law_script"] (T.spF K (f_law (clsOf K)).run) := by
  have hC : clsOf K = C := by unfold clsOf; rw [aC]
  rw [hC]
  have e := hfa.symm.trans (PySem.W.mg_of X G x18)
  cases e
  have Z : Txt K mg C := ⟨PySem.W.mg_none_of X G z0, PySem.W.mg_none_of X G z1, PySem.W.mg_none_of X G z2, PySem.W.mg_none_of X G z3, PySem.W.mg_none_of X G z4, PySem.W.mg_none_of X G z5, PySem.W.mg_none_of X G z6, PySem.W.mg_none_of X G z7, ⟨tc0, PySem.W.mg_of X G zc0⟩, ⟨ts0, PySem.W.mg_of X G zs0⟩, T.modT_mk X G zt0 zl0 (by rw [T.szl]; omega) zi0, ⟨pgC, hdC, poC, saC⟩, nF0, nF1, nF2⟩
  have F0 := fun_mk (st := s_prime_told) l0 c0 k0
  have b0 := F0.binds (ps := ["first"]) fun _ _ _ _ _ _ => T.us1 fun _ => rfl
  have F1 := fun_mk (st := s_meanings_of_words) l1 c1 k1
  have b1 := F1.binds (ps := ["cases"]) fun _ _ _ _ _ _ => T.us1 fun _ => rfl
  have F2 := fun_mk (st := s_rows_of) l2 c2 k2
  have b2 := F2.binds (ps := ["text"]) fun _ _ _ _ _ _ => T.us1 fun _ => rfl
  have F3 := fun_mk (st := s_check_row_count) l3 c3 k3
  have b3 := F3.binds (ps := ["rows"]) fun _ _ _ _ _ _ => T.us1 fun _ => rfl
  have F4 := fun_mk (st := s_meanings_of_rows) l4 c4 k4
  have b4 := F4.binds (ps := ["prime", "rows"]) fun _ _ _ _ _ _ => T.us2 fun _ _ => rfl
  have F5 := fun_mk (st := s_Table___init__) l5 c5 k5
  have b5 := F5.binds (ps := ["self", "text"]) fun _ _ _ _ _ _ => T.us2 fun _ _ => rfl
  have F6 := fun_mk (st := s_Table_prime) l6 c6 k6
  have b6 := F6.binds (ps := ["self"]) fun _ _ _ _ _ _ => T.us1 fun _ => rfl
  have F7 := fun_mk (st := s_Table_cases) l7 c7 k7
  have b7 := F7.binds (ps := ["self"]) fun _ _ _ _ _ _ => T.us1 fun _ => rfl
  have F8 := fun_mk (st := s_Table_means) l8 c8 k8
  have b8 := F8.binds (ps := ["self", "case", "symbol"]) fun _ _ _ _ _ _ => T.us3 fun _ _ _ => rfl
  have F9 := fun_mk (st := s_Table_shown) l9 c9 k9
  have b9 := F9.binds (ps := ["self"]) fun _ _ _ _ _ _ => T.us1 fun _ => rfl
  have F10 := fun_mk (st := s__law_cell) l10 c10 k10
  have b10 := F10.binds (ps := ["_law_script", "_law_place"]) fun _ _ _ _ _ _ => T.us2 fun _ _ => rfl
  have F11 := fun_mk (st := s__law_spun) l11 c11 k11
  have b11 := F11.binds (ps := ["_law_cell_here", "_law_turn", "_law_many"]) fun _ _ _ _ _ _ => T.us3 fun _ _ _ => rfl
  have F12 := fun_mk (st := s__law_word) l12 c12 k12
  have b12 := F12.binds (ps := ["_law_x", "_law_pool", "_law_cases"]) fun _ _ _ _ _ _ => T.us3 fun _ _ _ => rfl
  have F13 := fun_mk (st := s__law_rows) l13 c13 k13
  have b13 := F13.binds (ps := ["_law_script", "_law_at"]) fun _ _ _ _ _ _ => T.us2 fun _ _ => rfl
  have F14 := fun_mk (st := s__law_text) l14 c14 k14
  have b14 := F14.binds (ps := ["_law_rows_here"]) fun _ _ _ _ _ _ => T.us1 fun _ => rfl
  have F15 := fun_mk (st := s__law_due) l15 c15 k15
  have b15 := F15.binds (ps := ["_law_word_here"]) fun _ _ _ _ _ _ => T.us1 fun _ => rfl
  have F16 := fun_mk (st := s__law_number) l16 c16 k16
  have b16 := F16.binds (ps := ["_law_found", "_law_due_here"]) fun _ _ _ _ _ _ => T.us2 fun _ _ => rfl
  have F17 := fun_mk (st := s__law_right) l17 c17 k17
  have b17 := F17.binds (ps := ["_law_table", "_law_rows_here", "_law_text_here"]) fun _ _ _ _ _ _ => T.us3 fun _ _ _ => rfl
  have F18 := fun_mk (st := s_law) l18 c18 k18
  refine ⟨PySem.W.fnOf "law" "law" (defArgs s_law) (defBody s_law) (defScope s_law) .none kV18 dc18 pm18 an18 cd18 ct18, fun s v => .of_eq rfl, fun base _ _ => ?_⟩
  have G_prime_told : FnAt l.prog w K mg base "prime_told" 1 ["first"] (T.spF K f_prime_told.run) := ⟨_, _, ok_prime_told (P := l.prog) (w := w) (base := base) F0 Z , PySem.W.mg_of X G x0, k0, b0⟩
  have G_meanings_of_words : FnAt l.prog w K mg base "meanings_of_words" 1 ["cases"] (T.spF K f_meanings_of_words.run) := ⟨_, _, ok_meanings_of_words (P := l.prog) (w := w) (base := base) F1 Z , PySem.W.mg_of X G x1, k1, b1⟩
  have G_rows_of : FnAt l.prog w K mg base "rows_of" 1 ["text"] (T.spF K f_rows_of.run) := ⟨_, _, ok_rows_of (P := l.prog) (w := w) (base := base) F2 Z , PySem.W.mg_of X G x2, k2, b2⟩
  have G_check_row_count : FnAt l.prog w K mg base "check_row_count" 1 ["rows"] (T.spF K f_check_row_count.run) := ⟨_, _, ok_check_row_count (P := l.prog) (w := w) (base := base) F3 Z , PySem.W.mg_of X G x3, k3, b3⟩
  have G_meanings_of_rows : FnAt l.prog w K mg base "meanings_of_rows" 2 ["prime", "rows"] (T.spF K f_meanings_of_rows.run) := ⟨_, _, ok_meanings_of_rows (P := l.prog) (w := w) (base := base) F4 Z G_meanings_of_words, PySem.W.mg_of X G x4, k4, b4⟩
  have G_Table___init__ : MkAt l.prog w K mg base "Table" C 3 ["self", "text"] (T.spF K (f_Table___init__ C).run) := ⟨_, _, ok_Table___init__ (P := l.prog) (w := w) (base := base) F5 Z G_rows_of G_prime_told G_check_row_count G_meanings_of_rows, ⟨mkC, x5, y5, kcC⟩, PySem.W.mg_of X G aC, b5⟩
  have G_Table_prime : MeAt l.prog w K mg base C "prime" 1 ["self"] (T.spF K (f_Table_prime C).run) := ⟨⟨_, _, ok_Table_prime (P := l.prog) (w := w) (base := base) F6 Z , ⟨x6, y6, k6⟩, b6⟩, Z.cl⟩
  have G_Table_cases : MeAt l.prog w K mg base C "cases" 1 ["self"] (T.spF K (f_Table_cases C).run) := ⟨⟨_, _, ok_Table_cases (P := l.prog) (w := w) (base := base) F7 Z , ⟨x7, y7, k7⟩, b7⟩, Z.cl⟩
  have G_Table_means : MeAt l.prog w K mg base C "means" 1 ["self", "case", "symbol"] (T.spF K (f_Table_means C).run) := ⟨⟨_, _, ok_Table_means (P := l.prog) (w := w) (base := base) F8 Z , ⟨x8, y8, k8⟩, b8⟩, Z.cl⟩
  have G_Table_shown : MeAt l.prog w K mg base C "shown" 1 ["self"] (T.spF K (f_Table_shown C).run) := ⟨⟨_, _, ok_Table_shown (P := l.prog) (w := w) (base := base) F9 Z , ⟨x9, y9, k9⟩, b9⟩, Z.cl⟩
  have G__law_cell : FnAt l.prog w K mg base "_law_cell" 1 ["_law_script", "_law_place"] (T.spF K f__law_cell.run) := ⟨_, _, ok__law_cell (P := l.prog) (w := w) (base := base) F10 Z , PySem.W.mg_of X G x10, k10, b10⟩
  have G__law_spun : FnAt l.prog w K mg base "_law_spun" 1 ["_law_cell_here", "_law_turn", "_law_many"] (T.spF K f__law_spun.run) := ⟨_, _, ok__law_spun (P := l.prog) (w := w) (base := base) F11 Z , PySem.W.mg_of X G x11, k11, b11⟩
  have G__law_word : FnAt l.prog w K mg base "_law_word" 1 ["_law_x", "_law_pool", "_law_cases"] (T.spF K f__law_word.run) := ⟨_, _, ok__law_word (P := l.prog) (w := w) (base := base) F12 Z , PySem.W.mg_of X G x12, k12, b12⟩
  have G__law_rows : FnAt l.prog w K mg base "_law_rows" 2 ["_law_script", "_law_at"] (T.spF K f__law_rows.run) := ⟨_, _, ok__law_rows (P := l.prog) (w := w) (base := base) F13 Z G__law_cell G__law_spun G__law_word, PySem.W.mg_of X G x13, k13, b13⟩
  have G__law_text : FnAt l.prog w K mg base "_law_text" 1 ["_law_rows_here"] (T.spF K f__law_text.run) := ⟨_, _, ok__law_text (P := l.prog) (w := w) (base := base) F14 Z , PySem.W.mg_of X G x14, k14, b14⟩
  have G__law_due : FnAt l.prog w K mg base "_law_due" 1 ["_law_word_here"] (T.spF K f__law_due.run) := ⟨_, _, ok__law_due (P := l.prog) (w := w) (base := base) F15 Z , PySem.W.mg_of X G x15, k15, b15⟩
  have G__law_number : FnAt l.prog w K mg base "_law_number" 1 ["_law_found", "_law_due_here"] (T.spF K f__law_number.run) := ⟨_, _, ok__law_number (P := l.prog) (w := w) (base := base) F16 Z , PySem.W.mg_of X G x16, k16, b16⟩
  have G__law_right : FnAt l.prog w K mg base "_law_right" 2 ["_law_table", "_law_rows_here", "_law_text_here"] (T.spF K (f__law_right C).run) := ⟨_, _, ok__law_right (P := l.prog) (w := w) (base := base) F17 Z G__law_number G_Table_cases G_Table_prime G_Table_means G__law_due G_Table_shown, PySem.W.mg_of X G x17, k17, b17⟩
  exact ok_law (P := l.prog) (w := w) (base := base) F18 Z G__law_rows G_Table___init__ G__law_text G__law_right
end
local macro_rules | `(tactic| walk_at "ev") => `(tactic| simp only [bndA, bndR_ok, retA, liftA, ite_app, opd_v, lateA, atR_sc, atR_nd, viewA, vwR_sc, vwR_f, vwR_t, view_sc, view_nd, valA, vlR_sc, movA, mvR_nd, takeL, takeT, tkR_sc, tkR_f, tkR_t, takes0, takes1, giveL, giveT, gvR_sc, gvR_nd, gvR_h, gives0, gives1, views0, views1, callA, cfR_ok, exs1, exs0, seqR_nx, seqR_rt, forR_nx, e_k, o_k, e_bin, o_bin, e_cmp, t_cmp, e_nt, t_nt, o_nt, e_and, t_or, e_ix, o_ix, e_sl, o_sl, e_fld, o_fld, e_lst, e_tup, o_kl, e_call, t_call, o_call, e_bf, t_bf, o_bf, e_bm, e_meth, o_meth, e_new, e_compE, o_comp, e_v, e_append, opds0, opds1, evs0, evs1, tsts0, x_asg, x_attr, x_ex, x_ret, x_iff, x_for_, ret_v, r_k, r_bin, r_and, r_ix, r_fld, r_tup, r_call, r_bf, r_bm, b_add, b_sub, c_lt2, c_gt2, c_ge2, c_eqi2, c_nei2, c_eqs2, c_in, key_s, ix_d, boolA, and_t, not_b, tru_b, len_l, len_f, part_n, part_v, part_c, intp, asgt_n, asgn, holds0, holds1, hold_l, hdR_sc, hdR_t, hold_s, giveH0, giveH1, it_l, modA, appM1, chkA, ckR_l, ix_l, ix_f, ix_t, shrL, shr, walked, C0, scr, List.getElem?_cons_zero, List.getElem?_cons_succ, List.set_cons_zero, List.set_cons_succ, List.length_cons, List.length_nil, Option.map_some, Option.bind_some, Option.toList_none, Option.toList_some, List.nil_append, List.append_nil, List.cons_append, List.map_cons, List.map_nil, if_true, if_false, Bool.false_eq_true, Bool.and_true, Bool.true_and, Bool.or_true, Bool.true_or, Bool.or_false, Bool.false_or, Bool.not_false, Bool.not_true, decide_true, decide_false, Nat.reduceLT, Nat.reduceAdd, Nat.reduceLeDiff, beq_self_eq_true, Nat.reduceBEq, Bool.and_false, Bool.false_and, reduceCtorEq, ite_true, ite_false])
theorem str_ext {a b : Str} (h : a.cps.toList = b.cps.toList) : a = b := by
  obtain ⟨⟨x⟩⟩ := a
  obtain ⟨⟨y⟩⟩ := b
  exact congrArg (fun l => (⟨⟨l⟩⟩ : Str)) h
theorem codes_append (a b : Str) : (a ++ b).cps.toList = a.cps.toList ++ b.cps.toList := by
  show (a.cps ++ b.cps).toList = _
  rw [Array.toList_append]
theorem cut_uniq {c : Nat} : ∀ {p q a b : List Nat}, c ∉ p → c ∉ q → p ++ c :: a = q ++ c :: b → p = q ∧ a = b
  | [], [], a, b, _, _, h => ⟨rfl, (List.cons.inj h).2⟩
  | [], y :: q, a, b, _, hq, h => absurd (List.cons.inj h).1 (fun e => hq (e ▸ List.mem_cons_self))
  | x :: p, [], a, b, hp, _, h => absurd (List.cons.inj h).1 (fun e => hp (e ▸ List.mem_cons_self))
  | x :: p, y :: q, a, b, hp, hq, h => by
    have h1 := List.cons.inj h
    obtain ⟨e1, e2⟩ := cut_uniq (fun m => hp (List.mem_cons_of_mem _ m)) (fun m => hq (List.mem_cons_of_mem _ m)) h1.2
    exact ⟨by rw [h1.1, e1], e2⟩
theorem codes_join2 (c : Nat) (p q : Str) (r : List Str) : (Str.join ⟨#[c]⟩ (p :: q :: r)).cps.toList = p.cps.toList ++ c :: (Str.join ⟨#[c]⟩ (q :: r)).cps.toList := by
  show (p ++ ⟨#[c]⟩ ++ Str.join ⟨#[c]⟩ (q :: r)).cps.toList = _
  rw [codes_append, codes_append, List.append_assoc]
  rfl
theorem join_inj (c : Nat) : ∀ (ps qs : List Str), ps ≠ [] → qs ≠ [] → (∀ p ∈ ps, c ∉ p.cps.toList) → (∀ q ∈ qs, c ∉ q.cps.toList) → Str.join ⟨#[c]⟩ ps = Str.join ⟨#[c]⟩ qs → ps = qs
  | [], _, h, _, _, _, _ => absurd rfl h
  | _, [], _, h, _, _, _ => absurd rfl h
  | [p], [q], _, _, _, _, h => by
    have h' : p = q := h
    rw [h']
  | [p], q :: q' :: r, _, _, hp, _, h => by
    have e := congrArg (fun x : Str => x.cps.toList) h
    simp only [codes_join2] at e
    have e' : p.cps.toList = q.cps.toList ++ c :: (Str.join ⟨#[c]⟩ (q' :: r)).cps.toList := e
    exact absurd (by rw [e']; simp) (hp p (by simp))
  | p :: p' :: r, [q], _, _, _, hq, h => by
    have e := congrArg (fun x : Str => x.cps.toList) h
    simp only [codes_join2] at e
    have e' : p.cps.toList ++ c :: (Str.join ⟨#[c]⟩ (p' :: r)).cps.toList = q.cps.toList := e
    exact absurd (by rw [← e']; simp) (hq q (by simp))
  | p :: p' :: r, q :: q' :: t, _, _, hp, hq, h => by
    have e := congrArg (fun x : Str => x.cps.toList) h
    simp only [codes_join2] at e
    obtain ⟨e1, e2⟩ := cut_uniq (hp p (by simp)) (hq q (by simp)) e
    have ih := join_inj c (p' :: r) (q' :: t) (by simp) (by simp) (fun x hx => hp x (List.mem_cons_of_mem _ hx)) (fun x hx => hq x (List.mem_cons_of_mem _ hx)) (str_ext e2)
    rw [str_ext e1, ih]
theorem split_ne (x : Str) (c : Nat) : Txt.split x ⟨#[c]⟩ ≠ [] := by
  unfold Txt.split
  split
  · simp
  · split
    · simp
    · rw [StrLaws.partsBetween_eq]
      obtain ⟨p, r, e⟩ := StrLaws.partsFrom_ne x (⟨#[c]⟩ : Str).length 0 (Builtin.Str.occurrences x ⟨#[c]⟩ 0 x.length (x.length + 1))
      rw [e]
      simp
theorem split_join (c : Nat) (ps : List Str) (h : ps ≠ []) (hf : ∀ p ∈ ps, c ∉ p.cps.toList) : Txt.split (Str.join ⟨#[c]⟩ ps) ⟨#[c]⟩ = ps :=
  join_inj c _ ps (split_ne _ c) h (StrLaws.split_free _ c) hf (StrLaws.join_split _ _)
theorem split_glued (c : Nat) (ps : List Str) (h : ps ≠ []) (hf : ∀ p ∈ ps, c ∉ p.cps.toList) : Txt.split (Txt.join ⟨#[c]⟩ ps) ⟨#[c]⟩ = ps := by
  show Txt.split (Builtin.Str.glued ⟨#[c]⟩ ps) ⟨#[c]⟩ = ps
  rw [StrLaws.glued_eq_join]
  exact split_join c ps h hf
theorem join_codes (c : Nat) : ∀ (ps : List Str) (x : Nat), x ∈ (Str.join ⟨#[c]⟩ ps).cps.toList → x = c ∨ ∃ p ∈ ps, x ∈ p.cps.toList
  | [], x, h => by simp [Str.join, Str.empty] at h
  | [p], x, h => .inr ⟨p, by simp, h⟩
  | p :: q :: r, x, h => by
    rw [codes_join2] at h
    (rcases List.mem_append.mp h with h | h)
    · exact .inr ⟨p, by simp, h⟩
    · rcases List.mem_cons.mp h with h | h
      · exact .inl h
      · rcases join_codes c (q :: r) x h with h | ⟨y, hy, h⟩
        · exact .inl h
        · exact .inr ⟨y, List.mem_cons_of_mem _ hy, h⟩
theorem join_len (c B : Nat) : ∀ ps : List Str, (∀ p ∈ ps, p.length ≤ B) → (Txt.join ⟨#[c]⟩ ps).length ≤ ps.length * (B + 1) := by
  intro ps h
  show (Builtin.Str.glued ⟨#[c]⟩ ps).length ≤ _
  rw [StrLaws.glued_eq_join]
  refine Nat.le_trans (StrLaws.join_length_le _ ps) ?_
  have h1 := StrLaws.sumLen_le (B := B) ps h
  (have h2 : (⟨#[c]⟩ : Str).length = 1 := rfl)
  rw [h2, Nat.mul_add]
  omega
theorem joinOk (c B : Nat) (ps : List Str) (h : ∀ p ∈ ps, p.length ≤ B) (hs : ps.length * (B + 1) ≤ 16777216) : JoinOk ⟨#[c]⟩ ps = true := by
  unfold JoinOk
  rw [StrLaws.joinFits h (by
    (have h2 : (⟨#[c]⟩ : Str).length = 1 := rfl)
    rw [h2, ← Nat.mul_add]
    exact hs)]
  rfl
noncomputable abbrev I (i : Int) : D := .sc (.int i)
noncomputable abbrev S' (z : Str) : D := .sc (.str z)
noncomputable def sgn : List Nat := [97, 98, 99, 100, 101, 102, 103, 104, 105, 106, 107, 108, 109, 110, 111, 112, 113, 114, 115, 116, 117, 118, 119, 120, 121, 122, 48, 49, 50, 51, 52, 53, 54, 55, 56, 57]
noncomputable def lkw (k : Nat) : Str := ⟨#[108, 111, 99, 107, 48 + k]⟩
noncomputable def shw (k : Nat) : Str := ⟨#[115, 104, 105, 102, 116, 48 + k]⟩
noncomputable def wds (n : Nat) : List Str := ⟨#[45]⟩ :: ((sgn.map fun c => (⟨#[c]⟩ : Str)) ++ (List.range n).flatMap fun k => [lkw k, shw k])
noncomputable def meanV (w : Str) : List D :=
  if w.cps.toList = [45] then [S' "nothing", .sc .non]
  else if w.cps.toList.take 4 = [108, 111, 99, 107] then [S' "lock", I ((w.cps.toList.getD 4 0 : Int) - 48)]
  else if w.cps.toList.take 5 = [115, 104, 105, 102, 116] then [S' "shift", I ((w.cps.toList.getD 5 0 : Int) - 48)]
  else [S' "sign", S' w]
noncomputable abbrev mean (o : Bool) (w : Str) : D := .node .tup o (meanV w)
noncomputable def primes : List Nat := [5, 7, 11, 13, 17, 19, 23, 29, 31, 37, 41, 43, 47]
noncomputable def first (p : Nat) : Str := Str.ofString "symbols " ++ Str.ofString (toString (p : Int))
theorem first_codes : ∀ p ∈ primes, (10 ∉ (first p).cps.toList) ∧ (first p).length ≤ 10 := by decide +kernel
theorem prime_le : ∀ p ∈ primes, 5 ≤ p ∧ p ≤ 47 := by decide
theorem wds_free : ∀ n ∈ [1, 2, 3, 4], ∀ w ∈ wds n, 32 ∉ w.cps.toList ∧ 10 ∉ w.cps.toList ∧ w.length ≤ 6 := by decide +kernel
theorem wds_sgn : ∀ n ∈ [1, 2, 3, 4], ∀ c ∈ sgn, (⟨#[c]⟩ : Str) ∈ wds n := by decide +kernel
theorem wds_lk : ∀ n ∈ [1, 2, 3, 4], ∀ k ∈ List.range n, Str.ofString "lock" ++ Str.ofString (toString (k : Int)) ∈ wds n ∧ Str.ofString "shift" ++ Str.ofString (toString (k : Int)) ∈ wds n ∧ Str.ofString "-" ∈ wds n := by decide +kernel
set_option maxRecDepth 100000 in
theorem told_run : ∀ p ∈ primes, f_prime_told.run [S' (first p)] = .ok (I p, [S' (first p)]) := by
  unfold primes
  simp only [List.forall_mem_cons, List.not_mem_nil, false_implies, implies_true, and_true]
  refine ⟨?_, ?_, ?_, ?_, ?_, ?_, ?_, ?_, ?_, ?_, ?_, ?_, ?_⟩ <;> kernel_rfl
set_option maxRecDepth 100000 in
theorem mw_run : ∀ n ∈ [1, 2, 3, 4], f_meanings_of_words.run [I (n : Nat)] = .ok (.node (.dic ((wds n).map .inr)) true ((wds n).map (mean true)), [I n]) := by
  simp only [List.forall_mem_cons, List.not_mem_nil, false_implies, implies_true, and_true]
  refine ⟨?_, ?_, ?_, ?_⟩ <;> kernel_rfl
set_option maxRecDepth 100000 in
theorem due_sgn : ∀ c ∈ sgn, f__law_due.run [S' ⟨#[c]⟩] = .ok (mean true ⟨#[c]⟩, [S' ⟨#[c]⟩]) := by
  unfold sgn
  simp only [List.forall_mem_cons, List.not_mem_nil, false_implies, implies_true, and_true]
  refine ⟨?_, ?_, ?_, ?_, ?_, ?_, ?_, ?_, ?_, ?_, ?_, ?_, ?_, ?_, ?_, ?_, ?_, ?_, ?_, ?_, ?_, ?_, ?_, ?_, ?_, ?_, ?_, ?_, ?_, ?_, ?_, ?_, ?_, ?_, ?_, ?_⟩ <;> kernel_rfl
set_option maxRecDepth 100000 in
theorem mean_sgn : ∀ c ∈ sgn, cmpW2 .NotEq (.nd .tup (meanV ⟨#[c]⟩)) (.nd .tup (meanV ⟨#[c]⟩)) = some false := by
  unfold sgn
  simp only [List.forall_mem_cons, List.not_mem_nil, false_implies, implies_true, and_true]
  refine ⟨?_, ?_, ?_, ?_, ?_, ?_, ?_, ?_, ?_, ?_, ?_, ?_, ?_, ?_, ?_, ?_, ?_, ?_, ?_, ?_, ?_, ?_, ?_, ?_, ?_, ?_, ?_, ?_, ?_, ?_, ?_, ?_, ?_, ?_, ?_, ?_⟩ <;> kernel_rfl
set_option maxRecDepth 100000 in
theorem due_run : ∀ w ∈ wds 4, f__law_due.run [S' w] = .ok (mean true w, [S' w]) := by
  intro w hw
  unfold wds at hw
  rcases List.mem_cons.mp hw with rfl | hw
  · kernel_rfl
  rcases List.mem_append.mp hw with hw | hw
  · obtain ⟨c, hc, rfl⟩ := List.mem_map.mp hw
    exact due_sgn c hc
  · obtain ⟨k, hk, hw⟩ := List.mem_flatMap.mp hw
    have hk : k < 4 := List.mem_range.mp hk
    simp only [List.mem_cons, List.not_mem_nil, or_false] at hw
    match k, hk with
    | 0, _ => rcases hw with rfl | rfl <;> kernel_rfl
    | 1, _ => rcases hw with rfl | rfl <;> kernel_rfl
    | 2, _ => rcases hw with rfl | rfl <;> kernel_rfl
    | 3, _ => rcases hw with rfl | rfl <;> kernel_rfl
theorem wds_sub : ∀ n ∈ [1, 2, 3, 4], ∀ w ∈ wds n, w ∈ wds 4 := by decide +kernel
theorem mean_eq : ∀ w ∈ wds 4, cmpW2 .NotEq (.nd .tup (meanV w)) (.nd .tup (meanV w)) = some false := by
  intro w hw
  unfold wds at hw
  rcases List.mem_cons.mp hw with rfl | hw
  · kernel_rfl
  rcases List.mem_append.mp hw with hw | hw
  · obtain ⟨c, hc, rfl⟩ := List.mem_map.mp hw
    exact mean_sgn c hc
  · obtain ⟨k, hk, hw⟩ := List.mem_flatMap.mp hw
    have hk : k < 4 := List.mem_range.mp hk
    simp only [List.mem_cons, List.not_mem_nil, or_false] at hw
    match k, hk with
    | 0, _ => rcases hw with rfl | rfl <;> kernel_rfl
    | 1, _ => rcases hw with rfl | rfl <;> kernel_rfl
    | 2, _ => rcases hw with rfl | rfl <;> kernel_rfl
    | 3, _ => rcases hw with rfl | rfl <;> kernel_rfl
theorem look_w (w : Str) (f : Str → D) : ∀ ws : List Str, w ∈ ws → lookK (.inr w) (ws.map (Sum.inr : Str → Key)) (ws.map f) = some (f w)
  | [], h => by simp at h
  | a :: ws, h => by
    simp only [List.map_cons, lookK]
    by_cases e : a = w
    · rw [if_pos (by rw [e]), e]
    · rw [if_neg (fun q => e (Sum.inr.inj q))]
      exact look_w w f ws (by rcases List.mem_cons.mp h with q | q; exact absurd q.symm e; exact q)
noncomputable abbrev dT (ws : List Str) : List D := ws.map fun w => S' w
noncomputable abbrev TL (o : Bool) (ws : List Str) : D := .node .lst o (dT ws)
noncomputable abbrev RL (b : Bool) (rs : List (List Str)) : D := .node .lst true (rs.map (TL b))
theorem shr_dT (ws : List Str) : shrL (dT ws) = dT ws := by
  induction ws with
  | nil => rfl
  | cons w ws ih => simp only [List.map_cons, shrL, shr] at ih ⊢; rw [ih]
theorem shr_RL (b : Bool) (rs : List (List Str)) : shrL (rs.map (TL b)) = rs.map (TL false) := by
  induction rs with
  | nil => rfl
  | cons r rs ih => rw [List.map_cons, shrL, ih, List.map_cons, shr, shr_dT]
theorem dT_len (ws : List Str) : (dT ws).length = ws.length := List.length_map _
theorem newL0 : newL [] = some (.node .lst true []) := newL_eq _ (by simp)
theorem newL1 (a : D) : newL [a] = some (.node .lst true [a]) := newL_eq _ (by rw [szl]; simp)
theorem newT2 (a b : D) : newT [a, b] = some (.node .tup true [a, b]) := by unfold newT; rw [if_pos (by rw [szl]; simp)]
theorem cell_run (ns : List Int) (k : Nat) : f__law_cell.run [scr ns, I k] = .ok (I (ns.getD k 0), [scr ns, I k]) := by
  rw [show f__law_cell.run = runDef C0 2 2 ir__law_cell from rfl]
  rw [runA (show [scr ns, I k].length = 2 from rfl)]
  unfold ir__law_cell
  simp only [List.replicate, Nat.reduceSub]
  have hl : ((ns.map fun i => D.sc (.int i)).length : Int) = (ns.length : Int) := by rw [List.length_map]
  by_cases h : k < ns.length
  · have h1 : ¬ ((ns.length : Int) ≤ (k : Int)) := by omega
    have hx := ixI ns (k : Int) (by omega) (by omega)
    rw [Int.toNat_natCast] at hx
    (repeat (first | walk_at "ev" | simp only [hl, h1, hx])) <;> rfl
  · have h1 : (ns.length : Int) ≤ (k : Int) := by omega
    have h2 : ns.getD k 0 = 0 := by rw [List.getD_eq_getElem?_getD, List.getElem?_eq_none (by omega)]; rfl
    (repeat (first | walk_at "ev" | simp only [hl, h1, h2])) <;> rfl
theorem spun_run (c t m : Int) (hm : 0 < m) (ht : 0 ≤ t ∧ t ≤ 1000) : ∃ r, 0 ≤ r ∧ r < m ∧ f__law_spun.run [I c, I t, I m] = .ok (I r, [I c, I t, I m]) := by
  rw [show f__law_spun.run = runDef C0 3 6 ir__law_spun from rfl]
  rw [runA (show [I c, I t, I m].length = 3 from rfl)]
  unfold ir__law_spun
  simp only [List.replicate, Nat.reduceSub]
  have e1 : ∀ a : Int, binW .Mod (.sc (.int a)) (.sc (.int 1000000009)) = some (.sc (.int (a % 1000000009))) := fun a => b_mod _ _ (by decide)
  have e2 : ∀ a : Int, binW .FloorDiv (.sc (.int a)) (.sc (.int 1000000009)) = some (.sc (.int (a / 1000000009))) := fun a => b_div _ _ (by decide)
  have e3 : ∀ a : Int, binW .Mod (.sc (.int a)) (.sc (.int 998244353)) = some (.sc (.int (a % 998244353))) := fun a => b_mod _ _ (by decide)
  have e4 : binW .Mult (.sc (.int 7919)) (.sc (.int t)) = some (.sc (.int (7919 * t))) := b_mul _ _ (.inl (by decide))
  have e5 : binW .Mult (.sc (.int 104729)) (.sc (.int t)) = some (.sc (.int (104729 * t))) := b_mul _ _ (.inl (by decide))
  have e6 : binW .Mult (.sc (.int 2)) (.sc (.int t)) = some (.sc (.int (2 * t))) := b_mul _ _ (.inl (by decide))
  have e7 : ∀ b : Int, binW .Mult (.sc (.int (c % 1000000009 + 7919 * t + 1))) (.sc (.int b)) = some (.sc (.int ((c % 1000000009 + 7919 * t + 1) * b))) := fun b => b_mul _ _ (.inl (by omega))
  have e8 : ∀ a : Int, binW .Mod (.sc (.int a)) (.sc (.int 2147483629)) = some (.sc (.int (a % 2147483629))) := fun a => b_mod _ _ (by decide)
  have e9 : ∀ a b : Int, binW .Mult (.sc (.int (a % 2147483629))) (.sc (.int b)) = some (.sc (.int (a % 2147483629 * b))) := fun a b => b_mul _ _ (.inl (by omega))
  repeat (first | walk_at "ev" | simp only [e1, e2, e3, e4, e5, e6, e7, e8, e9, b_mod _ _ hm])
  exact ⟨_, Int.emod_nonneg _ (by omega), Int.emod_lt_of_pos _ hm, rfl⟩
noncomputable def PoolOk (z : Str) : Prop := z.cps.toList ≠ [] ∧ z.length ≤ 36 ∧ ∀ c ∈ z.cps.toList, c ∈ sgn
theorem n14 {n : Nat} (h1 : 1 ≤ n) (h4 : n ≤ 4) : n ∈ [1, 2, 3, 4] := by
  match n, h1, h4 with
  | 1, _, _ => simp
  | 2, _, _ => simp
  | 3, _, _ => simp
  | 4, _, _ => simp
theorem str_n (k : Nat) (h : k < 4) : bfW .str [.sc (.int (k : Int))] = some (S' (Str.ofString (toString (k : Int)))) := by
  match k, h with
  | 0, _ => kernel_rfl
  | 1, _ => kernel_rfl
  | 2, _ => kernel_rfl
  | 3, _ => kernel_rfl
theorem cat_n (k : Nat) (h : k < 4) : binW .Add (.sc (.str "lock")) (.sc (.str (Str.ofString (toString (k : Int))))) = some (S' (Str.ofString "lock" ++ Str.ofString (toString (k : Int)))) ∧ binW .Add (.sc (.str "shift")) (.sc (.str (Str.ofString (toString (k : Int))))) = some (S' (Str.ofString "shift" ++ Str.ofString (toString (k : Int)))) := by
  match k, h with
  | 0, _ => exact ⟨by kernel_rfl, by kernel_rfl⟩
  | 1, _ => exact ⟨by kernel_rfl, by kernel_rfl⟩
  | 2, _ => exact ⟨by kernel_rfl, by kernel_rfl⟩
  | 3, _ => exact ⟨by kernel_rfl, by kernel_rfl⟩
theorem word_run (x : Int) (z : Str) (n : Nat) (hz : PoolOk z) (h1 : 1 ≤ n) (h4 : n ≤ 4) : ∃ w ∈ wds n, f__law_word.run [I x, S' z, I n] = .ok (S' w, [I x, S' z, I n]) := by
  rw [show f__law_word.run = runDef C0 3 3 ir__law_word from rfl]
  rw [runA (show [I x, S' z, I n].length = 3 from rfl)]
  unfold ir__law_word
  simp only [List.replicate, Nat.reduceSub]
  have hn := n14 h1 h4
  have e1 : ∀ a : Int, binW .Mod (.sc (.int a)) (.sc (.int 16)) = some (.sc (.int (a % 16))) := fun a => b_mod _ _ (by decide)
  have e2 : ∀ a : Int, binW .FloorDiv (.sc (.int a)) (.sc (.int 16)) = some (.sc (.int (a / 16))) := fun a => b_div _ _ (by decide)
  have e3 : ∀ a : Int, binW .Mod (.sc (.int a)) (.sc (.int (n : Int))) = some (.sc (.int (a % n))) := fun a => b_mod _ _ (by omega)
  obtain ⟨hz1, hz2, hz3⟩ := hz
  have hlen : z.length = z.cps.toList.length := rfl
  have hpos : 0 < z.cps.toList.length := List.length_pos_iff.mpr hz1
  have hk : ∃ k : Nat, k < n ∧ (x / 16 % (n : Int)) = k := ⟨(x / 16 % (n : Int)).toNat, by have := Int.emod_lt_of_pos (x / 16) (show (0 : Int) < n by omega); have := Int.emod_nonneg (x / 16) (show (n : Int) ≠ 0 by omega); omega, by have := Int.emod_nonneg (x / 16) (show (n : Int) ≠ 0 by omega); omega⟩
  obtain ⟨k, hk1, hk2⟩ := hk
  have s1 := str_n k (by omega)
  obtain ⟨s2, s3⟩ := cat_n k (by omega)
  obtain ⟨w1, w2, w3⟩ := wds_lk n hn k (List.mem_range.mpr hk1)
  by_cases c1 : x % 16 < 10
  · have hl : bfW .len [.sc (.str z)] = some (.sc (.int (z.length : Int))) := if_pos (by rw [szl]; omega)
    have e4 : ∀ a : Int, binW .Mod (.sc (.int a)) (.sc (.int (z.length : Int))) = some (.sc (.int (a % z.length))) := fun a => b_mod _ _ (by omega)
    have hj : ∃ j : Nat, j < z.cps.toList.length ∧ (x / 16 % (z.length : Int)) = j := ⟨(x / 16 % (z.length : Int)).toNat, by have := Int.emod_lt_of_pos (x / 16) (show (0 : Int) < z.length by omega); have := Int.emod_nonneg (x / 16) (show (z.length : Int) ≠ 0 by omega); omega, by have := Int.emod_nonneg (x / 16) (show (z.length : Int) ≠ 0 by omega); omega⟩
    obtain ⟨j, hj1, hj2⟩ := hj
    have hx : ixW2 (.sc (.str z)) (.sc (.int (j : Int))) = some (S' ⟨#[z.cps.toList[j]]⟩) := by
      show (if z.length ≤ sizeLine then _ else _) = _
      rw [if_pos (by rw [szl]; omega), ixN_nat _ _ hj1]
      show ((z.cps.toList[j]?).map _) = _
      rw [List.getElem?_eq_getElem hj1]
      rfl
    refine ⟨⟨#[z.cps.toList[j]]⟩, wds_sgn n hn _ (hz3 _ (List.getElem_mem hj1)), ?_⟩
    (repeat (first | walk_at "ev" | simp only [e1, e2, e4, hl, hj2, hx, c1])) <;> rfl
  · by_cases c2 : x % 16 < 12
    · refine ⟨_, w1, ?_⟩
      (repeat (first | walk_at "ev" | simp only [e1, e2, e3, hk2, s1, s2, c1, c2])) <;> rfl
    · by_cases c3 : x % 16 < 14
      · refine ⟨_, w2, ?_⟩
        (repeat (first | walk_at "ev" | simp only [e1, e2, e3, hk2, s1, s3, c1, c2, c3])) <;> rfl
      · refine ⟨_, w3, ?_⟩
        (repeat (first | walk_at "ev" | simp only [e1, e2, e3, c1, c2, c3])) <;> rfl
noncomputable abbrev Ls (o : Bool) (xs : List Int) : D := .node .lst o (dI xs)
noncomputable def lp : List Int := [5, 7, 11, 13, 17, 19, 23, 29, 31, 37, 41, 43, 47, 5, 7, 5, 7, 11]
noncomputable def lsz : List Int := [2, 4, 8, 36]
theorem lp_in : ∀ i ∈ List.range 18, ∃ p ∈ primes, lp.getD i 0 = (p : Nat) := by decide
theorem lsz_in : ∀ i ∈ List.range 4, ∃ s ∈ [2, 4, 8, 36], lsz.getD i 0 = (s : Nat) := by decide
theorem pool_ok : ∀ s ∈ [2, 4, 8, 36], ∀ t ∈ List.range (37 - s), (Txt.slice (Txt.slice "q7abcdefghijklmnoprstuvwxyz012345689" (some (t : Int)) none) none (some (s : Int))).cps.toList ≠ [] ∧ (Txt.slice (Txt.slice "q7abcdefghijklmnoprstuvwxyz012345689" (some (t : Int)) none) none (some (s : Int))).length ≤ 36 ∧ (Txt.slice "q7abcdefghijklmnoprstuvwxyz012345689" (some (t : Int)) none).length ≤ 36 ∧ ∀ c ∈ (Txt.slice (Txt.slice "q7abcdefghijklmnoprstuvwxyz012345689" (some (t : Int)) none) none (some (s : Int))).cps.toList, c ∈ sgn := by decide +kernel
theorem xs_loop (lk : Nat → Bool) (fok : Addr → Str → Bool) (fuel : Nat) (h0 : lk 0 = false) (c : Int) : ∀ (n i : Nat) (acc : List Int) (a : D), i + n ≤ 100 → ∃ (xs : List Int) (a' : D), xs.length = acc.length + n ∧
    compL (asgT lk (.name 0)) (tsts ⟨lk, fok, fuel⟩ []) (evb ⟨lk, fok, fuel⟩ (.call f__law_spun [.v 1, .bin .Add (.k (.int 10)) (.v 0), .bin .Mult (.k (.int 16)) (.k (.int 144))])).1 (dI (rngI i n)) (dI acc) [a, I c] = .ok (dI xs, [a', I c]) := by
  intro n
  induction n with
  | zero => exact fun i acc a _ => ⟨acc, a, rfl, rfl⟩
  | succ n ih =>
    intro i acc a hi
    obtain ⟨r, _, _, hr⟩ := spun_run c (10 + (i : Int)) 2304 (by decide) (by omega)
    obtain ⟨xs, a', hy, ih⟩ := ih (i + 1) (acc ++ [r]) (I i) (by omega)
    refine ⟨xs, a', by rw [hy, List.length_append, List.length_singleton]; omega, ?_⟩
    have e1 : ((i + 1 : Nat) : Int) = (i : Int) + 1 := by omega
    rw [e1, dI_app] at ih
    rw [← ih, rngI, dI_cons, compL1]
    have l1 : f__law_spun.lend = true := rfl
    have hm : binW .Mult (.sc (.int 16)) (.sc (.int 144)) = some (.sc (.int 2304)) := by kernel_rfl
    repeat (first | walk_at "ev" | simp only [h0, l1, hr, hm])
theorem words_loop (lk : Nat → Bool) (fok : Addr → Str → Bool) (fuel : Nat) (h0 : lk 0 = false) (z : Str) (n : Nat) (hz : PoolOk z) (h1 : 1 ≤ n) (h4 : n ≤ 4) : ∀ (xs : List Int) (acc : List Str) (a : D), (∀ w ∈ acc, w ∈ wds n) → ∃ (ws : List Str) (a' : D), ws.length = acc.length + xs.length ∧ (∀ w ∈ ws, w ∈ wds n) ∧
    compL (asgT lk (.name 0)) (tsts ⟨lk, fok, fuel⟩ []) (evb ⟨lk, fok, fuel⟩ (.call f__law_word [.v 0, .v 1, .v 2])).1 (dI xs) (dT acc) [a, S' z, I n] = .ok (dT ws, [a', S' z, I n]) := by
  intro xs
  induction xs with
  | nil => exact fun acc a h => ⟨acc, a, rfl, h, rfl⟩
  | cons x xs ih =>
    intro acc a h
    obtain ⟨w, hw, hr⟩ := word_run x z n hz h1 h4
    obtain ⟨ws, a', hl, hs, ih⟩ := ih (acc ++ [w]) (I x) (fun y hy => by
      rcases List.mem_append.mp hy with q | q
      · exact h y q
      · rw [List.mem_singleton.mp q]; exact hw)
    refine ⟨ws, a', by rw [hl, List.length_append, List.length_singleton, List.length_cons]; omega, hs, ?_⟩
    rw [show dT (acc ++ [w]) = dT acc ++ [S' w] from List.map_append] at ih
    rw [← ih, dI_cons, compL1]
    have l1 : f__law_word.lend = true := rfl
    repeat (first | walk_at "ev" | simp only [h0, l1, hr])
noncomputable def RowsOk (p n : Nat) (rs : List (List Str)) : Prop := ∀ r ∈ rs, r.length = p ∧ ∀ w ∈ r, w ∈ wds n
theorem rows_loop (lk : Nat → Bool) (fok : Addr → Str → Bool) (fuel : Nat) (h9 : lk 9 = false) (h10 : lk 10 = false) (h11 : lk 11 = false) (h12 : lk 12 = false) (ns : List Int) (at_ : Nat) (f : Int) (d3 d6 d7 : D) (p n : Nat) (z : Str) (hp : p ≤ 47) (hz : PoolOk z) (h1 : 1 ≤ n) (h4 : n ≤ 4) : ∀ (m i : Nat) (rs : List (List Str)) (a b c : D), RowsOk p n rs → rs.length + m ≤ 4 → ∃ (rs' : List (List Str)) (a' b' c' : D), rs'.length = rs.length + m ∧ RowsOk p n rs' ∧
    forL (asgT lk (.name 10)) (exs ⟨lk, fok, fuel⟩ [.asg 11 (.call f__law_cell [.v 0, .bin .Add (.bin .Add (.v 1) (.k (.int 1))) (.v 10)]), .asg 12 (.comp 1 [11] (.name 0) .rng1 [.v 4] [] (.call f__law_spun [.v 1, .bin .Add (.k (.int 10)) (.v 0), .bin .Mult (.k (.int 16)) (.k (.int 144))])), .ex (.mut .append 9 [] [.comp 1 [8, 5] (.name 0) .val [.v 12] [] (.call f__law_word [.v 0, .v 1, .v 2])])]) (dI (rngI i m)) [scr ns, I at_, I f, d3, I p, I n, d6, d7, S' z, RL true rs, a, b, c] = .ok (.nx, [scr ns, I at_, I f, d3, I p, I n, d6, d7, S' z, RL true rs', a', b', c']) := by
  intro m
  induction m with
  | zero => exact fun i rs a b c h _ => ⟨rs, a, b, c, rfl, h, rfl⟩
  | succ m ih =>
    intro i rs a b c h hl
    have hc := cell_run ns (at_ + 1 + i)
    rw [show ((at_ + 1 + i : Nat) : Int) = (at_ : Int) + 1 + (i : Int) by omega] at hc
    generalize ns.getD (at_ + 1 + i) 0 = cc at hc
    obtain ⟨xs, a1, hxl, hx⟩ := xs_loop (fun j => decide (1 ≤ j)) fok fuel rfl cc p 0 [] .hole (by omega)
    rw [List.length_nil, Nat.zero_add] at hxl
    obtain ⟨ws, a2, hwl, hws, hw⟩ := words_loop (fun j => decide (1 ≤ j)) fok fuel rfl z n hz h1 h4 xs [] .hole (fun w hw => by simp at hw)
    rw [List.length_nil, Nat.zero_add, hxl] at hwl
    obtain ⟨rs', a', b', c', g1, g2, ih⟩ := ih (i + 1) (rs ++ [ws]) (I i) (I cc) (Ls true xs) (fun r hr => by
      rcases List.mem_append.mp hr with q | q
      · exact h r q
      · rw [List.mem_singleton.mp q]; exact ⟨hwl, hws⟩) (by rw [List.length_append, List.length_singleton]; omega)
    refine ⟨rs', a', b', c', by rw [g1, List.length_append, List.length_singleton]; omega, g2, ?_⟩
    have e1 : ((i + 1 : Nat) : Int) = (i : Int) + 1 := by omega
    rw [e1] at ih
    rw [← ih, rngI, dI_cons, forL1]
    have hit : itW .rng1 [.sc (.int (p : Int))] = some (dI (rngI 0 p)) := by
      have := it_r1 (p : Int) (by omega)
      rwa [Int.toNat_natCast] at this
    have hc1 : ∀ b0 b1 b2 b3 b4 b5 b6 b7 b8 b9 b10 b12 : D, compM 1 [11] (compE fok fuel 1 (.name 0) [] (.call f__law_spun [.v 1, .bin .Add (.k (.int 10)) (.v 0), .bin .Mult (.k (.int 16)) (.k (.int 144))]) (dI (rngI 0 p)) []) [b0, b1, b2, b3, b4, b5, b6, b7, b8, b9, b10, I cc, b12] = .ok (Ls true xs, [b0, b1, b2, b3, b4, b5, b6, b7, b8, b9, b10, I cc, b12]) := fun b0 b1 b2 b3 b4 b5 b6 b7 b8 b9 b10 b12 => by
      replace hx : compE fok fuel 1 (.name 0) [] (.call f__law_spun [.v 1, .bin .Add (.k (.int 10)) (.v 0), .bin .Mult (.k (.int 16)) (.k (.int 144))]) (dI (rngI 0 p)) [] [.hole, I cc] = _ := hx
      rw [compM_ok (js := [11]) (caps := [I cc]) (δ1 := [b0, b1, b2, b3, b4, b5, b6, b7, b8, b9, b10, .hole, b12]) rfl hx (by rw [dI_len, hxl, szl]; omega)]
      rfl
    have hc2 : ∀ b0 b1 b2 b3 b4 b6 b7 b9 b10 b11 b12 : D, compM 1 [8, 5] (compE fok fuel 1 (.name 0) [] (.call f__law_word [.v 0, .v 1, .v 2]) (dI xs) []) [b0, b1, b2, b3, b4, I n, b6, b7, S' z, b9, b10, b11, b12] = .ok (TL true ws, [b0, b1, b2, b3, b4, I n, b6, b7, S' z, b9, b10, b11, b12]) := fun b0 b1 b2 b3 b4 b6 b7 b9 b10 b11 b12 => by
      replace hw : compE fok fuel 1 (.name 0) [] (.call f__law_word [.v 0, .v 1, .v 2]) (dI xs) [] [.hole, S' z, I n] = _ := hw
      rw [compM_ok (js := [8, 5]) (caps := [S' z, I n]) (δ1 := [b0, b1, b2, b3, b4, .hole, b6, b7, .hole, b9, b10, b11, b12]) rfl hw (by rw [dT_len, hwl, szl]; omega)]
      rfl
    have k1 : f__law_cell.lend = true := rfl
    have hzz : (rs.map (TL true)).length < sizeLine := by rw [List.length_map, szl]; omega
    have ha := fun (δ : List D) (d : D) => md_app 9 δ d (rs.map (TL true)) hzz
    have e2 : rs.map (TL true) ++ [TL true ws] = (rs ++ [ws]).map (TL true) := by rw [List.map_append]; rfl
    have hi1 : ∀ ds : List D, itW .val [.nd .lst ds] = some ds := fun _ => rfl
    simp only [scr] at hc
    repeat (first | walk_at "ev" | simp only [h9, h10, h11, h12, k1, hc, hit, hc1, hc2, hi1, ha, e2, shr_ints])
theorem sl_s (z : Str) (lo hi : Option Int) (h : z.length ≤ sizeLine) : slD (.sc (.str z)) lo hi = some (S' (Txt.slice z lo hi)) := by
  show (if z.length ≤ sizeLine then _ else _) = _
  rw [if_pos h]
theorem rows_run (ns : List Int) (at_ : Nat) : ∃ p ∈ primes, ∃ n rs, 1 ≤ n ∧ n ≤ 4 ∧ rs.length = n ∧ RowsOk p n rs ∧ f__law_rows.run [scr ns, I at_] = .ok (RL true rs, [scr ns, I at_]) := by
  have hc := cell_run ns at_
  generalize ns.getD at_ 0 = f at hc
  obtain ⟨r1, a1, b1, h1⟩ := spun_run f 1 18 (by decide) (by decide)
  obtain ⟨r2, a2, b2, h2⟩ := spun_run f 2 4 (by decide) (by decide)
  obtain ⟨r3, a3, b3, h3⟩ := spun_run f 3 4 (by decide) (by decide)
  obtain ⟨p, hp, hp2⟩ := lp_in r1.toNat (List.mem_range.mpr (by omega))
  obtain ⟨s, hs, hs2⟩ := lsz_in r3.toNat (List.mem_range.mpr (by omega))
  have hs3 : 2 ≤ s ∧ s ≤ 36 := by
    simp only [List.mem_cons, List.not_mem_nil, or_false] at hs
    omega
  obtain ⟨r4, a4, b4, h4⟩ := spun_run f 4 (37 - (s : Int)) (by omega) (by decide)
  have hn : ∃ n : Nat, 1 ≤ n ∧ n ≤ 4 ∧ 1 + r2 = n := ⟨(1 + r2).toNat, by omega, by omega, by omega⟩
  obtain ⟨n, n1, n4, hn⟩ := hn
  have ht : ∃ t : Nat, t < 37 - s ∧ r4 = t := ⟨r4.toNat, by omega, by omega⟩
  obtain ⟨t, ht1, rfl⟩ := ht
  obtain ⟨z1, z2, z3, z4⟩ := pool_ok s hs t (List.mem_range.mpr ht1)
  have sl1 : slD (.sc (.str "q7abcdefghijklmnoprstuvwxyz012345689")) (some (t : Int)) none = some (S' (Txt.slice "q7abcdefghijklmnoprstuvwxyz012345689" (some (t : Int)) none)) := sl_s _ _ _ (by rw [szl]; decide +kernel)
  have sl2 : slD (.sc (.str (Txt.slice "q7abcdefghijklmnoprstuvwxyz012345689" (some (t : Int)) none))) none (some (s : Int)) = some (S' (Txt.slice (Txt.slice "q7abcdefghijklmnoprstuvwxyz012345689" (some (t : Int)) none) none (some (s : Int)))) := sl_s _ _ _ (by rw [szl]; omega)
  have hz : PoolOk (Txt.slice (Txt.slice "q7abcdefghijklmnoprstuvwxyz012345689" (some (t : Int)) none) none (some (s : Int))) := ⟨z1, z2, z4⟩
  generalize Txt.slice (Txt.slice "q7abcdefghijklmnoprstuvwxyz012345689" (some (t : Int)) none) none (some (s : Int)) = z at sl2 hz
  generalize Txt.slice "q7abcdefghijklmnoprstuvwxyz012345689" (some (t : Int)) none = y at sl1 sl2
  have hpl := prime_le p hp
  obtain ⟨rs, c1, c2, c3, g1, g2, hloop⟩ := rows_loop (fun j => (fun i => decide (i < 2)) j || walked [.v 5] j) (fun _ _ => false) 0 rfl rfl rfl rfl ns at_ f (Ls true lp) (.sc (.str "q7abcdefghijklmnoprstuvwxyz012345689")) (I s) p n z hpl.2 hz n1 n4 n 0 [] .hole .hole .hole (fun r hr => by simp at hr) (by simpa using n4)
  rw [List.length_nil, Nat.zero_add] at g1
  have e0 : ((0 : Nat) : Int) = 0 := rfl
  rw [e0] at hloop
  refine ⟨p, hp, n, rs, n1, n4, g1, g2, ?_⟩
  simp only [walked, Bool.or_false] at hloop
  rw [show f__law_rows.run = runDef C0 2 13 ir__law_rows from rfl]
  rw [runA (show [scr ns, I at_].length = 2 from rfl)]
  unfold ir__law_rows
  simp only [List.replicate, Nat.reduceSub]
  have hk1 : ∀ C : T.Ctx, (evb C (.kl [(.int 5), (.int 7), (.int 11), (.int 13), (.int 17), (.int 19), (.int 23), (.int 29), (.int 31), (.int 37), (.int 41), (.int 43), (.int 47), (.int 5), (.int 7), (.int 5), (.int 7), (.int 11)])).1 = M.ret (Ls true lp) := fun C => by
    show lift (newL (dI lp)) = _
    rw [newL_eq _ (by rw [dI_len, szl]; decide)]
    rfl
  have hk2 : ∀ C : T.Ctx, (evb C (.kl [(.int 2), (.int 4), (.int 8), (.int 36)])).1 = M.ret (Ls true lsz) := fun C => by
    show lift (newL (dI lsz)) = _
    rw [newL_eq _ (by rw [dI_len, szl]; decide)]
    rfl
  have hx1 : ((ixN' (dI lp).length r1).bind fun j => (dI lp)[j]?) = some (.sc (.int (p : Int))) := by
    rw [ixI lp r1 a1 (by rw [show lp.length = 18 from rfl]; omega), hp2]
  have hx2 : ((ixN' (dI lsz).length r3).bind fun j => (dI lsz)[j]?) = some (.sc (.int (s : Int))) := by
    rw [ixI lsz r3 a3 (by rw [show lsz.length = 4 from rfl]; omega), hs2]
  have hit : itW .rng1 [.sc (.int (n : Int))] = some (dI (rngI 0 n)) := by
    have := it_r1 (n : Int) (by omega)
    rwa [Int.toNat_natCast] at this
  have k1 : f__law_cell.lend = true := rfl
  have k2 : f__law_spun.lend = true := rfl
  have e3 : D.node .lst true [] = RL true [] := rfl
  have pc : ∀ (fi : FI) (es : List E) (c : M Op), partM (.call fi es) c = ((c.bnd view).bnd fun w => lift (intP w)) := fun _ _ _ => rfl
  simp only [scr] at hc hloop
  (repeat (first | walk_at "ev" | simp only [k1, k2, hc, h1, h2, h3, h4, hk1, hk2, hx1, hx2, hn, sl1, sl2, newL0, hit, e3, hloop, pc, shr_ints])) <;> rfl
noncomputable def line (r : List Str) : Str := Txt.join ⟨#[32]⟩ r
noncomputable def lines (p : Nat) (rs : List (List Str)) : List Str := first p :: rs.map line
noncomputable def text (p : Nat) (rs : List (List Str)) : Str := Txt.join ⟨#[10]⟩ (lines p rs)
theorem strs_dT (ws : List Str) : strsOf (dT ws) = some ws := by
  induction ws with
  | nil => rfl
  | cons w ws ih =>
    show (strsOf (dT ws)).map (w :: ·) = _
    rw [ih]
    rfl
theorem row_len {p n : Nat} {r : List Str} (hn : n ∈ [1, 2, 3, 4]) (hw : ∀ w ∈ r, w ∈ wds n) (hl : r.length = p) (hp : p ≤ 47) : JoinOk ⟨#[32]⟩ r = true ∧ (line r).length ≤ 400 ∧ 10 ∉ (line r).cps.toList := by
  have hb : ∀ w ∈ r, w.length ≤ 6 := fun w h => (wds_free n hn w (hw w h)).2.2
  refine ⟨joinOk 32 6 r hb (by omega), ?_, fun hc => ?_⟩
  · have := join_len 32 6 r hb
    unfold line
    omega
  · have hc' : 10 ∈ (Builtin.Str.glued ⟨#[32]⟩ r).cps.toList := hc
    rw [StrLaws.glued_eq_join] at hc'
    rcases join_codes 32 _ 10 hc' with e | ⟨q, hq, hx⟩
    · omega
    · exact (wds_free n hn q (hw q hq)).2.1 hx
theorem text_ok {p n : Nat} {rs : List (List Str)} (hp : p ∈ primes) (h1 : 1 ≤ n) (h4 : n ≤ 4) (hl : rs.length = n) (h : RowsOk p n rs) : JoinOk ⟨#[10]⟩ (lines p rs) = true ∧ (text p rs).length ≤ 3000 ∧ Txt.split (text p rs) ⟨#[10]⟩ = lines p rs := by
  have hn := n14 h1 h4
  have hpl := prime_le p hp
  have hf := first_codes p hp
  have hb : ∀ w ∈ lines p rs, w.length ≤ 400 := fun w hw => by
    rcases List.mem_cons.mp hw with rfl | hw
    · omega
    · obtain ⟨r, hr, rfl⟩ := List.mem_map.mp hw
      exact (row_len hn (h r hr).2 (h r hr).1 hpl.2).2.1
  have hll : (lines p rs).length = n + 1 := by unfold lines; rw [List.length_cons, List.length_map, hl]
  refine ⟨joinOk 10 400 _ hb (by rw [hll]; omega), ?_, split_glued 10 _ (by unfold lines; simp) fun w hw => ?_⟩
  · have := join_len 10 400 _ hb
    rw [hll] at this
    unfold text
    omega
  · rcases List.mem_cons.mp hw with rfl | hw
    · exact hf.1
    · obtain ⟨r, hr, rfl⟩ := List.mem_map.mp hw
      exact (row_len hn (h r hr).2 (h r hr).1 hpl.2).2.2
theorem split_line {p n : Nat} {r : List Str} (hn : n ∈ [1, 2, 3, 4]) (hw : ∀ w ∈ r, w ∈ wds n) (hl : r.length = p) (hp : 1 ≤ p) : Txt.split (line r) ⟨#[32]⟩ = r :=
  split_glued 32 _ (fun e => by subst e; simp at hl; omega) fun w h => (wds_free n hn w (hw w h)).1
theorem str_p : ∀ p ∈ primes, bfW .str [.sc (.int (p : Nat))] = some (S' (Str.ofString (toString (p : Int)))) := by
  unfold primes
  simp only [List.forall_mem_cons, List.not_mem_nil, false_implies, implies_true, and_true]
  refine ⟨?_, ?_, ?_, ?_, ?_, ?_, ?_, ?_, ?_, ?_, ?_, ?_, ?_⟩ <;> kernel_rfl
theorem cat_p : ∀ p ∈ primes, binW .Add (.sc (.str "symbols ")) (.sc (.str (Str.ofString (toString ((p : Nat) : Int))))) = some (S' (first p)) := by
  unfold primes
  simp only [List.forall_mem_cons, List.not_mem_nil, false_implies, implies_true, and_true]
  refine ⟨?_, ?_, ?_, ?_, ?_, ?_, ?_, ?_, ?_, ?_, ?_, ?_, ?_⟩ <;> kernel_rfl
theorem blank_is : (Str.ofString " ") = ⟨#[32]⟩ := by kernel_rfl
theorem newline_is : (Str.ofString "\n") = ⟨#[10]⟩ := by kernel_rfl
theorem join_w (z : Str) (ws : List Str) (h : JoinOk z ws = true) : bmW .join z [.nd .lst (dT ws)] = some (S' (Txt.join z ws)) := by
  show (strsOf (dT ws)).bind _ = _
  rw [strs_dT]
  exact if_pos h
theorem split_w (z s : Str) (h : s.cps.size = 1) (hz : z.length + 2 ≤ sizeLine) : bmW .split z [.sc (.str s)] = some (TL true (Txt.split z s)) := if_pos ⟨h, hz⟩
theorem strw_s (z : Str) : strW (.sc (.str z)) = some z := (rfl)
theorem ixT (ws : List Str) (k : Nat) (h : k < ws.length) : ((ixN' (dT ws).length (k : Int)).bind fun j => (dT ws)[j]?) = some (S' (ws.getD k Str.empty)) := by
  rw [dT_len, ixN_nat _ _ h]
  show (dT ws)[k]? = _
  rw [List.getElem?_map, List.getD_eq_getElem?_getD, List.getElem?_eq_getElem h]
  rfl
theorem ixR (g : List Str → D) (rs : List (List Str)) (k : Nat) (h : k < rs.length) : ((ixN' (rs.map g).length (k : Int)).bind fun j => (rs.map g)[j]?) = some (g (rs.getD k [])) := by
  rw [List.length_map, ixN_nat _ _ h]
  show (rs.map g)[k]? = _
  rw [List.getElem?_map, List.getD_eq_getElem?_getD, List.getElem?_eq_getElem h]
  rfl
theorem tx_loop (lk : Nat → Bool) (fok : Addr → Str → Bool) (fuel : Nat) (h1 : lk 1 = false) (h2 : lk 2 = false) (x0 : D) : ∀ (rs : List (List Str)) (ls : List Str) (a : D), (∀ r ∈ rs, JoinOk ⟨#[32]⟩ r = true) → ls.length + rs.length ≤ 100 → ∃ a',
    forL (asgT lk (.name 2)) (exs ⟨lk, fok, fuel⟩ [.ex (.mut .append 1 [] [.bm .join (.k (.str " ")) [.v 2]])]) (rs.map (TL false)) [x0, TL true ls, a] = .ok (.nx, [x0, TL true (ls ++ rs.map line), a']) := by
  intro rs
  induction rs with
  | nil => exact fun ls a _ _ => ⟨a, by rw [List.map_nil, List.map_nil, List.append_nil]; rfl⟩
  | cons r rs ih =>
    intro ls a hj hl
    rw [List.length_cons] at hl
    obtain ⟨a', ih⟩ := ih (ls ++ [line r]) (TL false r) (fun q hq => hj q (List.mem_cons_of_mem _ hq)) (by rw [List.length_append, List.length_singleton]; omega)
    refine ⟨a', ?_⟩
    rw [List.append_assoc] at ih
    rw [List.map_cons, List.map_cons, show ls ++ line r :: rs.map line = ls ++ ([line r] ++ rs.map line) from rfl, ← ih, forL1]
    have hj1 : bmW .join (Str.ofString " ") [.nd .lst (dT r)] = some (S' (line r)) := by
      rw [blank_is]
      exact join_w _ r (hj r (by simp))
    have hz : (dT ls).length < sizeLine := by rw [dT_len, szl]; omega
    have ha := fun (δ : List D) (d : D) => md_app 1 δ d (dT ls) hz
    have e2 : dT ls ++ [S' (line r)] = dT (ls ++ [line r]) := (show dT (ls ++ [line r]) = dT ls ++ [S' (line r)] from List.map_append).symm
    repeat (first | walk_at "ev" | simp only [h1, h2, strw_s, hj1, ha, e2])
theorem text_run {p n : Nat} {rs : List (List Str)} (b : Bool) (hp : p ∈ primes) (h1 : 1 ≤ n) (h4 : n ≤ 4) (hl : rs.length = n) (h : RowsOk p n rs) : f__law_text.run [RL b rs] = .ok (S' (text p rs), [RL false rs]) := by
  rw [show f__law_text.run = runDef C0 1 3 ir__law_text from rfl]
  rw [runA (show [RL b rs].length = 1 from rfl)]
  unfold ir__law_text
  simp only [List.replicate, Nat.reduceSub]
  have hpl := prime_le p hp
  obtain ⟨a', hf⟩ := tx_loop (fun j => (fun i => decide (i < 1)) j || walked [.v 0] j) (fun _ _ => false) 0 rfl rfl .hole rs [first p] .hole (fun r hr => (row_len (n14 h1 h4) (h r hr).2 (h r hr).1 hpl.2).1) (by rw [List.length_singleton]; omega)
  rw [show [first p] ++ rs.map line = lines p rs from rfl] at hf
  simp only [walked, Bool.or_false] at hf
  have hx := ixR (TL false) rs 0 (by omega)
  have hr0 : (rs.getD 0 []).length = p := by
    rw [List.getD_eq_getElem?_getD, List.getElem?_eq_getElem (by omega)]
    exact (h _ (List.getElem_mem _)).1
  generalize rs.getD 0 [] = r0 at hx hr0
  have e0 : ((0 : Nat) : Int) = 0 := rfl
  rw [e0] at hx
  have hlen : ((dT r0).length : Int) = (p : Int) := by rw [dT_len, hr0]
  have s1 := str_p p hp
  have s2 := cat_p p hp
  have hi : ∀ ds : List D, itW .val [.nd .lst ds] = some ds := fun _ => rfl
  have e1 : D.node .lst true [S' (first p)] = TL true [first p] := rfl
  have hj : bmW .join (Str.ofString "\n") [.nd .lst (dT (lines p rs))] = some (S' (text p rs)) := by
    rw [newline_is]
    exact join_w _ _ (text_ok hp h1 h4 hl h).1
  (repeat (first | walk_at "ev" | simp only [shr_RL, shr_dT, hx, hlen, s1, s2, newL1, e1, hi, hf, strw_s, hj])) <;> rfl
theorem isi_s (w : W) : bfW (.isi .str) [w] = (tyW .str w).map fun b => .sc (.bl b) := (rfl)
theorem ty_ss (z : Str) : tyW .str (.sc (.str z)) = some true := (rfl)
theorem rows_of_run (t : Str) (ht : t.length ≤ 3000) : f_rows_of.run [S' t] = .ok (TL true (Txt.split t ⟨#[10]⟩), [S' t]) := by
  rw [show f_rows_of.run = runDef C0 1 1 ir_rows_of from rfl]
  rw [runA (show [S' t].length = 1 from rfl)]
  unfold ir_rows_of
  simp only [List.replicate, Nat.reduceSub]
  have hs : bmW .split t [.sc (.str (Str.ofString "\n"))] = some (TL true (Txt.split t ⟨#[10]⟩)) := by
    rw [newline_is]
    exact split_w _ _ rfl (by rw [szl]; omega)
  (repeat (first | walk_at "ev" | simp only [isi_s, ty_ss, strw_s, hs])) <;> rfl
theorem crc_run (ls : List Str) (h2 : 2 ≤ ls.length) (h5 : ls.length ≤ 5) : f_check_row_count.run [TL true ls] = .ok (.sc .non, [TL true ls]) := by
  rw [show f_check_row_count.run = runDef C0 1 1 ir_check_row_count from rfl]
  rw [runA (show [TL true ls].length = 1 from rfl)]
  unfold ir_check_row_count
  simp only [List.replicate, Nat.reduceSub]
  have hl : ((dT ls).length : Int) = (ls.length : Int) := by rw [dT_len]
  have c1 : ¬ (5 : Int) < (ls.length : Int) := by omega
  have c2 : ¬ ((ls.length : Int) = 1) := by omega
  (repeat (first | walk_at "ev" | simp only [hl, shr_dT, c1, c2, V.int.injEq])) <;> rfl
theorem all_l (ds : List D) : bfW .all [.nd .lst ds] = (boolsOf ds).map fun bs => .sc (.bl (bs.all id)) := (rfl)
theorem bools_rep : ∀ n : Nat, boolsOf (List.replicate n (D.sc (.bl true))) = some (List.replicate n true)
  | 0 => rfl
  | n + 1 => by rw [List.replicate_succ, boolsOf, bools_rep n]; rfl
theorem all_rep (n : Nat) : bfW .all [.nd .lst (List.replicate n (D.sc (.bl true)))] = some (.sc (.bl true)) := by
  rw [all_l, bools_rep]
  simp
theorem rep_more (n m : Nat) : List.replicate n (D.sc (.bl true)) ++ [D.sc (.bl true)] ++ List.replicate m (D.sc (.bl true)) = List.replicate (n + (m + 1)) (D.sc (.bl true)) := by
  rw [List.append_assoc, ← List.replicate_append_replicate]
  rfl
noncomputable abbrev Dc (b : Bool) (n : Nat) : D := .node (.dic ((wds n).map (Sum.inr : Str → Key))) true ((wds n).map (mean b))
noncomputable abbrev Mrow (o : Bool) (r : List Str) : D := .node .lst o (r.map (mean false))
noncomputable abbrev MsT (o : Bool) (rs : List (List Str)) : D := .node .lst o (rs.map (Mrow o))
theorem shr_meanV (w : Str) : shrL (meanV w) = meanV w := by
  unfold meanV
  split
  · rfl
  split
  · rfl
  split <;> rfl
theorem shr_mean (b : Bool) (w : Str) : shr (mean b w) = mean false w := by
  show D.node .tup false (shrL (meanV w)) = _
  rw [shr_meanV]
theorem shr_means (b : Bool) (ws : List Str) : shrL (ws.map (mean b)) = ws.map (mean false) := by
  induction ws with
  | nil => rfl
  | cons w ws ih => rw [List.map_cons, shrL, ih, shr_mean, List.map_cons]
theorem shr_Ms (o : Bool) (rs : List (List Str)) : shrL (rs.map (Mrow o)) = rs.map (Mrow false) := by
  induction rs with
  | nil => rfl
  | cons r rs ih =>
    rw [List.map_cons, shrL, ih, List.map_cons]
    congr 1
    show D.node .lst false (shrL (r.map (mean false))) = _
    rw [shr_means]
theorem look_n (n : Nat) (w : Str) (hw : w ∈ wds n) : lookK (.inr w) ((wds n).map (Sum.inr : Str → Key)) ((wds n).map (mean false)) = some (mean false w) := look_w w (mean false) _ hw
theorem in_loop (lk : Nat → Bool) (fok : Addr → Str → Bool) (fuel : Nat) (h0 : lk 0 = false) (n : Nat) : ∀ (ws : List Str) (m : Nat) (a : D) (b : Bool), (∀ w ∈ ws, w ∈ wds n) → ∃ a' b',
    compL (asgT lk (.name 0)) (tsts ⟨lk, fok, fuel⟩ []) (evb ⟨lk, fok, fuel⟩ (.cmp .In (.v 0) (.v 1))).1 (dT ws) (List.replicate m (.sc (.bl true))) [a, Dc b n] = .ok (List.replicate (m + ws.length) (.sc (.bl true)), [a', Dc b' n]) := by
  intro ws
  induction ws with
  | nil => exact fun m a b _ => ⟨a, b, rfl⟩
  | cons w ws ih =>
    intro m a b hw
    obtain ⟨a', b', ih⟩ := ih (m + 1) (S' w) false (fun q hq => hw q (List.mem_cons_of_mem _ hq))
    refine ⟨a', b', ?_⟩
    have e : List.replicate m (D.sc (.bl true)) ++ [D.sc (.bl true)] = List.replicate (m + 1) (D.sc (.bl true)) := by have := rep_more m 0; rwa [List.replicate_zero, List.append_nil] at this
    rw [List.length_cons, show m + (ws.length + 1) = m + 1 + ws.length by omega, ← ih, show dT (w :: ws) = S' w :: dT ws from rfl, compL1]
    have hk := look_n n w (hw w (by simp))
    have hs : ∀ d : D, (some d).isSome = true := fun _ => rfl
    repeat (first | walk_at "ev" | simp only [h0, shr_means, hk, hs, e])
theorem get_loop (lk : Nat → Bool) (fok : Addr → Str → Bool) (fuel : Nat) (h0 : lk 0 = false) (n : Nat) : ∀ (ws acc : List Str) (a : D) (b : Bool), (∀ w ∈ ws, w ∈ wds n) → ∃ a' b',
    compL (asgT lk (.name 0)) (tsts ⟨lk, fok, fuel⟩ []) (evb ⟨lk, fok, fuel⟩ (.ix (.v 1) (.v 0))).1 (dT ws) (acc.map (mean false)) [a, Dc b n] = .ok ((acc ++ ws).map (mean false), [a', Dc b' n]) := by
  intro ws
  induction ws with
  | nil => exact fun acc a b _ => ⟨a, b, by rw [List.append_nil]; rfl⟩
  | cons w ws ih =>
    intro acc a b hw
    obtain ⟨a', b', ih⟩ := ih (acc ++ [w]) (S' w) false (fun q hq => hw q (List.mem_cons_of_mem _ hq))
    refine ⟨a', b', ?_⟩
    rw [List.append_assoc] at ih
    rw [show acc ++ w :: ws = acc ++ ([w] ++ ws) from rfl, ← ih, show dT (w :: ws) = S' w :: dT ws from rfl, compL1]
    have hk := look_n n w (hw w (by simp))
    have e : acc.map (mean false) ++ [D.node .tup false (meanV w)] = (acc ++ [w]).map (mean false) := by rw [List.map_append]; rfl
    repeat (first | walk_at "ev" | simp only [h0, shr_means, hk, e])
theorem mor_loop (lk : Nat → Bool) (fok : Addr → Str → Bool) (fuel : Nat) (h3 : lk 3 = false) (h4 : lk 4 = false) (h5 : lk 5 = false) (p n : Nat) (ls : List Str) (hp : 1 ≤ p) (hp2 : p ≤ 47) (hn : n ∈ [1, 2, 3, 4]) : ∀ (rs done : List (List Str)) (b : Bool) (a c : D), RowsOk p n rs → (∀ k : Nat, k < rs.length → done.length + 1 + k < ls.length ∧ ls.getD (done.length + 1 + k) Str.empty = line (rs.getD k [])) → done.length + rs.length ≤ 4 → ∃ b' a' c',
    forL (asgT lk (.name 4)) (exs ⟨lk, fok, fuel⟩ [.asg 5 (.bm .split (.ix (.v 1) (.v 4)) [.k (.str " ")]), .iff (.or (.cmp .NotEq (.bf .len [.v 5]) (.v 0)) (.nt (.bf .all [.comp 1 [2] (.name 0) .val [.v 5] [] (.cmp .In (.v 0) (.v 1))]))) [.raise (.k .non)] [], .ex (.mut .append 3 [] [.comp 1 [2] (.name 0) .val [.v 5] [] (.ix (.v 1) (.v 0))])]) (dI (rngI ((done.length + 1 : Nat) : Int) rs.length)) [I p, TL true ls, Dc b n, .node .lst true (done.map (Mrow true)), a, c] = .ok (.nx, [I p, TL true ls, Dc b' n, .node .lst true ((done ++ rs).map (Mrow true)), a', c']) := by
  intro rs
  induction rs with
  | nil => exact fun done b a c _ _ _ => ⟨b, a, c, by rw [List.append_nil]; rfl⟩
  | cons r rs ih =>
    intro done b a c hok hat hl
    rw [List.length_cons] at hl
    obtain ⟨hr1, hr2⟩ := hok r (by simp)
    obtain ⟨g1, g2⟩ := hat 0 (by simp)
    have g2 : ls.getD (done.length + 1) Str.empty = line r := g2
    have g1 : done.length + 1 < ls.length := g1
    obtain ⟨a1, b1, hin⟩ := in_loop (fun j => decide (1 ≤ j)) fok fuel rfl n r 0 .hole b hr2
    obtain ⟨a2, b2, hget⟩ := get_loop (fun j => decide (1 ≤ j)) fok fuel rfl n r [] .hole b1 hr2
    rw [List.nil_append] at hget
    rw [Nat.zero_add] at hin
    obtain ⟨b', a', c', ih⟩ := ih (done ++ [r]) b2 (I (done.length + 1 : Nat)) (TL true r) (fun q hq => hok q (List.mem_cons_of_mem _ hq)) (fun k hk => by
      have := hat (k + 1) (by rw [List.length_cons]; omega)
      rw [List.length_append, List.length_singleton]
      refine ⟨by omega, ?_⟩
      rw [show done.length + 1 + 1 + k = done.length + 1 + (k + 1) by omega, this.2]
      rfl) (by rw [List.length_append, List.length_singleton]; omega)
    refine ⟨b', a', c', ?_⟩
    rw [List.length_append, List.length_singleton, List.append_assoc] at ih
    rw [show done ++ r :: rs = done ++ ([r] ++ rs) from rfl, ← ih, List.length_cons, rngI, dI_cons, forL1]
    have e1 : ((done.length + 1 + 1 : Nat) : Int) = ((done.length + 1 : Nat) : Int) + 1 := by omega
    rw [e1]
    have hx := ixT ls (done.length + 1) g1
    rw [g2] at hx
    generalize done.length + 1 = i at hx
    have hll := (row_len hn hr2 hr1 hp2).2.1
    have hs : bmW .split (line r) [.sc (.str (Str.ofString " "))] = some (TL true r) := by
      rw [blank_is, split_w _ _ rfl (by rw [szl]; omega), split_line hn hr2 hr1 hp]
    have hlen : ((dT r).length : Int) = (p : Int) := by rw [dT_len, hr1]
    have hd : decide (V.int (p : Int) = V.int (p : Int)) = true := decide_eq_true rfl
    have hi : ∀ ds : List D, itW .val [.nd .lst ds] = some ds := fun _ => rfl
    have hc1 : ∀ b0 b1' b3 b4 b5 : D, compM 1 [2] (compE fok fuel 1 (.name 0) [] (.cmp .In (.v 0) (.v 1)) (dT r) []) [b0, b1', Dc b n, b3, b4, b5] = .ok (.node .lst true (List.replicate r.length (.sc (.bl true))), [b0, b1', Dc b1 n, b3, b4, b5]) := fun b0 b1' b3 b4 b5 => by
      replace hin : compE fok fuel 1 (.name 0) [] (.cmp .In (.v 0) (.v 1)) (dT r) [] [.hole, Dc b n] = _ := hin
      rw [compM_ok (js := [2]) (caps := [Dc b n]) (δ1 := [b0, b1', .hole, b3, b4, b5]) rfl hin (by rw [List.length_replicate, szl]; omega)]
      rfl
    have hc2 : ∀ b0 b1' b3 b4 b5 : D, compM 1 [2] (compE fok fuel 1 (.name 0) [] (.ix (.v 1) (.v 0)) (dT r) []) [b0, b1', Dc b1 n, b3, b4, b5] = .ok (Mrow true r, [b0, b1', Dc b2 n, b3, b4, b5]) := fun b0 b1' b3 b4 b5 => by
      replace hget : compE fok fuel 1 (.name 0) [] (.ix (.v 1) (.v 0)) (dT r) [] [.hole, Dc b1 n] = _ := hget
      rw [compM_ok (js := [2]) (caps := [Dc b1 n]) (δ1 := [b0, b1', .hole, b3, b4, b5]) rfl hget (by rw [List.length_map, szl]; omega)]
      rfl
    have hz : (done.map (Mrow true)).length < sizeLine := by rw [List.length_map, szl]; omega
    have ha := fun (δ : List D) (d : D) => md_app 3 δ d (done.map (Mrow true)) hz
    have e2 : done.map (Mrow true) ++ [Mrow true r] = (done ++ [r]).map (Mrow true) := by rw [List.map_append]; rfl
    repeat (first | walk_at "ev" | simp only [h3, h4, h5, hx, strw_s, hs, hlen, hd, shr_dT, hi, hc1, hc2, all_rep, ha, e2])
theorem lines_len (p : Nat) (rs : List (List Str)) : (lines p rs).length = rs.length + 1 := by unfold lines; rw [List.length_cons, List.length_map]
theorem mor_run {p n : Nat} {rs : List (List Str)} (hp : p ∈ primes) (h1 : 1 ≤ n) (h4 : n ≤ 4) (hl : rs.length = n) (h : RowsOk p n rs) : f_meanings_of_rows.run [I p, TL true (lines p rs)] = .ok (MsT true rs, [I p, TL true (lines p rs)]) := by
  rw [show f_meanings_of_rows.run = runDef C0 2 6 ir_meanings_of_rows from rfl]
  rw [runA (show [I p, TL true (lines p rs)].length = 2 from rfl)]
  unfold ir_meanings_of_rows
  simp only [List.replicate, Nat.reduceSub]
  have hpl := prime_le p hp
  have hn := n14 h1 h4
  have hw := mw_run n hn
  obtain ⟨b', a', c', hf⟩ := mor_loop (fun j => decide (j < 2)) (fun _ _ => false) 0 rfl rfl rfl p n (lines p rs) (by omega) hpl.2 hn rs [] true .hole .hole h (fun k hk => by
    rw [lines_len, List.length_nil]
    refine ⟨by omega, ?_⟩
    show (lines p rs).getD (0 + 1 + k) Str.empty = _
    unfold lines
    rw [show 0 + 1 + k = k + 1 by omega, List.getD_eq_getElem?_getD, List.getElem?_cons_succ, List.getElem?_map, List.getD_eq_getElem?_getD, List.getElem?_eq_getElem hk]
    rfl) (by rw [List.length_nil]; omega)
  rw [List.nil_append, hl] at hf
  have e0 : (([] : List (List Str)).length + 1 : Nat) = 1 := rfl
  rw [e0, show ((1 : Nat) : Int) = 1 from rfl] at hf
  have hlen : ((dT (lines p rs)).length : Int) = (n : Int) + 1 := by rw [dT_len, lines_len, hl]; rfl
  have e1 : (n : Int) + 1 - 1 = n := by omega
  have hit : itW .rng2 [.sc (.int 1), .sc (.int ((n : Int) + 1))] = some (dI (rngI 1 n)) := by
    have := it_r2 1 ((n : Int) + 1) (by omega)
    rwa [show ((n : Int) + 1 - 1).toNat = n by omega] at this
  have k1 : f_meanings_of_words.lend = true := rfl
  have e2 : D.node .lst true [] = D.node .lst true (([] : List (List Str)).map (Mrow true)) := rfl
  (repeat (first | walk_at "ev" | simp only [shr_dT, hlen, e1, k1, hw, newL0, e2, hit, hf])) <;> rfl
noncomputable abbrev fs3 : List Str := ["size", "meanings", "text"]
noncomputable abbrev Tb (C : Addr) (o : Bool) (p : Nat) (rs : List (List Str)) (t : Str) : D := .node (.ins C fs3) true [I p, MsT o rs, S' t]
theorem fok_f (C : Addr) (f : Str) (h : f ∈ fs3) : (CK C).fok C f = true := by
  show (decide (C = C) && _) = true
  simp only [decide_true, Bool.true_and, Bool.or_eq_true, beq_iff_eq]
  simp only [List.mem_cons, List.not_mem_nil, or_false] at h
  rcases h with rfl | rfl | rfl
  · exact .inl (.inl rfl)
  · exact .inl (.inr rfl)
  · exact .inr rfl
theorem fld_g (C : Addr) (f : Str) (fs : List Str) (ds : List D) (x : D) (hf : f ∈ fs3) (hl : lookF f fs ds = some x) : fldW (CK C).fok f (.nd (.ins C fs) ds) = some x := by
  show (if (CK C).fok C f = true then lookF f fs ds else none) = _
  rw [if_pos (fok_f C f hf), hl]
theorem fld_1 (C : Addr) (a b c : D) : fldW (CK C).fok "size" (.nd (.ins C fs3) [a, b, c]) = some a := fld_g C _ _ _ _ (by decide) rfl
theorem fld_2 (C : Addr) (a b c : D) : fldW (CK C).fok "meanings" (.nd (.ins C fs3) [a, b, c]) = some b := fld_g C _ _ _ _ (by decide) rfl
theorem fld_3 (C : Addr) (a b c : D) : fldW (CK C).fok "text" (.nd (.ins C fs3) [a, b, c]) = some c := fld_g C _ _ _ _ (by decide) rfl
theorem fld_0 (C : Addr) (a : D) : fldW (CK C).fok "size" (.nd (.ins C ["size"]) [a]) = some a := fld_g C _ _ _ _ (by decide) rfl
theorem put_md (C : Addr) (i : Nat) (δ : List D) (f : Str) (hf : f ∈ fs3) (d : D) (fs : List Str) (ds : List D) (hl : fs.length < 1000) : mdR i δ (putD (CK C).fok f d) (some (.node (.ins C fs) true ds)) = .ok (.sc .non, δ.set i (.node (.ins C (putN f fs)) true (putV f d fs ds))) := by
  have e : putD (CK C).fok f d (.ins C fs) ds = some (.sc .non, .ins C (putN f fs), putV f d fs ds) := by
    show (if fs.length < 1000 ∧ (CK C).fok C f = true then some (D.sc .non, Kd.ins C (putN f fs), T.putV f d fs ds) else none) = _
    rw [if_pos ⟨hl, fok_f C f hf⟩]
  show (match putD (CK C).fok f d (.ins C fs) ds with | some (r, k', ds') => Rs.ok (r, δ.set i (.node k' true ds')) | none => .stuck) = _
  rw [e]
theorem init_run (C : Addr) {p n : Nat} {rs : List (List Str)} (hp : p ∈ primes) (h1 : 1 ≤ n) (h4 : n ≤ 4) (hl : rs.length = n) (h : RowsOk p n rs) : (f_Table___init__ C).run [.node (.ins C []) true [], S' (text p rs)] = .ok (.sc .non, [Tb C true p rs (text p rs), S' (text p rs)]) := by
  rw [show (f_Table___init__ C).run = runDef (CK C) 2 3 (ir_Table___init__ C) from rfl]
  rw [runA (show [D.node (.ins C []) true [], S' (text p rs)].length = 2 from rfl)]
  unfold ir_Table___init__
  simp only [List.replicate, Nat.reduceSub]
  obtain ⟨_, t2, t3⟩ := text_ok hp h1 h4 hl h
  have r1 := rows_of_run (text p rs) t2
  rw [t3] at r1
  have hll := lines_len p rs
  have hx := ixT (lines p rs) 0 (by omega)
  rw [show (lines p rs).getD 0 Str.empty = first p from rfl, show ((0 : Nat) : Int) = 0 from rfl] at hx
  have r2 := told_run p hp
  have r3 := crc_run (lines p rs) (by omega) (by omega)
  have r4 := mor_run hp h1 h4 hl h
  have k1 : f_rows_of.lend = true := rfl
  have k2 : f_prime_told.lend = true := rfl
  have k3 : f_check_row_count.lend = true := rfl
  have k4 : f_meanings_of_rows.lend = true := rfl
  have p1 := fun (δ : List D) (d : D) => put_md C 0 δ "size" (by decide) d [] [] (by decide)
  have p2 := fun (δ : List D) (d a : D) => put_md C 0 δ "meanings" (by decide) d ["size"] [a] (by decide)
  have p3 := fun (δ : List D) (d a b : D) => put_md C 0 δ "text" (by decide) d ["size", "meanings"] [a, b] (by decide)
  have q1 : putN "size" [] = (["size"] : List Str) := by kernel_rfl
  have q2 : putN "meanings" ["size"] = (["size", "meanings"] : List Str) := by kernel_rfl
  have q3 : putN "text" ["size", "meanings"] = fs3 := by kernel_rfl
  have v1 : ∀ d : D, T.putV "size" d ([] : List Str) [] = [d] := fun d => rfl
  have v2 : ∀ d a : D, T.putV "meanings" d (["size"] : List Str) [a] = [a, d] := fun d a => rfl
  have v3 : ∀ d a b : D, T.putV "text" d (["size", "meanings"] : List Str) [a, b] = [a, b, d] := fun d a b => rfl
  rw [q1] at p1
  rw [q2] at p2
  rw [q3] at p3
  generalize text p rs = t at r1
  generalize lines p rs = ls at r1 hx r3 r4
  (repeat (first | walk_at "ev" | simp only [k1, k2, k3, k4, r1, r2, r3, r4, hx, shr_dT, p1, p2, p3, v1, v2, v3, fld_0])) <;> rfl
theorem gmem {r : List Str} {j : Nat} (h : j < r.length) : r.getD j Str.empty ∈ r := by
  rw [List.getD_eq_getElem?_getD, List.getElem?_eq_getElem h]
  exact List.getElem_mem h
theorem mean_two (w : Str) : ∃ k v, meanV w = [S' k, .sc v] ∧ tyW .bool (.sc v) = some false := by
  unfold meanV
  split
  · exact ⟨_, _, rfl, rfl⟩
  split
  · exact ⟨_, _, rfl, rfl⟩
  split <;> exact ⟨_, _, rfl, rfl⟩
theorem ixM (r : List Str) (k : Nat) (h : k < r.length) : ((ixN' (r.map (mean false)).length (k : Int)).bind fun j => (r.map (mean false))[j]?) = some (mean false (r.getD k Str.empty)) := by
  rw [List.length_map, ixN_nat _ _ h]
  show (r.map (mean false))[k]? = _
  rw [List.getElem?_map, List.getD_eq_getElem?_getD, List.getElem?_eq_getElem h]
  rfl
theorem prime_run (C : Addr) (o : Bool) (p : Nat) (rs : List (List Str)) (t : Str) : (f_Table_prime C).run [Tb C o p rs t] = .ok (I p, [Tb C false p rs t]) := by
  rw [show (f_Table_prime C).run = runDef (CK C) 1 1 (ir_Table_prime C) from rfl]
  rw [runA (show [Tb C o p rs t].length = 1 from rfl)]
  unfold ir_Table_prime
  simp only [List.replicate, Nat.reduceSub]
  (repeat (first | walk_at "ev" | simp only [shr_Ms, fld_1])) <;> rfl
theorem cases_run (C : Addr) (o : Bool) (p : Nat) (rs : List (List Str)) (t : Str) : (f_Table_cases C).run [Tb C o p rs t] = .ok (I rs.length, [Tb C false p rs t]) := by
  rw [show (f_Table_cases C).run = runDef (CK C) 1 1 (ir_Table_cases C) from rfl]
  rw [runA (show [Tb C o p rs t].length = 1 from rfl)]
  unfold ir_Table_cases
  simp only [List.replicate, Nat.reduceSub]
  have hl : ((rs.map (Mrow false)).length : Int) = (rs.length : Int) := by rw [List.length_map]
  (repeat (first | walk_at "ev" | simp only [shr_Ms, fld_2, hl])) <;> rfl
theorem shown_run (C : Addr) (o : Bool) (p : Nat) (rs : List (List Str)) (t : Str) : (f_Table_shown C).run [Tb C o p rs t] = .ok (S' t, [Tb C false p rs t]) := by
  rw [show (f_Table_shown C).run = runDef (CK C) 1 1 (ir_Table_shown C) from rfl]
  rw [runA (show [Tb C o p rs t].length = 1 from rfl)]
  unfold ir_Table_shown
  simp only [List.replicate, Nat.reduceSub]
  (repeat (first | walk_at "ev" | simp only [shr_Ms, fld_3])) <;> rfl
theorem ix20 (a b : D) : ((ixN' 2 0).bind fun j => [a, b][j]?) = some a := rfl
theorem ix21 (a b : D) : ((ixN' 2 1).bind fun j => [a, b][j]?) = some b := rfl
theorem means_run (C : Addr) (o : Bool) (p : Nat) (rs : List (List Str)) (t : Str) (i j : Nat) (hi : i < rs.length) (hj : j < (rs.getD i []).length) : (f_Table_means C).run [Tb C o p rs t, I i, I j] = .ok (mean true ((rs.getD i []).getD j Str.empty), [Tb C false p rs t, I i, I j]) := by
  rw [show (f_Table_means C).run = runDef (CK C) 3 4 (ir_Table_means C) from rfl]
  rw [runA (show [Tb C o p rs t, I i, I j].length = 3 from rfl)]
  unfold ir_Table_means
  simp only [List.replicate, Nat.reduceSub]
  have x1 := ixR (Mrow false) rs i hi
  have x2 := ixM (rs.getD i []) j hj
  generalize rs.getD i [] = r at x1 x2
  generalize r.getD j Str.empty = w at x2
  obtain ⟨k, v, hm, _⟩ := mean_two w
  simp only [mean, hm] at x2
  simp only [mean, hm]
  (repeat (first | walk_at "ev" | simp only [shr_Ms, fld_2, x1, x2, ix20, ix21, newT2])) <;> rfl
theorem ty_ii (i : Int) : tyW .int (.sc (.int i)) = some true := (rfl)
theorem ty_bi (i : Int) : tyW .bool (.sc (.int i)) = some false := (rfl)
theorem ty_tt (ds : List D) : tyW .tuple (.nd .tup ds) = some true := (rfl)
theorem isi_i (w : W) : bfW (.isi .int) [w] = (tyW .int w).map fun b => .sc (.bl b) := (rfl)
theorem isi_b (w : W) : bfW (.isi .bool) [w] = (tyW .bool w).map fun b => .sc (.bl b) := (rfl)
theorem isi_t (w : W) : bfW (.isi .tuple) [w] = (tyW .tuple w).map fun b => .sc (.bl b) := (rfl)
theorem number_run (a : Int) : f__law_number.run [I a, I a] = .ok (.sc (.bl true), [I a, I a]) := by
  rw [show f__law_number.run = runDef C0 2 2 ir__law_number from rfl]
  rw [runA (show [I a, I a].length = 2 from rfl)]
  unfold ir__law_number
  simp only [List.replicate, Nat.reduceSub]
  have hd : decide (V.int a = V.int a) = true := decide_eq_true rfl
  (repeat (first | walk_at "ev" | simp only [isi_i, isi_b, ty_ii, ty_bi, hd])) <;> rfl
theorem chk_l (C : Addr) (m : Str) (i : Nat) (δ : List D) (fs : List Str) (o : Bool) (ds : List D) (h : δ[i]? = some (.node (.ins C fs) o ds)) (hm : m ∉ fs) : chkI C m (.late i) δ = .ok ((), δ) := by
  unfold chkI
  simp only [h]
  rw [if_pos ⟨trivial, hm⟩]
theorem mean_loop (lk : Nat → Bool) (fok : Addr → Str → Bool) (fuel : Nat) (h4 : lk 4 = false) (h5 : lk 5 = false) (C : Addr) (p n : Nat) (rs : List (List Str)) (t : Str) (hn : n ∈ [1, 2, 3, 4]) (hok : RowsOk p n rs) (i : Nat) (hi : i < rs.length) (a6 : D) : ∀ (m j : Nat) (a b : D), j + m = p → ∃ a' b',
    forL (asgT lk (.name 4)) (exs ⟨lk, fok, fuel⟩ [.asg 5 (.meth C "means" (f_Table_means C) (.v 0) [.v 3, .v 4]), .iff (.or (.nt (.bf (.isi .tuple) [.v 5])) (.cmp .NotEq (.v 5) (.call f__law_due [.ix (.ix (.v 1) (.v 3)) (.v 4)]))) [.ret (.k (.bl false))] [], .iff (.bf (.isi .bool) [.ix (.v 5) (.k (.int 1))]) [.ret (.k (.bl false))] []]) (dI (rngI j m)) [Tb C false p rs t, RL false rs, S' t, I i, a, b, a6] = .ok (.nx, [Tb C false p rs t, RL false rs, S' t, I i, a', b', a6]) := by
  intro m
  induction m with
  | zero => exact fun j a b _ => ⟨a, b, rfl⟩
  | succ m ih =>
    intro j a b hj
    have hr := hok (rs.getD i []) (by rw [List.getD_eq_getElem?_getD, List.getElem?_eq_getElem hi]; exact List.getElem_mem hi)
    have hjl : j < (rs.getD i []).length := by rw [hr.1]; omega
    have hmn := means_run C false p rs t i j hi hjl
    have x1 := ixR (TL false) rs i hi
    have x2 := ixT (rs.getD i []) j hjl
    have hw : (rs.getD i []).getD j Str.empty ∈ wds n := hr.2 _ (gmem hjl)
    generalize rs.getD i [] = r at hmn x1 x2 hw
    generalize r.getD j Str.empty = w at hmn x2 hw
    have hw4 := wds_sub n hn w hw
    have hd := due_run w hw4
    have hq := mean_eq w hw4
    obtain ⟨k, v, hm, hb⟩ := mean_two w
    simp only [mean, hm] at hmn hd hq
    obtain ⟨a', b', ih⟩ := ih (j + 1) (I j) (.node .tup true [S' k, .sc v]) (by omega)
    refine ⟨a', b', ?_⟩
    have e1 : ((j + 1 : Nat) : Int) = (j : Int) + 1 := by omega
    rw [e1] at ih
    rw [← ih, rngI, dI_cons, forL1]
    have hck : ∀ x1 x2 x3 x4 x5 x6 : D, chkI C "means" (.late 0) [Tb C false p rs t, x1, x2, x3, x4, x5, x6] = .ok ((), [Tb C false p rs t, x1, x2, x3, x4, x5, x6]) := fun x1 x2 x3 x4 x5 x6 => chk_l C _ 0 _ fs3 true _ rfl (by decide)
    have k1 : (f_Table_means C).lend = true := rfl
    have k2 : f__law_due.lend = true := rfl
    repeat (first | walk_at "ev" | simp only [h4, h5, hck, k1, k2, hmn, isi_t, ty_tt, shr_RL, shr_dT, x1, x2, hd, hq, ix21, isi_b, hb])
theorem case_loop (lk : Nat → Bool) (fok : Addr → Str → Bool) (fuel : Nat) (h3 : lk 3 = false) (h4 : lk 4 = false) (h5 : lk 5 = false) (C : Addr) (p n : Nat) (rs : List (List Str)) (t : Str) (hp : p ≤ 47) (hn : n ∈ [1, 2, 3, 4]) (hok : RowsOk p n rs) (a6 : D) : ∀ (m i : Nat) (a b c : D), i + m = rs.length → ∃ a' b' c',
    forL (asgT lk (.name 3)) (exs ⟨lk, fok, fuel⟩ [.for_ (.name 4) .rng1 [.bf .len [.ix (.v 1) (.k (.int 0))]] [.asg 5 (.meth C "means" (f_Table_means C) (.v 0) [.v 3, .v 4]), .iff (.or (.nt (.bf (.isi .tuple) [.v 5])) (.cmp .NotEq (.v 5) (.call f__law_due [.ix (.ix (.v 1) (.v 3)) (.v 4)]))) [.ret (.k (.bl false))] [], .iff (.bf (.isi .bool) [.ix (.v 5) (.k (.int 1))]) [.ret (.k (.bl false))] []]]) (dI (rngI i m)) [Tb C false p rs t, RL false rs, S' t, a, b, c, a6] = .ok (.nx, [Tb C false p rs t, RL false rs, S' t, a', b', c', a6]) := by
  intro m
  induction m with
  | zero => exact fun i a b c _ => ⟨a, b, c, rfl⟩
  | succ m ih =>
    intro i a b c hi
    obtain ⟨b1, c1, hin⟩ := mean_loop (fun j => lk j) fok fuel h4 h5 C p n rs t hn hok i (by omega) a6 p 0 b c (by omega)
    obtain ⟨a', b', c', ih⟩ := ih (i + 1) (I i) b1 c1 (by omega)
    refine ⟨a', b', c', ?_⟩
    have e1 : ((i + 1 : Nat) : Int) = (i : Int) + 1 := by omega
    rw [e1] at ih
    rw [← ih, rngI, dI_cons, forL1]
    have x0 := ixR (TL false) rs 0 (by omega)
    have hr0 : (rs.getD 0 []).length = p := by
      rw [List.getD_eq_getElem?_getD, List.getElem?_eq_getElem (by omega)]
      exact (hok _ (List.getElem_mem _)).1
    generalize rs.getD 0 [] = r0 at x0 hr0
    have e0 : ((0 : Nat) : Int) = 0 := rfl
    rw [e0] at x0 hin
    have hlen : ((dT r0).length : Int) = (p : Int) := by rw [dT_len, hr0]
    have hit : itW .rng1 [.sc (.int (p : Int))] = some (dI (rngI 0 p)) := by
      have := it_r1 (p : Int) (by omega)
      rwa [Int.toNat_natCast] at this
    have wk : ∀ (f : BF) (es : List E) (j : Nat), walked [.bf f es] j = false := fun _ _ _ => rfl
    repeat (first | walk_at "ev" | simp only [h3, shr_RL, x0, hlen, hit, wk, hin])
theorem right_run (C : Addr) (o b : Bool) {p n : Nat} {rs : List (List Str)} (t : Str) (hp : p ∈ primes) (h1 : 1 ≤ n) (h4 : n ≤ 4) (hl : rs.length = n) (h : RowsOk p n rs) : (f__law_right C).run [Tb C o p rs t, RL b rs, S' t] = .ok (.sc (.bl true), [Tb C false p rs t, RL false rs, S' t]) := by
  rw [show (f__law_right C).run = runDef (CK C) 3 7 (ir__law_right C) from rfl]
  rw [runA (show [Tb C o p rs t, RL b rs, S' t].length = 3 from rfl)]
  unfold ir__law_right
  simp only [List.replicate, Nat.reduceSub]
  have hpl := prime_le p hp
  obtain ⟨a', b', c', hf⟩ := case_loop (fun j => decide (j < 3)) (CK C).fok (CK C).fuel rfl rfl rfl C p n rs t hpl.2 (n14 h1 h4) h .hole rs.length 0 .hole .hole .hole (by omega)
  have e0 : ((0 : Nat) : Int) = 0 := rfl
  rw [e0] at hf
  have x0 := ixR (TL false) rs 0 (by omega)
  have hr0 : (rs.getD 0 []).length = p := by
    rw [List.getD_eq_getElem?_getD, List.getElem?_eq_getElem (by omega)]
    exact (h _ (List.getElem_mem _)).1
  generalize rs.getD 0 [] = r0 at x0 hr0
  rw [e0] at x0
  have hlen : ((dT r0).length : Int) = (p : Int) := by rw [dT_len, hr0]
  have hl2 : ((rs.map (TL false)).length : Int) = (rs.length : Int) := by rw [List.length_map]
  have hit : itW .rng1 [.sc (.int (rs.length : Int))] = some (dI (rngI 0 rs.length)) := by
    have := it_r1 (rs.length : Int) (by omega)
    rwa [Int.toNat_natCast] at this
  have hck : ∀ (m : Str) (o : Bool) (x1 x2 x3 x4 x5 x6 : D), m ∉ fs3 → chkI C m (.late 0) [Tb C o p rs t, x1, x2, x3, x4, x5, x6] = .ok ((), [Tb C o p rs t, x1, x2, x3, x4, x5, x6]) := fun m o x1 x2 x3 x4 x5 x6 hm => chk_l C _ 0 _ fs3 true _ rfl hm
  have c1 := fun (o : Bool) (x1 x2 x3 x4 x5 x6 : D) => hck "prime" o x1 x2 x3 x4 x5 x6 (by decide)
  have c2 := fun (o : Bool) (x1 x2 x3 x4 x5 x6 : D) => hck "cases" o x1 x2 x3 x4 x5 x6 (by decide)
  have c3 := fun (o : Bool) (x1 x2 x3 x4 x5 x6 : D) => hck "shown" o x1 x2 x3 x4 x5 x6 (by decide)
  have r1 := fun o => prime_run C o p rs t
  have r2 := fun o => cases_run C o p rs t
  have r3 := fun o => shown_run C o p rs t
  have k1 : (f_Table_prime C).lend = true := rfl
  have k2 : (f_Table_cases C).lend = true := rfl
  have k3 : (f_Table_shown C).lend = true := rfl
  have k4 : f__law_number.lend = true := rfl
  have n1 := number_run (p : Int)
  have n2 := number_run (rs.length : Int)
  have wk : ∀ (f : BF) (es : List E) (j : Nat), walked [.bf f es] j = false := fun _ _ _ => rfl
  have hd : decide (V.str t = V.str t) = true := decide_eq_true rfl
  (repeat (first | walk_at "ev" | simp only [c1, c2, c3, k1, k2, k3, k4, r1, r2, r3, shr_RL, x0, hlen, hl2, n1, n2, hit, wk, hf, isi_s, ty_ss, hd])) <;> rfl
theorem new1 {A : Addr} {fi : FI} {d x y : D} (h : fi.run [.node (.ins A []) true [], d] = .ok (.sc .non, [x, y])) (δ : List D) : newF A fi [.tmp d] δ = .ok (x, δ) := by
  unfold newF
  rw [bnd_run (show takeAs fi.lend [.tmp d] δ = .ok ([d], δ) from rfl)]
  rw [h]
  rfl
theorem law_true (C : Addr) (ns : List Int) (h : ns.length ≤ 63) : ∃ ds', (f_law C).run [scr ns] = .ok (.sc (.bl true), ds') := by
  obtain ⟨p, hp, n, rs, h1, h4, hl, hok, hr⟩ := rows_run ns 0
  obtain ⟨p', hp', n', rs', h1', h4', hl', hok', hr'⟩ := rows_run ns 5
  have e0 : ((0 : Nat) : Int) = 0 := rfl
  have e5 : ((5 : Nat) : Int) = 5 := rfl
  rw [e0] at hr
  rw [e5] at hr'
  have t1 := fun b => text_run (p := p) b hp h1 h4 hl hok
  have t2 := fun b => text_run (p := p') b hp' h1' h4' hl' hok'
  have i1 := fun δ => new1 (init_run C hp h1 h4 hl hok) δ
  have i2 := fun δ => new1 (init_run C hp' h1' h4' hl' hok') δ
  have r1 := fun o b => right_run C o b (text p rs) hp h1 h4 hl hok
  have r2 := fun o b => right_run C o b (text p' rs') hp' h1' h4' hl' hok'
  generalize text p rs = t at t1 i1 r1
  generalize text p' rs' = t' at t2 i2 r2
  show ∃ ds', runDef (CK C) 1 5 (ir_law C) [scr ns] = .ok (.sc (.bl true), ds')
  rw [runA (show [scr ns].length = 1 from rfl)]
  unfold ir_law
  simp only [List.replicate, Nat.reduceSub]
  have k1 : f__law_rows.lend = true := rfl
  have k2 : f__law_text.lend = true := rfl
  have k3 : (f__law_right C).lend = true := rfl
  simp only [scr] at hr hr'
  repeat (first | walk_at "ev" | simp only [k1, k2, k3, hr, hr', t1, t2, i1, i2, r1, r2])
  exact ⟨_, rfl⟩
end My
open PySem PySem.W PyProof.Rows
set_option maxRecDepth 100000 in
set_option maxHeartbeats 0 in
theorem PySem.Challenge.cw_barlabel_k01_tables_told_holds : PySem.Challenge.rw_barlabel_k01_tables_told.Holds := by
  w_on; o_law; k_head; (case hw => w_witness2)
  k_fill
  refine T.law_walk (l := PySem.Challenge.rw_barlabel_k01_tables_told) (k := 5) (x := "_law_script") (R := fun K => (My.f_law (My.clsOf K)).run) rfl rfl ⟨rfl, by decide, by decide⟩ (fun w h Y => PySem.W.kIn_of Y) ?F (fun K ns hl => My.law_true (My.clsOf K) ns hl)
  case F =>
    intro w mg fa h KX G hmg
    refine' My.all_mk KX G hmg ?aC ?pgC ?hdC ?poC ?saC ?mkC ?kcC ?nF0 ?nF1 ?nF2 ?x0 ?l0 ?c0 ?k0 ?x1 ?l1 ?c1 ?k1 ?x2 ?l2 ?c2 ?k2 ?x3 ?l3 ?c3 ?k3 ?x4 ?l4 ?c4 ?k4 ?x5 ?y5 ?l5 ?c5 ?k5 ?x6 ?y6 ?l6 ?c6 ?k6 ?x7 ?y7 ?l7 ?c7 ?k7 ?x8 ?y8 ?l8 ?c8 ?k8 ?x9 ?y9 ?l9 ?c9 ?k9 ?x10 ?l10 ?c10 ?k10 ?x11 ?l11 ?c11 ?k11 ?x12 ?l12 ?c12 ?k12 ?x13 ?l13 ?c13 ?k13 ?x14 ?l14 ?c14 ?k14 ?x15 ?l15 ?c15 ?k15 ?x16 ?l16 ?c16 ?k16 ?x17 ?l17 ?c17 ?k17 ?x18 ?l18 ?c18 ?k18 ?z0 ?z1 ?z2 ?z3 ?z4 ?z5 ?z6 ?z7 ?zc0 ?zs0 ?zt0 ?zl0 ?zz0 ?zi0
    (case aC => k_is); (case pgC => k_is); (case hdC => k_is); (case poC => k_is); (case saC => k_is); (case mkC => k_is)
    (case kcC => k_is); (case nF0 => k_is); (case nF1 => k_is); (case nF2 => k_is); (case x0 => k_is); (case l0 => k_is)
    (case c0 => k_is); (case k0 => k_is); (case x1 => k_is); (case l1 => k_is); (case c1 => k_is); (case k1 => k_is)
    (case x2 => k_is); (case l2 => k_is); (case c2 => k_is); (case k2 => k_is); (case x3 => k_is); (case l3 => k_is)
    (case c3 => k_is); (case k3 => k_is); (case x4 => k_is); (case l4 => k_is); (case c4 => k_is); (case k4 => k_is)
    (case x5 => k_is); (case y5 => k_is); (case l5 => k_is); (case c5 => k_is); (case k5 => k_is); (case x6 => k_is)
    (case y6 => k_is); (case l6 => k_is); (case c6 => k_is); (case k6 => k_is); (case x7 => k_is); (case y7 => k_is)
    (case l7 => k_is); (case c7 => k_is); (case k7 => k_is); (case x8 => k_is); (case y8 => k_is); (case l8 => k_is)
    (case c8 => k_is); (case k8 => k_is); (case x9 => k_is); (case y9 => k_is); (case l9 => k_is); (case c9 => k_is)
    (case k9 => k_is); (case x10 => k_is); (case l10 => k_is); (case c10 => k_is); (case k10 => k_is); (case x11 => k_is)
    (case l11 => k_is); (case c11 => k_is); (case k11 => k_is); (case x12 => k_is); (case l12 => k_is); (case c12 => k_is)
    (case k12 => k_is); (case x13 => k_is); (case l13 => k_is); (case c13 => k_is); (case k13 => k_is); (case x14 => k_is)
    (case l14 => k_is); (case c14 => k_is); (case k14 => k_is); (case x15 => k_is); (case l15 => k_is); (case c15 => k_is)
    (case k15 => k_is); (case x16 => k_is); (case l16 => k_is); (case c16 => k_is); (case k16 => k_is); (case x17 => k_is)
    (case l17 => k_is); (case c17 => k_is); (case k17 => k_is); (case x18 => k_is); (case l18 => k_is); (case c18 => k_is)
    (case k18 => k_is); (case z0 => k_is); (case z1 => k_is); (case z2 => k_is); (case z3 => k_is); (case z4 => k_is)
    (case z5 => k_is); (case z6 => k_is); (case z7 => k_is); (case zc0 => k_is); (case zs0 => k_is); (case zt0 => k_is)
    (case zl0 => k_is); (case zz0 => exact Nat.le_of_ble_eq_true rfl); (case zi0 => rfl)
