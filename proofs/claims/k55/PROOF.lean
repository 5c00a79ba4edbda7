import PyProof.Rows.All
import PyProof.Rows.SortShell
import PyProof.Rows.SetFrom
import KE.KDictList
import Wide.All
import OpenK.AllK
import Wide.FinOn
import PyProof.EqAt
import PyProof.EqKinds
import PyProof.TupleCall
import KE.KRevIter
import PyProof.ListRange
import PyProof.ZipIter
import PyProof.Rows.ZipGen
import KE.KDictSum
import KE.KRevSl
import PyProof.DictWalks
import PyProof.DictIter
import KE.KDictLaws
import PyProof.StrReplace2
import PyProof.CallStr
import KE.KNestM
import KE.KLam
import PySem.Challenge.RW_stuckwire_k55_whole_book
set_option maxHeartbeats 0
open PySem.W (Frag fnOf keepIn codeIn nsIn mg_of)
set_option Elab.async false
set_option linter.all false
noncomputable section
set_option maxRecDepth 100000
set_option bootstrap.genMatcherCode false
set_option compiler.extract_closed false
set_option genSizeOfSpec false
abbrev Ra:=@PySem.wpAny_bind
abbrev Rb:=@PySem.wpAny_pure
abbrev Rc:=@PySem.wpAny_mono
abbrev Re:=@PySem.wpAny_newObj_type
abbrev Rf:=@PySem.wpAny_ite_split
abbrev Rg:=@PySem.wpAny_holding
abbrev Rh:=@PySem.wpAny_call_entry
abbrev Ri:=@PySem.wpAny_setState_of
abbrev Rj:=@PySem.wpAny_of_eq
abbrev Rk:=@PySem.wpAny_rule
abbrev Rl:=@PySem.wpAny_Call_Name_kw
abbrev Rm:=@PySem.wpAny_askSetting
abbrev Rn:=@PySem.codeAny_builtin
abbrev Ro:=@PySem.codeAny_mono
abbrev Rp:=@PySem.wpAny_setField
abbrev Rq:=@PySem.plainId_quiet
abbrev Rr:=@PyProof.Rows.wpS_bind
abbrev Rs:=@PyProof.Rows.wpS_pure
abbrev Ru:=@PyProof.Rows.wpS_forRange
abbrev Rv:=@PyProof.Rows.wpS_mono
abbrev Rw:=@PyProof.Rows.wpS_modify
abbrev Rx:=@PyProof.Rows.wpS_get
abbrev Ry:=@decide_eq_false
abbrev Rz:=@decide_eq_true
abbrev RA:=@decide_eq_true_eq
abbrev RC:=@if_true
abbrev RD:=@if_false
abbrev RE:=@getElem?_pos
namespace PySem.W.Fast
theorem tw10338504102075614487:True:=trivial
theorem tw13363510396352788385:True:=trivial
theorem tw8355377024435663186:True:=trivial
theorem tw17545671845077337961:True:=trivial
theorem tw14443368162747883199:True:=trivial
theorem tw1559510007685578816:True:=trivial
theorem tw2076146996344318005:True:=trivial
theorem tw11855058530590027557:True:=trivial
theorem tw13264575941529513274:True:=trivial
theorem tw12337621014904639976:True:=trivial
theorem tw8571210230616216754:True:=trivial
theorem tw4328597662878171232:True:=trivial
theorem tw9413894043628502677:True:=trivial
theorem tw2756840113314514682:True:=trivial
theorem tw2208611246913419405:True:=trivial
theorem tw1361868277881228179:True:=trivial
theorem tw7273261582359982486:True:=trivial
theorem tw11398714474700269766:True:=trivial
theorem tw12145030509542407497:True:=trivial
theorem tw11956352832880449661:True:=trivial
theorem tw13083229069886409709:True:=trivial
theorem tw606628103597996945:True:=trivial
theorem tw8393186915455657920:True:=trivial
theorem tw14136759871998737963:True:=trivial
theorem tw13537099199828410282:True:=trivial
theorem tw1612418470182197620:True:=trivial
theorem tw6188112918210375291:True:=trivial
theorem tw14150069177180169185:True:=trivial
theorem tw5216212756796113952:True:=trivial
theorem tw18239200092883339656:True:=trivial
theorem tw3881853671086333867:True:=trivial
theorem tw5298349541665020700:True:=trivial
theorem tw12244407350703429281:True:=trivial
theorem tw9639338629418619539:True:=trivial
theorem tw398391774972368210:True:=trivial
theorem tw781499823354496007:True:=trivial
theorem tw3269406146421420440:True:=trivial
theorem tw17647165992022523328:True:=trivial
theorem tw15757912491521258911:True:=trivial
theorem tw12950990802904949609:True:=trivial
theorem tw16778566771067421571:True:=trivial
theorem tw4414614646348778252:True:=trivial
theorem tw9676187769888329263:True:=trivial
theorem tw8563219400958376770:True:=trivial
theorem tw4891483597240526646:True:=trivial
theorem tw556143925290477986:True:=trivial
theorem tw11875020532982521038:True:=trivial
theorem tw15693641585589597167:True:=trivial
theorem tw5598182687989632317:True:=trivial
theorem tw8634672758938990691:True:=trivial
theorem tw17303117429297009403:True:=trivial
theorem tw318024316424340562:True:=trivial
theorem tw12366589318615347658:True:=trivial
theorem tw11786948585549419228:True:=trivial
theorem tw4262458996292864065:True:=trivial
theorem tw18361899390225710006:True:=trivial
theorem tw18350526081483204215:True:=trivial
theorem tw16905536625681510053:True:=trivial
theorem tw6143902817502394614:True:=trivial
theorem tw14314113387221818306:True:=trivial
theorem tw208876381434055074:True:=trivial
theorem tw9467143938497947362:True:=trivial
theorem tw14817797737421664091:True:=trivial
theorem tw8575234750143849756:True:=trivial
theorem tw15491048486213634799:True:=trivial
theorem tw10850046595362627084:True:=trivial
theorem tw4777845909883312752:True:=trivial
theorem tw9572218427802612901:True:=trivial
theorem tw9557557691980944615:True:=trivial
theorem tw11733280606297603605:True:=trivial
theorem tw15607239989660161452:True:=trivial
theorem tw2124813043750932737:True:=trivial
theorem tw4183502079600021441:True:=trivial
theorem tw17549588760648105652:True:=trivial
theorem tw12870859805855601650:True:=trivial
theorem tw431404400410651678:True:=trivial
theorem tw15315149409751123638:True:=trivial
theorem tw16548473058962068811:True:=trivial
theorem tw15130604340400350878:True:=trivial
theorem tw8218182478156823229:True:=trivial
theorem tw7354229269029456001:True:=trivial
theorem tw14877921724583151288:True:=trivial
theorem tw3524181867709141267:True:=trivial
theorem tw5204137472208032628:True:=trivial
theorem tw17404814740547150422:True:=trivial
theorem tw12054831243669917536:True:=trivial
theorem tw12952175201190889319:True:=trivial
theorem tw17676173572622653463:True:=trivial
theorem tw3126055299255056598:True:=trivial
theorem tw16330549240598617409:True:=trivial
theorem tw9253113686816671601:True:=trivial
theorem tw5063717308190804819:True:=trivial
theorem tw16896354347391831890:True:=trivial
theorem tw15319633073689589713:True:=trivial
theorem tw2614767598404805487:True:=trivial
theorem tw10977585184608928108:True:=trivial
theorem tw7383534537713114481:True:=trivial
theorem tw3724707634317546627:True:=trivial
theorem tw2518706220607613043:True:=trivial
theorem tw5804336847237875216:True:=trivial
theorem tw10935431033488896204:True:=trivial
theorem tw6190128752953051697:True:=trivial
theorem tw9619465600098765628:True:=trivial
theorem tw283015098431987926:True:=trivial
theorem tw19135762707446860:True:=trivial
theorem tw13847579105198792963:True:=trivial
theorem tw8401482877744809834:True:=trivial
theorem tw18234226803591256155:True:=trivial
theorem tw16751925661495085936:True:=trivial
theorem tw15814686017465426524:True:=trivial
theorem tw7948606194977001129:True:=trivial
theorem tw1641606878750188623:True:=trivial
theorem tw5312527816030698736:True:=trivial
theorem tw15437314531310014890:True:=trivial
theorem tw11787937317760083586:True:=trivial
theorem tw9359521498372713798:True:=trivial
theorem tw14867049268586120256:True:=trivial
theorem tw2203529246657775329:True:=trivial
theorem tw5428996505553917623:True:=trivial
theorem tw8459189037995474530:True:=trivial
theorem tw10016090787437653569:True:=trivial
theorem tw10640499749170365404:True:=trivial
theorem tw11862488844505899030:True:=trivial
theorem tw17794458614302239644:True:=trivial
theorem tw319888761808997585:True:=trivial
theorem tw1677135521141967859:True:=trivial
theorem tw9083030699375700651:True:=trivial
theorem tw10263436992706861331:True:=trivial
theorem tw1922596062865710397:True:=trivial
theorem tw17952149669568122789:True:=trivial
theorem tw13904908913047543285:True:=trivial
theorem tw11940878581439421296:True:=trivial
theorem tw2600987916881294999:True:=trivial
theorem tw8883888471920888714:True:=trivial
theorem tw13801516853057548802:True:=trivial
theorem tw5960889046992994370:True:=trivial
theorem tw10710078585553187308:True:=trivial
theorem tw7454713591560486967:True:=trivial
theorem tw463192366569870015:True:=trivial
theorem tw7666370085996651380:True:=trivial
theorem tw16101790415488651194:True:=trivial
theorem tw4729022085782994434:True:=trivial
theorem tw12717643577344804759:True:=trivial
theorem tw12807526529764908896:True:=trivial
theorem tw1947715405144133643:True:=trivial
theorem tw7016065312396254678:True:=trivial
theorem tw8724446521446298266:True:=trivial
theorem tw150450251036717996:True:=trivial
theorem tw9326335128971532966:True:=trivial
theorem tw12387054329523909806:True:=trivial
theorem tw11119372664919170915:True:=trivial
theorem tw11912840460197559639:True:=trivial
theorem tw1857866030634925323:True:=trivial
theorem tw8586227304044409281:True:=trivial
theorem tw18308148685555784582:True:=trivial
theorem tw8614483404034473840:True:=trivial
theorem tw16633506799585868828:True:=trivial
theorem tw6885743892219188898:True:=trivial
end PySem.W.Fast
abbrev Aa:=Option
abbrev Ab:=List
abbrev Ac:=PySem.Shared
abbrev Ad:=PySem.Value
abbrev Ae:=Array
abbrev Af:=PySem.Addr
abbrev Ag:=PySem.Expr
abbrev Ah:=PySem.Heap
abbrev Ai:=PySem.Around
abbrev Aj:=PySem.Program
abbrev Ak:=PySem.World
abbrev Qaa:=@List.length_map
abbrev Qab:=@PySem.Heap.get?_push_of_some
abbrev Qac:=@List.getElem?_eq_some_iff
abbrev Qad:=@List.getElem?_eq_getElem
abbrev Qae:=@List.mem_cons_of_mem
abbrev Qaf:=@List.mem_cons
abbrev Qag:=@Nat.le_refl
abbrev Qah:=@PySem.Heap.lt_size
abbrev Qai:=@List.mem_append
abbrev Qaj:=@List.getElem?_cons_zero
abbrev Qak:=@Array.length_toList
abbrev Qal:=@List.length_cons
abbrev Qam:=@List.mem_append_right
abbrev Qan:=@PySem.Heap.get?_push_size
abbrev Qao:=@List.map_cons
abbrev Qap:=@List.getElem?_cons_succ
abbrev Qaq:=@Option.join_some
abbrev Qar:=@List.mem_append_left
abbrev Qas:=@List.getElem?_map
abbrev Qat:=@Int.toNat_natCast
abbrev Qau:=@List.mem_cons_self
abbrev Qav:=@List.length_take
abbrev Qaw:=@List.getElem?_eq_none
abbrev Qax:=@Array.getElem?_toList
abbrev Qay:=@List.getElem?_set_ne
abbrev Qaz:=@List.size_toArray
abbrev QaA:=@Nat.ne_of_lt
abbrev QaB:=@List.length_append
abbrev QaC:=@Int.emod_lt_of_pos
abbrev QaD:=@Array.toList_append
abbrev QaE:=@Nat.lt_of_lt_of_le
abbrev QaF:=@List.mem_singleton
abbrev QaG:=@List.map_append
abbrev QaH:=@List.append_nil
abbrev QaI:=@List.mem_of_getElem?
abbrev QaJ:=@List.length_range
abbrev QaK:=@List.append_assoc
abbrev QaL:=@Int.emod_nonneg
abbrev QaM:=@List.mem_map
abbrev QaN:=@List.pairwise_append
abbrev QaO:=@List.nodup_cons
abbrev QaP:=@PySem.W.mg_none_of
abbrev QaQ:=@List.nodup_nil
abbrev QaR:=@List.take_length
abbrev QaS:=@Option.some.inj
abbrev QaT:=@List.nodup_append
abbrev QaU:=@Bool.and_eq_true
abbrev QaV:=@Nat.le_trans
abbrev QaW:=@List.map_map
abbrev QaX:=@List.lookup_cons
abbrev QaY:=@List.getElem?_append_left
abbrev QaZ:=@List.getElem?_set_self
abbrev Qa0:=@List.set_eq_of_length_le
abbrev Qa1:=@List.getElem?_take_of_lt
abbrev Qa2:=@PySem.W.kia_one
abbrev Qa3:=@Nat.lt_succ_of_lt
abbrev Qa4:=@List.getElem?_append_right
abbrev Qa5:=@Array.getElem?_eq_some_iff
abbrev Qa6:=@Nat.zero_add
abbrev Qa7:=@List.mem_range
abbrev Qa8:=@List.foldl_cons
abbrev Qa9:=@List.eq_nil_of_length_eq_zero
abbrev Qba:=@Option.some.injEq
abbrev Qbb:=@Bool.false_eq_true
abbrev Qbc:=@Option.bind_some
abbrev Qbd:=@Nat.le_of_lt
abbrev Qbe:=@List.map_congr_left
abbrev Qbf:=@Nat.lt_irrefl
abbrev Qbg:=@Nat.two_pow_pos
abbrev Qbh:=@List.mem_iff_getElem?
abbrev Qbi:=@List.map_nil
abbrev Qbj:=@PySem.Heap.SameBut.update
abbrev Qbk:=@List.pairwise_cons
abbrev Qbl:=@List.getElem?_drop
abbrev Qbm:=@Nat.zero_le
abbrev Qbn:=@List.not_mem_nil
abbrev Qbo:=@PySem.Heap.get?_update_self
abbrev Qbp:=@Int.le_trans
abbrev Qbq:=@List.take_of_length_le
abbrev Qbr:=@Nat.lt_of_le_of_lt
abbrev Qbs:=@Int.le_of_lt
abbrev Qbt:=@List.take_zero
abbrev Qbu:=@List.Perm.refl
abbrev Qbv:=@Int.one_mul
abbrev Qbw:=@Nat.pow_le_pow_right
abbrev Qbx:=@List.mem_map_of_mem
abbrev Qby:=@List.getElem?_replicate
abbrev Qbz:=@Nat.lt_succ_self
abbrev QbA:=@List.cons_append
abbrev QbB:=@Nat.testBit_and
abbrev QbC:=@List.take_append_drop
abbrev QbD:=@List.length_filter_le
abbrev QbE:=@Array.toList_push
abbrev QbF:=@Array.toList_reverse
abbrev QbG:=@List.pairwise_iff_getElem
abbrev QbH:=@List.take_succ_cons
abbrev QbI:=@Int.toNat_of_nonneg
abbrev QbJ:=@PySem.F.plain_list_iadd
abbrev QbK:=@List.pairwise_singleton
abbrev QbL:=@List.nil_append
abbrev QbM:=@List.mem_filter
abbrev QbN:=@List.find?_cons
abbrev QbO:=@Bool.not_true
theorem PySem.W.Fast.te9813874212416183255 : True := trivial
namespace TS
open PySem PyProof.Rows
abbrev ky (x:Keyed):Int:=numOf x.1
def IK (x:Keyed):Prop:=∃ n t,x.1=Value.int n t
theorem IK.eq (h:IK x):∃ t,x=(.int (ky x) t,x.2):=by
 obtain⟨n,t,e⟩:=h;exact⟨t,Prod.ext (by rw [e];show Value.int n t=.int (numOf x.1) t;rw [e];rfl) rfl⟩
def E6:Bool->Keyed->Ae Keyed->Nat->Nat->Nat->StateT SortSt Sem (Aa Nat):=sortPriv% PySem.Builtin.gallop
section
variable {prog:Aj}{w:Ak}{A:Ai}{E:Ad->Ac->Prop}{s:Ac}
theorem dP {st:SortSt}(hx:xs[i]? = some x) (h:Q x st):wpS (model prog w) A E s (elem' xs i) Q st:=by
 rw [elem'_eq,hx];exact Rs h
theorem Z2P {st:SortSt}(hk:kindOf st=oneType') (hx:IK x) (hy:IK y) (h:Q (some (decide (ky x < ky y))) st):wpS (model prog w) A E s (lt' x y) Q st:=by
 obtain⟨t,ex⟩:=hx.eq;obtain⟨u,ey⟩:=hy.eq;rw [lt'_eq];refine Rr (Rx ?_);rw [hk,keyLt'_oneType,ex,ey];refine Rr (wpS_lift (wpAny_attempt (oneLt_int ⟨rfl,?_⟩)));exact Rs h
def byd (left:Bool) (key x:Keyed):Bool:=if left then decide (ky x < ky key) else !decide (ky key < ky x)
def G1 (left:Bool) (key:Keyed) (xs:Ae Keyed) (base i:Nat):StateT SortSt Sem (Aa Bool):=do
 let x <- elem' xs (base + i)
 if left=true then lt' x key
 else
  let r <- lt' key x
  pure (Option.map (fun x=>!x) r)
theorem Z89 {st:SortSt}(hk:kindOf st=oneType') (hy:IK key) (hx:xs[base + i]? = some x) (hi:IK x)
  (h:Q (some (byd left key x)) st):wpS (model prog w) A E s (G1 left key xs base i) Q st:=by
 unfold G1;refine Rr (dP hx ?_);cases left with
 | true=>rw [if_pos rfl];exact Z2P hk hi hy h
 | false=>rw [if_neg (by decide)];exact Rr (Z2P hk hy hi (Rs h))
def bis (f:Nat->StateT SortSt Sem (Aa Bool)) (n lo hi:Nat):StateT SortSt Sem (Aa Nat):=do
 let r <- forIn [0:n] ((none,lo,hi):Aa (Aa Nat) × Nat × Nat) fun _ c =>
  if c.2.1 ≥ c.2.2 then pure (ForInStep.done (none,c.2.1,c.2.2))
  else do
   let z <- f (c.2.1 + (c.2.2 - c.2.1) / 2)
   match z with
   | some more=>if more=true then pure (ForInStep.yield (none,c.2.1 + (c.2.2 - c.2.1) / 2 + 1,c.2.2)) else pure (ForInStep.yield (none,c.2.1,c.2.1 + (c.2.2 - c.2.1) / 2))
   | _=>pure (ForInStep.done (some none,c.2.1,c.2.2))
 match r.1 with
 | some q=>pure q
 | none=>pure (some r.2.2)
theorem Z5V (left:Bool) (key:Keyed) (xs:Ae Keyed) (base n hint:Nat):E6 left key xs base n hint=(do
  let z <- G1 left key xs base hint
  match z with
  | some right =>
   if right=true then do
    let r <- forIn [0:n] ((none,0,1):Aa (Aa Nat) × Nat × Nat) fun _ c =>
     if c.2.2 ≥ n - hint then pure (ForInStep.done (none,c.2.1,c.2.2))
     else do
      let z <- G1 left key xs base (hint + c.2.2)
      match z with
      | some more=>if (!more)=true then pure (ForInStep.done (none,c.2.1,c.2.2)) else pure (ForInStep.yield (none,c.2.2,2 * c.2.2 + 1))
      | _=>pure (ForInStep.done (some none,c.2.1,c.2.2))
    match r.1 with
    | some q=>pure q
    | none=>bis (G1 left key xs base) n (hint + r.2.1 + 1) (hint + min r.2.2 (n - hint))
   else do
    let r <- forIn [0:n] ((none,0,1):Aa (Aa Nat) × Nat × Nat) fun _ c =>
     if c.2.2 ≥ hint + 1 then pure (ForInStep.done (none,c.2.1,c.2.2))
     else do
      let z <- G1 left key xs base (hint - c.2.2)
      match z with
      | some more=>if more=true then pure (ForInStep.done (none,c.2.1,c.2.2)) else pure (ForInStep.yield (none,c.2.2,2 * c.2.2 + 1))
      | _=>pure (ForInStep.done (some none,c.2.1,c.2.2))
    match r.1 with
    | some q=>pure q
    | none=>bis (G1 left key xs base) n (hint + 1 - min r.2.2 (hint + 1)) (hint - r.2.1)
  | _=>pure none):=by
 refine congrArg (fun g=>G1 left key xs base hint >>= g) (funext fun z=>?_);cases z with
 | none=>rfl
 | some r =>
  cases r with
  | true=>exact congrArg (fun g=>_ >>= g) (funext fun⟨q,l,o⟩=>by
    cases q with
    | some q=>rfl
    | none=>exact congrArg (fun g=>_ >>= g) (funext fun⟨q,l,o⟩=>by cases q <;> rfl))
  | false=>exact congrArg (fun g=>_ >>= g) (funext fun⟨q,l,o⟩=>by
    cases q with
    | some q=>rfl
    | none=>exact congrArg (fun g=>_ >>= g) (funext fun⟨q,l,o⟩=>by cases q <;> rfl))
variable {st:SortSt}{n:Nat}{B:Nat->Bool}{f:Nat->StateT SortSt Sem (Aa Bool)}
theorem Z6o {lo hi:Nat}(hf:∀ i,i < n->∀ R:Aa Bool->SortSt->Prop,R (some (B i)) st->wpS (model prog w) A E s (f i) R st)
  (hm:∀ i j,i <= j->j < n->B j=true->B i=true) (h1:lo <= hi) (h2:hi <= n) (h3:lo=0 \/ B (lo - 1)=true) (h4:hi=n \/ B hi=false)
  (h:∀ k,k <= n->(∀ i,i < k->B i=true)->(∀ i,k <= i->i < n->B i=false)->Q (some k) st):wpS (model prog w) A E s (bis f n lo hi) Q st:=by
 unfold bis;refine Rr (Rv (Ru (I:=fun x c st'=>st'=st /\ ∃ l r,c=(none,l,r) /\ l <= r /\ r <= n /\ r - l <= n - x /\ (l=0 \/ B (l - 1)=true) /\ (r=n \/ B r=false))
  (Q:=fun c st'=>st'=st /\ ∃ l,c=(none,l,l) /\ l <= n /\ (l=0 \/ B (l - 1)=true) /\ (l=n \/ B l=false)) ?_ ?_ ⟨rfl,lo,hi,rfl,h1,h2,by omega,h3,h4⟩) ?_)
 .rintro x c st' _ hx ⟨rfl,l,r,rfl,a1,a2,a3,a4,a5⟩;dsimp only;by_cases hge:l ≥ r
  .rw [if_pos hge];have e:l=r:=by omega
   subst e;exact Rs ⟨rfl,l,rfl,a2,a4,a5⟩
  .rw [if_neg hge];refine Rr (hf _ (by omega) _ ?_);dsimp only;cases hb:B (l + (r - l) / 2) with
   | true=>rw [if_pos rfl];exact Rs ⟨rfl,_,r,rfl,by omega,a2,by omega,.inr hb,a5⟩
   | false=>rw [if_neg (by decide)];exact Rs ⟨rfl,l,_,rfl,by omega,by omega,by omega,a4,.inr hb⟩
 .rintro c st' ⟨rfl,l,r,rfl,a1,a2,a3,a4,a5⟩;have e:l=r:=by omega
  subst e;exact⟨rfl,l,rfl,a2,a4,a5⟩
 .rintro c st' ⟨rfl,l,rfl,a2,a4,a5⟩;refine Rs (h l a2 (fun i hi=>?_) fun i hi hn=>?_)
  .rcases a4 with rfl | a4
   .omega
   .exact hm i (l - 1) (by omega) (by omega) a4
  .rcases a5 with rfl | a5
   .omega
   .cases hb:B i with
    | false=>rfl
    | true=>rw [hm l i hi hn hb] at a5;cases a5
theorem Z87 {left:Bool}(hk:kindOf st=oneType') (hy:IK key) (hh:hint < n)
  (hx:∀ i,i < n->∃ x,xs[base + i]? = some x /\ IK x /\ byd left key x=B i)
  (hm:∀ i j,i <= j->j < n->B j=true->B i=true)
  (h:∀ k,k <= n->(∀ i,i < k->B i=true)->(∀ i,k <= i->i < n->B i=false)->Q (some k) st):wpS (model prog w) A E s (E6 left key xs base n hint) Q st:=by
 have hf:∀ i,i < n->∀ R:Aa Bool->SortSt->Prop,R (some (B i)) st->wpS (model prog w) A E s (G1 left key xs base i) R st:=fun i hi R hR=>by
  obtain⟨x,e1,e2,e3⟩:=hx i hi;exact Z89 hk hy e1 e2 (by rw [e3];exact hR)
 rw [Z5V];refine Rr (hf hint hh _ ?_);dsimp only;cases hb:B hint with
 | true =>
  rw [if_pos rfl];refine Rr (Rv (Ru (I:=fun x c st'=>st'=st /\ ∃ l o,c=(none,l,o) /\ l < o /\ x + 1 <= o /\ hint + l < n /\ B (hint + l)=true)
   (Q:=fun c st'=>st'=st /\ ∃ l o,c=(none,l,o) /\ l < o /\ hint + l < n /\ B (hint + l)=true /\ (n - hint <= o \/ hint + o < n /\ B (hint + o)=false)) ?_ ?_ ⟨rfl,0,1,rfl,by omega,by omega,by omega,hb⟩) ?_)
  .rintro x c st' _ hx' ⟨rfl,l,o,rfl,a1,a2,a3,a4⟩;dsimp only;by_cases hge:o ≥ n - hint
   .rw [if_pos hge];exact Rs ⟨rfl,l,o,rfl,a1,a3,a4,.inl hge⟩
   .rw [if_neg hge];refine Rr (hf _ (by omega) _ ?_);dsimp only;cases hb':B (hint + o) with
    | true=>rw [if_neg (by decide)];exact Rs ⟨rfl,o,_,rfl,by omega,by omega,by omega,hb'⟩
    | false=>rw [if_pos (by decide)];exact Rs ⟨rfl,l,o,rfl,a1,a3,a4,.inr ⟨by omega,hb'⟩⟩
  .rintro c st' ⟨rfl,l,o,rfl,a1,a2,a3,a4⟩;exact⟨rfl,l,o,rfl,a1,a3,a4,.inl (by omega)⟩
  .rintro c st' ⟨rfl,l,o,rfl,a1,a3,a4,a5⟩;dsimp only;refine Z6o hf hm (by omega) (by omega) (.inr (by rw [show hint + l + 1 - 1=hint + l by omega];exact a4)) ?_ h;rcases a5 with a5 | ⟨a5,a6⟩
   .exact .inl (by omega)
   .rw [show hint + min o (n - hint)=hint + o by omega];exact .inr a6
 | false =>
  rw [if_neg (by decide)];refine Rr (Rv (Ru (I:=fun x c st'=>st'=st /\ ∃ l o,c=(none,l,o) /\ l < o /\ x + 1 <= o /\ l <= hint /\ B (hint - l)=false)
   (Q:=fun c st'=>st'=st /\ ∃ l o,c=(none,l,o) /\ l < o /\ l <= hint /\ B (hint - l)=false /\ (hint + 1 <= o \/ o <= hint /\ B (hint - o)=true)) ?_ ?_ ⟨rfl,0,1,rfl,by omega,by omega,by omega,hb⟩) ?_)
  .rintro x c st' _ hx' ⟨rfl,l,o,rfl,a1,a2,a3,a4⟩;dsimp only;by_cases hge:o ≥ hint + 1
   .rw [if_pos hge];exact Rs ⟨rfl,l,o,rfl,a1,a3,a4,.inl hge⟩
   .rw [if_neg hge];refine Rr (hf _ (by omega) _ ?_);dsimp only;cases hb':B (hint - o) with
    | true=>rw [if_pos rfl];exact Rs ⟨rfl,l,o,rfl,a1,a3,a4,.inr ⟨by omega,hb'⟩⟩
    | false=>rw [if_neg (by decide)];exact Rs ⟨rfl,o,_,rfl,by omega,by omega,by omega,hb'⟩
  .rintro c st' ⟨rfl,l,o,rfl,a1,a2,a3,a4⟩;exact⟨rfl,l,o,rfl,a1,a3,a4,.inl (by omega)⟩
  .rintro c st' ⟨rfl,l,o,rfl,a1,a3,a4,a5⟩;dsimp only;refine Z6o hf hm (by omega) (by omega) ?_ (.inr a4) h;rcases a5 with a5 | ⟨a5,a6⟩
   .exact .inl (by omega)
   .rw [show hint + 1 - min o (hint + 1) - 1=hint - o by omega];exact .inr a6
end
end TS
namespace TS
open PySem PyProof.Rows
abbrev kle (x y:Keyed):Prop:=ky x <= ky y
def MI (o L R T:Ab Keyed):Prop:=o.Pairwise kle /\ (∀ x ∈ o,∀ y ∈ L,kle x y) /\ (∀ x ∈ o,∀ y ∈ R,kle x y) /\ (o ++ L ++ R).Perm T
theorem MI.swap (h:MI o L R T):MI o R L T:=by
 obtain⟨a,b,c,d⟩:=h;refine⟨a,c,b,List.Perm.trans ?_ d⟩;rw [QaK,QaK];exact List.Perm.append_left o List.perm_append_comm
theorem MI.left (h:MI o (X ++ L) R T) (hs:(X ++ L).Pairwise kle) (hx:∀ x ∈ X,∀ y ∈ R,kle x y):MI (o ++ X) L R T:=by
 obtain⟨a,b,c,d⟩:=h;obtain⟨s1,s2,s3⟩:=QaN.mp hs;refine⟨QaN.mpr ⟨a,s1,fun x hx' y hy=>b x hx' y (Qar _ hy)⟩,fun x hx' y hy=>?_,fun x hx' y hy=>?_,?_⟩
 .rcases Qai.mp hx' with h1 | h1
  .exact b x h1 y (Qam _ hy)
  .exact s3 x h1 y hy
 .rcases Qai.mp hx' with h1 | h1
  .exact c x h1 y hy
  .exact hx x h1 y hy
 .rw [QaK o X L];exact d
theorem MI.right (h:MI o L (X ++ R) T) (hs:(X ++ R).Pairwise kle) (hx:∀ x ∈ X,∀ y ∈ L,kle x y):MI (o ++ X) L R T:=(h.swap.left hs hx).swap
theorem MI.fin (h:MI o L [] T) (hs:L.Pairwise kle):(o ++ L).Pairwise kle /\ (o ++ L).Perm T:=by
 obtain⟨a,b,c,d⟩:=h;rw [QaH] at d;exact⟨QaN.mpr ⟨a,hs,b⟩,d⟩
def MJ (o L R T:Ab Keyed):Prop:=o.Pairwise kle /\ (∀ x ∈ o,∀ y ∈ L,kle y x) /\ (∀ x ∈ o,∀ y ∈ R,kle y x) /\ (L ++ R ++ o).Perm T
theorem MJ.swap (h:MJ o L R T):MJ o R L T:=by
 obtain⟨a,b,c,d⟩:=h;exact⟨a,c,b,List.Perm.trans (List.Perm.append_right o List.perm_append_comm) d⟩
theorem MJ.right (h:MJ o L (R ++ X) T) (hs:(R ++ X).Pairwise kle) (hx:∀ x ∈ X,∀ y ∈ L,kle y x):MJ (X ++ o) L R T:=by
 obtain⟨a,b,c,d⟩:=h;obtain⟨s1,s2,s3⟩:=QaN.mp hs;refine⟨QaN.mpr ⟨s2,a,fun x hx' y hy=>c y hy x (Qam _ hx')⟩,fun x hx' y hy=>?_,fun x hx' y hy=>?_,?_⟩
 .rcases Qai.mp hx' with h1 | h1
  .exact hx x h1 y hy
  .exact b x h1 y hy
 .rcases Qai.mp hx' with h1 | h1
  .exact s3 y hy x h1
  .exact c x h1 y (Qar _ hy)
 .have e:L ++ R ++ (X ++ o)=L ++ (R ++ X) ++ o:=by simp only [QaK]
  rw [e];exact d
theorem MJ.left (h:MJ o (L ++ X) R T) (hs:(L ++ X).Pairwise kle) (hx:∀ x ∈ X,∀ y ∈ R,kle y x):MJ (X ++ o) L R T:=(h.swap.right hs hx).swap
theorem MJ.fin (h:MJ o [] R T) (hs:R.Pairwise kle):(R ++ o).Pairwise kle /\ (R ++ o).Perm T:=by
 obtain⟨a,b,c,d⟩:=h;exact⟨QaN.mpr ⟨hs,a,fun x hx y hy=>c y hy x hx⟩,d⟩
theorem P1 (a:Ae Keyed) (i j:Nat):(a.extract i j).toList=(a.toList.drop i).take (j - i):=by
 rw [Array.toList_extract]
theorem xB (a:Ae Keyed) (i k:Nat):a.toList.drop i=(a.extract i (i + k)).toList ++ a.toList.drop (i + k):=by
 rw [P1,show i + k - i=k by omega,<- List.drop_drop];exact (QbC k _).symm
theorem rF {a:Ae Keyed}(h:a[i]? = some x):a.toList.drop i=[x] ++ a.toList.drop (i + 1):=by
 rw [<- Qax] at h;obtain⟨hi,rfl⟩:=Qac.mp h;rw [List.drop_eq_getElem_cons hi];rfl
theorem oA (a:Ae Keyed) (i:Nat):(a.extract i a.size).toList=a.toList.drop i:=by
 rw [P1];exact Qbq (by rw [List.length_drop,Qak];exact Qag _)
theorem iZ (a:Ae Keyed) (n:Nat):(a.extract 0 n).toList=a.toList.take n:=by
 rw [P1];rfl
theorem vF (a:Ae Keyed) {i n:Nat}(h:i <= n):a.toList.take n=a.toList.take i ++ (a.extract i n).toList:=by
 rw [P1];have e:a.toList.take n=(a.toList.take i ++ a.toList.drop i).take n:=by rw [QbC]
 conv=>lhs;rw [show n=i + (n - i) by omega,List.take_add]
theorem pU {a:Ae Keyed}(h:a[i]? = some x):a.toList.take (i + 1)=a.toList.take i ++ [x]:=by
 rw [<- Qax] at h;obtain⟨hi,rfl⟩:=Qac.mp h;rw [List.take_succ_eq_append_getElem hi]
theorem jV {l:Ab Keyed}(h:l.Pairwise kle) (i:Nat):(l.drop i).Pairwise kle:=h.sublist (List.drop_sublist i l)
theorem jU {l:Ab Keyed}(h:l.Pairwise kle) (i:Nat):(l.take i).Pairwise kle:=h.sublist (List.take_sublist i l)
theorem bZ {a:Ae Keyed}(h:i < a.size):∃ x,a[i]? = some x /\ x ∈ a.toList:=⟨a[i],RE a i h,by simp⟩
theorem qQ {a:Ae Keyed}(hs:a.toList.Pairwise kle) {i:Nat}{x:Keyed}(h:a[i]? = some x):∀ y ∈ a.toList.drop i,kle x y:=by
 have e:=rF h;have p:=jV hs i;rw [e] at p ⊢;intro y hy;rcases Qai.mp hy with h1 | h1
 .rw [QaF.mp h1];exact Int.le_refl _
 .exact (QaN.mp p).2.2 x (by simp) y h1
theorem Z5D {a:Ae Keyed}(hs:a.toList.Pairwise kle) {i:Nat}{x:Keyed}(h:a[i]? = some x):∀ y ∈ a.toList.take (i + 1),kle y x:=by
 have e:=pU h;have p:=jU hs (i + 1);rw [e] at p ⊢;intro y hy;rcases Qai.mp hy with h1 | h1
 .exact (QaN.mp p).2.2 y h1 x (by simp)
 .rw [QaF.mp h1];exact Int.le_refl _
theorem L8 {a:Ae Keyed}(hs:a.toList.Pairwise kle) {i j:Nat}{x y:Keyed}(hij:i <= j) (hx:a[i]? = some x) (hy:a[j]? = some y):kle x y:=by
 refine qQ hs hx y ?_;rw [<- Qax] at hy;obtain⟨hj,rfl⟩:=Qac.mp hy;have e:(a.toList.drop i)[j - i]? = some a.toList[j]:=by rw [Qbl,show i + (j - i)=j by omega];exact Qad hj
 exact QaI e
theorem jW {a:Ae Keyed}(h:x ∈ (a.extract i j).toList):∃ k,i <= k /\ k < j /\ a[k]? = some x:=by
 rw [P1] at h;obtain⟨k,hk⟩:=Qbh.mp h;have hl:=(Qac.mp hk).1;rw [Qav,List.length_drop] at hl;rw [Qa1 (by omega),Qbl,Qax] at hk;exact⟨i + k,by omega,by omega,hk⟩
theorem qE {a:Ae Keyed}(h:x ∈ a.toList.drop i):∃ k,i <= k /\ a[k]? = some x:=by
 obtain⟨k,hk⟩:=Qbh.mp h;rw [Qbl,Qax] at hk;exact⟨i + k,by omega,hk⟩
theorem qD {a:Ae Keyed}(h:x ∈ a.toList.take n):∃ k,k < n /\ a[k]? = some x:=by
 obtain⟨k,hk⟩:=Qbh.mp h;have hl:=(Qac.mp hk).1;rw [Qav] at hl;rw [Qa1 (by omega),Qax] at hk;exact⟨k,by omega,hk⟩
structure SameS (st st':SortSt):Prop where
 kind:kindOf st'=kindOf st
 arr:arrOf st'=arrOf st
 pend:pendingOf st'=pendingOf st
 failed:failedOf st'=failedOf st
theorem SameS.rfl {st:SortSt}:SameS st st:=⟨Eq.refl _,Eq.refl _,Eq.refl _,Eq.refl _⟩
theorem sF {st:SortSt}(hk:kindOf st=oneType') (hy:IK key) (hh:hint < n) (hb:base + n <= xs.size) (hI:∀ x ∈ xs.toList,IK x)
  (hs:∀ i j x y,base <= i->i <= j->j < base + n->xs[i]? = some x->xs[j]? = some y->kle x y)
  (h:∀ k,k <= n->(∀ i x,base <= i->i < base + k->xs[i]? = some x->byd left key x=true)->(∀ i x,base + k <= i->i < base + n->xs[i]? = some x->byd left key x=false)->Q (some k) st) :
  wpS (model prog w) A E s (E6 left key xs base n hint) Q st:=by
 refine Z87 (B:=fun i=>match xs[base + i]? with | some x=>byd left key x | none=>false) hk hy hh (fun i hi=>?_) (fun i j hij hj hb'=>?_) fun k hk' h1 h2=>h k hk' (fun i x a1 a2 a3=>?_) fun i x a1 a2 a3=>?_
 .obtain⟨x,e1,e2⟩:=bZ (a:=xs) (i:=base + i) (by omega);exact⟨x,e1,hI x e2,by rw [e1]⟩
 .obtain⟨x,e1,_⟩:=bZ (a:=xs) (i:=base + i) (by omega);obtain⟨y,e2,_⟩:=bZ (a:=xs) (i:=base + j) (by omega);have q:ky x <= ky y:=hs _ _ x y (by omega) (by omega) (by omega) e1 e2;simp only [e2] at hb';simp only [e1];unfold byd at hb' ⊢;cases left with
  | true=>rw [if_pos rfl] at hb' ⊢;rw [RA] at hb' ⊢;omega
  | false =>
   rw [if_neg (by decide)] at hb' ⊢;rw [Bool.not_eq_true',decide_eq_false_iff_not] at hb' ⊢;omega
 .have:=h1 (i - base) (by omega);rw [show base + (i - base)=i by omega] at this;simpa only [a3] using this
 .have:=h2 (i - base) (by omega) (by omega);rw [show base + (i - base)=i by omega] at this;simpa only [a3] using this
theorem Z04 (h:byd true key x=true):ky x < ky key:=by simpa [byd] using h
theorem Z05 (h:byd true key x=false):ky key <= ky x:=by simpa [byd] using h
theorem Z06 (h:byd false key x=true):ky x <= ky key:=by simpa [byd] using h
theorem Z07 (h:byd false key x=false):ky key < ky x:=by simpa [byd] using h
end TS
namespace TS
open PySem PyProof.Rows
def Z6K:Nat->StateT SortSt Sem Unit:=sortPriv% PySem.Builtin.setMinGallop
def mLo:Ae Keyed->Ae Keyed->StateT SortSt Sem (Ae Keyed):=sortPriv% PySem.Builtin.mergeLo
abbrev LoS:=Aa (Ae Keyed) × Ae Keyed × Nat × Nat × Nat × Nat × Nat
def loC (a b o:Ae Keyed) (i j g c k:Nat):StateT SortSt Sem (ForInStep LoS):=do
 let x <- elem' a i
 if (i + 1 + 1 == a.size)=true then pure (.done (some (o.push x ++ b.extract j b.size ++ a.extract (i + 1) a.size),o.push x,i + 1,j,g,c,k))
 else if (decide (c < 7) && decide (k < 7))=true then pure (.done (none,o.push x,i + 1,j,g,c,k)) else pure (.yield (none,o.push x,i + 1,j,g,c,k))
def loB (a b o:Ae Keyed) (i j g k d:Nat):StateT SortSt Sem (ForInStep LoS):=do
 let x <- elem' b j
 if (j + 1 == b.size)=true then pure (.done (some (o.push x ++ a.extract i a.size ++ b.extract (j + 1) b.size),o.push x,i,j + 1,g,k,d))
 else do
  let y <- elem' a i
  let z <- E6 true y b (j + 1) (b.size - (j + 1)) 0
  match z with
  | some q =>
   if q > 0 then
    if (j + 1 + q == b.size)=true then pure (.done (some (o.push x ++ b.extract (j + 1) (j + 1 + q) ++ a.extract i a.size ++ b.extract (j + 1 + q) b.size),o.push x ++ b.extract (j + 1) (j + 1 + q),i,j + 1 + q,g,k,q))
    else loC a b (o.push x ++ b.extract (j + 1) (j + 1 + q)) i (j + 1 + q) g k q
   else loC a b (o.push x) i (j + 1) g k q
  | _=>pure (.done (some (o.push x ++ a.extract i a.size ++ b.extract (j + 1) b.size),o.push x,i,j + 1,g,k,d))
def loA (a b o:Ae Keyed) (i j g c d:Nat):StateT SortSt Sem (ForInStep LoS):=do
 Z6K g
 let x <- elem' b j
 let z <- E6 false x a i (a.size - i) 0
 match z with
 | some k =>
  if k > 0 then
   if (i + k + 1 == a.size)=true then pure (.done (some (o ++ a.extract i (i + k) ++ b.extract j b.size ++ a.extract (i + k) a.size),o ++ a.extract i (i + k),i + k,j,g,k,d))
   else if (i + k == a.size)=true then pure (.done (some (o ++ a.extract i (i + k) ++ a.extract (i + k) a.size ++ b.extract j b.size),o ++ a.extract i (i + k),i + k,j,g,k,d))
   else loB a b (o ++ a.extract i (i + k)) (i + k) j g k d
  else loB a b o i j g k d
 | _=>pure (.done (some (o ++ a.extract i a.size ++ b.extract j b.size),o,i,j,g,c,d))
section
variable {prog:Aj}{w:Ak}{A:Ai}{E:Ad->Ac->Prop}{s:Ac}{st0 st:SortSt}{a b:Ae Keyed}{T:Ab Keyed}
theorem B1 (hS:SameS st0 st) (h:∀ st',SameS st0 st'->Q () st'):wpS (model prog w) A E s (Z6K g) Q st:=by
 show wpS _ _ _ _ (modify fun t=>SortSt.mk' (kindOf t) (arrOf t) (pendingOf t) g (failedOf t)) Q st;exact Rw (h _ ⟨hS.kind,hS.arr,hS.pend,hS.failed⟩)
structure LoP (a b:Array Keyed):Prop where
 ia:∀ x ∈ a.toList,IK x
 ib:∀ x ∈ b.toList,IK x
 sa:a.toList.Pairwise kle
 sb:b.toList.Pairwise kle
 last:∀ z,a[a.size - 1]? = some z->∀ y ∈ b.toList,kle y z
def kF (T:Ab Keyed) (r:Ae Keyed):Prop:=r.toList.Pairwise kle /\ r.toList.Perm T
def LoJ (a b:Ae Keyed) (T:Ab Keyed) (o:Ae Keyed) (i j:Nat):Prop:=i + 1 < a.size /\ j < b.size /\ MI o.toList (a.toList.drop i) (b.toList.drop j) T
theorem qN (P:LoP a b) (h:MI o.toList (a.toList.drop i) (b.toList.drop j) T) (hj:j=b.size):kF T (o ++ a.extract i a.size ++ b.extract j b.size):=by
 have e:b.toList.drop j=[]:=List.drop_eq_nil_of_le (by rw [Qak,hj];exact Qag _);unfold kF;rw [QaD,QaD,oA,oA,e,QaH];rw [e] at h;exact h.fin (jV P.sa i)
theorem qM (P:LoP a b) (h:MI o.toList (a.toList.drop i) (b.toList.drop j) T) (hi:i + 1=a.size):kF T (o ++ b.extract j b.size ++ a.extract i a.size):=by
 obtain⟨z,hz,_⟩:=bZ (a:=a) (i:=i) (by omega);have e:a.toList.drop i=[z]:=by
  rw [rF hz,List.drop_eq_nil_of_le (by rw [Qak];omega)];rfl
 unfold kF;rw [QaD,QaD,oA,oA,e];rw [e] at h;have h2:MI (o.toList ++ b.toList.drop j) [z] [] T:=by
  refine MI.right (X:=b.toList.drop j) (R:=[]) (by rw [QaH];exact h) (by rw [QaH];exact jV P.sb j) fun x hx y hy=>?_;rw [QaF.mp hy];exact P.last z (by rw [show a.size - 1=i by omega];exact hz) x (List.mem_of_mem_drop hx)
 exact h2.fin (QbK _ _)
theorem Z3K (P:LoP a b) (h:MI o.toList (a.toList.drop i) (b.toList.drop j) T) (hi:i=a.size):kF T (o ++ a.extract i a.size ++ b.extract j b.size):=by
 have e:a.toList.drop i=[]:=List.drop_eq_nil_of_le (by rw [Qak,hi];exact Qag _);unfold kF;rw [QaD,QaD,oA,oA,e,QaH];rw [e] at h;exact h.swap.fin (jV P.sb j)
theorem wM {o:Ae Keyed}{i j:Nat}{x:Keyed}(P:LoP a b) (h:MI o.toList (a.toList.drop i) (b.toList.drop j) T) (hx:b[j]? = some x) (hl:∀ y ∈ a.toList.drop i,kle x y):MI (o.push x).toList (a.toList.drop i) (b.toList.drop (j + 1)) T:=by
 rw [QbE];have p:=jV P.sb j;rw [rF hx] at h p;exact h.right p fun z hz y hy=>by rw [QaF.mp hz];exact hl y hy
theorem N4 {o:Ae Keyed}{i j:Nat}{x:Keyed}(P:LoP a b) (h:MI o.toList (a.toList.drop i) (b.toList.drop j) T) (hx:a[i]? = some x) (hl:∀ y ∈ b.toList.drop j,kle x y):MI (o.push x).toList (a.toList.drop (i + 1)) (b.toList.drop j) T:=by
 rw [QbE];have p:=jV P.sa i;rw [rF hx] at h p;exact h.left p fun z hz y hy=>by rw [QaF.mp hz];exact hl y hy
theorem Z5C (P:LoP a b) (h:MI o.toList (a.toList.drop i) (b.toList.drop j) T) (hl:∀ q x,i <= q->q < i + k->a[q]? = some x->∀ y ∈ b.toList.drop j,kle x y):MI (o ++ a.extract i (i + k)).toList (a.toList.drop (i + k)) (b.toList.drop j) T:=by
 rw [QaD];have p:=jV P.sa i;rw [xB a i k] at h p;exact h.left p fun z hz y hy=>by
  obtain⟨q,q1,q2,q3⟩:=jW hz;exact hl q z q1 q2 q3 y hy
theorem Z5B (P:LoP a b) (h:MI o.toList (a.toList.drop i) (b.toList.drop j) T) (hl:∀ q x,j <= q->q < j + k->b[q]? = some x->∀ y ∈ a.toList.drop i,kle x y):MI (o ++ b.extract j (j + k)).toList (a.toList.drop i) (b.toList.drop (j + k)) T:=by
 rw [QaD];have p:=jV P.sb j;rw [xB b j k] at h p;exact h.right p fun z hz y hy=>by
  obtain⟨q,q1,q2,q3⟩:=jW hz;exact hl q z q1 q2 q3 y hy
def LoR (a b:Ae Keyed) (T:Ab Keyed) (st0:SortSt) (n:Nat) (c:LoS) (st:SortSt):Prop :=
 SameS st0 st /\ ((∃ r,c.1=some r /\ kF T r) \/ (c.1=none /\ LoJ a b T c.2.1 c.2.2.1 c.2.2.2.1 /\ n <= c.2.2.1 + c.2.2.2.1))
def LoQ (a b:Ae Keyed) (T:Ab Keyed) (st0:SortSt) (n:Nat) (r:ForInStep LoS) (st:SortSt):Prop:=match r with
 | .done c=>LoR a b T st0 n c st
 | .yield c=>c.1=none /\ LoR a b T st0 n c st
theorem Z6f {o:Ae Keyed}{i j g c k n:Nat}(P:LoP a b) (hS:SameS st0 st) (hj:j < b.size) (hi:i + 1 < a.size) (h:MI o.toList (a.toList.drop i) (b.toList.drop j) T)
  (hl:∀ x,a[i]? = some x->∀ y ∈ b.toList.drop j,kle x y) (hn:n <= i + j):wpS (model prog w) A E s (loC a b o i j g c k) (LoQ a b T st0 n) st:=by
 unfold loC;obtain⟨x,hx,_⟩:=bZ (a:=a) (i:=i) (by omega);refine Rr (dP hx ?_);have h2:=N4 P h hx (hl x hx);by_cases e:i + 1 + 1=a.size
 .rw [if_pos (by simpa using e)];exact Rs ⟨hS,.inl ⟨_,rfl,qM P h2 e⟩⟩
 .rw [if_neg (by simpa using e)];split
  .exact Rs ⟨hS,.inr ⟨rfl,⟨by show i + 1 + 1 < _;omega,hj,h2⟩,by show n <= i + 1 + j;omega⟩⟩
  .exact Rs ⟨rfl,hS,.inr ⟨rfl,⟨by show i + 1 + 1 < _;omega,hj,h2⟩,by show n <= i + 1 + j;omega⟩⟩
theorem Z6g {o:Ae Keyed}{i j g k d n:Nat}(P:LoP a b) (hk:kindOf st0=oneType') (hS:SameS st0 st) (hj:j < b.size) (hi:i + 1 < a.size) (h:MI o.toList (a.toList.drop i) (b.toList.drop j) T)
  (hl:∀ x,b[j]? = some x->∀ y ∈ a.toList.drop i,kle x y) (hn:n <= i + j):wpS (model prog w) A E s (loB a b o i j g k d) (LoQ a b T st0 n) st:=by
 unfold loB;obtain⟨x,hx,_⟩:=bZ (a:=b) (i:=j) hj;refine Rr (dP hx ?_);have h2:=wM P h hx (hl x hx);by_cases e:j + 1=b.size
 .rw [if_pos (by simpa using e)];exact Rs ⟨hS,.inl ⟨_,rfl,qN P h2 e⟩⟩
 .rw [if_neg (by simpa using e)];obtain⟨y,hy,my⟩:=bZ (a:=a) (i:=i) (by omega);refine Rr (dP hy ?_);refine Rr (sF (hS.kind.trans hk) (P.ia y my) (by omega) (by omega) P.ib (fun p q u v _ b1 _ b2 b3=>L8 P.sb b1 b2 b3) fun q q1 q2 q3=>?_);dsimp only;have h3:∀ p u,j + 1 <= p->p < j + 1 + q->b[p]? = some u->∀ v ∈ a.toList.drop i,kle u v:=fun p u p1 p2 p3 v hv=>by
   have c1:=Z04 (q2 p u p1 p2 p3);have c2:ky y <= ky v:=qQ P.sa hy v hv;show ky u <= ky v;omega
  have h4:∀ m,m=j + 1 + q->∀ u,a[i]? = some u->∀ v ∈ b.toList.drop m,kle u v:=fun m hm u hu v hv=>by
   rw [hy] at hu;cases hu;obtain⟨p,p1,p2⟩:=qE hv;have p3:=(Qa5.mp p2).1;exact Z05 (q3 p v (by omega) (by omega) p2)
  by_cases hq:q > 0
  .rw [if_pos hq];have h5:=Z5B P h2 h3;by_cases e2:j + 1 + q=b.size
   .rw [if_pos (by simpa using e2)];exact Rs ⟨hS,.inl ⟨_,rfl,qN P h5 e2⟩⟩
   .rw [if_neg (by simpa using e2)];exact Z6f P hS (by omega) hi h5 (h4 _ rfl) (by omega)
  .rw [if_neg hq];exact Z6f P hS (by omega) hi h2 (h4 _ (by omega)) (by omega)
theorem Z6h (P:LoP a b) (hk:kindOf st0=oneType') (hS:SameS st0 st) (h:LoJ a b T o i j) (hn:n <= i + j):wpS (model prog w) A E s (loA a b o i j g c d) (LoQ a b T st0 n) st:=by
 obtain⟨hi,hj,h⟩:=h;unfold loA;refine Rr (B1 hS fun st' hS'=>?_);obtain⟨x,hx,mx⟩:=bZ (a:=b) (i:=j) hj;refine Rr (dP hx ?_);refine Rr (sF (hS'.kind.trans hk) (P.ib x mx) (by omega) (by omega) P.ia (fun p q u v _ b1 _ b2 b3=>L8 P.sa b1 b2 b3) fun q q1 q2 q3=>?_);dsimp only;have h3:∀ p u,i <= p->p < i + q->a[p]? = some u->∀ v ∈ b.toList.drop j,kle u v:=fun p u p1 p2 p3 v hv=>by
  have c1:=Z06 (q2 p u p1 p2 p3);have c2:ky x <= ky v:=qQ P.sb hx v hv;show ky u <= ky v;omega
 have h4:∀ m,m=i + q->∀ u,b[j]? = some u->∀ v ∈ a.toList.drop m,kle u v:=fun m hm u hu v hv=>by
  rw [hx] at hu;cases hu;obtain⟨p,p1,p2⟩:=qE hv;have p3:=(Qa5.mp p2).1;exact Qbs (Z07 (q3 p v (by omega) (by omega) p2))
 by_cases hq:q > 0
 .rw [if_pos hq];have h5:=Z5C P h h3;by_cases e1:i + q + 1=a.size
  .rw [if_pos (by simpa using e1)];exact Rs ⟨hS',.inl ⟨_,rfl,qM P h5 e1⟩⟩
  .rw [if_neg (by simpa using e1)];by_cases e2:i + q=a.size
   .rw [if_pos (by simpa using e2)];exact Rs ⟨hS',.inl ⟨_,rfl,Z3K P h5 e2⟩⟩
   .rw [if_neg (by simpa using e2)];exact Z6g P hk hS' hj (by omega) h5 (h4 _ rfl) (by omega)
 .rw [if_neg hq];exact Z6g P hk hS' hj hi h (h4 _ (by omega)) (by omega)
end
end TS
namespace TS
open PySem PyProof.Rows
section
variable {prog:Aj}{w:Ak}{A:Ai}{E:Ad->Ac->Prop}{s:Ac}{st:SortSt}{a b:Ae Keyed}{T:Ab Keyed}
theorem Z80 (P:LoP a b) (hk:kindOf st=oneType') (ha:0 < a.size) (hb:0 < b.size) (h0:∀ x,b[0]? = some x->∀ y ∈ a.toList,kle x y) (hT:(a.toList ++ b.toList).Perm T)
  (h:∀ r st',SameS st st'->kF T r->Q r st'):wpS (model prog w) A E s (mLo a b) Q st:=by
 refine Rr (wpS_lift (Rk ⟨rfl,?_⟩));obtain⟨x0,hx0,mx0⟩:=bZ (a:=b) (i:=0) hb;refine Rr (dP hx0 ?_);have hM:MI (#[x0]:Ae Keyed).toList (a.toList.drop 0) (b.toList.drop 1) T:=by
  have h1:MI (#[]:Ae Keyed).toList (a.toList.drop 0) (b.toList.drop 0) T:=⟨List.Pairwise.nil,(fun x hx=>by cases hx),(fun x hx=>by cases hx),hT⟩;exact wM P h1 hx0 (h0 x0 hx0)
 by_cases e1:1=b.size
 .refine Rv (Q:=fun r st'=>r=(#[x0] ++ a.extract 0 a.size ++ b.extract 1 b.size) /\ st'=st) ?_ (fun r st' hr=>by obtain⟨rfl,rfl⟩:=hr;exact h _ _ SameS.rfl (qN P hM e1));dsimp only;rw [if_pos (by simpa using e1)];exact Rs ⟨rfl,rfl⟩
 .dsimp only;rw [if_neg (by simpa using e1)];by_cases e2:0 + 1=a.size
  .rw [if_pos (by simpa using e2)];exact Rs (h _ _ SameS.rfl (qM P hM e2))
  .rw [if_neg (by simpa using e2)];refine Rr (Rx ?_);refine Rr (Rv (Ru (I:=fun x c st'=>c.1=none /\ SameS st st' /\ LoJ a b T c.2.1 c.2.2.1 c.2.2.2.1 /\ x + 1 <= c.2.2.1 + c.2.2.2.1)
    (Q:=fun c st'=>SameS st st' /\ ∃ r,c.1=some r /\ kF T r) ?step ?fin ⟨rfl,SameS.rfl,⟨by show 0 + 1 < _;omega,by show 1 < _;omega,hM⟩,by show 0 + 1 <= 0 + 1;omega⟩) ?post)
   case fin =>
    rintro⟨r,o,i,j,g⟩ st' ⟨_,_,⟨j1,j2,_⟩,j3⟩;dsimp only at j1 j2 j3;omega
   case post =>
    rintro⟨r,o,i,j,g⟩ st' ⟨hS,r',e,hr⟩;cases (show r=some r' from e)
    exact Rs (h _ _ hS hr)
   case step =>
    rintro x ⟨r,o,i,j,g⟩ st' _ hx ⟨er,hS,hJ,hn⟩;cases (show r=none from er)
    dsimp only at hJ hn;refine Rr (Rv (Ru (I:=fun x c st'=>c.1=none /\ SameS st st' /\ LoJ a b T c.2.1 c.2.2.1 c.2.2.2.1 /\ i + j + x <= c.2.2.1 + c.2.2.2.1)
     (Q:=fun c st'=>SameS st st' /\ ((∃ r,c.1=some r /\ kF T r) \/ (c.1=none /\ LoJ a b T c.2.1 c.2.2.1 c.2.2.2.1 /\ i + j + 1 <= c.2.2.1 + c.2.2.2.1))) ?istep ?ifin ⟨rfl,hS,hJ,by show i + j + 0 <= i + j;omega⟩) ?ipost)
    case ifin =>
     rintro⟨r,o,i',j',g,d⟩ st' ⟨e,hS,hJ,hn'⟩;dsimp only at hJ hn' e ⊢;exact⟨hS,.inr ⟨e,hJ,by omega⟩⟩
    case istep =>
     rintro x' ⟨r,o,i',j',c,d⟩ st' _ hx' ⟨er,hS,⟨j1,j2,j3⟩,hn'⟩;cases (show r=none from er)
     dsimp only at j1 j2 j3 hn';obtain⟨y,hy,my⟩:=bZ (a:=b) (i:=j') j2;obtain⟨z,hz,mz⟩:=bZ (a:=a) (i:=i') (by omega);refine Rr (dP hy ?_);refine Rr (dP hz ?_);refine Rr (Z2P (hS.kind.trans hk) (P.ib y my) (P.ia z mz) ?_);dsimp only;by_cases hlt:ky y < ky z
     .rw [if_pos (by simpa using hlt)];refine Rr (dP hy ?_);have h2:=wM P j3 hy fun v hv=>Qbp (Qbs hlt) (qQ P.sa hz v hv);by_cases e3:j' + 1=b.size
      .rw [if_pos (by simpa using e3)];exact Rs ⟨hS,.inl ⟨_,rfl,qN P h2 e3⟩⟩
      .rw [if_neg (by simpa using e3)];split
       .exact Rs ⟨hS,.inr ⟨rfl,⟨j1,by show j' + 1 < _;omega,h2⟩,by show _ <= i' + (j' + 1);omega⟩⟩
       .exact Rs ⟨rfl,hS,⟨j1,by show j' + 1 < _;omega,h2⟩,by show _ <= i' + (j' + 1);omega⟩
     .rw [if_neg (by simpa using hlt)];refine Rr (dP hz ?_);have h2:=N4 P j3 hz fun v hv=>Qbp (Int.not_lt.mp hlt) (qQ P.sb hy v hv);by_cases e3:i' + 1 + 1=a.size
      .rw [if_pos (by simpa using e3)];exact Rs ⟨hS,.inl ⟨_,rfl,qM P h2 e3⟩⟩
      .rw [if_neg (by simpa using e3)];split
       .exact Rs ⟨hS,.inr ⟨rfl,⟨by show i' + 1 + 1 < _;omega,j2,h2⟩,by show _ <= i' + 1 + j';omega⟩⟩
       .exact Rs ⟨rfl,hS,⟨by show i' + 1 + 1 < _;omega,j2,h2⟩,by show _ <= i' + 1 + j';omega⟩
    case ipost =>
     rintro⟨r,o,i',j',c,d⟩ st' ⟨hS,hR⟩;rcases hR with ⟨r',e,hr⟩ | ⟨e,hJ,hn'⟩
     .cases (show r=some r' from e)
      exact Rs ⟨hS,r',rfl,hr⟩
     .cases (show r=none from e)
      dsimp only at hJ hn';refine Rr (wpS_lift (Rk ⟨rfl,?_⟩));refine Rr (Rv (Ru (I:=fun x c st'=>c.1=none /\ LoR a b T st (i + j + 1) c st') (Q:=LoR a b T st (i + j + 1)) ?gstep (fun c st' hh=>hh.2) ⟨rfl,hS,.inr ⟨rfl,hJ,hn'⟩⟩) ?gpost)
      case gstep =>
       rintro y ⟨r,o,i',j',g,c,d⟩ st' _ hy ⟨er,hS,hR⟩;cases (show r=none from er)
       rcases hR with ⟨r',e,_⟩ | ⟨_,hJ,hn'⟩
       .cases e
       .refine (show wpS (model prog w) A E s (if g > 1 then loA a b o i' j' (g - 1) c d else loA a b o i' j' g c d) _ st' from ?_)
        split
        .refine Rv (Z6h P hk hS hJ hn') fun r st'' hr=>?_;cases r with
         | done c=>exact hr
         | yield c=>exact hr
        .refine Rv (Z6h P hk hS hJ hn') fun r st'' hr=>?_;cases r with
         | done c=>exact hr
         | yield c=>exact hr
      case gpost =>
       rintro⟨r,o,i',j',g,c,d⟩ st' ⟨hS,hR⟩;rcases hR with ⟨r',e,hr⟩ | ⟨e,hJ,hn'⟩
       .cases (show r=some r' from e)
        exact Rs ⟨hS,r',rfl,hr⟩
       .cases (show r=none from e)
        refine Rr (B1 hS fun st'' hS'=>?_);exact Rs ⟨rfl,hS',hJ,by dsimp only at hn' ⊢;omega⟩
end
end TS
namespace TS
open PySem PyProof.Rows
def mHi:Ae Keyed->Ae Keyed->StateT SortSt Sem (Ae Keyed):=sortPriv% PySem.Builtin.mergeHi
abbrev HiS:=Aa (Ae Keyed) × Nat × Nat × Ae Keyed × Nat × Nat × Nat
def hiC (a b o:Ae Keyed) (i j g c k:Nat):StateT SortSt Sem (ForInStep HiS):=do
 let x <- elem' a (i - 1)
 if (i - 1 == 0)=true then pure (.done (some (a.extract 0 (i - 1) ++ b.extract 0 j ++ (o.push x).reverse),i - 1,j,o.push x,g,c,k))
 else if (decide (c < 7) && decide (k < 7))=true then pure (.done (none,i - 1,j,o.push x,g,c,k)) else pure (.yield (none,i - 1,j,o.push x,g,c,k))
def hiB (a b o:Ae Keyed) (i j g k d:Nat):StateT SortSt Sem (ForInStep HiS):=do
 let x <- elem' b (j - 1)
 if (j - 1 == 1)=true then pure (.done (some (b.extract 0 (j - 1) ++ a.extract 0 i ++ (o.push x).reverse),i,j - 1,o.push x,g,k,d))
 else do
  let y <- elem' a (i - 1)
  let z <- E6 true y b 0 (j - 1) (j - 1 - 1)
  match z with
  | some q =>
   if j - 1 - q > 0 then
    if (q == 1)=true then pure (.done (some (b.extract 0 q ++ a.extract 0 i ++ (o.push x ++ (b.extract q (j - 1)).reverse).reverse),i,q,o.push x ++ (b.extract q (j - 1)).reverse,g,k,j - 1 - q))
    else if (q == 0)=true then pure (.done (some (a.extract 0 i ++ b.extract 0 q ++ (o.push x ++ (b.extract q (j - 1)).reverse).reverse),i,q,o.push x ++ (b.extract q (j - 1)).reverse,g,k,j - 1 - q))
    else hiC a b (o.push x ++ (b.extract q (j - 1)).reverse) i q g k (j - 1 - q)
   else hiC a b (o.push x) i (j - 1) g k (j - 1 - q)
  | _=>pure (.done (some (a.extract 0 i ++ b.extract 0 (j - 1) ++ (o.push x).reverse),i,j - 1,o.push x,g,k,d))
def hiA (a b o:Ae Keyed) (i j g c d:Nat):StateT SortSt Sem (ForInStep HiS):=do
 Z6K g
 let x <- elem' b (j - 1)
 let z <- E6 false x a 0 i (i - 1)
 match z with
 | some q =>
  if i - q > 0 then
   if (q == 0)=true then pure (.done (some (a.extract 0 q ++ b.extract 0 j ++ (o ++ (a.extract q i).reverse).reverse),q,j,o ++ (a.extract q i).reverse,g,i - q,d))
   else hiB a b (o ++ (a.extract q i).reverse) q j g (i - q) d
  else hiB a b o i j g (i - q) d
 | _=>pure (.done (some (a.extract 0 i ++ b.extract 0 j ++ o.reverse),i,j,o,g,c,d))
section
variable {prog:Aj}{w:Ak}{A:Ai}{E:Ad->Ac->Prop}{s:Ac}{st0 st:SortSt}{a b:Ae Keyed}{T:Ab Keyed}
structure HiP (a b:Array Keyed):Prop where
 ia:∀ x ∈ a.toList,IK x
 ib:∀ x ∈ b.toList,IK x
 sa:a.toList.Pairwise kle
 sb:b.toList.Pairwise kle
 first:∀ z,b[0]? = some z->∀ y ∈ a.toList,kle z y
abbrev HiM (a b:Ae Keyed) (T:Ab Keyed) (o:Ae Keyed) (i j:Nat):Prop:=MJ o.toList.reverse (a.toList.take i) (b.toList.take j) T
def HiJ (a b:Ae Keyed) (T:Ab Keyed) (o:Ae Keyed) (i j:Nat):Prop:=0 < i /\ 1 < j /\ i <= a.size /\ j <= b.size /\ HiM a b T o i j
theorem qW (P:HiP a b) (h:HiM a b T o i j) (hi:i=0):kF T (a.extract 0 i ++ b.extract 0 j ++ o.reverse):=by
 subst hi;unfold kF;rw [QaD,QaD,iZ,iZ,QbF,Qbt,QbL];unfold HiM at h;rw [Qbt] at h;exact h.fin (jU P.sb j)
theorem Z42 (P:HiP a b) (h:HiM a b T o i j) (hj:j=0):kF T (a.extract 0 i ++ b.extract 0 j ++ o.reverse):=by
 subst hj;unfold kF;rw [QaD,QaD,iZ,iZ,QbF,Qbt,QaH];unfold HiM at h;rw [Qbt] at h;exact h.swap.fin (jU P.sa i)
theorem qV (P:HiP a b) (h:HiM a b T o i j) (hj:j=1) (hb:0 < b.size):kF T (b.extract 0 j ++ a.extract 0 i ++ o.reverse):=by
 subst hj;obtain⟨z,hz,_⟩:=bZ (a:=b) (i:=0) hb;have e:b.toList.take 1=[z]:=by rw [pU hz];rfl
 unfold kF;rw [QaD,QaD,iZ,iZ,QbF,e,QaK];unfold HiM at h;rw [e] at h;have h2:MJ (a.toList.take i ++ o.toList.reverse) [] [z] T:=by
  refine MJ.left (L:=[]) (X:=a.toList.take i) h (jU P.sa i) fun x hx y hy=>?_;rw [QaF.mp hy];exact P.first z hz x (List.mem_of_mem_take hx)
 exact h2.fin (QbK _ _)
theorem N7 (P:HiP a b) (h:HiM a b T o i j) (h1:0 < j) (hx:b[j - 1]? = some x) (hl:∀ y ∈ a.toList.take i,kle y x):HiM a b T (o.push x) i (j - 1):=by
 unfold HiM at h ⊢;rw [QbE,List.reverse_append];have p:=jU P.sb j;have e:=pU hx;rw [show j - 1 + 1=j by omega] at e;rw [e] at h p;exact h.right p fun z hz y hy=>by rw [QaF.mp hz];exact hl y hy
theorem wT (P:HiP a b) (h:HiM a b T o i j) (h1:0 < i) (hx:a[i - 1]? = some x) (hl:∀ y ∈ b.toList.take j,kle y x):HiM a b T (o.push x) (i - 1) j:=by
 unfold HiM at h ⊢;rw [QbE,List.reverse_append];have p:=jU P.sa i;have e:=pU hx;rw [show i - 1 + 1=i by omega] at e;rw [e] at h p;exact h.left p fun z hz y hy=>by rw [QaF.mp hz];exact hl y hy
theorem Z5S (P:HiP a b) (h:HiM a b T o i j) (hq:q <= i) (hl:∀ p x,q <= p->p < i->a[p]? = some x->∀ y ∈ b.toList.take j,kle y x):HiM a b T (o ++ (a.extract q i).reverse) q j:=by
 unfold HiM at h ⊢;rw [QaD,List.reverse_append,QbF,List.reverse_reverse];have p:=jU P.sa i;rw [vF a hq] at h p;exact h.left p fun z hz y hy=>by
  obtain⟨q,q1,q2,q3⟩:=jW hz;exact hl q z q1 q2 q3 y hy
theorem Z5R (P:HiP a b) (h:HiM a b T o i j) (hq:q <= j) (hl:∀ p x,q <= p->p < j->b[p]? = some x->∀ y ∈ a.toList.take i,kle y x):HiM a b T (o ++ (b.extract q j).reverse) i q:=by
 unfold HiM at h ⊢;rw [QaD,List.reverse_append,QbF,List.reverse_reverse];have p:=jU P.sb j;rw [vF b hq] at h p;exact h.right p fun z hz y hy=>by
  obtain⟨q,q1,q2,q3⟩:=jW hz;exact hl q z q1 q2 q3 y hy
theorem qP (hs:a.toList.Pairwise kle) {i:Nat}{x:Keyed}(h0:0 < i) (h:a[i - 1]? = some x):∀ y ∈ a.toList.take i,kle y x:=by
 have:=Z5D hs h
 rwa [show i - 1 + 1=i by omega] at this
def HiR (a b:Ae Keyed) (T:Ab Keyed) (st0:SortSt) (n:Nat) (c:HiS) (st:SortSt):Prop :=
 SameS st0 st /\ ((∃ r,c.1=some r /\ kF T r) \/ (c.1=none /\ HiJ a b T c.2.2.2.1 c.2.1 c.2.2.1 /\ c.2.1 + c.2.2.1 <= n))
def HiQ (a b:Ae Keyed) (T:Ab Keyed) (st0:SortSt) (n:Nat) (r:ForInStep HiS) (st:SortSt):Prop:=match r with
 | .done c=>HiR a b T st0 n c st
 | .yield c=>c.1=none /\ HiR a b T st0 n c st
theorem Z6j (P:HiP a b) (hS:SameS st0 st) (hi:0 < i) (hj:1 < j) (hi2:i <= a.size) (hj2:j <= b.size) (h:HiM a b T o i j)
  (hl:∀ x,a[i - 1]? = some x->∀ y ∈ b.toList.take j,kle y x) (hn:i + j <= n):wpS (model prog w) A E s (hiC a b o i j g c k) (HiQ a b T st0 n) st:=by
 unfold hiC;obtain⟨x,hx,_⟩:=bZ (a:=a) (i:=i - 1) (by omega);refine Rr (dP hx ?_);have h2:=wT P h hi hx (hl x hx);by_cases e:i - 1=0
 .rw [if_pos (by simpa using e)];exact Rs ⟨hS,.inl ⟨_,rfl,qW P h2 e⟩⟩
 .rw [if_neg (by simpa using e)];split
  .exact Rs ⟨hS,.inr ⟨rfl,⟨by show 0 < i - 1;omega,hj,by show i - 1 <= _;omega,hj2,h2⟩,by show i - 1 + j <= n;omega⟩⟩
  .exact Rs ⟨rfl,hS,.inr ⟨rfl,⟨by show 0 < i - 1;omega,hj,by show i - 1 <= _;omega,hj2,h2⟩,by show i - 1 + j <= n;omega⟩⟩
theorem Z6k (P:HiP a b) (hk:kindOf st0=oneType') (hS:SameS st0 st) (hi:0 < i) (hj:1 < j) (hi2:i <= a.size) (hj2:j <= b.size) (h:HiM a b T o i j)
  (hl:∀ x,b[j - 1]? = some x->∀ y ∈ a.toList.take i,kle y x) (hn:i + j <= n):wpS (model prog w) A E s (hiB a b o i j g k d) (HiQ a b T st0 n) st:=by
 unfold hiB;obtain⟨x,hx,_⟩:=bZ (a:=b) (i:=j - 1) (by omega);refine Rr (dP hx ?_);have h2:=N7 P h (by omega) hx (hl x hx);by_cases e:j - 1=1
 .rw [if_pos (by simpa using e)];exact Rs ⟨hS,.inl ⟨_,rfl,qV P h2 e (by omega)⟩⟩
 .rw [if_neg (by simpa using e)];obtain⟨y,hy,my⟩:=bZ (a:=a) (i:=i - 1) (by omega);refine Rr (dP hy ?_);refine Rr (sF (hS.kind.trans hk) (P.ia y my) (by omega) (by omega) P.ib (fun p q u v _ b1 _ b2 b3=>L8 P.sb b1 b2 b3) fun q q1 q2 q3=>?_);dsimp only;have h3:∀ p u,q <= p->p < j - 1->b[p]? = some u->∀ v ∈ a.toList.take i,kle v u:=fun p u p1 p2 p3 v hv=>by
   have c1:=Z05 (q3 p u (by omega) (by omega) p3);have c2:ky v <= ky y:=qP P.sa hi hy v hv;show ky v <= ky u;omega
  have h4:∀ m,m=q->∀ u,a[i - 1]? = some u->∀ v ∈ b.toList.take m,kle v u:=fun m hm u hu v hv=>by
   rw [hy] at hu;cases hu;obtain⟨p,p1,p2⟩:=qD hv;exact Qbs (Z04 (q2 p v (by omega) (by omega) p2))
  by_cases hq:j - 1 - q > 0
  .rw [if_pos hq];have h5:=Z5R P h2 (by omega) h3;by_cases e2:q=1
   .rw [if_pos (by simpa using e2)];exact Rs ⟨hS,.inl ⟨_,rfl,qV P h5 e2 (by omega)⟩⟩
   .rw [if_neg (by simpa using e2)];by_cases e3:q=0
    .rw [if_pos (by simpa using e3)];exact Rs ⟨hS,.inl ⟨_,rfl,Z42 P h5 e3⟩⟩
    .rw [if_neg (by simpa using e3)];exact Z6j P hS hi (by omega) hi2 (by omega) h5 (h4 _ rfl) (by omega)
  .rw [if_neg hq];exact Z6j P hS hi (by omega) hi2 (by omega) h2 (h4 _ (by omega)) (by omega)
theorem Z6l (P:HiP a b) (hk:kindOf st0=oneType') (hS:SameS st0 st) (h:HiJ a b T o i j) (hn:i + j <= n):wpS (model prog w) A E s (hiA a b o i j g c d) (HiQ a b T st0 n) st:=by
 obtain⟨hi,hj,hi2,hj2,h⟩:=h;unfold hiA;refine Rr (B1 hS fun st' hS'=>?_);obtain⟨x,hx,mx⟩:=bZ (a:=b) (i:=j - 1) (by omega);refine Rr (dP hx ?_);refine Rr (sF (hS'.kind.trans hk) (P.ib x mx) (by omega) (by omega) P.ia (fun p q u v _ b1 _ b2 b3=>L8 P.sa b1 b2 b3) fun q q1 q2 q3=>?_);dsimp only;have h3:∀ p u,q <= p->p < i->a[p]? = some u->∀ v ∈ b.toList.take j,kle v u:=fun p u p1 p2 p3 v hv=>by
  have c1:=Z07 (q3 p u (by omega) (by omega) p3);have c2:ky v <= ky x:=qP P.sb (by omega) hx v hv;show ky v <= ky u;omega
 have h4:∀ m,m=q->∀ u,b[j - 1]? = some u->∀ v ∈ a.toList.take m,kle v u:=fun m hm u hu v hv=>by
  rw [hx] at hu;cases hu;obtain⟨p,p1,p2⟩:=qD hv;exact Z06 (q2 p v (by omega) (by omega) p2)
 by_cases hq:i - q > 0
 .rw [if_pos hq];have h5:=Z5S P h (by omega) h3;by_cases e1:q=0
  .rw [if_pos (by simpa using e1)];exact Rs ⟨hS',.inl ⟨_,rfl,qW P h5 e1⟩⟩
  .rw [if_neg (by simpa using e1)];exact Z6k P hk hS' (by omega) hj (by omega) hj2 h5 (h4 _ rfl) (by omega)
 .rw [if_neg hq];exact Z6k P hk hS' hi hj hi2 hj2 h (h4 _ (by omega)) (by omega)
end
end TS
namespace TS
open PySem PyProof.Rows
section
variable {prog:Aj}{w:Ak}{A:Ai}{E:Ad->Ac->Prop}{s:Ac}{st:SortSt}{a b:Ae Keyed}{T:Ab Keyed}
theorem Z81 (P:HiP a b) (hk:kindOf st=oneType') (ha:0 < a.size) (hb:0 < b.size) (h0:∀ x,a[a.size - 1]? = some x->∀ y ∈ b.toList,kle y x) (hT:(a.toList ++ b.toList).Perm T)
  (h:∀ r st',SameS st st'->kF T r->Q r st'):wpS (model prog w) A E s (mHi a b) Q st:=by
 refine Rr (wpS_lift (Rk ⟨rfl,?_⟩));obtain⟨x0,hx0,mx0⟩:=bZ (a:=a) (i:=a.size - 1) (by omega);refine Rr (dP hx0 ?_);have tA:a.toList.take a.size=a.toList:=Qbq (by rw [Qak];exact Qag _);have tB:b.toList.take b.size=b.toList:=Qbq (by rw [Qak];exact Qag _);have hM:HiM a b T #[x0] (a.size - 1) b.size:=by
  have h1:HiM a b T #[] a.size b.size:=by
   refine⟨List.Pairwise.nil,(fun x hx=>by cases hx),(fun x hx=>by cases hx),?_⟩;rw [tA,tB];show (a.toList ++ b.toList ++ []).Perm T;rw [QaH];exact hT
  exact wT P h1 ha hx0 (by rw [tB];exact h0 x0 hx0)
 dsimp only;by_cases e1:a.size - 1=0
 .rw [if_pos (by simpa using e1)];exact Rs (h _ _ SameS.rfl (qW P hM e1))
 .rw [if_neg (by simpa using e1)];by_cases e2:b.size=1
  .rw [if_pos (by simpa using e2)];exact Rs (h _ _ SameS.rfl (qV P hM e2 hb))
  .rw [if_neg (by simpa using e2)];refine Rr (Rx ?_);refine Rr (Rv (Ru (I:=fun x c st'=>c.1=none /\ SameS st st' /\ HiJ a b T c.2.2.2.1 c.2.1 c.2.2.1 /\ c.2.1 + c.2.2.1 + x + 1 <= a.size + b.size)
    (Q:=fun c st'=>SameS st st' /\ ∃ r,c.1=some r /\ kF T r) ?step ?fin ⟨rfl,SameS.rfl,⟨by show 0 < a.size - 1;omega,by show 1 < b.size;omega,by show a.size - 1 <= _;omega,Qag _,hM⟩,by show a.size - 1 + b.size + 0 + 1 <= _;omega⟩) ?post)
   case fin =>
    rintro⟨r,i,j,o,g⟩ st' ⟨_,_,⟨j1,j2,_⟩,j3⟩;dsimp only at j1 j2 j3;omega
   case post =>
    rintro⟨r,i,j,o,g⟩ st' ⟨hS,r',e,hr⟩;cases (show r=some r' from e)
    exact Rs (h _ _ hS hr)
   case step =>
    rintro x ⟨r,i,j,o,g⟩ st' _ hx ⟨er,hS,hJ,hn⟩;cases (show r=none from er)
    dsimp only at hJ hn;refine Rr (Rv (Ru (I:=fun x c st'=>c.1=none /\ SameS st st' /\ HiJ a b T c.2.2.2.1 c.2.1 c.2.2.1 /\ c.2.1 + c.2.2.1 + x <= i + j)
     (Q:=fun c st'=>SameS st st' /\ ((∃ r,c.1=some r /\ kF T r) \/ (c.1=none /\ HiJ a b T c.2.2.2.1 c.2.1 c.2.2.1 /\ c.2.1 + c.2.2.1 + 1 <= i + j))) ?istep ?ifin ⟨rfl,hS,hJ,by show i + j + 0 <= i + j;omega⟩) ?ipost)
    case ifin =>
     rintro⟨r,i',j',o,g,d⟩ st' ⟨e,hS,hJ,hn'⟩;dsimp only at hJ hn' e ⊢;exact⟨hS,.inr ⟨e,hJ,by omega⟩⟩
    case istep =>
     rintro x' ⟨r,i',j',o,c,d⟩ st' _ hx' ⟨er,hS,⟨j1,j2,j3,j4,j5⟩,hn'⟩;cases (show r=none from er)
     dsimp only at j1 j2 j3 j4 j5 hn';obtain⟨y,hy,my⟩:=bZ (a:=b) (i:=j' - 1) (by omega);obtain⟨z,hz,mz⟩:=bZ (a:=a) (i:=i' - 1) (by omega);refine Rr (dP hy ?_);refine Rr (dP hz ?_);refine Rr (Z2P (hS.kind.trans hk) (P.ib y my) (P.ia z mz) ?_);dsimp only;by_cases hlt:ky y < ky z
     .rw [if_pos (by simpa using hlt)];refine Rr (dP hz ?_);have h2:=wT P j5 j1 hz fun v hv=>Qbp (qP P.sb (by omega) hy v hv) (Qbs hlt);by_cases e3:i' - 1=0
      .rw [if_pos (by simpa using e3)];exact Rs ⟨hS,.inl ⟨_,rfl,qW P h2 e3⟩⟩
      .rw [if_neg (by simpa using e3)];split
       .exact Rs ⟨hS,.inr ⟨rfl,⟨by show 0 < i' - 1;omega,j2,by show i' - 1 <= _;omega,j4,h2⟩,by show i' - 1 + j' + 1 <= _;omega⟩⟩
       .exact Rs ⟨rfl,hS,⟨by show 0 < i' - 1;omega,j2,by show i' - 1 <= _;omega,j4,h2⟩,by show i' - 1 + j' + (x' + 1) <= _;omega⟩
     .rw [if_neg (by simpa using hlt)];refine Rr (dP hy ?_);have h2:=N7 P j5 (by omega) hy fun v hv=>Qbp (qP P.sa j1 hz v hv) (Int.not_lt.mp hlt);by_cases e3:j' - 1=1
      .rw [if_pos (by simpa using e3)];exact Rs ⟨hS,.inl ⟨_,rfl,qV P h2 e3 (by omega)⟩⟩
      .rw [if_neg (by simpa using e3)];split
       .exact Rs ⟨hS,.inr ⟨rfl,⟨j1,by show 1 < j' - 1;omega,j3,by show j' - 1 <= _;omega,h2⟩,by show i' + (j' - 1) + 1 <= _;omega⟩⟩
       .exact Rs ⟨rfl,hS,⟨j1,by show 1 < j' - 1;omega,j3,by show j' - 1 <= _;omega,h2⟩,by show i' + (j' - 1) + (x' + 1) <= _;omega⟩
    case ipost =>
     rintro⟨r,i',j',o,c,d⟩ st' ⟨hS,hR⟩;rcases hR with ⟨r',e,hr⟩ | ⟨e,hJ,hn'⟩
     .cases (show r=some r' from e)
      exact Rs ⟨hS,r',rfl,hr⟩
     .cases (show r=none from e)
      dsimp only at hJ hn';refine Rr (wpS_lift (Rk ⟨rfl,?_⟩));refine Rr (Rv (Ru (I:=fun x c st'=>c.1=none /\ HiR a b T st (i + j - 1) c st') (Q:=HiR a b T st (i + j - 1)) ?gstep (fun c st' hh=>hh.2) ⟨rfl,hS,.inr ⟨rfl,hJ,by show i' + j' <= i + j - 1;omega⟩⟩) ?gpost)
      case gstep =>
       rintro y ⟨r,i',j',o,g,c,d⟩ st' _ hy ⟨er,hS,hR⟩;cases (show r=none from er)
       rcases hR with ⟨r',e,_⟩ | ⟨_,hJ,hn'⟩
       .cases e
       .refine (show wpS (model prog w) A E s (if g > 1 then hiA a b o i' j' (g - 1) c d else hiA a b o i' j' g c d) _ st' from ?_)
        split
        .refine Rv (Z6l P hk hS hJ hn') fun r st'' hr=>?_;cases r with
         | done c=>exact hr
         | yield c=>exact hr
        .refine Rv (Z6l P hk hS hJ hn') fun r st'' hr=>?_;cases r with
         | done c=>exact hr
         | yield c=>exact hr
      case gpost =>
       rintro⟨r,i',j',o,g,c,d⟩ st' ⟨hS,hR⟩;rcases hR with ⟨r',e,hr⟩ | ⟨e,hJ,hn''⟩
       .cases (show r=some r' from e)
        exact Rs ⟨hS,r',rfl,hr⟩
       .cases (show r=none from e)
        refine Rr (B1 hS fun st'' hS'=>?_);exact Rs ⟨rfl,hS',hJ,by dsimp only at hn'' ⊢;omega⟩
end
end TS
namespace TS
open PySem PyProof.Rows
structure RB (a₀:Array Keyed) (p:Array (Nat × Nat × Nat)) (x0:Array Keyed) (lo:Nat) (st:SortSt):Prop where
 perm:(arrOf st).Perm a₀
 kind:kindOf st=oneType'
 failed:failedOf st=none
 pend:pendingOf st=p
 pre:∀ k,k < lo->(arrOf st)[k]? = x0[k]?
variable {a₀ x0:Ae Keyed}{p:Ae (Nat × Nat × Nat)}{lo:Nat}
theorem RB.size {st:SortSt}(h:RB a₀ p x0 lo st):(arrOf st).size=a₀.size:=h.perm.size_eq
theorem RB.put {st:SortSt}(h:RB a₀ p x0 lo st) {xs:Ae Keyed}(hp:xs.Perm (arrOf st)) (hq:∀ k,k < lo->xs[k]? = (arrOf st)[k]?):RB a₀ p x0 lo (setArr st xs) :=
 ⟨hp.trans h.perm,h.kind,h.failed,h.pend,fun k hk=>(hq k hk).trans (h.pre k hk)⟩
theorem RB.rev {st:SortSt}(h:RB a₀ p x0 lo st) {i j:Nat}(hi:lo <= i) (hj:j <= a₀.size):RB a₀ p x0 lo (setArr st (mirror (arrOf st) i j ((j - i) / 2))) :=
 h.put (mirror_perm _ _ _ _) fun k hk=>by rw [getElem?_mirror_all (by rw [h.size];exact hj),if_neg (by omega)]
theorem RB.ints {st:SortSt}(h:RB a₀ p x0 lo st) (h0:IntKeys a₀):∀ x ∈ (arrOf st).toList,IK x:=fun x hx =>
 h0 x ((Array.perm_iff_toList_perm.mp h.perm).mem_iff.mp hx)
def SG (xs:Ae Keyed) (lo m:Nat):Prop:=∀ i j,lo <= i->i <= j->j < lo + m->K xs i <= K xs j
def NG (xs:Ae Keyed) (lo m:Nat):Prop:=∀ i j,lo <= i->i <= j->j < lo + m->K xs j <= K xs i
theorem SG.more (h:SG xs lo m) (hm:1 <= m) (hl:K xs (lo + m - 1) <= K xs (lo + m)):SG xs lo (m + 1):=fun i j h1 h2 h3=>by
 by_cases hj:j < lo + m
 .exact h i j h1 h2 hj
 .have e:j=lo + m:=by omega
  subst e;by_cases hi:i=lo + m
  .subst hi;exact Int.le_refl _
  .exact Qbp (h i (lo + m - 1) h1 (by omega) (by omega)) hl
theorem NG.more (h:NG xs lo m) (hm:1 <= m) (hl:K xs (lo + m) <= K xs (lo + m - 1)):NG xs lo (m + 1):=fun i j h1 h2 h3=>by
 by_cases hj:j < lo + m
 .exact h i j h1 h2 hj
 .have e:j=lo + m:=by omega
  subst e;by_cases hi:i=lo + m
  .subst hi;exact Int.le_refl _
  .exact Qbp hl (h i (lo + m - 1) h1 (by omega) (by omega))
theorem SG.one (xs:Ae Keyed) (lo:Nat):SG xs lo 1:=fun i j h1 h2 h3=>by
 have e:i=j:=by omega
 subst e;exact Int.le_refl _
theorem NG.one (xs:Ae Keyed) (lo:Nat):NG xs lo 1:=fun i j h1 h2 h3=>by
 have e:i=j:=by omega
 subst e;exact Int.le_refl _
section
variable {prog:Aj}{w:Ak}{A:Ai}{E:Ad->Ac->Prop}{s:Ac}{st:SortSt}
theorem vQ (hB:RB a₀ p x0 lo st) (h0:IntKeys a₀) (hi:i < a₀.size) (hj:j < a₀.size)
  (h:Q (some (decide (K (arrOf st) i < K (arrOf st) j))) st):wpS (model prog w) A E s (ltAt' i j) Q st:=by
 obtain⟨x,hx,mx⟩:=bZ (a:=arrOf st) (i:=i) (by rw [hB.size];exact hi);obtain⟨y,hy,my⟩:=bZ (a:=arrOf st) (i:=j) (by rw [hB.size];exact hj);have e1:K (arrOf st) i=ky x:=by unfold K;rw [hx]
 have e2:K (arrOf st) j=ky y:=by unfold K;rw [hy]
 rw [e1,e2] at h;rw [ltAt'_eq];refine Rr (Rx ?_);exact Rr (dP hx (Rr (dP hy (Z2P hB.kind (hB.ints h0 x mx) (hB.ints h0 y my) h))))
abbrev AS:=Aa (Aa Nat) × Nat
abbrev DS:=Aa (Aa Nat) × Nat × Nat
def asc (lo a n:Nat):StateT SortSt Sem AS :=
 forIn [a:n] ((none,a):AS) fun _ c=>do
  let z <- ltAt' (lo + c.2) (lo + c.2 - 1)
  match z with
  | some q=>if q=true then pure (.done (none,c.2)) else pure (.yield (none,c.2 + 1))
  | _=>pure (.done (some none,c.2))
def tl (lo m n:Nat):StateT SortSt Sem (Aa Nat):=do
 reverseSlice' lo (lo + m)
 let c <- asc lo m n
 match c.1 with
 | some r=>pure r
 | none=>pure (some c.2)
def dsl (lo m n:Nat):StateT SortSt Sem DS :=
 forIn [m:n] ((none,m,0):DS) fun _ c=>do
  let z <- ltAt' (lo + c.2.1) (lo + c.2.1 - 1)
  match z with
  | some q =>
   if q=true then
    if c.2.2 > 0 then do
     reverseSlice' (lo + c.2.1 - (c.2.2 + 1)) (lo + c.2.1)
     pure (.yield (none,c.2.1 + 1,0))
    else pure (.yield (none,c.2.1 + 1,0))
   else do
    let z <- ltAt' (lo + c.2.1 - 1) (lo + c.2.1)
    match z with
    | some q=>if q=true then pure (.done (none,c.2.1,c.2.2)) else pure (.yield (none,c.2.1 + 1,c.2.2 + 1))
    | _=>pure (.done (some none,c.2.1,c.2.2))
  | _=>pure (.done (some none,c.2.1,c.2.2))
def dsc (lo m n:Nat):StateT SortSt Sem (Aa Nat):=do
 liftM (rule "list.sort.descending-run")
 let c <- dsl lo (m + 1) n
 match c.1 with
 | some r=>pure r
 | none =>
  if c.2.2 > 0 then do
   reverseSlice' (lo + c.2.1 - (c.2.2 + 1)) (lo + c.2.1)
   tl lo c.2.1 n
  else tl lo c.2.1 n
theorem Z7y (lo n:Nat):countRun' lo n=(do
  let c <- asc lo 1 n
  match c.1 with
  | some r=>pure r
  | none =>
   if (c.2 == n)=true then pure (some c.2)
   else if c.2 > 1 then do
    let z <- ltAt' lo (lo + c.2 - 1)
    match z with
    | some q=>if q=true then pure (some c.2) else do
      reverseSlice' lo (lo + c.2)
      dsc lo c.2 n
    | _=>pure none
   else dsc lo c.2 n):=by
 rw [countRun'_eq];refine congrArg (fun g=>asc lo 1 n >>= g) (funext fun⟨r,m⟩=>?_);cases r with
 | some r=>rfl
 | none =>
  dsimp only;by_cases h1:(m == n)=true
  .rw [if_pos h1,if_pos h1]
  .rw [if_neg h1,if_neg h1];by_cases h2:m > 1
   .rw [if_pos h2,if_pos h2];refine congrArg (fun g=>_ >>= g) (funext fun z=>?_);cases z with
    | none=>rfl
    | some z =>
     dsimp only;by_cases h3:z=true
     .rw [if_pos h3,if_pos h3]
     .rw [if_neg h3,if_neg h3];refine congrArg (fun g=>_ >>= g) (funext fun u=>?_);refine congrArg (fun g=>_ >>= g) (funext fun u=>?_);refine congrArg (fun g=>_ >>= g) (funext fun⟨r,m,q⟩=>?_);cases r with
      | some r=>rfl
      | none =>
       dsimp only;by_cases hq:q > 0
       .rw [if_pos hq,if_pos hq];exact congrArg (fun g=>_ >>= g) (funext fun u=>congrArg (fun g=>_ >>= g) (funext fun u=>congrArg (fun g=>_ >>= g) (funext fun⟨r,m⟩=>by cases r <;> rfl)))
       .rw [if_neg hq,if_neg hq];exact congrArg (fun g=>_ >>= g) (funext fun u=>congrArg (fun g=>_ >>= g) (funext fun⟨r,m⟩=>by cases r <;> rfl))
   .rw [if_neg h2,if_neg h2];refine congrArg (fun g=>_ >>= g) (funext fun u=>?_);refine congrArg (fun g=>_ >>= g) (funext fun⟨r,m,q⟩=>?_);cases r with
    | some r=>rfl
    | none =>
     dsimp only;by_cases hq:q > 0
     .rw [if_pos hq,if_pos hq];exact congrArg (fun g=>_ >>= g) (funext fun u=>congrArg (fun g=>_ >>= g) (funext fun u=>congrArg (fun g=>_ >>= g) (funext fun⟨r,m⟩=>by cases r <;> rfl)))
     .rw [if_neg hq,if_neg hq];exact congrArg (fun g=>_ >>= g) (funext fun u=>congrArg (fun g=>_ >>= g) (funext fun⟨r,m⟩=>by cases r <;> rfl))
variable (h0:IntKeys a₀)
include h0
theorem Z6p (hB:RB a₀ p x0 lo st) (hn:lo + n <= a₀.size) (ha:1 <= a) (han:a <= n) (hs:SG (arrOf st) lo a)
  (h:∀ m,a <= m->m <= n->SG (arrOf st) lo m->(m=n \/ K (arrOf st) (lo + m) < K (arrOf st) (lo + m - 1))->Q (none,m) st):wpS (model prog w) A E s (asc lo a n) Q st:=by
 unfold asc;refine Ru (I:=fun x c st'=>st'=st /\ c=(none,x) /\ SG (arrOf st) lo x) ?_ ?_ ⟨rfl,rfl,hs⟩
 .rintro x c st' hax hxn ⟨rfl,rfl,hs'⟩;dsimp only;refine Rr (vQ hB h0 (by omega) (by omega) ?_);by_cases hl:K (arrOf st') (lo + x) < K (arrOf st') (lo + x - 1)
  .dsimp only;rw [if_pos (by simpa using hl)];exact Rs (h x hax (by omega) hs' (.inr hl))
  .dsimp only;rw [if_neg (by simpa using hl)];exact Rs ⟨rfl,rfl,hs'.more (by omega) (Int.not_lt.mp hl)⟩
 .rintro c st' ⟨rfl,rfl,hs'⟩;rw [show max a n=n by omega] at hs' ⊢;exact h n han (Qag _) hs' (.inl rfl)
theorem Z7W {m n:Nat}{Q:Aa Nat->SortSt->Prop}(hB:RB a₀ p x0 lo st) (hn:lo + n <= a₀.size) (h1:1 <= m) (hm:m <= n) (hs:NG (arrOf st) lo m)
  (h:∀ q st',RB a₀ p x0 lo st'->1 <= q->q <= n->SG (arrOf st') lo q->Q (some q) st'):wpS (model prog w) A E s (tl lo m n) Q st:=by
 unfold tl;refine Rr (wpS_reverse ?_);have hB':=hB.rev (i:=lo) (j:=lo + m) (Qag _) (by omega);refine Rr (Z6p h0 hB' hn h1 hm ?_ fun q q1 q2 q3 _=>Rs (h q _ hB' (by omega) q2 q3));intro i j a1 a2 a3;show K (mirror (arrOf st) lo (lo + m) ((lo + m - lo) / 2)) i <= K (mirror (arrOf st) lo (lo + m) ((lo + m - lo) / 2)) j;rw [K_mirror (by rw [hB.size];omega),K_mirror (by rw [hB.size];omega),if_pos (by omega),if_pos (by omega)];exact hs _ _ (by omega) (by omega) (by omega)
def Eq1 (xs:Ae Keyed) (lo m q:Nat):Prop:=q + 1 <= m /\ ∀ i,lo + m - (q + 1) <= i->i < lo + m->K xs i=K xs (lo + m - 1)
omit h0 in
theorem Eq1.zero (hm:1 <= m):Eq1 xs lo m 0:=⟨by omega,fun i h1 h2=>by congr 1;omega⟩
omit h0 in
theorem Eq1.mirror (h:Eq1 xs lo m q) (hs:lo + m <= xs.size) (k:Nat):K (mirror xs (lo + m - (q + 1)) (lo + m) ((lo + m - (lo + m - (q + 1))) / 2)) k=K xs k:=by
 rw [K_mirror hs];split
 .have:=h.1;rw [h.2 _ (by omega) (by omega),h.2 k (by omega) (by omega)]
 .rfl
theorem Z88 (hB:RB a₀ p x0 lo st) (hn:lo + n <= a₀.size) (h1:1 <= m) (hm:m <= n) (hs:NG (arrOf st) lo m)
  (h:∀ k q st',RB a₀ p x0 lo st'->m <= k->k <= n->NG (arrOf st') lo k->Eq1 (arrOf st') lo k q->Q (none,k,q) st'):wpS (model prog w) A E s (dsl lo m n) Q st:=by
 unfold dsl;refine Ru (I:=fun x c st'=>∃ q,c=(none,x,q) /\ RB a₀ p x0 lo st' /\ NG (arrOf st') lo x /\ Eq1 (arrOf st') lo x q) ?_ ?_ ⟨0,rfl,hB,hs,.zero h1⟩
 .rintro x c st' hax hxn ⟨q,rfl,hB',hs',hq⟩;dsimp only;refine Rr (vQ hB' h0 (by omega) (by omega) ?_);by_cases hl:K (arrOf st') (lo + x) < K (arrOf st') (lo + x - 1)
  .dsimp only;rw [if_pos (by simpa using hl)];by_cases hq0:q > 0
   .rw [if_pos hq0];have hk:=hq.mirror (lo:=lo) (by rw [hB'.size];omega);refine Rr (wpS_reverse (Rs ⟨0,rfl,hB'.rev (by have:=hq.1;omega) (by omega),?_,.zero (by omega)⟩));refine NG.more (fun i j a1 a2 a3=>?_) (by omega) ?_
    .show K (PyProof.Rows.mirror (arrOf st') _ _ _) j <= K (PyProof.Rows.mirror (arrOf st') _ _ _) i;rw [hk,hk];exact hs' i j a1 a2 a3
    .show K (PyProof.Rows.mirror (arrOf st') _ _ _) (lo + x) <= K (PyProof.Rows.mirror (arrOf st') _ _ _) (lo + x - 1);rw [hk,hk];exact Qbs hl
   .rw [if_neg hq0];exact Rs ⟨0,rfl,hB',hs'.more (by omega) (Qbs hl),.zero (by omega)⟩
  .dsimp only;rw [if_neg (by simpa using hl)];refine Rr (vQ hB' h0 (by omega) (by omega) ?_);by_cases hg:K (arrOf st') (lo + x - 1) < K (arrOf st') (lo + x)
   .dsimp only;rw [if_pos (by simpa using hg)];exact Rs (h x q st' hB' hax (by omega) hs' hq)
   .dsimp only;rw [if_neg (by simpa using hg)];have e:K (arrOf st') (lo + x)=K (arrOf st') (lo + x - 1):=by omega
    refine Rs ⟨q + 1,rfl,hB',hs'.more (by omega) (Int.le_of_eq e),by have:=hq.1;omega,fun i a1 a2=>?_⟩;rw [show lo + (x + 1) - 1=lo + x by omega];by_cases hi:i=lo + x
    .subst hi;rfl
    .rw [e];exact hq.2 i (by omega) (by omega)
 .rintro c st' ⟨q,rfl,hB',hs',hq⟩;rw [show max m n=n by omega] at hs' hq ⊢;exact h n q st' hB' hm (Qag _) hs' hq
theorem Z6m (hB:RB a₀ p x0 lo st) (hn:lo + n <= a₀.size) (hm:m + 1 <= n) (hs:NG (arrOf st) lo (m + 1))
  (h:∀ q st',RB a₀ p x0 lo st'->1 <= q->q <= n->SG (arrOf st') lo q->Q (some q) st'):wpS (model prog w) A E s (dsc lo m n) Q st:=by
 unfold dsc;refine Rr (wpS_lift (Rk ⟨rfl,?_⟩));refine Rr (Z88 h0 hB hn (by omega) hm hs fun k q st' hB' k1 k2 hs' hq=>?_);dsimp only;by_cases hq0:q > 0
 .rw [if_pos hq0];have hk:=hq.mirror (lo:=lo) (by rw [hB'.size];omega);refine Rr (wpS_reverse (Z7W h0 (hB'.rev (by have:=hq.1;omega) (by omega)) hn (by omega) k2 (fun i j a1 a2 a3=>?_) h));show K (PyProof.Rows.mirror (arrOf st') _ _ _) j <= K (PyProof.Rows.mirror (arrOf st') _ _ _) i;rw [hk,hk];exact hs' i j a1 a2 a3
 .rw [if_neg hq0];exact Z7W h0 hB' hn (by omega) k2 hs' h
theorem Z6n (hB:RB a₀ p x0 lo st) (hn:lo + n <= a₀.size) (h1:1 <= n)
  (h:∀ q st',RB a₀ p x0 lo st'->1 <= q->q <= n->SG (arrOf st') lo q->Q (some q) st'):wpS (model prog w) A E s (countRun' lo n) Q st:=by
 rw [Z7y];refine Rr (Z6p h0 hB hn (Qag 1) h1 (.one _ _) fun m m1 m2 hs hor=>?_);dsimp only;by_cases hmn:m=n
 .rw [if_pos (by simpa using hmn)];exact Rs (h m st hB m1 m2 hs)
 .rw [if_neg (by simpa using hmn)];have hl:=hor.resolve_left hmn;by_cases hm1:m > 1
  .rw [if_pos hm1];refine Rr (vQ hB h0 (by omega) (by omega) ?_);by_cases hr:K (arrOf st) lo < K (arrOf st) (lo + m - 1)
   .dsimp only;rw [if_pos (by simpa using hr)];exact Rs (h m st hB m1 m2 hs)
   .dsimp only;rw [if_neg (by simpa using hr)];have ha:∀ i,lo <= i->i < lo + m->K (arrOf st) i=K (arrOf st) (lo + m - 1):=fun i a1 a2=>by
     have b1:=hs lo i (Qag _) a1 a2;have b2:=hs i (lo + m - 1) a1 (by omega) (by omega);omega
    have hk:∀ k,K (mirror (arrOf st) lo (lo + m) ((lo + m - lo) / 2)) k=K (arrOf st) k:=fun k=>by
     rw [K_mirror (by rw [hB.size];omega)];split
     .rw [ha _ (by omega) (by omega),ha k (by omega) (by omega)]
     .rfl
    refine Rr (wpS_reverse (Z6m h0 (hB.rev (Qag _) (by omega)) hn (by omega) ?_ h));refine NG.more (fun i j a1 a2 a3=>?_) (by omega) ?_
    .show K (mirror (arrOf st) _ _ _) j <= K (mirror (arrOf st) _ _ _) i;rw [hk,hk,ha i a1 (by omega),ha j (by omega) a3];exact Int.le_refl _
    .show K (mirror (arrOf st) _ _ _) (lo + m) <= K (mirror (arrOf st) _ _ _) (lo + m - 1);rw [hk,hk];exact Qbs hl
  .rw [if_neg hm1];have e:m=1:=by omega
   subst e;exact Z6m h0 hB hn (by omega) ((NG.one _ _).more (Qag 1) (Qbs hl)) h
theorem Z6i (hB:RB a₀ p x0 lo st) (hn:lo + n <= a₀.size) (hok:ok <= n) (ho1:1 <= ok) (hs:SG (arrOf st) lo ok)
  (h:∀ st',RB a₀ p x0 lo st'->SG (arrOf st') lo n->Q true st'):wpS (model prog w) A E s (binarySort' lo n ok) Q st:=by
 rw [binarySort'_eq];refine Rr (Rv (Ru (I:=fun k c st'=>c=(none,()) /\ RB a₀ p x0 lo st' /\ SG (arrOf st') lo k) (Q:=fun c st'=>c=(none,()) /\ RB a₀ p x0 lo st' /\ SG (arrOf st') lo n) ?_ ?_ ⟨rfl,hB,by rw [show max ok 1=ok by omega];exact hs⟩) ?_)
 .rintro k c st' hak hkn ⟨rfl,hB',hs'⟩;refine Rr (Rv (Ru (I:=fun x c st''=>st''=st' /\ ∃ l r,c=(none,l,r) /\ l <= r /\ r <= k /\ r - l <= k - x /\ (∀ i,lo <= i->i < lo + l->K (arrOf st') i <= K (arrOf st') (lo + k)) /\ (∀ i,lo + r <= i->i < lo + k->K (arrOf st') (lo + k) < K (arrOf st') i))
   (Q:=fun c st''=>st''=st' /\ ∃ l r,c=(none,l,r) /\ l <= k /\ (∀ i,lo <= i->i < lo + l->K (arrOf st') i <= K (arrOf st') (lo + k)) /\ (∀ i,lo + l <= i->i < lo + k->K (arrOf st') (lo + k) < K (arrOf st') i)) ?_ ?_ ⟨rfl,0,k,rfl,by omega,by omega,by omega,fun i a1 a2=>by omega,fun i a1 a2=>by omega⟩) ?_)
  .rintro x c st'' _ hx ⟨rfl,l,r,rfl,b1,b2,b3,b4,b5⟩;dsimp only;by_cases hge:l ≥ r
   .rw [if_pos hge];have e:l=r:=by omega
    subst e;exact Rs ⟨rfl,l,l,rfl,b2,b4,b5⟩
   .rw [if_neg hge];refine Rr (vQ hB' h0 (by omega) (by omega) ?_);by_cases hl:K (arrOf st'') (lo + k) < K (arrOf st'') (lo + (l + r) / 2)
    .dsimp only;rw [if_pos (by simpa using hl)];exact Rs ⟨rfl,l,(l + r) / 2,rfl,by omega,by omega,by omega,b4,fun i a1 a2=>Int.lt_of_lt_of_le hl (hs' _ _ (by omega) a1 a2)⟩
    .dsimp only;rw [if_neg (by simpa using hl)];exact Rs ⟨rfl,(l + r) / 2 + 1,r,rfl,by omega,by omega,by omega,fun i a1 a2=>Qbp (hs' i (lo + (l + r) / 2) a1 (by omega) (by omega)) (Int.not_lt.mp hl),b5⟩
  .rintro c st'' ⟨rfl,l,r,rfl,b1,b2,b3,b4,b5⟩;have e:l=r:=by omega
   subst e;exact⟨rfl,l,l,rfl,b2,b4,b5⟩
  .rintro c st'' ⟨rfl,l,r,rfl,b2,b4,b5⟩;refine (show wpS (model prog w) A E s (moveDown' (lo + k) (lo + l) >>= fun _=>pure (ForInStep.yield (none,()))) _ st'' from ?_)
   rw [moveDown'_eq];have hz:lo + k < (arrOf st'').size:=by rw [hB'.size];omega
   refine Rr (Rw (Rs ⟨rfl,hB'.put (bubble_perm _ _ _) fun q hq=>?_,fun i j a1 a2 a3=>?_⟩))
   .rw [getElem?_bubble hz _ (by omega),if_neg (by omega),if_neg (by omega)]
   .show K (bubble (arrOf st'') (lo + k) (lo + k - (lo + l))) i <= K (bubble (arrOf st'') (lo + k) (lo + k - (lo + l))) j;rw [K_bubble hz (by omega),K_bubble hz (by omega),show lo + k - (lo + k - (lo + l))=lo + l by omega]
    repeat' split
    all_goals first
     | (exfalso;omega)
     | exact Int.le_refl _
     | exact b4 _ (by omega) (by omega)
     | exact Qbs (b5 _ (by omega) (by omega))
     | exact hs' _ _ (by omega) (by omega) (by omega)
 .rintro c st' ⟨rfl,hB',hs'⟩;rw [show max (max ok 1) n=n by omega] at hs';exact⟨rfl,hB',hs'⟩
 .rintro c st' ⟨rfl,hB',hs'⟩;exact Rs (h st' hB' hs')
end
end TS
namespace TS
open PySem PyProof.Rows
theorem Z0o (sa:Nat):∀ (l:Ab Keyed) (i:Nat) (xs:Ae Keyed),sa + i + l.length <= xs.size->((l.zipIdx i).foldl (fun a (q:Keyed × Nat)=>a.setIfInBounds (sa + q.2) q.1) xs).toList=xs.toList.take (sa + i) ++ l ++ xs.toList.drop (sa + i + l.length)
 | [],i,xs,h=>by
  show xs.toList=_;rw [List.length_nil,QaH,Nat.add_zero,QbC]
 | x :: l,i,xs,h=>by
  rw [Qal] at h;rw [List.zipIdx_cons,Qa8];have hz:sa + i < xs.toList.length:=by rw [Qak];omega
  have e:(xs.setIfInBounds (sa + i) x).toList=(xs.toList.take (sa + i) ++ [x]) ++ xs.toList.drop (sa + i + 1):=by
   rw [Array.toList_setIfInBounds,List.set_eq_take_append_cons_drop,if_pos hz,QaK];rfl
  have hl:(xs.toList.take (sa + i) ++ [x]).length=sa + (i + 1):=by
   rw [QaB,Qav,Nat.min_eq_left (Qbd hz)];rfl
  have ih:=Z0o sa l (i + 1) (xs.setIfInBounds (sa + i) x) (by rw [Array.size_setIfInBounds];omega);rw [ih,e,List.take_left' hl,<- List.drop_drop,List.drop_left' hl,List.drop_drop,Qal];rw [show sa + i + 1 + l.length=sa + i + (l.length + 1) by omega];simp only [QaK,QbA,QbL]
def mgE (sa:Nat) (r:Ae Keyed):StateT SortSt Sem Bool:=do
 modify fun t=>setArr t (List.foldl (fun a q=>match q with | (p,j)=>a.setIfInBounds (sa + j) p) (arrOf t) r.toList.zipIdx)
 let t <- get
 pure (failedOf t).isNone
def mgA (xs:Ae Keyed) (sa na sb nb:Nat):StateT SortSt Sem Bool:=do
 let x <- elem' xs sb
 let z <- E6 false x xs sa na 0
 match z with
 | some k =>
  if (na - k == 0)=true then pure true
  else do
   let y <- elem' xs (sa + k + (na - k) - 1)
   let z <- E6 true y xs sb nb (nb - 1)
   match z with
   | some m =>
    if (m == 0)=true then pure true
    else if na - k <= m then do
     let r <- mLo (xs.extract (sa + k) sb) (xs.extract sb (sb + m))
     mgE (sa + k) r
    else do
     let r <- mHi (xs.extract (sa + k) sb) (xs.extract sb (sb + m))
     mgE (sa + k) r
   | _=>pure false
 | _=>pure false
section
variable {prog:Aj}{w:Ak}{A:Ai}{E:Ad->Ac->Prop}{s:Ac}{st:SortSt}
theorem Z7X (h:Q ⟨⟩ t):wpS (model prog w) A E s (set t:StateT SortSt Sem PUnit) Q st:=by
 unfold wpS;rw [StateT.run_set];exact Rb ⟨rfl,h⟩
theorem Z6t {l:Ab Keyed}(h:∀ (i j:Nat) (x y:Keyed),i < j->l[i]? = some x->l[j]? = some y->kle x y):l.Pairwise kle:=by
 rw [QbG];intro i j hi hj hij;exact h i j _ _ hij (Qad hi) (Qad hj)
theorem rO (h:xs[i]? = some x):K xs i=ky x:=by unfold K;rw [h]
theorem SG.take (h:SG xs 0 n):(xs.toList.take n).Pairwise kle:=Z6t fun i j x y hij hx hy=>by
 have h1:=(Qac.mp hx).1;have h2:=(Qac.mp hy).1;rw [Qav] at h1 h2;rw [Qa1 (by omega),Qax] at hx hy;have:=h i j (by omega) (by omega) (by omega)
 rwa [rO hx,rO hy] at this
theorem SG.drop {xs:Ae Keyed}{lo n:Nat}(h:SG xs lo n) (he:lo + n=xs.size):(xs.toList.drop lo).Pairwise kle:=Z6t fun i j x y hij hx hy=>by
 rw [Qbl,Qax] at hx hy;have h2:=(Qa5.mp hy).1;have:=h (lo + i) (lo + j) (by omega) (by omega) (by omega)
 rwa [rO hx,rO hy] at this
theorem Z1u (h:xs.toList.Pairwise kle):SortedTo xs xs.size:=fun i j hij hj=>by
 obtain⟨x,hx,_⟩:=bZ (a:=xs) (i:=i) (by omega);obtain⟨y,hy,_⟩:=bZ (a:=xs) (i:=j) hj;rw [rO hx,rO hy];exact L8 h hij hx hy
theorem Z7Y (hf:failedOf st=none) (hr:sa + r.size <= (arrOf st).size)
  (h:∀ st',failedOf st'=none->pendingOf st'=pendingOf st->(arrOf st').toList=(arrOf st).toList.take sa ++ r.toList ++ (arrOf st).toList.drop (sa + r.size)->Q true st'):wpS (model prog w) A E s (mgE sa r) Q st:=by
 unfold mgE;refine Rr (Rw (Rr (Rx ?_)));have e:(failedOf (setArr st (List.foldl (fun a q=>match q with | (p,j)=>a.setIfInBounds (sa + j) p) (arrOf st) r.toList.zipIdx))).isNone=true:=by
  show (failedOf st).isNone=true;rw [hf];rfl
 rw [e];refine Rs (h _ hf rfl ?_);have:=Z0o sa r.toList 0 (arrOf st) (by rw [Qak];exact hr);rw [Qak] at this;exact this
theorem Z4b {xs:Ae Keyed}{i j k:Nat}(hk:i + k < j) (hj:j <= xs.size):(xs.extract i j)[k]? = xs[i + k]?:=by
 rw [Array.getElem?_extract,if_pos (by omega)]
theorem O9 {xs:Ae Keyed}{i j:Nat}(hj:j <= xs.size):(xs.extract i j).size=j - i:=by
 rw [Array.size_extract,Nat.min_eq_left hj]
theorem Z7Z {n1 n2:Nat}{Q:Bool->SortSt->Prop}(hk:kindOf st=oneType') (hf:failedOf st=none) (hI:∀ x ∈ (arrOf st).toList,IK x) (h1:1 <= n1) (h2:1 <= n2) (hn:n1 + n2=(arrOf st).size)
  (s1:SG (arrOf st) 0 n1) (s2:SG (arrOf st) n1 n2)
  (h:∀ st',failedOf st'=none->pendingOf st'=pendingOf st->(arrOf st').toList.Pairwise kle->(arrOf st').toList.Perm (arrOf st).toList->Q true st'):wpS (model prog w) A E s (mgA (arrOf st) 0 n1 n1 n2) Q st:=by
 unfold mgA;have p1:=s1.take;have p2:=s2.drop hn;obtain⟨x,hx,mx⟩:=bZ (a:=arrOf st) (i:=n1) (by omega);refine Rr (dP hx ?_);refine Rr (sF hk (hI x mx) (by omega) (by omega) hI (fun i j u v a1 a2 a3 a4 a5=>by have:=s1 i j a1 a2 a3;rwa [rO a4,rO a5] at this) fun k k1 k2 k3=>?_);dsimp only;have xd:∀ v ∈ (arrOf st).toList.drop n1,kle x v:=fun v hv=>by
  obtain⟨q,q1,q2⟩:=qE hv;have:=s2 n1 q (Qag _) q1 (by have:=(Qa5.mp q2).1;omega)
  rwa [rO hx,rO q2] at this
 have all:∀ l:Ab Keyed,(∀ u ∈ l,∀ v ∈ (arrOf st).toList.drop n1,kle u v)->l=(arrOf st).toList.take n1->Q true st:=fun l hl e=>by
  refine h st hf rfl ?_ (Qbu _);rw [<- QbC n1 (arrOf st).toList];exact QaN.mpr ⟨p1,p2,by rw [<- e];exact hl⟩
 have pk:∀ u ∈ (arrOf st).toList.take k,∀ v ∈ (arrOf st).toList.drop n1,kle u v:=fun u hu v hv=>by
  obtain⟨q,q1,q2⟩:=qD hu;exact Qbp (Z06 (k2 q u (by omega) (by omega) q2)) (xd v hv)
 by_cases e1:n1 - k=0
 .rw [if_pos (by simpa using e1)];exact Rs (all _ pk (by rw [show k=n1 by omega]))
 .rw [if_neg (by simpa using e1)];obtain⟨y,hy,my⟩:=bZ (a:=arrOf st) (i:=n1 - 1) (by omega);rw [show 0 + k + (n1 - k) - 1=n1 - 1 by omega];refine Rr (dP hy ?_);refine Rr (sF hk (hI y my) (by omega) (by omega) hI (fun i j u v a1 a2 a3 a4 a5=>by have:=s2 i j a1 a2 a3;rwa [rO a4,rO a5] at this) fun m m1 m2 m3=>?_);dsimp only;have yt:∀ u ∈ (arrOf st).toList.take n1,kle u y:=fun u hu=>by
   obtain⟨q,q1,q2⟩:=qD hu;have:=s1 q (n1 - 1) (by omega) (by omega) (by omega)
   rwa [rO hy,rO q2] at this
  have ym:∀ u ∈ (arrOf st).toList.take n1,∀ v ∈ (arrOf st).toList.drop (n1 + m),kle u v:=fun u hu v hv=>by
   obtain⟨q,q1,q2⟩:=qE hv;have:=(Qa5.mp q2).1;exact Qbp (yt u hu) (Z05 (m3 q v (by omega) (by omega) q2))
  by_cases e2:m=0
  .rw [if_pos (by simpa using e2)];exact Rs (all _ (fun u hu v hv=>ym u hu v (by rw [e2];exact hv)) rfl)
  .rw [if_neg (by simpa using e2)];have zX:((arrOf st).extract (0 + k) n1).size=n1 - k:=by rw [O9 (by omega)];omega
   have zY:((arrOf st).extract n1 (n1 + m)).size=m:=by rw [O9 (by omega)];omega
   have tX:(arrOf st).toList.take n1=(arrOf st).toList.take k ++ ((arrOf st).extract (0 + k) n1).toList:=by
    rw [Qa6];exact vF _ (by omega)
   have dY:(arrOf st).toList.drop n1=((arrOf st).extract n1 (n1 + m)).toList ++ (arrOf st).toList.drop (n1 + m):=xB _ _ _;have sX:=p1;rw [tX] at sX;obtain⟨sP,sX,sPX⟩:=QaN.mp sX;have sY:=p2;rw [dY] at sY;obtain⟨sY,sS,sYS⟩:=QaN.mp sY;have iX:∀ v ∈ ((arrOf st).extract (0 + k) n1).toList,IK v:=fun v hv=>by
    obtain⟨q,_,_,q3⟩:=jW hv;exact hI v (Array.mem_toList_iff.mpr (Array.mem_of_getElem? q3))
   have iY:∀ v ∈ ((arrOf st).extract n1 (n1 + m)).toList,IK v:=fun v hv=>by
    obtain⟨q,_,_,q3⟩:=jW hv;exact hI v (Array.mem_toList_iff.mpr (Array.mem_of_getElem? q3))
   have fst:∀ z,((arrOf st).extract n1 (n1 + m))[0]? = some z->∀ v ∈ ((arrOf st).extract (0 + k) n1).toList,kle z v:=fun z hz v hv=>by
    rw [Z4b (by omega) (by omega),Nat.add_zero,hx] at hz;cases hz;obtain⟨q,q1,q2,q3⟩:=jW hv;exact Qbs (Z07 (k3 q v (by omega) (by omega) q3))
   have lst:∀ z,((arrOf st).extract (0 + k) n1)[((arrOf st).extract (0 + k) n1).size - 1]? = some z->∀ v ∈ ((arrOf st).extract n1 (n1 + m)).toList,kle v z:=fun z hz v hv=>by
    rw [zX,Z4b (by omega) (by omega),show 0 + k + (n1 - k - 1)=n1 - 1 by omega,hy] at hz;cases hz;obtain⟨q,q1,q2,q3⟩:=jW hv;exact Qbs (Z04 (m2 q v (by omega) (by omega) q3))
   have fin:∀ r st',SameS st st'->kF (((arrOf st).extract (0 + k) n1).toList ++ ((arrOf st).extract n1 (n1 + m)).toList) r->wpS (model prog w) A E s (mgE (0 + k) r) Q st':=fun r st' hS hr=>by
    have hz:r.size=n1 - k + m:=by
     have:=hr.2.length_eq;rw [QaB,Qak,Qak,Qak,zX,zY] at this;exact this
    refine Z7Y (by rw [hS.failed];exact hf) (by rw [hS.arr,hz];omega) fun st'' f1 f2 f3=>h st'' f1 (f2.trans hS.pend) ?_ ?_
    .rw [f3,hS.arr,hz,show 0 + k + (n1 - k + m)=n1 + m by omega,Qa6];refine QaN.mpr ⟨QaN.mpr ⟨sP,hr.1,fun u hu v hv=>?_⟩,sS,fun u hu v hv=>?_⟩
     .rcases Qai.mp (hr.2.mem_iff.mp hv) with a1 | a1
      .exact sPX u hu v a1
      .exact pk u hu v (by rw [dY];exact Qar _ a1)
     .rcases Qai.mp hu with a1 | a1
      .exact pk u a1 v (by rw [dY];exact Qam _ hv)
      .rcases Qai.mp (hr.2.mem_iff.mp a1) with a2 | a2
       .exact ym u (by rw [tX];exact Qam _ a2) v hv
       .exact sYS u a2 v hv
    .rw [f3,hS.arr,hz,show 0 + k + (n1 - k + m)=n1 + m by omega,Qa6];have e:(arrOf st).toList=(arrOf st).toList.take k ++ (((arrOf st).extract (0 + k) n1).toList ++ ((arrOf st).extract n1 (n1 + m)).toList) ++ (arrOf st).toList.drop (n1 + m):=by
      conv=>lhs;rw [<- QbC n1 (arrOf st).toList,tX,dY]
      simp only [QaK]
     conv=>rhs;rw [e]
     exact List.Perm.append_right _ (List.Perm.append_left _ hr.2)
   by_cases hle:n1 - k <= m
   .rw [if_pos hle];exact Rr (Z80 ⟨iX,iY,sX,sY,lst⟩ hk (by omega) (by omega) fst (Qbu _) fin)
   .rw [if_neg hle];exact Rr (Z81 ⟨iX,iY,sX,sY,fst⟩ hk (by omega) (by omega) lst (Qbu _) fin)
end
end TS
namespace TS
open PySem PyProof.Rows
section
variable {prog:Aj}{w:Ak}{A:Ai}{E:Ad->Ac->Prop}{s:Ac}{st:SortSt}{a₀:Ae Keyed}
theorem Z82 (hk:kindOf st=oneType') (hf:failedOf st=none) (hp:pendingOf st = #[(0,n1,pw),(n1,n2,q)]) (hI:∀ x ∈ (arrOf st).toList,IK x) (h1:1 <= n1) (h2:1 <= n2) (hn:n1 + n2=(arrOf st).size)
  (s1:SG (arrOf st) 0 n1) (s2:SG (arrOf st) n1 n2)
  (h:∀ st',failedOf st'=none->pendingOf st' = #[(0,n1 + n2,pw)]->(arrOf st').toList.Pairwise kle->(arrOf st').toList.Perm (arrOf st).toList->Q true st'):wpS (model prog w) A E s (mergeAt' 0) Q st:=by
 rcases st with ⟨kd,xs,pe,g,fl⟩;have hp':pe = #[(0,n1,pw),(n1,n2,q)]:=hp;subst hp';refine Rr (Rx ?_);have e0:(#[(0,n1,pw),(n1,n2,q)]:Ae (Nat × Nat × Nat))[0]? = some (0,n1,pw):=rfl;have e1:(#[(0,n1,pw),(n1,n2,q)]:Ae (Nat × Nat × Nat))[0 + 1]? = some (n1,n2,q):=rfl;have e2:(((#[(0,n1,pw),(n1,n2,q)]:Ae (Nat × Nat × Nat)).setIfInBounds 0 (0,n1 + n2,pw)).eraseIdxIfInBounds (0 + 1)) = #[(0,n1 + n2,pw)]:=by simp [Array.eraseIdxIfInBounds]
 dsimp only;rw [e0,e1];dsimp only;rw [e2];refine Rr (Z7X ?_);refine (show wpS (model prog w) A E s (mgA xs 0 n1 n1 n2) Q (SortSt.mk' kd xs #[(0,n1 + n2,pw)] g fl) from ?_)
 exact Z7Z (st:=SortSt.mk' kd xs #[(0,n1 + n2,pw)] g fl) hk hf hI h1 h2 hn s1 s2 h
structure One (a₀:Array Keyed) (st:SortSt):Prop where
 perm:(arrOf st).Perm a₀
 failed:failedOf st=none
 pend:∃ x,pendingOf st = #[x]
 sort:SortedTo (arrOf st) a₀.size
structure Two (a₀:Array Keyed) (n1 pw:Nat) (st:SortSt):Prop where
 perm:(arrOf st).Perm a₀
 kind:kindOf st=oneType'
 failed:failedOf st=none
 pend:pendingOf st = #[(0,n1,pw),(n1,a₀.size - n1,0)]
 r1:SG (arrOf st) 0 n1
 r2:SG (arrOf st) n1 (a₀.size - n1)
 pos:1 <= n1 /\ n1 < a₀.size
theorem RB.push {p:Ae (Nat × Nat × Nat)}{x0:Ae Keyed}{lo:Nat}(h:RB a₀ p x0 lo st) (x:Nat × Nat × Nat) (l:Nat):RB a₀ (p.push x) (arrOf st) l (setPending st ((pendingOf st).push x)) :=
 ⟨h.perm,h.kind,h.failed,by show (pendingOf st).push x=_;rw [h.pend],fun k _=>rfl⟩
theorem Z6L (h0:IntKeys a₀) (hB:SBase a₀ st) (hz:64 <= a₀.size) (hz2:a₀.size < 128)
  (h:∀ st',(arrOf st').Perm a₀->failedOf st'=none->SortedTo (arrOf st') a₀.size->Q () st'):wpS (model prog w) A E s sortRuns' Q st:=by
 rw [sortRuns'_eq];refine Rr (Rx ?_);dsimp only;obtain⟨mr,hmr,hm1,hm2,hm3⟩:∃ mr,minRun' a₀.size a₀.size 0=mr /\ a₀.size <= 2 * mr /\ mr <= a₀.size /\ 1 <= mr:=by
  obtain⟨f,hf⟩:∃ f,a₀.size=f + 2:=⟨a₀.size - 2,by omega⟩;have e:minRun' a₀.size a₀.size 0=a₀.size / 2 + max 0 (a₀.size % 2):=by
   conv=>lhs;arg 1;rw [hf]
   rw [minRun'_succ,if_neg (by omega),minRun'_succ,if_pos (by omega)]
  exact⟨_,e,by omega,by omega,by omega⟩
 simp only [hB.size,hmr];have hR:RB a₀ #[] a₀ 0 st:=⟨hB.perm,hB.kind,hB.failed,hB.pend,fun k hk=>absurd hk (Nat.not_lt_zero _)⟩;refine Rr (Rv (Ru
  (I:=fun x c st'=>(x=0 /\ c=(none,0) /\ RB a₀ #[] a₀ 0 st') \/ (x=1 /\ ∃ n1,c=(none,n1) /\ mr <= n1 /\ n1 <= a₀.size /\ RB a₀ #[(0,n1,0)] (arrOf st') n1 st' /\ SG (arrOf st') 0 n1) \/ (2 <= x /\ c=(none,a₀.size) /\ ∃ n1 pw,Two a₀ n1 pw st'))
  (Q:=fun c st'=>c=(none,a₀.size) /\ (One a₀ st' \/ ∃ n1 pw,Two a₀ n1 pw st')) ?step ?fin (.inl ⟨rfl,rfl,hR⟩)) ?post)
 case fin =>
  rintro c st' (⟨hx,_,_⟩ | ⟨hx,_⟩ | ⟨_,hc,hD⟩)
  .omega
  .omega
  .exact⟨hc,.inr hD⟩
 case step =>
  rintro x c st' _ hx (⟨rfl,rfl,hB'⟩ | ⟨rfl,n1,rfl,g1,g2,hB',hs'⟩ | ⟨_,rfl,hD⟩)
  .dsimp only;rw [if_neg (by omega)];refine Rr (Z6n h0 hB' (by omega) (by omega) fun m st2 hB2 m1 m2 s2=>?_);dsimp only;by_cases hlt:m < mr
   .rw [if_pos hlt];refine Rr (wpS_lift (Rk ⟨rfl,?_⟩));refine Rr (Z6i h0 hB2 (by omega) (by omega) m1 s2 fun st3 hB3 s3=>?_);rw [if_neg (by decide)];refine Rr (Rx ?_);have hb:(pendingOf st3).back? = none:=by rw [hB3.pend];rfl
    rw [hb];dsimp only;refine Rr (Rw (Rs (.inr (.inl ⟨rfl,_,rfl,by omega,by omega,?_,?_⟩))))
    .rw [Qa6];exact hB3.push _ _
    .rw [Qa6];exact s3
   .rw [if_neg hlt];refine Rr (Rx ?_);have hb:(pendingOf st2).back? = none:=by rw [hB2.pend];rfl
    rw [hb];dsimp only;refine Rr (Rw (Rs (.inr (.inl ⟨rfl,_,rfl,by omega,by omega,?_,?_⟩))))
    .rw [Qa6];exact hB2.push _ _
    .rw [Qa6];exact s2
  .dsimp only;by_cases hge:n1 ≥ a₀.size
   .rw [if_pos hge];have e:n1=a₀.size:=by omega
    subst e;exact Rs ⟨rfl,.inl ⟨hB'.perm,hB'.failed,⟨_,hB'.pend⟩,fun i j hij hj=>hs' i j (by omega) hij (by omega)⟩⟩
   .rw [if_neg hge];have tail:∀ st3:SortSt,RB a₀ #[(0,n1,0)] (arrOf st') n1 st3->SG (arrOf st3) n1 (a₀.size - n1)->∀ pw,Two a₀ n1 pw (setPending (setPending st3 ((pendingOf st3).modify ((pendingOf st3).size - 1) fun x=>(x.1,x.2.1,pw))) (((pendingOf st3).modify ((pendingOf st3).size - 1) fun x=>(x.1,x.2.1,pw)).push (n1,a₀.size - n1,0))):=fun st3 hB3 s3 pw=>by
     refine⟨hB3.perm,hB3.kind,hB3.failed,?_,fun i j a1 a2 a3=>?_,s3,by omega,by omega⟩
     .show ((pendingOf st3).modify ((pendingOf st3).size - 1) fun x=>(x.1,x.2.1,pw)).push (n1,a₀.size - n1,0)=_;rw [hB3.pend];rfl
     .show K (arrOf st3) i <= K (arrOf st3) j;rw [K_congr (hB3.pre i (by omega)),K_congr (hB3.pre j (by omega))];exact hs' i j a1 a2 a3
    refine Rr (Z6n h0 hB' (by omega) (by omega) fun m st2 hB2 m1 m2 s2=>?_);dsimp only;by_cases hlt:m < mr
    .rw [if_pos hlt];refine Rr (wpS_lift (Rk ⟨rfl,?_⟩));refine Rr (Z6i h0 hB2 (by omega) (by omega) m1 s2 fun st3 hB3 s3=>?_);rw [if_neg (by decide)];refine Rr (Rx ?_);have hb:(pendingOf st3).back? = some (0,n1,0):=by rw [hB3.pend];rfl
     rw [hb];dsimp only;refine Rr (Rv (Ru (I:=fun _ c st''=>st''=st3 /\ c=(none,())) (Q:=fun c st''=>st''=st3 /\ c=(none,())) ?_ (fun _ _ hh=>hh) ⟨rfl,rfl⟩) ?_)
     .rintro x c st'' _ _ ⟨rfl,rfl⟩;refine Rr (Rx ?_);rw [if_neg (by rw [hB3.pend];exact Qbf 1)];exact Rs ⟨rfl,rfl⟩
     .rintro c st'' ⟨rfl,rfl⟩;dsimp only;have e:min (a₀.size - n1) mr=a₀.size - n1:=by omega
      rw [e] at s3 ⊢;exact Rr (Rw (Rr (Rw (Rs (.inr (.inr ⟨by omega,by rw [show n1 + (a₀.size - n1)=a₀.size by omega],n1,_,tail _ hB3 s3 _⟩))))))
    .rw [if_neg hlt];have e:m=a₀.size - n1:=by omega
     subst e;refine Rr (Rx ?_);have hb:(pendingOf st2).back? = some (0,n1,0):=by rw [hB2.pend];rfl
     rw [hb];dsimp only;refine Rr (Rv (Ru (I:=fun _ c st''=>st''=st2 /\ c=(none,())) (Q:=fun c st''=>st''=st2 /\ c=(none,())) ?_ (fun _ _ hh=>hh) ⟨rfl,rfl⟩) ?_)
     .rintro x c st'' _ _ ⟨rfl,rfl⟩;refine Rr (Rx ?_);rw [if_neg (by rw [hB2.pend];exact Qbf 1)];exact Rs ⟨rfl,rfl⟩
     .rintro c st'' ⟨rfl,rfl⟩;dsimp only;exact Rr (Rw (Rr (Rw (Rs (.inr (.inr ⟨by omega,by rw [show n1 + (a₀.size - n1)=a₀.size by omega],n1,_,tail _ hB2 s2 _⟩))))))
  .dsimp only;rw [if_pos (Qag _)];exact Rs ⟨rfl,.inr hD⟩
 case post =>
  rintro c st' ⟨rfl,hD⟩;dsimp only;refine Rr (Rv (Ru (I:=fun x c st''=>c=(none,()) /\ (One a₀ st'' \/ x=0 /\ ∃ n1 pw,Two a₀ n1 pw st'')) (Q:=fun c st''=>c=(none,()) /\ One a₀ st'') ?_ ?_ ⟨rfl,hD.imp id fun h'=>⟨rfl,h'⟩⟩) ?_)
  .rintro x c st'' _ _ ⟨rfl,hO | ⟨rfl,n1,pw,hT⟩⟩
   .obtain⟨y,hy⟩:=hO.pend;refine Rr (Rx ?_);rw [if_pos (by rw [hy];exact Qag 1)];exact Rs ⟨rfl,hO⟩
   .refine Rr (Rx ?_);have hz':=hT.pos;rw [if_neg (by rw [hT.pend];exact Nat.not_succ_le_self 1),hT.pend];have hsz:(arrOf st'').size=a₀.size:=hT.perm.size_eq;refine Rr (Z82 hT.kind hT.failed hT.pend (fun x hx=>h0 x ((Array.perm_iff_toList_perm.mp hT.perm).mem_iff.mp hx)) (by omega) (by omega) (by omega) hT.r1 hT.r2 fun st3 f1 f2 f3 f4=>?_);rw [if_neg (by decide)];have hp3:(arrOf st3).Perm a₀:=(Array.perm_iff_toList_perm.mpr f4).trans hT.perm;refine Rs ⟨rfl,.inl ⟨hp3,f1,⟨_,f2⟩,?_⟩⟩;have:=Z1u f3
    rwa [hp3.size_eq] at this
  .rintro c st'' ⟨hc,hO | ⟨hx,_⟩⟩
   .exact⟨hc,hO⟩
   .omega
  .rintro c st'' ⟨rfl,hO⟩;exact Rs (h _ hO.perm hO.failed hO.sort)
end
end TS
namespace TS
open PySem PyProof.Rows
section
variable {prog:Aj}{w:Ak}{A:Ai}{E:Ad->Ac->Prop}{s:Ac}
theorem sort128 (ho:s.heap.get? a=some (seqObj "list" vs.toArray n)) (hI:IntsAre vs ns) (hl:vs.length < 128)
  (h:∀ (out:Ae Ad) (ns':Ab Int),IntsAre out.toList ns'->ns'.Perm ns->ns'.Pairwise (· <= ·)->P (.done (.ret .none)) { s with heap:=sortedHeap s.heap a vs out }) :
  wpAny (model prog w) A (Builtin.«list.sort» ⟨[.ref a],[]⟩) P E s:=by
 by_cases h64:vs.length < 64
 .exact list_sort_tree ho hI h64 h
 rw [list_sort_plain];have ha:a < s.heap.objs.size:=Qah ho;have hs5:vs.toArray.size=vs.length:=by simp
 refine Ra (listItems_at ho rfl (Ra (listUpdate_at ho rfl ?_ (by rw [hs5,sizeLine_eq];omega))));obtain⟨ep,hq1⟩:∃ ep,(s.heap.update a (Obj.mapSeq fun _=>#[])).get? a=some (seqObj "list" #[] ep):=⟨_,get?_update_seq ho (fun _=>#[])⟩;refine Ra (seqEpoch_at hq1 rfl (Ra (wpAny_newTuple (Ra (wpAny_newList (Rg ?_))) ?_)))
 rotate_left
 .rw [Qak,hs5,sizeLine_eq];omega
 have hq6:(((s.heap.update a (Obj.mapSeq fun _=>#[])).push (seqObj "tuple" vs.toArray 0)).push (seqObj "list" #[] 0)).get? a=some (seqObj "list" #[] ep):=by
  rw [Heap.get?_push_ne _ _ _ (by rw [size_push',Heap.size_update];exact QaA (Qa3 ha)),Heap.get?_push_ne _ _ _ (by rw [Heap.size_update];exact QaA ha)];exact hq1
 refine (show wpAny (model prog w) A _ P E { s with heap:=((s.heap.update a (Obj.mapSeq fun _=>#[])).push (seqObj "tuple" vs.toArray 0)).push (seqObj "list" #[] 0) } from ?_)
 dsimp only;rw [if_neg (by rw [hs5];omega),if_neg (by rw [hs5];omega)];obtain⟨v₁,v₂,rest,rfl⟩:∃ v₁ v₂ rest,vs=v₁ :: v₂ :: rest:=by
  match vs,h64 with
  | [],h=>exact absurd (by decide) h
  | [_],h=>exact absurd (by show 1 < 64;decide) h
  | v₁ :: v₂ :: rest,_=>exact⟨v₁,v₂,rest,rfl⟩
 rw [keyKind_ints hI];refine Ra (Rb (Ra (Rc (Z6L (a₀:=pairsOf (v₁ :: v₂ :: rest)) (st:=SortSt.mk' oneType' (pairsOf (v₁ :: v₂ :: rest)) #[] 7 none)
  (Q:=fun _ st'=>(arrOf st').Perm (pairsOf (v₁ :: v₂ :: rest)) /\ failedOf st'=none /\ SortedTo (arrOf st') (pairsOf (v₁ :: v₂ :: rest)).size)
  hI.intKeys ⟨Array.Perm.refl _,rfl,rfl,rfl⟩ (by rw [pairsOf_size];omega) (by rw [pairsOf_size];exact hl) fun st' a1 a2 a3=>⟨a1,a2,a3⟩) ?_ fun _ _ e=>e)))
 rintro⟨⟨⟩,st'⟩ s' ⟨rfl,hp,hf,hs⟩;dsimp only;obtain⟨ns',q1,q2,q3⟩:=sorted_out hI hp hs;refine Ra (seqEpoch_at hq6 rfl (Ra (listUpdate_at hq6 rfl ?_ (hsz2:=?_))))
 .rw [hf];simp only [bne_self_eq_false,Qbb,RD];exact Rb (h _ ns' q1 q2 q3)
 .have e5:((arrOf st').map (·.2)).size=(v₁ :: v₂ :: rest).length:=by rw [Array.size_map,hp.size_eq,pairsOf_size]
  show ((arrOf st').map (·.2)).size <= _;rw [e5,sizeLine_eq];omega
end
end TS
namespace TS
open PySem PyProof.Rows
def yF (xs:Ae Nat):Prop:=∀ i j x y:Nat,i < j->xs[i]? = some x->xs[j]? = some y->x < y
theorem xG (hR:yF xs):∀ (f lo hi:Nat),hi - lo <= f->lo <= hi->hi <= xs.size->(∀ i x,i < lo->xs[i]? = some x->x < j)->(∀ i x,hi <= i->xs[i]? = some x->j <= x) ->
  SetTable.below.go xs j f lo hi <= xs.size /\ (∀ i x,i < SetTable.below.go xs j f lo hi->xs[i]? = some x->x < j) /\ (∀ i x,SetTable.below.go xs j f lo hi <= i->xs[i]? = some x->j <= x)
 | 0,lo,hi,h1,h2,h3,h4,h5=>by
  have e:lo=hi:=by omega
  subst e;exact⟨h3,h4,h5⟩
 | f + 1,lo,hi,h1,h2,h3,h4,h5=>by
  unfold SetTable.below.go;by_cases hlt:lo < hi
  .rw [if_pos hlt];dsimp only;obtain⟨y,hy⟩:∃ y,xs[(lo + hi) / 2]? = some y:=⟨_,RE xs _ (by omega)⟩;have e:xs.getD ((lo + hi) / 2) j=y:=by rw [Array.getD_eq_getD_getElem?,hy];rfl
   rw [e];by_cases hyj:y < j
   .rw [if_pos hyj];refine xG hR f _ hi (by omega) (by omega) h3 (fun i x hi' hx=>?_) h5;rcases Nat.lt_or_ge i ((lo + hi) / 2) with q | q
    .exact Nat.lt_trans (hR i _ x y q hx hy) hyj
    .have e2:i=(lo + hi) / 2:=by omega
     subst e2;rw [hy] at hx;cases hx;exact hyj
   .rw [if_neg hyj];refine xG hR f lo _ (by omega) (by omega) (by omega) h4 (fun i x hi' hx=>?_);rcases Nat.lt_or_ge ((lo + hi) / 2) i with q | q
    .have:=hR _ i y x q hy hx;omega
    .have e2:i=(lo + hi) / 2:=by omega
     subst e2;rw [hy] at hx;cases hx;omega
  .rw [if_neg hlt];have e:lo=hi:=by omega
   subst e;exact⟨h3,h4,h5⟩
theorem Q1 (hR:yF xs) (j:Nat):SetTable.below xs j <= xs.size /\ (∀ i x,i < SetTable.below xs j->xs[i]? = some x->x < j) /\ (∀ i x,SetTable.below xs j <= i->xs[i]? = some x->j <= x) :=
 xG hR xs.size 0 xs.size (by omega) (by omega) (Qag _) (fun i x h=>absurd h (Nat.not_lt_zero _)) (fun i x h e=>by rw [Array.getElem?_eq_none h] at e;cases e)
structure Tb (bt:Bool) (t:SetTable):Prop where
 dum:t.dummies = #[]
 led:t.led = !bt
 rise:t.plain=true->yF t.place
theorem Z0p {l:Ab Nat}(h:l.Pairwise (· < ·)):yF l.toArray:=fun i j x y hij hx hy=>by
 rw [List.getElem?_toArray] at hx hy;obtain⟨hi,rfl⟩:=Qac.mp hx;obtain⟨hj,rfl⟩:=Qac.mp hy;exact QbG.mp h i j hi hj hij
theorem Z5s (h:yF xs):xs.toList.Pairwise (· < ·):=by
 rw [QbG];intro i j hi hj hij;exact h i j _ _ hij (by rw [<- Qax];exact Qad hi) (by rw [<- Qax];exact Qad hj)
theorem Z2U (hR:yF xs) (hn:xs[SetTable.below xs j]? ≠ some j):yF (SetTable.insertAt xs (SetTable.below xs j) j):=by
 obtain⟨b1,b2,b3⟩:=Q1 hR j;have hl:=Z5s hR;have e:SetTable.insertAt xs (SetTable.below xs j) j=(xs.toList.take (SetTable.below xs j) ++ j :: xs.toList.drop (SetTable.below xs j)).toArray:=by
  apply Array.toList_inj.mp;rw [SetTable.toList_insertAt]
 rw [e];refine Z0p (QaN.mpr ⟨hl.sublist (List.take_sublist _ _),Qbk.mpr ⟨fun y hy=>?_,hl.sublist (List.drop_sublist _ _)⟩,fun x hx y hy=>?_⟩)
 .obtain⟨k,hk⟩:=Qbh.mp hy;rw [Qbl,Qax] at hk;have h1:=b3 _ y (by omega) hk;rcases Nat.lt_or_ge j y with q | q
  .exact q
  .have e2:y=j:=by omega
   subst e2;cases k with
   | zero=>exact absurd hk hn
   | succ k =>
    obtain⟨z,hz⟩:∃ z,xs[SetTable.below xs y]? = some z:=⟨_,RE xs _ (by have:=(Qa5.mp hk).1;omega)⟩;have h2:=b3 _ z (Qag _) hz;have h3:=hR _ _ z y (by omega) hz hk;omega
 .have hx':x < j:=by
   obtain⟨k,hk⟩:=Qbh.mp hx;have hl2:=(Qac.mp hk).1;rw [Qav] at hl2;rw [Qa1 (by omega),Qax] at hk;exact b2 k x (by omega) hk
  rcases Qaf.mp hy with rfl | hy
  .exact hx'
  .obtain⟨k,hk⟩:=Qbh.mp hy;rw [Qbl,Qax] at hk;have:=b3 _ y (by omega) hk;omega
theorem Z3D (j:Nat):SetTable.has #[] j=false:=rfl
theorem Z2G {t:SetTable}(hd:t.dummies = #[]) (j:Nat):(t.slot j=.empty /\ t.place[SetTable.below t.place j]? ≠ some j) \/ ∃ i,t.slot j=.live i:=by
 unfold SetTable.slot;by_cases h:t.place[SetTable.below t.place j]? = some j
 .right;refine⟨SetTable.below t.place j,?_⟩;dsimp only;rw [if_pos (by rw [h];exact beq_self_eq_true _)]
 .left;refine⟨?_,h⟩;dsimp only;rw [if_neg (by simpa using h),hd,Z3D,if_neg (by decide)]
theorem Z43 {t:SetTable}{f:Nat->Int}{h:Int}(hd:t.dummies = #[]):∀ (n:Nat) (p:SetTable.Probe) (j:Nat) (m:Aa Nat),p.dummy=none->SetTable.probe.go t f h n p=some (.empty j m)->m=none /\ t.place[SetTable.below t.place j]? ≠ some j
 | 0,p,j,m,hp,e=>by cases e
 | n + 1,p,j,m,hp,e=>by
  unfold SetTable.probe.go at e;have ha:∀ q:SetTable.Probe,(t.advance q).dummy=q.dummy:=fun q=>by
   unfold SetTable.advance;split <;> rfl
  rcases Z2G hd p.j with ⟨h1,h2⟩ | ⟨i,h1⟩
  .rw [h1] at e;dsimp only at e;cases e;exact⟨hp,h2⟩
  .rw [h1] at e;dsimp only at e;split at e
   .cases e
   .exact Z43 hd n _ j m ((ha p).trans hp) e
theorem Tb.stand (h:Tb bt t) (n:Nat):Tb bt (t.standIn n):=⟨rfl,h.led,fun e=>by cases e⟩
theorem Tb.lay (H:Tb bt t) (es:Ae (Int × Ad)) (h:Int) (x:Ad):Tb bt (layNew t es h x).2.1:=by
 unfold layNew;cases hf:t.freeSlot h with
 | none=>exact H.stand _
 | some r =>
  obtain⟨slot,wd⟩:=r;dsimp only;unfold SetTable.orStandIn;have hs:t.place[SetTable.below t.place slot]? ≠ some slot:=by
   unfold SetTable.freeSlot at hf;split at hf
   .rename_i j m he;have:=Z43 H.dum _ _ _ _ rfl he;obtain⟨rfl,q⟩:=this;cases hf;exact q
   .cases hf
  have hput:Tb bt (t.put slot).1:=by
   unfold SetTable.put;refine⟨?_,H.led,fun e=>Z2U (H.rise e) hs⟩;dsimp only;rw [H.dum,Z3D,if_neg (by decide)]
  split
  .exact hput
  .exact hput.stand _
theorem Tb.relay {bt:Bool}{t:SetTable}(H:Tb bt t) (es:Ae (Int × Ad)) (n:Nat):Tb bt (relayAll t es n).2.1:=by
 unfold relayAll;cases hr:t.relaid (es.map (·.1)) n with
 | none=>exact H.stand _
 | some r =>
  obtain⟨t',order⟩:=r;dsimp only;split
  .dsimp only;unfold SetTable.relaid SetTable.laid at hr;simp only [Option.bind_eq_bind,Option.bind_eq_some_iff,Option.pure_def,Qba,Prod.mk.injEq] at hr;obtain⟨ow,_,e1,_⟩:=hr;rw [<- e1];refine⟨rfl,H.led,fun _=>Z0p ?_⟩;rw [List.pairwise_map];refine List.Pairwise.filterMap _ (R:=(· < ·)) ?_ List.pairwise_lt_range;intro a a' haa b hb b' hb';obtain⟨u,_,rfl⟩:=Option.map_eq_some_iff.mp hb;obtain⟨u',_,rfl⟩:=Option.map_eq_some_iff.mp hb';exact haa
  .exact H.stand _
end TS
namespace TS
open PySem PyProof.Rows
def addI (vs:Ab Int) (k:Int):Ab Int:=if k ∈ vs then vs else vs ++ [k]
def dedI (ns:Ab Int):Ab Int:=ns.foldl addI []
theorem Z4x (vs:Ab Int) (k:Int):(addI vs k).length <= vs.length + 1:=by
 unfold addI;split
 .omega
 .rw [QaB];exact Qag _
theorem Z4w (vs:Ab Int) (k x:Int):x ∈ addI vs k ↔ x ∈ vs \/ x=k:=by
 unfold addI;split
 .exact⟨.inl,fun h=>h.elim id fun e=>e ▸ ‹_›⟩
 .rw [Qai,QaF]
theorem Z0b (h:vs.Nodup) (k:Int):(addI vs k).Nodup:=by
 unfold addI;split
 .exact h
 .exact QaT.mpr ⟨h,QbK _ _,fun a ha b hb=>by rw [QaF.mp hb];rintro rfl;exact absurd ha ‹_›⟩
theorem nZ:∀ (ns vs:Ab Int),(ns.foldl addI vs).length <= vs.length + ns.length /\ (∀ x,x ∈ ns.foldl addI vs ↔ x ∈ vs \/ x ∈ ns) /\ (vs.Nodup->(ns.foldl addI vs).Nodup)
 | [],vs=>⟨Qag _,fun x=>by simp,id⟩
 | n :: ns,vs=>by
  obtain⟨a,b,c⟩:=nZ ns (addI vs n);have:=Z4x vs n;refine⟨by rw [Qa8,Qal];omega,fun x=>?_,fun h=>c (Z0b h n)⟩;rw [Qa8,b,Z4w,Qaf,or_assoc]
theorem dedI_mem (ns:Ab Int) (x:Int):x ∈ dedI ns ↔ x ∈ ns:=by rw [dedI,(nZ ns []).2.1];simp
theorem dedI_nodup (ns:Ab Int):(dedI ns).Nodup:=(nZ ns []).2.2 QaQ
theorem dedI_len (ns:Ab Int):(dedI ns).length <= ns.length:=by have:=(nZ ns []).1;rw [List.length_nil,Qa6] at this;exact this
def esI (es:Ae (Int × Ad)):Ab Int:=es.toList.map fun e=>numOf e.2
section
variable (prog:Aj)(w:Ak)
def SB (bt:Bool) (h:Ah) (a:Af) (vs:Ab Int):Prop :=
 ∃ o es ep t,h.get? a=some o /\ o.ExactSet /\ o.data=.set es ep t /\ ElemsOf (intKind prog w) es.toList /\ (esI es).Perm vs /\ es.size < scanBound /\ t.fits es.size=true /\ Tb bt t
end
theorem SB.keep (x:SB prog w bt h a vs) (k:∀ o,h.get? a=some o->h'.get? a=some o):SB prog w bt h' a vs:=by
 obtain⟨o,es,ep,t,ho,r⟩:=x;exact⟨o,es,ep,t,k o ho,r⟩
theorem Z4h (h:ElemsOf (intKind prog w) l) {e:Int × Ad}(he:e ∈ l):∃ t,e.2=.int (numOf e.2) t:=by
 obtain⟨⟨k,hk,_⟩,_⟩:=h e he;obtain⟨t,e1⟩:=Value.isInt_shape hk;exact⟨t,by rw [e1];rfl⟩
theorem F4 (h:ElemsOf (intKind prog w) es.toList) (k:Int):k ∈ esI es ↔ ∃ e ∈ es.toList,(intKind prog w).is k e.2=true:=by
 unfold esI;rw [QaM];refine⟨fun⟨e,he,q⟩=>⟨e,he,?_⟩,fun⟨e,he,q⟩=>⟨e,he,?_⟩⟩
 .obtain⟨t,e1⟩:=Z4h h he;rw [e1,q];exact intKind_is _ _ _ _
 .obtain⟨t,e1⟩:=Value.isInt_shape q;rw [e1];rfl
theorem Z4d (h:es.toList.Perm es'.toList):(esI es).Perm (esI es'):=h.map _
theorem Z7F (hS:SB prog w bt s.heap a vs) (hr:vs.length + 1 < scanBound)
  (h:∀ b h',Heap.SameBut a s.heap h'->SB prog w bt h' a (addI vs k)->Q b { s with heap:=h' }):wpAny (model prog w) A (setAddHashed a (.int k tk) (hashInt k)) Q E s:=by
 obtain⟨o,es,ep,t,ho,hex,hd,hel,hvs,hb,hf,hT⟩:=hS;have hkey:=intKind_is prog w k tk;have hz:es.size=vs.length:=by have:=hvs.length_eq;unfold esI at this;rwa [Qaa,Qak] at this
 unfold setAddHashed setAddHashedIn;refine Rg (Ra (Ri ho hd hf ?_));dsimp only;rw [byScan_of (knd:=intKind prog w) (x:=.int k tk) rfl hb hel,if_pos rfl];unfold setAddByScan;refine Ra (Ra (Rk (Ra (wpAny_setScan_of (knd:=intKind prog w) hkey ho hd hf hel ?_))));cases hi:List.findIdx? (fun e=>(intKind prog w).is k e.2) es.toList with
 | some j =>
  obtain⟨hj,hpj,_⟩:=List.findIdx?_eq_some_iff_getElem.mp hi;have hm:k ∈ vs:=hvs.mem_iff.mp ((F4 hel k).mpr ⟨_,List.getElem_mem hj,hpj⟩);have e:addI vs k=vs:=if_pos hm;exact Rb (Rb (h false s.heap (Heap.SameBut.refl a s.heap) (by rw [e];exact⟨o,es,ep,t,ho,hex,hd,hel,hvs,hb,hf,hT⟩)))
 | none =>
  have hm:¬ k ∈ vs:=fun hk=>by
   obtain⟨e,he,q⟩:=(F4 hel k).mp (hvs.mem_iff.mpr hk);have:=List.findIdx?_eq_none_iff.mp hi e he;rw [q] at this;cases this
  have e:addI vs k=vs ++ [k]:=if_neg hm;have hp:=layNew_perm t es (hashInt k) (.int k tk);have hfi:=layNew_fits t es (hashInt k) (.int k tk);have hT1:=hT.lay es (hashInt k) (.int k tk);generalize layNew t es (hashInt k) (.int k tk)=L at hp hfi hT1;obtain⟨es1,t1,wd,gv⟩:=L;dsimp only at hp hfi hT1 ⊢;rw [QbE] at hp;have hel1:ElemsOf (intKind prog w) es1.toList:=(hel.push (knd:=intKind prog w) hkey rfl).perm hp;have hv1:(esI es1).Perm (vs ++ [k]):=by
   have:=hp.map fun e=>numOf e.2;rw [QaG] at this;exact this.trans (List.Perm.append_right _ hvs)
  have hb1:es1.size < scanBound:=by rw [<- Qak,hp.length_eq,QaB,Qak,hz];exact hr
  have gw:∀ (b:Bool) {s₁:Ac}{Q':Unit->Ac->Prop},Q' () s₁->wpAny (model prog w) A (match b with | true=>rule "set.scan.the-table-gave-way" | false=>pure ()) Q' E s₁:=fun b s₁ Q' q=>by
   cases b
   .exact Rb q
   .exact Rk q
  refine Ra (gw gv ?_);have core:∀ {Q':Aa Bool->Ac->Prop}(m:Bool->Sem (Aa Bool)),wpAny (model prog w) A (m true) Q' E s->wpAny (model prog w) A (if t1.plain=true then hashByValue 8 (.int k tk) >>= m else pure true >>= m) Q' E s:=fun m q=>by
   split
   .rw [hashByValue_scannable 8 rfl];exact Ra (Rb q)
   .exact Ra (Rb q)
  refine core _ ?_;rw [if_pos rfl];refine Ra (wpAny_storeSet_of ho hd ?_ (fits_of_scanBound hb1));have g1:=(SetOf_store (knd:=intKind prog w) (S':=fun k'=>decide (k' ∈ vs ++ [k])) ho hex hd hel1 (fun k'=>by rw [RA,<- hv1.mem_iff];exact F4 hel1 k') hb1 hfi).1;have sb1:=Qbj s.heap a (Obj.putSet es1 t1);split
  .have hp2:=relayAll_perm t1 es1 (SetTable.grown es1.size);have hf2:=relayAll_fits t1 es1 (SetTable.grown es1.size);have hT2:=hT1.relay es1 (SetTable.grown es1.size);generalize relayAll t1 es1 (SetTable.grown es1.size)=L at hp2 hf2 hT2;obtain⟨es2,t2,gv2⟩:=L;dsimp only at hp2 hf2 hT2 ⊢;have hel2:ElemsOf (intKind prog w) es2.toList:=hel1.perm hp2;have hv2:(esI es2).Perm (vs ++ [k]):=(Z4d hp2).trans hv1;have hb2:es2.size < scanBound:=by rw [<- Qak,hp2.length_eq,Qak];exact hb1
   refine Ra (gw gv2 ?_);refine Ra (wpAny_storeSet_of g1 rfl ?_ (fits_of_scanBound hb2));have g2:=(SetOf_store (knd:=intKind prog w) (S':=fun k'=>decide (k' ∈ vs ++ [k])) g1 hex rfl hel2 (fun k'=>by rw [RA,<- hv2.mem_iff];exact F4 hel2 k') hb2 hf2).1;exact Rb (Rb (h true _ (sb1.trans (Qbj _ a _)) (by rw [e];exact⟨_,es2,_,t2,g2,hex,rfl,hel2,hv2,hb2,hf2,hT2⟩)))
  .exact Rb (Rb (h true _ sb1 (by rw [e];exact⟨_,es1,_,t1,g1,hex,rfl,hel1,hv1,hb1,hfi,hT1⟩)))
section
variable {prog:Aj}{w:Ak}{A:Ai}{R:Result->Ac->Prop}{I:Af}{fp wr:Ab Af}{G:Ae GenState->Ae GenState->Prop}{n:Nat}{P:Nat->Ad->Prop}{St:Nat->Ac->Prop}{bt:Bool}
theorem Z7E (W:WalksS prog w A.in1 I fp wr G n P St) (S:Af) (hSf:S ∉ fp) (ns:Ab Int) (hl:ns.length=n) (hv:∀ i v,P i v->∃ t,v=.int (ns.getD i 0) t) (hb:n + 1 < scanBound) :
  ∀ (k i:Nat) (s:Ac),n - i=k->i <= n->St i s->SB prog w bt s.heap S (dedI (ns.take i))->(∀ s',Moved (S :: wr) G s s'->SB prog w bt s'.heap S (dedI ns)->R (.ok (.ret .none)) s') ->
   codeAny (model prog w) A (.builtin "set.update.loop" ⟨[.ref S,.ref I],[]⟩) R s:=by
 have hSw:S ∉ wr:=fun h=>hSf (W.sub _ h);have hsub:∀ b ∈ wr,b ∈ S :: wr:=fun b hb=>Qae _ hb;intro k
 induction k with
 | zero =>
  intro i s hk hi st hS hR;have e:i=n:=by omega
  subst e;refine Rn PyProof.Rows.F.entry_set_update_loop ?_;rw [Around.under_plainId PyProof.Rows.F.plain_set_update_loop _];refine (show wpAny _ A.in1 (pyNext (.ref I) >>= _) _ _ s from ?_)
  refine Ra (W.done s _ _ st fun s' hm=>?_);rw [Qbq (by omega)] at hS;exact Rb (hR s' (hm.mono hsub) (hS.keep fun o=>hm.heap S o hSw))
 | succ k ih =>
  intro i s hk hi st hS hR;have hlt:i < n:=by omega
  refine Rn PyProof.Rows.F.entry_set_update_loop ?_;rw [Around.under_plainId PyProof.Rows.F.plain_set_update_loop _];refine (show wpAny _ A.in1 (pyNext (.ref I) >>= _) _ _ s from ?_)
  refine Ra (W.item i s _ _ hlt st fun v s' hP st' hm=>?_);obtain⟨t,rfl⟩:=hv i v hP;have hS':=hS.keep fun o=>hm.heap S o hSw;refine (show wpAny _ A.in1 (holding [Value.int (ns.getD i 0) t] (setAdd S (.int (ns.getD i 0) t)) >>= _) _ _ s' from ?_)
  unfold setAdd;refine Ra (Rg (Rg (Ra ((intKind prog w).pyHash (k:=ns.getD i 0) (intKind_is _ _ _ _) ?_))));have hlen:=dedI_len (ns.take i);rw [Qav] at hlen;refine Z7F (s:={ s' with toks:=s'.toks + 1 }) hS' (by omega) fun b h' sb hS2=>?_;have e2:addI (dedI (ns.take i)) (ns.getD i 0)=dedI (ns.take (i + 1)):=by
   have hi':i < ns.length:=by omega
   rw [List.take_succ_eq_append_getElem hi',dedI,dedI,List.foldl_append,List.getD_eq_getElem?_getD,Qad hi'];rfl
  rw [e2] at hS2;refine Rb ⟨Rq PyProof.Rows.F.plain_set_update_loop _,ih (i + 1) _ (by omega) hlt (W.frame _ s' _ _ st' (Nat.le_succ _) fun b hb o e=>?_) hS2 fun s'' hm'' hS''=>?_⟩
  .rw [sb.2 b (fun h:b=S=>hSf (by rw [<- h];exact hb))];exact e
  .refine hR s'' (Moved.trans W.gtrans ((hm.mono hsub).then_heap (Nat.le_succ _) fun b o hb e=>?_) hm'') hS'';rw [sb.2 b (fun h:b=S=>hb (by rw [h];exact Qau))];exact e
end
end TS
namespace TS
open PySem PyProof.Rows PySem.Spec
abbrev btOf (w:Ak):Bool:=w.params.followText "set-order"
abbrev lX (w:Ak):Obj:={ cls:=.type "set",dict:=none,data:=.set #[] 0 (.fresh 0 0 (!btOf w)) }
section
variable {prog:Aj}{w:Ak}{A:Ai}{E:Ad->Ac->Prop}{s:Ac}
theorem Z6C (a:Ad) {Z:Ad->Ac->Prop}(h:Z (.ref s.heap.objs.size) { s with heap:=s.heap.push (lX w) }):codeAny (model prog w) A (.call (.builtin "set.__new__") ⟨[.type "set",a],[]⟩) (wants Z E) s:=by
 refine codeAny_of_tree (show wpAny _ A.in1 (checkBuiltinCall "set.__new__" ⟨[.type "set",a],[]⟩ >>= fun _=>again (.builtin "set.__new__" ⟨[.type "set",a],[]⟩)) _ _ s from ?_)
 refine Ra (Rj (PySem.F.newCall_set_1 a) (Rb ⟨Rq PySem.F.plain_set_new _,Rn PySem.F.entry_set_new ?_⟩));rw [Around.under_plainId PySem.F.plain_set_new _];unfold Builtin.«set.__new__» Builtin.Frozenset.newClass;have hs1:=sub_set_self;obtain⟨hp,g,d,tk,os⟩:=s;dsimp only
 wp_walk
 refine Rm (Rb ?_);dsimp only;simp only [newObj];exact Ra (wpAny_alloc (Rb (Rb h)))
set_option maxHeartbeats 3200000 in
theorem w_set {l:Af}{items:Ae Ad}{ns:Ab Int}{Q:Ad->Ac->Prop}(hh:A.handled=none) (hl:s.heap.IsList l items) (hi:IntsAre items.toList ns) (hb:items.size + 1 < scanBound)
  (h:∀ (h':Ah) (tk:Nat),SB prog w (btOf w) h' s.heap.objs.size (dedI ns)->(∀ b o,b < s.heap.objs.size->s.heap.get? b=some o->h'.get? b=some o)->Q (.ref s.heap.objs.size) { s with heap:=h',toks:=tk }) :
  wpAny (model prog w) A (call (.type "set") [.ref l]) Q E s:=by
 have hns:ns.length=items.size:=by rw [<- IntsAre.length hi,Qak]
 obtain⟨c,tl,hmro⟩:=PySem.F.called_set.mro;have hmade:=PySem.F.called_set.made;have hsub:=PySem.F.called_set.sub;refine wpAny_call (codeAny_of_tree (show wpAny _ _ (callAny (.type "set") _) _ _ _ from ?_))
 refine Rb ⟨Code.quiet_builtin _ (by decide +kernel),Rn PySem.F.entry_type_call ?_⟩;rw [Around.under_plain (weight_type_call_type "set" [.ref l] []) rfl];have h1:=PySem.F.called_set.notType;have h2:=PySem.F.called_set.canCreate;have h3:=PySem.F.typeCall_set_1 (.ref l)
 repeat (any_goals first | assumption | wp_step)
 refine Ro (Z6C (.ref l) (E:=E) (Z:=fun v s₁=>v=.ref s.heap.objs.size /\ s₁={ s with heap:=s.heap.push (lX w) }) ⟨rfl,rfl⟩) fun r s₁ hr=>?_;cases r with
 | error e=>exact hr
 | ok fl =>
  cases fl with
  | ret obj =>
   obtain⟨rfl,rfl⟩:=hr;have hS:(s.heap.push (lX w)).get? s.heap.objs.size=some (lX w):=Qan _ rfl;have hT:Shared.TypeIs { s with heap:=s.heap.push (lX w) } (.ref s.heap.objs.size) "set":=⟨_,hS,rfl⟩;have h4:=PySem.F.called_set.init.lookup;have h5:=PySem.F.called_set.init.bind (.ref s.heap.objs.size)
   repeat (any_goals first | assumption | wp_step)
   refine Ro (codeAny_call_builtin (R:=wants (fun r s₂=>r=.none /\ ∃ h' tk,s₂={ s with heap:=h',toks:=tk } /\ SB prog w (btOf w) h' s.heap.objs.size (dedI ns) /\ (∀ b o,b < s.heap.objs.size->s.heap.get? b=some o->h'.get? b=some o)) E)
    PySem.F.called_set.init.plain PySem.F.entry_set_init (check_set_init_1 hT ?_)) fun r₂ s₂ hr₂=>?_
   .obtain⟨ol,hol,hcl,nl,hdl⟩:=hl;obtain⟨ocls,odict,odata,oslots⟩:=ol;cases (show ocls=_ from hcl)
    cases (show odata=_ from hdl)
    have hol':(s.heap.push (lX w)).get? l=some { cls:=.type "list",dict:=odict,data:=.seq items nl,slots:=oslots }:=Qab _ hol;have h6:=PySem.F.sub_list_set;have h7:=PySem.F.sub_list_frozenset;have h8:(Value.type "list" == Value.type "dict")=false:=by decide
    have hl1:(s.heap.push (lX w)).IsList l items:=⟨_,hol',rfl,nl,rfl⟩;unfold Builtin.«set.__init__» noKeywords Builtin.Frozenset.updateFrom;generalize hPI:pyIter=PI
    wp_walk
    subst hPI;refine wpAny_pyIter_list hl1 (Ra (wpAny_runValue ?_));have hlS:l < s.heap.objs.size:=Qah hol;have hsz:(s.heap.push (lX w)).objs.size=s.heap.objs.size + 1:=size_push' _ _;have hne:l ≠ (s.heap.push (lX w)).objs.size:=by rw [hsz];exact QaA (Qa3 hlS)
    have hSf:s.heap.objs.size ∉ [(s.heap.push (lX w)).objs.size,l]:=by
     rw [hsz];simp only [Qaf,Qbn,or_false,not_or];exact⟨QaA (Qbz _),Nat.ne_of_gt hlS⟩
    refine Z7E (bt:=btOf w) ((Walks.list (by simp [hh]) _ l hne items).toS) s.heap.objs.size hSf ns hns (fun i v hv=>IntsAre.int_at hi i v (by rw [Qax];exact hv)) hb (items.size - 0) 0 _ (by omega) (Qbm _)
     ⟨⟨_,Qan _ rfl,rfl,rfl⟩,hl1.push _⟩ ?_ ?_
    .exact⟨lX w,#[],0,_,Qab _ hS,⟨rfl,rfl,rfl⟩,rfl,(fun e he=>by cases he),Qbu _,by show 0 < scanBound;decide,rfl,rfl,rfl,fun _ i j x y _ hx=>by cases hx⟩
    .intro s' hm hS';obtain⟨h',g',d',tk',os'⟩:=s';cases (show g'=s.gens from hm.gens)
     cases (show d'=s.drawn from hm.drawn)
     cases (show os'=s.os from hm.os)
     refine (show wpAny _ _ _ _ _ _ from Rb (show wpAny _ _ (ret Value.none) _ _ _ from Rb ⟨rfl,h',tk',rfl,hS',fun b o hb e=>?_⟩))
     refine hm.heap b o ?_ (Qab _ (Qab _ e));rw [hsz];simp only [Qaf,Qbn,or_false,not_or];exact⟨QaA hb,QaA (Qa3 hb)⟩
   .cases r₂ with
    | error e=>exact hr₂
    | ok fl₂ =>
     cases fl₂ with
     | ret r =>
      obtain⟨rfl,h',tk,rfl,hS',hk'⟩:=hr₂
      repeat (any_goals first | assumption | wp_step)
      exact h _ _ hS' hk'
     | _=>exact hr₂.elim
  | _=>exact hr.elim
end
end TS
namespace TS
open PySem PyProof.Rows PySem.Spec
theorem si_next:Slot "set_iterator" "__next__" "set_iterator.__next__":=.of (owner := "set_iterator") (n := "__next__") (by rw [typeLookup_type,builtinLookup_eq_fast];kernel_rfl) (by decide +kernel) (by decide +kernel) (by decide +kernel) (by first | exact .inl (by decide +kernel) | exact .inr (by decide +kernel)) (by rw [isSubtype_type];kernel_rfl)
theorem Z0m:Slot "set_iterator" "__iter__" "set_iterator.__iter__":=.of (owner := "set_iterator") (n := "__iter__") (by rw [typeLookup_type,builtinLookup_eq_fast];kernel_rfl) (by decide +kernel) (by decide +kernel) (by decide +kernel) (by first | exact .inl (by decide +kernel) | exact .inr (by decide +kernel)) (by rw [isSubtype_type];kernel_rfl)
theorem K2:entryFor table "set_iterator.__next__" = some Builtin.«set_iterator.__next__»:=entryFor_of_tree (by kernel_rfl)
theorem Z1d:entryFor table "set_iterator.__iter__" = some Builtin.«dict_keyiterator.__iter__»:=entryFor_alias (id' := "dict_keyiterator.__iter__") (by kernel_rfl) rfl (by decide +kernel) (by kernel_rfl)
theorem Z1c:entryFor table "set.__iter__" = some Builtin.«frozenset.__iter__»:=entryFor_alias (id' := "frozenset.__iter__") (by kernel_rfl) rfl (by decide +kernel) (by kernel_rfl)
theorem Z0n (a:Ad):argsOk "set_iterator.__next__" ⟨[a],[]⟩:=by unfold argsOk;kernel_rfl
theorem Z2I (a:Ad):argsOk "set_iterator.__iter__" ⟨[a],[]⟩:=by unfold argsOk;kernel_rfl
theorem wZ:∀ (l:Ab α) (i:Nat) (h:i < l.length),(l[i] :: l.eraseIdx i).Perm l
 | [],i,h=>absurd h (Nat.not_lt_zero _)
 | x :: l,0,h=>Qbu _
 | x :: l,i + 1,h=>(List.Perm.swap _ _ _).trans (List.Perm.cons x (wZ l i (Nat.lt_of_succ_lt_succ h)))
theorem Z0A (f:Nat->Nat):∀ (n k:Nat) (l:Ab α) (o:Ae α),l.length=n->(pickOrder.go f n k l o).toList.Perm (o.toList ++ l)
 | 0,k,l,o,h=>by
  rw [Qa9 h,QaH];exact Qbu _
 | n + 1,k,l,o,h=>by
  unfold pickOrder.go;have hi:f k % l.length < l.length:=Nat.mod_lt _ (by omega);rw [Qad hi];dsimp only;refine (Z0A f n (k + 1) _ _ (by rw [List.length_eraseIdx_of_lt hi];omega)).trans ?_;rw [QbE,QaK];exact List.Perm.append_left _ (wZ _ _ hi)
theorem Z1x (f:Nat->Nat) (xs:Ae α):(pickOrder f xs).toList.Perm xs.toList:=by
 have:=Z0A f xs.size 0 xs.toList #[] (by rw [Qak]);exact this
theorem Z2v:∀ (n:Nat) (l:Ab α) (s:Ac) {Q:Ab α->Ac->Prop},l.length=n->(∀ l' d',l'.Perm l->Q l' { s with drawn:=d' })->wpAny (model prog w) A (drawOrder n l) Q E s
 | 0,l,s,Q,h,q=>by
  have e:=Qa9 h;subst e;unfold drawOrder;exact Rb (q [] s.drawn (Qbu _))
 | n + 1,[],s,Q,h,q=>by cases h
 | n + 1,x :: l,s,Q,h,q=>by
  unfold drawOrder;refine Ra (show wpAny (model prog w) A (choose .order (x :: l).length) _ E s from fun Γ p hΓ=>⟨by rw [Qal];exact Nat.succ_ne_zero _,?_⟩)
  refine (show wpAny (model prog w) A _ Q E { s with drawn:=s.drawn.bump .order } from ?_)
  have hi:(model prog w).w.draws .order (s.drawn.get .order) % (x :: l).length < (x :: l).length:=Nat.mod_lt _ (by rw [Qal];omega);generalize (model prog w).w.draws .order (s.drawn.get .order) % (x :: l).length=i at hi;rw [Qad hi];dsimp only;refine Ra (Z2v n _ _ (by rw [List.length_eraseIdx_of_lt hi];omega) fun l' d' hp=>Rb (q _ d' ?_));exact (List.Perm.cons _ hp).trans (wZ _ _ hi)
def slT (p:Ae Nat):Nat->Nat
 | 0=>0
 | k + 1=>p.getD k 0 + 1
theorem Z4s (hR:yF p) {i:Nat}(hi:i <= p.size):SetTable.below p (slT p i)=i:=by
 obtain⟨b1,b2,b3⟩:=Q1 hR (slT p i);have hat:∀ k,k < p.size->p[k]? = some (p.getD k 0):=fun k hk=>by
  rw [Array.getD_eq_getD_getElem?,RE p k hk];rfl
 generalize hb:SetTable.below p (slT p i)=b at b1 b2 b3;cases i with
 | zero =>
  rcases Nat.eq_zero_or_pos b with e | e
  .exact e
  .exact absurd (b2 0 _ e (hat 0 (by omega))) (Nat.not_lt_zero _)
 | succ k =>
  have hs:slT p (k + 1)=p.getD k 0 + 1:=rfl;rw [hs] at b2 b3;rcases Nat.lt_trichotomy b (k + 1) with q | q | q
  .have h1:=b3 b _ (Qag _) (hat b (by omega));rcases Nat.lt_or_ge b k with r | r
   .have:=hR b k _ _ r (hat b (by omega)) (hat k (by omega));omega
   .have e:b=k:=by omega
    subst e;omega
  .exact q
  .have h1:=b2 (k + 1) _ q (hat (k + 1) (by omega));have:=hR k (k + 1) _ _ (by omega) (hat k (by omega)) (hat (k + 1) (by omega));omega
theorem Z4A (ho:s.heap.get? a=some o) (hd:o.data=.set es ep t) (hf:t.fits es.size=true) (hb:btOf w=false) (hl:t.led=true) (hp:t.plain=true \/ es.size <= 1) (hR:yF t.place) (hi:i <= es.size)
  (h:Q (es[i]?.map fun e=>(e.2,slT t.place (i + 1))) s):wpAny (model prog w) A (setNext a (slT t.place i) i ep) Q E s:=by
 have hz:t.place.size=es.size:=by
  unfold SetTable.fits at hf;exact beq_iff_eq.mp (Bool.and_eq_true_iff.mp hf).1
 unfold setNext setsByText;refine Ra (Ri ho hd hf (Ra (Ra (Rm (Rb ?_)))));dsimp only;refine Rf (fun hc=>absurd (show btOf w=true from hc) (by rw [hb];decide)) fun _=>?_
 refine Rf (fun hc=>absurd (show (!t.plain && decide (es.size > 1))=true from hc) ?_) fun _=>?_
 .rcases hp with hp | hp
  .rw [hp];simp
  .rw [show decide (es.size > 1)=false from Ry (by omega),Bool.and_false];decide
 refine Ra (show wpAny (model prog w) A (if (!t.led && !es.isEmpty)=true then unsupported "set:maker-not-led" else pure PUnit.unit) _ E s from ?_)
 rw [hl,if_neg (by simp)];refine Rb ?_;rw [Z4s hR (by omega)];refine Rb ?_;rcases Nat.lt_or_ge i es.size with q | q
 .have e1:t.place[i]? = some (t.place.getD i 0):=by rw [Array.getD_eq_getD_getElem?,RE t.place i (by omega)];rfl
  rw [RE es i q] at h ⊢;rw [e1];exact h
 .rw [Array.getElem?_eq_none q] at h ⊢;exact h
theorem Z4z (ho:s.heap.get? a=some o) (hd:o.data=.set es ep t) (hf:t.fits es.size=true) (hb:btOf w=true)
  (h:Q ((pickOrder (w.params.setOrder a ep) es)[i]?.map fun e=>(e.2,sl)) s):wpAny (model prog w) A (setNext a sl i ep) Q E s:=by
 unfold setNext setsByText;refine Ra (Ri ho hd hf (Ra (Ra (Rm (Rb ?_)))));dsimp only;refine Rf (fun _=>?_) fun hc=>absurd (show btOf w=true from hb) hc
 refine Rf (fun hc=>absurd hc (by simp)) fun _=>?_;unfold setWalk setsByText;refine Ra (Ra (Ri ho hd hf (Ra (Ra (Rm (Rb ?_))))));dsimp only;refine Rf (fun _=>?_) fun hc=>absurd (show btOf w=true from hb) hc
 refine Ra (Rm (Rb (Rb h)))
end TS
namespace TS
open PySem PyProof.Rows PySem.Spec
def SIt (h:Ah) (I a:Af) (x:Ad) (i n ep:Nat):Prop:=∃ o,h.get? I=some o /\ o.cls=.type "set_iterator" /\ o.data=.fields #[x,.int i 0,.ref a,.int n 0,.int ep 0]
theorem SIt.typeIs {s:Ac}(h:SIt s.heap I a x i n ep):s.TypeIs (.ref I) "set_iterator":=let ⟨o,ho,hc,_⟩:=h;⟨o,ho,hc⟩
theorem SIt.keep (z:SIt h I a x i n ep) (k:∀ o,h.get? I=some o->h'.get? I=some o):SIt h' I a x i n ep:=let ⟨o,ho,r⟩:=z;⟨o,k o ho,r⟩
theorem tP {x:Ad}(h:SIt s.heap I a x i n ep) (q:Q (.ref I) s):wpAny (model prog w) A (pyIter (.ref I)) Q E s:=by
 refine wpAny_pyIter_slot h.typeIs Z0m (Rh Z0m h.typeIs Z1d (show wpAny _ _ (ret (.ref I)) _ _ s from ?_) (Z2I _))
 exact Rb ⟨_,rfl,"set_iterator",_,h.typeIs,si_next.lookup,q⟩
theorem K0 {sl i n:Nat}(hh:A.handled=none) (hit:SIt s.heap I a (.int sl 0) i n ep) (ho:s.heap.get? a=some o) (hd:o.data=.set es ep t) (hf:t.fits es.size=true) (hn:es.size=n)
  (hN:∀ (E':Ad->Ac->Prop) (Q':Aa (Ad × Nat)->Ac->Prop),Q' r s->wpAny (model prog w) A.in1 (setNext a sl i ep) Q' E' s)
  (h1:∀ x nx,r=some (x,nx)->∀ h',Heap.SameBut I s.heap h'->SIt h' I a (.int nx 0) (i + 1) n ep->Q (some x) { s with heap:=h' })
  (h2:r=none->∀ h',Heap.ExtBut I s.heap h'->Q none { s with heap:=h' }):wpAny (model prog w) A (pyNext (.ref I)) Q E s:=by
 obtain⟨oi,hoi,hci,hdi⟩:=id hit;unfold pyNext;refine Ra (wpAny_attempt (wpAny_callSpecial?_slot (name:=Str.ofString "__next__") hit.typeIs si_next (Rh si_next hit.typeIs K2 ?_ (Z0n _))));unfold Builtin.«set_iterator.__next__»;refine Ra (m:=slotArgs "__next__" 0 _) (Rb ?_);refine Ra (wpAny_fieldsOf hoi hdi ?_);dsimp only;refine Ra (wpAny_setEntries_of ho hd hf ?_);refine Rf (fun hc=>absurd hc (by rw [hn];simp)) fun _=>?_;rw [Qat,Qat,Qat];refine Ra (hN _ _ ?_);cases r with
 | none =>
  dsimp only;refine Ra (Rp hoi hdi (by simp) ?_);refine Ra ?_;simp only [newExc,newTuple];refine Ra (Re ?_ (by size_fits));refine Ra (m:=firstArgMember _ _) (Rj (a:=Value.none) (by first | rfl | (simp only [firstArgMember];rfl)) ?_)
  refine Re ?_ (by size_fits);simp only [raiseNew];refine Ra (wpAny_handled ?_);rw [show A.in1.handled=none from hh]
  refine Ra (Rb (wpAny_throw ?_));refine Ra (wpAny_isInstance (T := "StopIteration") (b:=true) ⟨_,Qan _ rfl,rfl⟩ isSubtype_stop ?_);exact Rb (h2 rfl _ (((Qbj ..).extBut.push _).push _))
 | some p =>
  obtain⟨x,nx⟩:=p;dsimp only;refine Ra (Rp hoi hdi (by simp) ?_);have g1:=Qbo (Obj.mapFields (·.setIfInBounds 0 (rawInt (nx:Int)))) hoi (Obj.isFreed_of_fields (Obj.data_mapFields hdi _));refine Ra (Rp g1 (Obj.data_mapFields hdi _) (by simp) ?_);refine Rb ⟨_,rfl,Rb (h1 x nx rfl _ ((Qbj ..).trans (Qbj ..)) ⟨_,Qbo _ g1 (Obj.isFreed_of_fields (Obj.data_mapFields (Obj.data_mapFields hdi _) _)),?_,?_⟩)⟩
  .exact (Obj.cls_mapFields ..).trans ((Obj.cls_mapFields ..).trans hci)
  .rw [Obj.data_mapFields (Obj.data_mapFields hdi _)];simp [rawInt]
theorem K1 {T:Af}{pl:Ab Nat}(hh:A.handled=none) (hit:SIt s.heap I a (.ref T) i n ep) (hT:s.heap.get? T=some oT) (hTd:oT.data=.seq (pl.map fun (k:Nat)=>rawInt k).toArray c) (ho:s.heap.get? a=some o) (hd:o.data=.set es ep t) (hf:t.fits es.size=true) (hn:es.size=n)
  (hp:∀ k ∈ pl,k < es.size)
  (h1:∀ k x,pl[i]? = some k->(es[k]?).map (·.2)=some x->∀ h',Heap.SameBut I s.heap h'->SIt h' I a (.ref T) (i + 1) n ep->Q (some x) { s with heap:=h' })
  (h2:pl[i]? = none->∀ h',Heap.ExtBut I s.heap h'->Q none { s with heap:=h' }):wpAny (model prog w) A (pyNext (.ref I)) Q E s:=by
 obtain⟨oi,hoi,hci,hdi⟩:=id hit;unfold pyNext;refine Ra (wpAny_attempt (wpAny_callSpecial?_slot (name:=Str.ofString "__next__") hit.typeIs si_next (Rh si_next hit.typeIs K2 ?_ (Z0n _))));unfold Builtin.«set_iterator.__next__»;refine Ra (m:=slotArgs "__next__" 0 _) (Rb ?_);refine Ra (wpAny_fieldsOf hoi hdi ?_);dsimp only;refine Ra (wpAny_setEntries_of ho hd hf ?_);refine Rf (fun hc=>absurd hc (by rw [hn];simp)) fun _=>?_;rw [Qat,Qat];refine Ra (show wpAny (model prog w) A.in1 (seqItems? (.ref T)) _ _ s from ?_)
 unfold seqItems?;refine Ra (wpAny_load hT ?_);rw [hTd];refine Rb ?_;dsimp only;rw [List.getElem?_toArray,Qas];cases hk:pl[i]? with
 | none =>
  dsimp only [Option.map_none];refine Ra (Rp hoi hdi (by simp) ?_);have g1:=Qbo (Obj.mapFields (·.setIfInBounds 0 (rawInt 0))) hoi (Obj.isFreed_of_fields (Obj.data_mapFields hdi _));refine Ra (Rp g1 (Obj.data_mapFields hdi _) (by simp) ?_);refine Ra ?_;simp only [newExc,newTuple];refine Ra (Re ?_ (by size_fits));refine Ra (m:=firstArgMember _ _) (Rj (a:=Value.none) (by first | rfl | (simp only [firstArgMember];rfl)) ?_)
  refine Re ?_ (by size_fits);simp only [raiseNew];refine Ra (wpAny_handled ?_);rw [show A.in1.handled=none from hh]
  refine Ra (Rb (wpAny_throw ?_));refine Ra (wpAny_isInstance (T := "StopIteration") (b:=true) ⟨_,Qan _ rfl,rfl⟩ isSubtype_stop ?_);exact Rb (h2 hk _ ((((Qbj ..).trans (Qbj ..)).extBut.push _).push _))
 | some k =>
  have hlt:=hp k (QaI hk);dsimp only [Option.map_some,rawInt];rw [Qat];refine Ra (show wpAny (model prog w) A.in1 (setNextDrawn a k ep) _ _ s from ?_)
  unfold setNextDrawn;refine Ra (Ri ho hd hf ?_);dsimp only;refine Rf (fun hc=>absurd hc (by simp)) fun _=>?_;rw [RE es k hlt];dsimp only;refine Rb ?_;refine Ra (Rp hoi hdi (by simp) ?_);refine Rb ⟨_,rfl,Rb (h1 k _ hk (by rw [RE es k hlt];rfl) _ (Qbj ..) ⟨_,Qbo _ hoi (Obj.isFreed_of_fields (Obj.data_mapFields hdi _)),(Obj.cls_mapFields ..).trans hci,?_⟩)⟩;rw [Obj.data_mapFields hdi];simp
theorem Z7C (hh:A.handled=none) (hne:a ≠ I) (hd:o.data=.set es ep t) (hf:t.fits es.size=true) (sl:Nat->Nat) (xs:Ab Ad) (hx:xs.length=es.size)
  (hN:∀ (i:Nat) (s:Ac) (E':Ad->Ac->Prop) (Q':Aa (Ad × Nat)->Ac->Prop),i <= es.size->s.heap.get? a=some o->Q' (xs[i]?.map fun x=>(x,sl (i + 1))) s->wpAny (model prog w) A.in1 (setNext a (sl i) i ep) Q' E' s) :
  Walks prog w A I [I,a] [I] xs.length (fun i v=>xs[i]? = some v) (fun i h=>SIt h I a (.int (sl i) 0) i es.size ep /\ h.get? a=some o) where
 sub:=fun b hb=>by simp at hb;simp [hb]
 frame:=fun _ _ _ st hk=>⟨st.1.keep fun o e=>hk I (by simp) o e,hk a (by simp) o st.2⟩
 item:=fun i s Q E hi st hQ=>by
  refine K0 hh st.1 st.2 hd hf rfl (fun E' Q' q=>hN i s E' Q' (by omega) st.2 q) (fun x nx e h' sb sit=>?_) fun e=>?_
  .obtain⟨y,hy,e2⟩:=Option.map_eq_some_iff.mp e;cases e2;exact hQ x h' s.toks hy ⟨sit,by rw [sb.2 a hne];exact st.2⟩ fun b o hb e=>by rw [sb.2 b (by simpa using hb)];exact e
  .rw [Qad hi] at e;cases e
 done:=fun s Q E st hQ=>by
  refine K0 hh st.1 st.2 hd hf rfl (fun E' Q' q=>hN xs.length s E' Q' (by omega) st.2 q) (fun x nx e h' sb sit=>?_) fun e h' ex=>?_
  .rw [Qaw (Qag _)] at e;cases e
  .exact hQ h' s.toks fun b o hb e=>ex b o (by simpa using hb) e
 self:=fun _ _ _ _ st q=>tP st.1 q
theorem Z7D {pl:Ab Nat}(hh:A.handled=none) (hne:a ≠ I) (hneT:T ≠ I) (hTd:oT.data=.seq (pl.map fun (k:Nat)=>rawInt k).toArray c) (hd:o.data=.set es ep t) (hf:t.fits es.size=true) (hp:pl.Perm (List.range es.size)) :
  Walks prog w A I [I,a,T] [I] pl.length (fun i v=>∃ k,pl[i]? = some k /\ (es[k]?).map (·.2)=some v) (fun i h=>SIt h I a (.ref T) i es.size ep /\ h.get? a=some o /\ h.get? T=some oT) where
 sub:=fun b hb=>by simp at hb;simp [hb]
 frame:=fun _ _ _ st hk=>⟨st.1.keep fun o e=>hk I (by simp) o e,hk a (by simp) o st.2.1,hk T (by simp) oT st.2.2⟩
 item:=fun i s Q E hi st hQ=>by
  refine K1 hh st.1 st.2.2 hTd st.2.1 hd hf rfl (fun k hk=>Qa7.mp (hp.mem_iff.mp hk)) (fun k x e e2 h' sb sit=>?_) fun e=>?_
  .exact hQ x h' s.toks ⟨k,e,e2⟩ ⟨sit,by rw [sb.2 a hne];exact st.2.1,by rw [sb.2 T hneT];exact st.2.2⟩ fun b o hb e=>by rw [sb.2 b (by simpa using hb)];exact e
  .rw [Qad hi] at e;cases e
 done:=fun s Q E st hQ=>by
  refine K1 hh st.1 st.2.2 hTd st.2.1 hd hf rfl (fun k hk=>Qa7.mp (hp.mem_iff.mp hk)) (fun k x e e2 h' sb sit=>?_) fun e h' ex=>?_
  .rw [Qaw (Qag _)] at e;cases e
  .exact hQ h' s.toks fun b o hb e=>ex b o (by simpa using hb) e
 self:=fun _ _ _ _ st q=>tP st.1 q
end TS
namespace TS
open PySem PyProof.Rows PySem.Spec
theorem X9 {l xs:Ab Ad}(hl:l.length=xs.length) (h:∀ (j:Nat) v,l[j]? = some v->xs[j]? = some v):l=xs:=by
 apply List.ext_getElem?;intro j;cases e:l[j]? with
 | some v=>exact (h j v e).symm
 | none=>rw [Qaw (by have:=List.getElem?_eq_none_iff.mp e;omega)]
section
variable {prog:Aj}{w:Ak}{A:Ai}{E:Ad->Ac->Prop}{s:Ac}{a:Af}{vs:Ab Int}
theorem SB.typeIs (h:SB prog w (btOf w) s.heap a vs):s.TypeIs (.ref a) "set":=let ⟨o,_,_,_,ho,hc,_⟩:=h;⟨o,ho,hc.1⟩
theorem Z0J (hel:ElemsOf (intKind prog w) es.toList) {l:Ab Ad}(hl:l.Perm (es.toList.map (·.2))) (hv:(esI es).Perm vs):IntsAre l (l.map numOf) /\ (l.map numOf).Perm vs:=by
 refine⟨intsAre_map l fun v h=>?_,((hl.map numOf).trans ?_).trans hv⟩
 .obtain⟨e,he,rfl⟩:=QaM.mp (hl.mem_iff.mp h);obtain⟨t,e1⟩:=Z4h hel he;exact⟨_,t,e1⟩
 .rw [QaW];exact Qbu _
theorem Z6D {Q:Ad->Ac->Prop}(hS:SB prog w (btOf w) s.heap a vs) (hh:A.handled=none)
  (h:∀ (I:Af) (hp:Ah) (d':Drawn) (fp:Ab Af) (P:Nat->Ad->Prop) (St:Nat->Ah->Prop),(∀ c o,s.heap.get? c=some o->hp.get? c=some o)->(∀ b ∈ fp,b=a \/ s.heap.objs.size <= b)->s.heap.objs.size <= I->s.heap.objs.size < hp.objs.size ->
   Walks prog w A I fp [I] vs.length P St->St 0 hp->(∀ l:Ab Ad,l.length=vs.length->(∀ (j:Nat) v,l[j]? = some v->P j v)->IntsAre l (l.map numOf) /\ (l.map numOf).Perm vs)->Q (.ref I) { s with heap:=hp,drawn:=d' }) :
  wpAny (model prog w) A (pyIter (.ref a)) Q E s:=by
 obtain⟨o,es,ep,t,ho,hex,hd,hel,hvs,hb,hf,hT⟩:=id hS;have hz:es.size=vs.length:=by have:=hvs.length_eq;unfold esI at this;rwa [Qaa,Qak] at this
 have lt:=Qah ho;refine wpAny_pyIter_slot hS.typeIs PySem.F.slot_set_iter (Rh PySem.F.slot_set_iter hS.typeIs Z1c ?_ (PySem.F.args_set_iter_1 _));unfold Builtin.«frozenset.__iter__»;refine Ra (m:=Builtin.Frozenset.slot0 _ _) (Rb ?_);refine Ra (show wpAny (model prog w) A.in1 (Builtin.Frozenset.sizeOf a) _ _ s from ?_)
 unfold Builtin.Frozenset.sizeOf;refine Ra (wpAny_setEntries_of ho hd hf (Rb ?_));refine Ra (show wpAny (model prog w) A.in1 (setDrawn a) _ _ s from ?_)
 unfold setDrawn setsByText;refine Ra (Ri ho hd hf (Ra (Ra (Rm (Rb ?_)))));dsimp only;refine Rb ?_;refine Rf (fun hc=>?_) fun hc=>?_
 .have hc':(!btOf w && (!t.plain && decide (es.size > 1)))=true:=hc;refine Ra (Z2v es.size (List.range es.size) s (by rw [QaJ]) fun pl d' hpl=>?_);refine Ra (wpAny_newTuple ?_ (by rw [Qaa,hpl.length_eq,QaJ];exact fits_of_scanBound hb));unfold setEpoch;refine Ra (Ra (Ri (s:={ s with heap:=_,drawn:=d' }) (Qab _ ho) hd hf (Rb ?_)));dsimp only;refine Ra (Re (Rb ⟨_,rfl,"set_iterator",_,⟨_,Qan _ rfl,rfl⟩,si_next.lookup,?_⟩));have hlp:pl.length=vs.length:=by rw [hpl.length_eq,QaJ,hz]
  have e1:(s.heap.push (seqObj "tuple" (pl.map fun (k:Nat)=>rawInt k).toArray 0)).objs.size=s.heap.objs.size + 1:=size_push' _ _;have W:=Z7D (prog:=prog) (w:=w) (A:=A) (I:=s.heap.objs.size + 1) (a:=a) (T:=s.heap.objs.size) (oT:=seqObj "tuple" (pl.map fun (k:Nat)=>rawInt k).toArray 0) hh (QaA (Qa3 lt)) (QaA (Qbz _)) rfl hd hf hpl;rw [hlp] at W;refine (show Q (.ref (s.heap.push (seqObj "tuple" (pl.map fun (k:Nat)=>rawInt k).toArray 0)).objs.size) _ from ?_)
  rw [e1];refine h _ _ d' _ _ _ (fun c o e=>Qab _ (Qab _ e)) (fun b hb=>?_) (Nat.le_succ _) ?_ W ⟨⟨{ cls:=.type "set_iterator",data:=.fields #[.ref s.heap.objs.size,rawInt 0,.ref a,rawInt (es.size:Nat),rawInt ep] },?_,rfl,rfl⟩,Qab _ (Qab _ ho),Qab _ (Qan _ rfl)⟩ fun l hl hP=>?_
  .simp only [Qaf,Qbn,or_false] at hb;rcases hb with rfl | rfl | rfl
   .exact .inr (Nat.le_succ _)
   .exact .inl rfl
   .exact .inr (Qag _)
  .rw [size_push'];exact Qa3 (by rw [e1];exact Qbz _)
  .rw [<- e1];exact Qan _ rfl
  .refine Z0J hel ?_ hvs;have e2:l=pl.map fun k=>(es.toList.map (·.2)).getD k .none:=by
    refine X9 (by rw [Qaa,hl,hlp]) fun j v hv=>?_;obtain⟨k,k1,k2⟩:=hP j v hv;rw [Qas,k1,Option.map_some,List.getD_eq_getElem?_getD,Qas,Qax,k2];rfl
   have e3:es.toList.map (·.2)=(List.range es.size).map fun k=>(es.toList.map (·.2)).getD k .none:=by
    refine (X9 (by rw [Qaa,Qaa,QaJ,Qak]) fun j v hv=>?_).symm;rw [Qas] at hv;obtain⟨k,k1,k2⟩:=Option.map_eq_some_iff.mp hv;have hj:=(Qac.mp k1).1;rw [List.getElem?_range (by simpa using hj)] at k1;cases k1;rw [QaJ] at hj;have:(es.toList.map (·.2))[j]? = some ((es.toList.map (·.2))[j]'(by simpa using hj)):=Qad _;rw [List.getD_eq_getElem?_getD,this] at k2;rw [this];exact congrArg some k2
   rw [e2];exact (hpl.map _).trans (by rw [<- e3])
 .have hc':¬ (!btOf w && (!t.plain && decide (es.size > 1)))=true:=hc;refine Ra (Rb ?_);unfold setEpoch;refine Ra (Ra (Ri ho hd hf (Rb ?_)));dsimp only;refine Ra (Re (Rb ⟨_,rfl,"set_iterator",_,⟨_,Qan _ rfl,rfl⟩,si_next.lookup,?_⟩));have go:∀ (sl:Nat->Nat) (xs:Ab Ad),sl 0=0->xs.Perm (es.toList.map (·.2))->(∀ (i:Nat) (s:Ac) (E':Ad->Ac->Prop) (Q':Aa (Ad × Nat)->Ac->Prop),i <= es.size->s.heap.get? a=some o->Q' (xs[i]?.map fun x=>(x,sl (i + 1))) s->wpAny (model prog w) A.in1 (setNext a (sl i) i ep) Q' E' s) ->
    Q (.ref s.heap.objs.size) { s with heap:=s.heap.push { cls:=.type "set_iterator",data:=.fields #[rawInt 0,rawInt 0,.ref a,rawInt (es.size:Nat),rawInt ep] } }:=fun sl xs h0 hxp hN=>by
   have hxl:xs.length=es.size:=by rw [hxp.length_eq,Qaa,Qak]
   have W:=Z7C (prog:=prog) (w:=w) (A:=A) (I:=s.heap.objs.size) (a:=a) hh (QaA lt) hd hf sl xs hxl hN;rw [hxl,hz] at W;refine h _ _ s.drawn _ _ _ (fun c o e=>Qab _ e) (fun b hb=>?_) (Qag _) (by rw [size_push'];exact Qbz _) W ⟨⟨_,Qan _ rfl,rfl,?_⟩,Qab _ ho⟩ fun l hl hP=>?_
   .simp only [Qaf,Qbn,or_false] at hb;rcases hb with rfl | rfl
    .exact .inr (Qag _)
    .exact .inl rfl
   .rw [h0];simp [rawInt,hz]
   .have e:l=xs:=X9 (by omega) hP;rw [e];exact Z0J hel hxp hvs
  cases hbt:btOf w with
  | true =>
   refine go (fun _=>0) ((pickOrder (w.params.setOrder a ep) es).toList.map (·.2)) rfl ((Z1x _ _).map _) fun i s E' Q' hi ho' q=>Z4z ho' hd hf hbt ?_;rw [Qas,Qax,Option.map_map] at q;exact q
  | false =>
   have hpl:t.plain=true \/ es.size <= 1:=by
    rw [hbt] at hc';cases hpp:t.plain with
    | true=>exact .inl rfl
    | false =>
     rw [hpp] at hc';right;have:¬ es.size > 1:=fun hg=>hc' (by simp [hg]);omega
   have hzp:t.place.size=es.size:=by
    unfold SetTable.fits at hf;exact beq_iff_eq.mp (Bool.and_eq_true_iff.mp hf).1
   have hR:yF t.place:=by
    rcases hpl with hp | hp
    .exact hT.rise hp
    .exact fun i j x y hij hx hy=>by have:=(Qa5.mp hy).1;omega
   refine go (slT t.place) (es.toList.map (·.2)) rfl (Qbu _) fun i s E' Q' hi ho' q=>Z4A ho' hd hf hbt (by rw [hT.led,hbt];rfl) hpl hR hi ?_;rw [Qas,Qax,Option.map_map] at q;exact q
end
end TS
namespace TS
open PySem PyProof.Rows PySem.Spec
theorem Z2K (hT:s.TypeIs (.ref a) "set") (h:Q false s):wpAny (model prog w) A (Builtin.List.listLengthHint (.ref a)) Q E s:=by
 unfold Builtin.List.listLengthHint;refine Ra (wpAny_specialOf hT PySem.F.slot_set_len.lookup ?_);generalize hid:("set.__len__" : String)=i0
 wp_delta
 rw [show splitId i0=some ("set","__len__") from by subst hid;decide +kernel]
 subst hid;refine Ra (wpAny_isInstance (T := "set") (b:=true) hT (by rw [isSubtype_type];kernel_rfl) ?_);refine Rf (fun no=>absurd no (by decide)) (fun _=>?_);refine Rf (fun _=>?_) (fun no=>absurd (by decide +kernel) no);refine Ra (wpAny_typeOf hT ?_);exact Rb h
theorem Z2u (hS:SB prog w (btOf w) s.heap a vs) (hh:A.handled=none) (S:Af) (hSa:S ≠ a) (res:Ad) (c₀:Nat) (hl:s.heap.get? S=some { cls:=.type "list",data:=.seq #[] c₀ }) (hz:vs.length <= sizeLine)
  (hR:∀ (hp:Ah) (tk:Nat) (d':Drawn) (acc:Ae Ad) (c':Nat),(∀ b o,b ≠ S->s.heap.get? b=some o->hp.get? b=some o)->hp.get? S=some { cls:=.type "list",dict:=none,data:=.seq acc c',slots:=#[] }->IntsAre acc.toList (acc.toList.map numOf)->(acc.toList.map numOf).Perm vs ->
   R (.ok (.ret res)) { s with heap:=hp,drawn:=d',toks:=tk }) :
  wpAny (model prog w) A.in1 (Builtin.List.listExtendWith (.ref S) (.ref a) res) (fun fin s'=>match fin with | .done f=>R (.ok f) s' | .again c'=>c'.quiet=true /\ codeAny (model prog w) A c' R s') (fun e s'=>R (.error e) s') s:=by
 unfold Builtin.List.listExtendWith;refine Ra (wpAny_typeOf (T := "set") hS.typeIs ?_);have h1:Builtin.List.listSameRef (.ref S) (.ref a)=false:=by simp [Builtin.List.listSameRef,hSa]
 simp only [h1,show (Value.type "set" == Value.type "list")=false from by decide,show (Value.type "set" == Value.type "tuple")=false from by decide,Bool.or_false,Qbb,RD]
 refine Ra (Z6D (A:=A.in1) hS hh fun I hp d' fp P St kept fps leI ltp W st0 its=>?_);have ltS:=Qah hl;have hSf:S ∉ fp:=fun hm=>by
  rcases fps S hm with e | e
  .exact hSa e
  .exact absurd ltS (Nat.not_lt.mpr e)
 have hS':SB prog w (btOf w) hp a vs:=hS.keep fun o=>kept a o;refine Ra (Rg (Z2K (s:={ s with heap:=hp,drawn:=d' }) hS'.typeIs ?_));refine Rf (fun _=>?_) (fun no=>absurd (by decide) no);refine Ra (Rk (Ra ?_));have hl1:=kept S _ hl;refine (show wpAny (model prog w) A.in1 (updateSeq S (·.push .none) >>= fun _=>updateSeq S (·.pop)) _ _ { s with heap:=hp,drawn:=d' } from ?_)
 refine Ra (wpAny_updateSeq hl1 rfl ?_);have hl2:=Qbo (Obj.mapSeq (·.push Value.none)) hl1 rfl;refine wpAny_updateSeq (hz:=by seq_fits) hl2 rfl ?_;have hl3:=Qbo (Obj.mapSeq (·.pop)) hl2 rfl;have oth:∀ b o,b ≠ S->hp.get? b=some o->((hp.update S (Obj.mapSeq (·.push Value.none))).update S (Obj.mapSeq (·.pop))).get? b=some o:=fun b o hb e=>(Heap.get?_update_other _ _ (Ne.symm hb)).trans ((Heap.get?_update_other _ _ (Ne.symm hb)).trans e);refine Rb ⟨Rq PySem.F.plain_extend_loop _,?_⟩;refine codeAny_extend_loopS W.toS hz S hSf res vs.length 0 _ #[] _ rfl (Qbm _) (W.frame 0 _ _ st0 fun b hb o e=>oth b o (fun h=>hSf (h ▸ hb)) e) hl3 (ItemsOf.nil _) fun s' acc' c' hm at' hacc=>?_;rw [Moved.eq_with hm];obtain⟨q1,q2⟩:=its acc'.toList (by rw [Qak];exact hacc.1) fun j v hv=>hacc.2 j v (by rw [<- Qax];exact hv);exact hR s'.heap s'.toks d' acc' c' (fun b o hb e=>hm.heap b o (fun hmem=>by
  rcases Qaf.mp hmem with e' | hmem
  .exact hb e'
  .rw [QaF.mp hmem] at e;exact absurd (Qah e) (Nat.not_lt.mpr leI)) (oth b o hb (kept b o e))) at' q1 q2
theorem w_collect (hS:SB prog w (btOf w) s.heap a vs) (h0:A.handled=none) (hz:vs.length <= sizeLine)
  (fin:∀ (hp:Ah) (tk:Nat) (d':Drawn) (xs:Ab Ad),(∀ c o,s.heap.get? c=some o->hp.get? c=some o)->s.heap.objs.size < hp.objs.size->IntsAre xs (xs.map numOf)->(xs.map numOf).Perm vs->Z xs { s with heap:=hp,drawn:=d',toks:=tk }) :
  wpAny (model prog w) A (collect (.ref a)) Z E s:=by
 have la:a < s.heap.objs.size:=by obtain⟨o,_,_,_,ho,_⟩:=hS;exact Qah ho
 unfold collect;refine Ra (wpAny_runValue (Rn PyProof.Rows.entry_proto_collect' ?_));rw [Around.under_plainId PySem.F.plain_proto_collect _];refine (show wpAny (model prog w) A.in1 (newList [] >>= fun nl=>again (.builtin "list.__iadd__" ⟨[nl,.ref a],[]⟩)) _ _ s from ?_)
 refine Ra (Re (Rb ⟨Rq QbJ _,Rn PyProof.Rows.entry_list_iadd' ?_⟩));rw [Around.under_plainId QbJ _];have hN:(s.heap.push { cls:=.type "list",data:=.seq ([]:Ab Ad).toArray }).get? s.heap.objs.size=some { cls:=.type "list",data:=.seq #[] }:=Qan _ rfl;have ext:=Z2u (A:=A) (s:={ s with heap:=s.heap.push { cls:=.type "list",data:=.seq ([]:Ab Ad).toArray } })
  (R:=fun (q:Result) (t:Ac)=>q=.ok (.ret (.ref s.heap.objs.size)) /\ ∃ (hp:Ah) (tk:Nat) (d':Drawn) (acc:Ae Ad) (k:Nat),t={ s with heap:=hp,drawn:=d',toks:=tk } /\ (∀ c o,s.heap.get? c=some o->hp.get? c=some o) /\
   hp.get? s.heap.objs.size=some { cls:=.type "list",dict:=none,data:=.seq acc k,slots:=#[] } /\ IntsAre acc.toList (acc.toList.map numOf) /\ (acc.toList.map numOf).Perm vs)
  (hS.keep fun o e=>Qab _ e) h0 s.heap.objs.size (Nat.ne_of_gt la) (.ref s.heap.objs.size) 0 hN hz
  (fun hp tk d' acc k kept at' q1 q2=>⟨rfl,hp,tk,d',acc,k,rfl,fun c o e=>kept c o (QaA (Qah e)) (Qab _ e),at',q1,q2⟩)
 refine (show wpAny (model prog w) A.in1 (Builtin.List.listExtendWith (.ref s.heap.objs.size) (.ref a) (.ref s.heap.objs.size)) _ _ _ from ?_)
 refine Rc ext (fun out t hq=>?_) fun x t hq=>(by cases hq.1);cases out with
 | done fl =>
  obtain⟨e,hp,tk,d',acc,k,rfl,kept,at',q1,q2⟩:=hq;cases e;exact (show wpAny (model prog w) A (load s.heap.objs.size >>= _) _ _ _ from Ra (wpAny_load at' (Rb (fin hp tk d' acc.toList kept (Qah at') q1 q2))))
 | again code =>
  refine⟨hq.1,Ro hq.2 fun res t2 hr=>?_⟩;obtain⟨rfl,hp,tk,d',acc,k,rfl,kept,at',q1,q2⟩:=hr;exact (show wpAny (model prog w) A (load s.heap.objs.size >>= _) _ _ _ from Ra (wpAny_load at' (Rb (fin hp tk d' acc.toList kept (Qah at') q1 q2))))
end TS
namespace L2
open PySem PySem.Spec PyProof.Rows
abbrev Key:=Sum Int Str
def wQ:Key->Ad->Bool
 | .inl k,v=>Value.isInt k v
 | .inr x,v=>Value.isStrOf x v
def Z9l (w:Ak):Key->Int
 | .inl k=>hashInt k
 | .inr x=>hashStr w x
theorem dL:∀ {k:Key}{v:Ad},wQ k v=true->(∃ i t,k=Sum.inl i /\ v=Value.int i t) \/ (∃ x t,k=Sum.inr x /\ v=Value.str x t)
 | .inl i,v,h=>by
  obtain⟨t,e⟩:=Value.isInt_shape (k:=i) (v:=v) h;exact .inl ⟨i,t,rfl,e⟩
 | .inr x,v,h=>by
  obtain⟨t,e⟩:=Value.isStrOf_shape (x:=x) (v:=v) h;exact .inr ⟨x,t,rfl,e⟩
theorem Z1Y (i:Int) (t:Tok):wQ (.inl i) (.int i t)=true:=by simp [wQ,Value.isInt]
theorem Z1X (x:Str) (t:Tok):wQ (.inr x) (.str x t)=true:=by simp [wQ,Value.isStrOf]
theorem Z7l (a b:Int):decide ((Sum.inl a:Key)=Sum.inl b)=(a == b):=by
 by_cases e:a=b
 .subst e;simp
 .have h:¬ (Sum.inl a:Key)=Sum.inl b:=fun q=>e (Sum.inl.inj q);rw [Ry h];exact (beq_eq_false_iff_ne.mpr e).symm
theorem Z7i (a b:Str):decide ((Sum.inr a:Key)=Sum.inr b)=decide (a=b):=by
 by_cases e:a=b
 .subst e;simp
 .have h:¬ (Sum.inr a:Key)=Sum.inr b:=fun q=>e (Sum.inr.inj q);rw [Ry h,Ry e]
theorem Z7k (a:Int) (b:Str):decide ((Sum.inl a:Key)=Sum.inr b)=false:=Ry (fun q=>nomatch q)
theorem Z7j (a:Str) (b:Int):decide ((Sum.inr a:Key)=Sum.inl b)=false:=Ry (fun q=>nomatch q)
def fD (prog:Aj) (w:Ak):PySem.KeyKind prog w Key where
 is:=wQ
 hash:=Z9l w
 inj:=fun v a b ha hb=>by
  rcases dL ha with ⟨i,t,rfl,rfl⟩ | ⟨x,t,rfl,rfl⟩
  .rcases dL hb with ⟨j,u,rfl,e⟩ | ⟨y,u,rfl,e⟩
   .injection e with e1 _;rw [e1]
   .exact nomatch e
  .rcases dL hb with ⟨j,u,rfl,e⟩ | ⟨y,u,rfl,e⟩
   .exact nomatch e
   .injection e with e1 _;rw [e1]
 byValue := fun k v h => by
  rcases dL h with ⟨i,t,rfl,rfl⟩ | ⟨x,t,rfl,rfl⟩ <;> rfl
 pyHash:=fun hv h=>by
  rcases dL hv with ⟨i,t,rfl,rfl⟩ | ⟨x,t,rfl,rfl⟩
  .exact wpAny_pyHash_int h
  .exact wpAny_pyHash_str h
 eqBool:=fun hu hv h=>by
  rcases dL hu with ⟨i,t,rfl,rfl⟩ | ⟨x,t,rfl,rfl⟩
  .rcases dL hv with ⟨j,u,rfl,rfl⟩ | ⟨y,u,rfl,rfl⟩
   .rw [Z7l] at h;exact wpAny_eqBool_int h
   .rw [Z7k] at h;exact SeqAt.EqAt.int_str i t y u _ _ _ _ h
  .rcases dL hv with ⟨j,u,rfl,rfl⟩ | ⟨y,u,rfl,rfl⟩
   .rw [Z7j] at h;exact SeqAt.EqAt.str_int x t j u _ _ _ _ h
   .rw [Z7i] at h;exact wpAny_eqBool_str h
 «strs»:=fun k x t v h=>by
  rcases dL h with ⟨i,u,rfl,e⟩ | ⟨y,u,rfl,e⟩
  .exact nomatch e
  .injection e with e1 _;subst e1;cases v <;> rfl
theorem N2 (prog:Aj) (w:Ak) (i:Int) (t:Tok):(fD prog w).is (.inl i) (.int i t)=true:=Z1Y i t
theorem N1 (prog:Aj) (w:Ak) (x:Str) (t:Tok):(fD prog w).is (.inr x) (.str x t)=true:=Z1X x t
inductive V where
 | non | bl (b:Bool) | int (i:Int) | str (x:Str) | byt (b:Array UInt8) | flt (b:UInt64) | ref (a:Addr) | ty (n:String)
 deriving DecidableEq
def RelV:V->Ad->Prop
 | .non,u=>u=Value.none
 | .bl b,u=>u=Value.bool b
 | .int i,u=>∃ t,u=Value.int i t
 | .str x,u=>∃ t,u=Value.str x t
 | .byt b,u=>∃ t,u=Value.bytes b t
 | .flt b,u=>∃ t,u=Value.float b t
 | .ref a,u=>u=Value.ref a
 | .ty n,u=>u=Value.type n
abbrev Vals:Ab V->Ab Ad->Prop:=Paired RelV
theorem Vals.length (r:Vals xs us):xs.length=us.length:=Paired.length r
theorem Vals.get:∀ {xs:Ab V}{us:Ab Ad}{i:Nat}{x:V},Vals xs us->xs[i]? = some x->∃ u,us[i]? = some u /\ RelV x u
 | _,_,_,_,.nil,e=>by simp at e
 | _,_,0,_,.cons r _,e=>by simp at e;subst e;exact⟨_,rfl,r⟩
 | _,_,i + 1,x,.cons _ t,e=>by
  obtain⟨u,h1,h2⟩:=Vals.get (i:=i) (x:=x) t (by simpa using e);exact⟨u,by simpa using h1,h2⟩
theorem Vals.set (r:RelV x u):∀ {xs:Ab V}{us:Ab Ad}(i:Nat),Vals xs us->Vals (xs.set i x) (us.set i u)
 | _,_,_,.nil=>.nil
 | _,_,0,.cons _ t=>.cons r t
 | _,_,i + 1,.cons q t=>.cons q (Vals.set r i t)
theorem Vals.append:∀ {xs ys:Ab V}{us ws:Ab Ad},Vals xs us->Vals ys ws->Vals (xs ++ ys) (us ++ ws)
 | _,_,_,_,.nil,s=>s
 | _,_,_,_,.cons r t,s=>.cons r (Vals.append t s)
theorem Vals.take:∀ {xs:Ab V}{us:Ab Ad}(n:Nat),Vals xs us->Vals (xs.take n) (us.take n)
 | _,_,0,_=>.nil
 | _,_,_ + 1,.nil=>.nil
 | _,_,n + 1,.cons r t=>.cons r (Vals.take n t)
theorem Vals.drop:∀ {xs:Ab V}{us:Ab Ad}(n:Nat),Vals xs us->Vals (xs.drop n) (us.drop n)
 | _,_,0,r=>r
 | _,_,_ + 1,.nil=>.nil
 | _,_,n + 1,.cons _ t=>Vals.drop n t
def RelO:Aa V->Aa Ad->Prop
 | some v,some u=>RelV v u
 | none,none=>True
 | _,_=>False
def KV {κ:Type}:Ab (κ × V)->Ab (κ × Ad)->Prop:=Paired fun (p:κ × V) (q:κ × Ad)=>p.1=q.1 /\ RelV p.2 q.2
def kV:Key->V
 | .inl i=>.int i
 | .inr x=>.str x
inductive HO where
 /-- a list -/
 | lst (xs:List V)
 /-- a tuple (never changes) -/
 | tup (xs:List V)
 /-- a dict whose keys are ints and texts;one whose keys are tuples of ints and texts (the empty one is both) -/
 | dK (kvs:List (Key × V)) | dT (kvs:List (List Key × V))
 | dE (es:List (List Key × Addr × V)) (ep:Nat)
 | cod (q:Str)
 | sI (vs:List Int)
 /-- a set of ints: its members,its size -/
 | set (S:Int->Bool) (n:Nat)
 /-- an instance of the class at C,its dict at dx,its attributes -/
 | ins (C dx:Addr) (fs:List (Str × V))
 /-- the dict of the instance at x -/
 | own (x:Addr)
 /-- the dict of an exception -/
 | xd (fs:List (Str × V))
 /-- a bound method,f of x -/
 | met (f x:Addr)
 /-- a range object lo,lo + 1,.. below hi -/
 | rng (lo hi:Int)
 /-- a thing that is known to the object (the script;a dict while a loop walks it): read,never written while it is so -/
 | frz (o:Obj) (u:HO)
 /-- a code object's table -/
 | tbl (ps:Array (Pos × Str))
 /-- any other thing,by what is true of its one object (a def of one's own: SetO a S n:=HO.ext fun h=>..) -/
 | ext (φ:Heap->Prop)
abbrev Hp:=Af->Aa HO
def upd (H:Hp) (a:Af) (o:HO):Hp:=fun b=>if b=a then some o else H b
theorem bE:upd H a o a=some o:=by unfold upd;rw [if_pos rfl]
theorem aT (h:b ≠ a):upd H a o b=H b:=by unfold upd;rw [if_neg h]
theorem Z8z {H:Hp}(h:H a=some o) (h':H b=some u) (d:o ≠ u):a ≠ b:=by
 intro e;subst e;rw [h] at h';exact d (QaS h')
theorem aU {H:Hp}(h:H a=some o) (h':H b=none):a ≠ b:=by
 intro e;subst e;rw [h] at h';cases h'
section
variable (P:Aj)(w:Ak)
def ObjOk (H:Hp) (h:Ah) (a:Af):HO->Prop
 | .lst xs=>xs.length <= sizeLine /\ ∃ (its:Ab Ad) (n:Nat),Vals xs its /\ h.get? a=some { cls:=.type "list",data:=.seq its.toArray n }
 | .tup xs=>xs.length <= sizeLine /\ ∃ its:Ab Ad,Vals xs its /\ IsTup h a its.toArray
 | .dK kvs=>kvs.length <= sizeLine /\ (a == sysModules)=false /\ ∃ vs,KV kvs vs /\ h.DictOf (fD P w) a vs
 | .dT kvs=>kvs.length <= sizeLine /\ (a == sysModules)=false /\ ∃ xs:Ab (Ab Key × Af × Ad),
   Paired (fun (p:Ab Key × V) (q:Ab Key × Af × Ad)=>p.1=q.1 /\ H q.2.1=some (.tup (p.1.map kV)) /\ RelV p.2 q.2.2) kvs xs /\
   ∃ o es ep,h.get? a=some o /\ o.ExactDict /\ o.data=.dict es ep /\ es.toList=xs.map (entryOfKey (tupleKind (fD P w))) /\ (xs.map (·.1)).Nodup
 | .dE es ep=>es.length <= sizeLine /\ (a == sysModules)=false /\ ∃ xs:Ab (Ab Key × Af × Ad),Paired (fun (p:Ab Key × Af × V) (q:Ab Key × Af × Ad)=>p.1=q.1 /\ p.2.1=q.2.1 /\ RelV p.2.2 q.2.2) es xs /\
   ∃ o es',h.get? a=some o /\ o.ExactDict /\ o.data=.dict es' ep /\ es'.toList=xs.map (entryOfKey (tupleKind (fD P w))) /\ (xs.map (·.1)).Nodup
 | .cod q=>h.CodeRec (.ref a) q
 | .sI vs=>TS.SB P w (TS.btOf w) h a vs
 | .set S n=>h.SetOf (intKind P w) a S n
 | .ins C dx fs=>H dx=some (.own a) /\ fs.length <= 1000 /\ dx ≠ a /\ h.get? a=some (PySem.W.instObj C dx) /\
   ∃ mA,h.Ns1 dx mA /\ (∀ f,RelO (fs.lookup f) (mA f)) /\ PySem.Within mA (fs.map (·.1))
 | .own _=>∃ o,h.get? a=some o
 | .xd fs=>∃ mA,h.Ns1 a mA /\ ∀ f,RelO (fs.lookup f) (mA f)
 | .rng lo hi=>∃ t u v,h.get? a=some { cls:=.type "range",data:=.fields #[.int lo t,.int hi u,.int 1 v] }
 | .frz o u=>h.get? a=some o /\ ObjOk H h a u
 | .tbl ps=>∃ pv:Ae Ad,h.get? a=some { cls:=.none,data:=.fields pv } /\ TriplesOk pv.toList /\ ∀ p,ps[0]? = some p->codeAmong p.1 pv.toList=none \/ ∃ c oc,codeAmong p.1 pv.toList=some (.ref c) /\ H c=some (.frz oc (.cod p.2))
 | .met f x=>h.get? a=some (PySem.W.methodObj (.ref f) (.ref x))
 | .ext φ=>φ h /\ (∃ o,h.get? a=some o) /\ ∀ h1 h2:Ah,φ h1->(∀ o,h1.get? a=some o->h2.get? a=some o)->φ h2
def HOk (H:Hp) (h:Ah):Prop:=∀ a o,H a=some o->ObjOk P w H h a o
end
section
variable {P:Aj}{w:Ak}{H H':Hp}{h h':Ah}{a:Af}{o:HO}
theorem ObjOk.lt (x:ObjOk P w H h a o):a < h.objs.size:=by
 cases o with
 | lst xs=>obtain⟨_,_,_,_,e⟩:=x;exact Qah e
 | tup xs=>obtain⟨_,_,_,p⟩:=x;exact p.lt
 | dK kvs=>obtain⟨_,_,_,_,o,_,_,e,_⟩:=x;exact Qah e
 | dT kvs=>obtain⟨_,_,_,_,o,_,_,e,_⟩:=x;exact Qah e
 | dE es ep=>obtain⟨_,_,_,_,o,_,e,_⟩:=x;exact Qah e
 | cod q=>obtain⟨c,o,_,_,z,e,_⟩:=x;cases z;exact Qah e
 | sI vs=>obtain⟨o,_,_,_,e,_⟩:=x;exact Qah e
 | set S n=>obtain⟨o,_,_,_,e,_⟩:=x;exact Qah e
 | ins C dx fs=>obtain⟨_,_,_,e,_⟩:=x;exact Qah e
 | own y=>obtain⟨_,e⟩:=x;exact Qah e
 | xd fs=>obtain⟨_,⟨_,_,_,e,_⟩,_⟩:=x;exact Qah e
 | rng lo hi=>obtain⟨_,_,_,e⟩:=x;exact Qah e
 | frz ob u=>obtain⟨e,_⟩:=x;exact Qah e
 | tbl ps=>obtain⟨_,e,_⟩:=x;exact Qah e
 | met f y=>exact Qah (show h.get? a=some _ from x)
 | ext φ=>obtain⟨_,⟨_,e⟩,_⟩:=x;exact Qah e
theorem Paired.mapP:∀ {l₁:Ab α}{l₂:Ab β},Paired F l₁ l₂->(∀ a b,F a b->G a b)->Paired G l₁ l₂
 | _,_,.nil,_=>.nil
 | _,_,.cons r t,f=>.cons (f _ _ r) (Paired.mapP t f)
theorem ObjOk.stay (x:ObjOk P w H h a o) (k:∀ b u,(b=a \/ H b=some (.own a))->h.get? b=some u->h'.get? b=some u)
  (ho:∀ b,H b=some (.own a)->H' b=some (.own a)) (ht:∀ b xs,H b=some (.tup xs)->H' b=some (.tup xs))
  (hcd:∀ b o q,H b=some (.frz o (.cod q))->H' b=some (.frz o (.cod q)):=by intro b o q r;first | exact r | (rw [aT (aU r (by assumption))];exact r) | (rw [aT (fun z=>by subst z;simp_all [Mut])];exact r) | (rw [aT (fun z=>by rw [z] at r;simp_all)];exact r)):ObjOk P w H' h' a o:=by
 induction o with
 | lst xs=>obtain⟨z,its,n,r,e⟩:=x;exact⟨z,its,n,r,k _ _ (.inl rfl) e⟩
 | tup xs=>obtain⟨z,its,r,ob,e,c⟩:=x;exact⟨z,its,r,ob,k _ _ (.inl rfl) e,c⟩
 | dK kvs=>obtain⟨z,y,vs,r,ob,es,ep,e,c⟩:=x;exact⟨z,y,vs,r,ob,es,ep,k _ _ (.inl rfl) e,c⟩
 | dT kvs =>
  obtain⟨z,y,xs,r,ob,es,ep,e,c⟩:=x;exact⟨z,y,xs,Paired.mapP r fun p q z=>⟨z.1,ht _ _ z.2.1,z.2.2⟩,ob,es,ep,k _ _ (.inl rfl) e,c⟩
 | dE es ep=>obtain⟨z,y,xs,r,ob,es,e,c⟩:=x;exact⟨z,y,xs,r,ob,es,k _ _ (.inl rfl) e,c⟩
 | cod q=>obtain⟨c,o,vs,t,z,e,r⟩:=x;cases z;exact⟨_,o,vs,t,rfl,k _ _ (.inl rfl) e,r⟩
 | sI vs=>exact TS.SB.keep x fun o e=>k _ _ (.inl rfl) e
 | set S n=>obtain⟨ob,es,ep,t,e,c⟩:=x;exact⟨ob,es,ep,t,k _ _ (.inl rfl) e,c⟩
 | ins C dx fs =>
  obtain⟨d,z,ne,e,mA,⟨od,es,ep,e2,c⟩,r⟩:=x;exact⟨ho _ d,z,ne,k _ _ (.inl rfl) e,mA,⟨od,es,ep,k _ _ (.inr d) e2,c⟩,r⟩
 | own y=>obtain⟨ob,e⟩:=x;exact⟨ob,k _ _ (.inl rfl) e⟩
 | xd fs=>obtain⟨mA,⟨od,es,ep,e,c⟩,r⟩:=x;exact⟨mA,⟨od,es,ep,k _ _ (.inl rfl) e,c⟩,r⟩
 | rng lo hi=>obtain⟨t,u,v,e⟩:=x;exact⟨t,u,v,k _ _ (.inl rfl) e⟩
 | frz ob u ih=>obtain⟨e,q⟩:=x;exact⟨k _ _ (.inl rfl) e,ih q⟩
 | tbl ps=>obtain⟨pv,e,t,c⟩:=x;exact⟨pv,k _ _ (.inl rfl) e,t,fun p hp=>(c p hp).imp id fun⟨c,oc,e1,e2⟩=>⟨c,oc,e1,hcd _ _ _ e2⟩⟩
 | met f y =>
  have e:h.get? a=some (PySem.W.methodObj (.ref f) (.ref y)):=x;show h'.get? a=some (PySem.W.methodObj (.ref f) (.ref y));exact k a _ (.inl rfl) e
 | ext φ=>obtain⟨p,⟨o,e⟩,st⟩:=x;exact⟨st _ _ p fun o q=>k _ _ (.inl rfl) q,⟨o,k _ _ (.inl rfl) e⟩,st⟩
theorem HOk.lt (x:HOk P w H h) (e:H a=some o):a < h.objs.size:=(x a o e).lt
theorem HOk.fresh (x:HOk P w H h) (e:h.objs.size <= a):H a=none:=by
 cases q:H a with
 | none=>rfl
 | some u=>exact absurd (QaE (x.lt q) e) (Qbf _)
theorem HOk.kept (x:HOk P w H h) (k:∀ b u,h.get? b=some u->h'.get? b=some u):HOk P w H h':=fun a o e =>
 (x a o e).stay (fun b u _ q=>k b u q) (fun _ q=>q) fun _ _ q=>q
theorem HOk.laid (x:HOk P w H h) (k:∀ b u,h.get? b=some u->h'.get? b=some u) (hp:h.objs.size <= a) (new:ObjOk P w (upd H a o) h' a o):HOk P w (upd H a o) h':=fun b u e=>by
 have hn:=x.fresh hp;by_cases hb:b=a
 .subst hb;rw [bE] at e;cases e;exact new
 .rw [aT hb] at e;exact (x b u e).stay (fun c v _ q=>k c v q) (fun c q=>by rw [aT (aU q hn)];exact q) fun c xs q=>by rw [aT (aU q hn)];exact q
end
def Rd (H:Hp) (a:Af) (u:HO):Prop:=H a=some u \/ ∃ o,H a=some (.frz o u)
theorem Rd.ok (r:Rd H a u) (x:HOk P w H h):ObjOk P w H h a u:=by
 rcases r with r | ⟨o,r⟩
 .exact x a u r
 .obtain⟨_,q⟩:=x a _ r;exact q
def Mut:Aa HO->Prop
 | some (.lst _)=>True
 | some (.dK _)=>True
 | some (.dT _)=>True
 | some (.dE _ _)=>True
 | some (.set _ _)=>True
 | some (.ins _ _ _)=>True
 | some (.ext _)=>True
 | _=>False
section
variable {P:Aj}{w:Ak}{H:Hp}{h h':Ah}{x e:Af}{o':HO}
theorem HOk.write (ok:HOk P w H h) (mu:Mut (H x)) (he:e=x \/ H e=some (.own x)) (k:∀ b u,b ≠ e->h.get? b=some u->h'.get? b=some u) (heo:∃ u,h'.get? e=some u)
  (new:ObjOk P w (upd H x o') h' x o'):HOk P w (upd H x o') h':=fun b u q=>by
 have nown:∀ c y,H c=some (.own y)->c ≠ x:=fun c y r z=>by subst z;rw [r] at mu;exact mu
 have ntup:∀ c xs,H c=some (.tup xs)->c ≠ x:=fun c xs r z=>by subst z;rw [r] at mu;exact mu
 by_cases hb:b=x
 .subst hb;rw [bE] at q;cases q;exact new
 .rw [aT hb] at q;by_cases hbe:b=e
  .have q':H b=some (.own x):=by
    rcases he with z | z
    .exact absurd (hbe.trans z) hb
    .rw [hbe];exact z
   rw [q] at q';cases q';obtain⟨v,hv⟩:=heo;exact⟨v,by rw [hbe];exact hv⟩
  .refine (ok b u q).stay (fun c v hc r=>k c v ?_ r) (fun c r=>by rw [aT (nown c b r)];exact r) fun c xs r=>by rw [aT (ntup c xs r)];exact r
   rcases hc with rfl | hc
   .exact hbe
   .rintro rfl;rcases he with z | z
    .exact nown c b hc z
    .rw [hc] at z;cases z;exact hb rfl
end
structure Un (fs ex:List Addr) (H H':Hp) (h h':Heap):Prop where
 keep:∀ b o,h.get? b=some o->H b=none->b ∉ fs->b ∉ ex->h'.get? b=some o
 slot:∀ b o,h.get? b=some o->H b=none->b ∈ fs->b ∉ ex->∃ sl,h'.get? b=some { o with slots:=sl }
 free:∀ b o,h.get? b=some o->H b=none->b ∉ ex->H' b=none
 there:∀ b o,h.get? b=some o->b ∉ ex->∃ o',h'.get? b=some o'
 tups:∀ b xs,H b=some (.tup xs)->H' b=some (.tup xs)
 frzs:∀ b o u,H b=some (.frz o u)->H' b=some (.frz o u)
 tbls:∀ b ps,H b=some (.tbl ps)->∃ more,H' b=some (.tbl (ps ++ more))
section
variable {fs ex:Ab Af}{H H1:Hp}{h h1 h':Ah}{a x e:Af}{o:HO}
theorem Un.any (u:Un fs ex H H1 h h1) {b:Af}{ob:Obj}(q:h.get? b=some ob) (n:H b=none) (hx:b ∉ ex):∃ sl,h1.get? b=some { ob with slots:=sl }:=by
 by_cases hb:b ∈ fs
 .exact u.slot b ob q n hb hx
 .exact⟨ob.slots,u.keep b ob q n hb hx⟩
theorem Un.kept (k:∀ b u,h.get? b=some u->h'.get? b=some u):Un fs ex H H h h' :=
 ⟨fun b ob q _ _ _=>k b ob q,fun b ob q _ _ _=>⟨ob.slots,k b ob q⟩,fun _ _ _ n _=>n,fun b ob q _=>⟨ob,k b ob q⟩,fun _ _ q=>q,fun _ _ _ q=>q,fun _ ps q=>⟨#[],by rw [q];simp⟩⟩
theorem Un.refl:Un fs ex H H h h:=Un.kept fun _ _ q=>q
theorem Un.laid (k:∀ b u,h.get? b=some u->h'.get? b=some u) (hp:h.objs.size <= a) (hn:H a=none):Un fs ex H (upd H a o) h h' where
 keep:=fun b u q _ _ _=>k b u q
 slot:=fun b u q _ _ _=>⟨u.slots,k b u q⟩
 free:=fun b u q n _=>by rw [aT (QaA (QaE (Qah q) hp))];exact n
 there:=fun b u q _=>⟨u,k b u q⟩
 tups:=fun b xs q=>by rw [aT (aU q hn)];exact q
 frzs:=fun b u xs q=>by rw [aT (aU q hn)];exact q
 tbls:=fun b ps q=>⟨#[],by rw [aT (aU q hn),q];simp⟩
theorem Un.write (mu:Mut (H x)) (he:e=x \/ H e=some (.own x)) (k:∀ b u,b ≠ e->h.get? b=some u->h'.get? b=some u) (heo:∃ u,h'.get? e=some u):Un fs ex H (upd H x o) h h':=by
 have hx:∀ b,H b=none->b ≠ x:=fun b n z=>by subst z;rw [n] at mu;exact mu
 have hb:∀ b,H b=none->b ≠ e:=fun b n z=>by
  subst z;rcases he with r | r
  .exact hx b n r
  .rw [n] at r;cases r
 have hm:∀ b u,H b=some u -> ¬ Mut (some u)->b ≠ x:=fun b u q nm z=>by subst z;rw [q] at mu;exact nm mu
 refine⟨fun b u q n _ _=>k b u (hb b n) q,fun b u q n _ _=>⟨u.slots,k b u (hb b n) q⟩,fun b u q n _=>by rw [aT (hx b n)];exact n,fun b u q _=>?_,
  fun b xs q=>by rw [aT (hm b _ q fun z=>z)];exact q,fun b u xs q=>by rw [aT (hm b _ q fun z=>z)];exact q,fun b ps q=>⟨#[],by rw [aT (hm b _ q fun z=>z),q];simp⟩⟩
 by_cases hbe:b=e
 .subst hbe;exact heo
 .exact⟨u,k b u hbe q⟩
end
def trk (h:Ah) (H:Hp):Ab Af:=(List.range h.objs.size).filter fun a=>(H a).isSome
def yA (h:Ah) (H:Hp):Ah:=PySem.W.hideAll h (trk h H)
theorem Z23 (h:Ah) (H:Hp):(yA h H).objs.size=h.objs.size:=PySem.W.hideAll_size _ _
theorem Z41 (e:h.get? b=some o) (n:H b=none):(yA h H).get? b=some o :=
 PySem.W.hideAll_get _ e fun hm=>by
  have q:(H b).isSome=true:=(QbM.mp hm).2;rw [n] at q;simp at q
theorem Z5t (e:(yA h H).get? b=some o):h.get? b=some o /\ H b=none:=by
 have e':h.get? b=some o:=PySem.W.of_hideAll (trk h H) e;refine⟨e',?_⟩;cases q:H b with
 | none=>rfl
 | some x =>
  have hm:b ∈ trk h H:=QbM.mpr ⟨Qa7.mpr (Qah e'),by simp [q]⟩;have z:(yA h H).get? b=none:=PySem.W.hideAll_none (trk h H) hm;rw [z] at e;cases e
structure Mod (K:Frag) (mg:Str->Option Value) (base:Heap):Prop where
 kin:K.In base
 glob:base.Ns mainGlobals mg
 blt:∃ mb,base.Ns builtinsNs mb /\ ∀ x:Str,x ≠ "__name__" -> mb x=bootBuiltins x
 nolimit:base.NoLimit
structure Cx where
 prog:Aj
 w:Ak
 K:Frag
 mg:Str->Aa Ad
 base:Ah
 A:Ai
 N:Ab Str
 s₀:Ac
 H₀:Hp
 env:Env
 outer:Ab Env
 stack:Ab Env
 ex:Ab Af
 fn:Str->Bool
 calm:Bool
 pn:Ab (Af × Obj)
 xe:Ad->Ac->Prop
def frs (l:Ab Env):Ab Af:=l.filterMap (·.frame)
abbrev Cx.fs (X:Cx):Ab Af:=frs X.outer
def Vis (sc:Scope) (x:Str):Prop:=sc.names.lookup x=some .local \/ sc.names.lookup x=some .cell \/ sc.names.lookup x=some .free
def Loc (sc:Scope) (x:Str):Prop:=sc.names.lookup x=some .local \/ sc.names.lookup x=some .cell
def Z9r (env:Env) (h:Ah) (m:Str->Aa Ad) (x:Str) (u:Ad):Prop :=
 (env.kindOf x=some .local /\ m x=some u) \/ ((env.kindOf x=some .cell \/ env.kindOf x=some .free) /\ ∃ c,env.cells.lookup x=some c /\ h.IsCell c (some u))
structure Cx.Ok (X:Cx):Prop where
 mod:Mod X.K X.mg X.base
 kind:X.env.scope.kind=.function
 glob:X.env.globals=mainGlobals
 blt:X.env.builtins=builtinsNs
 above:X.s₀.heap.objs.size <= X.env.locals
 inj:∀ x y c,X.env.cells.lookup x=some c->X.env.cells.lookup y=some c->x=y
 has:∀ x,(X.env.kindOf x=some .cell \/ X.env.kindOf x=some .free)->∃ c,X.env.cells.lookup x=some c
 cab:∀ x c,X.fn x=true->X.env.cells.lookup x=some c->X.s₀.heap.objs.size <= c
 hd:X.calm=true->X.A.handled=none
 frames:X.A.frames=some X.stack
 stk:X.stack=X.outer \/ (X.stack=X.env :: X.outer /\ X.env.frame=some X.env.locals)
 exf:∀ b ∈ X.ex,b ≠ X.env.locals /\ ∀ x c,X.env.cells.lookup x=some c->c ≠ b
 bs:∀ b o,X.base.get? b=some o->X.s₀.heap.get? b=some o /\ X.H₀ b=none
 bsz:X.base.objs.size <= X.s₀.heap.objs.size
 noex:∀ b o,X.base.get? b=some o->b ∉ X.ex
 exfs:∀ b ∈ X.ex,b ∉ X.fs
 funs:X.s₀.heap.FunFrames X.base X.outer
 frf:∀ b ∈ X.fs,X.H₀ b=none
structure Inv (X:Cx) (pins:List (Addr × Obj)) (σ:List (Option V)) (H:Hp) (s:Shared):Prop where
 ok:X.Ok
 os:s.os=X.s₀.os
 bare:AllBare s.gens
 base:Un X.fs X.ex X.H₀ H X.s₀.heap s.heap
 loc:∃ m,s.heap.Ns X.env.locals m /\ ∀ (i:Nat) (x:Str) (v:V),X.N[i]? = some x->σ[i]? = some (some v)->Vis X.env.scope x->∃ u,RelV v u /\ Z9r X.env s.heap m x u
 cell:∀ x c,X.env.cells.lookup x=some c->∃ v,s.heap.IsCell c v
 free:H X.env.locals=none
 freeC:∀ x c,X.env.cells.lookup x=some c->H c=none
 pin:∀ p ∈ X.pn ++ pins,s.heap.get? p.1=some p.2 /\ H p.1=none /\ p.1 ≠ X.env.locals /\ p.1 ∉ X.fs /\ ∀ v,p.2.data ≠ .cell v
 hok:HOk X.prog X.w H s.heap
 len:σ.length=X.N.length
section
variable {X:Cx}{pins:Ab (Af × Obj)}{σ:Ab (Aa V)}{H H':Hp}{s:Ac}{h':Ah}
theorem Cx.Ok.nofr (ok:X.Ok) {b:Af}{o:Obj}(e:X.base.get? b=some o):b ∉ X.fs:=fun hb=>by
 have:=(ok.funs.mem hb).1;rw [e] at this;cases this
theorem Inv.bs (I:Inv X pins σ H s):∀ b o,X.base.get? b=some o->s.heap.get? b=some o /\ H b=none:=fun b o e =>
 ⟨I.base.keep b o (I.ok.bs b o e).1 (I.ok.bs b o e).2 (I.ok.nofr e) (I.ok.noex b o e),I.base.free b o (I.ok.bs b o e).1 (I.ok.bs b o e).2 (I.ok.noex b o e)⟩
theorem Inv.bk (I:Inv X pins σ H s):∀ b o,X.base.get? b=some o->s.heap.get? b=some o:=fun b o e=>(I.bs b o e).1
theorem Inv.mod (I:Inv X pins σ H s):Mod X.K X.mg X.base:=I.ok.mod
theorem Inv.kIn (I:Inv X pins σ H s):X.K.In s.heap:=I.ok.mod.kin.keeps I.bk
theorem Inv.lt (I:Inv X pins σ H s):X.env.locals < s.heap.objs.size:=let ⟨_,hn,_⟩:=I.loc;hn.lt
theorem Inv.sz (I:Inv X pins σ H s):X.s₀.heap.objs.size <= s.heap.objs.size:=QaV I.ok.above (Qbd I.lt)
theorem Inv.nofs (I:Inv X pins σ H s) {a:Af}(h:s.heap.objs.size <= a):a ∉ X.fs:=fun hb=>by
 obtain⟨_,o,ho,_⟩:=I.ok.funs.mem hb;exact absurd (QaE (Qah ho) (QaV I.sz h)) (Qbf _)
theorem Inv.cne (I:Inv X pins σ H s):∀ x c,X.env.cells.lookup x=some c->c ≠ X.env.locals:=fun x c e z=>by
 obtain⟨v,o,ho,hd⟩:=I.cell x c e;obtain⟨m,⟨o',es,ep,ho',hd',_⟩,_⟩:=I.loc;rw [z,ho'] at ho;cases ho;rw [hd'] at hd;cases hd
theorem Inv.funs (I:Inv X pins σ H s):s.heap.FunFrames X.base X.outer:=by
 have all:∀ (l:Ab Env),(∀ b ∈ frs l,b ∈ X.fs)->X.s₀.heap.FunFrames X.base l->s.heap.FunFrames X.base l:=by
  intro l
  induction l with
  | nil=>intro _ _;trivial
  | cons env r ih =>
   intro hs hl;obtain⟨hk,⟨L,o,hf,hn,ho,hd⟩,hr⟩:=hl;have hL:L ∈ X.fs:=hs L (by unfold frs;rw [List.filterMap_cons,hf];exact Qau);obtain⟨sl,e⟩:=I.base.slot L o ho (I.ok.frf L hL) hL fun z=>I.ok.exfs L z hL;exact⟨hk,⟨L,_,hf,hn,e,hd⟩,ih (fun b hb=>hs b (by unfold frs;rw [List.filterMap_cons,hf];exact Qae _ hb)) hr⟩
 exact all X.outer (fun _ hb=>hb) I.ok.funs
theorem Inv.stack (I:Inv X pins σ H s):s.heap.FunFrames X.base X.stack:=by
 rcases I.ok.stk with e | ⟨e,hf⟩
 .rw [e];exact I.funs
 .rw [e];obtain⟨m,hn,_⟩:=I.loc;refine .cons (by rw [I.ok.kind];decide) hf hn ?_ I.funs;exact Heap.get?_none_of_le (QaV I.ok.bsz I.ok.above)
theorem Inv.stkSub (I:Inv X pins σ H s):∀ b ∈ frs X.stack,b ∈ X.env.locals :: X.fs:=fun b hb=>by
 rcases I.ok.stk with e | ⟨e,hf⟩
 .rw [e] at hb;exact Qae _ hb
 .rw [e] at hb;unfold frs at hb;rw [List.filterMap_cons,hf] at hb;exact hb
theorem Inv.stkFree (I:Inv X pins σ H s):∀ b ∈ frs X.stack,H b=none:=fun b hb=>by
 rcases Qaf.mp (I.stkSub b hb) with e | hb
 .rw [e];exact I.free
 .obtain⟨_,o,ho,_⟩:=I.ok.funs.mem hb;exact I.base.free b o ho (I.ok.frf b hb) fun z=>I.ok.exfs b z hb
theorem Inv.step {ch:Ab Af}(I:Inv X pins σ H s)
  (hch:∀ b ∈ ch,(b ∈ X.ex \/ X.s₀.heap.objs.size <= b) /\ b ≠ X.env.locals /\ (∀ x c,X.env.cells.lookup x=some c->c ≠ b) /\ ∀ p ∈ X.pn ++ pins,p.1 ≠ b)
  (keep:∀ b o,b ≠ X.env.locals->b ∉ X.fs->b ∉ ch->s.heap.get? b=some o->H b=none->h'.get? b=some o)
  (slot:∀ b o,b ≠ X.env.locals->b ∈ X.fs->b ∉ ch->s.heap.get? b=some o->H b=none->∃ sl,h'.get? b=some { o with slots:=sl }) (free:∀ b o,b ∉ ch->s.heap.get? b=some o->H b=none->H' b=none)
  (there:∀ b o,b ∉ ch->s.heap.get? b=some o->∃ o',h'.get? b=some o')
  (tups:∀ b xs,H b=some (.tup xs)->H' b=some (.tup xs)) (frzs:∀ b o u,H b=some (.frz o u)->H' b=some (.frz o u)) (tbls:∀ b ps,H b=some (.tbl ps)->∃ more,H' b=some (.tbl (ps ++ more)))
  (ns:∀ m,s.heap.Ns X.env.locals m->h'.Ns X.env.locals m) (hok:HOk X.prog X.w H' h') (hg:AllBare g') :
  Inv X pins σ H' { s with heap:=h',gens:=g',drawn:=d',toks:=t' }:=by
 have neL:∀ b o,X.s₀.heap.get? b=some o->b ≠ X.env.locals:=fun b o e=>QaA (QaE (Qah e) I.ok.above);have neC:∀ b o,X.s₀.heap.get? b=some o->b ∉ X.ex->b ∉ ch:=fun b o e hx hb=>by
  rcases (hch b hb).1 with z | z
  .exact hx z
  .exact absurd (QaE (Qah e) z) (Qbf _)
 have cellK:∀ x c,X.env.cells.lookup x=some c->∀ v,s.heap.IsCell c v->h'.IsCell c v:=fun x c e v ⟨o,ho,hd⟩=>by
  have nch:c ∉ ch:=fun z=>(hch c z).2.2.1 x c e rfl;by_cases hc:c ∈ X.fs
  .obtain⟨sl,q⟩:=slot c o (I.cne x c e) hc nch ho (I.freeC x c e);exact⟨_,q,hd⟩
  .exact⟨o,keep c o (I.cne x c e) hc nch ho (I.freeC x c e),hd⟩
 refine⟨I.ok,I.os,hg,⟨fun b o e n hb hx=>?_,fun b o e n hb hx=>?_,fun b o e n hx=>?_,fun b o e hx=>?_,fun b xs e=>tups b xs (I.base.tups b xs e),fun b o xs e=>frzs b o xs (I.base.frzs b o xs e),fun b ps e=>?_⟩,?_,fun x c e=>?_,?_,fun x c e=>?_,fun p hp=>?_,hok,I.len⟩
 .exact keep b o (neL b o e) hb (neC b o e hx) (I.base.keep b o e n hb hx) (I.base.free b o e n hx)
 .obtain⟨sl,e1⟩:=I.base.slot b o e n hb hx;obtain⟨sl',e2⟩:=slot b _ (neL b o e) hb (neC b o e hx) e1 (I.base.free b o e n hx);exact⟨sl',e2⟩
 .obtain⟨o',e1⟩:=I.base.there b o e hx;exact free b o' (neC b o e hx) e1 (I.base.free b o e n hx)
 .obtain⟨o',e1⟩:=I.base.there b o e hx;exact there b o' (neC b o e hx) e1
 .obtain⟨m1,e1⟩:=I.base.tbls b ps e;obtain⟨m2,e2⟩:=tbls b _ e1;exact⟨m1 ++ m2,by rw [e2,Array.append_assoc]⟩
 .obtain⟨m,hn,hl⟩:=I.loc;refine⟨m,ns m hn,fun i x v e1 e2 e3=>?_⟩;obtain⟨u,r,l⟩:=hl i x v e1 e2 e3;refine⟨u,r,?_⟩;rcases l with l | ⟨k,c,e,z⟩
  .exact .inl l
  .exact .inr ⟨k,c,e,cellK x c e _ z⟩
 .obtain⟨v,z⟩:=I.cell x c e;exact⟨v,cellK x c e v z⟩
 .obtain⟨m,⟨o,_,_,ho,_⟩,_⟩:=I.loc;exact free _ o (fun z=>(hch _ z).2.1 rfl) ho I.free
 .obtain⟨v,o,ho,hd⟩:=I.cell x c e;exact free c o (fun z=>(hch c z).2.2.1 x c e rfl) ho (I.freeC x c e)
 .obtain⟨e,n,ne,nf,d⟩:=I.pin p hp;have nch:p.1 ∉ ch:=fun z=>(hch p.1 z).2.2.2 p hp rfl;exact⟨keep p.1 p.2 ne nf nch e n,free p.1 p.2 nch e n,ne,nf,d⟩
theorem Inv.un (I:Inv X pins σ H s) (u:Un X.fs [] H H' s.heap h') (hok:HOk X.prog X.w H' h'):Inv X pins σ H' { s with heap:=h',toks:=t' }:=by
 obtain⟨m,⟨o,es,ep,ho,r⟩,_⟩:=id I.loc;obtain⟨sl,hL⟩:=u.any ho I.free (by simp);exact I.step (g':=s.gens) (d':=s.drawn) (ch:=[]) (fun _ z=>nomatch z) (fun b o _ hb _ e n=>u.keep b o e n hb (by simp)) (fun b o _ hb _ e n=>u.slot b o e n hb (by simp)) (fun b o _ e n=>u.free b o e n (by simp)) (fun b o _ e=>u.there b o e (by simp)) u.tups u.frzs u.tbls (fun m' hm=>by
  obtain⟨o',es',ep',ho',r'⟩:=hm;rw [ho] at ho';cases ho';exact⟨_,es',ep',hL,r'⟩) hok I.bare
theorem Inv.call {ch:Ab Af}(I:Inv X pins σ H s) (u:Un (frs X.stack) ch H H' s.heap h') (hok:HOk X.prog X.w H' h') (hg:AllBare g')
  (hch:∀ b ∈ ch,(b ∈ X.ex \/ X.s₀.heap.objs.size <= b) /\ b ≠ X.env.locals /\ (∀ x c,X.env.cells.lookup x=some c->c ≠ b) /\ ∀ p ∈ X.pn ++ pins,p.1 ≠ b) :
  Inv X pins σ H' { s with heap:=h',gens:=g',drawn:=d',toks:=t' }:=by
 obtain⟨m,⟨o,es,ep,ho,r⟩,_⟩:=id I.loc;obtain⟨sl,hL⟩:=u.any ho I.free fun z=>(hch _ z).2.1 rfl;exact I.step (ch:=ch) hch (fun b o hL hb hc e n=>u.keep b o e n (fun z=>(Qaf.mp (I.stkSub b z)).elim hL hb) hc) (fun b o _ _ hc e n=>u.any e n hc) (fun b o hc e n=>u.free b o e n hc) (fun b o hc e=>u.there b o e hc) u.tups u.frzs u.tbls (fun m' hm=>by
  obtain⟨o',es',ep',ho',r'⟩:=hm;rw [ho] at ho';cases ho';exact⟨_,es',ep',hL,r'⟩) hok hg
theorem Inv.turned (I:Inv X pins σ H s) (k:∀ b o,b ≠ it->s.heap.get? b=some o->h'.get? b=some o) (hn:H it=none) (hL:it ≠ X.env.locals)
  (h1:it ∈ X.ex \/ X.s₀.heap.objs.size <= it) (h2:∀ x c,X.env.cells.lookup x=some c->c ≠ it) (h3:∀ p ∈ X.pn ++ pins,p.1 ≠ it):Inv X pins σ H { s with heap:=h',toks:=t' }:=by
 have nit:∀ b u,H b=some u->b ≠ it:=fun b u e z=>by rw [z,hn] at e;cases e
 refine I.step (g':=s.gens) (d':=s.drawn) (ch:=[it]) (fun b hb=>?_) (fun b o _ _ hc e _=>k b o (fun z=>hc (by simp [z])) e) (fun b o _ _ hc e _=>⟨o.slots,k b o (fun z=>hc (by simp [z])) e⟩) (fun _ _ _ _ n=>n)
  (fun b o hc e=>⟨o,k b o (fun z=>hc (by simp [z])) e⟩) (fun _ _ e=>e) (fun _ _ _ e=>e) (fun b ps e=>⟨#[],by rw [e];simp⟩) (fun m hm=>?_) (fun b u e=>?_) I.bare
 .have e:b=it:=by simpa using hb
  subst e;exact⟨h1,hL,h2,h3⟩
 .obtain⟨o,es,ep,ho,r⟩:=hm;exact⟨o,es,ep,k _ o (Ne.symm hL) ho,r⟩
 .refine (I.hok b u e).stay (fun c v hc q=>k c v ?_ q) (fun _ q=>q) fun _ _ q=>q;rcases hc with z | z
  .rw [z];exact nit b u e
  .exact nit c _ z
theorem Inv.tok (I:Inv X pins σ H s) (t:Nat):Inv X pins σ H { s with toks:=t }:=I.un (h':=s.heap) (t':=t) Un.refl I.hok
theorem Inv.kept (I:Inv X pins σ H s) (k:∀ b u,s.heap.get? b=some u->h'.get? b=some u):Inv X pins σ H { s with heap:=h',toks:=t' }:=I.un (Un.kept k) (I.hok.kept k)
theorem Inv.laid (I:Inv X pins σ H s) (k:∀ b u,s.heap.get? b=some u->h'.get? b=some u) (hp:s.heap.objs.size <= a) (new:ObjOk X.prog X.w (upd H a o) h' a o) :
  Inv X pins σ (upd H a o) { s with heap:=h',toks:=t' }:=I.un (Un.laid k hp (I.hok.fresh hp)) (I.hok.laid k hp new)
theorem Inv.write (I:Inv X pins σ H s) (mu:Mut (H x)) (he:e=x \/ H e=some (.own x)) (k:∀ b u,b ≠ e->s.heap.get? b=some u->h'.get? b=some u) (heo:∃ u,h'.get? e=some u)
  (new:ObjOk X.prog X.w (upd H x o) h' x o):Inv X pins σ (upd H x o) { s with heap:=h',toks:=t' }:=I.un (Un.write mu he k heo) (I.hok.write mu he k heo new)
theorem Inv.weak (I:Inv X pins σ H s) (hl:σ'.length=σ.length) (w:∀ (i:Nat) v,σ'[i]? = some (some v)->σ[i]? = some (some v)):Inv X pins σ' H s :=
 ⟨I.ok,I.os,I.bare,I.base,let ⟨m,hn,hl'⟩:=I.loc;⟨m,hn,fun i x v e1 e2 e3=>hl' i x v e1 (w i v e2) e3⟩,I.cell,I.free,I.freeC,I.pin,I.hok,hl.trans I.len⟩
theorem Inv.pins_of (I:Inv X pins σ H s) (h:∀ p ∈ pins',s.heap.get? p.1=some p.2 /\ H p.1=none /\ p.1 ≠ X.env.locals /\ p.1 ∉ X.fs /\ ∀ v,p.2.data ≠ .cell v):Inv X pins' σ H s :=
 ⟨I.ok,I.os,I.bare,I.base,I.loc,I.cell,I.free,I.freeC,fun p hp=>(Qai.mp hp).elim (fun z=>I.pin p (Qar _ z)) (h p),I.hok,I.len⟩
theorem N0 {N:Ab Str}(hN:N.Nodup) {i j:Nat}{x:Str}(a:N[i]? = some x) (b:N[j]? = some x):i=j:=by
 obtain⟨h1,e1⟩:=Qac.mp a;obtain⟨h2,e2⟩:=Qac.mp b;exact (List.getElem_inj hN).mp (e1.trans e2.symm)
theorem yO (I:Inv X pins σ H s) (hN:X.N.Nodup) (hi:X.N[i]? = some x) (hx:Loc X.env.scope x) (r:RelV v u)
  (h:∀ s',Inv X pins (σ.set i (some v)) H s'->(∃ a,Heap.SameBut a s.heap s'.heap /\ (a=X.env.locals \/ X.env.cells.lookup x=some a))->Q () s') (hf:X.fn x=true \/ X.env.scope.names.lookup x=some .local:=by first | exact .inl rfl | exact .inr rfl | assumption):wpAny M A (storeName X.env x u) Q E s:=by
 obtain⟨m,hn,hl⟩:=id I.loc;have hcls:(X.env.scope.kind == .class || (X.env.scope.kind == .module && X.env.locals != X.env.globals))=false:=by rw [I.ok.kind];rfl
 have hiσ:i < σ.length:=by rw [I.len];exact (Qac.mp hi).1
 have cne:=I.cne;have tracked:∀ {a:Af}{h':Ah},(∃ o,s.heap.get? a=some o /\ H a=none)->Heap.SameBut a s.heap h'->HOk X.prog X.w H h':=fun {a h'} ha hs b ob e=>by
  obtain⟨_,_,hfree⟩:=ha;refine (I.hok b ob e).stay (fun c w' hc q=>(hs.2 c ?_).trans q) (fun _ q=>q) fun _ _ q=>q;rintro rfl;rcases hc with rfl | hc
  .rw [hfree] at e;cases e
  .rw [hfree] at hc;cases hc
 rcases hx with hk | hk
 .refine wpAny_storeName_local hk hn (fun h' hn' hs=>?_) hcls;obtain⟨oL,_,_,hoL,_⟩:=id hn;refine h _ ⟨I.ok,I.os,I.bare,⟨fun b o e n hb hx=>?_,fun b o e n hb hx=>?_,I.base.free,fun b o e hx=>?_,I.base.tups,I.base.frzs,I.base.tbls⟩,⟨_,hn',fun j y v' e1 e2 e3=>?_⟩,fun y c e=>?_,I.free,I.freeC,fun p hp=>?_,tracked ⟨oL,hoL,I.free⟩ hs,by simpa using I.len⟩ ⟨_,hs,.inl rfl⟩
  .exact (hs.2 b (QaA (QaE (Qah e) I.ok.above))).trans (I.base.keep b o e n hb hx)
  .obtain⟨sl,e1⟩:=I.base.slot b o e n hb hx;exact⟨sl,(hs.2 b (QaA (QaE (Qah e) I.ok.above))).trans e1⟩
  .obtain⟨o',e1⟩:=I.base.there b o e hx;exact⟨o',(hs.2 b (QaA (QaE (Qah e) I.ok.above))).trans e1⟩
  .by_cases hj:j=i
   .subst hj;rw [hi] at e1;cases e1;rw [QaZ hiσ] at e2;cases e2;exact⟨u,r,.inl ⟨hk,by simp⟩⟩
   .rw [Qay (Ne.symm hj)] at e2;obtain⟨u',r',q⟩:=hl j y v' e1 e2 e3;refine⟨u',r',?_⟩;rcases q with ⟨k,e⟩ | ⟨k,c,e,z⟩
    .refine .inl ⟨k,?_⟩;have:y ≠ x:=fun e=>hj (N0 hN e1 (e ▸ hi));simp [this,e]
    .exact .inr ⟨k,c,e,z.sameBut hs (cne y c e)⟩
  .obtain⟨w',z⟩:=I.cell y c e;exact⟨w',z.sameBut hs (cne y c e)⟩
  .obtain⟨e,n,ne,nf,d⟩:=I.pin p hp;exact⟨(hs.2 p.1 ne).trans e,n,ne,nf,d⟩
 .have hfn:X.fn x=true:=by
   rcases hf with z | z
   .exact z
   .rw [z] at hk;cases hk
  obtain⟨c,hc⟩:=I.ok.has x (.inl hk);obtain⟨w',z⟩:=I.cell x c hc;refine wpAny_storeName_cell I.ok.kind hk hc z (fun h' hc' hs=>?_);obtain⟨oc,hoc,hocd⟩:=id z;refine h { s with heap:=h' } ⟨I.ok,I.os,I.bare,⟨fun b o e n hb hx=>?_,fun b o e n hb hx=>?_,I.base.free,fun b o e hx=>?_,I.base.tups,I.base.frzs,I.base.tbls⟩,⟨m,hn.sameBut hs (Ne.symm (cne x c hc)),fun j y v' e1 e2 e3=>?_⟩,fun y c' e=>?_,I.free,I.freeC,fun p hp=>?_,tracked ⟨oc,hoc,I.freeC x c hc⟩ hs,by simpa using I.len⟩ ⟨c,hs,.inr hc⟩
  .exact (hs.2 b (QaA (QaE (Qah e) (I.ok.cab x c hfn hc)))).trans (I.base.keep b o e n hb hx)
  .obtain⟨sl,e1⟩:=I.base.slot b o e n hb hx;exact⟨sl,(hs.2 b (QaA (QaE (Qah e) (I.ok.cab x c hfn hc)))).trans e1⟩
  .obtain⟨o',e1⟩:=I.base.there b o e hx;exact⟨o',(hs.2 b (QaA (QaE (Qah e) (I.ok.cab x c hfn hc)))).trans e1⟩
  .by_cases hj:j=i
   .subst hj;rw [hi] at e1;cases e1;rw [QaZ hiσ] at e2;cases e2;exact⟨u,r,.inr ⟨.inl hk,c,hc,hc'⟩⟩
   .rw [Qay (Ne.symm hj)] at e2;obtain⟨u',r',q⟩:=hl j y v' e1 e2 e3;refine⟨u',r',?_⟩;rcases q with q | ⟨k,c',e,z'⟩
    .exact .inl q
    .refine .inr ⟨k,c',e,z'.sameBut hs ?_⟩;rintro rfl;exact hj (N0 hN e1 (I.ok.inj _ _ _ e hc ▸ hi))
  .by_cases hcc:c'=c
   .subst hcc;exact⟨_,hc'⟩
   .obtain⟨w2,z2⟩:=I.cell y c' e;exact⟨w2,z2.sameBut hs hcc⟩
  .obtain⟨e,n,ne,nf,d⟩:=I.pin p hp;refine⟨(hs.2 p.1 ?_).trans e,n,ne,nf,d⟩;intro q;rw [q,hoc] at e;have q':oc=p.2:=QaS e;exact d w' (by rw [<- q'];exact hocd)
theorem J8 (I:Inv X pins σ H s) (hN:X.N.Nodup) (hi:X.N[i]? = some x) (hx:Loc X.env.scope x) (r:RelV v u)
  (h:∀ s',Inv X pins (σ.set i (some v)) H s'->Q () s') (hf:X.fn x=true \/ X.env.scope.names.lookup x=some .local:=by first | exact .inl rfl | exact .inr rfl | assumption):wpAny M A (storeName X.env x u) Q E s :=
 yO I hN hi hx r (fun s' I' _=>h s' I') hf
theorem Inv.call' (I:Inv X pins σ H s) (ho:s'.os=s.os) (u:Un (frs X.stack) ch H H' s.heap s'.heap) (hok:HOk X.prog X.w H' s'.heap) (hg:AllBare s'.gens)
  (hch:∀ b ∈ ch,(b ∈ X.ex \/ X.s₀.heap.objs.size <= b) /\ b ≠ X.env.locals /\ (∀ x c,X.env.cells.lookup x=some c->c ≠ b) /\ ∀ p ∈ X.pn ++ pins,p.1 ≠ b):Inv X pins σ H' s':=by
 obtain⟨h',g',d',t',o'⟩:=s';have e:o'=s.os:=ho;subst e;exact I.call (g':=g') (t':=t') (d':=d') u hok hg hch
end
abbrev XK:=Ad->Aa Af->Hp->Prop
abbrev St:=Ab (Aa V)
abbrev VK:=V->Hp->Prop
abbrev TE:=St->Hp->VK->Prop
abbrev TT:=St->Hp->(Bool->Hp->Prop)->Prop
abbrev TA:=St->Hp->(Ab V->Hp->Prop)->Prop
structure Z2s where
 nx:St->Hp->Prop
 rt:VK
 bk:St->Hp->Prop:=fun _ _=>False
 ct:St->Hp->Prop:=fun _ _=>False
abbrev TS:=Z2s->St->Hp->Prop
def EP (X:Cx) (pins:Ab (Af × Obj)) (σ:St) (Q:VK) (u:Ad) (s':Ac):Prop:=∃ v H',Inv X pins σ H' s' /\ RelV v u /\ Q v H'
def TP (X:Cx) (pins:Ab (Af × Obj)) (σ:St) (Q:Bool->Hp->Prop) (b:Bool) (s':Ac):Prop:=∃ H',Inv X pins σ H' s' /\ Q b H'
def AP (X:Cx) (pins:Ab (Af × Obj)) (σ:St) (Q:Ab V->Hp->Prop) (us:Ab Ad) (s':Ac):Prop:=∃ vs H',Inv X pins σ H' s' /\ Vals vs us /\ Q vs H'
def SP (X:Cx) (pins:Ab (Af × Obj)) (D:Z2s) (f:Flow) (s':Ac):Prop :=
 match f with
 | .next=>∃ σ' H',Inv X pins σ' H' s' /\ D.nx σ' H'
 | .brk=>∃ σ' H',Inv X pins σ' H' s' /\ D.bk σ' H'
 | .cont=>∃ σ' H',Inv X pins σ' H' s' /\ D.ct σ' H'
 | .ret u=>∃ v σ' H',Inv X pins σ' H' s' /\ RelV v u /\ D.rt v H'
def PE (X:Cx) (e:Ag) (t:TE):Prop :=
 ∀ (pins:Ab (Af × Obj)) (s:Ac) (σ:St) (H:Hp) (Q:VK),Inv X pins σ H s->t σ H Q->wpAny (model X.prog X.w) X.A (eval e X.env) (EP X pins σ Q) X.xe s
def PT (X:Cx) (e:Ag) (t:TT):Prop :=
 ∀ (pins:Ab (Af × Obj)) (s:Ac) (σ:St) (H:Hp) (Q:Bool->Hp->Prop),Inv X pins σ H s->t σ H Q->wpAny (model X.prog X.w) X.A (isTrue e X.env (eval e X.env)) (TP X pins σ Q) X.xe s
def PW (X:Cx) (e:Ag) (t:TT):Prop :=
 ∀ (whole:Sem Ad) (pins:Ab (Af × Obj)) (s:Ac) (σ:St) (H:Hp) (Q:Bool->Hp->Prop),Inv X pins σ H s->t σ H Q->wpAny (model X.prog X.w) X.A (isTrue e X.env whole) (TP X pins σ Q) X.xe s
theorem PW.pt (h:PW X e t):PT X e t:=h _
def PA (X:Cx) (es:Ab Ag) (t:TA):Prop :=
 ∀ (pos:Pos) (pins:Ab (Af × Obj)) (s:Ac) (σ:St) (H:Hp) (Q:Ab V->Hp->Prop),Inv X pins σ H s->t σ H Q->wpAny (model X.prog X.w) X.A (spliced (backTo pos (starEach es X.env))) (AP X pins σ Q) X.xe s
def PS (X:Cx) (st:Stmt) (t:TS):Prop :=
 ∀ (pins:Ab (Af × Obj)) (s:Ac) (σ:St) (H:Hp) (D:Z2s),Inv X pins σ H s->t D σ H->wpAny (model X.prog X.w) X.A (exec st X.env) (SP X pins D) X.xe s
def PSs (X:Cx) (st:Ab Stmt) (t:TS):Prop :=
 ∀ (pins:Ab (Af × Obj)) (s:Ac) (σ:St) (H:Hp) (D:Z2s),Inv X pins σ H s->t D σ H->wpAny (model X.prog X.w) X.A (execs st X.env) (SP X pins D) X.xe s
theorem thn (h:wpAny M A t Q E s) (hQ:∀ a s,Q a s->Q' a s):wpAny M A t Q' E s:=Rc h hQ fun _ _ x=>x
section
variable {X:Cx}
theorem bin (ha:PE X a ta) (hb:PE X b tb) {pins:Ab (Af × Obj)}{s:Ac}{σ:St}{H:Hp}{R:V->V->Hp->Prop}(I:Inv X pins σ H s) (h:ta σ H fun x H1=>tb σ H1 fun y H2=>R x y H2)
  {α:Type}{Q:α->Ac->Prop}{f:Ad->Ad->Sem α}
  (hf:∀ v u s2 x y H2,Inv X pins σ H2 s2->RelV x v->RelV y u->R x y H2->wpAny (model X.prog X.w) X.A (f v u) Q X.xe s2) :
  wpAny (model X.prog X.w) X.A (eval a X.env) (fun v s₁=>wpAny (model X.prog X.w) X.A (eval b X.env) (fun u s₂=>wpAny (model X.prog X.w) X.A (f v u) Q X.xe s₂) X.xe s₁) X.xe s:=by
 refine thn (ha pins s σ H _ I h) fun v s1 ⟨x,H1,I1,r1,q1⟩=>?_;refine thn (hb pins s1 σ H1 _ I1 q1) fun u s2 ⟨y,H2,I2,r2,q2⟩=>?_;exact hf v u s2 x y H2 I2 r1 r2 q2
def R9 (i:Nat):TE:=fun σ H Q=>∃ v,σ[i]? = some (some v) /\ Q v H
def tC (v:V):TE:=fun _ H Q=>Q v H
theorem lL (hN:X.N[i]? = some x) (hv:Vis X.env.scope x) (hd:(x == ("__debug__" : Str))=false:=by decide) (hcd:(x == ("__classdict__" : Str))=false:=by decide):PE X (.Name x pos) (R9 i):=by
 intro pins s σ H Q I h;obtain⟨v,e,h⟩:=h;obtain⟨m,hn,hl⟩:=I.loc;obtain⟨u,r,l⟩:=hl i x v hN e hv;have fin:EP X pins σ Q u s:=⟨v,H,I,r,h⟩;rcases l with ⟨hk,hm⟩ | ⟨hk,c,hc,hcell⟩
 .exact wpAny_Name (wpAny_loadName_local I.ok.kind hk hn hm fin) hd
 .rcases hk with hk | hk
  .exact wpAny_Name (wpAny_loadName_cell I.ok.kind hk hc hcell fin) hd
  .exact wpAny_Name (wpAny_loadName_free I.ok.kind hk hc hcell fin hcd) hd
theorem pe_int:PE X (.Constant (.int i) j pos) (tC (.int i)):=fun _ _ _ H _ I h=>wpAny_Constant_int ⟨.int i,H,I.tok _,⟨_,rfl⟩,h⟩
theorem Z8u:PE X (.Constant (.bool b) j pos) (tC (.bl b)):=fun _ _ _ H _ I h=>Constant_bool ⟨.bl b,H,I,rfl,h⟩
theorem Z79:PE X (.Constant .none j pos) (tC .non):=fun _ _ _ H _ I h=>Constant_none ⟨.non,H,I,rfl,h⟩
theorem Z77:PE X (.Constant (.str x) j pos) (tC (.str x)):=fun _ _ _ H _ I h=>Calls.Constant_str ⟨.str x,H,I.tok _,⟨_,rfl⟩,h⟩
def Gl (X:Cx) (x:Str):Prop:=X.env.kindOf x=some .globalImplicit
theorem D6 (I:Inv X pins σ H s) (hg:Gl X x) (hm:X.mg x=some u) (h:Q u s)
  (hd:(x == ("__debug__" : Str))=false:=by decide):wpAny (model X.prog X.w) X.A (eval (.Name x pos) X.env) Q E s :=
 Calls.Name_function_global I.ok.kind hg (Calls.loadGlobal_global (by rw [I.ok.glob];exact I.mod.glob.keeps I.bk) hm h) hd
theorem kC (I:Inv X pins σ H s) (hg:Gl X x) (hm:X.mg x=none) (hv:bootBuiltins x=some u) (h:Q u s)
  (hn:x ≠ "__name__":=by decide) (hd:(x == ("__debug__" : Str))=false:=by decide):wpAny (model X.prog X.w) X.A (eval (.Name x pos) X.env) Q E s:=by
 obtain⟨mb,h1,h2⟩:=I.mod.blt;exact Calls.Name_function_global I.ok.kind hg (Calls.loadGlobal_builtin (by rw [I.ok.glob];exact I.mod.glob.keeps I.bk) hm (by rw [I.ok.blt];exact h1.keeps I.bk) ((h2 x hn).trans hv) h) hd
theorem Z5l (hg:Gl X x) (hm:X.mg x=none) (hv:bootBuiltins x=some u) (r:RelV v u) (hn:x ≠ "__name__":=by decide) (hd:(x == ("__debug__" : Str))=false:=by decide):PE X (.Name x pos) (tC v) :=
 fun _ _ _ H _ I h=>kC I hg hm hv ⟨v,H,I,r,h⟩ hn hd
variable {a b:Ag}{ta tb:TE}{pos:Pos}
def PC (X:Cx) (op:CmpOp) (a b:Ag) (t:TE):Prop :=
 ∀ (pins:Ab (Af × Obj)) (s:Ac) (σ:St) (H:Hp) (Q:VK),Inv X pins σ H s->t σ H Q ->
  wpAny (model X.prog X.w) X.A (eval a X.env) (fun v s₁=>wpAny (model X.prog X.w) X.A (eval b X.env) (fun u s₂=>wpAny (model X.prog X.w) X.A (compareOp op v u) (EP X pins σ Q) X.xe s₂) X.xe s₁) X.xe s
theorem Z3C (b:Ag) {op:CmpOp}(h:op ≠ .In) (h2:op ≠ .NotIn):behindInMarks op b=false:=by
 have e1:(op == CmpOp.In)=false:=by cases op <;> first | rfl | exact absurd rfl h
 have e2:(op == CmpOp.NotIn)=false:=by cases op <;> first | rfl | exact absurd rfl h2
 cases b <;> simp [behindInMarks,e1,e2]
def tB (t:TE):TT:=fun σ H Q=>t σ H fun x H1=>∃ c,x=.bl c /\ Q c H1
theorem pt_cmp (h:PC X op a b t) (h1:behindInMarks op b=false:=by first | exact Z3C _ (by decide) (by decide) | rfl):PT X (.Compare a [op] [b] pos) (tB t):=by
 intro pins s σ H Q I hw;refine wpAny_isTrue_Compare1 (thn (h pins s σ H _ I hw) fun v s1 h1=>thn h1 fun u s2 h2=>thn h2 fun c s3 ⟨x,H1,I1,r1,q1⟩=>?_) h1;obtain⟨d,rfl,q⟩:=q1;cases r1;exact wpAny_truthy_bool ⟨H1,I1,q⟩
theorem Z71 (h:PE X e t) (he:∀ whole,isTrue e X.env whole=(do let v <- whole;standAt e.pos;holding [v] (truthy v)):=by intro _;rfl):PT X e (tB t):=by
 intro pins s σ H Q I hw;refine isTrue_plain (thn (h pins s σ H _ I hw) fun v s1 ⟨x,H1,I1,r1,q1⟩=>?_) (he _);obtain⟨d,rfl,q⟩:=q1;cases r1;exact wpAny_truthy_bool ⟨H1,I1,q⟩
variable {tA tB':TT}{rest:Ab Ag}
def Z97 (t u:TT):TT:=fun σ H Q=>t σ H fun c H1=>if c=true then u σ H1 Q else Q false H1
def tOr (t u:TT):TT:=fun σ H Q=>t σ H fun c H1=>if c=true then Q true H1 else u σ H1 Q
def Z90 (t:TT):TT:=fun σ H Q=>t σ H fun c H1=>Q (!c) H1
theorem Z56 (ha:PT X a tA):PW X (.BoolOp .And [a] pos) tA:=by
 intro wh pins s σ H Q I h;refine isTrue_and (thn (ha pins s σ H Q I h) fun c s1 e=>?_);cases c with
 | true=>exact isTrue_and_nil e
 | false=>exact e
theorem Z6Z (ha:PT X a tA):PW X (.BoolOp .Or [a] pos) tA:=by
 intro wh pins s σ H Q I h;refine isTrue_or (thn (ha pins s σ H Q I h) fun c s1 e=>?_);cases c with
 | false=>exact isTrue_or_nil e
 | true=>exact e
theorem Z70 (ha:PT X a tA) (hb:PW X (.BoolOp .And (b :: rest) pos) tB'):PW X (.BoolOp .And (a :: b :: rest) pos) (Z97 tA tB'):=by
 intro wh pins s σ H Q I h;refine isTrue_and (thn (ha pins s σ H _ I h) fun c s1 ⟨H1,I1,q1⟩=>?_);cases c with
 | true=>exact hb wh pins s1 σ H1 Q I1 q1
 | false=>exact⟨H1,I1,q1⟩
theorem Z8p (ha:PT X a tA) (hb:PW X (.BoolOp .Or (b :: rest) pos) tB'):PW X (.BoolOp .Or (a :: b :: rest) pos) (tOr tA tB'):=by
 intro wh pins s σ H Q I h;refine isTrue_or (thn (ha pins s σ H _ I h) fun c s1 ⟨H1,I1,q1⟩=>?_);cases c with
 | true=>exact⟨H1,I1,q1⟩
 | false=>exact hb wh pins s1 σ H1 Q I1 q1
theorem pt_not (ha:PT X a tA):PT X (.UnaryOp .Not a pos) (Z90 tA):=by
 intro pins s σ H Q I h;exact isTrue_not (ha pins s σ H (fun c H1=>Q (!c) H1) I h)
def Z7U (ta tb:TE):TE:=fun σ H Q=>ta σ H fun x H1=>∃ c,x=.bl c /\ if c=true then tb σ H1 Q else Q (.bl false) H1
def Z7O (ta:TE):TE:=fun σ H Q=>ta σ H fun x H1=>∃ c,x=.bl c /\ Q (.bl (!c)) H1
theorem Z78 (h:PE X a t):PE X (.BoolOp op [a] pos) t:=fun pins s σ H Q I hw=>BoolOp_one (h pins s σ H Q I hw)
theorem pe_and (ha:PE X a ta) (hb:PE X (.BoolOp .And (b :: rest) pos) tb):PE X (.BoolOp .And (a :: b :: rest) pos) (Z7U ta tb):=by
 intro pins s σ H Q I h;refine BoolOp_and (thn (ha pins s σ H _ I h) fun v s1 ⟨x,H1,I1,r1,q1⟩=>?_);obtain⟨c,rfl,q1⟩:=q1;cases r1;refine wpAny_truthy_bool ?_;cases c with
 | true=>exact hb pins s1 σ H1 Q I1 q1
 | false=>exact⟨.bl false,H1,I1,rfl,q1⟩
theorem pe_not (ha:PE X a ta):PE X (.UnaryOp .Not a pos) (Z7O ta):=by
 intro pins s σ H Q I h;refine UnaryOp_ (thn (ha pins s σ H _ I h) fun v s1 ⟨x,H1,I1,r1,q1⟩=>?_);obtain⟨c,rfl,q1⟩:=q1;cases r1;exact not_of (wpAny_truthy_bool ⟨.bl (!c),H1,I1,rfl,q1⟩)
end
def SqL (K:Frag) (H:Hp) (a:Af) (xs:Ab V):Prop :=
 Rd H a (.lst xs) \/
  ∃ (o:Obj) (its:Ae Ad) (n:Nat),K.lookup a=some o /\ o.cls=.type "list" /\ o.dict=none /\ o.data=.seq its n /\ its.size <= sizeLine /\ Vals xs its.toList
def SqT (K:Frag) (H:Hp) (a:Af) (xs:Ab V):Prop :=
 Rd H a (.tup xs) \/
  ∃ (o:Obj) (its:Ae Ad) (n:Nat),K.lookup a=some o /\ o.cls=.type "tuple" /\ o.data=.seq its n /\ its.size <= sizeLine /\ Vals xs its.toList
def Z9q:Ad->Aa V
 | .none=>some .non
 | .bool b=>some (.bl b)
 | .int i _=>some (.int i)
 | .str x _=>some (.str x)
 | .bytes b _=>some (.byt b)
 | .float b _=>some (.flt b)
 | .ref a=>some (.ref a)
 | .type n=>some (.ty n)
 | _=>none
theorem RelV.abs (r:RelV x u):Z9q u=some x:=by
 cases x with
 | non=>cases r;rfl
 | bl _=>cases r;rfl
 | int _=>obtain⟨t,rfl⟩:=r;rfl
 | str _=>obtain⟨t,rfl⟩:=r;rfl
 | byt _=>obtain⟨t,rfl⟩:=r;rfl
 | flt _=>obtain⟨t,rfl⟩:=r;rfl
 | ref _=>cases r;rfl
 | ty _=>cases r;rfl
theorem RelV.inj (r:RelV x u) (q:RelV y u):x=y:=QaS (r.abs.symm.trans q.abs)
theorem Vals.inj:∀ {xs ys:Ab V}{us:Ab Ad},Vals xs us->Vals ys us->xs=ys
 | _,_,_,.nil,.nil=>rfl
 | _,_,_,.cons r t,.cons r' t'=>by rw [r.inj r',Vals.inj t t']
section
variable {X:Cx}{pins:Ab (Af × Obj)}{σ:St}{H:Hp}{s:Ac}{a:Af}{xs ys:Ab V}
theorem SqL.of {K:Frag}(h:H a=some (.lst xs)):SqL K H a xs:=.inl (.inl h)
theorem SqT.of {K:Frag}(h:H a=some (.tup xs)):SqT K H a xs:=.inl (.inl h)
theorem Inv.list (I:Inv X pins σ H s) (h:SqL X.K H a xs):∃ its:Ab Ad,Vals xs its /\ PlainL s.heap a its.toArray /\ xs.length <= sizeLine:=by
 rcases h with h | ⟨o,its,n,hk,hc,hd,hs,hz,r⟩
 .obtain⟨z,its,n,r,e⟩:=h.ok I.hok;exact⟨its,r,⟨_,n,e,rfl,rfl,rfl⟩,z⟩
 .refine⟨its.toList,r,⟨o,n,I.kIn a o hk,hc,hd,by simpa using hs⟩,?_⟩;have e:=r.length;simp only [Qak] at e;omega
theorem Inv.tuple (I:Inv X pins σ H s) (h:SqT X.K H a xs):∃ its:Ab Ad,Vals xs its /\ IsTup s.heap a its.toArray /\ xs.length <= sizeLine:=by
 rcases h with h | ⟨o,its,n,hk,hc,hs,hz,r⟩
 .obtain⟨z,its,r,p⟩:=h.ok I.hok;exact⟨its,r,p,z⟩
 .refine⟨its.toList,r,⟨o,I.kIn a o hk,hc,n,by simpa using hs⟩,?_⟩;have e:=r.length;simp only [Qak] at e;omega
theorem Inv.list_inj (I:Inv X pins σ H s) (h:SqL X.K H a xs) (h':SqL X.K H a ys):xs=ys:=by
 obtain⟨its,r,⟨o,n,e,_,_,d⟩,_⟩:=I.list h;obtain⟨its',r',⟨o',n',e',_,_,d'⟩,_⟩:=I.list h';rw [e] at e';cases e';rw [d] at d';injection d' with d1 _;have:its=its':=by simpa using congrArg Array.toList d1
 subst this;exact r.inj r'
theorem Inv.tuple_inj (I:Inv X pins σ H s) (h:SqT X.K H a xs) (h':SqT X.K H a ys):xs=ys:=by
 obtain⟨its,r,⟨o,e,_,n,d⟩,_⟩:=I.tuple h;obtain⟨its',r',⟨o',e',_,n',d'⟩,_⟩:=I.tuple h';rw [e] at e';cases e';rw [d] at d';injection d' with d1 _;have:its=its':=by simpa using congrArg Array.toList d1
 subst this;exact r.inj r'
end
abbrev Cx.wish (X:Cx) (E:Ad->Ac->Prop):Cx:={ X with xe:=E }
abbrev Cx.nox (X:Cx):Cx:=X.wish fun _ _=>False
theorem Cx.Ok.wish {X:Cx}(ok:X.Ok) (E:Ad->Ac->Prop):(X.wish E).Ok :=
 ⟨ok.mod,ok.kind,ok.glob,ok.blt,ok.above,ok.inj,ok.has,ok.cab,ok.hd,ok.frames,ok.stk,ok.exf,ok.bs,ok.bsz,ok.noex,ok.exfs,ok.funs,ok.frf⟩
theorem Cx.Ok.unwish {X:Cx}(ok:(X.wish E).Ok):X.Ok :=
 ⟨ok.mod,ok.kind,ok.glob,ok.blt,ok.above,ok.inj,ok.has,ok.cab,ok.hd,ok.frames,ok.stk,ok.exf,ok.bs,ok.bsz,ok.noex,ok.exfs,ok.funs,ok.frf⟩
section
variable {X:Cx}{pins:Ab (Af × Obj)}{σ:St}{H:Hp}{s:Ac}{E:Ad->Ac->Prop}
theorem Inv.wish (I:Inv X pins σ H s) (E:Ad->Ac->Prop):Inv (X.wish E) pins σ H s:=⟨I.ok.wish E,I.os,I.bare,I.base,I.loc,I.cell,I.free,I.freeC,I.pin,I.hok,I.len⟩
theorem Inv.unwish (I:Inv (X.wish E) pins σ H s):Inv X pins σ H s:=⟨I.ok.unwish,I.os,I.bare,I.base,I.loc,I.cell,I.free,I.freeC,I.pin,I.hok,I.len⟩
theorem SP.unwish (h:SP (X.wish E) pins D f s'):SP X pins D f s':=by
 cases f with
 | next=>obtain⟨σ',H',I,q⟩:=h;exact⟨σ',H',I.unwish,q⟩
 | brk=>obtain⟨σ',H',I,q⟩:=h;exact⟨σ',H',I.unwish,q⟩
 | cont=>obtain⟨σ',H',I,q⟩:=h;exact⟨σ',H',I.unwish,q⟩
 | ret u=>obtain⟨v,σ',H',I,r,q⟩:=h;exact⟨v,σ',H',I.unwish,r,q⟩
theorem PSs.nox {st:Ab Stmt}(h:PSs X.nox st t):PSs X st t:=fun pins s σ H D I hw =>
 Rc (h pins s σ H D (I.wish _) hw) (fun _ _ q=>q.unwish) fun _ _ z=>False.elim z
end
section
variable {X:Cx}{st:Stmt}{rest:Ab Stmt}{t u:TS}{e:Ag}{te:TE}{pos:Pos}
def Z7Q:TS:=fun D σ H=>D.nx σ H
def Z6H (t u:TS):TS:=fun D σ H=>t { D with nx:=u D } σ H
theorem Z5a:PSs X [] Z7Q:=fun _ _ σ H _ I h=>wpAny_execs_nil ⟨σ,H,I,h⟩
theorem wB (h1:PS X st t) (h2:PSs X rest u):PSs X (st :: rest) (Z6H t u):=by
 intro pins s σ H D I h;refine wpAny_execs_cons (thn (h1 pins s σ H { D with nx:=u D } I h) fun f s1 q=>?_);cases f with
 | next =>
  obtain⟨σ',H',I',q⟩:=q;exact h2 pins s1 σ' H' D I' q
 | ret v=>exact q
 | brk=>exact q
 | cont=>exact q
theorem Z0z (h1:PS X st t):PSs X [st] t:=by
 intro pins s σ H D I h;refine wpAny_execs_cons (thn (h1 pins s σ H D I h) fun f s1 q=>?_);cases f with
 | next=>exact wpAny_execs_nil q
 | ret v=>exact q
 | brk=>exact q
 | cont=>exact q
theorem Inv.quiet (I:Inv X pins σ H s):interactive X.env=false:=by simp [interactive,I.ok.kind]
def Z7S (te:TE):TS:=fun D σ H=>te σ H fun _ H1=>D.nx σ H1
theorem Z5b (he:PE X e te) (hs:swapsWith e none pos.line X.env=pure false:=by rfl):PS X (.Expr e pos) (Z7S te):=by
 intro pins s σ H D I h;exact wpAny_Expr_any (thn (he pins s σ H _ I h) fun v s1 ⟨x,H1,I1,r1,q1⟩=>⟨σ,H1,I1,q1⟩) I.quiet hs
def Z8Z (te:TE):TS:=fun D σ H=>te σ H D.rt
theorem V4 (he:PE X e te):PS X (.Return (some e) pos) (Z8Z te):=by
 intro pins s σ H D I h;exact wpAny_Return_some (thn (he pins s σ H _ I h) fun v s1 ⟨x,H1,I1,r1,q1⟩=>⟨x,σ,H1,I1,r1,q1⟩)
def Z92 (c:TT) (t u:TS):TS:=fun D σ H=>c σ H fun b H1=>if b=true then t D σ H1 else u D σ H1
theorem Z8q (hc:PT X c tc) (ha:PSs X a t) (hb:PSs X b u):PS X (.If c a b pos) (Z92 tc t u):=by
 intro pins s σ H D I h;refine wpAny_If (thn (hc pins s σ H _ I h) fun d s1 ⟨H1,I1,q1⟩=>?_);cases d with
 | true=>exact ha pins s1 σ H1 D I1 q1
 | false=>exact hb pins s1 σ H1 D I1 q1
end
abbrev TG:=V->St->Hp->(St->Hp->Prop)->Prop
abbrev TGs:=Ab V->St->Hp->(St->Hp->Prop)->Prop
def PG (X:Cx) (target:Ag) (t:TG):Prop :=
 ∀ (pins:Ab (Af × Obj)) (s:Ac) (σ:St) (H:Hp) (v:V) (u:Ad) (Q:St->Hp->Prop),Inv X pins σ H s->RelV v u->t v σ H Q ->
  wpAny (model X.prog X.w) X.A (assign target X.env u) (fun _ s'=>∃ σ' H',Inv X pins σ' H' s' /\ Q σ' H') X.xe s
def PGs (X:Cx) (ts:Ab Ag) (t:TGs):Prop :=
 ∀ (pins:Ab (Af × Obj)) (s:Ac) (σ:St) (H:Hp) (vs:Ab V) (us:Ab Ad) (Q:St->Hp->Prop),Inv X pins σ H s->Vals vs us->t vs σ H Q ->
  wpAny (model X.prog X.w) X.A (assignInOrder ((assignEach ts X.env).map (·.2)) us) (fun _ s'=>∃ σ' H',Inv X pins σ' H' s' /\ Q σ' H') X.xe s
abbrev Z8T:=V->V->V->Hp->(Hp->Prop)->Prop
def Z8U (X:Cx) (t:Z8T):Prop :=
 ∀ (pins:Ab (Af × Obj)) (s:Ac) (σ:St) (H:Hp) (o i v:V) (ov iv u:Ad) (Q:Hp->Prop),Inv X pins σ H s->RelV o ov->RelV i iv->RelV v u->t o i v H Q ->
  wpAny (model X.prog X.w) X.A (setItem ov iv u) (fun _ s'=>∃ H',Inv X pins σ H' s' /\ Q H') X.xe s
section
variable {X:Cx}{pos:Pos}
def zO (i:Nat):TG:=fun v σ H Q=>Q (σ.set i (some v)) H
theorem dG (hN:X.N.Nodup) (hi:X.N[i]? = some x) (hx:Loc X.env.scope x) (hf:X.fn x=true \/ X.env.scope.names.lookup x=some .local:=by first | exact .inl rfl | exact .inr rfl | assumption):PG X (.Name x pos) (zO i):=by
 intro pins s σ H v u Q I r h;exact wpAny_assign_Name (J8 I hN hi hx r (fun s' I'=>⟨_,H,I',h⟩) hf)
def Z8M:TGs:=fun vs σ H Q=>vs=[] /\ Q σ H
def Z6v (t:TG) (u:TGs):TGs:=fun vs σ H Q=>∃ v r,vs=v :: r /\ t v σ H fun σ' H'=>u r σ' H' Q
theorem lK:PGs X [] Z8M:=by
 intro pins s σ H vs us Q I r h;obtain⟨e,h⟩:=h;subst e;cases r;exact assignInOrder_nil ⟨σ,H,I,h⟩
theorem dC (h1:PG X e t) (h2:PGs X es u)
  (hs:(assignEach (e :: es) X.env).map (·.2)=assign e X.env :: (assignEach es X.env).map (·.2):=by rfl):PGs X (e :: es) (Z6v t u):=by
 intro pins s σ H vs us Q I r h;obtain⟨v,vr,e1,h⟩:=h;subst e1;cases r with
 | cons r rr =>
  rw [hs];refine assignInOrder_cons (thn (h1 pins s σ H _ _ _ I r h) fun _ s1 ⟨σ1,H1,I1,q1⟩=>?_);exact h2 pins s1 σ1 H1 _ _ Q I1 rr q1
def Z8K (K:Frag) (n:Nat) (t:TGs):TG:=fun v σ H Q=>∃ a xs,v=.ref a /\ SqT K H a xs /\ xs.length=n /\ t xs σ H Q
theorem V7 (hc:X.calm=true) (h:PGs X es t)
  (hn:(assignEach es X.env).length=n:=by rfl) (hst:(assignEach es X.env).findIdx? (·.1)=none:=by rfl):PG X (.Tuple es k pos) (Z8K X.K n t):=by
 intro pins s σ H v u Q I r hw;obtain⟨a,xs,e1,hq,hl,hw⟩:=hw;subst e1;cases r;obtain⟨its,rv,ht,hz⟩:=I.tuple hq;refine assign_Tuple_tuple (I.ok.hd hc) ht (by simp [hn,<- hl,rv.length]) hst fun h' hx=>?_;have I1:Inv X pins σ H { s with heap:=h' }:=I.kept (t':=s.toks) fun b o e=>hx b o (QaA (Qah e)) e;exact h pins _ σ H xs _ Q I1 (by simpa using rv) hw
def Z8L (to ti:TE) (t:Z8T):TG:=fun v σ H Q=>to σ H fun o H1=>ti σ H1 fun i H2=>t o i v H2 fun H3=>Q σ H3
theorem Z75 (ho:PE X o to) (hi:PE X i ti) (hs:Z8U X t)
  (ha:∀ v,assign (.Subscript o i pos) X.env v=(do
   let ov <- holding [v] (eval o X.env)
   let iv <- holding [v,ov] (eval i X.env)
   standAt pos
   holding [v,ov,iv] (setItem ov iv v)
   release [v,ov,iv] []):=by intro _;rfl):PG X (.Subscript o i pos) (Z8L to ti t):=by
 intro pins s σ H v u Q I r h;rw [ha];refine Ra (Rg (thn (ho pins s σ H _ I h) fun ov s1 ⟨x,H1,I1,r1,q1⟩=>?_));refine Ra (Rg (thn (hi pins s1 σ H1 _ I1 q1) fun iv s2 ⟨y,H2,I2,r2,q2⟩=>?_));refine Ra (wpAny_standAt (Ra (Rg (thn (hs pins s2 σ H2 x y v ov iv u _ I2 r1 r2 r q2) fun _ s3 ⟨H3,I3,q3⟩=>?_))));exact wpAny_release ⟨σ,H3,I3,q3⟩
def Z19 (te:TE) (g:TG):TS:=fun D σ H=>te σ H fun x H1=>g x σ H1 D.nx
theorem Z3h (he:PE X e te) (hg:PG X tg g) (hs:swapsWithSole [tg] e pos.line X.env=pure false:=by rfl) (hw:swappedStores [tg] e X.env=pure none:=by rfl)
  (h1:(assignEach [tg] X.env).map (·.2)=[assign tg X.env]:=by rfl):PS X (.Assign [tg] e pos) (Z19 te g):=by
 intro pins s σ H D I h;refine wpAny_Assign_stores (thn (he pins s σ H _ I h) fun v s1 ⟨x,H1,I1,r1,q1⟩=>?_) hs hw;rw [h1];exact thn (hg pins s1 σ H1 x v _ I1 r1 q1) fun _ s2 q=>q
theorem Z3g (hN:X.N.Nodup) (hi:X.N[i]? = some x) (hx:Loc X.env.scope x) (he:PE X e te) (hs:swapsWith e (some (.Name x pos')) pos.line X.env=pure false:=by rfl) (hf:X.fn x=true \/ X.env.scope.names.lookup x=some .local:=by first | exact .inl rfl | exact .inr rfl | assumption) :
  PS X (.Assign [.Name x pos'] e pos) (Z19 te (zO i)):=by
 intro pins s σ H D I h;refine wpAny_Assign_Name (thn (he pins s σ H _ I h) fun v s1 ⟨y,H1,I1,r1,q1⟩=>?_) hs;exact J8 I1 hN hi hx r1 (fun s2 I2=>⟨_,H1,I2,q1⟩) hf
end
structure It where
 go:Nat->Hp->Prop
 yld:Nat->Hp->V->Hp->Prop
 stop:Nat->Hp->Prop
def yG (X:Cx) (pins:Ab (Af × Obj)) (H:Hp) (b:Af):Prop :=
 H b=none /\ b ≠ X.env.locals /\ b ∉ X.fs /\ (b ∈ X.ex \/ X.s₀.heap.objs.size <= b) /\ (∀ x c,X.env.cells.lookup x=some c->c ≠ b) /\ ∀ p ∈ X.pn ++ pins,p.1 ≠ b
theorem Inv.fpOk (I:Inv X pins σ H s) (hb:s.heap.objs.size <= b) (hn:H' b=none):yG X pins H' b:=by
 refine⟨hn,Nat.ne_of_gt (QaE I.lt hb),I.nofs hb,.inr (QaV I.sz hb),fun x c e z=>?_,fun p hp z=>?_⟩
 .obtain⟨v,q⟩:=I.cell x c e;exact absurd (QaE q.lt (by rw [z];exact hb)) (Qbf _)
 .exact absurd (QaE (Qah (I.pin p hp).1) (by rw [z];exact hb)) (Qbf _)
structure Q3 (P:Program) (w:World) (K:Frag) (tg:Expr) (J:It) (fp:List Addr) (it:Addr) (tn:Nat->Heap->Prop):Prop where
 mem:it ∈ fp
 obj:∀ i h,tn i h->∀ b ∈ fp,∃ o,h.get? b=some o /\ ∀ v,o.data ≠ .cell v
 keep:∀ i h h',tn i h->(∀ b ∈ fp,∀ o,h.get? b=some o->h'.get? b=some o)->tn i h'
 item:∀ (X:Cx),X.prog=P->X.w=w->X.K=K->X.calm=true->∀ (i:Nat) (pins:Ab (Af × Obj)) (s:Ac) (σ:St) (H:Hp) (E:Ad->Ac->Prop),Inv X pins σ H s->(∀ b ∈ fp,yG X pins H b)->tn i s.heap->J.go i H ->
  wpAny (model P w) X.A (pyNext (.ref it)) (fun r s1=>∃ u,r=some u /\
   wpAny (model P w) X.A (letOwnedTupleGo tg (.ref it) u) (fun _ s2=>∃ x H',Inv X pins σ H' s2 /\ RelV x u /\ J.yld i H x H' /\ tn (i + 1) s2.heap /\ ∀ b ∈ fp,H' b=none) E s1) E s
 done:∀ (X:Cx),X.prog=P->X.w=w->X.K=K->X.calm=true->∀ (i:Nat) (pins:Ab (Af × Obj)) (s:Ac) (σ:St) (H:Hp) (E:Ad->Ac->Prop),Inv X pins σ H s->(∀ b ∈ fp,yG X pins H b)->tn i s.heap->J.stop i H ->
  wpAny (model P w) X.A (pyNext (.ref it)) (fun r s1=>r=none /\ Inv X pins σ H s1) E s
 self:∀ (A:Ai) (i:Nat) (s:Ac) (Q:Ad->Ac->Prop) (E:Ad->Ac->Prop),tn i s.heap->Q (.ref it) s->wpAny (model P w) A (pyIter (.ref it)) Q E s
abbrev TI:=St->Hp->(It->Hp->Prop)->Prop
def PIE (X:Cx) (pins:Ab (Af × Obj)) (σ:St) (tg:Ag) (R:It->Hp->Prop) (itv:Ad) (s2:Ac):Prop :=
 ∃ (it:Af) (fp:Ab Af) (tn:Nat->Ah->Prop) (J:It) (H':Hp),itv=.ref it /\ Inv X pins σ H' s2 /\ Q3 X.prog X.w X.K tg J fp it tn /\ tn 0 s2.heap /\ (∀ b ∈ fp,yG X pins H' b) /\ R J H'
def PI (X:Cx) (tg iter:Ag) (wi:TI):Prop :=
 ∀ (pins:Ab (Af × Obj)) (s:Ac) (σ:St) (H:Hp) (R:It->Hp->Prop),Inv X pins σ H s->wi σ H R ->
  wpAny (model X.prog X.w) X.A (eval iter X.env) (fun v s1=>wpAny (model X.prog X.w) X.A (pyIter v) (PIE X pins σ tg R) X.xe s1) X.xe s
theorem Z0M (ho:s.heap.get? it=some o) (hc:o.cls=.type n) (hd:o.data=.fields vs)
  (hn:["enumerate","zip","dict_itemiterator","dict_reverseitemiterator","odict_iterator","itertools.zip_longest","itertools.pairwise"].contains n=false) (hQ:Q () s):wpAny M A (letOwnedTupleGo tg (.ref it) u) Q E s:=by
 unfold letOwnedTupleGo;cases tg <;> first
  | exact Rb hQ
  | (cases u <;> first
    | exact Rb hQ
    | (refine Ra (wpAny_load ho ?_)
       rw [hc,hd];show wpAny M A (if (["enumerate","zip","dict_itemiterator","dict_reverseitemiterator","odict_iterator","itertools.zip_longest","itertools.pairwise"].contains n && vs[0]? == some (rawInt _))=true then _ else _) Q E s;rw [if_neg (by intro h;rw [hn,Bool.false_and] at h;cases h)];exact Rb hQ))
def Itl (K:Frag) (a:Af):It :=
 ⟨fun i H=>∃ xs x,SqL K H a xs /\ xs[i]? = some x,fun i H x H'=>H'=H /\ ∀ xs,SqL K H a xs->xs[i]? = some x,fun i H=>∃ xs,SqL K H a xs /\ xs.length <= i⟩
def Itt (K:Frag) (a:Af):It :=
 ⟨fun i H=>∃ xs x,SqT K H a xs /\ xs[i]? = some x,fun i H x H'=>H'=H /\ ∀ xs,SqT K H a xs->xs[i]? = some x,fun i H=>∃ xs,SqT K H a xs /\ xs.length <= i⟩
def Itr (lo:Int) (n:Nat):It:=⟨fun i _=>i < n,fun i H x H'=>H'=H /\ x=.int (lo + i),fun i _=>n <= i⟩
theorem Z13 {K:Frag}(a it:Af):Q3 P w K tg (Itl K a) [it] it (fun i h=>h.IsListIter it a i) where
 mem:=by simp
 obj:=fun i h st b hb=>by
  have e:b=it:=by simpa using hb
  subst e;obtain⟨o,e,c,d⟩:=st;exact⟨o,e,fun v z=>by rw [d] at z;cases z⟩
 keep:=fun i h h' st k=>st.at fun o e=>k it (by simp) o e
 item:=by
  intro X hP hw hK hc i pins s σ H E I hf st hg;subst hP hw hK;obtain⟨xs,x,hq,hx⟩:=hg;obtain⟨its,rv,p,hz⟩:=I.list hq;obtain⟨u,hu,ru⟩:=rv.get hx;obtain⟨f0,f1,f2,f3,f4,f5⟩:=hf it (by simp);refine wpAny_pyNext_list_item st p.isList (x:=u) (by simpa using hu) fun h' st' sb=>?_;have I1:Inv X pins σ H { s with heap:=h' }:=I.turned (t':=s.toks) (fun b o hb e=>(sb.2 b hb).trans e) f0 f1 f3 f4 f5;obtain⟨o,e,c,d⟩:=id st';exact⟨u,rfl,Z0M (s:={ s with heap:=h' }) e c d (by decide) ⟨x,H,I1,ru,⟨rfl,fun ys hy=>by rw [I.list_inj hy hq];exact hx⟩,st',fun b hb=>(hf b hb).1⟩⟩
 done:=by
  intro X hP hw hK hc i pins s σ H E I hf st hg;subst hP hw hK;obtain⟨xs,hq,hx⟩:=hg;obtain⟨its,rv,p,hz⟩:=I.list hq;obtain⟨f0,f1,f2,f3,f4,f5⟩:=hf it (by simp);have hl:=rv.length;exact wpAny_pyNext_list_end (I.ok.hd hc) st p.isList (by simp;omega) fun h' eb=>⟨rfl,I.turned (t':=s.toks) (fun b o hb e=>eb b o hb e) f0 f1 f3 f4 f5⟩
 self:=fun _ _ _ _ _ st h=>wpAny_pyIter_listiter st h
theorem R4 {K:Frag}(a it:Af):Q3 P w K tg (Itt K a) [it] it (fun i h=>h.IsTupleIter it a i) where
 mem:=by simp
 obj:=fun i h st b hb=>by
  have e:b=it:=by simpa using hb
  subst e;obtain⟨o,e,c,d⟩:=st;exact⟨o,e,fun v z=>by rw [d] at z;cases z⟩
 keep:=fun i h h' st k=>st.at fun o e=>k it (by simp) o e
 item:=by
  intro X hP hw hK hc i pins s σ H E I hf st hg;subst hP hw hK;obtain⟨xs,x,hq,hx⟩:=hg;obtain⟨its,rv,p,hz⟩:=I.tuple hq;obtain⟨u,hu,ru⟩:=rv.get hx;obtain⟨f0,f1,f2,f3,f4,f5⟩:=hf it (by simp);refine wpAny_pyNext_tuple_item st (show s.heap.IsTuple a its.toArray from p) (x:=u) (by simpa using hu) fun h' st' sb=>?_
  have I1:Inv X pins σ H { s with heap:=h' }:=I.turned (t':=s.toks) (fun b o hb e=>(sb.2 b hb).trans e) f0 f1 f3 f4 f5;obtain⟨o,e,c,d⟩:=id st';exact⟨u,rfl,Z0M (s:={ s with heap:=h' }) e c d (by decide) ⟨x,H,I1,ru,⟨rfl,fun ys hy=>by rw [I.tuple_inj hy hq];exact hx⟩,st',fun b hb=>(hf b hb).1⟩⟩
 done:=by
  intro X hP hw hK hc i pins s σ H E I hf st hg;subst hP hw hK;obtain⟨xs,hq,hx⟩:=hg;obtain⟨its,rv,p,hz⟩:=I.tuple hq;obtain⟨f0,f1,f2,f3,f4,f5⟩:=hf it (by simp);have hl:=rv.length;exact wpAny_pyNext_tuple_end (I.ok.hd hc) st (show s.heap.IsTuple a its.toArray from p) (by simp;omega) fun h' eb=>⟨rfl,I.turned (t':=s.toks) (fun b o hb e=>eb b o hb e) f0 f1 f3 f4 f5⟩
 self:=fun _ _ _ _ _ st h=>wpAny_pyIter_tupleiter st h
theorem R5 {K:Frag}(it:Af) (lo:Int) (n:Nat):Q3 P w K tg (Itr lo n) [it] it (fun i h=>IsRangeIter h it (lo + (i:Nat) * 1) ((n:Int) - (i:Nat)) 1) where
 mem:=by simp
 obj:=fun i h st b hb=>by
  have e:b=it:=by simpa using hb
  subst e;exact⟨_,st,fun v z=>by
   have z':Data.fields _=Data.cell v:=z;cases z'⟩
 keep:=fun i h h' st k=>k it (by simp) _ st
 item:=by
  intro X hP hw hK hc i pins s σ H E I hf st hg;subst hP hw hK;obtain⟨f0,f1,f2,f3,f4,f5⟩:=hf it (by simp);have W:=Walks.range (prog:=X.prog) (w:=X.w) (I.ok.hd hc) it lo 1 n;refine W.item i s _ _ hg st fun v h' tk hv st' kk=>?_;obtain⟨t,rfl⟩:=hv;have I1:Inv X pins σ H { s with heap:=h',toks:=tk }:=I.turned (fun b o hb e=>kk b o (by simpa using hb) e) f0 f1 f3 f4 f5;refine⟨_,rfl,Z0M (s:={ s with heap:=h',toks:=tk }) (n := "range_iterator") st' rfl rfl (by decide) ⟨.int (lo + i),H,I1,⟨t,?_⟩,⟨rfl,rfl⟩,st',fun b hb=>(hf b hb).1⟩⟩;rw [Int.mul_one]
 done:=by
  intro X hP hw hK hc i pins s σ H E I hf st hg;subst hP hw hK;obtain⟨f0,f1,f2,f3,f4,f5⟩:=hf it (by simp);exact wpAny_pyNext_range_end (I.ok.hd hc) st (by have:n <= i:=hg;omega) fun h' eb=>⟨rfl,I.turned (t':=s.toks) (fun b o hb e=>eb b o hb e) f0 f1 f3 f4 f5⟩
 self:=fun _ _ _ _ _ st h=>wpAny_pyIter_rangeiter st h
section
variable {X:Cx}{tg:Ag}
def Z8I (K:Frag) (tl:TE):TI:=fun σ H R=>tl σ H fun x H1=>∃ a,x=.ref a /\ (∃ xs,SqL K H1 a xs) /\ R (Itl K a) H1
def Z9n (K:Frag) (tl:TE):TI:=fun σ H R=>tl σ H fun x H1=>∃ a,x=.ref a /\ (∃ xs,SqT K H1 a xs) /\ R (Itt K a) H1
theorem Z5h (hl:PE X l tl):PI X tg l (Z8I X.K tl):=by
 intro pins s σ H R I h;refine thn (hl pins s σ H _ I h) fun v s1 ⟨x,H1,I1,r1,q1⟩=>?_;obtain⟨a,e,⟨xs,hq⟩,q⟩:=q1;subst e;cases r1;obtain⟨its,rv,p,hz⟩:=I1.list hq;refine wpAny_pyIter_list p.isList ?_;refine⟨s1.heap.objs.size,[s1.heap.objs.size],_,_,H1,rfl,I1.kept (t':=s1.toks) fun b o e=>Qab _ e,Z13 a _,⟨_,Qan _ rfl,rfl,rfl⟩,fun b hb=>?_,q⟩;have e:b=s1.heap.objs.size:=by simpa using hb
 subst e;exact I1.fpOk (Qag _) (I1.hok.fresh (Qag _))
theorem Z74 (hl:PE X l tl):PI X tg l (Z9n X.K tl):=by
 intro pins s σ H R I h;refine thn (hl pins s σ H _ I h) fun v s1 ⟨x,H1,I1,r1,q1⟩=>?_;obtain⟨a,e,⟨xs,hq⟩,q⟩:=q1;subst e;cases r1;obtain⟨its,rv,p,hz⟩:=I1.tuple hq;refine wpAny_pyIter_tuple (show s1.heap.IsTuple a its.toArray from p) ?_
 refine⟨s1.heap.objs.size,[s1.heap.objs.size],_,_,H1,rfl,I1.kept (t':=s1.toks) fun b o e=>Qab _ e,R4 a _,⟨_,Qan _ rfl,rfl,rfl⟩,fun b hb=>?_,q⟩;have e:b=s1.heap.objs.size:=by simpa using hb
 subst e;exact I1.fpOk (Qag _) (I1.hok.fresh (Qag _))
theorem L1 {R:It->Hp->Prop}{E:Ad->Ac->Prop}{lo hi:Int}{t u v:Tok}{tk:Nat}(I:Inv X pins σ H s) (h1:-(2 ^ 62) <= lo) (h2:lo < 2 ^ 62) (h3:-(2 ^ 62) <= hi) (h4:hi < 2 ^ 62)
  (q:R (Itr lo (hi - lo).toNat) H):wpAny (model X.prog X.w) X.A (pyIter (.ref s.heap.objs.size)) (PIE X pins σ tg R) E { s with heap:=s.heap.push { cls:=.type "range",data:=.fields #[.int lo t,.int hi u,.int 1 v] },toks:=tk }:=by
 refine wpAny_pyIter_range (IsRange.new ..) (small_one h1 h2 h3 h4) ?_;have I1:Inv X pins σ H { s with heap:=s.heap.push { cls:=.type "range",data:=.fields #[.int lo t,.int hi u,.int 1 v] },toks:=tk }:=I.kept fun b o e=>Qab _ e;refine⟨(s.heap.push { cls:=.type "range",data:=.fields #[.int lo t,.int hi u,.int 1 v] }).objs.size,[(s.heap.push { cls:=.type "range",data:=.fields #[.int lo t,.int hi u,.int 1 v] }).objs.size],_,_,H,rfl,
  I1.kept (t':=tk) fun b o e=>Qab _ e,R5 _ lo (hi - lo).toNat,?_,fun b hb=>?_,q⟩
 .have e1:lo + ((0:Nat):Int) * 1=lo:=by simp
  have e2:(((hi - lo).toNat:Nat):Int) - ((0:Nat):Int)=Builtin.Range.rangeSize lo hi 1:=by rw [rangeSize_one];split <;> omega
  show IsRangeIter _ _ (lo + ((0:Nat):Int) * 1) ((((hi - lo).toNat:Nat):Int) - ((0:Nat):Int)) 1;rw [e1,e2];exact Qan _ rfl
 .have e:b=(s.heap.push { cls:=.type "range",data:=.fields #[.int lo t,.int hi u,.int 1 v] }).objs.size:=by simpa using hb
  subst e;exact I1.fpOk (Qag _) (I1.hok.fresh (Qag _))
def Z8G (ta:TA):TI:=fun σ H R=>ta σ H fun vs H1=>∃ j:Int,vs=[.int j] /\ -(2 ^ 62) <= j /\ j < 2 ^ 62 /\ R (Itr 0 j.toNat) H1
def Z8F (ta:TA):TI:=fun σ H R=>ta σ H fun vs H1=>∃ i j:Int,vs=[.int i,.int j] /\ (-(2 ^ 62) <= i /\ i < 2 ^ 62 /\ -(2 ^ 62) <= j /\ j < 2 ^ 62) /\ R (Itr i (j - i).toNat) H1
theorem Z1A (hg:Gl X "range") (hm:X.mg "range" = none) (ha:PA X [a] ta) (hs:starEach [a] X.env=[(false,eval a X.env)]:=by rfl):PI X tg (.Call (.Name "range" p) [a] [] pos) (Z8G ta):=by
 intro pins s σ H R I h;refine Call_ (kC I hg hm boot_range (PyProof.Rows.callWith_type1 (thn (ha pos pins s σ H _ I h) fun us s1 ⟨vs,H1,I1,r1,q1⟩=>?_) hs rfl));obtain⟨j,e,q1,q2,q⟩:=q1;subst e;cases r1 with
 | cons r rr =>
  cases rr;obtain⟨t,rfl⟩:=r;exact call_range_1 (L1 I1 (by omega) (by omega) q1 q2 (by simpa using q))
theorem Z1z (hg:Gl X "range") (hm:X.mg "range" = none) (ha:PA X [a,b] ta) (hs:starEach [a,b] X.env=[(false,eval a X.env),(false,eval b X.env)]:=by rfl) (hs2:starEach [b] X.env=[(false,eval b X.env)]:=by rfl) :
  PI X tg (.Call (.Name "range" p) [a,b] [] pos) (Z8F ta):=by
 intro pins s σ H R I h;refine Call_ (kC I hg hm boot_range (PyProof.Rows.callWith_type1 (thn (ha pos pins s σ H _ I h) fun us s1 ⟨vs,H1,I1,r1,q1⟩=>?_) (by rw [hs,hs2]) (by rw [hs2];rfl)));obtain⟨i,j,e,⟨q1,q2,q3,q4⟩,q⟩:=q1;subst e;cases r1 with
 | cons r rr =>
  cases rr with
  | cons r' rr =>
   cases rr;obtain⟨t,rfl⟩:=r;obtain⟨t',rfl⟩:=r';exact call_range_2 (L1 I1 q1 q2 q3 q4 q)
def Z93 (wi:TI) (g:TG) (tb:TS):TS:=fun D σ H=>wi σ H fun J H1=>∃ W:Nat->Nat->St->Hp->Prop,(∃ m,W 0 m σ H1) /\ ∀ i m σ H,W i m σ H ->
 (J.stop i H /\ D.nx σ H) \/ (J.go i H /\ ∃ N:St->Hp->Prop,(∀ σ' H',N σ' H'->∃ m',m' < m /\ W (i + 1) m' σ' H') /\ ∀ x H',J.yld i H x H'->g x σ H' fun σ2 H2=>tb { D with nx:=N,ct:=N,bk:=D.nx } σ2 H2)
def wE (fp:Ab Af) (h:Ah):Ab (Af × Obj):=fp.filterMap fun b=>(h.get? b).map fun o=>(b,o)
theorem lP (hb:b ∈ fp) (e:h.get? b=some o):(b,o) ∈ wE fp h:=List.mem_filterMap.mpr ⟨b,hb,by rw [e];rfl⟩
theorem Z1K (hp:p ∈ wE fp h):p.1 ∈ fp /\ h.get? p.1=some p.2:=by
 obtain⟨b,hb,e⟩:=List.mem_filterMap.mp hp;cases q:h.get? b with
 | none=>rw [q] at e;cases e
 | some o =>
  rw [q] at e;have e':(b,o)=p:=QaS e;subst e';exact⟨hb,q⟩
theorem Inv.pinned (I:Inv X pins σ H s) (hf:∀ b ∈ fp,yG X pins H b) (ho:∀ b ∈ fp,∃ o,s.heap.get? b=some o /\ ∀ v,o.data ≠ .cell v):Inv X (pins ++ wE fp s.heap) σ H s :=
 I.pins_of fun p hp=>(Qai.mp hp).elim (fun z=>I.pin p (Qam _ z)) fun z=>by
  obtain⟨hb,e⟩:=Z1K z;obtain⟨f0,f1,f2,_⟩:=hf p.1 hb;obtain⟨o,e',d⟩:=ho p.1 hb;rw [e] at e';cases e';exact⟨e,f0,f1,f2,d⟩
theorem Inv.unpinned (I:Inv X (pins ++ pl) σ H s):Inv X pins σ H s:=I.pins_of fun p hp=>I.pin p (Qam _ (Qar _ hp))
theorem Z72 (hp:PassesOwn (model X.prog X.w) X.A X.env X.xe) (hc:X.calm=true) (hi:PI X tg iter wi) (hg:PG X tg g) (hb:PSs X body tb)
  (hs:∀ x,foldedSetIterable iter X.env x=pure x:=by intro _;rfl):PS X (.For tg iter body [] pos) (Z93 wi g tb):=by
 intro pins s σ H D I h;refine wpAny_For (thn (hi pins s σ H _ I h) fun v s1 h1=>thn h1 fun itv s2 h2=>?_) hs;obtain⟨it,fp,tn,J,H2,e,I2,T,st2,f2,W,⟨m0,w0⟩,turn⟩:=h2;subst e
 -- what stays true of the iterator's objects through the loop
 have stat:∀ {H':Hp},(∀ b ∈ fp,H' b=none)->∀ b ∈ fp,yG X pins H' b:=fun hn b hb=>⟨hn b hb,(f2 b hb).2⟩;refine codeAny_forLoop_any (fun n s'=>∃ i σ' H',Inv X pins σ' H' s' /\ tn i s'.heap /\ (∀ b ∈ fp,H' b=none) /\ W i n σ' H') ?_ m0 ⟨0,σ,H2,I2,st2,fun b hb=>(f2 b hb).1,w0⟩;rintro n s3 ⟨i,σ3,H3,I3,st3,fr3,w3⟩;rcases turn i n σ3 H3 w3 with ⟨stop,qn⟩ | ⟨go,N,hN,step⟩
 .refine wpAny_passesOwn hp (thn (T.done X rfl rfl rfl hc i pins s3 σ3 H3 X.xe I3 (stat fr3) st3 stop) fun r s4 ⟨hr,I4⟩=>?_);subst hr;exact wpAny_execs_nil ⟨σ3,H3,I4,qn⟩
 .refine wpAny_passesOwn hp (thn (T.item X rfl rfl rfl hc i pins s3 σ3 H3 X.xe I3 (stat fr3) st3 go) fun r s4 ⟨u,hr,h4⟩=>?_);subst hr;refine wpAny_passesOwn hp (thn h4 fun _ s5 ⟨x,H5,I5,r5,y5,st5,fr5⟩=>?_);have I5':=I5.pinned (stat fr5) (T.obj _ _ st5);refine wpAny_passesOwn hp (thn (hg _ s5 σ3 H5 x u _ I5' r5 (step x H5 y5)) fun _ s6 ⟨σ6,H6,I6,q6⟩=>?_);refine wpAny_passesOwn hp (thn (hb _ s6 σ6 H6 _ I6 q6) fun f s7 q7=>?_);have again:∀ {σ7:St}{H7:Hp},Inv X (pins ++ wE fp s5.heap) σ7 H7 s7->N σ7 H7->∃ m,m < n /\ ∃ i σ' H',Inv X pins σ' H' s7 /\ tn i s7.heap /\ (∀ b ∈ fp,H' b=none) /\ W i m σ' H':=fun {σ7 H7} I7 n7=>by
   obtain⟨m',hm,w7⟩:=hN σ7 H7 n7;refine⟨m',hm,i + 1,σ7,H7,I7.unpinned,T.keep _ _ _ st5 fun b hb o e=>(I7.pin (b,o) (Qam _ (Qam _ (lP hb e)))).1,fun b hb=>?_,w7⟩;obtain⟨o,e,d⟩:=T.obj _ _ st5 b hb;exact (I7.pin (b,o) (Qam _ (Qam _ (lP hb e)))).2.1
  cases f with
  | next=>obtain⟨σ7,H7,I7,n7⟩:=q7;exact again I7 n7
  | cont=>obtain⟨σ7,H7,I7,n7⟩:=q7;exact again I7 n7
  | brk=>obtain⟨σ7,H7,I7,q7⟩:=q7;exact⟨σ7,H7,I7.unpinned,q7⟩
  | ret v=>obtain⟨x7,σ7,H7,I7,r7,q7⟩:=q7;exact⟨x7,σ7,H7,I7.unpinned,r7,q7⟩
end
abbrev R2:=V->V->Hp->VK->Prop
def OpR (X:Cx) (f:Ad->Ad->Sem Ad) (r:R2):Prop :=
 ∀ (pins:Ab (Af × Obj)) (s:Ac) (σ:St) (H:Hp) (x y:V) (v u:Ad) (Q:VK),Inv X pins σ H s->RelV x v->RelV y u->r x y H Q ->
  wpAny (model X.prog X.w) X.A (f v u) (EP X pins σ Q) X.xe s
def UnR (X:Cx) (f:Ad->Sem Ad) (r:V->Hp->VK->Prop):Prop :=
 ∀ (pins:Ab (Af × Obj)) (s:Ac) (σ:St) (H:Hp) (x:V) (v:Ad) (Q:VK),Inv X pins σ H s->RelV x v->r x H Q ->
  wpAny (model X.prog X.w) X.A (f v) (EP X pins σ Q) X.xe s
def CallR (X:Cx) (f:Ad) (r:Ab V->Hp->VK->Prop):Prop :=
 ∀ (pins:Ab (Af × Obj)) (s:Ac) (σ:St) (H:Hp) (xs:Ab V) (us:Ab Ad) (Q:VK),Inv X pins σ H s->Vals xs us->r xs H Q ->
  wpAny (model X.prog X.w) X.A (call f us) (EP X pins σ Q) X.xe s
def tOp (r:R2) (ta tb:TE):TE:=fun σ H Q=>ta σ H fun x H1=>tb σ H1 fun y H2=>r x y H2 Q
def tUn (r:V->Hp->VK->Prop) (ta:TE):TE:=fun σ H Q=>ta σ H fun x H1=>r x H1 Q
def rI (C:Int->Int->Prop) (g:Int->Int->V):R2:=fun x y H Q=>∃ i j,x=.int i /\ y=.int j /\ C i j /\ Q (g i j) H
def rI0 (g:Int->Int->V):R2:=fun x y H Q=>∃ i j,x=.int i /\ y=.int j /\ Q (g i j) H
def rU (g:Int->V):V->Hp->VK->Prop:=fun x H Q=>∃ i,x=.int i /\ Q (g i) H
section
variable {X:Cx}{a b:Ag}{ta tb:TE}{pos:Pos}
theorem Z7z (ha:PE X a ta) (hb:PE X b tb) {pins:Ab (Af × Obj)}{s:Ac}{σ:St}{H:Hp}{R:V->V->Hp->Prop}(I:Inv X pins σ H s)
  (h:ta σ H fun x H1=>tb σ H1 fun y H2=>R x y H2) {Q:Ad->Ac->Prop}{f:Ad->Ad->Sem Ad}
  (hf:∀ v u s2 x y H2,Inv X pins σ H2 s2->RelV x v->RelV y u->R x y H2->wpAny (model X.prog X.w) X.A (f v u) Q X.xe s2) :
  wpAny (model X.prog X.w) X.A (eval a X.env) (fun v s₁=>wpAny (model X.prog X.w) X.A (eval b X.env) (fun u s₂=>wpAny (model X.prog X.w) X.A (f v u) Q X.xe s₂) X.xe s₁) X.xe s:=by
 refine thn (ha pins s σ H _ I h) fun v s1 ⟨x,H1,I1,r1,q1⟩=>?_;refine thn (hb pins s1 σ H1 _ I1 q1) fun u s2 ⟨y,H2,I2,r2,q2⟩=>?_;exact hf v u s2 x y H2 I2 r1 r2 q2
theorem pe_op (ho:OpR X (binaryOp op) r) (ha:PE X a ta) (hb:PE X b tb):PE X (.BinOp a op b pos) (tOp r ta tb):=by
 intro pins s σ H Q I h;exact wpAny_BinOp (Z7z ha hb I h fun v u s2 x y H2 I2 rx ry q=>ho pins s2 σ H2 x y v u Q I2 rx ry q)
theorem pe_un (ho:UnR X (unaryOp op) r) (ha:PE X a ta):PE X (.UnaryOp op a pos) (tUn r ta):=by
 intro pins s σ H Q I h;exact UnaryOp_ (thn (ha pins s σ H _ I h) fun v s1 ⟨x,H1,I1,r1,q1⟩=>ho pins s1 σ H1 x v Q I1 r1 q1)
theorem opI {g:Int->Int->Int}
  (rule:∀ (i j:Int) (t u:Tok) (s:Ac) (Q:Ad->Ac->Prop) (E:Ad->Ac->Prop),C i j->Q (.int (g i j) s.toks) { s with toks:=s.toks + 1 }->wpAny (model X.prog X.w) X.A (f (.int i t) (.int j u)) Q E s) :
  OpR X f (rI C fun i j=>.int (g i j)):=by
 intro pins s σ H x y v u Q I rx ry h;obtain⟨i,j,rfl,rfl,hc,q⟩:=h;obtain⟨t,rfl⟩:=rx;obtain⟨t',rfl⟩:=ry;exact rule i j t t' s _ _ hc ⟨.int (g i j),H,I.tok _,⟨_,rfl⟩,q⟩
theorem Z3w {g:Int->Int->Int}
  (rule:∀ (i j:Int) (t u:Tok) (s:Ac) (Q:Ad->Ac->Prop) (E:Ad->Ac->Prop),Q (.int (g i j) s.toks) { s with toks:=s.toks + 1 }->wpAny (model X.prog X.w) X.A (f (.int i t) (.int j u)) Q E s) :
  OpR X f (rI0 fun i j=>.int (g i j)):=by
 intro pins s σ H x y v u Q I rx ry h;obtain⟨i,j,rfl,rfl,q⟩:=h;obtain⟨t,rfl⟩:=rx;obtain⟨t',rfl⟩:=ry;exact rule i j t t' s _ _ ⟨.int (g i j),H,I.tok _,⟨_,rfl⟩,q⟩
theorem Z5o {g:Int->Int->Bool}
  (rule:∀ (i j:Int) (t u:Tok) (s:Ac) (Q:Ad->Ac->Prop) (E:Ad->Ac->Prop),Q (.bool (g i j)) s->wpAny (model X.prog X.w) X.A (f (.int i t) (.int j u)) Q E s) :
  OpR X f (rI0 fun i j=>.bl (g i j)):=by
 intro pins s σ H x y v u Q I rx ry h;obtain⟨i,j,rfl,rfl,q⟩:=h;obtain⟨t,rfl⟩:=rx;obtain⟨t',rfl⟩:=ry;exact rule i j t t' s _ _ ⟨.bl (g i j),H,I,rfl,q⟩
def Z6c (i j:Int):Prop:=0 <= j /\ j <= 1000000 /\ i.natAbs < 2 ^ 64
theorem R0 (k:Nat):(0:Int) <= 2 ^ k:=by
 rw [two_pow_cast];exact Int.natCast_nonneg _
theorem gC:OpR X (binaryOp .Add) (rI0 fun i j=>.int (i + j)):=Z3w fun _ _ _ _ _ _ _ q=>add_int q
theorem cZ:OpR X (binaryOp .Sub) (rI0 fun i j=>.int (i - j)):=Z3w fun _ _ _ _ _ _ _ q=>sub_int q
theorem cK:OpR X (binaryOp .Mod) (rI (fun _ j=>0 < j) fun i j=>.int (i % j)):=opI fun i j _ _ _ _ _ hc q=>by
 have h1:(0:Int) < j:=hc;exact mod_int' (by omega) (by rw [Int.fmod_eq_emod_of_nonneg i (by omega)];exact q)
theorem Z3r:OpR X (binaryOp .Pow) (rI Z6c fun i j=>.int (i ^ j.toNat)):=opI fun _ _ _ _ _ _ _ hc q=>pow_int_small hc.1 hc.2.1 hc.2.2 q
theorem Z3q:OpR X (binaryOp .RShift) (rI (fun _ j=>0 <= j) fun i j=>.int (i / 2 ^ j.toNat)):=opI fun i j _ _ _ _ _ hc q =>
 rshift_int hc (by rw [Int.fdiv_eq_ediv_of_nonneg i (R0 _)];exact q)
theorem pF:OpR X (binaryOp .BitAnd) (rI0 fun i j=>.int (Builtin.bitAnd i j)):=Z3w fun _ _ _ _ _ _ _ q=>and_int q
theorem yV:OpR X (binaryOp .BitOr) (rI0 fun i j=>.int (Builtin.bitOr i j)):=Z3w fun _ _ _ _ _ _ _ q=>or_int q
theorem C4:OpR X (binaryOp .BitXor) (rI0 fun i j=>.int (Builtin.bitXor i j)):=Z3w fun _ _ _ _ _ _ _ q=>xor_int q
theorem unI {g:Int->Int}
  (rule:∀ (i:Int) (t:Tok) (s:Ac) (Q:Ad->Ac->Prop) (E:Ad->Ac->Prop),Q (.int (g i) s.toks) { s with toks:=s.toks + 1 }->wpAny (model X.prog X.w) X.A (f (.int i t)) Q E s) :
  UnR X f (rU fun i=>.int (g i)):=by
 intro pins s σ H x v Q I rx h;obtain⟨i,rfl,q⟩:=h;obtain⟨t,rfl⟩:=rx;exact rule i t s _ _ ⟨.int (g i),H,I.tok _,⟨_,rfl⟩,q⟩
theorem Q9:UnR X (unaryOp .USub) (rU fun i=>.int (-i)):=unI fun _ _ _ _ _ q=>neg_int q
end
section
variable {X:Cx}{a b c:Ag}{ta tb:TE}{pos:Pos}
theorem Z6 (I:Inv X pins σ H s) (q:Q (.bl k) H) (e:k=k'):EP X pins σ Q (.bool k') s:=by
 subst e;exact⟨.bl k,H,I,rfl,q⟩
theorem Z8v:OpR X (compareOp .Lt) (rI0 fun i j=>.bl (decide (i < j))):=Z5o fun _ _ _ _ _ _ _ q=>lt_int q
theorem Z8w:OpR X (compareOp .LtE) (rI0 fun i j=>.bl (decide (i <= j))):=Z5o fun _ _ _ _ _ _ _ q=>le_int q
theorem Z8x:OpR X (compareOp .Gt) (rI0 fun i j=>.bl (decide (j < i))):=Z5o fun _ _ _ _ _ _ _ q=>gt_int q
theorem Z8y:OpR X (compareOp .GtE) (rI0 fun i j=>.bl (decide (j <= i))):=Z5o fun _ _ _ _ _ _ _ q=>ge_int q
theorem Z1D:OpR X (compareOp .In) (fun x y H Q=>∃ i j,x=.str i /\ y=.str j /\ Q (.bl (!(Builtin.Str.occurrences j i 0 j.length 1).isEmpty)) H):=by
 intro pins s σ H x y v u Q I rx ry h;obtain⟨i,j,rfl,rfl,q⟩:=h;obtain⟨t,rfl⟩:=rx;obtain⟨t',rfl⟩:=ry;exact in_str (Z6 I q rfl)
theorem Z3t:OpR X (compareOp .Is) (fun x y H Q=>y=.non /\ Q (.bl (decide (x=.non))) H):=by
 intro pins s σ H x y v u Q I rx ry h;obtain⟨rfl,q⟩:=h;cases ry;refine is_none_gen (Z6 I q ?_);cases x <;> first
  | (cases rx;rfl)
  | (obtain⟨t,rfl⟩:=rx;rfl)
theorem Z5n:OpR X (compareOp .IsNot) (fun x y H Q=>y=.non /\ Q (.bl (!decide (x=.non))) H):=by
 intro pins s σ H x y v u Q I rx ry h;obtain⟨rfl,q⟩:=h;cases ry;refine isnot_none_gen (Z6 I q ?_);cases x <;> first
  | (cases rx;rfl)
  | (obtain⟨t,rfl⟩:=rx;rfl)
theorem jG (b:Ag) {op:CmpOp}(h:op ≠ .In:=by decide) (h2:op ≠ .NotIn:=by decide):behindInMarks op b=false:=by
 have e1:(op == CmpOp.In)=false:=by cases op <;> first | rfl | exact absurd rfl h
 have e2:(op == CmpOp.NotIn)=false:=by cases op <;> first | rfl | exact absurd rfl h2
 cases b <;> simp [behindInMarks,e1,e2]
theorem C2 (ho:OpR X (compareOp op) r) (ha:PE X a ta) (hb:PE X b tb) (hm:behindInMarks op b=false):PE X (.Compare a [op] [b] pos) (tOp r ta tb):=by
 intro pins s σ H Q I h;exact wpAny_Compare1 (Z7z ha hb I h fun v u s2 x y H2 I2 rx ry q=>ho pins s2 σ H2 x y v u Q I2 rx ry q) hm
def Z7M (t:TE):TT:=fun σ H Q=>t σ H fun x H'=>∃ k,x=.bl k /\ Q k H'
theorem Z59 (ho:OpR X (compareOp op) r) (ha:PE X a ta) (hb:PE X b tb) (hm:behindInMarks op b=false):PT X (.Compare a [op] [b] pos) (Z7M (tOp r ta tb)):=by
 intro pins s σ H Q I h;refine wpAny_isTrue_Compare1 (thn (ha pins s σ H _ I h) fun v s1 ⟨x,H1,I1,r1,q1⟩=>thn (hb pins s1 σ H1 _ I1 q1) fun u s2 ⟨y,H2,I2,r2,q2⟩ =>
  thn (ho pins s2 σ H2 x y v u _ I2 r1 r2 q2) fun c s3 ⟨z,H3,I3,r3,k,e,q3⟩=>?_) hm
 subst e;cases r3;exact wpAny_truthy_bool ⟨H3,I3,q3⟩
theorem sR:(sizeLine:Nat) < 2 ^ 63:=by rw [sizeLine_eq];decide
theorem oE (r:Vals [x] us):∃ u,us=[u] /\ RelV x u:=by
 cases r with
 | cons r1 r2=>cases r2;exact⟨_,rfl,r1⟩
theorem Z2y (r:Vals [x,y] us):∃ u w',us=[u,w'] /\ RelV x u /\ RelV y w':=by
 cases r with
 | cons r1 r2 =>
  cases r2 with
  | cons r3 r4=>cases r4;exact⟨_,_,rfl,r1,r3⟩
theorem Z2j (hc:X.calm=true):CallR X (.builtin "max") (fun xs H Q=>∃ i j,xs=[.int i,.int j] /\ Q (.int (if j > i then j else i)) H):=by
 intro pins s σ H xs us Q I r h;obtain⟨i,j,rfl,q⟩:=h;obtain⟨u,w',rfl,⟨t,rfl⟩,⟨t',rfl⟩⟩:=Z2y r;refine max_two_ints (I.ok.hd hc) fun h' tk k=>⟨_,H,I.kept k,?_,q⟩;by_cases hj:j > i
 .rw [if_pos hj,if_pos hj];exact⟨_,rfl⟩
 .rw [if_neg hj,if_neg hj];exact⟨_,rfl⟩
theorem Z2i (hc:X.calm=true):CallR X (.builtin "min") (fun xs H Q=>∃ i j,xs=[.int i,.int j] /\ Q (.int (if j < i then j else i)) H):=by
 intro pins s σ H xs us Q I r h;obtain⟨i,j,rfl,q⟩:=h;obtain⟨u,w',rfl,⟨t,rfl⟩,⟨t',rfl⟩⟩:=Z2y r;refine min_two_ints (I.ok.hd hc) fun h' tk k=>⟨_,H,I.kept k,?_,q⟩;by_cases hj:j < i
 .rw [if_pos hj,if_pos hj];exact⟨_,rfl⟩
 .rw [if_neg hj,if_neg hj];exact⟨_,rfl⟩
theorem Z2k:CallR X (.type "int") (fun xs H Q=>(∃ i,xs=[.int i] /\ Q (.int i) H) \/ ∃ k,xs=[.bl k] /\ Q (.int (if k then 1 else 0)) H):=by
 intro pins s σ H xs us Q I r h;rcases h with ⟨i,rfl,q⟩ | ⟨k,rfl,q⟩
 .obtain⟨u,rfl,t,rfl⟩:=oE r;exact call_int_int ⟨.int i,H,I,⟨_,rfl⟩,q⟩
 .obtain⟨u,rfl,r1⟩:=oE r;cases r1;exact call_int_bool ⟨.int (if k then 1 else 0),H,I.tok _,⟨_,rfl⟩,q⟩
end
structure ObjM (h:Heap) (x dx C:Addr) (mA:Str->Option Value):Prop where
 obj:h.get? x=some (PySem.W.instObj C dx)
 ns:h.Ns1 dx mA
 ne:dx ≠ x
theorem Z1O {h:Ah}(n:h.Ns1 dx mA):∃ od,h.get? dx=some od /\ ∀ name,PySem.W.lookIn name od=some (mA name):=by
 obtain⟨o,es,ep,ho,hd,hk,_,hm⟩:=n;refine⟨o,ho,fun name=>?_⟩;have e:=hm name;unfold nsFind findBy at e;rw [<- Array.find?_toList] at e;unfold PySem.W.lookIn;rw [hd];dsimp only;split
 .rename_i y q;rw [q] at e;exact congrArg some e
 .rename_i q;rw [q] at e;have a:es.toList.any (·.refKey)=false:=by
   rw [List.any_eq_false];intro y hy;obtain⟨z,t,hkey⟩:=hk y (Array.mem_toList_iff.mp hy);simp [DictEntry.refKey,hkey]
  have a':¬ es.toList.any (·.refKey)=true:=by rw [a];exact Bool.false_ne_true
  rw [if_neg a'];exact congrArg some e
theorem ObjM.look (I:ObjM h x dx C mA):∃ od,PySem.W.InstAt h x (PySem.W.instObj C dx) C (some od) /\ ∀ name,PySem.W.lookIn name od=some (mA name) :=
 let ⟨od,ho,hl⟩:=Z1O I.ns
 ⟨od,⟨I.obj,rfl,rfl,ho⟩,hl⟩
section
variable {prog:Aj}{w:Ak}{A:Ai}{E:Ad->Ac->Prop}{s:Ac}{K:Frag}{x dx C f:Af}{mA:Str->Aa Ad}{name:Str}{v:Ad}
theorem Z5T (X:K.In s.heap) (I:ObjM s.heap x dx C mA) (hg:PySem.W.plainGet K C name=true) (hh:PySem.W.hasDictIn K C=true)
  (ha:PySem.W.findIn K (.ref C) name=some none) (hv:mA name=some v) (hv':PySem.W.handedIn v=true) (h:Q v { s with toks:=s.toks + 1 }) :
  wpAny (model prog w) A (getAttr (.ref x) name expr) Q E s:=by
 obtain⟨od,J,hl⟩:=I.look;exact PySem.W.get_value X J (PySem.W.plainGet_of hg).1 (PySem.W.findObj_own hh ha rfl (by rw [hl,hv])) hv' h
theorem Z4M (X:K.In s.heap) (I:ObjM s.heap x dx C mA)
  (hs:PySem.W.findIn K (.ref C) "__setattr__" = some (some (.builtin "object.__setattr__"))) (hp:PySem.W.plainOver K C=true) (ht:PySem.W.takerIn K C name=some none) (hh:PySem.W.hasDictIn K C=true)
  (hw:PySem.Within mA ns) (hsz:ns.length <= sizeLine)
  (h:∀ h',ObjM h' x dx C (fun y=>if y=name then some v else mA y)->Heap.SameBut dx s.heap h'->Q () { s with heap:=h',toks:=s.toks + 2 }) :
  wpAny (model prog w) A (setAttr (.ref x) name v) Q E s:=by
 obtain⟨od,J,hl⟩:=I.look;refine PySem.W.set_plain X J hs (PySem.W.osa_open (s:={ s with toks:=s.toks + 1 }) (r:=none) X J hp ht fun b=>?_);obtain⟨cd,hc,hd'⟩:=PySem.W.any_some hh;have hx:s.heap.get? x=some ⟨.ref C,some dx,.plain,#[]⟩:=I.obj;refine Ra (Rb (Ra (Ra (wpAny_loadPart hx (Ra (PySem.W.Looks.here (s:={ s with toks:=s.toks + 1 }) (PySem.W.looks_clsIn X hc) ?_))))));rw [hd'];refine Rb (a:=some dx) (Ra (Rb (Ra ?_)));refine wpAny_nsSet1 (s:={ s with toks:=s.toks + 1 }) I.ns fun h' hn2 hs2=>?_;obtain⟨oD,esD,epD,hoD,hdD,hcD⟩:=hn2.count (PySem.Within.cons name v hw);refine Ra (wpAny_lookBehind hoD (by rw [hdD];exact pastItsLine_dict (QaV hcD (by rw [Qal];omega))) ?_);exact Rb (h _ ⟨(hs2.2 _ (Ne.symm I.ne)).trans I.obj,hn2,I.ne⟩ hs2)
theorem Z3H (X:K.In s.heap) (hm:PySem.W.makesIn K C=true)
  (hi:PySem.W.findIn K (.ref C) "__init__" = some (some (.ref f))) (hf:PySem.W.typeIn K (.ref f)=some (.type "function"))
  (h:codeAny (model prog w) (A.under (.builtin "type.__call__" ⟨.ref C :: vs,kw⟩)) (.call (.ref f) ⟨.ref (s.heap.objs.size + 1) :: vs,kw⟩) (PySem.W.InitBack (s.heap.objs.size + 1) R)
   { s with heap:=(s.heap.push PySem.W.emptyDict).push (PySem.W.instObj C s.heap.objs.size) }) :
  codeAny (model prog w) A (.call (.ref C) ⟨vs,kw⟩) R s:=by
 obtain⟨hh,g,d,t,os⟩:=s;exact PySem.W.make_core (PySem.W.makes_of X hm) (PySem.W.looks_findIn X hi) (fun self=>PySem.W.bind_fn X self hf) (.inl rfl) h
end
def kB (f:Str) (v:V):Ab (Str × V)->Ab (Str × V)
 | []=>[(f,v)]
 | (g,x) :: r=>if g=f then (g,v) :: r else (g,x) :: kB f v r
theorem tT (f g:Str) (v:V):∀ fs:Ab (Str × V),(kB f v fs).lookup g=if g=f then some v else fs.lookup g
 | []=>by
  show List.lookup g [(f,v)]=_;by_cases h:g=f
  .have hb:(g == f)=true:=beq_iff_eq.mpr h;simp only [List.lookup,hb,if_pos h]
  .have hb:(g == f)=false:=beq_eq_false_iff_ne.mpr h;simp only [List.lookup,hb,if_neg h]
 | (k,x) :: r=>by
  have ih:=tT f g v r;rw [show kB f v ((k,x) :: r)=(if k=f then (k,v) :: r else (k,x) :: kB f v r) from rfl]
  by_cases hk:k=f
  .rw [if_pos hk];by_cases h:g=k
   .have hb:(g == k)=true:=beq_iff_eq.mpr h;simp only [List.lookup,hb,if_pos (h.trans hk)]
   .have hb:(g == k)=false:=beq_eq_false_iff_ne.mpr h;simp only [List.lookup,hb,if_neg (fun e:g=f=>h (e.trans hk.symm))]
  .rw [if_neg hk];by_cases h:g=k
   .have hb:(g == k)=true:=beq_iff_eq.mpr h;simp only [List.lookup,hb,if_neg (fun e:g=f=>hk (h.symm.trans e))]
   .have hb:(g == k)=false:=beq_eq_false_iff_ne.mpr h;simp only [List.lookup,hb];exact ih
theorem sW (f:Str) (v:V):∀ fs:Ab (Str × V),f ∈ (kB f v fs).map (·.1) /\ ∀ g,g ∈ fs.map (·.1)->g ∈ (kB f v fs).map (·.1)
 | []=>⟨by simp [kB],fun g h=>by simp at h⟩
 | (k,x) :: r=>by
  obtain⟨i1,i2⟩:=sW f v r;rw [show kB f v ((k,x) :: r)=(if k=f then (k,v) :: r else (k,x) :: kB f v r) from rfl]
  by_cases hk:k=f
  .rw [if_pos hk];subst hk;exact⟨by simp,fun g h=>by simpa using h⟩
  .rw [if_neg hk];refine⟨?_,fun g h=>?_⟩
   .rw [Qao];exact Qae _ i1
   .rw [Qao] at h ⊢;rcases Qaf.mp h with e | e
    .exact Qaf.mpr (.inl e)
    .exact Qae _ (i2 g e)
theorem tV (f:Str) (v:V):∀ fs:Ab (Str × V),(kB f v fs).length <= fs.length + 1
 | []=>by simp [kB]
 | (k,x) :: r=>by
  have ih:=tV f v r;rw [show kB f v ((k,x) :: r)=(if k=f then (k,v) :: r else (k,x) :: kB f v r) from rfl]
  by_cases hk:k=f
  .rw [if_pos hk,Qal,Qal];omega
  .rw [if_neg hk,Qal,Qal];omega
theorem RelO.some_of (r:RelO (some v) o):∃ u,o=some u /\ RelV v u:=by
 cases o with
 | none=>exact (show False from r).elim
 | some u=>exact⟨u,rfl,r⟩
theorem Z24 (r:RelV v u):PySem.W.handedIn u=true:=by
 cases v with
 | non=>cases (show u=Value.none from r);rfl
 | bl b=>cases (show u=Value.bool b from r);rfl
 | int i=>obtain⟨t,e⟩:=(show ∃ t,u=Value.int i t from r);cases e;rfl
 | str x=>obtain⟨t,e⟩:=(show ∃ t,u=Value.str x t from r);cases e;rfl
 | byt b=>obtain⟨t,e⟩:=(show ∃ t,u=Value.bytes b t from r);cases e;rfl
 | flt b=>obtain⟨t,e⟩:=(show ∃ t,u=Value.float b t from r);cases e;rfl
 | ref a=>cases (show u=Value.ref a from r);rfl
 | ty n=>cases (show u=Value.type n from r);rfl
section
variable {P:Aj}{w:Ak}{H:Hp}{h:Ah}{a C dx:Af}{fs:Ab (Str × V)}
theorem D9 (hok:HOk P w H h) (e:H a=some (.ins C dx fs)):∃ mA,ObjM h a dx C mA /\ (∀ f,RelO (fs.lookup f) (mA f)) /\ PySem.Within mA (fs.map (·.1)) /\ fs.length <= 1000 /\ H dx=some (.own a):=by
 obtain⟨d,z,ne,ob,mA,n,r,q⟩:=(show ObjOk P w H h a (.ins C dx fs) from hok a _ e)
 exact⟨mA,⟨ob,n,ne⟩,r,q,z,d⟩
end
structure Cls (K:Frag) (C:Addr):Prop where
 pg:PySem.W.plainGet K C Str.empty=true
 hd:PySem.W.hasDictIn K C=true
 po:PySem.W.plainOver K C=true
 sa:PySem.W.findIn K (.ref C) "__setattr__" = some (some (.builtin "object.__setattr__"))
theorem Cls.get {K:Frag}(c:Cls K C) (f:Str):PySem.W.plainGet K C f=true:=c.pg
def NoAttr (K:Frag) (C:Af) (f:Str):Prop:=PySem.W.findIn K (.ref C) f=some none
theorem NoAttr.taker {K:Frag}(n:NoAttr K C f):PySem.W.takerIn K C f=some none:=by
 unfold PySem.W.takerIn;rw [show PySem.W.findIn K (.ref C) f=some none from n]
 rfl
structure Con (K:Frag) (C:Addr) (f:Str) (v:V) (u:Value):Prop where
 at_:PySem.W.findIn K (.ref C) f=some (some u)
 rel:RelV v u
 get:PySem.W.specialIn K u "__get__" = some none
 cp:PySem.W.copiedNames.contains f=false
structure Z9u (K:Frag) (C:Addr) (m:Str) (f:Addr):Prop where
 at_:PySem.W.findIn K (.ref C) m=some (some (.ref f))
 fn:PySem.W.isFn K (.ref f)=true
 kp:keepIn K (.ref f)=true
section
variable {X:Cx}{pins:Ab (Af × Obj)}{σ:St}{H:Hp}{s:Ac}{a C dx:Af}{fs:Ab (Str × V)}{f:Str}{v:V}{A:Ai}{E:Ad->Ac->Prop}
theorem Z1 (I:Inv X pins σ H s) (e:H a=some (.ins C dx fs)) (c:Cls X.K C) (n:NoAttr X.K C f) (l:fs.lookup f=some v)
  (h:∀ u s',Inv X pins σ H s'->RelV v u->Q u s'):wpAny (model X.prog X.w) A (getAttr (.ref a) f b) Q E s:=by
 obtain⟨mA,O,r,_,_,_⟩:=D9 I.hok e;obtain⟨u,hu,ru⟩:=RelO.some_of (v:=v) (o:=mA f) (by rw [<- l];exact r f);exact Z5T I.kIn O (c.get f) c.hd n hu (Z24 ru) (h u _ (I.tok _) ru)
theorem T1 (I:Inv X pins σ H s) (e:H a=some (.ins C dx fs)) (c:Cls X.K C) (n:NoAttr X.K C f) (hl:fs.length < 1000) (ry:RelV y u)
  (h:∀ s',Inv X pins σ (upd H a (.ins C dx (kB f y fs))) s'->Q () s'):wpAny (model X.prog X.w) A (setAttr (.ref a) f u) Q E s:=by
 obtain⟨mA,O,r,wi,_,ho⟩:=D9 I.hok e;have hz:(fs.map (·.1)).length <= sizeLine:=by rw [Qaa,sizeLine_eq];omega
 refine Z4M I.kIn O c.sa c.po n.taker c.hd wi hz fun h' O' sb=>h _ ?_;have hd:∃ o,h'.get? dx=some o:=let ⟨o,_,_,e',_⟩:=O'.ns;⟨o,e'⟩;refine I.write (x:=a) (e:=dx) (by rw [e];exact True.intro) (.inr ho) (fun b q hb z=>(sb.2 b hb).trans z) hd ?_;refine⟨by rw [aT O.ne];exact ho,?_,O.ne,O'.obj,_,O'.ns,fun g=>?_,fun g hg=>?_⟩
 .have:=tV f y fs;omega
 .show RelO ((kB f y fs).lookup g) (if g=f then some u else mA g);rw [tT];by_cases q:g=f
  .rw [if_pos q,if_pos q];exact ry
  .rw [if_neg q,if_neg q];exact r g
 .by_cases q:g=f
  .rw [q];exact (sW f y fs).1
  .refine (sW f y fs).2 g (wi g fun z=>hg ?_);show (if g=f then some u else mA g)=none;rw [if_neg q];exact z
theorem Inv.made (I:Inv X pins σ H s):Inv X pins σ (upd (upd H s.heap.objs.size (.own (s.heap.objs.size + 1))) (s.heap.objs.size + 1) (.ins C s.heap.objs.size []))
  { s with heap:=(s.heap.push PySem.W.emptyDict).push (PySem.W.instObj C s.heap.objs.size) }:=by
 have e1:(s.heap.push PySem.W.emptyDict).get? s.heap.objs.size=some PySem.W.emptyDict:=Qan s.heap rfl;have e2:((s.heap.push PySem.W.emptyDict).push (PySem.W.instObj C s.heap.objs.size)).get? (s.heap.objs.size + 1)=some (PySem.W.instObj C s.heap.objs.size):=by
  have:=Qan (s.heap.push PySem.W.emptyDict) (o:=PySem.W.instObj C s.heap.objs.size) rfl
  rwa [Heap.size_push] at this
 have e3:(s.heap.push PySem.W.emptyDict).Ns s.heap.objs.size (fun _=>none):=⟨PySem.W.emptyDict,#[],_,e1,rfl,(fun e he=>absurd he (by simp)),fun _=>rfl⟩;have I1:=I.laid (a:=s.heap.objs.size) (o:=.own (s.heap.objs.size + 1)) (h':=s.heap.push PySem.W.emptyDict) (t':=s.toks) (fun b u q=>Qab _ q) (Qag _) ⟨_,e1⟩;refine I1.laid (a:=s.heap.objs.size + 1) (o:=.ins C s.heap.objs.size []) (t':=s.toks) (fun b u q=>Qab _ q) (Nat.le_of_eq (Heap.size_push _ _)) ?_;have ne:s.heap.objs.size ≠ s.heap.objs.size + 1:=QaA (Qbz _);refine⟨by rw [aT ne,bE],Qbm _,ne,e2,fun _=>none,(Heap.Ns1.of_empty e3).at fun o q=>Qab _ q,fun _=>True.intro,fun y hy=>absurd rfl hy⟩
theorem Z68 (hb:attributeBase e f env (eval e env)=eval e env)
  (h:wpAny (model prog w) A (eval e env) (fun o s₁=>wpAny (model prog w) A (getAttr o f true) Q E s₁) E s):wpAny (model prog w) A (eval (.Attribute e f pos) env) Q E s :=
 Attribute_any_ h (by rw [arm_eval_Attribute,hb])
end
def Z94 (K:Frag) (ta:TE) (f:Str):TE:=fun σ H Q=>ta σ H fun x H1=>∃ a C dx fs v,x=.ref a /\ H1 a=some (.ins C dx fs) /\ Cls K C /\ NoAttr K C f /\ fs.lookup f=some v /\ Q v H1
def Z4R (K:Frag) (ta tv:TE) (f:Str):TS:=fun D σ H=>tv σ H fun y H1=>ta σ H1 fun x H2=>∃ a C dx fs,x=.ref a /\ H2 a=some (.ins C dx fs) /\ Cls K C /\ NoAttr K C f /\ fs.length < 1000 /\
 D.nx σ (upd H2 a (.ins C dx (kB f y fs)))
section
variable {X:Cx}{o e value:Ag}{f:Str}{pos pos':Pos}{ta tv:TE}
theorem Z7a (he:PE X e ta) (hb:attributeBase e f X.env (eval e X.env)=eval e X.env):PE X (.Attribute e f pos) (Z94 X.K ta f):=by
 intro pins s σ H Q I h;refine Z68 hb (thn (he pins s σ H _ I h) fun u s1 ⟨x,H1,I1,rx,a,C,dx,fs,v,ex,ea,c,n,l,q⟩=>?_);subst ex;obtain rfl:u=Value.ref a:=rx;exact Z1 I1 ea c n l fun u' s2 I2 ru=>⟨v,H1,I2,ru,q⟩
theorem V5 (ha:PE X o ta) (hv:PE X value tv) (hs:swapsWith value (some (.Attribute o f pos')) pos.line X.env=pure false):PS X (.Assign [.Attribute o f pos'] value pos) (Z4R X.K ta tv f):=by
 intro pins s σ H D I h;refine plainObj_wpAny_Assign_Attribute (thn (hv pins s σ H _ I h) fun u s1 ⟨y,H1,I1,ry,q⟩=>thn (ha pins s1 σ H1 _ I1 q) fun ov s2 ⟨x,H2,I2,rx,a,C,dx,fs,ex,ea,c,n,l,q2⟩=>?_) hs;subst ex;obtain rfl:ov=Value.ref a:=rx;exact T1 I2 ea c n l ry fun s3 I3=>⟨σ,_,I3,q2⟩
end
section
variable {X:Cx}{pins:Ab (Af × Obj)}{σ:St}{H:Hp}{s:Ac}{A:Ai}{E:Ad->Ac->Prop}{Q:Ad->Ac->Prop}{c:Ad}{b:Bool}
inductive uT (K:Frag) (H:Hp):V->Value->Prop where
 | non:uT K H .non (.type "NoneType")
 | bl (x:Bool):uT K H (.bl x) (.type "bool")
 | int (i:Int):uT K H (.int i) (.type "int")
 | str (x:Str):uT K H (.str x) (.type "str")
 | flt (x:UInt64):uT K H (.flt x) (.type "float")
 | lst {a:Addr}{xs:List V}(e:H a=some (.lst xs)):uT K H (.ref a) (.type "list")
 | frz {a:Addr}{o:Obj}{xs:List V}(e:H a=some (.frz o (.lst xs))):uT K H (.ref a) (.type "list")
 | tup {a:Addr}{xs:List V}(e:H a=some (.tup xs)):uT K H (.ref a) (.type "tuple")
 | dK {a:Addr}{kvs:List (Key × V)}(e:H a=some (.dK kvs)):uT K H (.ref a) (.type "dict")
 | dT {a:Addr}{kvs:List (List Key × V)}(e:H a=some (.dT kvs)):uT K H (.ref a) (.type "dict")
 | ins {a C dx:Addr}{fs:List (Str × V)}(e:H a=some (.ins C dx fs)) (cl:Cls K C) (ha:PySem.W.findIn K (.ref C) "__class__" = some (some (.builtin "object.__class__")))
   (hn:PySem.W.specialIn K (.builtin "object.__class__") "__get__" = some (some (.builtin "getset_descriptor.__get__"))) (htk:PySem.W.takesIn K (.builtin "object.__class__")=some true)
   (hm:PySem.W.mroIn K C (.type "object")=some true):uT K H (.ref a) (.ref C)
theorem nX (I:Inv X pins σ H s) (rx:RelV x u) (ty:uT X.K H x t) (e:PySem.W.kitOne X.K t c=some b) (h:∀ tk,Q (.bool b) { s with toks:=tk }) :
  wpAny (model X.prog X.w) A (call (.builtin "isinstance") [u,c]) Q E s:=by
 cases ty with
 | non=>cases (show u=Value.none from rx);exact Qa2 PySem.W.kitx_none I.kIn True.intro e (fun z=>nomatch z) h
 | bl y=>cases (show u=Value.bool y from rx);exact Qa2 PySem.W.kitx_bool I.kIn True.intro e (fun z=>nomatch z) h
 | int i=>obtain⟨t,q⟩:=(show ∃ t,u=Value.int i t from rx);cases q;exact Qa2 PySem.W.kitx_int I.kIn True.intro e (fun z=>nomatch z) h
 | str y=>obtain⟨t,q⟩:=(show ∃ t,u=Value.str y t from rx);cases q;exact Qa2 PySem.W.kitx_str I.kIn True.intro e (fun z=>nomatch z) h
 | flt y=>obtain⟨t,q⟩:=(show ∃ t,u=Value.float y t from rx);cases q;exact Qa2 PySem.W.kitx_float I.kIn True.intro e (fun z=>nomatch z) h
 | @lst a xs ea =>
  cases (show u=Value.ref a from rx)
  obtain⟨_,_,n,_,h1⟩:=(show ObjOk X.prog X.w H s.heap a (.lst xs) from I.hok a _ ea)
  exact Qa2 PySem.W.kitx_list I.kIn ⟨_,h1,rfl⟩ e (fun z=>nomatch z) h
 | @frz a ob xs ea =>
  cases (show u=Value.ref a from rx)
  obtain⟨_,_,_,n,_,h1⟩:=(show ObjOk X.prog X.w H s.heap a (.frz ob (.lst xs)) from I.hok a _ ea)
  exact Qa2 PySem.W.kitx_list I.kIn ⟨_,h1,rfl⟩ e (fun z=>nomatch z) h
 | @tup a xs ea =>
  cases (show u=Value.ref a from rx)
  obtain⟨_,_,_,p⟩:=(show ObjOk X.prog X.w H s.heap a (.tup xs) from I.hok a _ ea)
  obtain⟨o,h1,h2,_⟩:=p;exact Qa2 PySem.W.kitx_tuple I.kIn ⟨o,h1,h2⟩ e (fun z=>nomatch z) h
 | @dK a kvs ea =>
  cases (show u=Value.ref a from rx)
  obtain⟨_,_,vs,_,p⟩:=(show ObjOk X.prog X.w H s.heap a (.dK kvs) from I.hok a _ ea)
  obtain⟨o,es,ep,h1,h2,_⟩:=p;exact Qa2 PySem.W.kitx_dict I.kIn ⟨o,h1,h2.1⟩ e (fun z=>nomatch z) h
 | @dT a kvs ea =>
  cases (show u=Value.ref a from rx)
  obtain⟨_,_,xs,_,o,es,ep,h1,h2,_⟩:=(show ObjOk X.prog X.w H s.heap a (.dT kvs) from I.hok a _ ea)
  exact Qa2 PySem.W.kitx_dict I.kIn ⟨o,h1,h2.1⟩ e (fun z=>nomatch z) h
 | @ins a C dx fs ea cl ha hn htk hm =>
  cases (show u=Value.ref a from rx)
  obtain⟨mA,O,_⟩:=D9 I.hok ea;obtain⟨od,J,_⟩:=O.look;exact Qa2 (PySem.W.kitx_own (cl.get _) cl.hd ha hn htk hm) I.kIn J e (fun z=>nomatch z) h
end
structure Room (k:Nat) (A:Around):Prop where
 hd:A.handled=none
 dp:A.depth + 3 * k + 5 < recursionLimit
 un:A.units + 16 * k + 200 < cLine
theorem Room.mono (r:Room k A) (h:j <= k):Room j A:=⟨r.hd,by have:=r.dp;omega,by have:=r.un;omega⟩
theorem Room.deeper (r:Room (k + 1) A) (env:Env):Room k (A.deeper env) :=
 ⟨r.hd,by have:=r.dp;show A.depth + 1 + 3 * k + 5 < _;omega,by have:=r.un;show A.units + 3 + 16 * k + 200 < _;omega⟩
theorem Y3 {A:Ai}:(A.under (.builtin "type.__call__" ⟨.ref C :: us,kw⟩)).depth=A.depth + 1:=by
 first | rfl | simp [Around.under,Code.weight,Code.isCreation,Code.isGuard,Code.isCaller,Code.frames,Code.isFrame,guardIds]
theorem Y2 {A:Ai}:(A.under (.builtin "type.__call__" ⟨.ref C :: us,kw⟩)).units=A.units + 1:=by
 first | rfl | simp [Around.under,Code.cUnits,Code.frames,Code.isFrame]
theorem Room.make (r:Room (k + 1) A) (C:Af) (us:Ab Ad) (kw:Ab (Str × Ad)):Room k (A.under (.builtin "type.__call__" ⟨.ref C :: us,kw⟩)) :=
 ⟨r.hd,by have:=r.dp;rw [Y3];omega,by have:=r.un;rw [Y2];omega⟩
theorem Room.depth (r:Room k A):A.depth < recursionLimit:=by have:=r.dp;omega
theorem Room.units (r:Room k A):A.units + 64 < cLine:=by have:=r.un;omega
def Z7P:TA:=fun _ H Q=>Q [] H
def Z6e (ta:TE) (tr:TA):TA:=fun σ H Q=>ta σ H fun x H1=>tr σ H1 fun xs H2=>Q (x :: xs) H2
section
variable {X:Cx}{e:Ag}{es:Ab Ag}{te:TE}{t:TA}{pos:Pos}
theorem pa_nil:PA X [] Z7P:=fun _ _ _ _ H Q I h=>Calls.spliced_nil ⟨[],H,I,.nil,h⟩
theorem pa_cons (ha:PE X e te) (hr:PA X es t) (hs:starEach (e :: es) X.env=(false,eval e X.env) :: starEach es X.env:=by rfl):PA X (e :: es) (Z6e te t):=by
 intro pos pins s σ H Q I h;rw [hs];show wpAny _ _ (spliced ((false,eval e X.env) :: backTo pos (starEach es X.env))) _ _ s;refine Calls.spliced_cons (thn (ha pins s σ H _ I h) fun u s1 ⟨x,H1,I1,r1,q1⟩=>?_);exact thn (hr pos pins s1 σ H1 _ I1 q1) fun us s2 ⟨xs,H2,I2,r2,q2⟩=>⟨x :: xs,H2,I2,.cons r1 r2,q2⟩
def Z8Y (t:TA):TE:=fun σ H Q=>t σ H fun xs H1=>xs.length <= sizeLine /\ ∀ p,H1 p=none->Q (.ref p) (upd H1 p (.tup xs))
def Z91 (t:TA):TE:=fun σ H Q=>t σ H fun xs H1=>xs.length <= sizeLine /\ ∀ p,H1 p=none->Q (.ref p) (upd H1 p (.lst xs))
theorem pe_tup (h:PA X es t):PE X (.Tuple es x1 pos) (Z8Y t):=by
 intro pins s σ H Q I hq;refine wpAny_Tuple_spliced (thn (h pos pins s σ H _ I hq) fun us s1 ⟨xs,H1,I1,r,z,q⟩=>⟨by rw [<- r.length];exact z,?_⟩);have hf:H1 s1.heap.objs.size=none:=I1.hok.fresh (Qag _);refine⟨.ref s1.heap.objs.size,upd H1 s1.heap.objs.size (.tup xs),I1.laid (t':=s1.toks) (fun b u e=>Qab _ e) (Qag _) ?_,rfl,q _ hf⟩;exact⟨z,us,r,⟨_,Qan _ rfl,rfl,_,rfl⟩⟩
theorem pe_lst (h:PA X es t):PE X (.List es pos) (Z91 t):=by
 intro pins s σ H Q I hq;refine wpAny_List_spliced (thn (h pos pins s σ H _ I hq) fun us s1 ⟨xs,H1,I1,r,z,q⟩=>⟨by rw [<- r.length];exact z,?_⟩);have hf:H1 s1.heap.objs.size=none:=I1.hok.fresh (Qag _);refine⟨.ref s1.heap.objs.size,upd H1 s1.heap.objs.size (.lst xs),I1.laid (t':=s1.toks) (fun b u e=>Qab _ e) (Qag _) ?_,rfl,q _ hf⟩;exact⟨z,us,0,r,Qan _ rfl⟩
end
abbrev Sp:=Ab V->Hp->VK->XK->Prop
abbrev CXT:=Ab Env->Hp->Ac->XK->Ad->Ac->Prop
structure Env0 (P:Program) (w:World) (K:Frag) (mg:Str->Option Value) (base:Heap) (A:Around) (outer:List Env) (s:Shared) (H:Hp):Prop where
 frames:A.frames=some outer
 mod:Mod K mg base
 bs:∀ b o,base.get? b=some o->s.heap.get? b=some o /\ H b=none
 bsz:base.objs.size <= s.heap.objs.size
 funs:s.heap.FunFrames base outer
 frf:∀ b ∈ frs outer,H b=none
 hok:HOk P w H s.heap
 bare:AllBare s.gens
def CE (outer:Ab Env) (P:Aj) (w:Ak) (H:Hp) (s:Ac) (Q:VK) (u:Ad) (s':Ac):Prop :=
 ∃ v H',s'.os=s.os /\ AllBare s'.gens /\ Un (frs outer) [] H H' s.heap s'.heap /\ HOk P w H' s'.heap /\ RelV v u /\ Q v H'
def CR (CX:CXT) (outer:Ab Env) (P:Aj) (w:Ak) (H:Hp) (s:Ac) (Q:VK) (E:XK) (r:Result) (s':Ac):Prop :=
 match r with
 | .ok (.ret u)=>CE outer P w H s Q u s'
 | .ok _=>False
 | .error e=>CX outer H s E e s'
structure bR (P:Program) (w:World) (K:Frag) (mg:Str->Option Value) (base:Heap) (CX:CXT) (k:Nat) (f:Addr) (fd:FuncData) (ps:List Str) (sp:Sp):Prop where
 len:∀ vs H Q E,sp vs H Q E->vs.length=ps.length
 run:∀ (A:Ai) (outer:Ab Env) (s:Ac) (H:Hp) (args:Args) (us:Ab Ad) (vs:Ab V) (Q:VK) (E:XK),Room k A->Env0 P w K mg base A outer s H->BindsTo s fd args (ps.zip us)->Vals vs us->sp vs H Q E ->
  codeAny (model P w) A (.call (.ref f) args) (CR CX outer P w H s Q E) s
theorem Env0.make {K:Frag}{base:Ah}{A:Ai}{outer:Ab Env}{s:Ac}{H:Hp}(e:Env0 P w K mg base A outer s H) (C:Af) (us:Ab Ad) (kw:Ab (Str × Ad)) :
  Env0 P w K mg base (A.under (.builtin "type.__call__" ⟨.ref C :: us,kw⟩)) outer s H:=⟨by first | exact e.frames | (simpa [Around.under,Code.envs,Code.isFrame,pushEnvs] using e.frames),e.mod,e.bs,e.bsz,e.funs,e.frf,e.hok,e.bare⟩
section
variable {X:Cx}{pins:Ab (Af × Obj)}{σ:St}{H:Hp}{s s':Ac}
theorem Inv.env0 (I:Inv X pins σ H s):Env0 X.prog X.w X.K X.mg X.base X.A X.stack s H :=
 ⟨I.ok.frames,I.ok.mod,I.bs,QaV I.ok.bsz I.sz,I.stack,I.stkFree,I.hok,I.bare⟩
theorem Inv.after (I:Inv X pins σ H s) (h:CE X.stack X.prog X.w H s Q u s'):EP X pins σ Q u s':=by
 obtain⟨v,H',os,bare,un,hok,r,q⟩:=h;obtain⟨hh,g,d,t,os'⟩:=s';obtain rfl:os'=s.os:=os;exact⟨v,H',I.call (h':=hh) (g':=g) (d':=d) (t':=t) (ch:=[]) un hok bare (fun b z=>absurd z (by simp)),r,q⟩
end
def Z7T (sp:Sp) (dvs:Ab V) (E:XK) (t:TA):TE:=fun σ H Q=>t σ H fun vs H1=>sp (vs ++ dvs) H1 Q E
def Z7R (C:Af) (sp:Sp) (dvs:Ab V) (E:XK) (t:TA):TE:=fun σ H Q=>t σ H fun vs H1=>∀ x dx,H1 x=none->H1 dx=none->dx ≠ x ->
 sp (.ref x :: (vs ++ dvs)) (upd (upd H1 dx (.own x)) x (.ins C dx [])) (fun v H2=>v=.non /\ Q (.ref x) H2) E
def Binds (K:Frag) (fd:FuncData) (ps:Ab Str) (ds:Ab Ad):Prop :=
 ∀ (s:Ac) (us:Ab Ad),K.In s.heap->(us ++ ds).length=ps.length->BindsTo s fd ⟨us,[]⟩ (ps.zip (us ++ ds))
theorem Binds.all {K:Frag}(h:∀ us:Ab Ad,us.length=ps.length->bindArgs fd ⟨us,[]⟩=pure (ps.zip us)):Binds K fd ps []:=fun s us _ hl=>by
 rw [QaH] at hl ⊢;exact .of_eq (h us hl)
def xI (CX:CXT) (X:Cx) (E:XK):Prop:=∀ (pins:Ab (Af × Obj)) (σ:St) (H:Hp) (s:Ac) (e:Ad) (s':Ac),Inv X pins σ H s->CX X.stack H s E e s'->X.xe e s'
section
variable {X:Cx}{CX:CXT}{k:Nat}{f C:Af}{fd:FuncData}{ps:Ab Str}{sp:Sp}{dvs:Ab V}{ds:Ab Ad}{E:XK}{x:Str}{p pos:Pos}{e:Ag}{es:Ab Ag}{t:TA}
theorem Z6N (F:bR X.prog X.w X.K X.mg X.base CX k f fd ps sp) (hr:Room k X.A) (hb:Binds X.K fd ps ds) (hd:Vals dvs ds) (hx:xI CX X E)
  (I:Inv X pins σ H s) (r:Vals vs us) (h:sp (vs ++ dvs) H Q E):wpAny (model X.prog X.w) X.A (call (.ref f) us) (EP X pins σ Q) X.xe s:=by
 have r2:Vals (vs ++ dvs) (us ++ ds):=r.append hd;have hl:(us ++ ds).length=ps.length:=by rw [<- r2.length];exact F.len _ _ _ _ h
 refine wpAny_call (Ro (F.run X.A X.stack s H ⟨us,[]⟩ (us ++ ds) (vs ++ dvs) Q E hr I.env0 (hb s us I.kIn hl) r2 h) fun r s' hq=>?_);cases r with
 | error e=>exact hx pins σ H s e s' I hq
 | ok fl =>
  cases fl with
  | ret u=>exact I.after hq
  | next=>exact False.elim hq
  | brk=>exact False.elim hq
  | cont=>exact False.elim hq
theorem pe_call (F:bR X.prog X.w X.K X.mg X.base CX k f fd ps sp) (hr:Room k X.A) (hg:Gl X x) (hm:X.mg x=some (.ref f)) (hk:keepIn X.K (.ref f)=true) (hb:Binds X.K fd ps ds) (hd:Vals dvs ds) (hx:xI CX X E)
  (ha:PA X (e :: es) t) (hdb:(x == ("__debug__" : Str))=false:=by decide) (he:starEach (e :: es) X.env=(false,eval e X.env) :: starEach es X.env:=by rfl) (hpl:(backTo pos (starEach es X.env)).any (·.1)=false:=by rfl) :
  PE X (.Call (.Name x p) (e :: es) [] pos) (Z7T sp dvs E t):=by
 intro pins s σ H Q I h;refine Rl (D6 I hg hm ?_ hdb);refine PySem.W.callWith_K (h₀:=X.base) I.ok.mod.kin hk (thn (ha pos pins s σ H _ I h) fun us s1 ⟨vs,H1,I1,r,q⟩=>⟨I1.kIn,?_⟩) he hpl;exact Z6N F hr hb hd hx I1 r q
structure Mk (K:Frag) (C f:Addr):Prop where
 makes:PySem.W.makesIn K C=true
 init:PySem.W.findIn K (.ref C) "__init__" = some (some (.ref f))
 fn:PySem.W.isFn K (.ref f)=true
 kp:keepIn K (.ref C)=true
theorem Z2Q (M:Mk X.K C f) (F:bR X.prog X.w X.K X.mg X.base CX k f fd ps sp) (hr:Room (k + 1) X.A) (hb:Binds X.K fd ps ds) (hd:Vals dvs ds)
  (hx:xI CX X E) (I:Inv X pins σ H s) (r:Vals vs us)
  (h:∀ x dx,H x=none->H dx=none->dx ≠ x->sp (.ref x :: (vs ++ dvs)) (upd (upd H dx (.own x)) x (.ins C dx [])) (fun v H2=>v=.non /\ Q (.ref x) H2) E) :
  wpAny (model X.prog X.w) X.A (call (.ref C) us) (EP X pins σ Q) X.xe s:=by
 have hq:=h (s.heap.objs.size + 1) s.heap.objs.size (I.hok.fresh (Nat.le_succ _)) (I.hok.fresh (Qag _)) (QaA (Qbz _));have I2:=Inv.made (C:=C) I;have r2:Vals (V.ref (s.heap.objs.size + 1) :: (vs ++ dvs)) (Value.ref (s.heap.objs.size + 1) :: (us ++ ds)):=.cons rfl (r.append hd);have hl:(Value.ref (s.heap.objs.size + 1) :: us ++ ds).length=ps.length:=by
  have e:=r2.length;rw [F.len _ _ _ _ hq] at e;exact e.symm
 refine wpAny_call (Z3H (f:=f) I.kIn M.makes M.init (beq_iff_eq.mp M.fn) (Ro (F.run _ X.stack _ _ ⟨Value.ref (s.heap.objs.size + 1) :: us,[]⟩ (Value.ref (s.heap.objs.size + 1) :: (us ++ ds)) _ _ E (hr.make C us [])
  (I2.env0.make C us []) (hb _ (Value.ref (s.heap.objs.size + 1) :: us) I2.kIn hl) r2 hq) fun r s' hq'=>?_))
 cases r with
 | error e=>exact hx pins σ _ _ e s' I2 hq'
 | ok fl =>
  cases fl with
  | ret u =>
   obtain⟨v,H',I3,rv,ev,q3⟩:=I2.after hq';subst ev;exact⟨rv,⟨V.ref (s.heap.objs.size + 1),H',I3,rfl,q3⟩⟩
  | next=>exact False.elim hq'
  | brk=>exact False.elim hq'
  | cont=>exact False.elim hq'
theorem pe_make (M:Mk X.K C f) (F:bR X.prog X.w X.K X.mg X.base CX k f fd ps sp) (hr:Room (k + 1) X.A) (hg:Gl X x) (hm:X.mg x=some (.ref C)) (hb:Binds X.K fd ps ds) (hd:Vals dvs ds) (hx:xI CX X E)
  (ha:PA X (e :: es) t) (hdb:(x == ("__debug__" : Str))=false:=by decide) (he:starEach (e :: es) X.env=(false,eval e X.env) :: starEach es X.env:=by rfl) (hpl:(backTo pos (starEach es X.env)).any (·.1)=false:=by rfl) :
  PE X (.Call (.Name x p) (e :: es) [] pos) (Z7R C sp dvs E t):=by
 intro pins s σ H Q I h;refine Rl (D6 I hg hm ?_ hdb);refine PySem.W.callWith_K (h₀:=X.base) I.ok.mod.kin M.kp (thn (ha pos pins s σ H _ I h) fun us s1 ⟨vs,H1,I1,r,q⟩=>⟨I1.kIn,?_⟩) he hpl;exact Z2Q M F hr hb hd hx I1 r q
end
section
variable {fd:FuncData}{ps ks:Ab Str}
structure Z9s (K:Frag) (fd:FuncData) (ps ks:List Str) (g:List Value->List Value->List Value) (gV:List V->List V->List V):Prop where
 to:∀ (s:Ac) (us ws:Ab Ad),K.In s.heap->(g us ws).length=ps.length->BindsTo s fd ⟨us,ks.zip ws⟩ (ps.zip (g us ws))
 rel:∀ {vs:Ab V}{us:Ab Ad}{zs:Ab V}{ws:Ab Ad},Vals vs us->Vals zs ws->Vals (gV vs zs) (g us ws)
end
structure aP (N P:List Str) (sc:Scope):Prop where
 kind:sc.kind=.function
 co:sc.isCoroutine=false
 gen:sc.isGenerator=false
 nd:N.Nodup
 pre:N.take P.length=P
 par:∀ x ∈ P,sc.names.lookup x=some .local \/ sc.names.lookup x=some .cell
 nofree:∀ y ∈ sc.names,y.2 ≠ .free
theorem RF {N P:List Str} {sc:Scope} (a:sc.kind=.function:=by rfl) (b:sc.isCoroutine=false:=by rfl) (c:sc.isGenerator=false:=by rfl) (d:N.Nodup:=by decide +kernel) (e:N.take P.length=P:=by rfl) (f:∀ x ∈ P,sc.names.lookup x=some .local \/ sc.names.lookup x=some .cell:=by decide +kernel) (g:∀ y ∈ sc.names,y.2 ≠ .free:=by decide +kernel):aP N P sc:=⟨a,b,c,d,e,f,g⟩
theorem zV {kindOf:Str->Aa NameKind}:∀ {binds:Ab (Str × Ad)}{m:Str->Aa Ad},(∀ v,(x,v) ∉ binds)->bindL kindOf binds m x=m x
 | [],_,_=>rfl
 | (n,v) :: r,m,h=>by
  unfold bindL;rw [zV fun w hw=>h w (Qae _ hw)];split
  .have:x ≠ n:=by rintro rfl;exact h v Qau
   simp [this]
  .rfl
theorem zZ {kindOf:Str->Aa NameKind}:∀ {binds:Ab (Str × Ad)}{m:Str->Aa Ad},(∀ v,(x,v) ∉ binds)->bindC kindOf binds m x=m x
 | [],_,_=>rfl
 | (n,v) :: r,m,h=>by
  unfold bindC;rw [zZ fun w hw=>h w (Qae _ hw)];split
  .rfl
  .have:x ≠ n:=by rintro rfl;exact h v Qau
   simp [this]
theorem zW {kindOf:Str->Aa NameKind}:∀ {P:Ab Str}{vs:Ab Ad}{i:Nat}{m:Str->Aa Ad},P.Nodup->P[i]? = some x->vs[i]? = some v->kindOf x=some .local ->
  bindL kindOf (P.zip vs) m x=some v
 | [],_,_,_,_,h,_,_=>by simp at h
 | _ :: _,[],_,_,_,_,h,_=>by simp at h
 | p :: P,w :: vs,0,m,nd,h1,h2,hk=>by
  simp at h1 h2;subst h1;subst h2;show bindL kindOf ((p,w) :: P.zip vs) m p=_;unfold bindL;rw [zV fun v hv=>(QaO.mp nd).1 (List.of_mem_zip hv).1,if_pos hk];simp
 | p :: P,w :: vs,i + 1,m,nd,h1,h2,hk=>by
  show bindL kindOf ((p,w) :: P.zip vs) m x=_;unfold bindL;exact zW (i:=i) (QaO.mp nd).2 (by simpa using h1) (by simpa using h2) hk
theorem A0 {kindOf:Str->Aa NameKind}:∀ {P:Ab Str}{vs:Ab Ad}{i:Nat}{m:Str->Aa Ad},P.Nodup->P[i]? = some x->vs[i]? = some v->kindOf x ≠ some .local ->
  bindC kindOf (P.zip vs) m x=some v
 | [],_,_,_,_,h,_,_=>by simp at h
 | _ :: _,[],_,_,_,_,h,_=>by simp at h
 | p :: P,w :: vs,0,m,nd,h1,h2,hk=>by
  simp at h1 h2;subst h1;subst h2;show bindC kindOf ((p,w) :: P.zip vs) m p=_;unfold bindC;rw [zZ fun v hv=>(QaO.mp nd).1 (List.of_mem_zip hv).1,if_neg hk];simp
 | p :: P,w :: vs,i + 1,m,nd,h1,h2,hk=>by
  show bindC kindOf ((p,w) :: P.zip vs) m x=_;unfold bindC;exact A0 (i:=i) (QaO.mp nd).2 (by simpa using h1) (by simpa using h2) hk
def start (N:Ab Str) (vs:Ab V):St:=vs.map some ++ List.replicate (N.length - vs.length) none
def tJ (CX:CXT) (P:Aj) (w:Ak) (K:Frag) (mg:Str->Aa Ad) (base:Ah) (N:Ab Str) (qual:Str) (scope:Scope) (f:Af) (cd:Ad) (A:Ai) (outer:Ab Env) (s:Ac) (H:Hp) (E:XK):Cx where
 prog:=P
 w:=w
 K:=K
 mg:=mg
 base:=base
 A:=A.deeper (envOfC qual scope s.heap.objs.size f cd)
 N:=N
 s₀:=s
 H₀:=H
 env:=envOfC qual scope s.heap.objs.size f cd
 outer:=outer
 stack:=envOfC qual scope s.heap.objs.size f cd :: outer
 ex:=[]
 calm:=true
 fn:=fun _=>true
 pn:=[]
 xe:=fun e s'=>wpAny (model P w) (A.deeper (envOfC qual scope s.heap.objs.size f cd)) (leaving (envOfC qual scope s.heap.objs.size f cd) e) (fun _ s''=>CX outer H s E e s'') (fun e' s''=>CX outer H s E e' s'') s'
theorem P6 {sc:Scope}(h:sc.names.lookup x=some .cell):∃ c,(cellsFrom n sc.names []).lookup x=some c:=by
 have q:=PySem.W.cellsFrom_some sc.names n [] (.inl h);exact Option.isSome_iff_exists.mp q
theorem zD {CX:CXT}{K:Frag}{mg:Str->Aa Ad}{base:Ah}{N ps:Ab Str}{qual:Str}{scope:Scope}{f:Af}{cd:Ad}{A:Ai}{outer:Ab Env}{s s1:Ac}{H:Hp}{E:XK}{us:Ab Ad}{vs:Ab V}
  (S:aP N ps scope) (hd:A.handled=none) (e0:Env0 P w K mg base A outer s H) (hl:vs.length=ps.length) (r:Vals vs us)
  (x:InCallC s s.heap.objs.size (bindL (envOfC qual scope s.heap.objs.size f cd).kindOf (ps.zip us) fun _=>none) (cellsFrom (s.heap.objs.size + 1) scope.names []) (bindC (envOfC qual scope s.heap.objs.size f cd).kindOf (ps.zip us) fun _=>none) s1) :
  Inv (tJ CX P w K mg base N qual scope f cd A outer s H E) [] (start N vs) H s1:=by
 have hpl:ps.length <= N.length:=by have:=congrArg List.length S.pre;rw [Qav] at this;omega
 obtain⟨h1,tk,rfl,hk⟩:=x.done;have noA:∀ b:Af,b ∉ (tJ CX P w K mg base N qual scope f cd A outer s H E).ex:=fun b z=>absurd (show b ∈ ([]:Ab Af) from z) (by simp)
 refine⟨⟨e0.mod,S.kind,rfl,rfl,Qag _,fun y z c h1 h2=>?_,fun y hy=>?_,fun y c _ h=>?_,fun _=>hd,Around.frames_deeper e0.frames,.inr ⟨rfl,rfl⟩,fun b z=>absurd z (noA b),e0.bs,e0.bsz,fun b _ _=>noA b,fun b z=>absurd z (noA b),e0.funs,e0.frf⟩,
  rfl,e0.bare,Un.kept hk,⟨_,x.toInCall.ns,fun i y v h1 h2 h3=>?_⟩,fun y c h=>⟨_,x.cell y c h⟩,e0.hok.fresh (Qag _),fun y c h=>?_,fun p hp=>absurd (show p ∈ ([]:Ab (Af × Obj)) from hp) (by simp),e0.hok.kept hk,?_⟩
 .exact name_of_addr x.apart (PySem.mem_of_lookup h1) (PySem.mem_of_lookup h2)
 .have hy:scope.names.lookup y=some .cell \/ scope.names.lookup y=some .free:=hy;rcases hy with hy | hy
  .exact P6 hy
  .exact absurd rfl (S.nofree _ (PySem.mem_of_lookup hy))
 .exact Qbd (x.above y c (PySem.mem_of_lookup h))
 .have hi:i < vs.length:=by
   unfold start at h2;by_cases hi:i < vs.length
   .exact hi
   .rw [Qa4 (by simpa using hi)] at h2;rw [Qby] at h2;split at h2 <;> cases h2
  have ha:vs[i]? = some v:=by
   unfold start at h2;rw [QaY (by simpa using hi),Qas] at h2;cases e:vs[i]? with
   | none=>rw [e] at h2;cases h2
   | some a=>rw [e] at h2;cases h2;rfl
  obtain⟨u,hu,rv⟩:=r.get ha;have hp:ps[i]? = some y:=by
   rw [<- S.pre,Qa1 (by omega)];exact h1
  have ndP:ps.Nodup:=by rw [<- S.pre];exact S.nd.sublist (List.take_sublist _ _)
  refine⟨u,rv,?_⟩;rcases S.par y (QaI hp) with k | k
  .exact .inl ⟨k,zW ndP hp hu k⟩
  .obtain⟨c,e⟩:=P6 (n:=s.heap.objs.size + 1) k;refine .inr ⟨.inl k,c,e,?_⟩;have q:=x.cell y c e;rw [A0 ndP hp hu (by show scope.names.lookup y ≠ _;rw [k];decide)] at q;exact q
 .exact e0.hok.fresh (Qbd (x.above y c (PySem.mem_of_lookup h)))
 .unfold start;show _=N.length;rw [QaB,Qaa,List.length_replicate];omega
theorem Z49 {K:Frag}{mg:Str->Aa Ad}{base:Ah}{k:Nat}{f:Af}{name qual:Str}{params:Arguments}{body:Ab Stmt}{scope:Scope}{dV kV doc pm cdv ct oc:Ad}{an od:Aa Af}
  {osl:Ae (Aa Ad)}{N ps:Ab Str}{sp:Sp}(lk:K.lookup f=some ⟨oc,od,.func (fnOf name qual params body scope dV kV doc pm an cdv ct),osl⟩) (hcd:codeIn K cdv qual=true) (S:aP N ps scope)
  (len:∀ vs H Q E,sp vs H Q E->vs.length=ps.length)
  (hbody:∀ (A:Ai) (outer:Ab Env) (s:Ac) (H:Hp) (vs:Ab V) (Q:VK) (E:XK),Room k (A.deeper (envOfC qual scope s.heap.objs.size f cdv))->sp vs H Q E ->
   ∃ t,PSs (tJ CX P w K mg base N qual scope f cdv A outer s H E) body t /\ t { nx:=fun _ H'=>Q .non H',rt:=Q } (start N vs) H) :
  bR P w K mg base CX (k + 1) f (fnOf name qual params body scope dV kV doc pm an cdv ct) ps sp:=by
 refine⟨len,fun A outer s H args us vs Q E hr e0 hb r hsp=>?_⟩;have hl:=len _ _ _ _ hsp;have KX:K.In s.heap:=e0.mod.kin.keeps fun b o e=>(e0.bs b o e).1;have lim:s.heap.NoLimit:=e0.mod.nolimit.keeps fun b o e=>(e0.bs b o e).1;have hkind:∀ y ∈ ps.zip us,scope.names.lookup y.1=some .local \/ (scope.names.lookup y.1=some .cell /\ ((cellsFrom (s.heap.objs.size + 1) scope.names []).lookup y.1).isSome=true):=fun⟨n,v⟩ hy=>by
  rcases S.par n (List.of_mem_zip hy).1 with q | q
  .exact .inl q
  .exact .inr ⟨q,PySem.W.cellsFrom_some _ _ _ (.inl q)⟩
 refine codeAny_call_function hr.depth (KX _ _ lk) rfl S.co S.gen rfl (PySem.W.codeRec_of KX hcd) (hb _ _ _ _ ?_);refine wpAny_newFunctionEnv_cells S.kind hkind fun env he s1 x=>?_;subst he;refine⟨lim.keeps x.toInCall.keep,codeAny_func ?_⟩;obtain⟨t,ht,hq⟩:=hbody A outer s H vs Q E (hr.deeper _) hsp;have I:Inv (tJ CX P w K mg base N qual scope f cdv A outer s H E) [] (start N vs) H s1:=zD S hr.hd e0 hl r x;refine Rc (ht [] s1 (start N vs) H _ I hq) (fun fl s' hs=>?_) fun e s' hs=>hs;have fin:∀ {σ':St}{H':Hp}{v:V}{u:Ad},Inv (tJ CX P w K mg base N qual scope f cdv A outer s H E) [] σ' H' s'->RelV v u->Q v H'->CE outer P w H s Q u s' :=
  fun {σ' H' v u} J rv q=>⟨v,H',J.os,J.bare,J.base,J.hok,rv,q⟩
 cases fl with
 | ret u =>
  obtain⟨v,σ',H',J,rv,q⟩:=hs;exact fin J rv q
 | next =>
  obtain⟨σ',H',J,q⟩:=hs;exact fin (v:=V.non) (u:=Value.none) J rfl q
 | brk =>
  obtain⟨_,_,_,q⟩:=hs;exact False.elim q
 | cont =>
  obtain⟨_,_,_,q⟩:=hs;exact False.elim q
section
variable {X:Cx}{x:Str}{p pos:Pos}{e:Ag}{es:Ab Ag}{t:TA}{id T:String}{r:Ab V->Hp->VK->Prop}
def tCB (r:Ab V->Hp->VK->Prop) (t:TA):TE:=fun σ H Q=>t σ H fun vs H1=>r vs H1 Q
theorem pe_callB (hc:CallR X (.builtin id) r) (hg:Gl X x) (hm:X.mg x=none) (hv:bootBuiltins x=some (.builtin id)) (ha:PA X (e :: es) t) (hn:x ≠ "__name__":=by decide) (hdb:(x == ("__debug__" : Str))=false:=by decide)
  (he:starEach (e :: es) X.env=(false,eval e X.env) :: starEach es X.env:=by rfl) (hpl:(backTo pos (starEach es X.env)).any (·.1)=false:=by rfl):PE X (.Call (.Name x p) (e :: es) [] pos) (tCB r t):=by
 intro pins s σ H Q I h;refine Rl (kC I hg hm hv ?_ hn hdb);exact PyProof.Rows.callWith_builtin1 (thn (ha pos pins s σ H _ I h) fun us s1 ⟨vs,H1,I1,r1,q1⟩=>hc pins s1 σ H1 vs us Q I1 r1 q1) he hpl
theorem pe_callTy (hc:CallR X (.type T) r) (hg:Gl X x) (hm:X.mg x=none) (hv:bootBuiltins x=some (.type T)) (ha:PA X (e :: es) t) (hn:x ≠ "__name__":=by decide) (hdb:(x == ("__debug__" : Str))=false:=by decide)
  (he:starEach (e :: es) X.env=(false,eval e X.env) :: starEach es X.env:=by rfl) (hpl:(backTo pos (starEach es X.env)).any (·.1)=false:=by rfl):PE X (.Call (.Name x p) (e :: es) [] pos) (tCB r t):=by
 intro pins s σ H Q I h;refine Rl (kC I hg hm hv ?_ hn hdb);exact PyProof.Rows.callWith_type1 (thn (ha pos pins s σ H _ I h) fun us s1 ⟨vs,H1,I1,r1,q1⟩=>hc pins s1 σ H1 vs us Q I1 r1 q1) he hpl
end
end L2
namespace HT
open PySem PyProof.Rows
section
variable {prog:Aj}{w:Ak}{A:Ai}{E:Ad->Ac->Prop}{s:Ac}
def sIx (n d:Nat):Aa Int->Nat
 | none=>d
 | some v=>if v < 0 then (v + (n:Int)).toNat else min v.toNat n
theorem sIx_none (n d:Nat):sIx n d none=d:=rfl
theorem sIx_nat (n d k:Nat):sIx n d (some (k:Int))=min k n:=by
 show (if (k:Int) < 0 then ((k:Int) + (n:Int)).toNat else min (k:Int).toNat n)=min k n;rw [if_neg (by omega),Qat]
theorem Z6M (n d:Nat) (hd:d <= n) (o:Aa Int):sIx n d o <= n:=by
 cases o with
 | none=>exact hd
 | some v =>
  show (if v < 0 then (v + (n:Int)).toNat else min v.toNat n) <= n;by_cases hv:v < 0
  .rw [if_pos hv];omega
  .rw [if_neg hv];exact Nat.min_le_right _ _
theorem Z0X (v:Int) (n d:Nat):(if v < 0 then max (v + (n:Int)) 0 else min v (n:Int))=((sIx n d (some v):Nat):Int):=by
 show (if v < 0 then max (v + (n:Int)) 0 else min v (n:Int))=(((if v < 0 then (v + (n:Int)).toNat else min v.toNat n):Nat):Int);by_cases hv:v < 0
 .simp only [if_pos hv];omega
 .simp only [if_neg hv];omega
theorem Z0a (lo hi:Aa Int) (n:Nat):Builtin.Slice.sliceAdjust lo hi 1 (n:Int)=(((sIx n 0 lo:Nat):Int),((sIx n n hi:Nat):Int)):=by
 have h1:¬ ((1:Int) < 0):=by omega
 unfold Builtin.Slice.sliceAdjust;simp only [h1,RD];refine Prod.ext ?_ ?_
 .cases lo with
  | none=>rfl
  | some v=>exact Z0X v n 0
 .cases hi with
  | none=>rfl
  | some v=>exact Z0X v n n
theorem V6 (i j:Nat):Builtin.Slice.slicePlaces (i:Int) (j:Int) 1=j - i:=by
 unfold Builtin.Slice.slicePlaces;have h1:(1:Int) > 0:=by omega
 simp only [h1,RC,Int.ediv_one];split <;> omega
theorem vL (p:IsPart v o) (h:Q o s):wpAny (model prog w) A (Builtin.Slice.slicePartIndex v) Q E s:=by
 cases p with
 | none=>exact slicePart_none h
 | int i t=>exact slicePart_int h
theorem kJ {lo hi:Aa Int}{Q:Int × Int × Nat->Ac->Prop}(hs:s.heap.IsSliceOf sl vl vu .none) (pl:IsPart vl lo) (pu:IsPart vu hi)
  (h:Q (((sIx n 0 lo:Nat):Int),1,sIx n n hi - sIx n 0 lo) s):wpAny (model prog w) A (Builtin.Slice.sliceApplied (.ref sl) (pure (n:Int))) Q E s:=by
 obtain⟨os,hos,hcs,hds⟩:=id hs;unfold Builtin.Slice.sliceApplied Builtin.Slice.sliceFields;refine Ra (Ra (wpAny_field hos hds (x:=vl) rfl (Ra (wpAny_field hos hds (x:=vu) rfl (Ra (wpAny_field hos hds (x:=.none) rfl (Rb ?_)))))));refine Ra (slicePart_none ?_);show wpAny _ _ (if ((1:Int) == 0)=true then _ else _) _ _ s;rw [if_neg (by decide)];refine Ra (vL pl (Ra (vL pu (Ra (Rb ?_)))));show wpAny _ _ (match Builtin.Slice.sliceAdjust lo hi 1 (n:Int) with | (lo,hi)=>pure (lo,(1:Int),Builtin.Slice.slicePlaces lo hi 1)) _ _ s
 rw [Z0a lo hi n];show wpAny _ _ (pure (((sIx n 0 lo:Nat):Int),(1:Int),Builtin.Slice.slicePlaces ((sIx n 0 lo:Nat):Int) ((sIx n n hi:Nat):Int) 1)) _ _ s;rw [V6];exact Rb h
theorem Z3i (xs:Ae Ad) (i k:Nat):((List.range k).filterMap fun (m:Nat)=>xs[((i:Int) + (m:Int) * 1).toNat]?).toArray=((xs.toList.drop i).take k).toArray:=by
 have e:(fun (m:Nat)=>xs[((i:Int) + (m:Int) * 1).toNat]?)=fun m=>xs[i + m]?:=by
  funext m;have:((i:Int) + (m:Int) * 1).toNat=i + m:=by omega
  rw [this]
 rw [e];have:=pick_run xs i k;rw [List.filterMap_map] at this;have e2:((fun x=>xs[x]?) ∘ fun x=>i + x)=fun m=>xs[i + m]?:=rfl;rw [e2] at this;rw [this]
theorem getItem_tuple_cut {lo hi:Aa Int}{Q:Ad->Ac->Prop}(ht:IsTup s.heap t items) (hs:s.heap.IsSliceOf sl vl vu .none) (pl:IsPart vl lo) (pu:IsPart vu hi)
  (hw:¬ (sIx items.size 0 lo=0 /\ sIx items.size items.size hi=items.size))
  (h:Q (.ref s.heap.objs.size) { s with heap:=s.heap.push { cls:=.type "tuple",data:=.seq ((items.toList.drop (sIx items.size 0 lo)).take (sIx items.size items.size hi - sIx items.size 0 lo)).toArray } })
  (hsz:items.size <= sizeLine):wpAny (model prog w) A (getItem (.ref t) (.ref sl)) Q E s:=by
 have htake:sizeOk (.seq ((items.toList.drop (sIx items.size 0 lo)).take (sIx items.size items.size hi - sIx items.size 0 lo)).toArray):=by
  show ((items.toList.drop (sIx items.size 0 lo)).take (sIx items.size items.size hi - sIx items.size 0 lo)).toArray.size <= sizeLine;rw [Qaz,Qav,List.length_drop,Qak];omega
 have hj:sIx items.size items.size hi <= items.size:=Z6M _ _ (Qag _) hi;obtain⟨os,hos,hcs,hds⟩:=id hs;have hTs:s.TypeIs (.ref sl) "slice":=⟨os,hos,hcs⟩;unfold getItem
 try with_reducible refine Rg ?_
 first | refine Ra (Rb ?_) | skip
 refine Ra (wpAny_sequenceKey ht.typeIs (by decide) ?_);refine Ra (wpAny_callSpecial?_slot (name:=Str.ofString "__getitem__") ht.typeIs PyProof.Rows.slot_tuple_getitem
  (Rh PyProof.Rows.slot_tuple_getitem ht.typeIs entry_tuple_getitem ?_ (args_tuple_getitem _ _)))
 show wpAny _ _ (Builtin.Tuple.tupleItemsOf (.ref t) >>= _) _ _ s;refine Ra (tupleItemsOf_ ht ?_);refine Ra (wpAny_typeOf hTs ?_);rw [if_pos (by decide)];refine Ra (kJ hs pl pu ?_);have hno:¬ ((((sIx items.size 0 lo:Nat):Int) == 0 && (1:Int) == 1 && (sIx items.size items.size hi - sIx items.size 0 lo) == items.size)=true):=by
  intro q;rw [QaU,QaU] at q;have q1:((sIx items.size 0 lo:Nat):Int)=0:=eq_of_beq q.1.1;have q2:sIx items.size items.size hi - sIx items.size 0 lo=items.size:=eq_of_beq q.2;exact hw ⟨by omega,by omega⟩
 show wpAny _ _ (if (((sIx items.size 0 lo:Nat):Int) == 0 && (1:Int) == 1 && (sIx items.size items.size hi - sIx items.size 0 lo) == items.size)=true then _ else _) _ _ s;rw [if_neg hno,Z3i]
 first
  | exact Ra (m:=Builtin.Tuple.tupleExact _) (Re (Rb ⟨_,rfl,Rb h⟩) htake)
  | exact Ra (m:=Builtin.Tuple.tupleExact _) (Re (Ra (Rb (Rb ⟨_,rfl,Rb h⟩))) htake)
  | exact Ra (Ra (m:=Builtin.Tuple.tupleExact _) (Re (Rb (Rb ⟨_,rfl,Rb h⟩)) htake))
  | exact Ra (Ra (m:=Builtin.Tuple.tupleExact _) (Re (Rb ⟨_,rfl,Rb h⟩) htake))
end
end HT
namespace L2
open PySem PySem.Spec PyProof.Rows
abbrev TO:=St->Hp->(Aa Int->Hp->Prop)->Prop
def PO (X:Cx) (e:Aa Ag) (t:TO):Prop :=
 ∀ (pins:Ab (Af × Obj)) (s:Ac) (σ:St) (H:Hp) (Q:Aa Int->Hp->Prop),Inv X pins σ H s->t σ H Q ->
  wpAny (model X.prog X.w) X.A (evalPart e X.env) (fun u s'=>∃ o H',Inv X pins σ H' s' /\ IsPart u o /\ Q o H') X.xe s
def Z4H:TO:=fun _ H Q=>Q none H
def Z7N (t:TE):TO:=fun σ H Q=>t σ H fun x H1=>∃ i,x=.int i /\ Q (some i) H1
theorem Y6:∀ {us:Ab Ad},Vals (ns.map V.int) us->IntsAre us ns:=by
 induction ns with
 | nil=>intro us r;rw [Qbi] at r;cases r;exact .nil
 | cons n ns ih =>
  intro us r;rw [Qao] at r;cases r with
  | cons r1 r2 =>
   obtain⟨t,e⟩:=r1;subst e;exact .cons n t (ih r2)
section
variable {X:Cx}{e:Ag}{te:TE}{lo hi:Aa Ag}{tl th:TO}{pos p2:Pos}
theorem Z5f:PO X none Z4H:=by
 intro pins s σ H Q I h;rw [evalPart_none];exact Rb ⟨none,H,I,.none,h⟩
theorem Z5e (h:PE X e te):PO X (some e) (Z7N te):=by
 intro pins s σ H Q I hw;rw [evalPart_some];refine thn (h pins s σ H _ I hw) fun u s1 ⟨x,H1,I1,r1,q1⟩=>?_;obtain⟨i,rfl,q⟩:=q1;obtain⟨t,rfl⟩:=r1;exact⟨some i,H1,I1,.int i t,q⟩
def SlR (X:Cx) (r:V->Aa Int->Aa Int->Hp->VK->Prop):Prop :=
 ∀ (pins:Ab (Af × Obj)) (s:Ac) (σ:St) (H:Hp) (x:V) (v vl vu:Ad) (lo hi:Aa Int) (sl:Af) (Q:VK),Inv X pins σ H s->RelV x v->s.heap.IsSliceOf sl vl vu .none->IsPart vl lo->IsPart vu hi->r x lo hi H Q ->
  ∃ T id,typeLookup (.type T) "__getitem__" = pure (some (.builtin id)) /\ s.TypeIs v T /\ wpAny (model X.prog X.w) X.A (getItem v (.ref sl)) (EP X pins σ Q) X.xe s
theorem SlR.or (h:SlR X r) (h':SlR X r'):SlR X (fun x lo hi H Q=>r x lo hi H Q \/ r' x lo hi H Q):=by
 intro pins s σ H x v vl vu lo hi sl Q I rx hs pl pu q;rcases q with q | q
 .exact h pins s σ H x v vl vu lo hi sl Q I rx hs pl pu q
 .exact h' pins s σ H x v vl vu lo hi sl Q I rx hs pl pu q
def tSl (r:V->Aa Int->Aa Int->Hp->VK->Prop) (te:TE) (tl th:TO):TE:=fun σ H Q=>te σ H fun x H1=>tl σ H1 fun l H2=>th σ H2 fun u H3=>r x l u H3 Q
theorem pe_slice (hr:SlR X r) (he:PE X e te) (hl:PO X lo tl) (hu:PO X hi th):PE X (.Subscript e (.Slice lo hi none p2) pos) (tSl r te tl th):=by
 intro pins s σ H Q I h;refine Subscript_ (thn (he pins s σ H _ I h) fun v s1 ⟨x,H1,I1,r1,q1⟩=>?_);refine wpAny_Slice (thn (hl pins s1 σ H1 _ I1 q1) fun vl s2 ⟨l,H2,I2,pl,q2⟩=>thn (hu pins s2 σ H2 _ I2 q2) fun vu s3 ⟨u,H3,I3,pu,q3⟩=>?_);rw [evalPart_none];refine Rb ?_;have I4:Inv X pins σ H3 { s3 with heap:=s3.heap.push { cls:=.type "slice",data:=.fields #[vl,vu,.none] } }:=I3.kept (t':=s3.toks) fun b ob q=>Qab _ q;obtain⟨T,id,hT,ht,hg⟩:=hr pins { s3 with heap:=s3.heap.push { cls:=.type "slice",data:=.fields #[vl,vu,.none] } } σ H3 x v vl vu l u s3.heap.objs.size Q I4 r1 (Heap.IsSliceOf.new ..) pl pu q3;show wpAny (model X.prog X.w) X.A (subscriptTail e (.Slice lo hi none p2) v (.ref s3.heap.objs.size)) (EP X pins σ Q) X.xe { s3 with heap:=s3.heap.push { cls:=.type "slice",data:=.fields #[vl,vu,.none] } };exact tail_any (ops:=[.ref s3.heap.objs.size,v]) ht hT hg (by with_unfolding_all rfl)
def P3 (xs:Ab V) (lo hi:Aa Int):Ab V:=(xs.drop (HT.sIx xs.length 0 lo)).take (HT.sIx xs.length xs.length hi - HT.sIx xs.length 0 lo)
theorem uF (xs:Ab V) (lo hi:Aa Int):(P3 xs lo hi).length <= xs.length:=by
 unfold P3;rw [Qav,List.length_drop];omega
def Z9g (K:Frag):V->Aa Int->Aa Int->Hp->VK->Prop:=fun x lo hi H Q=>∃ a xs,x=.ref a /\ SqT K H a xs /\
 ¬ (HT.sIx xs.length 0 lo=0 /\ HT.sIx xs.length xs.length hi=xs.length) /\ ∀ p,H p=none->Q (.ref p) (upd H p (.tup (P3 xs lo hi)))
theorem Z2H:SlR X (Z9g X.K):=by
 intro pins s σ H x v vl vu lo hi sl Q I rx hs pl pu h;obtain⟨a,xs,rfl,hx,hw,q⟩:=h;cases rx;obtain⟨its,r,ht,hz⟩:=I.tuple hx;have hlen:its.toArray.size=xs.length:=by rw [Qaz];exact r.length.symm
 refine⟨"tuple",_,PyProof.Rows.slot_tuple_getitem.lookup,ht.typeIs,?_⟩;refine HT.getItem_tuple_cut ht hs pl pu (by rw [hlen];exact hw) ?_ (by rw [hlen];exact hz);rw [hlen];refine⟨.ref s.heap.objs.size,_,I.laid (t':=s.toks) (o:=.tup (P3 xs lo hi)) (fun b ob q=>Qab _ q) (Qag _) ?_,rfl,q _ (I.hok.fresh (Qag _))⟩;exact⟨QaV (uF xs lo hi) hz,_,(r.drop (HT.sIx xs.length 0 lo)).take (HT.sIx xs.length xs.length hi - HT.sIx xs.length 0 lo),IsTup.new _ _⟩
end
def ixN (n:Nat) (i:Int):Aa Nat:=if 0 <= i then (if i < n then some i.toNat else none) else if -(n:Int) <= i then some (i + n).toNat else none
def atI {α:Type}(xs:Ab α) (i:Int):Aa α:=(ixN xs.length i).bind fun j=>xs[j]?
theorem Z0I (h:ixN n i=some j):seqIndex? i n=some j /\ j < n /\ -(n:Int) <= i /\ i < n:=by
 unfold ixN at h;by_cases h0:0 <= i
 .rw [if_pos h0] at h;by_cases h1:i < n
  .rw [if_pos h1] at h;have e:i.toNat=j:=QaS h;exact⟨by rw [seqIndex_of h0 h1,e],by omega,by omega,h1⟩
  .rw [if_neg h1] at h;cases h
 .rw [if_neg h0] at h;by_cases h1:-(n:Int) <= i
  .rw [if_pos h1] at h;have e:(i + n).toNat=j:=QaS h;exact⟨by rw [seqIndex_neg (by omega) h1,e],by omega,h1,by omega⟩
  .rw [if_neg h1] at h;cases h
theorem G3 (h:atI xs i=some v):∃ j,seqIndex? i xs.length=some j /\ xs[j]? = some v /\ j < xs.length /\ -(xs.length:Int) <= i /\ i < xs.length:=by
 unfold atI at h;cases e:ixN xs.length i with
 | none=>rw [e] at h;cases h
 | some j =>
  rw [e] at h;obtain⟨h1,h2,h3,h4⟩:=Z0I e;exact⟨j,h1,h,h2,h3,h4⟩
theorem fW {j:Nat}(h:xs[j]? = some v):atI xs (j:Int)=some v:=by
 have hj:j < xs.length:=(Qac.mp h).1;have e:ixN xs.length (j:Int)=some j:=by
  unfold ixN;rw [if_pos (by omega),if_pos (by omega)];simp
 unfold atI;rw [e];exact h
def Z0Z (b:Ag):Prop:=∀ o i,subscripted b false o i=operate [o,i] (getItem o i)
def IxR (X:Cx) (r:R2):Prop :=
 ∀ (value slice:Ag) (pins:Ab (Af × Obj)) (s:Ac) (σ:St) (H:Hp) (x y:V) (v u:Ad) (Q:VK),Inv X pins σ H s->RelV x v->RelV y u->r x y H Q ->
  subscripted slice false v u=operate [v,u] (getItem v u)->wpAny (model X.prog X.w) X.A (subscriptTail value slice v u) (EP X pins σ Q) X.xe s
def MtR (X:Cx) (id:String) (r:V->Ab V->Hp->VK->Prop):Prop :=
 ∀ (pins:Ab (Af × Obj)) (s:Ac) (σ:St) (H:Hp) (x:V) (xs:Ab V) (v:Ad) (us:Ab Ad) (Q:VK),Inv X pins σ H s->RelV x v->Vals xs us->r x xs H Q ->
  wpAny (model X.prog X.w) X.A (call (.builtin id) (v :: us)) (EP X pins σ Q) X.xe s
section
variable {X:Cx}{a b:Ag}{ta tb:TE}{pos:Pos}
theorem IxR.or (h:IxR X r) (h':IxR X r'):IxR X (fun x y H Q=>r x y H Q \/ r' x y H Q):=by
 intro value slice pins s σ H x y v u Q I rx ry q hs;rcases q with q | q
 .exact h value slice pins s σ H x y v u Q I rx ry q hs
 .exact h' value slice pins s σ H x y v u Q I rx ry q hs
theorem Z8s (hr:IxR X r) (ha:PE X a ta) (hb:PE X b tb) (hs:Z0Z b):PE X (.Subscript a b pos) (tOp r ta tb):=by
 intro pins s σ H Q I h;exact Subscript_ (Z7z ha hb I h fun v u s2 x y H2 I2 rx ry q=>hr a b pins s2 σ H2 x y v u Q I2 rx ry q (hs _ _))
def Z8h (K:Frag):R2:=fun x y H Q=>∃ p xs i v,x=.ref p /\ y=.int i /\ SqL K H p xs /\ atI xs i=some v /\ Q v H
def Z8f (K:Frag):R2:=fun x y H Q=>∃ p xs i v,x=.ref p /\ y=.int i /\ SqT K H p xs /\ atI xs i=some v /\ Q v H
def Z8g:R2:=fun x y H Q=>∃ z i c,x=.str z /\ y=.int i /\ z.length <= sizeLine /\ atI z.cps.toList i=some c /\ Q (.str ⟨#[c]⟩) H
theorem ix_list:IxR X (Z8h X.K):=by
 intro value slice pins s σ H x y v u Q I rx ry h hs;obtain⟨p,xs,i,z,rfl,rfl,hq,he,q⟩:=h;cases rx;obtain⟨t,rfl⟩:=ry;obtain⟨its,r,pl,hz⟩:=I.list hq;obtain⟨j,h1,h2,h3,h4,h5⟩:=G3 he;obtain⟨w,ew,rw'⟩:=r.get h2;have hl:=r.length;have hn:=sR;have fin:EP X pins σ Q w s:=⟨z,H,I,rw',q⟩;by_cases h0:0 <= i
 .have hj:i.toNat=j:=by
   rw [seqIndex_of h0 h5] at h1;exact QaS h1
  exact item_listR pl.isList h0 (by omega) (by rw [hj];simpa using ew) fin hs
 .have hj:(i + (its.toArray.size:Int)).toNat=j:=by
   rw [seqIndex_neg (by omega) h4] at h1;rw [Qaz,<- hl];exact QaS h1
  exact subscriptTail_builtinR (x:=w) pl.isList.typeIs slot_list_getitem.lookup
   (wpAny_getItem_list_neg (Q:=fun r s'=>r=w /\ EP X pins σ Q r s') pl.isList (by omega) (by rw [Qaz] <;> omega) (by omega) (by rw [hj];simpa using ew) ⟨rfl,fin⟩) hs
theorem ix_tup:IxR X (Z8f X.K):=by
 intro value slice pins s σ H x y v u Q I rx ry h hs;obtain⟨p,xs,i,z,rfl,rfl,hq,he,q⟩:=h;cases rx;obtain⟨t,rfl⟩:=ry;obtain⟨its,r,pl,hz⟩:=I.tuple hq;obtain⟨j,h1,h2,h3,h4,h5⟩:=G3 he;obtain⟨w,ew,rw'⟩:=r.get h2;have hl:=r.length;have hn:=sR;have fin:EP X pins σ Q w s:=⟨z,H,I,rw',q⟩;exact subscriptTail_builtinR (x:=w) pl.typeIs slot_tuple_getitem.lookup
  (getItem_tuple (j:=j) (Q:=fun r s'=>r=w /\ EP X pins σ Q r s') pl (by omega) (by omega) (by rw [Qaz,<- hl];exact h1) (by simpa using ew) ⟨rfl,fin⟩) hs
theorem Z7m:IxR X Z8g:=by
 intro value slice pins s σ H x y v u Q I rx ry h hs;obtain⟨z,i,c,rfl,rfl,hz,he,q⟩:=h;obtain⟨t,rfl⟩:=rx;obtain⟨t',rfl⟩:=ry;obtain⟨j,h1,h2,h3,h4,h5⟩:=G3 he;have hl:z.cps.toList.length=z.length:=by simp [Str.length]
 rw [hl] at h1 h4 h5;have hn:=sR;exact tail_any (typeIs_str s z t) slot_str_getitem.lookup (getItem_str (c:=c) (by
  have e1:decide (i < -(2 ^ 63:Int))=false:=Ry (by omega);have e2:decide (i ≥ 2 ^ 63)=false:=Ry (by omega);rw [e1,e2,Bool.or_false]) (by rw [h1];simpa using h2) ⟨.str ⟨#[c]⟩,H,I.tok _,⟨_,rfl⟩,q⟩) hs
def rIx (K:Frag):R2:=fun x y H Q=>Z8h K x y H Q \/ Z8f K x y H Q \/ Z8g x y H Q
theorem Z7n:IxR X (rIx X.K):=ix_list.or (ix_tup.or Z7m)
theorem Y0 (its:Ab Ad) (n j:Nat) (u:Ad):Obj.mapSeq (·.setIfInBounds j u) { cls:=.type "list",data:=.seq its.toArray n }={ cls:=.type "list",data:=.seq (its.set j u).toArray n }:=by
 simp [Obj.mapSeq]
theorem Inv.lst (I:Inv X pins σ H s) (h:H p=some (.lst xs)) :
  ∃ (its:Ab Ad) (n:Nat),Vals xs its /\ s.heap.get? p=some { cls:=.type "list",data:=.seq its.toArray n } /\ xs.length <= sizeLine:=by
 obtain⟨z,its,n,r,e⟩:=I.hok p _ h;exact⟨its,n,r,e,z⟩
theorem Inv.lstUpd {p:Af}{xs ys:Ab V}{its its':Ab Ad}{n n':Nat}{f:Obj->Obj}(I:Inv X pins σ H s) (h:H p=some (.lst xs))
  (ho:s.heap.get? p=some { cls:=.type "list",data:=.seq its.toArray n }) (hf:f { cls:=.type "list",data:=.seq its.toArray n }={ cls:=.type "list",data:=.seq its'.toArray n' }) (r:Vals ys its') (hz:ys.length <= sizeLine) (t:Nat) :
  Inv X pins σ (upd H p (.lst ys)) { s with heap:=s.heap.update p f,toks:=t }:=by
 have e:(s.heap.update p f).get? p=some { cls:=.type "list",data:=.seq its'.toArray n' }:=by
  rw [Qbo f ho (by rw [hf] <;> rfl),hf]
 refine I.write (x:=p) (e:=p) (by rw [h];trivial) (.inl rfl) (fun b u hb q=>(Heap.get?_update_other _ _ (Ne.symm hb)).trans q) ⟨_,e⟩ ?_;exact⟨hz,its',n',r,e⟩
def Z6r:V->V->V->Hp->(Hp->Prop)->Prop:=fun o i v H Q=>∃ p xs k j,o=.ref p /\ i=.int k /\ H p=some (.lst xs) /\ ixN xs.length k=some j /\ Q (upd H p (.lst (xs.set j v)))
theorem Z2J:Z8U X Z6r:=by
 intro pins s σ H o i v ov iv u Q I ro ri rv h;obtain⟨p,xs,k,j,rfl,rfl,hp,hj,q⟩:=h;cases ro;obtain⟨t,rfl⟩:=ri;obtain⟨its,n,r,ho,hz⟩:=I.lst hp;obtain⟨h1,h2,h3,h4⟩:=Z0I hj;have hl:=r.length;have hn:=sR;have I':Inv X pins σ (upd H p (.lst (xs.set j v))) { s with heap:=s.heap.update p (Obj.mapSeq (·.setIfInBounds j u)) } :=
  I.lstUpd hp ho (Y0 its n j u) (r.set rv j) (by rw [List.length_set];exact hz) s.toks
 by_cases h0:0 <= k
 .have hk:k.toNat=j:=by
   rw [seqIndex_of h0 h4] at h1;exact QaS h1
  exact PySem.W.ki_setAt ho h0 (by omega) (by rw [Qaz,<- hl];exact h4) (by rw [hk];exact⟨_,I',q⟩)
 .have hk:(k + (its.toArray.size:Int)).toNat=j:=by
   rw [seqIndex_neg (by omega) h3] at h1;rw [Qaz,<- hl];exact QaS h1
  exact PySem.W.ki_setBack ho (by omega) (by rw [Qaz,<- hl];exact h3) (by omega) (by rw [hk];exact⟨_,I',q⟩)
theorem A3 (lo hi:Aa Int) (n:Nat):(sliceBounds lo hi none n).1=((HT.sIx n 0 lo:Nat):Int) /\ (sliceBounds lo hi none n).2.1=((HT.sIx n n hi:Nat):Int) /\ (sliceBounds lo hi none n).2.2=1:=by
 refine⟨?_,?_,rfl⟩
 .cases lo with
  | none=>simp [sliceBounds,HT.sIx]
  | some i =>
   simp only [sliceBounds,HT.sIx,Option.getD_none,show (1:Int) > 0 by decide,RC];by_cases h:i < 0
   .simp only [h,RC] <;> omega
   .simp only [h,RD] <;> omega
 .cases hi with
  | none=>simp [sliceBounds,HT.sIx]
  | some i =>
   simp only [sliceBounds,HT.sIx,Option.getD_none,show (1:Int) > 0 by decide,RC];by_cases h:i < 0
   .simp only [h,RC] <;> omega
   .simp only [h,RD] <;> omega
theorem xM (its:Ab Ad) (lo hi:Aa Int):slicePick its.toArray lo hi none=((its.drop (HT.sIx its.length 0 lo)).take (HT.sIx its.length its.length hi - HT.sIx its.length 0 lo)).toArray:=by
 obtain⟨h1,h2,h3⟩:=A3 lo hi its.toArray.size;unfold slicePick;rw [h1,h2,h3];simp only [sliceRange_one,pick_run,Qaz] <;> rfl
def Z9h (K:Frag):V->Aa Int->Aa Int->Hp->VK->Prop:=fun x lo hi H Q=>∃ a xs,x=.ref a /\ SqL K H a xs /\ ∀ p,H p=none->Q (.ref p) (upd H p (.lst (P3 xs lo hi)))
theorem Z4K:SlR X (Z9h X.K):=by
 intro pins s σ H x v vl vu lo hi sl Q I rx hs pl pu h;obtain⟨a,xs,rfl,hx,q⟩:=h;cases rx;obtain⟨its,r,ht,hz⟩:=I.list hx;have hlen:=r.length;refine⟨"list",_,slot_list_getitem.lookup,ht.isList.typeIs,?_⟩;refine wpAny_getItem_list_slice ht.isList hs pl pu .none (by simp) ?_ (by rw [Qaz] <;> omega);rw [xM,<- hlen];refine⟨.ref s.heap.objs.size,_,I.laid (t':=s.toks) (o:=.lst (P3 xs lo hi)) (fun b ob q=>Qab _ q) (Qag _) ?_,rfl,q _ (I.hok.fresh (Qag _))⟩;exact⟨QaV (uF xs lo hi) hz,_,0,(r.drop (HT.sIx xs.length 0 lo)).take (HT.sIx xs.length xs.length hi - HT.sIx xs.length 0 lo),Qan _ rfl⟩
theorem C5:OpR X (compareOp .NotIn) (fun x y H Q=>∃ i j,x=.str i /\ y=.str j /\ Q (.bl (!(!(Builtin.Str.occurrences j i 0 j.length 1).isEmpty))) H):=by
 intro pins s σ H x y v u Q I rx ry h;obtain⟨i,j,rfl,rfl,q⟩:=h;obtain⟨t,rfl⟩:=rx;obtain⟨t',rfl⟩:=ry;exact notIn_str ⟨.bl _,H,I,rfl,q⟩
theorem call_len_seq:CallR X (.builtin "len") (fun xs H Q=>∃ p ys,xs=[.ref p] /\ (SqL X.K H p ys \/ SqT X.K H p ys) /\ Q (.int ys.length) H):=by
 intro pins s σ H xs us Q I r h;obtain⟨p,ys,rfl,hq,q⟩:=h;obtain⟨u,rfl,rx⟩:=oE r;cases rx;have hn:=sR;rcases hq with hq | hq
 .obtain⟨its,r',pl,hz⟩:=I.list hq;have hlen:=r'.length;exact Calls.call_len_list pl.isList (by simp only [Qaz] <;> omega) ⟨.int ys.length,H,I.tok _,⟨s.toks + 1,by rw [Qaz,hlen]⟩,q⟩
 .obtain⟨its,r',pl,hz⟩:=I.tuple hq;have hlen:=r'.length;exact len_tuple pl (by simp only [Qaz] <;> omega) ⟨.int ys.length,H,I.tok _,⟨s.toks + 1,by rw [Qaz,hlen]⟩,q⟩
theorem G0:CallR X (.builtin "len") (fun xs H Q=>∃ z,xs=[.str z] /\ z.length <= sizeLine /\ Q (.int z.length) H):=by
 intro pins s σ H xs us Q I r h;obtain⟨z,rfl,hz,q⟩:=h;obtain⟨u,rfl,t,rfl⟩:=oE r;have hn:=sR;exact len_str (by omega) ⟨.int z.length,H,I.tok _,⟨_,rfl⟩,q⟩
theorem CallR.or (h:CallR X f r) (h':CallR X f r'):CallR X f (fun xs H Q=>r xs H Q \/ r' xs H Q):=by
 intro pins s σ H xs us Q I rs q;rcases q with q | q
 .exact h pins s σ H xs us Q I rs q
 .exact h' pins s σ H xs us Q I rs q
theorem F9:CallR X (.type "list") (fun xs H Q=>∃ p ys,xs=[.ref p] /\ (SqL X.K H p ys \/ SqT X.K H p ys) /\ ∀ l,H l=none->Q (.ref l) (upd H l (.lst ys))):=by
 intro pins s σ H xs us Q I r h;obtain⟨p,ys,rfl,hq,q⟩:=h;obtain⟨u,rfl,rx⟩:=oE r;cases rx;have fin:∀ (its:Ab Ad),Vals ys its->ys.length <= sizeLine->∀ (h':Ah) (c':Nat),(∀ b o',s.heap.get? b=some o'->h'.get? b=some o') ->
   h'.get? s.heap.objs.size=some { cls:=.type "list",dict:=none,data:=.seq its.toArray c',slots:=#[] }->EP X pins σ Q (.ref s.heap.objs.size) { s with heap:=h' }:=fun its r' hz h' c' kp e =>
  ⟨.ref s.heap.objs.size,_,I.laid (t':=s.toks) kp (Qag _) (show ObjOk X.prog X.w _ h' _ (.lst ys) from ⟨hz,its,c',r',e⟩),rfl,q _ (I.hok.fresh (Qag _))⟩
 rcases hq with hq | hq
 .obtain⟨its,r',pl,hz⟩:=I.list hq;have hlen:=r'.length;obtain⟨o,ho,hc,n,hd⟩:=pl.isList;exact call_list_seq p (.inl rfl) ho hc hd (fun h' c' kp e=>fin its r' hz h' c' kp e) (by simp only [Qaz] <;> omega)
 .obtain⟨its,r',pl,hz⟩:=I.tuple hq;have hlen:=r'.length;obtain⟨o,ho,hc,n,hd⟩:=pl;exact call_list_seq p (.inr rfl) ho hc hd (fun h' c' kp e=>fin its r' hz h' c' kp e) (by simp only [Qaz] <;> omega)
theorem yB:CallR X (.type "tuple") (fun xs H Q=>∃ p ys,xs=[.ref p] /\ ((SqL X.K H p ys /\ ∀ l,H l=none->Q (.ref l) (upd H l (.tup ys))) \/ (SqT X.K H p ys /\ Q (.ref p) H))):=by
 intro pins s σ H xs us Q I r h;obtain⟨p,ys,rfl,h⟩:=h;obtain⟨u,rfl,rx⟩:=oE r;cases rx;rcases h with ⟨hq,q⟩ | ⟨hq,q⟩
 .obtain⟨its,r',pl,hz⟩:=I.list hq;have hlen:=r'.length;refine call_tuple_list pl.isList (fun h' kp=>?_) (by simp only [Qaz] <;> omega);have I1:Inv X pins σ H { s with heap:=h' }:=I.kept (t':=s.toks) kp;have I2:Inv X pins σ (upd H h'.objs.size (.tup ys)) { s with heap:=h'.push { cls:=.type "tuple",data:=.seq its.toArray } } :=
   I1.laid (t':=s.toks) (fun b o e=>Qab _ e) (Qag _) (show ObjOk X.prog X.w _ _ _ (.tup ys) from ⟨hz,its,r',IsTup.new _ _⟩)
  exact⟨.ref h'.objs.size,_,I2,rfl,q _ (I1.hok.fresh (Qag _))⟩
 .obtain⟨its,r',pl,hz⟩:=I.tuple hq;exact call_tuple_same pl ⟨.ref p,H,I,rfl,q⟩
def tyV (K:Frag) (T:String) (x:V) (H:Hp):Prop:=match x with
 | .str _=>T = "str"
 | .int _=>T = "int"
 | .ref p=>(T = "list" /\ ∃ xs,SqL K H p xs) \/ (T = "tuple" /\ ∃ o,K.lookup p=some o /\ o.cls=.type "tuple" /\ o.dict=none) \/
   (T = "dict" /\ ((∃ kvs,H p=some (.dK kvs)) \/ ∃ es ep,H p=some (.dE es ep))) \/ (T = "set" /\ ∃ S n,H p=some (.set S n))
 | _=>False
theorem Z2A (I:Inv X pins σ H s) (r:RelV x v) (ty:tyV X.K T x H) :
  s.TypeIs v T /\ ∀ a,v=.ref a->∃ ob,s.heap.get? a=some ob /\ ob.dict=none:=by
 cases x with
 | str z =>
  obtain⟨t,rfl⟩:=r;cases (show T = "str" from ty)
  exact⟨typeIs_str s z t,fun _ e=>nomatch e⟩
 | int i =>
  obtain⟨t,rfl⟩:=r;cases (show T = "int" from ty)
  exact⟨typeIs_int s i t,fun _ e=>nomatch e⟩
 | ref p =>
  cases r;rcases ty with ⟨rfl,xs,hq⟩ | ⟨rfl,o,hk,hc,hd⟩ | ⟨rfl,hk⟩ | ⟨rfl,S,n,hk⟩
  .obtain⟨its,_,pl,_⟩:=I.list hq;refine⟨pl.isList.typeIs,fun a e=>?_⟩;cases e;obtain⟨o,n,e,c,hd,_⟩:=pl;exact⟨o,e,hd⟩
  .refine⟨⟨o,I.kIn p o hk,hc⟩,fun a e=>?_⟩;cases e;exact⟨o,I.kIn _ o hk,hd⟩
  .have z:∃ o,s.heap.get? p=some o /\ o.ExactDict:=by
    rcases hk with ⟨kvs,hk⟩ | ⟨kvs,ep,hk⟩
    .obtain⟨_,_,_,_,o,_,_,e,ex,_⟩:=I.hok p _ hk;exact⟨o,e,ex⟩
    .obtain⟨_,_,_,_,o,_,e,ex,_⟩:=I.hok p _ hk;exact⟨o,e,ex⟩
   obtain⟨o,e,ex⟩:=z;refine⟨⟨o,e,ex.1⟩,fun a e2=>?_⟩;cases e2;exact⟨o,e,ex.2.1⟩
  .obtain⟨o,_,_,_,e,ex,_⟩:=I.hok p _ hk;refine⟨⟨o,e,ex.1⟩,fun a e2=>?_⟩;cases e2;exact⟨o,e,ex.2.1⟩
 | _=>exact False.elim ty
def Z96 (K:Frag) (T:String) (r:V->Ab V->Hp->VK->Prop) (to:TE):TE:=fun σ H Q=>to σ H fun x H1=>tyV K T x H1 /\ r x [] H1 Q
def tBM (K:Frag) (T:String) (r:V->Ab V->Hp->VK->Prop) (to:TE) (t:TA):TE:=fun σ H Q=>to σ H fun x H1=>tyV K T x H1 /\ t σ H1 fun xs H2=>r x xs H2 Q
variable {o e:Ag}{es:Ab Ag}{to:TE}{t:TA}{name:Str}{apos cpos:Pos}{T id:String}{r:V->Ab V->Hp->VK->Prop}
theorem Z7b (pa:PlainAttrs T) (slot:Slot T name id) (hty:typeOf (.builtin id)=pure (.type "method_descriptor")) (hm:MtR X id r) (ho:PE X o to)
  (hbase:attributeBase o name X.env (eval o X.env)=eval o X.env:=by rfl) (hline:(apos.endLine == cpos.line)=true:=by rfl):PE X (.Call (.Attribute o name apos) [] [] cpos) (Z96 X.K T r to):=by
 intro pins s σ H Q I h;refine wpAny_Call_method0_late hbase hline (thn (ho pins s σ H _ I h) fun v s1 ⟨x,H1,I1,r1,ty,q1⟩=>?_);obtain⟨h1,h2⟩:=Z2A I1 r1 ty;exact⟨T,id,pa,slot,hty,h1,h2,Calls.callWith_builtin rfl (PySem.evalArgs_none (hm pins s1 σ H1 x [] v [] Q I1 r1 .nil q1))⟩
theorem Z8t (pa:PlainAttrs T) (slot:Slot T name id) (hty:typeOf (.builtin id)=pure (.type "method_descriptor")) (hm:MtR X id r) (ho:PE X o to) (ha:PA X (e :: es) t)
  (hbase:attributeBase o name X.env (eval o X.env)=eval o X.env:=by rfl)
  (hfew:((backTo cpos (starEach (e :: es) X.env)).all (fun x=>!x.1) && (backToKw cpos (keywordEach [] X.env)).all (fun x=>x.1.isSome)
   && decide ((e :: es).length + ([]:Ab Keyword).length + (if ([]:Ab Keyword).isEmpty then 0 else 1) < 30))=true:=by rfl)
  (hline:(apos.endLine == cpos.line)=true:=by rfl) (hs:starEach (e :: es) X.env=(false,eval e X.env) :: starEach es X.env:=by rfl) (hplain:(backTo cpos (starEach es X.env)).any (·.1)=false:=by rfl) :
  PE X (.Call (.Attribute o name apos) (e :: es) [] cpos) (tBM X.K T r to t):=by
 intro pins s σ H Q I h;refine wpAny_Call_method_late hbase hfew hline rfl (thn (ho pins s σ H _ I h) fun v s1 ⟨x,H1,I1,r1,ty,q1⟩=>?_);obtain⟨h1,h2⟩:=Z2A I1 r1 ty;refine⟨T,id,pa,slot,hty,h1,h2,?_⟩;have hA:=ha cpos pins s1 σ H1 _ I1 q1;rw [hs] at hA ⊢;refine Calls.callWith_builtin (by show (false || (backTo cpos (starEach es X.env)).any (·.1))=false;rw [hplain] <;> rfl) (Calls.evalArgs_plain ?_);exact thn hA fun us s2 ⟨vs,H2,I2,r2,q2⟩=>hm pins s2 σ H2 x vs v us Q I2 r1 r2 q2
end
def MtM (X:Cx) (id:String) (r:V->Ab V->Hp->VK->Prop):Prop :=
 ∀ (pins:Ab (Af × Obj)) (s:Ac) (σ:St) (H:Hp) (x:V) (xs:Ab V) (v:Ad) (us:Ab Ad) (Q:VK),Inv X pins σ H s->RelV x v->Vals xs us->r x xs H Q ->
  wpAny (model X.prog X.w) X.A (call (.builtin id) (v :: us)) (EP X pins σ Q) X.xe s
theorem Vals.one:∀ {x:V}{us:Ab Ad},Vals [x] us->∃ u,us=[u] /\ RelV x u
 | _,_,.cons r .nil=>⟨_,rfl,r⟩
theorem Vals.reverse (h:Vals xs us):Vals xs.reverse us.reverse:=by
 induction h with
 | nil=>exact .nil
 | cons r t ih=>rw [List.reverse_cons,List.reverse_cons];exact Vals.append ih (.cons r .nil)
section
variable {X:Cx}{pins:Ab (Af × Obj)}{σ:St}{H:Hp}{s:Ac}{l:Af}{xs ys:Ab V}
theorem Inv.lset {its its':Ab Ad}(I:Inv X pins σ H s) (hH:H l=some (.lst xs))
  (e:s.heap.get? l=some { cls:=.type "list",data:=.seq its.toArray n }) (hf:f its.toArray=its'.toArray) (hv:Vals ys its') (hz:ys.length <= sizeLine) :
  Inv X pins σ (upd H l (.lst ys)) { s with heap:=s.heap.update l (Obj.mapSeq f),toks:=t' }:=by
 have q:=PySem.IsL.update e f;rw [hf] at q;refine I.write (x:=l) (e:=l) (by rw [hH];exact trivial) (.inl rfl) (fun b' u hb hu=>(Heap.get?_update_other s.heap (Obj.mapSeq f) (Ne.symm hb)).trans hu) ⟨_,q⟩ ?_;exact⟨hz,its',_,hv,q⟩
theorem Inv.lnew (I:Inv X pins σ H s) (hv:Vals ys its) (hz:ys.length <= sizeLine) :
  Inv X pins σ (upd H s.heap.objs.size (.lst ys)) { s with heap:=s.heap.push { cls:=.type "list",data:=.seq its.toArray },toks:=t' } :=
 I.laid (fun _ _ q=>Qab _ q) (Qag _) ⟨hz,its,0,hv,Qan _ rfl⟩
theorem Inv.fresh (I:Inv X pins σ H s):H s.heap.objs.size=none:=I.hok.fresh (Qag _)
theorem Inv.lstM (I:Inv X pins σ H s) (hH:H l=some (.lst xs)):xs.length <= sizeLine /\ ∃ (its:Ab Ad) (n:Nat),Vals xs its /\ xs.length=its.length /\ s.heap.get? l=some { cls:=.type "list",data:=.seq its.toArray n }:=by
 obtain⟨z,its,n,r,e⟩:=I.hok l _ hH;exact⟨z,its,n,r,r.length,e⟩
end
section
variable {X:Cx}
def Z0s:V->Ab V->Hp->VK->Prop:=fun x vs H Q=>∃ l xs y,x=.ref l /\ vs=[y] /\ H l=some (.lst xs) /\ xs.length < sizeLine /\ Q .non (upd H l (.lst (xs ++ [y])))
theorem zA:MtM X "list.append" Z0s:=by
 intro pins s σ H x vs v us Q I rx rv h;obtain⟨l,xs,y,rfl,rfl,hH,hz,q⟩:=h;cases rx;obtain⟨u,rfl,ru⟩:=rv.one;obtain⟨z,its,n,r,hl,e⟩:=I.lstM hH;refine call_meets F.slot_list_append ⟨_,e,rfl⟩ F.entry_list_append (F.args_list_append_2 _ _) (PySem.list_append l its.toArray n u (by rw [Qaz];omega)) ⟨e,?_⟩;refine⟨.non,_,I.lset (its':=its ++ [u]) hH e (by simp) (r.append (.cons ru .nil)) ?_,rfl,q⟩;rw [QaB,List.length_singleton];omega
def Z8k:R2:=fun x y H Q=>∃ l b xs zs,x=.ref l /\ y=.ref b /\ H l=some (.lst xs) /\ H b=some (.lst zs) /\ xs.length + zs.length <= sizeLine /\ ∀ p,H p=none->Q (.ref p) (upd H p (.lst (xs ++ zs)))
theorem Z3v:OpR X (binaryOp .Add) Z8k:=by
 intro pins s σ H x y v u Q I rx ry h;obtain⟨l,b,xs,zs,rfl,rfl,hH,hB,hz,q⟩:=h;cases rx;cases ry;obtain⟨z,its,n,r,hl,e⟩:=I.lstM hH;obtain⟨z2,its2,n2,r2,hl2,e2⟩:=I.lstM hB;refine PySem.P.add_list e e2 ?_ (by rw [Qaz,Qaz];omega);have ea:its.toArray ++ its2.toArray=(its ++ its2).toArray:=by simp
 rw [ea];exact⟨.ref _,_,I.lnew (t':=s.toks) (r.append r2) (by rw [QaB];omega),rfl,q _ I.fresh⟩
end
section
set_option maxRecDepth 100000 in
end
end L2
namespace Att
open PySem PySem.W PySem.Calls PyProof.Rows
theorem uQ:∀ (ns:Ab Int) (vs:Ab Ad),WellAll P h vs (ns.map WData.int)->IntsAre vs ns:=by
 intro ns
 induction ns with
 | nil =>
  intro vs w;rw [Qbi] at w;cases w;exact .nil
 | cons n ns ih =>
  intro vs w;rw [Qao] at w;cases w with
  | cons a b =>
   cases a;exact .cons _ _ (ih _ b)
theorem Z1e {l:OpenLaw}(hn:l.most=some n) {P:Params}{h:Ah}{args:Ab WData}{vals:Ab Ad}
  (hpre:l.row.toRowW.claim.pre args=true) (hwl:WellAll P h vals args) :
  ∃ a vs ns,vals=[Value.ref a] /\ args=[WData.list (ns.map WData.int)] /\ h.get? a=some { cls:=.type "list",data:=.seq vs.toArray } /\ IntsAre vs ns /\ ns.length <= n:=by
 have hsh:WShape.hasAll [] args [.list .int]=true:=(pre_splitW hpre).1;have hc:l.pre.holds [] { args:=args }=true:=(pre_splitW hpre).2;obtain⟨d,r,rfl,h1,h2⟩:=hasAllW_cons hsh;obtain rfl:=hasAllW_nil h2;obtain⟨xs,rfl,h3⟩:=hasW_list h1;obtain⟨ns,rfl⟩:=items_int h3;have hlen:ns.length <= n:=by
  unfold OpenLaw.pre at hc;have h4:(WTm.not (.lt (.lit (.int (n:Int))) (.len (.arg 0)))).holds [] { args:=[.list (ns.map .int)] }=true:=by
   have h4:=(holds_andW hc).1;rw [hn] at h4;exact h4
  have h5:=condW_of h4 (w_not (w_lt w_lit (w_len_list (w_arg rfl))));rw [Qaa] at h5;refine Nat.le_of_not_lt fun q=>?_;have q':(n:Int) < ((ns.length:Nat):Int):=by omega
  first
   | (rw [Rz q'] at h5;exact absurd h5 (by decide))
   | (simp at h5;omega)
 cases hwl with
 | cons w1 w2 =>
  cases w2;cases w1 with
  | list ho hall=>exact⟨_,_,ns,rfl,rfl,ho,uQ ns _ hall,hlen⟩
theorem Z1w (l:OpenLaw) (args:Ab WData):l.row.toRowW.claim.post args (.bool true) args=true :=
 postW_of (r:=l.row.toRowW) (X:=(true == true))
  (show WShape.has [] (.bool true) .bool=true by first | rfl | decide | simp [WShape.has,WShape.arms,WShape.armsAll])
  (show (WTm.eq .res (.lit (.bool true))).value [] { args:=args,res:=some (.bool true),after:=args }=some (.bool (true == true)) from w_eq_bool (w_res rfl) w_lit) rfl
end Att
namespace L2
open PySem PySem.Spec PyProof.Rows
theorem kH:∀ {vs:Ab Ad}{ns:Ab Int},IntsAre vs ns->Vals (ns.map V.int) vs
 | _,_,.nil=>.nil
 | _,_,.cons n t h=>.cons ⟨t,rfl⟩ (kH h)
def Z5P (s:Stmt) (j:Nat):Stmt:=match s with
 | .ClassDef _ _ _ body _ _ _ _ _ _ _=>body.getD j (.Pass ⟨0,0,0,0⟩)
 | _=>.Pass ⟨0,0,0,0⟩
def cF (s:Stmt):Arguments:=match s with
 | .FunctionDef _ a _ _ _ _ _ _ _ _=>a
 | _=>{ posonlyargs:=[],args:=[],vararg:=none,kwonlyargs:=[],kw_defaults:=[],kwarg:=none,defaults:=[] }
def bS (s:Stmt):Ab Stmt:=match s with
 | .FunctionDef _ _ b _ _ _ _ _ _ _=>b
 | _=>[]
def aI (s:Stmt):Scope:=match s with
 | .FunctionDef _ _ _ _ _ _ sc _ _ _=>sc
 | _=>{ kind:=.function,names:=[],isGenerator:=false,isCoroutine:=false }
abbrev CX0:CXT:=fun _ _ _ _ _ _=>False
abbrev E0:XK:=fun _ _ _=>False
theorem Z3m:xI CX0 X E0:=fun _ _ _ _ _ _ _ h=>h.elim
structure Fun (K:Frag) (x qual:Str) (st:Stmt) (f:Addr) (fd:FuncData):Prop where
 ex:∃ (oc:Ad) (od:Aa Af) (kV doc pm:Ad) (an:Aa Af) (cdv ct:Ad) (osl:Ae (Aa Ad)),
  fd=fnOf x qual (cF st) (bS st) (aI st) .none kV doc pm an cdv ct /\ K.lookup f=some ⟨oc,od,.func fd,osl⟩ /\ codeIn K cdv qual=true
 kp:keepIn K (.ref f)=true
theorem Z40 (hr:Room k A):A.units + 1 < cLine:=Qbr (Nat.add_le_add_left (by decide:1 <= 64) _) hr.units
theorem iU (h:n <= 1000):n < sizeLine:=Qbr h (by decide)
section
variable {X:Cx}
theorem pv (i:Nat) {x:Str}{pos:Pos}(hN:X.N[i]? = some x:=by rfl) (hv:Vis X.env.scope x:=by first | exact Or.inl rfl | exact Or.inr (Or.inl rfl) | exact Or.inr (Or.inr rfl)) (hd:(x == ("__debug__" : Str))=false:=by decide)
  (hcd:(x == ("__classdict__" : Str))=false:=by decide):PE X (.Name x pos) (R9 i):=lL hN hv hd hcd
end
theorem Z22 {A B:Prop}(h:B):if false=true then A else B:=by
 rw [if_neg Bool.false_ne_true];exact h
theorem Z21 {A B:Prop}(h:A):if true=true then A else B:=by
 rw [if_pos rfl];exact h
def Same (H H':Hp):Prop:=∀ b o,H b=some o->H' b=some o
theorem Same.refl (H:Hp):Same H H:=fun _ _ h=>h
theorem Same.trans (a:Same H H1) (b:Same H1 H2):Same H H2:=fun c o h=>b c o (a c o h)
theorem Same.free (e:Same H H') {l:Af}(h:H' l=Option.none):H l=Option.none:=by
 cases q:H l with
 | none=>rfl
 | some o =>
  rw [e l o q] at h;cases h
section
variable {κ:Type}[DecidableEq κ]
def pT (kvs:Ab (κ × V)) (k:κ):Aa V:=(kvs.find? fun kv=>decide (kv.1=k)).map (·.2)
def sN (kvs:Ab (κ × V)) (k:κ) (v:V):Ab (κ × V) :=
 if (kvs.any fun kv=>decide (kv.1=k))=true then kvs.map (fun kv=>if kv.1=k then (kv.1,v) else kv) else kvs ++ [(k,v)]
theorem pR {k:κ}(e:p.1=k):pT (p :: r) k=some p.2:=by simp [pT,QbN,e]
theorem pS {k:κ}(e:¬ p.1=k):pT (p :: r) k=pT r k:=by simp [pT,QbN,e]
theorem J4 (k:κ):∀ kvs:Ab (κ × V),(kvs.any fun kv=>decide (kv.1=k))=(pT kvs k).isSome
 | []=>rfl
 | p :: r=>by
  rw [List.any_cons];by_cases e:p.1=k
  .simp only [pR e,Rz e,Bool.true_or,Option.isSome_some]
  .rw [pS e,Ry e,Bool.false_or];exact J4 k r
theorem tU (kvs:Ab (κ × V)) (k:κ) (v:V):(sN kvs k v).length <= kvs.length + 1:=by
 unfold sN;split
 .rw [Qaa];omega
 .rw [QaB,Qal,List.length_nil];omega
theorem RelO.isSome_eq (r:RelO o u):o.isSome=u.isSome:=by
 cases o with
 | none=>cases u with
  | none=>rfl
  | some _=>exact (show False from r).elim
 | some _=>cases u with
  | none=>exact (show False from r).elim
  | some _=>rfl
theorem KV.val (r:KV kvs vs) (k:κ):RelO (pT kvs k) (valueAt vs k):=by
 unfold KV at r
 induction r with
 | nil=>exact True.intro
 | @cons p q ps qs h t ih =>
  obtain⟨h1,h2⟩:=h;by_cases e:p.1=k
  .have e':q.1=k:=h1.symm.trans e;have b:valueAt (q :: qs) k=some q.2:=by simp [valueAt,QbN,e']
   rw [pR e,b];exact h2
  .have e':¬ q.1=k:=fun z=>e (h1.trans z);have b:valueAt (q :: qs) k=valueAt qs k:=by simp [valueAt,QbN,e']
   rw [pS e,b];exact ih
theorem KV.any (r:KV kvs vs) (k:κ):(kvs.any fun kv=>decide (kv.1=k))=vs.any fun kv=>decide (kv.1=k):=by
 unfold KV at r
 induction r with
 | nil=>rfl
 | cons h t ih=>rw [List.any_cons,List.any_cons,ih,h.1]
theorem KV.repl (r:KV kvs vs) (k:κ) {y:V}{u:Ad}(ry:RelV y u) :
  KV (kvs.map fun kv=>if kv.1=k then (kv.1,y) else kv) (vs.map fun kv=>if kv.1=k then (kv.1,u) else kv):=by
 unfold KV at r ⊢
 induction r with
 | nil=>exact .nil
 | @cons p q ps qs h t ih =>
  rw [Qao,Qao];refine .cons ?_ ih;obtain⟨h1,h2⟩:=h;by_cases e:p.1=k
  .rw [if_pos e,if_pos (h1.symm.trans e)];exact⟨h1,ry⟩
  .rw [if_neg e,if_neg (fun z=>e (h1.trans z))];exact⟨h1,h2⟩
theorem KV.put (r:KV kvs vs) (k:κ) {y:V}{u:Ad}(ry:RelV y u):KV (sN kvs k y) (stored vs k u):=by
 unfold sN stored;rw [r.any k];by_cases e:(vs.any fun kv=>decide (kv.1=k))=true
 .rw [if_pos e,if_pos e];exact r.repl k ry
 .rw [if_neg e,if_neg e];exact Paired.snoc r ⟨rfl,ry⟩
theorem KV.keys {vs:Ab (κ × Ad)}(r:KV kvs vs):kvs.map (·.1)=vs.map (·.1):=by
 unfold KV at r
 induction r with
 | nil=>rfl
 | cons h t ih=>rw [Qao,Qao,ih,h.1]
theorem KV.length (r:KV kvs vs):kvs.length=vs.length:=Paired.length r
end
theorem Z3V (r:RelV (kV k) u):(fD P w).is k u=true:=by
 cases k with
 | inl i=>obtain⟨t,e⟩:=(show ∃ t,u=Value.int i t from r);subst e;exact N2 P w i t
 | inr x=>obtain⟨t,e⟩:=(show ∃ t,u=Value.str x t from r);subst e;exact N1 P w x t
theorem zC:∀ {ks:Ab Key}{us:Ab Ad},Vals (ks.map kV) us->ItemsAre (fD P w) ks us
 | [],_,r=>by rw [Qbi] at r;cases r;exact .nil
 | k :: ks,_,r=>by
  rw [Qao] at r;cases r with
  | cons h t=>exact .cons (Z3V h) (zC t)
abbrev KT (H:Hp):Ab (Ab Key × V)->Ab (Ab Key × Af × Ad)->Prop:=Paired fun p q=>p.1=q.1 /\ H q.2.1=some (.tup (p.1.map kV)) /\ RelV p.2 q.2.2
theorem KT.val {xs:Ab (Ab Key × Af × Ad)}(r:KT H kvs xs) (k:Ab Key):RelO (pT kvs k) ((atKey xs k).map (·.2)):=by
 induction r with
 | nil=>exact True.intro
 | @cons p q ps qs h t ih =>
  obtain⟨h1,_,h2⟩:=h;by_cases e:p.1=k
  .have e':q.1=k:=h1.symm.trans e;have b:atKey (q :: qs) k=some q.2:=by simp [atKey,QbN,e']
   rw [pR e,b];exact h2
  .have e':¬ q.1=k:=fun z=>e (h1.trans z);have b:atKey (q :: qs) k=atKey qs k:=by simp [atKey,QbN,e']
   rw [pS e,b];exact ih
theorem KT.repl (r:KT H kvs xs) (k:Ab Key) {y:V}{u:Ad}(ry:RelV y u) :
  KT H (kvs.map fun kv=>if kv.1=k then (kv.1,y) else kv) (xs.map (putAt k u)):=by
 induction r with
 | nil=>exact .nil
 | @cons p q ps qs h t ih =>
  rw [Qao,Qao];refine .cons ?_ ih;obtain⟨h1,h2,h3⟩:=h;unfold putAt;by_cases e:p.1=k
  .rw [if_pos e,if_pos (h1.symm.trans e)];exact⟨h1,h2,ry⟩
  .rw [if_neg e,if_neg (fun z=>e (h1.trans z))];exact⟨h1,h2,h3⟩
theorem KT.put (r:KT H kvs xs) (k:Ab Key) {b:Af}{y:V}{u:Ad}(hb:H b=some (.tup (k.map kV))) (ry:RelV y u) :
  KT H (sN kvs k y) (storedH xs k b u):=by
 have e:(kvs.any fun kv=>decide (kv.1=k))=(atKey xs k).isSome:=by
  rw [J4,(r.val k).isSome_eq,Option.isSome_map]
 unfold sN storedH;rw [e];by_cases q:(atKey xs k).isSome=true
 .rw [if_pos q,if_pos q];exact r.repl k ry
 .rw [if_neg q,if_neg q];exact Paired.snoc r ⟨rfl,hb,ry⟩
theorem KT.keeps (r:KT H kvs xs) (ht:∀ b ys,H b=some (.tup ys)->H' b=some (.tup ys)):KT H' kvs xs :=
 Paired.mapP r fun _ _ z=>⟨z.1,ht _ _ z.2.1,z.2.2⟩
section
variable {P:Aj}{w:Ak}{H:Hp}{h:Ah}{a:Af}
theorem Z6q (ok:HOk P w H h) (e:Rd H a u):ObjOk P w H h a u:=e.ok ok
theorem Z6x (ok:HOk P w H h) (e:Rd H a (.dK kvs)):kvs.length <= sizeLine /\ (a == sysModules)=false /\ ∃ vs,KV kvs vs /\ h.DictOf (fD P w) a vs :=
 show ObjOk P w H h a (.dK kvs) from Z6q ok e
theorem Z6y (ok:HOk P w H h) (e:H a=some (.dK kvs)):kvs.length <= sizeLine /\ (a == sysModules)=false /\ ∃ vs,KV kvs vs /\ h.DictOf (fD P w) a vs:=Z6x ok (.inl e)
theorem Y4 (ok:HOk P w H h) (e:H a=some (.tup (ks.map kV))):(tupleKind (fD P w)).is h ks a:=by
 obtain⟨_,its,r,o,h1,h2,n,h3⟩:=(show ObjOk P w H h a (.tup (ks.map kV)) from ok a _ e)
 exact⟨o,its.toArray,n,h1,h2,h3,by simpa using zC r⟩
theorem Z6w (ok:HOk P w H h) (e:Rd H a (.dT kvs)):kvs.length <= sizeLine /\ (a == sysModules)=false /\
  ∃ xs,KT H kvs xs /\ h.DictOfH (tupleKind (fD P w)) a xs:=by
 obtain⟨z,y,xs,r,o,es,ep,h1,h2,h3,h4,h5⟩:=(show ObjOk P w H h a (.dT kvs) from Z6q ok e)
 refine⟨z,y,xs,r,o,es,ep,h1,h2,h3,h4,fun x hx=>?_,h5⟩;have all:∀ {l:Ab (Ab Key × V)}{m:Ab (Ab Key × Af × Ad)},KT H l m->∀ x ∈ m,(tupleKind (fD P w)).is h x.1 x.2.1:=by
  intro l m q
  induction q with
  | nil=>intro x hx;exact nomatch hx
  | @cons p q ps qs hq t ih =>
   intro x hx;rcases Qaf.mp hx with e | hx
   .subst e;exact Y4 ok (by rw [<- hq.1];exact hq.2.1)
   .exact ih x hx
 exact all r x hx
theorem Z8N (ok:HOk P w H h) (e:H a=some (.dT kvs)):kvs.length <= sizeLine /\ (a == sysModules)=false /\
  ∃ xs,KT H kvs xs /\ h.DictOfH (tupleKind (fD P w)) a xs:=Z6w ok (.inl e)
end
def DGet (H:Hp) (a:Af) (y:V) (r:Aa V):Prop :=
 (∃ kvs k,Rd H a (.dK kvs) /\ y=kV k /\ r=pT kvs k) \/ ∃ kvs k b,Rd H a (.dT kvs) /\ y=.ref b /\ H b=some (.tup (k.map kV)) /\ r=pT kvs k
def DPut (H:Hp) (a:Af) (y v:V) (H':Hp):Prop :=
 (∃ kvs k,H a=some (.dK kvs) /\ y=kV k /\ kvs.length < sizeLine /\ H'=upd H a (.dK (sN kvs k v))) \/
 ∃ kvs k b,H a=some (.dT kvs) /\ y=.ref b /\ H b=some (.tup (k.map kV)) /\ kvs.length < sizeLine /\ H'=upd H a (.dT (sN kvs k v))
theorem DGet.k {k:Key}(e:H a=some (.dK kvs)):DGet H a (kV k) (pT kvs k):=.inl ⟨kvs,k,.inl e,rfl,rfl⟩
theorem DPut.k {k:Key}(e:H a=some (.dK kvs)) (hl:kvs.length < sizeLine):DPut H a (kV k) v (upd H a (.dK (sN kvs k v))):=.inl ⟨kvs,k,e,rfl,hl,rfl⟩
section
variable {X:Cx}{pins:Ab (Af × Obj)}{σ:St}{H:Hp}{s:Ac}{a:Af}{y v:V}{u r:Ad}{o:Aa V}{A:Ai}{E:Ad->Ac->Prop}
theorem Inv.big (I:Inv X pins σ H s):sysModules < s.heap.objs.size:=by
 have h:mainGlobals < s.heap.objs.size:=(I.mod.glob.keeps I.bk).lt;exact Nat.lt_trans (by decide) h
theorem Z9p (hu:A.units + 1 < cLine) (I:Inv X pins σ H s) (g:DGet H a y o) (ry:RelV y u) (h:∀ s',Inv X pins σ H s'->Q (.bool o.isSome) s') :
  wpAny (model X.prog X.w) A (compareOp .In u (.ref a)) Q E s:=by
 rcases g with ⟨kvs,k,e,ey,l⟩ | ⟨kvs,k,b,e,ey,eb,l⟩
 .subst ey;obtain⟨z,hd,vs,rel,dd⟩:=Z6x I.hok e;refine wpAny_in_of (Z3V ry) hd dd.mapOf ?_;rw [<- (rel.val k).isSome_eq,<- l];exact h _ (I.tok _)
 .subst ey;cases (show u=Value.ref b from ry)
  obtain⟨z,hd,xs,rel,dd⟩:=Z6w I.hok e;refine wpAny_in_heap (tupleKind_room_in1 hu) (Y4 I.hok eb) hd dd ?_;have q:=(rel.val k).isSome_eq;rw [Option.isSome_map] at q;rw [<- q,<- l];exact h _ (I.tok _)
theorem Z0V (I:Inv X pins σ H s) (mu:Mut (H a)) (hs:Heap.SameBut a s.heap h') (he:∃ q,h'.get? a=some q) (new:ObjOk X.prog X.w (upd H a ob) h' a ob) :
  Inv X pins σ (upd H a ob) { s with heap:=h',toks:=t' } :=
 I.write (x:=a) (e:=a) mu (.inl rfl) (fun b q hb z=>(hs.2 b hb).trans z) he new
theorem Z7x (z:kvs.length <= sizeLine) (hd:(a == sysModules)=false) (rel:KV kvs vs) (dd:h'.DictOf (fD P w) a vs) :
  ObjOk P w H' h' a (.dK kvs):=⟨z,hd,vs,rel,dd⟩
theorem Z2f (hu:A.units + 1 < cLine) (I:Inv X pins σ H s) (g:DPut H a y v H') (ry:RelV y u) (rv:RelV v r) (h:∀ s',Inv X pins σ H' s'->Q () s') :
  wpAny (model X.prog X.w) A (setItem (.ref a) u r) Q E s:=by
 rcases g with ⟨kvs,k,e,ey,l,eH⟩ | ⟨kvs,k,b,e,ey,eb,l,eH⟩
 .subst ey eH;obtain⟨z,hd,vs,rel,dd⟩:=Z6y I.hok e;have hz:vs.length <= sizeLine:=by rw [<- rel.length];exact z
  have hl:(sN kvs k v).length <= sizeLine:=by have:=tU kvs k v;omega
  refine wpAny_setItem_pairs (hsz:=hz) (Z3V ry) dd fun h' dd' hs=>h _ ?_;have he:∃ q,h'.get? a=some q:=let ⟨q,_,_,hq,_⟩:=dd';⟨q,hq⟩;exact Z0V I (by rw [e];exact True.intro) hs he (Z7x hl hd (rel.put k rv) dd')
 .subst ey eH;cases (show u=Value.ref b from ry)
  obtain⟨z,hd,xs,rel,dd⟩:=Z8N I.hok e;have hz:xs.length <= sizeLine:=by rw [<- Paired.length rel];exact z
  have hl:(sN kvs k v).length <= sizeLine:=by have:=tU kvs k v;omega
  refine wpAny_setItem_heap (hsz:=hz) (tupleKind_room_in1 hu) (Y4 I.hok eb) dd fun h' dd' hs=>h _ ?_;obtain⟨q,es,ep,hq,h2,h3,h4,_,h5⟩:=dd';refine Z0V I (by rw [e];exact True.intro) hs ⟨q,hq⟩ ⟨hl,hd,_,(rel.put k eb rv).keeps fun c ys ec=>?_,q,es,ep,hq,h2,h3,h4,h5⟩;rw [aT (Z8z ec e (fun z=>nomatch z))];exact ec
end
def Z95 (ty td:TE):TE:=fun σ H Q=>ty σ H fun y H1=>td σ H1 fun x H2=>∃ a o,x=.ref a /\ DGet H2 a y o /\ Q (.bl o.isSome) H2
def Z8a (td ty tv:TE):TS:=fun D σ H=>tv σ H fun v H1=>td σ H1 fun x H2=>ty σ H2 fun y H3=>∃ a H4,x=.ref a /\ DPut H3 a y v H4 /\ D.nx σ H4
section
variable {X:Cx}{o i value:Ag}{pos pos':Pos}{td ty tv:TE}
theorem Z7c (hu:X.A.units + 1 < cLine) (hi:PE X i ty) (ho:PE X o td):PC X .In i o (Z95 ty td):=by
 intro pins s σ H Q I h;refine thn (hi pins s σ H _ I h) fun iv s1 ⟨y,H1,I1,ry,q1⟩=>thn (ho pins s1 σ H1 _ I1 q1) fun u s2 ⟨x,H2,I2,rx,a,ov,ex,g,q2⟩=>?_;subst ex;obtain rfl:u=Value.ref a:=rx;exact Z9p hu I2 g ry fun s3 I3=>⟨.bl ov.isSome,H2,I3,rfl,q2⟩
theorem Z5c (hu:X.A.units + 1 < cLine) (ho:PE X o td) (hi:PE X i ty) (hv:PE X value tv) (hs:swapsWith value (some (.Subscript o i pos')) pos.line X.env=pure false) :
  PS X (.Assign [.Subscript o i pos'] value pos) (Z8a td ty tv):=by
 intro pins s σ H D I h;refine wpAny_Assign_Subscript (thn (hv pins s σ H _ I h) fun r s1 ⟨v,H1,I1,rv,q1⟩=>thn (ho pins s1 σ H1 _ I1 q1) fun u s2 ⟨x,H2,I2,rx,q2⟩=>thn (hi pins s2 σ H2 _ I2 q2) fun iv s3 ⟨y,H3,I3,ry,a,H4,ex,g,q3⟩=>?_) hs;subst ex;obtain rfl:u=Value.ref a:=rx;exact Z2f hu I3 g ry rv fun s4 I4=>⟨σ,H4,I4,q3⟩
end
theorem Z4i (h:Ah) (hb:sysModules < h.objs.size):ObjOk P w H (h.push { cls:=.type "dict",data:=.dict #[] }) h.objs.size (.dK []) :=
 ⟨Qbm _,beq_eq_false_iff_ne.mpr (Ne.symm (QaA hb)),[],.nil,Heap.DictOf.new h⟩
def Z6J:TE:=fun _ H Q=>∀ p,H p=none->Q (.ref p) (upd H p (.dK []))
section
variable {X:Cx}{pos:Pos}
theorem pe_dnewK:PE X (.Dict [] [] pos) Z6J:=fun pins s σ H Q I h =>
 wpAny_Dict_empty ⟨.ref s.heap.objs.size,_,I.laid (a:=s.heap.objs.size) (o:=.dK []) (t':=s.toks) (fun _ _ q=>Qab _ q) (Qag _) (Z4i s.heap I.big),rfl,h _ (I.hok.fresh (Qag _))⟩
end
structure M1 (X:Cx) (o:Expr) (m:Str) (apos:Pos) (e:Expr) (cpos:Pos):Prop where
 base:attributeBase o m X.env (eval o X.env)=eval o X.env
 few:((backTo cpos (starEach [e] X.env)).all (fun x=>!x.1) && (backToKw cpos (keywordEach [] X.env)).all (fun x=>x.1.isSome)
  && decide (([e]:Ab Ag).length + ([]:Ab Keyword).length + (if ([]:Ab Keyword).isEmpty then 0 else 1) < 30))=true
 line:(apos.endLine == cpos.line)=true
 trees:backTo cpos (starEach [e] X.env)=[(false,eval e X.env)]
structure M2 (X:Cx) (o:Expr) (m:Str) (apos:Pos) (e f:Expr) (cpos:Pos):Prop where
 base:attributeBase o m X.env (eval o X.env)=eval o X.env
 few:((backTo cpos (starEach [e,f] X.env)).all (fun x=>!x.1) && (backToKw cpos (keywordEach [] X.env)).all (fun x=>x.1.isSome)
  && decide (([e,f]:Ab Ag).length + ([]:Ab Keyword).length + (if ([]:Ab Keyword).isEmpty then 0 else 1) < 30))=true
 line:(apos.endLine == cpos.line)=true
 trees:backTo cpos (starEach [e,f] X.env)=[(false,eval e X.env),(false,eval f X.env)]
theorem F7 (I:Nat->Ac->Prop)
  (turn:∀ n s,I n s->wpAny (model prog w) A (pyNext it) (fun r s₁=>match r with
   | none=>R (.ok .next) s₁
   | some v=>wpAny (model prog w) A (letOwnedTupleGo target it v) (fun _ s₀=>wpAny (model prog w) A (assign target env v) (fun _ s₂ =>
     wpAny (model prog w) A (forIn ifs true fun c r=>if r=true then do let ok <- isTrue c env (eval c env);pure (ForInStep.yield ok) else pure (ForInStep.yield r)) (fun ok s₃ =>
      if ok=true then wpAny (model prog w) A (eval elt env) (fun x s₄ =>
       wpAny (model prog w) A (call (.builtin "list.append") [acc,x]) (fun _ s₅=>∃ m,m < n /\ I m s₅) (notedBy (model prog w) A env fun e s'=>R (.error e) s') s₄) (notedBy (model prog w) A env fun e s'=>R (.error e) s') s₃
      else ∃ m,m < n /\ I m s₃) (notedBy (model prog w) A env fun e s'=>R (.error e) s') s₂) (notedBy (model prog w) A env fun e s'=>R (.error e) s') s₀)
     (notedBy (model prog w) A env fun e s'=>R (.error e) s') s₁) (notedBy (model prog w) A env fun e s'=>R (.error e) s') s)
  (n:Nat) (h:I n s) :
  codeAny (model prog w) A (.compLoop (.ListComp elt [⟨target,iter,ifs,0⟩] scope pos) 0 it acc env) R s:=by
 refine codeAny_loop rfl I (fun n s hI=>?_) n h;show wpAny _ A ((compTurn (.ListComp elt [⟨target,iter,ifs,0⟩] scope pos) 0 it acc env).onRaise (fun x=>do noteFrame x env;theTreesLotGoes x)) _ _ s
 refine wpAny_noted ?_;rw [compTurn_list];refine Ra (wpAny_standAt (Ra (Rc (turn n s hI) (fun r s₁ h₁=>?_) fun _ _ h'=>h')));cases r with
 | none=>exact Rb h₁
 | some v =>
  refine Ra (Rc h₁ (fun _ s₀ h₀=>?_) fun _ _ h'=>h');refine Ra (Rc h₀ (fun _ s₂ h₂=>Ra (Rc h₂ (fun ok s₃ h₃=>?_) fun _ _ h'=>h')) fun _ _ h'=>h');cases ok with
  | false=>exact Rb ⟨rfl,h₃⟩
  | true =>
   exact Ra (Ra (Rc h₃ (fun x s₄ h₄=>Ra (Rc h₄ (fun _ s₅ h₅=>Rb (Rb ⟨rfl,h₅⟩)) fun _ _ h'=>h')) fun _ _ h'=>h'))
theorem pN:∀ (names:Ab (Str × NameKind)) (acc:Ab (Str × Af)),(∀ n,(n,NameKind.free) ∈ names->∃ c,env.cells.lookup n=some c) ->
  (∀ n c,acc.lookup n=some c->env.cells.lookup n=some c) ->
  ∃ cl,(forIn names acc fun (x:Str × NameKind) cs=>(if (x.2 == NameKind.free)=true then (cellOf env x.1 >>= fun a=>pure (ForInStep.yield ((x.1,a) :: cs))) else pure (ForInStep.yield cs):Sem (ForInStep (Ab (Str × Af)))))=pure cl /\
   (∀ n c,cl.lookup n=some c->env.cells.lookup n=some c) /\ (∀ n,(n,NameKind.free) ∈ names->∃ c,cl.lookup n=some c) /\ (∀ n c,acc.lookup n=some c->∃ c',cl.lookup n=some c')
 | [],acc,_,h2=>⟨acc,rfl,h2,fun n h=>(nomatch h),fun n c h=>⟨c,h⟩⟩
 | (n,k) :: r,acc,h1,h2=>by
  by_cases hk:k=.free
  .subst hk;obtain⟨c,hc⟩:=h1 n Qau;have h2':∀ m c',((n,c) :: acc).lookup m=some c'->env.cells.lookup m=some c':=by
    intro m c' e;rw [QaX] at e;cases q:m == n with
    | true =>
     rw [q] at e;have:=eq_of_beq q;subst this;cases e;exact hc
    | false =>
     rw [q] at e;exact h2 m c' e
   obtain⟨cl,e,g1,g2,g3⟩:=pN r ((n,c) :: acc) (fun m hm=>h1 m (Qae _ hm)) h2';refine⟨cl,?_,g1,?_,?_⟩
   .rw [List.forIn_cons];have e1:cellOf env n=pure c:=by unfold cellOf;rw [hc]
    show ((if (NameKind.free == NameKind.free)=true then _ else _) >>= _)=_;rw [if_pos (by rfl),e1];exact e
   .intro m hm;rcases Qaf.mp hm with z | z
    .cases z;exact g3 n c (by simp [QaX])
    .exact g2 m z
   .intro m c' hm;cases q:m == n with
    | true=>exact g3 m c (by rw [QaX,q])
    | false=>exact g3 m c' (by rw [QaX,q];exact hm)
  .obtain⟨cl,e,g1,g2,g3⟩:=pN r acc (fun m hm=>h1 m (Qae _ hm)) h2;refine⟨cl,?_,g1,?_,g3⟩
   .rw [List.forIn_cons];have:(k == NameKind.free)=false:=by simpa using hk
    show ((if (k == NameKind.free)=true then _ else _) >>= _)=_;rw [this,if_neg (by decide)];exact e
   .intro m hm;rcases Qaf.mp hm with z | z
    .cases z;exact absurd rfl hk
    .exact g2 m z
theorem pM (h:∀ n,(n,NameKind.free) ∈ scope.names->∃ c,env.cells.lookup n=some c) :
  ∃ cl,closureFor scope env=pure cl /\ (∀ n c,cl.lookup n=some c->env.cells.lookup n=some c) /\ (∀ n,(n,NameKind.free) ∈ scope.names->∃ c,cl.lookup n=some c):=by
 obtain⟨cl,e,g1,g2,_⟩:=pN (env:=env) scope.names [] h (fun n c q=>(nomatch q));refine⟨cl,?_,g1,g2⟩;unfold closureFor
 first
  | (rw [show (forIn scope.names ([]:Ab (Str × Af)) _:Sem (Ab (Str × Af)))=pure cl from e];rfl)
  | (simp only [bind_pure];exact e)
  | exact e
def eQ (X:Cx) (N':Ab Str) (scope:Scope) (cl:Ab (Str × Af)) (C:Af) (s₀:Ac) (H₀:Hp) (ex:Ab Af) (pins:Ab (Af × Obj)):Cx :=
 { X with N:=N',s₀:=s₀,H₀:=H₀,env:=compEnvC scope cl C X.env,outer:=X.stack,stack:=X.stack,ex:=ex,fn:=fun _=>false,pn:=X.pn ++ pins,xe:=fun _ _=>False }
def gB (osc:Scope) (N:Ab Str) (scope:Scope) (fr:Ab Nat):Bool :=
 scope.kind == .function && scope.names.all (fun y=>y.2 != .cell) && scope.names.all (fun y=>y.2 != .free || (osc.names.lookup y.1 == some .cell || osc.names.lookup y.1 == some .free)) &&
 fr.all (fun j=>match N[j]? with | some x=>scope.names.lookup x == some .free | none=>false) && scope.names.all (fun y=>y.2 != .local || scope.names.lookup y.1 == some .local)
theorem iQ {env:Env}:∀ {names:Ab (Str × NameKind)}{x:Str},names.lookup x=some .free ->
  (names.map fun (n,k)=>if (k == NameKind.free && env.scope.kind == .function && env.kindOf n == some .cell) then (n,NameKind.cell) else (n,k)).lookup x=some .cell \/
  (names.map fun (n,k)=>if (k == NameKind.free && env.scope.kind == .function && env.kindOf n == some .cell) then (n,NameKind.cell) else (n,k)).lookup x=some .free
 | [],_,h=>by simp at h
 | (n,k) :: r,x,h=>by
  have ih:=@iQ env r x;show List.lookup x ((if (k == NameKind.free && env.scope.kind == .function && env.kindOf n == some .cell)=true then (n,NameKind.cell) else (n,k)) :: _)=_ \/ List.lookup x ((if (k == NameKind.free && env.scope.kind == .function && env.kindOf n == some .cell)=true then (n,NameKind.cell) else (n,k)) :: _)=_;cases hx:x == n with
  | true =>
   simp only [QaX,hx] at h;cases h;by_cases hc:(NameKind.free == NameKind.free && env.scope.kind == .function && env.kindOf n == some .cell)=true
   .rw [if_pos hc];left;simp only [QaX,hx]
   .rw [if_neg hc];right;simp only [QaX,hx]
  | false =>
   simp only [QaX,hx] at h;by_cases hc:(k == NameKind.free && env.scope.kind == .function && env.kindOf n == some .cell)=true
   .rw [if_pos hc];simp only [QaX,hx];exact ih h
   .rw [if_neg hc];simp only [QaX,hx];exact ih h
theorem tQ {env:Env}{names:Ab (Str × NameKind)}(hc:∀ y ∈ names,y.2 ≠ .cell) {x:Str}{k':NameKind}(hk:k'=.cell \/ k'=.free)
  (h:(names.map fun (n,k)=>if (k == NameKind.free && env.scope.kind == .function && env.kindOf n == some .cell) then (n,NameKind.cell) else (n,k)).lookup x=some k'):(x,NameKind.free) ∈ names:=by
 have h1:=PySem.mem_of_lookup h;obtain⟨⟨n,k⟩,hm,e⟩:=QaM.mp h1;by_cases q:(k == NameKind.free && env.scope.kind == .function && env.kindOf n == some .cell)=true
 .simp only [q] at e;simp at e;obtain⟨rfl,_⟩:=e;simp at q;obtain⟨⟨rfl,_⟩,_⟩:=q;exact hm
 .simp only [q] at e;simp at e;obtain⟨rfl,rfl⟩:=e;rcases hk with z | z
  .exact absurd z (hc _ hm)
  .subst z;exact hm
def iR (k:Nat) (fr:Ab Nat) (σ:St):St:=List.replicate k none ++ fr.map fun j=>(σ[j]?).join
def eD (tgs:Ab Str) (fr:Ab Nat) (N:Ab Str):Ab Str:=tgs ++ fr.map fun j=>(N[j]?).getD Str.empty
theorem Z3Y {scope:Scope}{tgs:Ab Str}{fr:Ab Nat}{cl:Ab (Str × Af)}{h':Ah}{tk:Nat}{ex:Ab Af}(I:Inv X pins σ H s)
  (chk:gB X.env.scope X.N scope fr=true)
  (hcl1:∀ n c,cl.lookup n=some c->X.env.cells.lookup n=some c) (hcl2:∀ n,(n,NameKind.free) ∈ scope.names->∃ c,cl.lookup n=some c)
  (hns:h'.Ns s.heap.objs.size (fun _=>none)) (hkeep:∀ b o,s.heap.get? b=some o->h'.get? b=some o)
  (hex:∀ b ∈ ex,yG X pins H b /\ b < s.heap.objs.size) :
  Inv (eQ X (eD tgs fr X.N) scope cl s.heap.objs.size s H ex pins) [] (iR tgs.length fr σ) H { s with heap:=h',toks:=tk }:=by
 simp only [gB,QaU,List.all_eq_true] at chk;obtain⟨⟨⟨⟨c1,c2⟩,c3⟩,c4⟩,c5⟩:=chk;have hkind:scope.kind=.function:=by simpa using c1
 have hcell:∀ y ∈ scope.names,y.2 ≠ .cell:=fun y hy=>by simpa using c2 y hy
 have lt:∀ b o,s.heap.get? b=some o->b < s.heap.objs.size:=fun b o e=>Qah e;have nofr:∀ b ∈ frs X.stack,b ∈ X.env.locals :: X.fs:=I.stkSub;refine⟨⟨I.ok.mod,hkind,I.ok.glob,I.ok.blt,Qag _,fun x y c a b=>I.ok.inj x y c (hcl1 _ _ a) (hcl1 _ _ b),fun x hx=>?_,fun x c hf _=>?_,I.ok.hd,I.ok.frames,.inl rfl,fun b hb=>⟨?_,fun x c e=>(hex b hb).1.2.2.2.2.1 x c (hcl1 _ _ e)⟩,
   I.bs,QaV I.ok.bsz I.sz,fun b o e hb=>?_,fun b hb hf=>?_,I.stack,I.stkFree⟩,
  rfl,I.bare,Un.kept hkeep,⟨fun _=>none,hns,fun i x v h1 h2 h3=>?_⟩,fun x c e=>?_,I.fresh,fun x c e=>I.freeC x c (hcl1 _ _ e),fun p hp=>?_,I.hok.kept hkeep,?_⟩
 .-- has
  have hx:(relabel scope X.env).names.lookup x=some .cell \/ (relabel scope X.env).names.lookup x=some .free:=hx;rcases hx with z | z
  .exact hcl2 x (tQ hcell (.inl rfl) z)
  .exact hcl2 x (tQ hcell (.inr rfl) z)
 .cases hf
 .show b ≠ s.heap.objs.size;exact QaA (hex b hb).2
 .-- noex
  obtain⟨⟨_,_,_,h4,_⟩,_⟩:=hex b hb;rcases h4 with z | z
  .exact I.ok.noex b o e z
  .exact absurd (Qah (I.ok.bs b o e).1) (Nat.not_lt.mpr z)
 .-- exfs
  obtain⟨⟨_,h2,h3,_⟩,_⟩:=hex b hb;rcases Qaf.mp (nofr b hf) with z | z
  .exact h2 z
  .exact h3 z
 .-- loc
  have h1:(eD tgs fr X.N)[i]? = some x:=h1;by_cases hi:i < tgs.length
  .unfold iR at h2;rw [QaY (by simpa using hi),Qby,if_pos hi] at h2;cases h2
  .unfold iR at h2;rw [Qa4 (by simpa using hi),List.length_replicate,Qas] at h2;unfold eD at h1;rw [Qa4 (by simpa using hi),Qas] at h1;cases ej:fr[i - tgs.length]? with
   | none=>rw [ej] at h2;cases h2
   | some j =>
    rw [ej] at h1 h2;have hj:=c4 j (QaI ej);cases en:X.N[j]? with
    | none=>rw [en] at hj;cases hj
    | some y =>
     rw [en] at hj;simp only [Option.map_some,en,Option.getD_some] at h1;cases h1;have hl:scope.names.lookup x=some .free:=by simpa using hj
     have hσ:σ[j]? = some (some v):=by
      simp only [Option.map_some] at h2;cases eσ:σ[j]? with
      | none=>rw [eσ] at h2;cases h2
      | some o=>rw [eσ] at h2;simp only [Qaq] at h2;injection h2 with h2;rw [h2]
     have hko:X.env.scope.names.lookup x=some .cell \/ X.env.scope.names.lookup x=some .free:=by
      have:=c3 _ (PySem.mem_of_lookup hl);simpa using this
     obtain⟨m,_,hloc⟩:=I.loc;obtain⟨u,r,q⟩:=hloc j x v en hσ (hko.elim (fun z=>.inr (.inl z)) fun z=>.inr (.inr z));refine⟨u,r,.inr ?_⟩;obtain⟨c,hc⟩:=hcl2 x (PySem.mem_of_lookup hl);have hin:=iQ (env:=X.env) hl;refine⟨hin,c,hc,?_⟩;rcases q with ⟨k,_⟩ | ⟨_,c',e',z⟩
     .have k':X.env.scope.names.lookup x=some .local:=k;rcases hko with w | w <;> (rw [k'] at w;cases w)
     .have:c'=c:=by have:=hcl1 x c hc;rw [e'] at this;exact QaS this
      subst this;obtain⟨oc,hoc,hd⟩:=z;exact⟨oc,hkeep _ _ hoc,hd⟩
 .obtain⟨v,oc,hoc,hd⟩:=I.cell x c (hcl1 _ _ e);exact⟨v,oc,hkeep _ _ hoc,hd⟩
 .have hp':p ∈ X.pn ++ pins:=by
   have:p ∈ (X.pn ++ pins) ++ []:=hp;simpa using this
  obtain⟨a1,a2,a3,a4,a5⟩:=I.pin p hp';refine⟨hkeep _ _ a1,a2,?_,fun hf=>?_,a5⟩
  .show p.1 ≠ s.heap.objs.size;exact QaA (lt _ _ a1)
  .rcases Qaf.mp (nofr _ hf) with z | z
   .exact a3 z
   .exact a4 z
 .show (iR tgs.length fr σ).length=(eD tgs fr X.N).length;simp [iR,eD]
def PTs (X:Cx) (ifs:Ab Ag) (t:TT):Prop :=
 ∀ (pins:Ab (Af × Obj)) (s:Ac) (σ:St) (H:Hp) (Q:Bool->Hp->Prop),Inv X pins σ H s->t σ H Q ->
  wpAny (model X.prog X.w) X.A (forIn ifs true fun c r=>if r=true then do let ok <- isTrue c X.env (eval c X.env);pure (ForInStep.yield ok) else pure (ForInStep.yield r)) (TP X pins σ Q) X.xe s
def Z7L:TT:=fun _ H Q=>Q true H
theorem Z58:PTs X [] Z7L:=fun pins s σ H Q I h=>wpAny_tests_nil ⟨H,I,h⟩
theorem Z57 (h:PT X c t):PTs X [c] t:=fun pins s σ H Q I q=>wpAny_tests_one (h pins s σ H Q I q)
def Z6B (J:It) (k:Nat) (fr:Ab Nat) (g:TG) (tt:TT) (te:TE) (σ:St) (H1:Hp) (Q:VK):Prop :=
 ∀ acc,H1 acc=none->∃ W:Nat->Nat->Ab V->Hp->Prop,(∃ m,W 0 m [] (upd H1 acc (.lst []))) /\ ∀ i m ys H,W i m ys H->H acc=some (.lst ys) /\
  ((J.stop i H /\ Q (.ref acc) H) \/ (J.go i H /\ ∀ x H', J.yld i H x H' -> g x (iR k fr σ) H' fun σ2 H2 => (σ2.drop k = (iR k fr σ).drop k /\ σ2.length = (iR k fr σ).length) /\ tt σ2 H2 fun b H3 => if b = true then te σ2 H3 fun y H4 => ∃ ys', H4 acc = some (.lst ys') /\ ys'.length < sizeLine /\
   ∃ m',m' < m /\ W (i + 1) m' (ys' ++ [y]) (upd H4 acc (.lst (ys' ++ [y]))) else ∃ m' ys',m' < m /\ W (i + 1) m' ys' H3))
def Z0j (wi:TI) (k:Nat) (fr:Ab Nat) (g:TG) (tt:TT) (te:TE):TE:=fun σ H Q=>wi σ H fun J H1=>Z6B J k fr g tt te σ H1 Q
theorem P4 {cl:Ab (Str × Af)}{R:VK}{E:Ad->Ac->Prop}{RR:Ad->Af->Result->Ac->Prop}(I2:Inv X pins σ H s) (T:Q3 X.prog X.w X.K tg J fp it tn) (st2:tn 0 s.heap) (f2:∀ b ∈ fp,yG X pins H b) (hc:X.calm=true)
  (chk:gB X.env.scope X.N scope fr=true)
  (hcl1:∀ n c,cl.lookup n=some c->X.env.cells.lookup n=some c) (hcl2:∀ n,(n,NameKind.free) ∈ scope.names->∃ c,cl.lookup n=some c)
  (hg:∀ cl C s0 H0 ex pins,PG (eQ X (eD tgs fr X.N) scope cl C s0 H0 ex pins) tg g)
  (ht:∀ cl C s0 H0 ex pins,PTs (eQ X (eD tgs fr X.N) scope cl C s0 H0 ex pins) ifs tt)
  (he:∀ cl C s0 H0 ex pins,PE (eQ X (eD tgs fr X.N) scope cl C s0 H0 ex pins) elt te)
  (rd:Z6B J tgs.length fr g tt te σ H R)
  (fin:∀ D C s' Hend m,Inv X pins σ Hend s'->s'.heap.Ns C m->Hend C=none->C ≠ X.env.locals->X.s₀.heap.objs.size <= C->(∀ x c,X.env.cells.lookup x=some c->c ≠ C)->(∀ p ∈ X.pn ++ pins,p.1 ≠ C)->R (.ref D) Hend->RR (.ref D) C (.ok .next) s') :
  wpAny (model X.prog X.w) X.A (newList []) (fun acc s₃=>wpAny (model X.prog X.w) X.A (newFunctionEnv scope X.env.globals cl [] X.env.qual none .none (some X.env)) (fun cenv s₄ =>
   codeAny (model X.prog X.w) X.A (.compStart (.ListComp elt [⟨tg,iter,ifs,0⟩] scope pos) 0 (.ref it) acc { cenv with scope:=relabel scope X.env }) (RR acc cenv.locals) s₄) E s₃) E s:=by
 have chk':=chk;simp only [gB,QaU,List.all_eq_true] at chk';obtain⟨⟨⟨⟨c1,c2⟩,c3⟩,c4⟩,c5⟩:=chk';have hkind:scope.kind=.function:=by simpa using c1
 have hcell:∀ y ∈ scope.names,y.2 ≠ .cell:=fun y hy=>by simpa using c2 y hy
 refine Re (wpAny_newFunctionEnv hcell (by intro y hy;simp at hy) (fun h₁ hns₁ hsb₁=>?_) hkind);have I3:Inv X pins σ (upd H s.heap.objs.size (.lst [])) { s with heap:=s.heap.push { cls:=.type "list",data:=.seq ([]:Ab Ad).toArray } }:=I2.lnew (t':=s.toks) (its:=[]) .nil (Qbm _);generalize hs3:({ s with heap:=s.heap.push { cls:=.type "list",data:=.seq ([]:Ab Ad).toArray } }:Ac)=s3 at I3 hns₁ hsb₁ ⊢;have heap3:s3.heap=s.heap.push { cls:=.type "list",data:=.seq ([]:Ab Ad).toArray }:=by rw [<- hs3]
 have kept3:∀ b o,s.heap.get? b=some o->s3.heap.get? b=some o:=fun b o e=>by rw [heap3];exact Qab _ e
 have size3:s3.heap.objs.size=s.heap.objs.size + 1:=by rw [heap3,Heap.size_push]
 have fpl:∀ b ∈ fp,b < s.heap.objs.size:=fun b hb=>by
  obtain⟨o,e,_⟩:=T.obj 0 _ st2 b hb;exact Qah e
 have upn:∀ {b:Af},b < s.heap.objs.size->upd H s.heap.objs.size (.lst []) b=H b:=fun hb=>aT (QaA hb);have f3:∀ b ∈ fp,yG X pins (upd H s.heap.objs.size (.lst [])) b:=fun b hb=>⟨by rw [upn (fpl b hb)];exact (f2 b hb).1,(f2 b hb).2⟩;have keep4:∀ b o,s3.heap.get? b=some o->h₁.get? b=some o:=fun b o e=>hsb₁.extBut b o (QaA (Qah e)) (Qab _ e);have I4:=Z3Y (tgs:=tgs) (h':=h₁) (tk:=s3.toks + ([]:Ab (Str × Ad)).length) (ex:=fp) I3 chk hcl1 hcl2 (by simpa using hns₁) keep4 (fun b hb=>⟨f3 b hb,by rw [size3];exact Qa3 (fpl b hb)⟩);obtain⟨W,⟨m0,w0⟩,turn⟩:=rd s.heap.objs.size I2.fresh;generalize hX':eQ X (eD tgs fr X.N) scope cl s3.heap.objs.size s3 (upd H s.heap.objs.size (.lst [])) fp pins=X' at I4;have eA:X'.A=X.A:=by rw [<- hX'];rfl
 have eP:X'.prog=X.prog:=by rw [<- hX'];rfl
 have eW:X'.w=X.w:=by rw [<- hX'];rfl
 have eK:X'.K=X.K:=by rw [<- hX'];rfl
 have eC:X'.calm=true:=by rw [<- hX'];exact hc
 have eX:X'.xe=fun _ _=>False:=by rw [<- hX'];rfl
 have eEnv:X'.env=compEnvC scope cl s3.heap.objs.size X.env:=by rw [<- hX'];rfl
 have hg':PG X' tg g:=by rw [<- hX'];exact hg _ _ _ _ _ _
 have ht':PTs X' ifs tt:=by rw [<- hX'];exact ht _ _ _ _ _ _
 have he':PE X' elt te:=by rw [<- hX'];exact he _ _ _ _ _ _
 have fp4:∀ {H':Hp},(∀ b ∈ fp,H' b=none)->∀ b ∈ fp,yG X' [] H' b:=fun {H'} hn b hb=>by
  rw [<- hX'];obtain⟨_,z2,z3,z4,z5,z6⟩:=f3 b hb;refine⟨hn b hb,?_,fun hf=>?_,.inl hb,fun x c e=>z5 x c (hcl1 _ _ e),fun p hp=>z6 p (by have:p ∈ (X.pn ++ pins) ++ []:=hp;simpa using this)⟩
  .show b ≠ s3.heap.objs.size;rw [size3];exact QaA (Qa3 (fpl b hb))
  .rcases Qaf.mp (I3.stkSub b hf) with z | z
   .exact z2 z
   .exact z3 z
 have loop:codeAny (model X.prog X.w) X.A (.compLoop (.ListComp elt [⟨tg,iter,ifs,0⟩] scope pos) 0 (.ref it) (.ref s.heap.objs.size) (compEnvC scope cl s3.heap.objs.size X.env))
   (RR (.ref s.heap.objs.size) s3.heap.objs.size) { s3 with heap:=h₁,toks:=s3.toks + ([]:Ab (Str × Ad)).length }:=by
  refine F7 (fun n s'=>∃ i ys H',Inv X' [] (iR tgs.length fr σ) H' s' /\ tn i s'.heap /\ (∀ b ∈ fp,H' b=none) /\ W i n ys H') ?_ m0
   ⟨0,[],upd H s.heap.objs.size (.lst []),I4,T.keep _ _ _ st2 fun b hb o e=>keep4 _ _ (kept3 _ _ e),fun b hb=>(f3 b hb).1,w0⟩
  rintro n s5 ⟨i,ys,H5,I5,st5,fr5,w5⟩;obtain⟨hacc,turn⟩:=turn i n ys H5 w5;rcases turn with ⟨stop,q⟩ | ⟨go,step⟩
  .have d:=T.done X' eP eW eK eC i [] s5 (iR tgs.length fr σ) H5 (fun _ _=>False) I5 (fp4 fr5) st5 stop;rw [eA] at d;refine Rc d (fun r s6 ⟨hr,I6⟩=>?_) fun _ _ z=>z.elim;subst hr;have I6':=I6;rw [<- hX'] at I6';have un6:Un (frs X.stack) fp (upd H s.heap.objs.size (.lst [])) H5 s3.heap s6.heap:=I6'.base;have I7:Inv X pins σ H5 s6:=I3.call' I6'.os un6 (by have:=I6'.hok;exact this) I6'.bare fun b hb=>⟨(f3 b hb).2.2.2.1,(f3 b hb).2.1,(f3 b hb).2.2.2.2.1,(f3 b hb).2.2.2.2.2⟩;obtain⟨m,hm,_⟩:=I6'.loc;refine fin _ _ s6 H5 m I7 hm I6'.free ?_ ?_ ?_ ?_ q
   .exact fun z=>by have:=I3.lt;rw [<- z] at this;exact Qbf _ this
   .exact I3.sz
   .intro x c e z;obtain⟨v,oc,hoc,_⟩:=I3.cell x c e;have:=Qah hoc;rw [z] at this;exact Qbf _ this
   .intro p hp z;have:=Qah (I3.pin p hp).1;rw [z] at this;exact Qbf _ this
  .have d:=T.item X' eP eW eK eC i [] s5 (iR tgs.length fr σ) H5 (fun _ _=>False) I5 (fp4 fr5) st5 go;rw [eA] at d;refine Rc d (fun r s6 ⟨u,hr,h6⟩=>?_) fun _ _ z=>z.elim;subst hr;refine Rc h6 (fun _ s7 ⟨x,H7,I7,r7,y7,st7,fr7⟩=>?_) fun _ _ z=>z.elim;have I7':=I7.pinned (fp4 fr7) (T.obj _ _ st7);have a:=hg' _ s7 _ H7 x u _ I7' r7 (step x H7 y7);rw [eEnv,eA,eP,eW,eX] at a;refine Rc a (fun _ s8 ⟨σ8,H8,I8,⟨kp,kl⟩,q8⟩=>?_) fun _ _ z=>z.elim;have b:=ht' _ s8 σ8 H8 _ I8 q8;rw [eEnv,eA,eP,eW,eX] at b;refine Rc b (fun ok s9 ⟨H9,I9,q9⟩=>?_) fun _ _ z=>z.elim;have again:∀ {s10:Ac}{H10:Hp}{ys10:Ab V}{m':Nat},Inv X' ([] ++ wE fp s7.heap) σ8 H10 s10->m' < n->W (i + 1) m' ys10 H10 ->
     ∃ m,m < n /\ ∃ i ys H',Inv X' [] (iR tgs.length fr σ) H' s10 /\ tn i s10.heap /\ (∀ b ∈ fp,H' b=none) /\ W i m ys H':=fun {s10 H10 ys10 m'} I10 hm w10=>by
    refine⟨m',hm,i + 1,ys10,H10,I10.unpinned.weak kl.symm (fun j v e=>?_),T.keep _ _ _ st7 fun b hb o e=>(I10.pin (b,o) (Qam _ (Qam _ (lP hb e)))).1,fun b hb=>?_,w10⟩
    .by_cases hj:j < tgs.length
     .unfold iR at e;rw [QaY (by simpa using hj),Qby,if_pos hj] at e;cases e
     .have e1:(σ8.drop tgs.length)[j - tgs.length]? = some (some v):=by
       rw [kp,Qbl];rw [show tgs.length + (j - tgs.length)=j by omega];exact e
      rw [Qbl,show tgs.length + (j - tgs.length)=j by omega] at e1;exact e1
    .obtain⟨o,e,d⟩:=T.obj _ _ st7 b hb;exact (I10.pin (b,o) (Qam _ (Qam _ (lP hb e)))).2.1
   cases ok with
   | false =>
    rw [if_neg (by decide)] at q9 ⊢;obtain⟨m',ys',hm,w9⟩:=q9;exact again I9 hm w9
   | true =>
    rw [if_pos rfl] at q9 ⊢;have c:=he' _ s9 σ8 H9 _ I9 q9;rw [eEnv,eA,eP,eW,eX] at c;refine Rc c (fun y s10 ⟨v10,H10,I10,r10,ys',ha10,hl10,m',hm,w10⟩=>?_) fun _ _ z=>z.elim;have d:=zA (X:=X') _ s10 σ8 H10 (.ref s.heap.objs.size) [v10] (.ref s.heap.objs.size) [y] (fun _ H11=>W (i + 1) m' (ys' ++ [v10]) H11) I10 rfl (.cons r10 .nil) ⟨_,ys',v10,rfl,rfl,ha10,hl10,w10⟩;rw [eA,eP,eW,eX] at d;refine Rc d (fun _ s11 ⟨_,H11,I11,_,w11⟩=>again I11 hm w11) fun _ _ z=>z.elim
 exact codeAny_compStart_list loop (T.self _ 0 _ _ _ (T.keep _ _ _ st2 fun b hb o e=>keep4 _ _ (kept3 _ _ e)) loop)
theorem Z0D (hc:X.calm=true) (chk:gB X.env.scope X.N scope fr=true) (hi:PI X tg iter wi)
  (hg:∀ cl C s0 H0 ex pins,PG (eQ X (eD tgs fr X.N) scope cl C s0 H0 ex pins) tg g)
  (ht:∀ cl C s0 H0 ex pins,PTs (eQ X (eD tgs fr X.N) scope cl C s0 H0 ex pins) ifs tt)
  (he:∀ cl C s0 H0 ex pins,PE (eQ X (eD tgs fr X.N) scope cl C s0 H0 ex pins) elt te)
  (hs:∀ x,foldedSetIterable iter X.env x=pure x:=by intro _;rfl) :
  PE X (.ListComp elt [⟨tg,iter,ifs,0⟩] scope pos) (Z0j wi tgs.length fr g tt te):=by
 intro pins s σ H Q I h;have chk':=chk;simp only [gB,QaU,List.all_eq_true] at chk';obtain⟨⟨⟨⟨c1,c2⟩,c3⟩,c4⟩,c5⟩:=chk';obtain⟨cl,ecl,hcl1,hcl2⟩:=pM (scope:=scope) (env:=X.env) fun n hn=>I.ok.has n (by have:=c3 _ hn;show X.env.scope.names.lookup n=_ \/ X.env.scope.names.lookup n=_;simpa using this);rw [eval_ListComp];refine wpAny_comprehension_free (use:=none) rfl hs ecl (by simpa using c1) (fun x hx hl=>by have:=c5 x hx;rw [hl] at this;simpa using this) (thn (hi pins s σ H _ I h) fun x s1 h1=>thn h1 fun itv s2 h2=>?_);obtain⟨it,fp,tn,J,H2,rfl,I2,T,st2,f2,rd⟩:=h2;refine P4 (R:=Q) (RR:=fun acc C=>compPost (model X.prog X.w) X.A X.xe none (EP X pins σ Q) acc C) I2 T st2 f2 hc chk hcl1 hcl2 hg ht he rd ?_;intro D C s' Hend m I' hn hf hL hsz hcs hps q;exact⟨m,hn,fun h' hs'=>⟨.ref D,Hend,I'.turned (t':=s'.toks) (fun b o hb e=>hs'.extBut b o hb e) hf hL (.inr hsz) hcs hps,rfl,q⟩⟩
theorem wC (hc:X.calm=true) (hN:X.N.Nodup) (hi':X.N[i]? = some x) (hx:Loc X.env.scope x) (chk:gB X.env.scope X.N scope fr=true) (hi:PI X tg iter wi)
  (hg:∀ cl C s0 H0 ex pins,PG (eQ X (eD tgs fr X.N) scope cl C s0 H0 ex pins) tg g)
  (ht:∀ cl C s0 H0 ex pins,PTs (eQ X (eD tgs fr X.N) scope cl C s0 H0 ex pins) ifs tt)
  (he:∀ cl C s0 H0 ex pins,PE (eQ X (eD tgs fr X.N) scope cl C s0 H0 ex pins) elt te)
  (hsw:swapsWith (.ListComp elt [⟨tg,iter,ifs,0⟩] scope pos) (some (.Name x pos')) spos.line X.env=pure true)
  (hf:X.fn x=true \/ X.env.scope.names.lookup x=some .local:=by first | exact .inl rfl | exact .inr rfl | assumption)
  (hs:∀ x,foldedSetIterable iter X.env x=pure x:=by intro _;rfl) :
  PS X (.Assign [.Name x pos'] (.ListComp elt [⟨tg,iter,ifs,0⟩] scope pos) spos) (Z19 (Z0j wi tgs.length fr g tt te) (zO i)):=by
 intro pins s σ H D I h;have chk':=chk;simp only [gB,QaU,List.all_eq_true] at chk';obtain⟨⟨⟨⟨c1,c2⟩,c3⟩,c4⟩,c5⟩:=chk';obtain⟨cl,ecl,hcl1,hcl2⟩:=pM (scope:=scope) (env:=X.env) fun n hn=>I.ok.has n (by have:=c3 _ hn;show X.env.scope.names.lookup n=_ \/ X.env.scope.names.lookup n=_;simpa using this);rw [exec_Assign_Name_used _ _ _ _ hsw];refine Ra (wpAny_standAt (Ra ?_));show wpAny _ X.A (do let _ <- comprehension (.ListComp elt [⟨tg,iter,ifs,0⟩] scope pos) scope X.env _ (newList []) false (eval iter X.env) (some (assign (.Name x pos') X.env))) _ _ s
 refine Ra (Rc (wpAny_comprehension_free (use:=some (assign (.Name x pos') X.env)) (Q:=fun _ s'=>SP X pins D .next s') rfl hs ecl (by simpa using c1) (fun x hx hl=>by have:=c5 x hx;rw [hl] at this;simpa using this)
  (thn (hi pins s σ H _ I h) fun x s1 h1=>thn h1 fun itv s2 h2=>?_)) (fun _ s' hq=>Rb (Rb hq)) fun _ _ e=>e)
 obtain⟨it,fp,tn,J,H2,rfl,I2,T,st2,f2,rd⟩:=h2;refine P4 (RR:=fun acc C=>compPost (model X.prog X.w) X.A X.xe (some (assign (.Name _ pos') X.env)) (fun _ s'=>SP X pins D .next s') acc C) I2 T st2 f2 hc chk hcl1 hcl2 hg ht he rd ?_;intro Da C s' Hend m I' hn hf' hL hsz hcs hps q;show wpAny _ X.A (assign (.Name _ pos') X.env (.ref Da)) _ _ s';refine wpAny_assign_Name (yO I' hN hi' hx (v:=.ref Da) (u:=.ref Da) rfl (fun s'' I'' ⟨a,hsa,ha⟩=>?_) hf);have hCa:C ≠ a:=by
  rcases ha with z | z
  .rw [z];exact hL
  .exact fun e=>hcs _ _ z e.symm
 exact⟨m,hn.sameBut hsa hCa,fun h' hs'=>⟨_,Hend,I''.turned (t':=s''.toks) (fun b o hb e=>hs'.extBut b o hb e) hf' hL (.inr hsz) hcs hps,q⟩⟩
def Ite (K:Frag) (a:Af):It :=
 ⟨fun i H=>∃ xs x,SqL K H a xs /\ xs[i]? = some x,fun i H x H'=>∃ p y,H p=none /\ x=.ref p /\ (∀ xs,SqL K H a xs->xs[i]? = some y) /\ H'=upd H p (.tup [.int (i:Int),y]),fun i H=>∃ xs,SqL K H a xs /\ xs.length <= i⟩
theorem Z14 {P:Aj}{w:Ak}{K:Frag}{elts:Ab Ag}{k1:Nat}{pos:Pos}(a e it:Af) (hne:e ≠ it) :
  Q3 P w K (.Tuple elts k1 pos) (Ite K a) [e,it] e (fun i h=>(∃ old,IsEnum h e it i old) /\ h.IsListIter it a i) where
 mem:=by simp
 obj:=fun i h st b hb=>by
  obtain⟨⟨old,he⟩,o,e',c,d⟩:=st;rcases Qaf.mp hb with z | z
  .subst z;exact⟨_,he,fun v q=>by cases q⟩
  .have z:b=it:=by simpa using z
   subst z;exact⟨o,e',fun v q=>by rw [d] at q;cases q⟩
 keep:=fun i h h' st k=>⟨let ⟨old,he⟩:=st.1;⟨old,k e (by simp) _ he⟩,st.2.at fun o q=>k it (by simp) o q⟩
 item:=by
  intro X hP hw hK hc i pins s σ H E I hf st hg;subst hP hw hK;obtain⟨xs,x,hq,hx⟩:=hg;obtain⟨its,rv,p,hz⟩:=I.list hq;obtain⟨u,hu,ru⟩:=rv.get hx;obtain⟨⟨old,he⟩,hit⟩:=st;have fe:=hf e (by simp);have fi:=hf it (by simp);refine wpAny_pyNext_enum_item he hit p.isList (x:=u) (by simpa using hu) hne fun h' ho hit' hT hsz hk=>?_;refine⟨_,rfl,wpAny_letOwnedTupleGo_enum (s:={ s with heap:=h',toks:=s.toks + 1 }) ho fun h'' he'' hs''=>?_⟩;have hfr:H s.heap.objs.size=none:=I.fresh;have lt:∀ b o,s.heap.get? b=some o->b ≠ s.heap.objs.size:=fun b o q=>QaA (Qah q);have kp:∀ b o,b ≠ e->b ≠ it->s.heap.get? b=some o->h''.get? b=some o:=fun b o h1 h2 q=>(hs''.2 b h1).trans (hk b o h1 h2 q);have hee:e ≠ s.heap.objs.size:=lt _ _ he;have nch:∀ b u,H b=some u->b ≠ e /\ b ≠ it:=fun b u q=>⟨fun z=>(by rw [z,fe.1] at q;cases q),fun z=>(by rw [z,fi.1] at q;cases q)⟩;refine⟨.ref s.heap.objs.size,upd H s.heap.objs.size (.tup [.int (i:Int),x]),?_,rfl,⟨_,x,hfr,rfl,fun ys hy=>by rw [I.list_inj hy hq];exact hx,rfl⟩,⟨⟨_,by simpa using he''⟩,hit'.at fun o q=>(hs''.2 it (Ne.symm hne)).trans q⟩,fun b hb=>?_⟩
  .refine Inv.step (s:=s) (h':=h'') (t':=s.toks + 1) (H':=upd H s.heap.objs.size (.tup [.int (i:Int),x])) (g':=s.gens) (d':=s.drawn) (ch:=[e,it]) I (fun b hb=>?_) (fun b o _ _ hc q _=>kp b o (fun z=>hc (by simp [z])) (fun z=>hc (by simp [z])) q) (fun b o _ _ hc q _=>⟨o.slots,kp b o (fun z=>hc (by simp [z])) (fun z=>hc (by simp [z])) q⟩)
    (fun b o _ q n=>by rw [aT (lt b o q)];exact n) (fun b o hc q=>⟨o,kp b o (fun z=>hc (by simp [z])) (fun z=>hc (by simp [z])) q⟩)
    (fun b ys q=>by rw [aT (aU q hfr)];exact q) (fun b o u q=>by rw [aT (aU q hfr)];exact q) (fun b ps q=>⟨#[],by rw [aT (aU q hfr),q];simp⟩) (fun m hm=>?_) (fun b u q=>?_) I.bare
   .rcases Qaf.mp hb with z | z
    .subst z;exact⟨fe.2.2.2.1,fe.2.1,fe.2.2.2.2.1,fe.2.2.2.2.2⟩
    .have z:b=it:=by simpa using z
     subst z;exact⟨fi.2.2.2.1,fi.2.1,fi.2.2.2.2.1,fi.2.2.2.2.2⟩
   .obtain⟨o,es,ep,ho,r⟩:=hm;exact⟨o,es,ep,kp _ o (Ne.symm fe.2.1) (Ne.symm fi.2.1) ho,r⟩
   .by_cases hb:b=s.heap.objs.size
    .subst hb;rw [bE] at q;cases q;refine⟨by show 2 <= sizeLine;decide,[.int (i:Int) s.toks,u],.cons ⟨_,rfl⟩ (.cons ru .nil),_,(hs''.2 _ (Ne.symm hee)).trans hT,rfl,_,rfl⟩
    .rw [aT hb] at q;refine (I.hok b u q).stay (fun c v hc z=>?_) (fun c z=>by rw [aT (aU z hfr)];exact z) fun c ys z=>by rw [aT (aU z hfr)];exact z
     rcases hc with y | y
     .rw [y] at z ⊢;exact kp _ _ (nch b u q).1 (nch b u q).2 z
     .exact kp _ _ (nch c _ y).1 (nch c _ y).2 z
  .have hb':b < s.heap.objs.size:=by
    rcases Qaf.mp hb with z | z
    .subst z;exact Qah he
    .have z:b=it:=by simpa using z
     subst z;obtain⟨o,q,_⟩:=hit;exact Qah q
   rw [aT (QaA hb')];exact (hf b hb).1
 done:=by
  intro X hP hw hK hc i pins s σ H E I hf st hg;subst hP hw hK;obtain⟨xs,hq,hx⟩:=hg;obtain⟨its,rv,p,hz⟩:=I.list hq;obtain⟨⟨old,he⟩,hit⟩:=st;obtain⟨f0,f1,f2,f3,f4,f5⟩:=hf it (by simp);have hl:=rv.length;exact wpAny_pyNext_enum_end (I.ok.hd hc) he hit p.isList (by simp;omega) fun h' eb=>⟨rfl,I.turned (t':=s.toks) (fun b o hb e=>eb b o hb e) f0 f1 f3 f4 f5⟩
 self:=fun _ _ _ _ _ st h=>wpAny_pyIter_enum st.1.choose_spec h
section
variable {X:Cx}{elts:Ab Ag}{k1:Nat}{tpos:Pos}
def Z8J (K:Frag) (ta:TA):TI:=fun σ H R=>ta σ H fun vs H1=>∃ a,vs=[.ref a] /\ (∃ xs,SqL K H1 a xs) /\ R (Ite K a) H1
theorem Z5i {l:Ag}{ta:TA}{p pos:Pos}(hg:Gl X "enumerate") (hm:X.mg "enumerate" = none) (ha:PA X [l] ta) (hs:starEach [l] X.env=[(false,eval l X.env)]:=by rfl) :
  PI X (.Tuple elts k1 tpos) (.Call (.Name "enumerate" p) [l] [] pos) (Z8J X.K ta):=by
 intro pins s σ H R I h;refine Call_ (kC I hg hm PyProof.Rows.boot_enumerate (PyProof.Rows.callWith_type1 (thn (ha pos pins s σ H _ I h) fun us s1 ⟨vs,H1,I1,r1,q1⟩=>?_) hs rfl));obtain⟨a,rfl,⟨xs,hq⟩,q⟩:=q1;cases r1 with
 | cons r rr =>
  cases rr;cases r;obtain⟨its,rv,pl,hz⟩:=I1.list hq;refine call_enumerate_list pl.isList fun h' he hit hsz hk=>?_;refine wpAny_pyIter_enum (s:={ s1 with heap:=h' }) he ?_;have I2:Inv X pins σ H1 { s1 with heap:=h' }:=I1.kept (t':=s1.toks) hk;refine⟨s1.heap.objs.size + 1,[s1.heap.objs.size + 1,s1.heap.objs.size],_,_,H1,rfl,I2,Z14 a _ _ (Nat.succ_ne_self _),⟨⟨_,he⟩,hit⟩,fun b hb=>?_,q⟩;have hb':s1.heap.objs.size <= b:=by
   rcases Qaf.mp hb with z | z
   .rw [z];exact Nat.le_succ _
   .have z:b=s1.heap.objs.size:=by simpa using z
    rw [z];exact Qag _
  exact I1.fpOk hb' (I1.hok.fresh hb')
end
end L2
namespace PD
open PySem PySem.Spec PyProof.Rows L2
inductive D where
 | non | bl (b:Bool) | int (i:Int) | str (x:Str) | tup (xs:List D) | lst (xs:List D) | obj (C:Addr) (ns:List Str) (xs:List D) | dk (ks:List Key) (xs:List D) | dt (ks:List (List Key)) (xs:List D) | exc (C:Addr) | fn (a:Addr) (vs:List V) (xs:List D)
def Z8C (a:Af) (cls:Ad):Ah->Prop:=fun h=>∃ oe vs,h.get? a=some oe /\ oe.cls=cls /\ oe.data=.fields vs
mutual
def flat:D->Bool
 | .non=>true
 | .bl _=>true
 | .int _=>true
 | .str _=>true
 | .tup xs=>flats xs
 | .lst _=>false
 | .obj _ _ _=>false
 | .dk _ _=>false
 | .dt _ _=>false
 | .exc _=>false
 | .fn _ _ _=>false
def flats:Ab D->Bool
 | []=>true
 | x :: r=>flat x && flats r
end
def FzL (K:Frag) (H:Hp) (a:Af) (vs:Ab V):Prop:=(∃ o,H a=some (.frz o (.lst vs))) \/
  ∃ (o:Obj) (its:Ae Ad) (n:Nat),K.lookup a=some o /\ o.cls=.type "list" /\ o.dict=none /\ o.data=.seq its n /\ its.size <= sizeLine /\ Vals vs its.toList
theorem FzL.sq {K:Frag}{H:Hp}{a:Af}{vs:Ab V}(h:FzL K H a vs):SqL K H a vs:=by
 rcases h with ⟨o,h⟩ | h
 .exact .inl (.inr ⟨o,h⟩)
 .exact .inr h
theorem Z2F {K:Frag}{H:Hp}{a:Af}{vs:Ab V}(h:SqL K H a vs):H a=some (.lst vs) \/ FzL K H a vs:=by
 rcases h with (h | ⟨o,h⟩) | h
 .exact .inl h
 .exact .inr (.inl ⟨o,h⟩)
 .exact .inr (.inr h)
mutual
def Rep (K:Frag) (st:Bool) (H:Hp):D->V->Ab Af->Prop
 | .non,v,fp=>v=.non /\ fp=[]
 | .bl b,v,fp=>v=.bl b /\ fp=[]
 | .int i,v,fp=>v=.int i /\ fp=[]
 | .str x,v,fp=>v=.str x /\ fp=[]
 | .tup ds,v,fp=>∃ a vs,v=.ref a /\ SqT K H a vs /\ Reps K st H ds vs fp
 | .lst ds,v,fp=>∃ a vs fp',v=.ref a /\ Reps K st H ds vs fp' /\ ((fp=a :: fp' /\ H a=some (.lst vs)) \/ (st=false /\ fp=fp' /\ FzL K H a vs))
 | .obj C ns ds,v,fp=>∃ a dx vs fp',v=.ref a /\ fp=a :: fp' /\ H a=some (.ins C dx (ns.zip vs)) /\ ns.length=vs.length /\ Reps K st H ds vs fp'
 | .dk ks ds,v,fp=>∃ a vs fp',v=.ref a /\ fp=a :: fp' /\ H a=some (.dK (ks.zip vs)) /\ ks.length=vs.length /\ Reps K st H ds vs fp'
 | .dt ks ds,v,fp=>∃ a es ep vs fp',v=.ref a /\ es.map (·.1)=ks /\ es.map (·.2.2)=vs /\ (∀ e ∈ es,SqT K H e.2.1 (e.1.map kV)) /\ Reps K st H ds vs fp' /\ ((fp=a :: fp' /\ H a=some (.dE es ep)) \/ (st=false /\ fp=fp' /\ ∃ o,H a=some (.frz o (.dE es ep))))
 | .exc C,v,fp=>∃ a,v=.ref a /\ fp=[a] /\ H a=some (.ext (Z8C a (.ref C)))
 | .fn a vs ds,v,fp=>v=.ref a /\ Reps K st H ds vs fp
def Reps (K:Frag) (st:Bool) (H:Hp):Ab D->Ab V->Ab Af->Prop
 | [],vs,fp=>vs=[] /\ fp=[]
 | d :: ds,vs,fp=>∃ v r f1 f2,vs=v :: r /\ fp=f1 ++ f2 /\ Rep K st H d v f1 /\ Reps K st H ds r f2
end
section
variable {K:Frag}{st:Bool}{H H':Hp}
structure Kp (fp:List Addr) (H H':Hp):Prop where
 fps:∀ b ∈ fp,∀ o,H b=some o->H' b=some o
 tup:∀ b xs,H b=some (.tup xs)->H' b=some (.tup xs)
 frz:∀ b o u,H b=some (.frz o u)->H' b=some (.frz o u)
theorem Kp.same (e:Same H H') (fp:Ab Af):Kp fp H H':=⟨fun b _ o h=>e b o h,fun b xs h=>e _ _ h,fun b o u h=>e _ _ h⟩
theorem Kp.sub (k:Kp fp H H') (h:∀ b ∈ fp',b ∈ fp):Kp fp' H H':=⟨fun b hb=>k.fps b (h b hb),k.tup,k.frz⟩
theorem Kp.upd (h:H a=some o) (hm:∀ xs,o ≠ .tup xs) (hf:∀ x u,o ≠ .frz x u) (hn:a ∉ fp):Kp fp H (L2.upd H a o') :=
 ⟨fun b hb u e => by have hba : b ≠ a := (fun z => hn (by rw [<- z]; exact hb)); rw [aT hba]; exact e,
  fun b xs e=>by rw [aT (fun z=>by rw [z,h] at e;exact hm xs (QaS e))];exact e,
  fun b x u e=>by rw [aT (fun z=>by rw [z,h] at e;exact hf x u (QaS e))];exact e⟩
theorem T0 (k:Kp fp H H') {a:Af}{xs:Ab V}(h:SqT K H a xs):SqT K H' a xs:=by
 rcases h with (h | ⟨o,h⟩) | h
 .exact .inl (.inl (k.tup _ _ h))
 .exact .inl (.inr ⟨o,k.frz _ _ _ h⟩)
 .exact .inr h
theorem Z7r (k:Kp fp H H') {a:Af}{xs:Ab V}(h:FzL K H a xs):FzL K H' a xs:=by
 rcases h with ⟨o,h⟩ | h
 .exact .inl ⟨o,k.frz _ _ _ h⟩
 .exact .inr h
mutual
theorem Rep.keep:∀ (d:D) (v:V) (fp:Ab Af),Kp fp H H'->Rep K st H d v fp->Rep K st H' d v fp
 | .non,v,fp,_,h=>by simpa only [Rep] using h
 | .bl b,v,fp,_,h=>by simpa only [Rep] using h
 | .int i,v,fp,_,h=>by simpa only [Rep] using h
 | .str x,v,fp,_,h=>by simpa only [Rep] using h
 | .tup ds,v,fp,k,h=>by
  simp only [Rep] at h ⊢;obtain⟨a,vs,e,hs,hr⟩:=h;exact⟨a,vs,e,T0 k hs,Reps.keep ds vs fp k hr⟩
 | .lst ds,v,fp,k,h=>by
  simp only [Rep] at h ⊢;obtain⟨a,vs,fp',e,hr,hs⟩:=h;rcases hs with ⟨rfl,hs⟩ | ⟨h1,rfl,hs⟩
  .exact⟨a,vs,fp',e,Reps.keep ds vs fp' (k.sub fun b hb=>Qae _ hb) hr,.inl ⟨rfl,k.fps a Qau _ hs⟩⟩
  .exact⟨a,vs,fp,e,Reps.keep ds vs fp k hr,.inr ⟨h1,rfl,Z7r k hs⟩⟩
 | .obj C ns ds,v,fp,k,h=>by
  simp only [Rep] at h ⊢;obtain⟨a,dx,vs,fp',e,rfl,hs,hl,hr⟩:=h;exact⟨a,dx,vs,fp',e,rfl,k.fps a Qau _ hs,hl,Reps.keep ds vs fp' (k.sub fun b hb=>Qae _ hb) hr⟩
 | .dk ks ds,v,fp,k,h=>by
  simp only [Rep] at h ⊢;obtain⟨a,vs,fp',e,rfl,hs,hl,hr⟩:=h;exact⟨a,vs,fp',e,rfl,k.fps a Qau _ hs,hl,Reps.keep ds vs fp' (k.sub fun b hb=>Qae _ hb) hr⟩
 | .dt ks ds,v,fp,k,h=>by
  simp only [Rep] at h ⊢;obtain⟨a,es,ep,vs,fp',e,hk,hv,ht,hr,hs⟩:=h;rcases hs with ⟨rfl,hs⟩ | ⟨h1,rfl,o,hs⟩
  .exact⟨a,es,ep,vs,fp',e,hk,hv,fun e he=>T0 k (ht e he),Reps.keep ds vs fp' (k.sub fun b hb=>Qae _ hb) hr,.inl ⟨rfl,k.fps a Qau _ hs⟩⟩
  .exact⟨a,es,ep,vs,fp,e,hk,hv,fun e he=>T0 k (ht e he),Reps.keep ds vs fp k hr,.inr ⟨h1,rfl,o,k.frz _ _ _ hs⟩⟩
 | .exc C,v,fp,k,h=>by
  simp only [Rep] at h ⊢;obtain⟨a,e,rfl,hs⟩:=h;exact⟨a,e,rfl,k.fps a Qau _ hs⟩
 | .fn a vs ds,v,fp,k,h=>by
  simp only [Rep] at h ⊢;exact⟨h.1,Reps.keep ds vs fp k h.2⟩
theorem Reps.keep:∀ (ds:Ab D) (vs:Ab V) (fp:Ab Af),Kp fp H H'->Reps K st H ds vs fp->Reps K st H' ds vs fp
 | [],vs,fp,_,h=>by simpa only [Reps] using h
 | d :: ds,vs,fp,k,h=>by
  simp only [Reps] at h ⊢;obtain⟨v,r,f1,f2,e1,rfl,h1,h2⟩:=h;exact⟨v,r,f1,f2,e1,rfl,Rep.keep d v f1 (k.sub fun b hb=>Qar _ hb) h1,Reps.keep ds r f2 (k.sub fun b hb=>Qam _ hb) h2⟩
end
theorem Rep.same (e:Same H H') (h:Rep K st H d v fp):Rep K st H' d v fp:=Rep.keep d v fp (Kp.same e fp) h
theorem Reps.same (e:Same H H') (h:Reps K st H ds vs fp):Reps K st H' ds vs fp:=Reps.keep ds vs fp (Kp.same e fp) h
mutual
theorem Rep.dom:∀ (d:D) (v:V) (fp:Ab Af),Rep K st H d v fp->∀ b ∈ fp,∃ o,H b=some o
 | .non,v,fp,h,b,hb=>by simp only [Rep] at h;rw [h.2] at hb;cases hb
 | .bl _,v,fp,h,b,hb=>by simp only [Rep] at h;rw [h.2] at hb;cases hb
 | .int _,v,fp,h,b,hb=>by simp only [Rep] at h;rw [h.2] at hb;cases hb
 | .str _,v,fp,h,b,hb=>by simp only [Rep] at h;rw [h.2] at hb;cases hb
 | .tup ds,v,fp,h,b,hb=>by
  simp only [Rep] at h;obtain⟨a,vs,e,hs,hr⟩:=h;exact Reps.dom ds vs fp hr b hb
 | .lst ds,v,fp,h,b,hb=>by
  simp only [Rep] at h;obtain⟨a,vs,fp',e,hr,hs⟩:=h;rcases hs with ⟨rfl,hs⟩ | ⟨_,rfl,hs⟩
  .rcases Qaf.mp hb with z | z
   .exact⟨_,z ▸ hs⟩
   .exact Reps.dom ds vs fp' hr b z
  .exact Reps.dom ds vs fp hr b hb
 | .obj C ns ds,v,fp,h,b,hb=>by
  simp only [Rep] at h;obtain⟨a,dx,vs,fp',e,rfl,hs,hl,hr⟩:=h;rcases Qaf.mp hb with z | z
  .exact⟨_,z ▸ hs⟩
  .exact Reps.dom ds vs fp' hr b z
 | .dk ks ds,v,fp,h,b,hb=>by
  simp only [Rep] at h;obtain⟨a,vs,fp',e,rfl,hs,hl,hr⟩:=h;rcases Qaf.mp hb with z | z
  .exact⟨_,z ▸ hs⟩
  .exact Reps.dom ds vs fp' hr b z
 | .dt ks ds,v,fp,h,b,hb=>by
  simp only [Rep] at h;obtain⟨a,es,ep,vs,fp',e,hk,hv,ht,hr,hs⟩:=h;rcases hs with ⟨rfl,hs⟩ | ⟨_,rfl,o,hs⟩
  .rcases Qaf.mp hb with z | z
   .exact⟨_,z ▸ hs⟩
   .exact Reps.dom ds vs fp' hr b z
  .exact Reps.dom ds vs fp hr b hb
 | .exc C,v,fp,h,b,hb=>by
  simp only [Rep] at h;obtain⟨a,e,rfl,hs⟩:=h;rw [QaF.mp hb];exact⟨_,hs⟩
 | .fn a vs ds,v,fp,h,b,hb=>by
  simp only [Rep] at h;exact Reps.dom ds vs fp h.2 b hb
theorem Reps.dom:∀ (ds:Ab D) (vs:Ab V) (fp:Ab Af),Reps K st H ds vs fp->∀ b ∈ fp,∃ o,H b=some o
 | [],vs,fp,h,b,hb=>by simp only [Reps] at h;rw [h.2] at hb;cases hb
 | d :: ds,vs,fp,h,b,hb=>by
  simp only [Reps] at h;obtain⟨v,r,f1,f2,e1,rfl,h1,h2⟩:=h;rcases Qai.mp hb with z | z
  .exact Rep.dom d v f1 h1 b z
  .exact Reps.dom ds r f2 h2 b z
end
mutual
theorem Rep.flat:∀ (d:D) (v:V) (fp:Ab Af),PD.flat d=true->Rep K st H d v fp->fp=[] /\ ∀ st',Rep K st' H d v []
 | .non,v,fp,_,h=>by simp only [Rep] at h ⊢;exact⟨h.2,fun _=>⟨h.1,trivial⟩⟩
 | .bl _,v,fp,_,h=>by simp only [Rep] at h ⊢;exact⟨h.2,fun _=>⟨h.1,trivial⟩⟩
 | .int _,v,fp,_,h=>by simp only [Rep] at h ⊢;exact⟨h.2,fun _=>⟨h.1,trivial⟩⟩
 | .str _,v,fp,_,h=>by simp only [Rep] at h ⊢;exact⟨h.2,fun _=>⟨h.1,trivial⟩⟩
 | .tup ds,v,fp,f,h=>by
  simp only [Rep] at h ⊢;obtain⟨a,vs,e,hs,hr⟩:=h;obtain⟨h1,h2⟩:=Reps.flat ds vs fp (by simpa only [PD.flat] using f) hr;exact⟨h1,fun st'=>⟨a,vs,e,hs,h2 st'⟩⟩
 | .lst ds,v,fp,f,h=>by simp only [PD.flat] at f;cases f
 | .obj C ns ds,v,fp,f,h=>by simp only [PD.flat] at f;cases f
 | .dk ks ds,v,fp,f,h=>by simp only [PD.flat] at f;cases f
 | .dt ks ds,v,fp,f,h=>by simp only [PD.flat] at f;cases f
 | .exc C,v,fp,f,h=>by simp only [PD.flat] at f;cases f
 | .fn a vs ds,v,fp,f,h=>by simp only [PD.flat] at f;cases f
theorem Reps.flat:∀ (ds:Ab D) (vs:Ab V) (fp:Ab Af),flats ds=true->Reps K st H ds vs fp->fp=[] /\ ∀ st',Reps K st' H ds vs []
 | [],vs,fp,_,h=>by simp only [Reps] at h ⊢;exact⟨h.2,fun _=>⟨h.1,trivial⟩⟩
 | d :: ds,vs,fp,f,h=>by
  simp only [Reps] at h ⊢;simp only [flats,QaU] at f;obtain⟨v,r,f1,f2,e1,rfl,h1,h2⟩:=h;obtain⟨a1,a2⟩:=Rep.flat d v f1 f.1 h1;obtain⟨b1,b2⟩:=Reps.flat ds r f2 f.2 h2;subst a1 b1;exact⟨rfl,fun st'=>⟨v,r,[],[],e1,rfl,a2 st',b2 st'⟩⟩
end
mutual
theorem Rep.weak:∀ (d:D) (v:V) (fp:Ab Af),Rep K st H d v fp->Rep K false H d v fp
 | .non,v,fp,h=>by simpa only [Rep] using h
 | .bl _,v,fp,h=>by simpa only [Rep] using h
 | .int _,v,fp,h=>by simpa only [Rep] using h
 | .str _,v,fp,h=>by simpa only [Rep] using h
 | .tup ds,v,fp,h=>by
  simp only [Rep] at h ⊢;obtain⟨a,vs,e,hs,hr⟩:=h;exact⟨a,vs,e,hs,Reps.weak ds vs fp hr⟩
 | .lst ds,v,fp,h=>by
  simp only [Rep] at h ⊢;obtain⟨a,vs,fp',e,hr,hs⟩:=h;refine⟨a,vs,fp',e,Reps.weak ds vs fp' hr,?_⟩;rcases hs with hs | ⟨_,h1,h2⟩
  .exact .inl hs
  .exact .inr ⟨trivial,h1,h2⟩
 | .obj C ns ds,v,fp,h=>by
  simp only [Rep] at h ⊢;obtain⟨a,dx,vs,fp',e,h1,hs,hl,hr⟩:=h;exact⟨a,dx,vs,fp',e,h1,hs,hl,Reps.weak ds vs fp' hr⟩
 | .dk ks ds,v,fp,h=>by
  simp only [Rep] at h ⊢;obtain⟨a,vs,fp',e,h1,hs,hl,hr⟩:=h;exact⟨a,vs,fp',e,h1,hs,hl,Reps.weak ds vs fp' hr⟩
 | .dt ks ds,v,fp,h=>by
  simp only [Rep] at h ⊢;obtain⟨a,es,ep,vs,fp',e,hk,hv,ht,hr,hs⟩:=h;exact⟨a,es,ep,vs,fp',e,hk,hv,ht,Reps.weak ds vs fp' hr,hs.imp id fun⟨_,h2⟩=>⟨by trivial,h2⟩⟩
 | .exc C,v,fp,h=>by simpa only [Rep] using h
 | .fn a vs ds,v,fp,h=>by
  simp only [Rep] at h ⊢;exact⟨h.1,Reps.weak ds vs fp h.2⟩
theorem Reps.weak:∀ (ds:Ab D) (vs:Ab V) (fp:Ab Af),Reps K st H ds vs fp->Reps K false H ds vs fp
 | [],vs,fp,h=>by simpa only [Reps] using h
 | d :: ds,vs,fp,h=>by
  simp only [Reps] at h ⊢;obtain⟨v,r,f1,f2,e1,e2,h1,h2⟩:=h;exact⟨v,r,f1,f2,e1,e2,Rep.weak d v f1 h1,Reps.weak ds r f2 h2⟩
end
theorem Reps.length:∀ {ds:Ab D}{vs:Ab V}{fp:Ab Af},Reps K st H ds vs fp->vs.length=ds.length
 | [],vs,fp,h=>by simp only [Reps] at h;rw [h.1];rfl
 | d :: ds,vs,fp,h=>by
  simp only [Reps] at h;obtain⟨v,r,f1,f2,e1,e2,h1,h2⟩:=h;rw [e1,Qal,Qal,Reps.length h2]
theorem Reps.get:∀ {ds:Ab D}{vs:Ab V}{fp:Ab Af}{i:Nat}{d:D},Reps K st H ds vs fp->ds[i]? = some d->∃ v f,vs[i]? = some v /\ Rep K st H d v f /\ (∀ b ∈ f,b ∈ fp) /\ (fp.Nodup->f.Nodup)
 | [],vs,fp,i,d,h,e=>by simp at e
 | d :: ds,vs,fp,i,d',h,e=>by
  simp only [Reps] at h;obtain⟨v,r,f1,f2,rfl,rfl,h1,h2⟩:=h;cases i with
  | zero =>
   simp at e;subst e;exact⟨v,f1,rfl,h1,fun b hb=>Qar _ hb,fun nd=>(QaT.mp nd).1⟩
  | succ i =>
   obtain⟨w,f,e1,e2,e3,e4⟩:=Reps.get h2 (by simpa using e);exact⟨w,f,by simpa using e1,e2,fun b hb=>Qam _ (e3 b hb),fun nd=>e4 (QaT.mp nd).2.1⟩
theorem Reps.snoc:∀ {ds:Ab D}{vs:Ab V}{fp fd:Ab Af}{d:D}{v:V},Reps K st H ds vs fp->Rep K st H d v fd->Reps K st H (ds ++ [d]) (vs ++ [v]) (fp ++ fd)
 | [],vs,fp,fd,d,v,h,hd=>by
  simp only [Reps] at h;obtain⟨rfl,rfl⟩:=h;simp only [QbL,Reps];exact⟨v,[],fd,[],rfl,(QaH _).symm,hd,rfl,rfl⟩
 | d' :: ds,vs,fp,fd,d,v,h,hd=>by
  simp only [Reps] at h;obtain⟨w,r,f1,f2,rfl,rfl,h1,h2⟩:=h;simp only [QbA,Reps];exact⟨w,r ++ [v],f1,f2 ++ fd,rfl,QaK ..,h1,Reps.snoc h2 hd⟩
theorem Reps.append:∀ {ds es:Ab D}{vs us:Ab V}{fp fd:Ab Af},Reps K st H ds vs fp->Reps K st H es us fd->Reps K st H (ds ++ es) (vs ++ us) (fp ++ fd)
 | [],es,vs,us,fp,fd,h,hd=>by
  simp only [Reps] at h;obtain⟨rfl,rfl⟩:=h;exact hd
 | d' :: ds,es,vs,us,fp,fd,h,hd=>by
  simp only [Reps] at h;obtain⟨w,r,f1,f2,rfl,rfl,h1,h2⟩:=h;simp only [QbA,Reps];exact⟨w,r ++ us,f1,f2 ++ fd,rfl,QaK ..,h1,Reps.append h2 hd⟩
theorem bX (h:Rep K st H (.lst ds) v fp):∃ a vs fp',v=.ref a /\ SqL K H a vs /\ Reps K st H ds vs fp' /\ (∀ b ∈ fp',b ∈ fp):=by
 simp only [Rep] at h;obtain⟨a,vs,fp',e,hr,hs⟩:=h;rcases hs with ⟨rfl,hs⟩ | ⟨_,rfl,hs⟩
 .exact⟨a,vs,fp',e,SqL.of hs,hr,fun b hb=>Qae _ hb⟩
 .exact⟨a,vs,fp,e,hs.sq,hr,fun b hb=>hb⟩
theorem kL (h:Rep K true H (.lst ds) v fp):∃ a vs fp',v=.ref a /\ fp=a :: fp' /\ H a=some (.lst vs) /\ Reps K true H ds vs fp':=by
 simp only [Rep] at h;obtain⟨a,vs,fp',e,hr,hs⟩:=h;rcases hs with ⟨e1,hs⟩ | ⟨z,_⟩
 .exact⟨a,vs,fp',e,e1,hs,hr⟩
 .cases z
end
abbrev Slot:=Aa (Bool × D)
abbrev En:=Ab Slot
def EnvOk (K:Frag) (H:Hp) (σ:L2.St) (env:En) (F:Nat->Ab Af):Prop :=
 ∀ i o d,env[i]? = some (some (o,d))->∃ v,σ[i]? = some (some v) /\ Rep K false H d v (F i)
theorem EnvOk.same {K:Frag}(h:EnvOk K H σ env F) (e:Same H H'):EnvOk K H' σ env F :=
 fun i o d q=>let ⟨v,h1,h2⟩:=h i o d q;⟨v,h1,h2.same e⟩
def Cond (F:Nat->Ab Af) (H:Hp) (m:Bool) (rs:Ab Nat) (fp:Ab Af):Prop:=(∀ b ∈ fp,H b=none \/ ∃ r ∈ rs,b ∈ F r) /\ (m=true->fp.Nodup /\ ∀ b ∈ fp,H b=none)
theorem Cond.nil:Cond F H m rs []:=⟨fun b hb=>(by cases hb),fun _=>⟨QaQ,fun b hb=>(by cases hb)⟩⟩
theorem Cond.back (c:Cond F H' m rs fp) (e:Same H H'):Cond F H m rs fp :=
 ⟨fun b hb=>(c.1 b hb).imp (fun z=>e.free z) id,fun hm=>⟨(c.2 hm).1,fun b hb=>e.free ((c.2 hm).2 b hb)⟩⟩
def tD (K:Frag) (m:Bool) (rs:Ab Nat) (f:En->Aa D):TE:=fun σ H Q =>
 ∃ env F d,EnvOk K H σ env F /\ f env=some d /\ ∀ v H' fp,Same H H'->Rep K m H' d v fp->Cond F H m rs fp->Q v H'
def tDT (K:Frag) (f:En->Aa Bool):TT:=fun σ H Q =>
 ∃ env F b,EnvOk K H σ env F /\ f env=some b /\ ∀ H',Same H H'->Q b H'
def tDA (K:Frag) (m:Bool) (rs:Ab Nat) (f:En->Aa (Ab D)):TA:=fun σ H Q =>
 ∃ env F ds,EnvOk K H σ env F /\ f env=some ds /\ ∀ vs H' fp,Same H H'->Reps K m H' ds vs fp->Cond F H m rs fp->Q vs H'
def QE (X:Cx) (m:Bool) (rs:Ab Nat) (e:Ag) (f:En->Aa D):Prop:=PE X e (tD X.K m rs f)
def QT (X:Cx) (e:Ag) (f:En->Aa Bool):Prop:=PT X e (tDT X.K f)
def QW (X:Cx) (e:Ag) (f:En->Aa Bool):Prop:=PW X e (tDT X.K f)
def QA (X:Cx) (m:Bool) (rs:Ab Nat) (es:Ab Ag) (f:En->Aa (Ab D)):Prop:=PA X es (tDA X.K m rs f)
section
variable {X:Cx}{m m':Bool}{rs rs':Ab Nat}{e a b c:Ag}{es rest:Ab Ag}{f fa fb:En->Aa D}{g ga gb:En->Aa Bool}{pos:Pos}
theorem QE.mk (h:PE X e t) (hi:∀ σ H Q,tD X.K m rs f σ H Q->t σ H Q):QE X m rs e f:=fun pins s σ H Q I q=>h pins s σ H Q I (hi σ H Q q)
theorem QT.mk (h:PT X e t) (hi:∀ σ H Q,tDT X.K g σ H Q->t σ H Q):QT X e g:=fun pins s σ H Q I q=>h pins s σ H Q I (hi σ H Q q)
theorem QW.mk (h:PW X e t) (hi:∀ σ H Q,tDT X.K g σ H Q->t σ H Q):QW X e g:=fun whole pins s σ H Q I q=>h whole pins s σ H Q I (hi σ H Q q)
theorem QW.qt (h:QW X e g):QT X e g:=h.pt
def aA (i:Nat):En->Aa D:=fun env=>(env[i]?).join.map (·.2)
def fC (d:D):En->Aa D:=fun _=>some d
def fI2 (C:Int->Int->Prop) (g:Int->Int->D) (fa fb:En->Aa D):En->Aa D:=fun env =>
 match fa env,fb env with
 | some (.int i),some (.int j)=>open Classical in if C i j then some (g i j) else none
 | _,_=>none
def fI0 (g:Int->Int->D) (fa fb:En->Aa D):En->Aa D:=fun env =>
 match fa env,fb env with
 | some (.int i),some (.int j)=>some (g i j)
 | _,_=>none
def aY (f:En->Aa D):En->Aa D:=fun env=>match f env with
 | some d=>if flat d=true then some d else none
 | none=>none
def fB (f:En->Aa D):En->Aa Bool:=fun env=>match f env with
 | some (.bl b)=>some b
 | _=>none
def hZ (f:En->Aa Bool):En->Aa D:=fun env=>(f env).map .bl
def kE (f g:En->Aa Bool):En->Aa Bool:=fun env=>match f env with
 | some true=>g env
 | some false=>some false
 | none=>none
def fOr (f g:En->Aa Bool):En->Aa Bool:=fun env=>match f env with
 | some false=>g env
 | some true=>some true
 | none=>none
def eO (f:En->Aa Bool):En->Aa Bool:=fun env=>(f env).map (!·)
def aH:En->Aa (Ab D):=fun _=>some []
def aC (f:En->Aa D) (g:En->Aa (Ab D)):En->Aa (Ab D):=fun env=>match f env,g env with
 | some d,some ds=>some (d :: ds)
 | _,_=>none
def iK (g:En->Aa (Ab D)):En->Aa D:=fun env=>match g env with
 | some ds=>if ds.length <= 1000 then some (.tup ds) else none
 | none=>none
def gE (g:En->Aa (Ab D)):En->Aa D:=fun env=>match g env with
 | some ds=>if ds.length <= 1000 then some (.lst ds) else none
 | none=>none
theorem bG {K:Frag}(h:Rep K m H (.int i) v fp):v=.int i:=by simp only [Rep] at h;exact h.1
theorem gS {K:Frag}(h:Rep K m H (.bl i) v fp):v=.bl i:=by simp only [Rep] at h;exact h.1
theorem eS {K:Frag}(h:Rep K m H (.str i) v fp):v=.str i:=by simp only [Rep] at h;exact h.1
theorem eB {K:Frag}(h:Rep K m H .non v fp):v=.non:=by simp only [Rep] at h;exact h.1
theorem fN {K:Frag}:Rep K m H (.int i) (.int i) []:=by simp only [Rep];exact⟨trivial,trivial⟩
theorem qC {K:Frag}:Rep K m H (.bl i) (.bl i) []:=by simp only [Rep];exact⟨trivial,trivial⟩
theorem Z3F {K:Frag}:Rep K m H (.str i) (.str i) []:=by simp only [Rep];exact⟨trivial,trivial⟩
theorem pI {K:Frag}:Rep K m H .non .non []:=by simp only [Rep];exact⟨trivial,trivial⟩
theorem aB (i:Nat) {x:Str}(hN:X.N[i]? = some x:=by rfl) (hv:Vis X.env.scope x:=by first | exact Or.inl rfl | exact Or.inr (Or.inl rfl) | exact Or.inr (Or.inr rfl)) (hd:(x == ("__debug__" : Str))=false:=by decide) (hcd:(x == ("__classdict__" : Str))=false:=by decide) :
  QE X false [i] (.Name x pos) (aA i) :=
 .mk (lL hN hv hd hcd) fun σ H Q ⟨env,F,d,ok,e,q⟩=>by
  unfold aA at e;cases h1:env[i]? with
  | none=>rw [h1] at e;cases e
  | some o =>
   cases o with
   | none=>rw [h1] at e;cases e
   | some p =>
    rw [h1] at e;obtain⟨ow,d'⟩:=p;have e':d'=d:=QaS e;subst e';obtain⟨v,hv,hr⟩:=ok i ow d' h1;exact⟨v,hv,q v H _ (Same.refl H) hr ⟨fun b hb=>.inr ⟨i,by simp,hb⟩,fun z=>(by cases z)⟩⟩
theorem aG {i:Int}:QE X m rs (.Constant (.int i) j pos) (fC (.int i)):=.mk pe_int fun σ H Q ⟨env,F,d,ok,e,q⟩=>by cases e;exact q _ _ _ (Same.refl H) fN .nil
theorem fS {i:Bool}:QE X m rs (.Constant (.bool i) j pos) (fC (.bl i)):=.mk Z8u fun σ H Q ⟨env,F,d,ok,e,q⟩=>by cases e;exact q _ _ _ (Same.refl H) qC .nil
theorem cR {i:Str}:QE X m rs (.Constant (.str i) j pos) (fC (.str i)):=.mk Z77 fun σ H Q ⟨env,F,d,ok,e,q⟩=>by cases e;exact q _ _ _ (Same.refl H) Z3F .nil
theorem sL {j}:QE X m rs (.Constant .none j pos) (fC .non):=.mk Z79 fun σ H Q ⟨env,F,d,ok,e,q⟩=>by cases e;exact q _ _ _ (Same.refl H) pI .nil
theorem QE.weak (h:QE X true [] e f):QE X false rs e f:=.mk h fun σ H Q ⟨env,F,d,ok,e,q⟩ =>
 ⟨env,F,d,ok,e,fun v H' fp s r c=>q v H' fp s (Rep.weak _ _ _ r) ⟨fun b hb=>(c.1 b hb).imp id fun⟨r,hr,_⟩=>(by simp at hr),fun z=>(by cases z)⟩⟩
theorem QE.more (h:QE X false rs e f) (hs:∀ r ∈ rs,r ∈ rs'):QE X false rs' e f:=.mk h fun σ H Q ⟨env,F,d,ok,e,q⟩ =>
 ⟨env,F,d,ok,e,fun v H' fp s r c=>q v H' fp s r ⟨fun b hb=>(c.1 b hb).imp id fun⟨r,hr,z⟩=>⟨r,hs r hr,z⟩,c.2⟩⟩
theorem RG (h:QE X false rs e f) (hs:∀ r ∈ rs,r ∈ rs':=by simp):QE X false rs' e f:=h.more hs
theorem QE.flat (h:QE X m' rs e f):QE X m rs' e (aY f):=.mk h fun σ H Q ⟨env,F,d,ok,e,q⟩=>by
 unfold aY at e;cases h1:f env with
 | none=>rw [h1] at e;cases e
 | some d' =>
  rw [h1] at e;by_cases hf:PD.flat d'=true
  .simp only [hf,RC] at e;cases e;refine⟨env,F,_,ok,h1,fun v H' fp s r c=>?_⟩;obtain⟨e1,e2⟩:=Rep.flat _ _ _ hf r;exact q v H' [] s (e2 _) .nil
  .simp only [hf] at e;cases e
theorem two {K:Frag}{R:V->V->Hp->Prop}(ok:EnvOk K H σ env F) (ea:fa env=some x) (eb:fb env=some y)
  (h:∀ v u H' f1 f2,Same H H'->Rep K m1 H' x v f1->Rep K m2 H' y u f2->Cond F H m1 rs1 f1->Cond F H m2 rs2 f2->R v u H'):tD K m1 rs1 fa σ H fun v H1=>tD K m2 rs2 fb σ H1 fun u H2=>R v u H2 :=
 ⟨env,F,x,ok,ea,fun v H1 f1 s1 r1 c1=>⟨env,F,y,ok.same s1,eb,fun u H2 f2 s2 r2 c2=>h v u H2 f1 f2 (s1.trans s2) (r1.same s2) r2 c1 (c2.back s1)⟩⟩
variable {m1 m2:Bool}{rs1 rs2:Ab Nat}
theorem aO {g:Int->Int->Int}(ho:OpR X (binaryOp op) (rI C fun i j=>.int (g i j))) (ha:QE X m1 rs1 a fa) (hb:QE X m2 rs2 b fb):QE X m rs (.BinOp a op b pos) (fI2 C (fun i j=>.int (g i j)) fa fb) :=
 .mk (pe_op ho ha hb) fun σ H Q ⟨env,F,d,ok,e,q⟩=>by
  unfold fI2 at e;split at e
  .rename_i i j ea eb;split at e
   .rename_i hc;cases e;refine two ok ea eb fun v u H' f1 f2 s r1 r2 _ _=>?_;rw [bG r1,bG r2];exact⟨i,j,rfl,rfl,hc,q _ _ _ s fN .nil⟩
   .cases e
  .cases e
theorem aW {g:Int->Int->Int}(ho:OpR X (binaryOp op) (rI0 fun i j=>.int (g i j))) (ha:QE X m1 rs1 a fa) (hb:QE X m2 rs2 b fb):QE X m rs (.BinOp a op b pos) (fI0 (fun i j=>.int (g i j)) fa fb) :=
 .mk (pe_op ho ha hb) fun σ H Q ⟨env,F,d,ok,e,q⟩=>by
  unfold fI0 at e;split at e
  .rename_i i j ea eb;cases e;refine two ok ea eb fun v u H' f1 f2 s r1 r2 _ _=>?_;rw [bG r1,bG r2];exact⟨i,j,rfl,rfl,q _ _ _ s fN .nil⟩
  .cases e
theorem fR (h:QE X m rs e f) (he:∀ whole,isTrue e X.env whole=(do let v <- whole;standAt e.pos;holding [v] (truthy v)):=by intro _;rfl):QT X e (fB f) :=
 .mk (Z71 h he) fun σ H Q ⟨env,F,b,ok,e,q⟩=>by
  unfold fB at e;split at e
  .rename_i b' e1;cases e;refine⟨env,F,_,ok,e1,fun v H' fp s r _=>?_⟩;rw [gS r];exact⟨_,rfl,q H' s⟩
  .cases e
theorem pD {op:CmpOp}(ho:OpR X (compareOp op) r) (ha:QE X m1 rs1 a fa) (hb:QE X m2 rs2 b fb) (hm:behindInMarks op b=false)
  (hr:∀ env x y K H v u f1 f2 Q bb,g env=some bb->fa env=some x->fb env=some y->Rep K m1 H x v f1->Rep K m2 H y u f2->K=X.K->Q (V.bl bb) H->r v u H Q) (hn:∀ env bb,g env=some bb->∃ x y,fa env=some x /\ fb env=some y):QT X (.Compare a [op] [b] pos) g :=
 .mk (Z59 ho ha hb hm) fun σ H Q ⟨env,F,bb,ok,e,q⟩=>by
  obtain⟨x,y,ea,eb⟩:=hn env bb e;exact two ok ea eb fun v u H' f1 f2 s r1 r2 _ _=>hr env x y _ H' v u f1 f2 _ bb e ea eb r1 r2 rfl ⟨_,rfl,q H' s⟩
def fBI (p:Int->Int->Bool) (fa fb:En->Aa D):En->Aa Bool:=fun env=>match fa env,fb env with
 | some (.int i),some (.int j)=>some (p i j)
 | _,_=>none
theorem uV {op:CmpOp}(ho:OpR X (compareOp op) (rI0 fun i j=>.bl (p i j))) (ha:QE X m1 rs1 a fa) (hb:QE X m2 rs2 b fb) (hm:behindInMarks op b=false):QT X (.Compare a [op] [b] pos) (fBI p fa fb) :=
 pD ho ha hb hm (fun env x y K H v u f1 f2 Q bb e ea eb r1 r2 _ q=>by
  unfold fBI at e;rw [ea,eb] at e;split at e
  .rename_i i j h1 h2;cases h1;cases h2;cases e;rw [bG r1,bG r2];exact⟨i,j,rfl,rfl,q⟩
  .cases e) fun env bb e=>by
  unfold fBI at e;split at e
  .rename_i i j h1 h2;exact⟨_,_,h1,h2⟩
  .cases e
theorem vY (ha:QE X m1 rs1 a fa) (hb:QE X m2 rs2 b fb):QT X (.Compare a [.Lt] [b] pos) (fBI (fun i j=>decide (i < j)) fa fb):=uV Z8v ha hb (jG _)
theorem Z8l (ha:QE X m1 rs1 a fa) (hb:QE X m2 rs2 b fb):QT X (.Compare a [.LtE] [b] pos) (fBI (fun i j=>decide (i <= j)) fa fb):=uV Z8w ha hb (jG _)
theorem Z8m (ha:QE X m1 rs1 a fa) (hb:QE X m2 rs2 b fb):QT X (.Compare a [.Gt] [b] pos) (fBI (fun i j=>decide (j < i)) fa fb):=uV Z8x ha hb (jG _)
theorem Z0t (ha:QE X m1 rs1 a fa) (hb:QE X m2 rs2 b fb):QT X (.Compare a [.GtE] [b] pos) (fBI (fun i j=>decide (j <= i)) fa fb):=uV Z8y ha hb (jG _)
def jO (neg:Bool) (fa:En->Aa D):En->Aa Bool:=fun env=>match fa env with
 | some .non=>some (!neg)
 | some _=>some neg
 | none=>none
theorem pB {K:Frag}(h:Rep K m H d v fp) (hd:d ≠ .non):v ≠ .non:=by
 cases d with
 | non=>exact absurd rfl hd
 | bl _=>simp only [Rep] at h;rw [h.1];simp
 | int _=>simp only [Rep] at h;rw [h.1];simp
 | str _=>simp only [Rep] at h;rw [h.1];simp
 | tup _=>simp only [Rep] at h;obtain⟨a,vs,e,_⟩:=h;rw [e];simp
 | lst _=>simp only [Rep] at h;obtain⟨a,vs,fp',e,_⟩:=h;rw [e];simp
 | obj _ _ _=>simp only [Rep] at h;obtain⟨a,dx,vs,fp',e,_⟩:=h;rw [e];simp
 | dk _ _=>simp only [Rep] at h;obtain⟨a,vs,fp',e,_⟩:=h;rw [e];simp
 | dt _ _=>simp only [Rep] at h;obtain⟨a,es,ep,vs,fp',e,_⟩:=h;rw [e];simp
 | exc _=>simp only [Rep] at h;obtain⟨a,e,_⟩:=h;rw [e];simp
 | fn _ _ _=>simp only [Rep] at h;rw [h.1];simp
theorem Z6R {j pos'} (ha:QE X m1 rs1 a fa):QT X (.Compare a [.Is] [.Constant .none j pos'] pos) (jO false fa) :=
 pD Z3t ha (m2:=false) (rs2:=[]) sL (jG _) (fun env x y K H v u f1 f2 Q bb e ea eb r1 r2 _ q=>by
  cases eb;refine⟨eB r2,?_⟩;unfold jO at e;rw [ea] at e;cases x with
  | non=>cases e;rw [eB r1];exact q
  | _=>cases e;rw [Ry (pB r1 (by intro z;cases z))];exact q) fun env bb e=>by
  unfold jO at e;cases h:fa env with
  | none=>rw [h] at e;cases e
  | some x=>exact⟨x,.non,rfl,rfl⟩
theorem pY {j pos'} (ha:QE X m1 rs1 a fa):QT X (.Compare a [.IsNot] [.Constant .none j pos'] pos) (jO true fa) :=
 pD Z5n ha (m2:=false) (rs2:=[]) sL (jG _) (fun env x y K H v u f1 f2 Q bb e ea eb r1 r2 _ q=>by
  cases eb;refine⟨eB r2,?_⟩;unfold jO at e;rw [ea] at e;cases x with
  | non=>cases e;rw [eB r1];exact q
  | _=>cases e;rw [Ry (pB r1 (by intro z;cases z))];exact q) fun env bb e=>by
  unfold jO at e;cases h:fa env with
  | none=>rw [h] at e;cases e
  | some x=>exact⟨x,.non,rfl,rfl⟩
theorem jT (ha:QT X a ga):QW X (.BoolOp .And [a] pos) ga:=.mk (Z56 ha) fun σ H Q q=>q
theorem mP (ha:QT X a ga):QW X (.BoolOp .Or [a] pos) ga:=.mk (Z6Z ha) fun σ H Q q=>q
theorem kA (ha:QT X a ga) (hb:QW X (.BoolOp .And (b :: rest) pos) gb):QW X (.BoolOp .And (a :: b :: rest) pos) (kE ga gb) :=
 .mk (Z70 ha hb) fun σ H Q ⟨env,F,bb,ok,e,q⟩=>by
  unfold kE at e;split at e
  .rename_i h1;exact⟨env,F,true,ok,h1,fun H' s=>by refine Z21 ?_;exact⟨env,F,bb,ok.same s,e,fun H2 s2=>q H2 (s.trans s2)⟩⟩
  .rename_i h1;cases e;exact⟨env,F,false,ok,h1,fun H' s=>by refine Z22 ?_;exact q H' s⟩
  .cases e
theorem oH (ha:QT X a ga) (hb:QW X (.BoolOp .Or (b :: rest) pos) gb):QW X (.BoolOp .Or (a :: b :: rest) pos) (fOr ga gb) :=
 .mk (Z8p ha hb) fun σ H Q ⟨env,F,bb,ok,e,q⟩=>by
  unfold fOr at e;split at e
  .rename_i h1;exact⟨env,F,false,ok,h1,fun H' s=>by refine Z22 ?_;exact⟨env,F,bb,ok.same s,e,fun H2 s2=>q H2 (s.trans s2)⟩⟩
  .rename_i h1;cases e;exact⟨env,F,true,ok,h1,fun H' s=>by refine Z21 ?_;exact q H' s⟩
  .cases e
theorem fZ (ha:QT X a ga):QT X (.UnaryOp .Not a pos) (eO ga):=.mk (L2.pt_not ha) fun σ H Q ⟨env,F,bb,ok,e,q⟩=>by
 unfold eO at e;cases h:ga env with
 | none=>rw [h] at e;cases e
 | some b1=>rw [h] at e;cases e;exact⟨env,F,b1,ok,h,fun H' s=>q H' s⟩
theorem Z34 (h:QE X m rs a f):QE X m rs (.BoolOp op [a] pos) f:=.mk (Z78 h) fun σ H Q q=>q
theorem Z3b (ha:QE X m1 rs1 a fa) (hb:QE X m2 rs2 (.BoolOp .And (b :: rest) pos) fb):QE X m rs (.BoolOp .And (a :: b :: rest) pos) (hZ (kE (fB fa) (fB fb))) :=
 .mk (L2.pe_and ha hb) fun σ H Q ⟨env,F,d,ok,e,q⟩=>by
  unfold hZ kE fB at e;cases h1:fa env with
  | none=>rw [h1] at e;cases e
  | some x =>
   rw [h1] at e;cases x with
   | bl c =>
    cases c with
    | true =>
     simp only at e;cases h2:fb env with
     | none=>rw [h2] at e;cases e
     | some y =>
      rw [h2] at e;cases y with
      | bl c2 =>
       cases e;refine⟨env,F,_,ok,h1,fun v H1 f1 s1 r1 _=>?_⟩;rw [gS r1];refine⟨true,rfl,?_⟩;refine Z21 ?_;refine⟨env,F,_,ok.same s1,h2,fun u H2 f2 s2 r2 _=>?_⟩;rw [gS r2];exact q _ _ _ (s1.trans s2) qC .nil
      | _=>cases e
    | false =>
     cases e;refine⟨env,F,_,ok,h1,fun v H1 f1 s1 r1 _=>?_⟩;rw [gS r1];refine⟨false,rfl,?_⟩;refine Z22 ?_;exact q _ _ _ s1 qC .nil
   | _=>cases e
theorem Z6W (ha:QE X m1 rs1 a fa):QE X m rs (.UnaryOp .Not a pos) (hZ (eO (fB fa))) :=
 .mk (L2.pe_not ha) fun σ H Q ⟨env,F,d,ok,e,q⟩=>by
  unfold hZ eO fB at e;cases h1:fa env with
  | none=>rw [h1] at e;cases e
  | some x =>
   rw [h1] at e;cases x with
   | bl c =>
    cases e;refine⟨env,F,_,ok,h1,fun v H1 f1 s1 r1 _=>?_⟩;rw [gS r1];exact⟨c,rfl,q _ _ _ s1 qC .nil⟩
   | _=>cases e
theorem bM:QA X m rs [] aH:=fun pos pins s σ H Q I ⟨env,F,ds,ok,e,q⟩=>pa_nil pos pins s σ H Q I (by cases e;exact q [] H [] (Same.refl H) (by simp only [Reps];exact⟨trivial,trivial⟩) .nil)
theorem aD {ga:En->Aa (Ab D)}(ha:QE X m rs e f) (hr:QA X m rs es ga) (hs:starEach (e :: es) X.env=(false,eval e X.env) :: starEach es X.env:=by rfl):QA X m rs (e :: es) (aC f ga) :=
 fun pos pins s σ H Q I ⟨env,F,ds,ok,e,q⟩=>pa_cons ha hr hs pos pins s σ H Q I (by
  unfold aC at e;split at e
  .rename_i d ds' h1 h2;cases e;refine⟨env,F,d,ok,h1,fun v H1 f1 s1 r1 c1=>⟨env,F,ds',ok.same s1,h2,fun vs H2 f2 s2 r2 c2=>q _ H2 (f1 ++ f2) (s1.trans s2) ?_ ?_⟩⟩
   .simp only [Reps];exact⟨v,vs,f1,f2,rfl,rfl,r1.same s2,r2⟩
   .refine⟨fun b hb=>(Qai.mp hb).elim (c1.1 b) ((c2.back s1).1 b),fun hm=>⟨QaT.mpr ⟨(c1.2 hm).1,(c2.2 hm).1,fun x hx y hy z=>?_⟩,fun b hb=>(Qai.mp hb).elim ((c1.2 hm).2 b) (((c2.back s1).2 hm).2 b)⟩⟩;obtain⟨o,ho⟩:=Rep.dom _ _ _ r1 x hx;rw [z,(c2.2 hm).2 y hy] at ho;cases ho
  .cases e)
end
theorem nJ (h:n <= 1000):n <= sizeLine:=Qbd (iU h)
theorem pH {K:Frag}(hq:H q=none) (h:Reps K m H ds vs fp):Rep K m (upd H q (.tup vs)) (.tup ds) (.ref q) fp:=by
 have sm:Same H (upd H q (.tup vs)):=fun b o e=>by rw [aT (aU e hq)];exact e
 simp only [Rep];exact⟨q,vs,rfl,SqT.of bE,h.same sm⟩
theorem lO {K:Frag}(hq:H q=none) (h:Reps K m H ds vs fp):Rep K m (upd H q (.lst vs)) (.lst ds) (.ref q) (q :: fp):=by
 have sm:Same H (upd H q (.lst vs)):=fun b o e=>by rw [aT (aU e hq)];exact e
 simp only [Rep];exact⟨q,vs,fp,rfl,h.same sm,.inl ⟨rfl,bE⟩⟩
theorem bV (hq:H q=none):Same H (upd H q o):=fun b u e=>by rw [aT (aU e hq)];exact e
theorem nE {K:Frag}(s:Same H H') (hq:H' q=none) (r:Reps K m H' ds vs fp) (c:Cond F H m rs fp):Cond F H m rs (q :: fp) :=
 ⟨fun b hb => (Qaf.mp hb).elim (fun z => .inl (by rw [z]; exact s.free hq)) (c.1 b),
  fun hm=>⟨QaO.mpr ⟨fun z=>(by obtain⟨o,ho⟩:=Reps.dom _ _ _ r q z;rw [hq] at ho;cases ho),(c.2 hm).1⟩,fun b hb=>(Qaf.mp hb).elim (fun z=>by rw [z];exact s.free hq) ((c.2 hm).2 b)⟩⟩
theorem jE (h:QA X m rs es fs):QE X m rs (.Tuple es x1 pos) (iK fs) :=
 .mk (L2.pe_tup h) fun σ H Q ⟨env,F,d,ok,e,q⟩=>by
  unfold iK at e;split at e
  .rename_i ds h1;split at e
   .rename_i hl;cases e;refine⟨env,F,ds,ok,h1,fun vs H' fp s r c=>⟨nJ (by rw [r.length];exact hl),fun p hp=>q _ _ fp (s.trans (bV hp)) (pH hp r) c⟩⟩
   .cases e
  .cases e
theorem eM (h:QA X m rs es fs):QE X m rs (.List es pos) (gE fs) :=
 .mk (L2.pe_lst h) fun σ H Q ⟨env,F,d,ok,e,q⟩=>by
  unfold gE at e;split at e
  .rename_i ds h1;split at e
   .rename_i hl;cases e;refine⟨env,F,ds,ok,h1,fun vs H' fp s r c=>⟨nJ (by rw [r.length];exact hl),fun p hp=>q _ _ (p :: fp) (s.trans (bV hp)) (lO hp r) (nE s hp r c)⟩⟩
   .cases e
  .cases e
def fIx (fa fb:En->Aa D):En->Aa D:=fun env=>match fa env,fb env with
 | some (.lst ds),some (.int i)=>atI ds i
 | some (.tup ds),some (.int i)=>atI ds i
 | some (.str z),some (.int i)=>if z.length <= 1000 then (atI z.cps.toList i).map fun c=>.str ⟨#[c]⟩ else none
 | _,_=>none
theorem Z0Y {K:Frag}(r:Reps K m H ds vs fp) (h:atI ds i=some d):∃ v f,atI vs i=some v /\ Rep K m H d v f /\ (∀ b ∈ f,b ∈ fp) /\ (fp.Nodup->f.Nodup):=by
 unfold atI at h ⊢;rw [r.length];cases hj:ixN ds.length i with
 | none=>rw [hj] at h;cases h
 | some j =>
  rw [hj] at h;exact r.get h
theorem aS (ha:QE X m1 rs a fa) (hb:QE X m2 rs2 b fb) (hs:Z0Z b:=by exact fun _ _=>rfl):QE X false rs (.Subscript a b pos) (fIx fa fb) :=
 .mk (Z8s Z7n ha hb hs) fun σ H Q ⟨env,F,d,ok,e,q⟩=>by
  unfold fIx at e;split at e
  .rename_i ds i h1 h2;refine two ok h1 h2 fun v u H' f1 f2 s r1 r2 c1 c2=>?_;obtain⟨p,vs,fp',rfl,hsq,hr,hsub⟩:=bX r1;obtain⟨w,f,e1,e2,e3,_⟩:=Z0Y hr e;rw [bG r2];exact .inl ⟨p,vs,i,w,rfl,rfl,hsq,e1,q w H' f s (Rep.weak _ _ _ e2) ⟨fun b hb=>c1.1 b (hsub b (e3 b hb)),fun z=>(by cases z)⟩⟩
  .rename_i ds i h1 h2;refine two ok h1 h2 fun v u H' f1 f2 s r1 r2 c1 c2=>?_;simp only [Rep] at r1;obtain⟨p,vs,rfl,hsq,hr⟩:=r1;obtain⟨w,f,e1,e2,e3,_⟩:=Z0Y hr e;rw [bG r2];exact .inr (.inl ⟨p,vs,i,w,rfl,rfl,hsq,e1,q w H' f s (Rep.weak _ _ _ e2) ⟨fun b hb=>c1.1 b (e3 b hb),fun z=>(by cases z)⟩⟩)
  .rename_i z i h1 h2;split at e
   .rename_i hl;refine two ok h1 h2 fun v u H' f1 f2 s r1 r2 c1 c2=>?_;cases hc:atI z.cps.toList i with
    | none=>rw [hc] at e;cases e
    | some ch =>
     rw [hc] at e;cases e;rw [eS r1,bG r2];exact .inr (.inr ⟨z,i,ch,rfl,rfl,nJ hl,hc,q _ H' [] s Z3F .nil⟩)
   .cases e
  .cases e
def QO (X:Cx) (e:Aa Ag) (f:En->Aa (Aa Int)):Prop:=PO X e (fun σ H Q=>∃ env F o,EnvOk X.K H σ env F /\ f env=some o /\ ∀ H',Same H H'->Q o H')
def tI:En->Aa (Aa Int):=fun _=>some none
def fP (f:En->Aa D):En->Aa (Aa Int):=fun env=>match f env with
 | some (.int i)=>some (some i)
 | _=>none
theorem lJ:QO X none tI:=fun pins s σ H Q I ⟨env,F,o,ok,e,q⟩=>Z5f pins s σ H Q I (by cases e;exact q H (Same.refl H))
theorem lI (h:QE X m rs e f):QO X (some e) (fP f):=fun pins s σ H Q I ⟨env,F,o,ok,e,q⟩=>Z5e h pins s σ H Q I (by
 unfold fP at e;split at e
 .rename_i i h1;cases e;refine⟨env,F,_,ok,h1,fun v H' fp s r _=>?_⟩;rw [bG r];exact⟨i,rfl,q H' s⟩
 .cases e)
def cutD (xs:Ab D) (lo hi:Aa Int):Ab D:=(xs.drop (HT.sIx xs.length 0 lo)).take (HT.sIx xs.length xs.length hi - HT.sIx xs.length 0 lo)
theorem Reps.drop {K:Frag}:∀ (n:Nat) {ds:Ab D}{vs:Ab V}{fp:Ab Af},Reps K m H ds vs fp->∃ f,Reps K m H (ds.drop n) (vs.drop n) f /\ (∀ b ∈ f,b ∈ fp)
 | 0,ds,vs,fp,h=>⟨fp,h,fun _ h=>h⟩
 | n + 1,[],vs,fp,h=>by simp only [Reps] at h;obtain⟨rfl,rfl⟩:=h;exact⟨[],by simp only [List.drop_nil,Reps];exact⟨trivial,trivial⟩,fun _ h=>h⟩
 | n + 1,d :: ds,vs,fp,h=>by
  simp only [Reps] at h;obtain⟨v,r,f1,f2,rfl,rfl,h1,h2⟩:=h;obtain⟨f,e1,e2⟩:=Reps.drop n h2;exact⟨f,e1,fun b hb=>Qam _ (e2 b hb)⟩
theorem Reps.take {K:Frag}:∀ (n:Nat) {ds:Ab D}{vs:Ab V}{fp:Ab Af},Reps K m H ds vs fp->∃ f,Reps K m H (ds.take n) (vs.take n) f /\ (∀ b ∈ f,b ∈ fp)
 | 0,ds,vs,fp,h=>⟨[],by simp only [Qbt,Reps];exact⟨trivial,trivial⟩,fun b hb=>(by cases hb)⟩
 | n + 1,[],vs,fp,h=>by simp only [Reps] at h;obtain⟨rfl,rfl⟩:=h;exact⟨[],by simp only [List.take_nil,Reps];exact⟨trivial,trivial⟩,fun _ h=>h⟩
 | n + 1,d :: ds,vs,fp,h=>by
  simp only [Reps] at h;obtain⟨v,r,f1,f2,rfl,rfl,h1,h2⟩:=h;obtain⟨f,e1,e2⟩:=Reps.take n h2;refine⟨f1 ++ f,by simp only [QbH,Reps];exact⟨v,_,f1,f,rfl,rfl,h1,e1⟩,fun b hb=>?_⟩;rcases Qai.mp hb with z | z
  .exact Qar _ z
  .exact Qam _ (e2 b z)
theorem Reps.cut {K:Frag}(h:Reps K m H ds vs fp) (lo hi:Aa Int):∃ f,Reps K m H (cutD ds lo hi) (P3 vs lo hi) f /\ (∀ b ∈ f,b ∈ fp):=by
 unfold cutD P3;rw [h.length];obtain⟨f,e1,e2⟩:=Reps.drop (HT.sIx ds.length 0 lo) h;obtain⟨f',e3,e4⟩:=Reps.take (HT.sIx ds.length ds.length hi - HT.sIx ds.length 0 lo) e1;exact⟨f',e3,fun b hb=>e2 b (e4 b hb)⟩
theorem kT:∀ {ds:Ab D},(∀ d ∈ ds,flat d=true)->flats ds=true
 | [],_=>rfl
 | d :: ds,h=>by simp only [flats,QaU];exact⟨h d Qau,kT fun x hx=>h x (Qae _ hx)⟩
def fSl (fa:En->Aa D) (fl fh:En->Aa (Aa Int)):En->Aa D:=fun env=>match fa env,fl env,fh env with
 | some (.lst ds),some lo,some hi=>if flats ds=true then some (.lst (cutD ds lo hi)) else none
 | some (.tup ds),some lo,some hi=>if flats ds=true /\ ¬ (HT.sIx ds.length 0 lo=0 /\ HT.sIx ds.length ds.length hi=ds.length) then some (.tup (cutD ds lo hi)) else none
 | _,_,_=>none
theorem mQ {lo hi:Aa Ag}(ha:QE X m1 rs1 a fa) (hl:QO X lo fl) (hu:QO X hi fh):QE X m rs (.Subscript a (.Slice lo hi none p2) pos) (fSl fa fl fh) :=
 .mk (L2.pe_slice (SlR.or Z4K Z2H) ha hl hu) fun σ H Q ⟨env,F,d,ok,e,q⟩=>by
  unfold fSl at e;split at e
  .rename_i ds l h h1 h2 h3;split at e
   .rename_i hf;cases e;refine⟨env,F,_,ok,h1,fun v H1 f1 s1 r1 c1=>⟨env,F,l,ok.same s1,h2,fun H2 s2=>⟨env,F,h,ok.same (s1.trans s2),h3,fun H3 s3=>.inl ?_⟩⟩⟩;obtain⟨p,vs,fp',rfl,hsq,hr,hsub⟩:=bX (r1.same (s2.trans s3));refine⟨p,vs,rfl,hsq,fun p' hp=>?_⟩;obtain⟨g1,g2⟩:=Reps.flat _ _ _ hf hr;obtain⟨f',e3,e4⟩:=Reps.cut (g2 m) l h;obtain rfl:f'=[]:=List.eq_nil_iff_forall_not_mem.mpr fun b hb=>(by cases e4 b hb);exact q _ _ [p'] (((s1.trans s2).trans s3).trans (bV hp)) (lO hp e3) (nE ((s1.trans s2).trans s3) hp e3 .nil)
   .cases e
  .rename_i ds l h h1 h2 h3;split at e
   .rename_i hf;cases e;refine⟨env,F,_,ok,h1,fun v H1 f1 s1 r1 c1=>⟨env,F,l,ok.same s1,h2,fun H2 s2=>⟨env,F,h,ok.same (s1.trans s2),h3,fun H3 s3=>.inr ?_⟩⟩⟩;have r1':=r1.same (s2.trans s3);simp only [Rep] at r1';obtain⟨p,vs,rfl,hsq,hr⟩:=r1';refine⟨p,vs,rfl,hsq,by rw [hr.length];exact hf.2,fun p' hp=>?_⟩;obtain⟨g1,g2⟩:=Reps.flat _ _ _ hf.1 hr;obtain⟨f',e3,e4⟩:=Reps.cut (g2 m) l h;obtain rfl:f'=[]:=List.eq_nil_iff_forall_not_mem.mpr fun b hb=>(by cases e4 b hb);exact q _ _ [] (((s1.trans s2).trans s3).trans (bV hp)) (pH hp e3) .nil
   .cases e
  .cases e
theorem pZ {id:String}(hc:CallR X (.builtin id) r) (hg:Gl X x) (hm:X.mg x=none) (hv:bootBuiltins x=some (.builtin id)) (ha:QA X m1 rs1 (e :: es) fs)
  (hr:∀ ds d vs H fp Q,F' ds=some d->Reps X.K m1 H ds vs fp->(∀ v H' f',Same H H'->Rep X.K m H' d v f'->(∀ b ∈ f',H b=none)->f'.Nodup->Q v H')->r vs H Q)
  (hn:x ≠ "__name__":=by decide) (hdb:(x == ("__debug__" : Str))=false:=by decide) (he:starEach (e :: es) X.env=(false,eval e X.env) :: starEach es X.env:=by rfl) (hpl:(backTo pos (starEach es X.env)).any (·.1)=false:=by rfl) :
  QE X m rs (.Call (.Name x p) (e :: es) [] pos) (fun env=>(fs env).bind F') :=
 .mk (L2.pe_callB hc hg hm hv ha hn hdb he hpl) fun σ H Q ⟨env,F,d,ok,e,q⟩=>by
  cases h1:fs env with
  | none=>simp only [h1] at e;cases e
  | some ds =>
   simp only [h1] at e;exact⟨env,F,ds,ok,h1,fun vs H' fp s r c=>hr ds d vs H' fp Q e r fun v H2 f' s2 r2 h2 nd=>q v H2 f' (s.trans s2) r2 ⟨fun b hb=>.inl (s.free (h2 b hb)),fun _=>⟨nd,fun b hb=>s.free (h2 b hb)⟩⟩⟩
theorem sM (hc:CallR X (.type T) r) (hg:Gl X x) (hm:X.mg x=none) (hv:bootBuiltins x=some (.type T)) (ha:QA X m1 rs1 (e :: es) fs)
  (hr:∀ ds d vs H fp Q,F' ds=some d->Reps X.K m1 H ds vs fp->(∀ v H' f',Same H H'->Rep X.K m H' d v f'->(∀ b ∈ f',H b=none)->f'.Nodup->Q v H')->r vs H Q)
  (hn:x ≠ "__name__":=by decide) (hdb:(x == ("__debug__" : Str))=false:=by decide) (he:starEach (e :: es) X.env=(false,eval e X.env) :: starEach es X.env:=by rfl) (hpl:(backTo pos (starEach es X.env)).any (·.1)=false:=by rfl) :
  QE X m rs (.Call (.Name x p) (e :: es) [] pos) (fun env=>(fs env).bind F') :=
 .mk (L2.pe_callTy hc hg hm hv ha hn hdb he hpl) fun σ H Q ⟨env,F,d,ok,e,q⟩=>by
  cases h1:fs env with
  | none=>simp only [h1] at e;cases e
  | some ds =>
   simp only [h1] at e;exact⟨env,F,ds,ok,h1,fun vs H' fp s r c=>hr ds d vs H' fp Q e r fun v H2 f' s2 r2 h2 nd=>q v H2 f' (s.trans s2) r2 ⟨fun b hb=>.inl (s.free (h2 b hb)),fun _=>⟨nd,fun b hb=>s.free (h2 b hb)⟩⟩⟩
theorem iO {K:Frag}(h:Reps K m H [d] vs fp):∃ v,vs=[v] /\ Rep K m H d v fp:=by
 simp only [Reps] at h;obtain⟨v,r,f1,f2,rfl,rfl,h1,rfl,rfl⟩:=h;exact⟨v,rfl,by simpa using h1⟩
theorem Z0q {K:Frag}(h:Reps K m H [d,d'] vs fp):∃ v v' f f',vs=[v,v'] /\ Rep K m H d v f /\ Rep K m H d' v' f' /\ fp=f ++ f':=by
 simp only [Reps] at h;obtain⟨v,r,f1,f2,rfl,rfl,h1,v',r',f3,f4,rfl,rfl,h2,rfl,rfl⟩:=h;exact⟨v,v',f1,f3,rfl,h1,h2,by simp⟩
def bK:Ab D->Aa D
 | [.lst ds]=>some (.int ds.length)
 | [.tup ds]=>some (.int ds.length)
 | [.str z]=>if z.length <= 1000 then some (.int z.length) else none
 | _=>none
theorem cJ {p:Pos}(hg:Gl X "len") (hm:X.mg "len" = none) (ha:QE X m1 rs1 a fa) (he:starEach [a] X.env=(false,eval a X.env) :: starEach [] X.env:=by rfl) (hpl:(backTo pos (starEach [] X.env)).any (·.1)=false:=by rfl) :
  QE X m rs (.Call (.Name "len" p) [a] [] pos) (fun env=>(aC fa aH env).bind bK) :=
 pZ (call_len_seq.or G0) hg hm PySem.boot_len (aD ha bM he) (fun ds d vs H fp Q e r q=>by
  unfold bK at e;split at e
  .cases e;obtain⟨v,rfl,r1⟩:=iO r;obtain⟨p,ws,fp',rfl,hsq,hr,hsub⟩:=bX r1;exact .inl ⟨p,ws,rfl,.inl hsq,by rw [hr.length];exact q _ _ [] (Same.refl H) fN (fun b hb=>(by cases hb)) QaQ⟩
  .cases e;obtain⟨v,rfl,r1⟩:=iO r;simp only [Rep] at r1;obtain⟨p,ws,rfl,hsq,hr⟩:=r1;exact .inl ⟨p,ws,rfl,.inr hsq,by rw [hr.length];exact q _ _ [] (Same.refl H) fN (fun b hb=>(by cases hb)) QaQ⟩
  .split at e
   .rename_i hl;cases e;obtain⟨v,rfl,r1⟩:=iO r;rw [eS r1];exact .inr ⟨_,rfl,nJ hl,q _ _ [] (Same.refl H) fN (fun b hb=>(by cases hb)) QaQ⟩
   .cases e
  .cases e) (he:=he) (hpl:=hpl)
def gY:Ab D->Aa D
 | [.lst ds]=>if flats ds=true then some (.lst ds) else none
 | [.tup ds]=>if flats ds=true then some (.lst ds) else none
 | _=>none
theorem boot_list:bootBuiltins "list" = some (.type "list"):=by decide +kernel
theorem boot_tuple:bootBuiltins "tuple" = some (.type "tuple"):=by decide +kernel
theorem boot_int:bootBuiltins "int" = some (.type "int"):=by decide +kernel
theorem Z4n:bootBuiltins "min" = some (.builtin "min"):=by decide +kernel
theorem Z4o:bootBuiltins "max" = some (.builtin "max"):=by decide +kernel
theorem nM {p:Pos}(hg:Gl X "list") (hm:X.mg "list" = none) (ha:QE X m1 rs1 a fa) (he:starEach [a] X.env=(false,eval a X.env) :: starEach [] X.env:=by rfl) (hpl:(backTo pos (starEach [] X.env)).any (·.1)=false:=by rfl) :
  QE X m rs (.Call (.Name "list" p) [a] [] pos) (fun env=>(aC fa aH env).bind gY) :=
 sM F9 hg hm boot_list (aD ha bM he) (fun ds d vs H fp Q e r q=>by
  have fin:∀ {xs:Ab D}{ws:Ab V}{f:Ab Af}{l:Af},flats xs=true->Reps X.K m1 H xs ws f->H l=none->Q (.ref l) (upd H l (.lst ws))->True:=fun _ _ _ _=>trivial;unfold gY at e;split at e
  .split at e
   .rename_i hf;cases e;obtain⟨v,rfl,r1⟩:=iO r;obtain⟨p,ws,fp',rfl,hsq,hr,hsub⟩:=bX r1;refine⟨p,ws,rfl,.inl hsq,fun l hl=>?_⟩;obtain⟨g1,g2⟩:=Reps.flat _ _ _ hf hr;exact q _ _ [l] (bV hl) (lO hl (g2 m)) (fun b hb=>by simp at hb;rw [hb];exact hl) (by simp)
   .cases e
  .split at e
   .rename_i hf;cases e;obtain⟨v,rfl,r1⟩:=iO r;simp only [Rep] at r1;obtain⟨p,ws,rfl,hsq,hr⟩:=r1;refine⟨p,ws,rfl,.inr hsq,fun l hl=>?_⟩;obtain⟨g1,g2⟩:=Reps.flat _ _ _ hf hr;exact q _ _ [l] (bV hl) (lO hl (g2 m)) (fun b hb=>by simp at hb;rw [hb];exact hl) (by simp)
   .cases e
  .cases e) (he:=he) (hpl:=hpl)
def G5:Ab D->Aa D
 | [.lst ds]=>if flats ds=true then some (.tup ds) else none
 | [.tup ds]=>if flats ds=true then some (.tup ds) else none
 | _=>none
theorem Z30 {p:Pos}(hg:Gl X "tuple") (hm:X.mg "tuple" = none) (ha:QE X m1 rs1 a fa) (he:starEach [a] X.env=(false,eval a X.env) :: starEach [] X.env:=by rfl) (hpl:(backTo pos (starEach [] X.env)).any (·.1)=false:=by rfl) :
  QE X m rs (.Call (.Name "tuple" p) [a] [] pos) (fun env=>(aC fa aH env).bind G5) :=
 sM yB hg hm boot_tuple (aD ha bM he) (fun ds d vs H fp Q e r q=>by
  unfold G5 at e;split at e
  .split at e
   .rename_i hf;cases e;obtain⟨v,rfl,r1⟩:=iO r;obtain⟨p,ws,fp',rfl,hsq,hr,hsub⟩:=bX r1;refine⟨p,ws,rfl,.inl ⟨hsq,fun l hl=>?_⟩⟩;obtain⟨g1,g2⟩:=Reps.flat _ _ _ hf hr;exact q _ _ [] (bV hl) (pH hl (g2 m)) (fun b hb=>(by cases hb)) QaQ
   .cases e
  .split at e
   .rename_i hf;cases e;obtain⟨v,rfl,r1⟩:=iO r;have r2:=r1;simp only [Rep] at r1;obtain⟨p,ws,rfl,hsq,hr⟩:=r1;obtain⟨g1,g2⟩:=Rep.flat _ _ _ (by simpa only [PD.flat] using hf) r2;exact⟨p,ws,rfl,.inr ⟨hsq,q _ _ [] (Same.refl H) (g2 m) (fun b hb=>(by cases hb)) QaQ⟩⟩
   .cases e
  .cases e) (he:=he) (hpl:=hpl)
def Z0c:Ab D->Aa D
 | [.int i,.int j]=>some (.int (if j < i then j else i))
 | _=>none
def Z2r:Ab D->Aa D
 | [.int i,.int j]=>some (.int (if j > i then j else i))
 | _=>none
theorem Z35 {p:Pos}(hcm:X.calm=true) (hg:Gl X "min") (hm:X.mg "min" = none) (ha:QA X m1 rs1 [a,b] fs) (he:starEach [a,b] X.env=(false,eval a X.env) :: starEach [b] X.env:=by rfl) (hpl:(backTo pos (starEach [b] X.env)).any (·.1)=false:=by rfl) :
  QE X m rs (.Call (.Name "min" p) [a,b] [] pos) (fun env=>(fs env).bind Z0c) :=
 pZ (Z2i hcm) hg hm Z4n ha (fun ds d vs H fp Q e r q=>by
  unfold Z0c at e;split at e
  .rename_i i j;cases e;obtain⟨v,v',f,f',rfl,r1,r2,rfl⟩:=Z0q r;rw [bG r1,bG r2];exact⟨i,j,rfl,q _ _ [] (Same.refl H) fN (fun b hb=>(by cases hb)) QaQ⟩
  .cases e) (he:=he) (hpl:=hpl)
theorem Z36 {p:Pos}(hcm:X.calm=true) (hg:Gl X "max") (hm:X.mg "max" = none) (ha:QA X m1 rs1 [a,b] fs) (he:starEach [a,b] X.env=(false,eval a X.env) :: starEach [b] X.env:=by rfl) (hpl:(backTo pos (starEach [b] X.env)).any (·.1)=false:=by rfl) :
  QE X m rs (.Call (.Name "max" p) [a,b] [] pos) (fun env=>(fs env).bind Z2r) :=
 pZ (Z2j hcm) hg hm Z4o ha (fun ds d vs H fp Q e r q=>by
  unfold Z2r at e;split at e
  .rename_i i j;cases e;obtain⟨v,v',f,f',rfl,r1,r2,rfl⟩:=Z0q r;rw [bG r1,bG r2];exact⟨i,j,rfl,q _ _ [] (Same.refl H) fN (fun b hb=>(by cases hb)) QaQ⟩
  .cases e) (he:=he) (hpl:=hpl)
def G7:Ab D->Aa D
 | [.int i]=>some (.int i)
 | [.bl k]=>some (.int (if k then 1 else 0))
 | _=>none
theorem Z0w {p:Pos}(hg:Gl X "int") (hm:X.mg "int" = none) (ha:QE X m1 rs1 a fa) (he:starEach [a] X.env=(false,eval a X.env) :: starEach [] X.env:=by rfl) (hpl:(backTo pos (starEach [] X.env)).any (·.1)=false:=by rfl) :
  QE X m rs (.Call (.Name "int" p) [a] [] pos) (fun env=>(aC fa aH env).bind G7) :=
 sM Z2k hg hm boot_int (aD ha bM he) (fun ds d vs H fp Q e r q=>by
  unfold G7 at e;split at e
  .cases e;obtain⟨v,rfl,r1⟩:=iO r;rw [bG r1];exact .inl ⟨_,rfl,q _ _ [] (Same.refl H) fN (fun b hb=>(by cases hb)) QaQ⟩
  .cases e;obtain⟨v,rfl,r1⟩:=iO r;rw [gS r1];exact .inr ⟨_,rfl,q _ _ [] (Same.refl H) fN (fun b hb=>(by cases hb)) QaQ⟩
  .cases e) (he:=he) (hpl:=hpl)
def spD (K:Frag) (n:Nat) (f:Ab D->Aa D):Sp:=fun vs H Q _=>∃ ds d fp,ds.length=n /\ Reps K false H ds vs fp /\ f ds=some d /\ ∀ v H' fp',Same H H'->Rep K true H' d v fp'->(∀ b ∈ fp',H b=none)->fp'.Nodup->Q v H'
theorem A2 {K:Frag}(h:spD K n f vs H Q E):vs.length=n:=by
 obtain⟨ds,d,fp,h1,h2,_⟩:=h;rw [h2.length,h1]
theorem Z54 (G:bR X.prog X.w X.K X.mg X.base CX0 k fA fd ps (spD X.K n F')) (hr:Room k X.A) (hg:Gl X x) (hm:X.mg x=some (.ref fA)) (hk:keepIn X.K (.ref fA)=true)
  (hb:Binds X.K fd ps ds) (hd:Vals dvs ds) (hdd:∀ H,Reps X.K false H dds dvs []) (ha:QA X m1 rs1 (e :: es) fs) (hn:∀ env xs,fs env=some xs->xs.length + dds.length=n)
  (hdb:(x == ("__debug__" : Str))=false:=by decide) (he:starEach (e :: es) X.env=(false,eval e X.env) :: starEach es X.env:=by rfl) (hpl:(backTo pos (starEach es X.env)).any (·.1)=false:=by rfl) :
  QE X true [] (.Call (.Name x p) (e :: es) [] pos) (fun env=>(fs env).bind fun xs=>F' (xs ++ dds)) :=
 .mk (L2.pe_call G hr hg hm hk hb hd Z3m ha hdb he hpl) fun σ H Q ⟨env,F,d,ok,e,q⟩=>by
  cases h1:fs env with
  | none=>simp only [h1] at e;cases e
  | some xs =>
   simp only [h1] at e;refine⟨env,F,xs,ok,h1,fun vs H' fp s r c=>⟨xs ++ dds,d,fp ++ [],by rw [QaB];exact hn env xs h1,(Reps.weak _ _ _ r).append (hdd H'),e,fun v H2 fp' s2 r2 h2 nd=>q v H2 fp' (s.trans s2) r2 ⟨fun b hb=>.inl (s.free (h2 b hb)),fun _=>⟨nd,fun b hb=>s.free (h2 b hb)⟩⟩⟩⟩
theorem vB {K:Frag}:∀ {ns:Ab Str}{ds:Ab D}{vs:Ab V}{fp:Ab Af}{d:D},Reps K m H ds vs fp->(ns.zip ds).lookup nm=some d->∃ v f,(ns.zip vs).lookup nm=some v /\ Rep K m H d v f /\ ∀ b ∈ f,b ∈ fp
 | [],ds,vs,fp,d,r,e=>by cases e
 | n :: ns,[],vs,fp,d,r,e=>by cases e
 | n :: ns,d' :: ds,vs,fp,d,r,e=>by
  simp only [Reps] at r;obtain⟨v,vr,f1,f2,rfl,rfl,h1,h2⟩:=r;simp only [List.zip_cons_cons,QaX] at e ⊢;cases hq:nm == n with
  | true =>
   rw [hq] at e;cases e;exact⟨v,f1,rfl,h1,fun b hb=>Qar _ hb⟩
  | false =>
   rw [hq] at e;obtain⟨w,f,a1,a2,a3⟩:=vB h2 e;exact⟨w,f,a1,a2,fun b hb=>Qam _ (a3 b hb)⟩
def gO (C:Af) (nm:Str) (fa:En->Aa D):En->Aa D:=fun env=>match fa env with
 | some (.obj C' ns ds)=>if C'=C then (ns.zip ds).lookup nm else none
 | _=>none
theorem eY (hc:Cls X.K C) (hn:NoAttr X.K C nm) (ha:QE X m1 rs a fa) (hb:attributeBase a nm X.env (eval a X.env)=eval a X.env:=by rfl):QE X false rs (.Attribute a nm pos) (gO C nm fa) :=
 .mk (Z7a ha hb) fun σ H Q ⟨env,F,d,ok,e,q⟩=>by
  unfold gO at e;split at e
  .rename_i C' ns ds h1;split at e
   .rename_i hC;subst hC;refine⟨env,F,_,ok,h1,fun v H' fp s r c=>?_⟩;simp only [Rep] at r;obtain⟨a',dx,vs,fp',rfl,rfl,h2,h3,h4⟩:=r;obtain⟨w,f,a1,a2,a3⟩:=vB h4 e;exact⟨a',C',dx,_,w,rfl,h2,hc,hn,a1,q w H' f s (Rep.weak _ _ _ a2) ⟨fun b hb=>c.1 b (Qae _ (a3 b hb)),fun z=>(by cases z)⟩⟩
   .cases e
  .cases e
def xJ (K:Frag) (J:It) (H0:Hp) (ds:Ab D) (fp:Ab Af):Prop:=∀ H,Kp fp H0 H->∀ i,
 (∀ d,ds[i]? = some d->J.go i H /\ ∀ x H',J.yld i H x H'->Same H H' /\ ∃ f,Rep K false H' d x f /\ ∀ b ∈ f,b ∈ fp) /\ (ds.length <= i->J.stop i H)
def tDI (K:Frag) (rs:Ab Nat) (f:En->Aa (Ab D)):TI:=fun σ H R=>∃ env F ds,EnvOk K H σ env F /\ f env=some ds /\ ∀ J H' fp,Same H H'->xJ K J H' ds fp->(∀ b ∈ fp,∃ o,H' b=some o)->Cond F H false rs fp->R J H'
def QI (X:Cx) (tg:Ag) (rs:Ab Nat) (iter:Ag) (f:En->Aa (Ab D)):Prop:=PI X tg iter (tDI X.K rs f)
theorem QI.mk (h:PI X tg iter wi) (hi:∀ σ H R,tDI X.K rs f σ H R->wi σ H R):QI X tg rs iter f:=fun pins s σ H R I q=>h pins s σ H R I (hi σ H R q)
theorem PI.or (h1:PI X tg iter w1) (h2:PI X tg iter w2):PI X tg iter (fun σ H R=>w1 σ H R \/ w2 σ H R):=fun pins s σ H R I q=>q.elim (h1 pins s σ H R I) (h2 pins s σ H R I)
theorem Y9 {K:Frag}(r:Rep K false H0 (.lst ds) (.ref a) fp):xJ K (Itl K a) H0 ds fp:=fun H k i=>by
 have r':=Rep.keep _ _ _ k r;obtain⟨p,vs,fp',e,hsq,hr,hsub⟩:=bX r';cases e;refine⟨fun d hd=>?_,fun hl=>⟨vs,hsq,by rw [hr.length];exact hl⟩⟩;obtain⟨v,f,h1,h2,h3,_⟩:=hr.get hd;refine⟨⟨vs,v,hsq,h1⟩,fun x H' y=>?_⟩;obtain⟨rfl,y⟩:=y;have:=y vs hsq;rw [h1] at this;cases this;exact⟨Same.refl _,f,h2,fun b hb=>hsub b (h3 b hb)⟩
theorem Z26 {K:Frag}(r:Rep K false H0 (.tup ds) (.ref a) fp):xJ K (Itt K a) H0 ds fp:=fun H k i=>by
 have r':=Rep.keep _ _ _ k r;simp only [Rep] at r';obtain⟨p,vs,e,hsq,hr⟩:=r';cases e;refine⟨fun d hd=>?_,fun hl=>⟨vs,hsq,by rw [hr.length];exact hl⟩⟩;obtain⟨v,f,h1,h2,h3,_⟩:=hr.get hd;refine⟨⟨vs,v,hsq,h1⟩,fun x H' y=>?_⟩;obtain⟨rfl,y⟩:=y;have:=y vs hsq;rw [h1] at this;cases this;exact⟨Same.refl _,f,h2,h3⟩
theorem Z0 {K:Frag}(r:Rep K false H0 (.lst ds) (.ref a) fp):xJ K (Ite K a) H0 (ds.mapIdx fun i d=>.tup [.int i,d]) fp:=fun H k i=>by
 have r':=Rep.keep _ _ _ k r;obtain⟨p,vs,fp',e,hsq,hr,hsub⟩:=bX r';cases e;refine⟨fun d hd=>?_,fun hl=>⟨vs,hsq,by rw [hr.length];simpa using hl⟩⟩;rw [List.getElem?_mapIdx] at hd;cases hdd:ds[i]? with
 | none=>rw [hdd] at hd;cases hd
 | some d' =>
  rw [hdd] at hd;cases hd;obtain⟨v,f,h1,h2,h3,_⟩:=hr.get hdd;refine⟨⟨vs,v,hsq,h1⟩,fun x H' y=>?_⟩;obtain⟨q,w,hq,rfl,y,rfl⟩:=y;have:=y vs hsq;rw [h1] at this;cases this;refine⟨bV hq,f,pH hq ?_,fun b hb=>hsub b (h3 b hb)⟩;simp only [Reps];exact⟨.int i,[v],[],f,rfl,rfl,fN,v,[],f,[],rfl,by simp,h2,rfl,rfl⟩
theorem tZ {K:Frag}(lo:Int) (n:Nat):xJ K (Itr lo n) H0 ((List.range n).map fun (k:Nat)=>.int (lo + (k:Int))) []:=fun H k i=>by
 refine⟨fun d hd=>?_,fun hl=>(show n <= i by simpa using hl)⟩;rw [Qas] at hd;cases hdd:(List.range n)[i]? with
 | none=>rw [hdd] at hd;cases hd
 | some j =>
  rw [hdd] at hd;cases hd;obtain⟨hlt,e⟩:=Qac.mp hdd;rw [List.getElem_range] at e;subst e;refine⟨(show i < n by simpa using hlt),fun x H' y=>?_⟩;obtain⟨rfl,rfl⟩:=y;exact⟨Same.refl _,[],fN,fun b hb=>hb⟩
def cM (fa:En->Aa D):En->Aa (Ab D):=fun env=>match fa env with
 | some (.lst ds)=>some ds
 | some (.tup ds)=>some ds
 | _=>none
theorem cB (ha:QE X m1 rs a fa):QI X tg rs a (cM fa) :=
 .mk (PI.or (Z5h ha) (Z74 ha)) fun σ H R ⟨env,F,ds,ok,e,q⟩=>by
  unfold cM at e;split at e
  .rename_i ds' h1;cases e;refine .inl ⟨env,F,_,ok,h1,fun v H' fp s r c=>?_⟩;have r0:=Rep.weak _ _ _ r;obtain⟨p,vs,fp',rfl,hsq,hr,hsub⟩:=bX r;exact⟨p,rfl,⟨vs,hsq⟩,q _ H' fp s (Y9 r0) (Rep.dom _ _ _ r) ⟨c.1,fun z=>(by cases z)⟩⟩
  .rename_i ds' h1;cases e;refine .inr ⟨env,F,_,ok,h1,fun v H' fp s r c=>?_⟩;have r0:=Rep.weak _ _ _ r;have r1:=r;simp only [Rep] at r1;obtain⟨p,vs,rfl,hsq,hr⟩:=r1;exact⟨p,rfl,⟨vs,hsq⟩,q _ H' fp s (Z26 r0) (Rep.dom _ _ _ r) ⟨c.1,fun z=>(by cases z)⟩⟩
  .cases e
def eJ:Ab D->Aa (Ab D)
 | [.int j]=>if -(2 ^ 62) <= j /\ j < 2 ^ 62 then some ((List.range j.toNat).map fun (k:Nat)=>.int (0 + (k:Int))) else none
 | _=>none
theorem cO (hg:Gl X "range") (hm:X.mg "range" = none) (ha:QA X m1 rs1 [a] fs) (hs:starEach [a] X.env=[(false,eval a X.env)]:=by rfl):QI X tg rs (.Call (.Name "range" p) [a] [] pos) (fun env=>(fs env).bind eJ) :=
 .mk (Z1A hg hm ha hs) fun σ H R ⟨env,F,ds,ok,e,q⟩=>by
  cases h1:fs env with
  | none=>simp only [h1] at e;cases e
  | some xs =>
   simp only [h1,Qbc] at e;unfold eJ at e;split at e
   .rename_i j;split at e
    .rename_i hj;cases e;refine⟨env,F,_,ok,h1,fun vs H' fp s r c=>?_⟩;obtain⟨v,rfl,r1⟩:=iO r;rw [bG r1];exact⟨j,rfl,hj.1,hj.2,q _ H' [] s (tZ 0 _) (fun b hb=>(by cases hb)) .nil⟩
    .cases e
   .cases e
def Q5:Ab D->Aa (Ab D)
 | [.int i,.int j]=>if -(2 ^ 62) <= i /\ i < 2 ^ 62 /\ -(2 ^ 62) <= j /\ j < 2 ^ 62 then some ((List.range (j - i).toNat).map fun (k:Nat)=>.int (i + (k:Int))) else none
 | _=>none
theorem Z1s (hg:Gl X "range") (hm:X.mg "range" = none) (ha:QA X m1 rs1 [a,b] fs) (hs:starEach [a,b] X.env=[(false,eval a X.env),(false,eval b X.env)]:=by rfl) (hs2:starEach [b] X.env=[(false,eval b X.env)]:=by rfl):QI X tg rs (.Call (.Name "range" p) [a,b] [] pos) (fun env=>(fs env).bind Q5) :=
 .mk (Z1z hg hm ha hs hs2) fun σ H R ⟨env,F,ds,ok,e,q⟩=>by
  cases h1:fs env with
  | none=>simp only [h1] at e;cases e
  | some xs =>
   simp only [h1,Qbc] at e;unfold Q5 at e;split at e
   .rename_i i j;split at e
    .rename_i hj;cases e;refine⟨env,F,_,ok,h1,fun vs H' fp s r c=>?_⟩;obtain⟨v,v',f,f',rfl,r1,r2,rfl⟩:=Z0q r;rw [bG r1,bG r2];exact⟨i,j,rfl,hj,q _ H' [] s (tZ i _) (fun b hb=>(by cases hb)) .nil⟩
    .cases e
   .cases e
def A1:Ab D->Aa (Ab D)
 | [.lst ds]=>some (ds.mapIdx fun i d=>.tup [.int i,d])
 | _=>none
theorem Z4Z (hg:Gl X "enumerate") (hm:X.mg "enumerate" = none) (ha:QA X m1 rs [a] fs) (hs:starEach [a] X.env=[(false,eval a X.env)]:=by rfl):QI X (.Tuple elts k1 tpos) rs (.Call (.Name "enumerate" p) [a] [] pos) (fun env=>(fs env).bind A1) :=
 .mk (Z5i hg hm ha hs) fun σ H R ⟨env,F,ds,ok,e,q⟩=>by
  cases h1:fs env with
  | none=>simp only [h1] at e;cases e
  | some xs =>
   simp only [h1,Qbc] at e;unfold A1 at e;split at e
   .cases e;refine⟨env,F,_,ok,h1,fun vs H' fp s r c=>?_⟩;obtain⟨v,rfl,r1⟩:=iO r;have r0:=Rep.weak _ _ _ r1;have dm:=Rep.dom _ _ _ r1;obtain⟨p,ws,fp',rfl,hsq,hr,hsub⟩:=bX r1;exact⟨p,rfl,⟨ws,hsq⟩,q _ H' fp s (Z0 r0) dm ⟨c.1,fun z=>(by cases z)⟩⟩
   .cases e
def dD (fc:En->Aa Bool) (fe:En->Aa D) (env:En):Ab D->Aa (Ab D)
 | []=>some []
 | d :: r=>match fc (some (false,d) :: env) with
  | some true=>match fe (some (false,d) :: env),dD fc fe env r with
   | some y,some ys=>some (y :: ys)
   | _,_=>none
  | some false=>dD fc fe env r
  | none=>none
def kW (fr:Ab Nat) (env:En):En:=fr.map fun j=>(env[j]?).join
def bL (fr:Ab Nat) (src:En->Aa (Ab D)) (fc:En->Aa Bool) (fe:En->Aa D):En->Aa D:=fun env=>match src env with
 | some ds=>if ds.length <= 1000 then (dD fc fe (kW fr env) ds).map .lst else none
 | none=>none
def fTT:En->Aa Bool:=fun _=>some true
theorem lZ:∀ {ds:Ab D}{ys:Ab D}{i:Nat}{d:D}{zs:Ab D},ds[i]? = some d->dD fc fe env ds=some ys->dD fc fe env (ds.take i)=some zs ->
  (fc (some (false,d) :: env)=some true /\ ∃ y,fe (some (false,d) :: env)=some y /\ dD fc fe env (ds.take (i + 1))=some (zs ++ [y])) \/ (fc (some (false,d) :: env)=some false /\ dD fc fe env (ds.take (i + 1))=some zs)
 | [],ys,i,d,zs,h,_,_=>by simp at h
 | d' :: ds,ys,0,d,zs,h,h1,h2=>by
  simp at h;subst h;simp only [Qbt,dD] at h2;cases h2;unfold dD at h1;simp only [Qa6,QbH,Qbt,dD];split at h1
  .rename_i hc;split at h1
   .rename_i y ys' e1 e2;exact .inl ⟨hc,y,e1,by simp [hc,e1]⟩
   .cases h1
  .rename_i hc;exact .inr ⟨hc,by simp [hc]⟩
  .cases h1
 | d' :: ds,ys,i + 1,d,zs,h,h1,h2=>by
  have h':ds[i]? = some d:=by simpa using h
  unfold dD at h1;simp only [QbH] at h2 ⊢;unfold dD at h2;split at h1
  .rename_i hc;split at h1
   .rename_i y ys' e1 e2;simp only [hc,e1] at h2;cases h3:dD fc fe env (ds.take i) with
    | none=>rw [h3] at h2;cases h2
    | some z' =>
     rw [h3] at h2;cases h2;rcases lZ h' e2 h3 with ⟨a1,y',a2,a3⟩ | ⟨a1,a2⟩
     .exact .inl ⟨a1,y',a2,by unfold dD;simp [hc,e1,a3]⟩
     .exact .inr ⟨a1,by unfold dD;simp [hc,e1,a2]⟩
   .cases h1
  .rename_i hc;simp only [hc] at h2;rcases lZ h' h1 h2 with ⟨a1,y',a2,a3⟩ | ⟨a1,a2⟩
   .exact .inl ⟨a1,y',a2,by unfold dD;simp [hc,a3]⟩
   .exact .inr ⟨a1,by unfold dD;simp [hc,a2]⟩
  .cases h1
theorem oB:∀ {ds ys:Ab D},dD fc fe env ds=some ys->ys.length <= ds.length
 | [],ys,h=>by simp only [dD] at h;cases h;exact Qag _
 | d :: ds,ys,h=>by
  unfold dD at h;split at h
  .split at h
   .rename_i y ys' e1 e2;cases h;simp only [Qal];exact Nat.succ_le_succ (oB e2)
   .cases h
  .exact Nat.le_succ_of_le (oB h)
  .cases h
theorem Z4g {K:Frag}{H:Hp}{σ:L2.St}{env:En}{F:Nat->Ab Af}{fr:Ab Nat}{d:D}{v:V}{f:Ab Af}(ok:EnvOk K H σ env F) (r:Rep K false H d v f) :
  ∃ F',EnvOk K H ((iR 1 fr σ).set 0 (some v)) (some (false,d) :: kW fr env) F':=by
 refine⟨fun i=>match i with | 0=>f | i + 1=>F (fr.getD i 0),fun i o d' e=>?_⟩
 cases i with
 | zero =>
  simp at e;obtain⟨_,rfl⟩:=e;exact⟨v,by simp [iR],r⟩
 | succ i =>
  simp only [Qap,kW,Qas] at e;cases hj:fr[i]? with
  | none=>rw [hj] at e;cases e
  | some j =>
   rw [hj] at e;simp only [Option.map_some,Qba] at e;cases hq:env[j]? with
   | none=>rw [hq] at e;cases e
   | some s =>
    rw [hq] at e;simp only [Qaq] at e;subst e;obtain⟨w,h1,h2⟩:=ok j o d' hq;refine⟨w,?_,?_⟩
    .simp [iR,hj,h1]
    .have:fr.getD i 0=j:=by simp [List.getD,hj]
     simp only [this];exact h2
def QTs (X:Cx) (ifs:Ab Ag) (f:En->Aa Bool):Prop:=PTs X ifs (tDT X.K f)
theorem dF:QTs X [] fTT:=fun pins s σ H Q I ⟨env,F,b,ok,e,q⟩=>Z58 pins s σ H Q I (by cases e;exact q H (Same.refl H))
theorem nK (h:QT X c g):QTs X [c] g:=fun pins s σ H Q I q=>Z57 h pins s σ H Q I q
theorem zS {K:Frag}{σ:L2.St}{H:Hp}{Q:VK}(h:tD K true [] (bL fr src fc fe) σ H Q) :
  Z0j (tDI K rs src) 1 fr (zO 0) (tDT K fc) (tD K true [] fe) σ H Q:=by
 obtain⟨env,F,d,ok,e,q⟩:=h;unfold bL at e;cases h1:src env with
 | none=>rw [h1] at e;cases e
 | some ds =>
  rw [h1] at e;simp only at e;split at e
  .rename_i hlen;cases h2:dD fc fe (kW fr env) ds with
   | none=>rw [h2] at e;cases e
   | some ys =>
    rw [h2] at e;cases e;refine⟨env,F,ds,ok,h1,fun J H1 fp s1 gv dm cd=>?_⟩;intro acc hacc;refine⟨fun i k vs H2=>i <= ds.length /\ k=ds.length - i /\ H2 acc=some (.lst vs) /\ Same H1 H2 /\ ∃ zs f,dD fc fe (kW fr env) (ds.take i)=some zs /\ Reps K true H2 zs vs f /\ f.Nodup /\ (∀ b ∈ f,H1 b=none) /\ acc ∉ f,
     ⟨ds.length,Qbm _,rfl,bE,bV hacc,[],[],by simp [dD],by simp only [Reps];exact⟨trivial,trivial⟩,QaQ,fun b hb=>(by cases hb),by simp⟩,?_⟩
    rintro i k vs H2 ⟨hi,hk,ha,sm,zs,f,hz,hr,nd,hfr,hna⟩;refine⟨ha,?_⟩;have gi:=gv H2 (Kp.same sm fp) i;by_cases hlt:i < ds.length
    .right;have hd:ds[i]? = some ds[i]:=Qad hlt;obtain⟨go,hy⟩:=gi.1 _ hd;refine⟨go,fun x H3 y3=>?_⟩;obtain⟨sm3,f3,r3,_⟩:=hy x H3 y3;refine⟨⟨by simp [iR],by simp [iR]⟩,?_⟩;have ok3:EnvOk K H3 σ env F:=ok.same ((s1.trans sm).trans sm3);obtain⟨F',okin⟩:=Z4g (fr:=fr) ok3 r3;rcases lZ hd h2 hz with ⟨c1,y',c2,c3⟩ | ⟨c1,c2⟩
     .refine⟨_,F',true,okin,c1,fun H4 s4=>Z21 ⟨_,F',y',okin.same s4,c2,fun v H5 fp5 s5 r5 c5=>?_⟩⟩;have s25:Same H2 H5:=(sm3.trans s4).trans s5;have s35:Same H4 H5:=s5;have ha5:H5 acc=some (.lst vs):=s25 _ _ ha;have hna5:acc ∉ fp5:=fun z=>by
       have:=(c5.2 rfl).2 acc z;rw [(sm3.trans s4) _ _ ha] at this;cases this
      have lv:vs.length < 1000:=by
       have:=oB hz;have h4:=hr.length;rw [Qav] at this;omega
      refine⟨vs,ha5,iU (Qbd lv),ds.length - (i + 1),by omega,hlt,rfl,bE,?_,zs ++ [y'],f ++ fp5,c3,?_,?_,?_,?_⟩
      .intro b o hb;have hba:b ≠ acc:=aU hb hacc;rw [aT hba];exact s25 _ _ (sm _ _ hb)
      .have e1:=Reps.keep _ _ _ (Kp.upd (o':=.lst (vs ++ [v])) ha5 (by intro xs z;cases z) (by intro a b z;cases z) hna) (hr.same s25);have e2:=Rep.keep _ _ _ (Kp.upd (o':=.lst (vs ++ [v])) ha5 (by intro xs z;cases z) (by intro a b z;cases z) hna5) r5;exact e1.snoc e2
      .refine QaT.mpr ⟨nd,(c5.2 rfl).1,fun a ha' b hb z=>?_⟩;obtain⟨o,ho⟩:=Reps.dom _ _ _ hr a ha';have:=(c5.2 rfl).2 b hb;rw [<- z,(sm3.trans s4) _ _ ho] at this;cases this
      .intro b hb;rcases Qai.mp hb with z | z
       .exact hfr b z
       .exact ((sm.trans sm3).trans s4).free ((c5.2 rfl).2 b z)
      .intro z;rcases Qai.mp z with z | z
       .exact hna z
       .exact hna5 z
     .refine⟨_,F',false,okin,c1,fun H4 s4=>Z22 ⟨ds.length - (i + 1),vs,by omega,hlt,rfl,(sm3.trans s4) _ _ ha,(sm.trans sm3).trans s4,zs,f,c2,hr.same (sm3.trans s4),nd,hfr,hna⟩⟩
    .left;have hi':i=ds.length:=by omega
     refine⟨gi.2 (by omega),?_⟩;have hz':dD fc fe (kW fr env) ds=some zs:=by rw [hi',QaR] at hz;exact hz
     rw [h2] at hz';cases hz';refine q _ H2 (acc :: f) (s1.trans sm) ?_ ⟨fun b hb=>?_,fun _=>⟨QaO.mpr ⟨hna,nd⟩,fun b hb=>?_⟩⟩
     .simp only [Rep];exact⟨acc,vs,f,rfl,hr,.inl ⟨rfl,ha⟩⟩
     .rcases Qaf.mp hb with z | z
      .exact .inl (by rw [z];exact s1.free hacc)
      .exact .inl (s1.free (hfr b z))
     .rcases Qaf.mp hb with z | z
      .rw [z];exact s1.free hacc
      .exact s1.free (hfr b z)
  .cases e
theorem dS (hc:X.calm=true) (chk:gB X.env.scope X.N scope fr=true) (hi:QI X (.Name x px) rs iter src)
  (hnd:(eD [x] fr X.N).Nodup) (hx:scope.names.lookup x=some .local)
  (ht:∀ cl C s0 H0 ex pins,QTs (eQ X (eD [x] fr X.N) scope cl C s0 H0 ex pins) ifs fc)
  (he:∀ cl C s0 H0 ex pins,QE (eQ X (eD [x] fr X.N) scope cl C s0 H0 ex pins) true [] elt fe)
  (hs:∀ x,foldedSetIterable iter X.env x=pure x:=by intro _;rfl) :
  QE X true [] (.ListComp elt [⟨.Name x px,iter,ifs,0⟩] scope pos) (bL fr src fc fe) :=
 .mk (Z0D (tgs:=[x]) (tt:=tDT X.K fc) (te:=tD X.K true [] fe) hc chk hi (fun cl C s0 H0 ex pins=>dG (i:=0) hnd rfl (.inl (lookup_relabel_local hx)) (.inr (lookup_relabel_local hx))) ht he hs) fun σ H Q h=>zS h
structure EnvS (K:Frag) (P H:Hp) (σ:L2.St) (env:En) (F:Nat->List Addr):Prop where
 ok:EnvOk K H σ env F
 own:∀ i d,env[i]? = some (some (true,d))->(F i).Nodup /\ (∀ b ∈ F i,P b=none) /\ (∀ v,σ[i]? = some (some v)->Rep K true H d v (F i)) /\ ∀ j s,j ≠ i->env[j]? = some (some s)->∀ b ∈ F i,b ∉ F j
structure SInv (K:Frag) (P H:Hp) (σ:L2.St) (env:En):Prop where
 same:Same P H
 len:σ.length=env.length
 ex:∃ F,EnvS K P H σ env F
theorem EnvS.dom {K:Frag}(h:EnvS K P H σ env F) {i:Nat}{s:Bool × D}(e:env[i]? = some (some s)):∀ b ∈ F i,∃ o,H b=some o:=by
 obtain⟨o,d⟩:=s;obtain⟨v,_,r⟩:=h.ok i o d e;exact Rep.dom _ _ _ r
theorem EnvS.grow {K:Frag}(h:EnvS K P H σ env F) (s:Same H H'):EnvS K P H' σ env F :=
 ⟨h.ok.same s,fun i d e=>let ⟨a,b,c,q⟩:=h.own i d e;⟨a,b,fun v hv=>(c v hv).same s,q⟩⟩
theorem SInv.grow {K:Frag}(h:SInv K P H σ env) (s:Same H H'):SInv K P H' σ env :=
 ⟨h.same.trans s,h.len,let ⟨F,hF⟩:=h.ex;⟨F,hF.grow s⟩⟩
inductive Res where
 | next (env:En) | ret (d:D) | brk (env:En) | cont (env:En) | bad
def Z7B (K:Frag) (P:Hp) (E:Z2s):Res->Prop
 | .next env=>∀ σ H,SInv K P H σ env->E.nx σ H
 | .ret d=>∀ v H fp,Same P H->Rep K true H d v fp->(∀ b ∈ fp,P b=none)->fp.Nodup->E.rt v H
 | .brk env=>∀ σ H,SInv K P H σ env->E.bk σ H
 | .cont env=>∀ σ H,SInv K P H σ env->E.ct σ H
 | .bad=>False
def tDS (K:Frag) (g:En->Res):TS:=fun E σ H=>∃ P env,SInv K P H σ env /\ Z7B K P E (g env)
def QS (X:Cx) (st:Stmt) (g:En->Res):Prop:=PS X st (tDS X.K g)
def QSs (X:Cx) (st:Ab Stmt) (g:En->Res):Prop:=PSs X st (tDS X.K g)
theorem QS.mk {st:Stmt}(h:PS X st t) (hi:∀ E σ H,tDS X.K g E σ H->t E σ H):QS X st g:=fun pins s σ H E I q=>h pins s σ H E I (hi E σ H q)
theorem QSs.mk {st:Ab Stmt}(h:PSs X st t) (hi:∀ E σ H,tDS X.K g E σ H->t E σ H):QSs X st g:=fun pins s σ H E I q=>h pins s σ H E I (hi E σ H q)
def lX (F:Nat->Ab Af) (i:Nat) (f:Ab Af):Nat->Ab Af:=fun j=>if j=i then f else F j
theorem bN:lX F i f i=f:=if_pos rfl
theorem aZ (h:j ≠ i):lX F i f j=F j:=if_neg h
theorem dW {l:Ab α}(h:i < l.length):(l.set i x)[j]? = if j=i then some x else l[j]?:=by
 by_cases e:j=i
 .subst e;rw [if_pos rfl,QaZ h]
 .rw [if_neg e,Qay (Ne.symm e)]
theorem yN {K:Frag}{P H H':Hp}(i:Nat) (sm:Same P H) (hl:σ.length=env.length) (h:EnvS K P H σ env F) (s:Same H H') (r:Rep K true H' d v fp) (nd:fp.Nodup) (fr:∀ b ∈ fp,H b=none) :
  SInv K P H' (σ.set i (some v)) (env.set i (some (true,d))):=by
 refine⟨sm.trans s,by simp [hl],lX F i fp,?_,?_⟩
 .intro j o d' e;by_cases hi:i < env.length
  .rw [dW hi] at e;by_cases hj:j=i
   .subst hj;rw [if_pos rfl] at e;cases e;exact⟨v,QaZ (by omega),by rw [bN];exact Rep.weak _ _ _ r⟩
   .rw [if_neg hj] at e;obtain⟨w,h1,h2⟩:=h.ok j o d' e;exact⟨w,by rw [Qay (Ne.symm hj)];exact h1,by rw [aZ hj];exact h2.same s⟩
  .rw [Qa0 (by omega)] at e;have hj:j ≠ i:=fun z=>by rw [z,Qaw (by omega)] at e;cases e
   obtain⟨w,h1,h2⟩:=h.ok j o d' e;exact⟨w,by rw [Qay (Ne.symm hj)];exact h1,by rw [aZ hj];exact h2.same s⟩
 .intro j d' e;by_cases hi:i < env.length
  .rw [dW hi] at e;by_cases hj:j=i
   .subst hj;rw [if_pos rfl] at e;cases e;refine⟨by rw [bN];exact nd,fun b hb=>?_,fun w hw=>?_,fun k s' hk ek b hb=>?_⟩
    .rw [bN] at hb;cases hP:P b with
     | none=>rfl
     | some o=>have:=sm _ _ hP;rw [fr b hb] at this;cases this
    .rw [QaZ (by omega)] at hw;cases hw;rw [bN];exact r
    .rw [bN] at hb;rw [aZ hk];rw [dW hi,if_neg hk] at ek;intro z;obtain⟨o,ho⟩:=h.dom ek b z;rw [fr b hb] at ho;cases ho
   .rw [if_neg hj] at e;obtain⟨a1,a2,a3,a4⟩:=h.own j d' e;refine⟨by rw [aZ hj];exact a1,fun b hb=>a2 b (by rw [aZ hj] at hb;exact hb),fun w hw=>?_,fun k s' hk ek b hb=>?_⟩
    .rw [Qay (Ne.symm hj)] at hw;rw [aZ hj];exact (a3 w hw).same s
    .rw [aZ hj] at hb;rw [dW hi] at ek;by_cases hki:k=i
     .subst hki;rw [bN];intro z;obtain⟨o,ho⟩:=h.dom e b hb;rw [fr b z] at ho;cases ho
     .rw [if_neg hki] at ek;rw [aZ hki];exact a4 k s' hk ek b hb
  .rw [Qa0 (by omega)] at e;have hj:j ≠ i:=fun z=>by rw [z,Qaw (by omega)] at e;cases e
   obtain⟨a1,a2,a3,a4⟩:=h.own j d' e;refine⟨by rw [aZ hj];exact a1,fun b hb=>a2 b (by rw [aZ hj] at hb;exact hb),fun w hw=>?_,fun k s' hk ek b hb=>?_⟩
   .rw [Qay (Ne.symm hj)] at hw;rw [aZ hj];exact (a3 w hw).same s
   .rw [aZ hj] at hb;rw [Qa0 (by omega)] at ek;have hki:k ≠ i:=fun z=>by rw [z,Qaw (by omega)] at ek;cases ek
    rw [aZ hki];exact a4 k s' hk ek b hb
theorem Z2D {K:Frag}{P H H':Hp}(i:Nat) (sm:Same P H) (hl:σ.length=env.length) (h:EnvS K P H σ env F) (s:Same H H') (r:Rep K false H' d v fp)
  (fr:∀ j d',env[j]? = some (some (true,d'))->∀ b ∈ F j,b ∉ fp):SInv K P H' (σ.set i (some v)) (env.set i (some (false,d))):=by
 refine⟨sm.trans s,by simp [hl],lX F i fp,?_,?_⟩
 .intro j o d' e;by_cases hi:i < env.length
  .rw [dW hi] at e;by_cases hj:j=i
   .subst hj;rw [if_pos rfl] at e;cases e;exact⟨v,QaZ (by omega),by rw [bN];exact r⟩
   .rw [if_neg hj] at e;obtain⟨w,h1,h2⟩:=h.ok j o d' e;exact⟨w,by rw [Qay (Ne.symm hj)];exact h1,by rw [aZ hj];exact h2.same s⟩
  .rw [Qa0 (by omega)] at e;have hj:j ≠ i:=fun z=>by rw [z,Qaw (by omega)] at e;cases e
   obtain⟨w,h1,h2⟩:=h.ok j o d' e;exact⟨w,by rw [Qay (Ne.symm hj)];exact h1,by rw [aZ hj];exact h2.same s⟩
 .intro j d' e;have hji:j ≠ i:=by
   rintro rfl;by_cases hi:j < env.length
   .rw [dW hi,if_pos rfl] at e;cases e
   .rw [Qa0 (by omega),Qaw (by omega)] at e;cases e
  rw [Qay (Ne.symm hji)] at e;obtain⟨a1,a2,a3,a4⟩:=h.own j d' e;refine⟨by rw [aZ hji];exact a1,fun b hb=>a2 b (by rw [aZ hji] at hb;exact hb),fun w hw=>?_,fun k s' hk ek b hb=>?_⟩
  .rw [Qay (Ne.symm hji)] at hw;rw [aZ hji];exact (a3 w hw).same s
  .rw [aZ hji] at hb;by_cases hki:k=i
   .subst hki;rw [bN];exact fr j d' e b hb
   .rw [Qay (Ne.symm hki)] at ek;rw [aZ hki];exact a4 k s' hk ek b hb
def fz1 (r:Nat) (env:En):En:=match env[r]? with
 | some (some (_,d))=>env.set r (some (false,d))
 | _=>env
def fz:Ab Nat->En->En
 | [],env=>env
 | r :: rs,env=>fz rs (fz1 r env)
theorem Z5X:(fz1 r env).length=env.length:=by
 unfold fz1;split <;> simp
theorem Z0P:(fz1 r env)[j]? = if j=r then (env[j]?).map (Option.map fun p=>(false,p.2)) else env[j]?:=by
 unfold fz1;split
 .rename_i o d h;have hr:r < env.length:=(Qac.mp h).1;rw [dW hr];by_cases hj:j=r
  .subst hj;simp [h]
  .simp [hj]
 .rename_i h;by_cases hj:j=r
  .subst hj;rw [if_pos rfl];cases h1:env[j]? with
   | none=>rfl
   | some o =>
    cases o with
    | none=>rfl
    | some p=>exact absurd h1 (h p.1 p.2)
  .rw [if_neg hj]
theorem EnvS.fz1 {K:Frag}(r:Nat) (h:EnvS K P H σ env F):EnvS K P H σ (PD.fz1 r env) F:=by
 have back:∀ {j:Nat}{o:Bool}{d:D},(PD.fz1 r env)[j]? = some (some (o,d))->∃ o',env[j]? = some (some (o',d)) /\ (j=r->o=false) /\ (j ≠ r->o'=o):=by
  intro j o d e;rw [Z0P] at e;by_cases hj:j=r
  .rw [if_pos hj] at e;cases h1:env[j]? with
   | none=>rw [h1] at e;cases e
   | some s =>
    cases s with
    | none=>rw [h1] at e;cases e
    | some p =>
     rw [h1] at e;cases e;exact⟨p.1,rfl,fun _=>rfl,fun z=>absurd hj z⟩
  .rw [if_neg hj] at e;exact⟨o,e,fun z=>absurd z hj,fun _=>rfl⟩
 refine⟨fun j o d e=>?_,fun j d e=>?_⟩
 .obtain⟨o',h1,_⟩:=back e;exact h.ok j o' d h1
 .obtain⟨o',h1,h2,h3⟩:=back e;have hj:j ≠ r:=fun z=>by cases h2 z
  have:=h3 hj;subst this;obtain⟨a1,a2,a3,a4⟩:=h.own j d h1;refine⟨a1,a2,a3,fun k s hk ek b hb=>?_⟩;obtain⟨o2,d2⟩:=s;obtain⟨o3,h4,_⟩:=back ek;exact a4 k _ hk h4 b hb
theorem EnvS.fz {K:Frag}:∀ (rs:Ab Nat) {env:En},EnvS K P H σ env F->EnvS K P H σ (PD.fz rs env) F
 | [],_,h=>h
 | r :: rs,_,h=>EnvS.fz rs (h.fz1 r)
theorem Z4:∀ (rs:Ab Nat) {env:En},(fz rs env).length=env.length
 | [],_=>rfl
 | r :: rs,env=>by show (fz rs (fz1 r env)).length=_;rw [Z4 rs,Z5X]
theorem Z48:∀ (rs:Ab Nat) {env:En}{j:Nat}{d:D},(fz rs env)[j]? = some (some (true,d))->j ∉ rs /\ env[j]? = some (some (true,d))
 | [],env,j,d,e=>⟨by simp,e⟩
 | r :: rs,env,j,d,e=>by
  obtain⟨h1,h2⟩:=Z48 rs (env:=fz1 r env) e;rw [Z0P] at h2;by_cases hj:j=r
  .rw [if_pos hj] at h2;cases h3:env[j]? with
   | none=>rw [h3] at h2;cases h2
   | some s =>
    cases s with
    | none=>rw [h3] at h2;cases h2
    | some p=>rw [h3] at h2;cases h2
  .rw [if_neg hj] at h2;exact⟨by simp [hj,h1],h2⟩
def nrm (env:En) (F:Nat->Ab Af):Nat->Ab Af:=fun i=>match env[i]? with | some (some _)=>F i | _=>[]
theorem wI (h:env[i]? = some (some s)):nrm env F i=F i:=by unfold nrm;rw [h]
theorem Z5w (h:b ∈ nrm env F i):∃ s,env[i]? = some (some s):=by
 unfold nrm at h;split at h
 .rename_i s e;exact⟨s,e⟩
 .cases h
theorem EnvS.nrm {K:Frag}(h:EnvS K P H σ env F):EnvS K P H σ env (PD.nrm env F):=by
 refine⟨fun i o d e=>by rw [wI e];exact h.ok i o d e,fun i d e=>?_⟩;obtain⟨a1,a2,a3,a4⟩:=h.own i d e;rw [wI e];exact⟨a1,a2,a3,fun j s hj ej=>by rw [wI ej];exact a4 j s hj ej⟩
section
variable {X:Cx}{m m1 m2:Bool}{rs rs1 rs2:Ab Nat}{e a b c:Ag}{f fc:En->Aa D}{c':En->Aa Bool}{pos p pos':Pos}{st:Stmt}{sts:Ab Stmt}{g h:En->Res}{i:Nat}{x:Str}
def aR (g h:En->Res):En->Res:=fun env=>match g env with
 | .next env'=>h env'
 | r=>r
def bQ:En->Res:=.next
theorem aV:QSs X [] bQ:=.mk Z5a fun E σ H ⟨P,env,I,q⟩=>q σ H I
theorem aE (h1:QS X st g) (h2:QSs X sts h):QSs X (st :: sts) (aR g h):=.mk (wB h1 h2) fun E σ H ⟨P,env,I,q⟩=>by
 refine⟨P,env,I,?_⟩;unfold aR at q;cases hg:g env with
 | next env'=>rw [hg] at q;exact fun σ' H' I'=>⟨P,env',I',q⟩
 | ret d=>rw [hg] at q;exact q
 | brk _=>rw [hg] at q;exact q
 | cont _=>rw [hg] at q;exact q
 | bad=>rw [hg] at q;exact q
theorem aF (h1:QS X st g):QSs X [st] g:=.mk (Z0z h1) fun E σ H q=>q
def rIf (c:En->Aa Bool) (g h:En->Res):En->Res:=fun env=>match c env with
 | some true=>g env
 | some false=>h env
 | none=>.bad
theorem bT (hc:QT X c c') (ha:QSs X sa g) (hb:QSs X sb h):QS X (.If c sa sb pos) (rIf c' g h):=.mk (Z8q hc ha hb) fun E σ H ⟨P,env,I,q⟩=>by
 obtain⟨F,hF⟩:=I.ex;unfold rIf at q;split at q
 .rename_i h1;exact⟨env,F,true,hF.ok,h1,fun H' s=>Z21 ⟨P,env,I.grow s,q⟩⟩
 .rename_i h1;exact⟨env,F,false,hF.ok,h1,fun H' s=>Z22 ⟨P,env,I.grow s,q⟩⟩
 .exact q.elim
def bF (f:En->Aa D):En->Res:=fun env=>match f env with
 | some d=>.ret d
 | none=>.bad
theorem aN (he:QE X true [] e f):QS X (.Return (some e) pos) (bF f):=.mk (V4 he) fun E σ H ⟨P,env,I,q⟩=>by
 obtain⟨F,hF⟩:=I.ex;unfold bF at q;split at q
 .rename_i d h1;refine⟨env,F,d,hF.ok,h1,fun v H' fp s r c=>q v H' fp (I.same.trans s) r (fun b hb=>?_) (c.2 rfl).1⟩;cases hP:P b with
  | none=>rfl
  | some o=>have:=I.same _ _ hP;rw [(c.2 rfl).2 b hb] at this;cases this
 .exact q.elim
theorem iB (hN:X.N[i]? = some x:=by rfl) (hv:Vis X.env.scope x:=by first | exact Or.inl rfl | exact Or.inr (Or.inl rfl) | exact Or.inr (Or.inr rfl)) (hd:(x == ("__debug__" : Str))=false:=by decide) (hcd:(x == ("__classdict__" : Str))=false:=by decide) :
  QS X (.Return (some (.Name x p)) pos) (fun env=>match env[i]? with | some (some (true,d))=>.ret d | _=>.bad):=.mk (V4 (lL hN hv hd hcd)) fun E σ H ⟨P,env,I,q⟩=>by
 obtain⟨F,hF⟩:=I.ex;simp only at q;split at q
 .rename_i d h1;obtain⟨v,h2,_⟩:=hF.ok i true d h1;obtain⟨a1,a2,a3,_⟩:=hF.own i d h1;exact⟨v,h2,q v H _ I.same (a3 v h2) a2 a1⟩
 .exact q.elim
def bP (i:Nat) (f:En->Aa D):En->Res:=fun env=>match f env with
 | some d=>.next (env.set i (some (true,d)))
 | none=>.bad
theorem sJ {K:Frag}(h:tDS K (bP i f) E σ H):Z19 (tD K true [] f) (zO i) E σ H:=by
 obtain⟨P,env,I,q⟩:=h;obtain⟨F,hF⟩:=I.ex;unfold bP at q;split at q
 .rename_i d h1;exact⟨env,F,d,hF.ok,h1,fun v H' fp s r c=>q _ H' (yN i I.same I.len hF s r (c.2 rfl).1 (c.2 rfl).2)⟩
 .exact q.elim
theorem Z6U (hN:X.N.Nodup) (hi:X.N[i]? = some x) (hx:Loc X.env.scope x) (he:QE X true [] e f) (hs:swapsWith e (some (.Name x pos')) pos.line X.env=pure false:=by rfl) (hf:X.fn x=true \/ X.env.scope.names.lookup x=some .local:=by first | exact .inl rfl | exact .inr rfl | assumption) :
  QS X (.Assign [.Name x pos'] e pos) (bP i f):=.mk (Z3g hN hi hx he hs hf) fun E σ H q=>sJ q
theorem lH {fc:En->Aa Bool}
  (hc:X.calm=true) (hN:X.N.Nodup) (hi':X.N[i]? = some x) (hx':Loc X.env.scope x) (chk:gB X.env.scope X.N scope fr=true) (hi:QI X (.Name y px) rs iter src)
  (hnd:(eD [y] fr X.N).Nodup) (hx:scope.names.lookup y=some .local)
  (ht:∀ cl C s0 H0 ex pins,QTs (eQ X (eD [y] fr X.N) scope cl C s0 H0 ex pins) ifs fc)
  (he:∀ cl C s0 H0 ex pins,QE (eQ X (eD [y] fr X.N) scope cl C s0 H0 ex pins) true [] elt fe)
  (hsw:swapsWith (.ListComp elt [⟨.Name y px,iter,ifs,0⟩] scope pos) (some (.Name x pos')) spos.line X.env=pure true:=by rfl)
  (hf:X.fn x=true \/ X.env.scope.names.lookup x=some .local:=by first | exact .inl rfl | exact .inr rfl | assumption)
  (hs:∀ x,foldedSetIterable iter X.env x=pure x:=by intro _;rfl) :
  QS X (.Assign [.Name x pos'] (.ListComp elt [⟨.Name y px,iter,ifs,0⟩] scope pos) spos) (bP i (bL fr src fc fe)) :=
 .mk (wC (tgs:=[y]) (tt:=tDT X.K fc) (te:=tD X.K true [] fe) hc hN hi' hx' chk hi (fun cl C s0 H0 ex pins=>dG (i:=0) hnd rfl (.inl (lookup_relabel_local hx)) (.inr (lookup_relabel_local hx))) ht he hsw hf hs)
  fun E σ H q=>zS (sJ q)
theorem K3 {K:Frag}(hF:EnvS K P H σ env F) (c:Cond (nrm env F) H m rs fp):∀ j d',(fz rs env)[j]? = some (some (true,d'))->∀ b ∈ nrm env F j,b ∉ fp:=by
 intro j d' e b hb z;obtain⟨h1,h2⟩:=Z48 rs e;rcases c.1 b z with y | ⟨r,hr,y⟩
 .obtain⟨o,ho⟩:=hF.nrm.dom h2 b hb;rw [y] at ho;cases ho
 .obtain⟨s,hs⟩:=Z5w y;exact (hF.nrm.own j d' h2).2.2.2 r s (fun z=>h1 (z ▸ hr)) hs b hb y
def iG (i:Nat) (f:En->Aa D):En->Res:=fun env=>match f env,env[i]? with
 | some d,some (some (true,.lst ds))=>if ds.length <= 1000 then .next (env.set i (some (true,.lst (ds ++ [d])))) else .bad
 | _,_=>.bad
theorem yI {K:Frag}{a:Af}(sm:Same P H) (hl:σ.length=env.length) (h:EnvS K P H σ env F) (ei:env[i]? = some (some (true,.lst ds)))
  (hv:σ[i]? = some (some (.ref a))) (hF:F i=a :: fp') (ha:H a=some (.lst vs)) (r:Reps K true H ds' vs' fp2) (nd:(a :: fp2).Nodup) (hn:∀ b ∈ fp2,b ∈ fp' \/ (P b=none /\ ∀ j s,env[j]? = some (some s)->b ∉ F j)) :
  SInv K P (upd H a (.lst vs')) σ (env.set i (some (true,.lst ds'))):=by
 have hi:i < env.length:=(Qac.mp ei).1;obtain⟨o1,o2,o3,o4⟩:=h.own i _ ei;have ha0:a ∈ F i:=by rw [hF];exact Qau
 have kp:∀ {fp:Ab Af},a ∉ fp->Kp fp H (upd H a (.lst vs')):=fun hn=>Kp.upd ha (by intro xs z;cases z) (by intro x u z;cases z) hn;have na:a ∉ fp2:=(QaO.mp nd).1;have new:∀ st,Rep K st (upd H a (.lst vs')) (.lst ds') (.ref a) (a :: fp2):=fun st=>by
  have r':=Reps.keep _ _ _ (kp na) r;cases st with
  | true=>simp only [Rep];exact⟨a,vs',fp2,rfl,r',.inl ⟨rfl,bE⟩⟩
  | false=>simp only [Rep];exact⟨a,vs',fp2,rfl,Reps.weak _ _ _ r',.inl ⟨rfl,bE⟩⟩
 refine⟨fun b o e=>?_,by simp [hl],lX F i (a :: fp2),fun j o d e=>?_,fun j d e=>?_⟩
 .have:b ≠ a:=fun z=>by have:=o2 a ha0;rw [z,this] at e;cases e
  rw [aT this];exact sm _ _ e
 .rw [dW hi] at e;by_cases hj:j=i
  .subst hj;rw [if_pos rfl] at e;cases e;exact⟨_,hv,by rw [bN];exact new false⟩
  .rw [if_neg hj] at e;obtain⟨w,h1,h2⟩:=h.ok j o d e;exact⟨w,h1,by rw [aZ hj];exact Rep.keep _ _ _ (kp (o4 j _ hj e a ha0)) h2⟩
 .rw [dW hi] at e;by_cases hj:j=i
  .subst hj;rw [if_pos rfl] at e;cases e;refine⟨by rw [bN];exact nd,fun b hb=>?_,fun w hw=>?_,fun k s hk ek b hb=>?_⟩
   .rw [bN] at hb;rcases Qaf.mp hb with z | z
    .rw [z];exact o2 a ha0
    .rcases hn b z with y | y
     .exact o2 b (by rw [hF];exact Qae _ y)
     .exact y.1
   .rw [hv] at hw;cases hw;rw [bN];exact new true
   .rw [bN] at hb;rw [aZ hk];rw [dW hi,if_neg hk] at ek;rcases Qaf.mp hb with z | z
    .rw [z];exact o4 k s hk ek a ha0
    .rcases hn b z with y | y
     .exact o4 k s hk ek b (by rw [hF];exact Qae _ y)
     .exact y.2 k s ek
  .rw [if_neg hj] at e;obtain⟨a1,a2,a3,a4⟩:=h.own j d e;refine⟨by rw [aZ hj];exact a1,fun b hb=>a2 b (by rw [aZ hj] at hb;exact hb),fun w hw=>by rw [aZ hj];exact Rep.keep _ _ _ (kp (o4 j _ hj e a ha0)) (a3 w hw),fun k s hk ek b hb=>?_⟩;rw [aZ hj] at hb;rw [dW hi] at ek;by_cases hki:k=i
   .subst hki;rw [bN];intro z;rcases Qaf.mp z with z | z
    .exact a4 k _ hk ei b hb (by rw [z];exact ha0)
    .rcases hn b z with y | y
     .exact a4 k _ hk ei b hb (by rw [hF];exact Qae _ y)
     .exact y.2 j _ e hb
   .rw [if_neg hki] at ek;rw [aZ hki];exact a4 k s hk ek b hb
theorem Z1q (hN:X.N[i]? = some x) (hv:Vis X.env.scope x) (he:QE X true [] e f) (hd:(x == ("__debug__" : Str))=false:=by decide) (hcd:(x == ("__classdict__" : Str))=false:=by decide)
  (hst:starEach [e] X.env=(false,eval e X.env) :: starEach [] X.env:=by rfl)
  (hpe:PE X (.Call (.Attribute (.Name x p) "append" apos) [e] [] cpos) (tBM X.K "list" Z0s (R9 i) (Z6e (tD X.K true [] f) Z7P)))
  (hs:swapsWith (.Call (.Attribute (.Name x p) "append" apos) [e] [] cpos) none pos.line X.env=pure false:=by rfl) :
  QS X (.Expr (.Call (.Attribute (.Name x p) "append" apos) [e] [] cpos) pos) (iG i f):=.mk (Z5b hpe hs) fun E σ H ⟨P,env,I,q⟩=>by
 obtain⟨F,hF⟩:=I.ex;unfold iG at q;split at q
 .rename_i d ds h1 h2;split at q
  .rename_i hl;obtain⟨v,hv1,_⟩:=hF.ok i true _ h2;obtain⟨o1,o2,o3,o4⟩:=hF.own i _ h2;obtain⟨a,vs,fp',rfl,hFi,ha,hr⟩:=kL (o3 v hv1);refine⟨.ref a,hv1,.inl ⟨rfl,vs,SqL.of ha⟩,env,F,d,hF.ok,h1,fun v' H' fp s r c=>?_⟩;have ha':=s _ _ ha;refine⟨a,vs,v',rfl,rfl,ha',iU (by rw [hr.length];exact hl),q _ _ ?_⟩;refine yI (fp2:=fp' ++ fp) (I.same.trans s) I.len (hF.grow s) h2 hv1 hFi ha' ((hr.same s).snoc r) ?_ ?_
   .rw [hFi] at o1;obtain⟨n1,n2⟩:=QaO.mp o1;refine QaO.mpr ⟨fun z=>?_,QaT.mpr ⟨n2,(c.2 rfl).1,fun b hb b' hb' z=>?_⟩⟩
    .rcases Qai.mp z with z | z
     .exact n1 z
     .have:=(c.2 rfl).2 a z;rw [ha] at this;cases this
    .obtain⟨o,ho⟩:=Reps.dom _ _ _ hr b hb;have:=(c.2 rfl).2 b' hb';rw [<- z,ho] at this;cases this
   .intro b hb;rcases Qai.mp hb with z | z
    .exact .inl z
    .refine .inr ⟨I.same.free ((c.2 rfl).2 b z),fun j s' ej hz=>?_⟩;obtain⟨o,ho⟩:=hF.dom ej b hz;rw [(c.2 rfl).2 b z] at ho;cases ho
  .exact q.elim
 .exact q.elim
def L4 (i:Nat) (fk f:En->Aa D):En->Res:=fun env=>match f env,fk env,env[i]? with
 | some d,some (.int k),some (some (true,.lst ds))=>match ixN ds.length k with
  | some j=>if flats ds=true /\ flat d=true then .next (env.set i (some (true,.lst (ds.set j d)))) else .bad
  | none=>.bad
 | _,_,_=>.bad
theorem Reps.set {K:Frag}:∀ {ds:Ab D}{vs:Ab V}{d:D}{v:V}(j:Nat),Reps K true H ds vs []->Rep K true H d v []->Reps K true H (ds.set j d) (vs.set j v) []
 | [],vs,d,v,j,r,_=>by simp only [Reps] at r;obtain⟨rfl,_⟩:=r;simp only [List.set_nil,Reps];exact⟨trivial,trivial⟩
 | d' :: ds,vs,d,v,0,r,r'=>by
  simp only [Reps] at r;obtain⟨w,us,f1,f2,rfl,e,h1,h2⟩:=r;obtain⟨rfl,rfl⟩:=List.append_eq_nil_iff.mp e.symm;simp only [List.set_cons_zero,Reps];exact⟨v,us,[],[],rfl,rfl,r',h2⟩
 | d' :: ds,vs,d,v,j + 1,r,r'=>by
  simp only [Reps] at r;obtain⟨w,us,f1,f2,rfl,e,h1,h2⟩:=r;obtain⟨rfl,rfl⟩:=List.append_eq_nil_iff.mp e.symm;simp only [List.set_cons_succ,Reps];exact⟨w,us.set j v,[],[],rfl,rfl,h1,Reps.set j h2 r'⟩
theorem Z6V (hN:X.N[i]? = some x) (hv:Vis X.env.scope x) (he:QE X m1 rs1 e f) (hk:QE X m2 rs2 k fk) (hd:(x == ("__debug__" : Str))=false:=by decide) (hcd:(x == ("__classdict__" : Str))=false:=by decide)
  (hps:PS X (.Assign [.Subscript (.Name x p) k spos] e pos) (Z19 (tD X.K m1 rs1 f) (Z8L (R9 i) (tD X.K m2 rs2 fk) Z6r))) :
  QS X (.Assign [.Subscript (.Name x p) k spos] e pos) (L4 i fk f):=.mk hps fun E σ H ⟨P,env,I,q⟩=>by
 obtain⟨F,hF⟩:=I.ex;unfold L4 at q;split at q
 .rename_i d kk ds h1 h2 h3;split at q
  .rename_i j hj;split at q
   .rename_i hfl;obtain⟨v,hv1,_⟩:=hF.ok i true _ h3;obtain⟨o1,o2,o3,o4⟩:=hF.own i _ h3;obtain⟨a,vs,fp',rfl,hFi,ha,hr⟩:=kL (o3 v hv1);refine⟨env,F,d,hF.ok,h1,fun v' H1 fp s1 r1 c1=>⟨.ref a,hv1,env,F,_,hF.ok.same s1,h2,fun w H2 f2 s2 r2 c2=>?_⟩⟩;rw [bG r2];have ha':=(s1.trans s2) _ _ ha;refine⟨a,vs,kk,j,rfl,rfl,ha',by rw [hr.length];exact hj,q _ _ ?_⟩;obtain⟨g1,g2⟩:=Reps.flat _ _ _ hfl.1 hr;obtain⟨g3,g4⟩:=Rep.flat _ _ _ hfl.2 (r1.same s2);subst g1;refine yI (fp2:=[]) (I.same.trans (s1.trans s2)) I.len (hF.grow (s1.trans s2)) h3 hv1 hFi ha' (Reps.set j ((g2 true).same (s1.trans s2)) (g4 true)) (by simp) (fun b hb=>(by cases hb))
   .exact q.elim
  .exact q.elim
 .exact q.elim
end
mutual
theorem Rep.kind {K:Frag}{st:Bool}:∀ (d:D) (v:V) (fp:Ab Af),Rep K st H d v fp->∀ b ∈ fp,(∀ xs,H b ≠ some (.tup xs)) /\ ∀ o u,H b ≠ some (.frz o u)
 | .non,v,fp,h,b,hb=>by simp only [Rep] at h;rw [h.2] at hb;cases hb
 | .bl _,v,fp,h,b,hb=>by simp only [Rep] at h;rw [h.2] at hb;cases hb
 | .int _,v,fp,h,b,hb=>by simp only [Rep] at h;rw [h.2] at hb;cases hb
 | .str _,v,fp,h,b,hb=>by simp only [Rep] at h;rw [h.2] at hb;cases hb
 | .tup ds,v,fp,h,b,hb=>by
  simp only [Rep] at h;obtain⟨a,vs,e,hs,hr⟩:=h;exact Reps.kind ds vs fp hr b hb
 | .lst ds,v,fp,h,b,hb=>by
  simp only [Rep] at h;obtain⟨a,vs,fp',e,hr,hs⟩:=h;rcases hs with ⟨rfl,hs⟩ | ⟨_,rfl,hs⟩
  .rcases Qaf.mp hb with z | z
   .exact⟨fun xs q=>(by rw [z,hs] at q;cases q),fun o u q=>(by rw [z,hs] at q;cases q)⟩
   .exact Reps.kind ds vs fp' hr b z
  .exact Reps.kind ds vs fp hr b hb
 | .obj C ns ds,v,fp,h,b,hb=>by
  simp only [Rep] at h;obtain⟨a,dx,vs,fp',e,rfl,hs,hl,hr⟩:=h;rcases Qaf.mp hb with z | z
  .exact⟨fun xs q=>(by rw [z,hs] at q;cases q),fun o u q=>(by rw [z,hs] at q;cases q)⟩
  .exact Reps.kind ds vs fp' hr b z
 | .dk ks ds,v,fp,h,b,hb=>by
  simp only [Rep] at h;obtain⟨a,vs,fp',e,rfl,hs,hl,hr⟩:=h;rcases Qaf.mp hb with z | z
  .exact⟨fun xs q=>(by rw [z,hs] at q;cases q),fun o u q=>(by rw [z,hs] at q;cases q)⟩
  .exact Reps.kind ds vs fp' hr b z
 | .dt ks ds,v,fp,h,b,hb=>by
  simp only [Rep] at h;obtain⟨a,es,ep,vs,fp',e,hk,hv,ht,hr,hs⟩:=h;rcases hs with ⟨rfl,hs⟩ | ⟨_,rfl,o,hs⟩
  .rcases Qaf.mp hb with z | z
   .exact⟨fun xs q=>(by rw [z,hs] at q;cases q),fun o u q=>(by rw [z,hs] at q;cases q)⟩
   .exact Reps.kind ds vs fp' hr b z
  .exact Reps.kind ds vs fp hr b hb
 | .exc C,v,fp,h,b,hb=>by
  simp only [Rep] at h;obtain⟨a,e,rfl,hs⟩:=h;rw [QaF.mp hb];exact⟨fun xs q=>(by rw [hs] at q;cases q),fun o u q=>(by rw [hs] at q;cases q)⟩
 | .fn a vs ds,v,fp,h,b,hb=>by
  simp only [Rep] at h;exact Reps.kind ds vs fp h.2 b hb
theorem Reps.kind {K:Frag}{st:Bool}:∀ (ds:Ab D) (vs:Ab V) (fp:Ab Af),Reps K st H ds vs fp->∀ b ∈ fp,(∀ xs,H b ≠ some (.tup xs)) /\ ∀ o u,H b ≠ some (.frz o u)
 | [],vs,fp,h,b,hb=>by simp only [Reps] at h;rw [h.2] at hb;cases hb
 | d :: ds,vs,fp,h,b,hb=>by
  simp only [Reps] at h;obtain⟨v,r,f1,f2,e1,rfl,h1,h2⟩:=h;rcases Qai.mp hb with z | z
  .exact Rep.kind d v f1 h1 b z
  .exact Reps.kind ds r f2 h2 b z
end
theorem SInv.lower {K:Frag}(s:Same P P') (h:SInv K P' H σ env):SInv K P H σ env :=
 ⟨s.trans h.same,h.len,let ⟨F,hF⟩:=h.ex;⟨F,hF.ok,fun i d e=>let ⟨a,b,c,q⟩:=hF.own i d e;⟨a,fun x hx=>s.free (b x hx),c,q⟩⟩⟩
theorem Z1a {K:Frag}(i:Nat) (hl:σ.length=env.length) (h:EnvS K P H σ env F) (r:Rep K false H d v fp)
  (fr:∀ j d',env[j]? = some (some (true,d'))->∀ b ∈ F j,b ∉ fp):EnvS K P H (σ.set i (some v)) (env.set i (some (false,d))) (lX F i fp):=by
 refine⟨?_,?_⟩
 .intro j o d' e;by_cases hi:i < env.length
  .rw [dW hi] at e;by_cases hj:j=i
   .subst hj;rw [if_pos rfl] at e;cases e;exact⟨v,QaZ (by omega),by rw [bN];exact r⟩
   .rw [if_neg hj] at e;obtain⟨w,h1,h2⟩:=h.ok j o d' e;exact⟨w,by rw [Qay (Ne.symm hj)];exact h1,by rw [aZ hj];exact h2⟩
  .rw [Qa0 (by omega)] at e;have hj:j ≠ i:=fun z=>by rw [z,Qaw (by omega)] at e;cases e
   obtain⟨w,h1,h2⟩:=h.ok j o d' e;exact⟨w,by rw [Qay (Ne.symm hj)];exact h1,by rw [aZ hj];exact h2⟩
 .intro j d' e;have hji:j ≠ i:=by
   rintro rfl;by_cases hi:j < env.length
   .rw [dW hi,if_pos rfl] at e;cases e
   .rw [Qa0 (by omega),Qaw (by omega)] at e;cases e
  rw [Qay (Ne.symm hji)] at e;obtain⟨a1,a2,a3,a4⟩:=h.own j d' e;refine⟨by rw [aZ hji];exact a1,fun b hb=>a2 b (by rw [aZ hji] at hb;exact hb),fun w hw=>?_,fun k s' hk ek b hb=>?_⟩
  .rw [Qay (Ne.symm hji)] at hw;rw [aZ hji];exact a3 w hw
  .rw [aZ hji] at hb;by_cases hki:k=i
   .subst hki;rw [bN];exact fr j d' e b hb
   .rw [Qay (Ne.symm hki)] at ek;rw [aZ hki];exact a4 k s' hk ek b hb
def tDG (K:Frag) (t:D->En->Aa En):TG:=fun v σ H Q=>∃ P env F d fp env',Same P H /\ σ.length=env.length /\ EnvS K P H σ env F /\ Rep K false H d v fp /\ (∀ j d',env[j]? = some (some (true,d'))->∀ b ∈ F j,b ∉ fp) /\ t d env=some env' /\
 ∀ σ',SInv K P H σ' env'->Q σ' H
def QG (X:Cx) (tg:Ag) (t:D->En->Aa En):Prop:=PG X tg (tDG X.K t)
theorem QG.mk (h:PG X tg g) (hi:∀ v σ H Q,tDG X.K t v σ H Q->g v σ H Q):QG X tg t:=fun pins s σ H v u Q I r q=>h pins s σ H v u Q I r (hi v σ H Q q)
def gtN (i:Nat):D->En->Aa En:=fun d env=>some (env.set i (some (false,d)))
def iL:Ab Nat->Ab D->En->Aa En
 | [],[],env=>some env
 | i :: is,d :: ds,env=>iL is ds (env.set i (some (false,d)))
 | _,_,_=>none
def gtT (is:Ab Nat):D->En->Aa En:=fun d env=>match d with
 | .tup ds=>iL is ds env
 | _=>none
def E9:Ab Nat->TGs
 | []=>Z8M
 | i :: is=>Z6v (zO i) (E9 is)
theorem vM:∀ {is:Ab Nat}{ds:Ab D}{env env':En},iL is ds env=some env'->is.length=ds.length
 | [],[],_,_,_=>rfl
 | i :: is,d :: ds,env,env',h=>by simp only [iL] at h;simp [vM h]
 | [],_ :: _,_,_,h=>by simp [iL] at h
 | _ :: _,[],_,_,h=>by simp [iL] at h
theorem wJ {K:Frag}:∀ {is:Ab Nat}{ds:Ab D}{vs:Ab V}{fp:Ab Af}{σ:L2.St}{env env':En}{F:Nat->Ab Af},Same P H->σ.length=env.length->EnvS K P H σ env F->Reps K false H ds vs fp ->
  (∀ j d',env[j]? = some (some (true,d'))->∀ b ∈ F j,b ∉ fp)->iL is ds env=some env'->(∀ σ',SInv K P H σ' env'->Q σ' H)->E9 is vs σ H Q
 | [],[],vs,fp,σ,env,env',F,sm,hl,h,r,fr,e,q=>by
  simp only [Reps] at r;simp only [iL] at e;cases e;exact⟨r.1,q σ ⟨sm,hl,F,h⟩⟩
 | i :: is,d :: ds,vs,fp,σ,env,env',F,sm,hl,h,r,fr,e,q=>by
  simp only [Reps] at r;obtain⟨v,us,f1,f2,rfl,rfl,r1,r2⟩:=r;simp only [iL] at e;refine⟨v,us,rfl,?_⟩;have h':=Z1a i hl h r1 fun j d' ej b hb z=>fr j d' ej b hb (Qar _ z);refine wJ (is:=is) (ds:=ds) sm (by simp [hl]) h' r2 (fun j d' ej b hb z=>?_) e q;have hji:j ≠ i:=by
   rintro rfl;by_cases hi:j < env.length
   .rw [dW hi,if_pos rfl] at ej;cases ej
   .rw [Qa0 (by omega),Qaw (by omega)] at ej;cases ej
  rw [Qay (Ne.symm hji)] at ej;rw [aZ hji] at hb;exact fr j d' ej b hb (Qam _ z)
 | [],_ :: _,_,_,_,_,_,_,_,_,_,_,_,h,_=>by simp [iL] at h
 | _ :: _,[],_,_,_,_,_,_,_,_,_,_,_,h,_=>by simp [iL] at h
theorem Z50 (hN:X.N.Nodup) (hi:X.N[i]? = some x) (hx:Loc X.env.scope x) (hf:X.fn x=true \/ X.env.scope.names.lookup x=some .local:=by first | exact .inl rfl | exact .inr rfl | assumption):QG X (.Name x pos) (gtN i) :=
 .mk (dG hN hi hx hf) fun v σ H Q ⟨P,env,F,d,fp,env',sm,hl,hF,r,fr,e,q⟩=>by
  cases e;exact q _ (Z2D i sm hl hF (Same.refl H) r fr)
theorem vZ (hc:X.calm=true) (h:PGs X es (E9 is)) (hnl:is.length=n) (hn:(assignEach es X.env).length=n:=by rfl) (hst:(assignEach es X.env).findIdx? (·.1)=none:=by rfl):QG X (.Tuple es k pos) (gtT is) :=
 .mk (V7 hc h hn hst) fun v σ H Q ⟨P,env,F,d,fp,env',sm,hl,hF,r,fr,e,q⟩=>by
  cases d with
  | tup ds =>
   simp only [Rep] at r;obtain⟨a,vs,rfl,hsq,hr⟩:=r;have e':iL is ds env=some env':=e;exact⟨a,vs,rfl,hsq,by rw [hr.length,<- vM e',hnl],wJ sm hl hF hr fr e' q⟩
  | _=>cases e
def B9 (rs:Ab Nat) (t:D->En->Aa En) (f:En->Aa D):En->Res:=fun env=>match f env with
 | some d=>match t d (fz rs env) with
  | some env'=>.next env'
  | none=>.bad
 | none=>.bad
theorem Z6T (he:QE X m rs e f) (hg:QG X tg t) (hs:swapsWithSole [tg] e pos.line X.env=pure false:=by rfl) (hw:swappedStores [tg] e X.env=pure none:=by rfl)
  (hps:PS X (.Assign [tg] e pos) (Z19 (tD X.K m rs f) (tDG X.K t))):QS X (.Assign [tg] e pos) (B9 rs t f):=.mk hps fun E σ H ⟨P,env,I,q⟩=>by
 obtain⟨F,hF⟩:=I.ex;unfold B9 at q;split at q
 .rename_i d h1;split at q
  .rename_i env' h2;refine⟨env,nrm env F,d,hF.nrm.ok,h1,fun v H' fp s r c=>⟨P,fz rs env,nrm env F,d,fp,env',I.same.trans s,by rw [Z4];exact I.len,(hF.nrm.fz rs).grow s,Rep.weak _ _ _ r,K3 hF c,h2,fun σ' I'=>q σ' H' I'⟩⟩
  .exact q.elim
 .exact q.elim
def nD (t:D->En->Aa En) (g:En->Res):Ab D->En->Res
 | [],env=>.next env
 | d :: r,env=>match t d env with
  | none=>.bad
  | some env1=>match g env1 with
   | .next e=>nD t g r e
   | .cont e=>nD t g r e
   | .brk e=>.next e
   | .ret d=>.ret d
   | .bad=>.bad
def eL (rs:Ab Nat) (src:En->Aa (Ab D)) (t:D->En->Aa En) (g:En->Res):En->Res:=fun env=>match src env with
 | some ds=>nD t g ds (fz rs env)
 | none=>.bad
open Classical in
theorem cP (hc:X.calm=true) (hp:PassesOwn (model X.prog X.w) X.A X.env X.xe) (hi:QI X tg rs iter src) (hg:QG X tg t) (hb:QSs X body g) (hs:∀ x,foldedSetIterable iter X.env x=pure x:=by intro _;rfl) :
  QS X (.For tg iter body [] pos) (eL rs src t g):=.mk (Z72 hp hc hi hg hb hs) fun E σ H ⟨P,env,I,q⟩=>by
 obtain⟨F,hF⟩:=I.ex;unfold eL at q;split at q
 .rename_i ds h1;refine⟨env,nrm env F,ds,hF.nrm.ok,h1,fun J H1 fp s1 gv dm cd=>?_⟩;have ap:=K3 hF cd
  let O:Af->Prop:=fun b=>∃ j d,(fz rs env)[j]? = some (some (true,d)) /\ b ∈ nrm env F j
  let P':Hp:=fun b=>if O b then none else H1 b
  have hS0:EnvS X.K P H1 σ (fz rs env) (nrm env F):=(hF.nrm.fz rs).grow s1;have okind:∀ b,O b->(∀ xs,H1 b ≠ some (.tup xs)) /\ ∀ o u,H1 b ≠ some (.frz o u):=fun b ⟨j,d,e,hb⟩=>by
   obtain⟨v,hv,r⟩:=hS0.ok j true d e;exact Rep.kind _ _ _ r b hb
  have pn:∀ {b:Af},¬ O b->P' b=H1 b:=fun hn=>if_neg hn;have po:∀ {b:Af},O b->P' b=none:=fun hO=>if_pos hO;have sP1:Same P' H1:=fun b o e=>by
   by_cases hO:O b
   .rw [po hO] at e;cases e
   .rw [pn hO] at e;exact e
  have sP:Same P P':=fun b o e=>by
   have hO:¬ O b:=fun⟨j,d,ej,hb⟩=>by
    have:=(hS0.own j d ej).2.1 b hb;rw [this] at e;cases e
   rw [pn hO];exact s1 _ _ (I.same _ _ e)
  have fpP:∀ b ∈ fp,¬ O b:=fun b hb ⟨j,d,ej,hb'⟩=>ap j d ej b hb' hb;have kp:∀ {H2:Hp},Same P' H2->Kp fp H1 H2:=fun s2=>⟨fun b hb o e=>s2 _ _ (by rw [pn (fpP b hb)];exact e),
   fun b xs e=>s2 _ _ (by rw [pn (fun hO=>(okind b hO).1 _ e)];exact e),
   fun b o u e=>s2 _ _ (by rw [pn (fun hO=>(okind b hO).2 _ _ e)];exact e)⟩
  refine⟨fun i k σ' H'=>i <= ds.length /\ k=ds.length - i /\ ∃ env',SInv X.K P' H' σ' env' /\ Z7B X.K P E (nD t g (ds.drop i) env'),
   ⟨ds.length,Qbm _,rfl,fz rs env,⟨sP1,by rw [Z4];exact I.len,nrm env F,hS0.ok,fun j d e=>?_⟩,by simpa using q⟩,?_⟩
  .obtain⟨a1,a2,a3,a4⟩:=hS0.own j d e;exact⟨a1,fun b hb=>po ⟨j,d,e,hb⟩,a3,a4⟩
  .rintro i k σ' H' ⟨hi,hk,env',I',q'⟩;have gi:=gv H' (kp I'.same) i;by_cases hlt:i < ds.length
   .right;have hd:ds[i]? = some ds[i]:=Qad hlt;obtain⟨go,hy⟩:=gi.1 _ hd;have edrop:ds.drop i=ds[i] :: ds.drop (i + 1):=List.drop_eq_getElem_cons hlt;rw [edrop] at q';refine⟨go,fun σ2 H2=>∃ env2,SInv X.K P' H2 σ2 env2 /\ Z7B X.K P E (nD t g (ds.drop (i + 1)) env2),fun σ2 H2 ⟨env2,I2,q2⟩=>⟨ds.length - (i + 1),by omega,hlt,rfl,env2,I2,q2⟩,fun x H2 y2=>?_⟩;obtain⟨sm2,f2,r2,sub2⟩:=hy x H2 y2;unfold nD at q';cases ht:t ds[i] env' with
    | none=>rw [ht] at q';exact q'.elim
    | some env1 =>
     rw [ht] at q';simp only at q';have I2:=I'.grow sm2;obtain⟨F2,hF2⟩:=I2.ex;refine⟨P',env',F2,_,f2,env1,I2.same,I2.len,hF2,r2,fun j d' ej b hb z=>?_,ht,fun σ3 I3=>⟨P',env1,I3,?_⟩⟩
     .have h5:=(hF2.own j d' ej).2.1 b hb;rw [pn (fpP b (sub2 b z))] at h5;obtain⟨o,ho⟩:=dm b (sub2 b z);rw [h5] at ho;cases ho
     .cases hg:g env1 with
      | next e2=>rw [hg] at q';exact fun σ4 H4 I4=>⟨e2,I4,q'⟩
      | cont e2=>rw [hg] at q';exact fun σ4 H4 I4=>⟨e2,I4,q'⟩
      | brk e2=>rw [hg] at q';exact fun σ4 H4 I4=>q' σ4 H4 (I4.lower sP)
      | ret d=>rw [hg] at q';exact fun v H4 fp4 s4 r4 n4 nd4=>q' v H4 fp4 (sP.trans s4) r4 (fun b hb=>sP.free (n4 b hb)) nd4
      | bad=>rw [hg] at q';exact q'.elim
   .left;have hi':i=ds.length:=by omega
    rw [hi',List.drop_length] at q';exact⟨gi.2 (by omega),q' σ' H' (I'.lower sP)⟩
 .exact q.elim
def enStart (L:Nat) (ds:Ab D):En:=ds.map (fun d=>some (false,d)) ++ List.replicate (L - ds.length) none
def runF (L:Nat) (g:En->Res):Ab D->Aa D:=fun ds=>match g (enStart L ds) with
 | .ret d=>some d
 | .next _=>some .non
 | _=>none
theorem B8 {K:Frag}{st:Bool}:∀ {ds:Ab D}{vs:Ab V}{fp:Ab Af},Reps K st H ds vs fp->∃ F:Nat->Ab Af,∀ i d,ds[i]? = some d->∃ v,vs[i]? = some v /\ Rep K st H d v (F i)
 | [],vs,fp,_=>⟨fun _=>[],fun i d e=>by simp at e⟩
 | d :: ds,vs,fp,r=>by
  simp only [Reps] at r;obtain⟨v,us,f1,f2,rfl,rfl,r1,r2⟩:=r;obtain⟨F,hF⟩:=B8 r2;refine⟨fun i=>match i with | 0=>f1 | i + 1=>F i,fun i d' e=>?_⟩
  cases i with
  | zero=>simp at e;subst e;exact⟨v,rfl,r1⟩
  | succ i =>
   obtain⟨w,h1,h2⟩:=hF i d' (by simpa using e);exact⟨w,by simpa using h1,h2⟩
theorem oR {K:Frag}(r:Reps K false H ds vs fp):SInv K H H (L2.start N vs) (enStart N.length ds):=by
 obtain⟨F,hF⟩:=B8 r;refine⟨Same.refl H,by simp [L2.start,enStart,r.length],F,fun i o d e=>?_,fun i d e=>?_⟩
 .unfold enStart at e;by_cases hi:i < ds.length
  .rw [QaY (by simpa using hi),Qas] at e;cases hd:ds[i]? with
   | none=>rw [hd] at e;cases e
   | some d' =>
    rw [hd] at e;cases e;obtain⟨v,h1,h2⟩:=hF i d hd;refine⟨v,?_,h2⟩;unfold L2.start;rw [QaY (by rw [Qaa,r.length];exact hi),Qas,h1];rfl
  .rw [Qa4 (by simpa using hi),Qby] at e;split at e <;> cases e
 .unfold enStart at e;by_cases hi:i < ds.length
  .rw [QaY (by simpa using hi),Qas] at e;cases hd:ds[i]? with
   | none=>rw [hd] at e;cases e
   | some d'=>rw [hd] at e;cases e
  .rw [Qa4 (by simpa using hi),Qby] at e;split at e <;> cases e
structure FunD (K:Frag) (x qual:Str) (st:Stmt) (f:Addr) (fd:FuncData):Prop where
 ex:∃ (oc:Ad) (od:Aa Af) (dV kV doc pm:Ad) (an:Aa Af) (cdv ct:Ad) (osl:Ae (Aa Ad)),
  fd=fnOf x qual (cF st) (bS st) (aI st) dV kV doc pm an cdv ct /\ K.lookup f=some ⟨oc,od,.func fd,osl⟩ /\ codeIn K cdv qual=true
 kp:keepIn K (.ref f)=true
theorem lV {K:Frag}{st:Stmt}{dV kV doc pm cdv ct:Ad}(l:K.lookup f=some ⟨oc,od,.func (fnOf x qual (cF st) (bS st) (aI st) dV kV doc pm an cdv ct),osl⟩)
  (c:codeIn K cdv qual=true) (k:keepIn K (.ref f)=true):FunD K x qual st f (fnOf x qual (cF st) (bS st) (aI st) dV kV doc pm an cdv ct) :=
 ⟨⟨oc,od,dV,kV,doc,pm,an,cdv,ct,osl,rfl,l,c⟩,k⟩
theorem FunD.ok {K:Frag}{st:Stmt}(F:FunD K x qual st f fd) (S:aP N ps (aI st)) (hn:ps.length=n) (hL:N.length=L)
  (hb:∀ (cdv:Ad) (A:Ai) (outer:Ab Env) (s:Ac) (H:Hp) (E:XK),Room k (A.deeper (envOfC qual (aI st) s.heap.objs.size f cdv))->QSs (tJ CX0 P w K mg base N qual (aI st) f cdv A outer s H E).nox (bS st) g) :
  bR P w K mg base CX0 (k + 1) f fd ps (spD K n (runF L g)):=by
 subst hn hL;obtain⟨oc,od,dV,kV,doc,pm,an,cdv,ct,osl,rfl,lk,hcd⟩:=F.ex;refine Z49 lk hcd S (fun vs H Q E h=>A2 h) fun A outer s H vs Q E hr hsp=>?_;obtain⟨ds,d,fp,h1,h2,h3,q⟩:=hsp;have hq:=hb cdv A outer s H E hr;refine⟨_,PSs.nox hq,H,enStart N.length ds,oR h2,?_⟩;unfold runF at h3;cases hg:g (enStart N.length ds) with
 | ret d' =>
  rw [hg] at h3;cases h3;exact fun v H' fp' s r fr nd=>q v H' fp' s r fr nd
 | next env' =>
  rw [hg] at h3;cases h3;exact fun σ' H' I'=>q .non H' [] I'.same pI (fun b hb=>(by cases hb)) QaQ
 | brk _=>rw [hg] at h3;cases h3
 | cont _=>rw [hg] at h3;cases h3
 | bad=>rw [hg] at h3;cases h3
open PySem PySem.Spec PyProof.Rows L2 PySem.SeqAt
def eqL (f:D->D->Aa Bool):Ab D->Ab D->Aa Bool
 | x :: xs,y :: ys=>match f x y,eqL f xs ys with
  | some a,some b=>some (a && b)
  | _,_=>none
 | _,_=>some true
def eqN:Nat->D->D->Aa Bool
 | 0,_,_=>none
 | _ + 1,.non,.non=>some true
 | _ + 1,.bl a,.bl b=>some (a == b)
 | _ + 1,.int a,.int b=>some (a == b)
 | _ + 1,.str a,.str b=>some (a == b)
 | _ + 1,.non,.int _=>some false
 | _ + 1,.non,.str _=>some false
 | _ + 1,.int _,.non=>some false
 | _ + 1,.str _,.non=>some false
 | _ + 1,.int _,.str _=>some false
 | _ + 1,.str _,.int _=>some false
 | n + 1,.tup xs,.tup ys=>(eqL (eqN n) xs ys).map (· && xs.length == ys.length)
 | _ + 1,.tup _,.non=>some false
 | _ + 1,.non,.tup _=>some false
 | n + 1,.lst xs,.lst ys=>if xs.length=ys.length then eqL (eqN n) xs ys else some false
 | _ + 1,.lst _,.non=>some false
 | _ + 1,.non,.lst _=>some false
 | _,_,_=>none
theorem xA:∀ {xs ys:Ab D}{k:Bool},eqL f xs ys=some k->∃ e:Nat->Bool,(∀ j x y,xs[j]? = some x->ys[j]? = some y->f x y=some (e j)) /\ (List.range (min xs.length ys.length)).all e=k
 | [],ys,k,h=>by simp only [eqL] at h;cases h;exact⟨fun _=>true,fun j x y h=>by simp at h,by simp⟩
 | x :: xs,[],k,h=>by simp only [eqL] at h;cases h;exact⟨fun _=>true,fun j x y _ h=>by simp at h,by simp⟩
 | x :: xs,y :: ys,k,h=>by
  simp only [eqL] at h;split at h
  .rename_i a b h1 h2;cases h;obtain⟨e,g1,g2⟩:=xA h2;refine⟨fun j=>match j with | 0=>a | j + 1=>e j,fun j x' y' e1 e2=>?_,?_⟩
   .cases j with
    | zero=>simp at e1 e2;subst e1 e2;exact h1
    | succ j=>exact g1 j x' y' (by simpa using e1) (by simpa using e2)
   .simp only [Qal,Nat.succ_min_succ,List.range_succ_eq_map,List.all_cons,List.all_map];rw [<- g2];congr 1
  .cases h
theorem Z0r (I:Inv X pins σ H s):∀ (n:Nat) (a b:D) (v:V) (f1 f2:Ab Af) (k:Bool),Rep X.K st1 H a v f1->Rep X.K st2 H b v f2->eqN n a b=some k->k=true:=by
 intro n
 induction n with
 | zero=>intro a b v f1 f2 k _ _ e;simp [eqN] at e
 | succ n ih =>
  have seq:∀ (xs ys:Ab D) (vs:Ab V) (f1 f2:Ab Af) (k:Bool),Reps X.K st1 H xs vs f1->Reps X.K st2 H ys vs f2->eqL (eqN n) xs ys=some k->k=true:=by
   intro xs
   induction xs with
   | nil=>intro ys vs f1 f2 k _ _ e;simp only [eqL] at e;cases e;rfl
   | cons x xs ihx =>
    intro ys vs f1 f2 k r1 r2 e;cases ys with
    | nil=>simp only [eqL] at e;cases e;rfl
    | cons y ys =>
     simp only [Reps] at r1 r2;obtain⟨v,us,g1,g2,rfl,_,a1,a2⟩:=r1;obtain⟨v',us',g3,g4,e',_,b1,b2⟩:=r2;cases e';simp only [eqL] at e;split at e
     .rename_i c d h1 h2;cases e;rw [ih _ _ _ _ _ _ a1 b1 h1,ihx _ _ _ _ _ a2 b2 h2];rfl
     .cases e
  intro a b v f1 f2 k ra rb e;cases a <;> cases b <;> simp only [eqN,Rep] at ra rb e <;> try (cases e;done)
  all_goals first
   | (cases e;rfl)
   | (obtain⟨rfl,_⟩:=ra;obtain⟨h,_⟩:=rb;cases h;cases e;simp;done)
   | (obtain⟨rfl,_⟩:=ra;obtain⟨h,_⟩:=rb;cases h;done)
   | (obtain⟨rfl,_⟩:=ra;obtain⟨_,_,h,_⟩:=rb;cases h;done)
   | (obtain⟨rfl,_⟩:=ra;obtain⟨_,_,_,h,_⟩:=rb;cases h;done)
   | (obtain⟨rfl,_⟩:=rb;obtain⟨_,_,h,_⟩:=ra;cases h;done)
   | (obtain⟨rfl,_⟩:=rb;obtain⟨_,_,_,h,_⟩:=ra;cases h;done)
   | skip
  .-- tuples
   rename_i xs ys;obtain⟨a,vs,rfl,hs,hr⟩:=ra;obtain⟨a',vs',e',hs',hr'⟩:=rb;cases e';obtain rfl:=I.tuple_inj hs hs';cases hq:eqL (eqN n) xs ys with
   | none=>rw [hq] at e;cases e
   | some c =>
    rw [hq] at e;cases e;have:=seq _ _ _ _ _ _ hr hr' hq;subst this;have l1:=hr.length;have l2:=hr'.length;simp [<- l1,<- l2]
  .rename_i xs ys;have hra:Rep X.K st1 H (.lst xs) v f1:=by simp only [Rep];exact ra
   have hrb:Rep X.K st2 H (.lst ys) v f2:=by simp only [Rep];exact rb
   obtain⟨a,vs,fp',rfl,hs,hr,_⟩:=bX hra;obtain⟨a',vs',fp2,e',hs',hr',_⟩:=bX hrb;cases e';obtain rfl:=I.list_inj hs hs';have l1:=hr.length;have l2:=hr'.length;rw [if_pos (by rw [<- l1,<- l2])] at e;exact seq _ _ _ _ _ _ hr hr' e
theorem kQ (A:Ai):A.in1.units=A.units + 1:=rfl
theorem Z4e (I:Inv X pins σ H s):∀ (n:Nat) (A:Ai) (a b:D) (v u:V) (vv uu:Ad) (f1 f2:Ab Af) (k:Bool),A.units + n <= cLine->Rep X.K st1 H a v f1->Rep X.K st2 H b u f2->RelV v vv->RelV u uu->eqN n a b=some k ->
  EqAt A s vv uu k /\ RcAt A s vv uu k /\ RcNeAt A s vv uu (!k):=by
 intro n
 induction n with
 | zero=>intro A a b v u vv uu f1 f2 k _ _ _ _ _ e;simp [eqN] at e
 | succ n ih =>
  intro A a b v u vv uu f1 f2 k hu ra rb rv ru e;have hu0:A.units < cLine:=by omega
  have seqs:∀ {xs ys:Ab D}{vs us:Ab V}{its its2:Ab Ad}{g1 g2:Ab Af}{ee:Nat->Bool},Reps X.K st1 H xs vs g1->Reps X.K st2 H ys us g2->Vals vs its->Vals us its2->(∀ j x y,xs[j]? = some x->ys[j]? = some y->eqN n x y=some (ee j)) ->
    ∀ j (h1:j < its.toArray.size) (h2:j < its2.toArray.size),EqAt A.in1 s its.toArray[j] its2.toArray[j] (ee j):=by
   intro xs ys vs us its its2 g1 g2 ee r1 r2 w1 w2 he j h1 h2;have l1:=r1.length;have l2:=r2.length;have l3:=w1.length;have l4:=w2.length;have j1:j < xs.length:=by simp at h1;omega
   have j2:j < ys.length:=by simp at h2;omega
   obtain⟨v1,_,a1,a2,_⟩:=r1.get (Qad j1);obtain⟨v2,_,b1,b2,_⟩:=r2.get (Qad j2);obtain⟨u1,c1,c2⟩:=w1.get a1;obtain⟨u2,d1,d2⟩:=w2.get b1;have e1:its.toArray[j]=u1:=by have:=Qac.mp c1;obtain⟨_,z⟩:=this;simpa using z
   have e2:its2.toArray[j]=u2:=by have:=Qac.mp d1;obtain⟨_,z⟩:=this;simpa using z
   rw [e1,e2];exact (ih A.in1 _ _ _ _ _ _ _ _ _ (by rw [kQ];omega) a2 b2 c2 d2 (he j _ _ (Qad j1) (Qad j2))).1
  cases a with
  | non =>
   have hv:v=.non:=eB ra;subst hv;cases (show vv=Value.none from rv)
   cases b with
   | non =>
    cases eB rb;cases (show uu=Value.none from ru)
    simp only [eqN] at e;cases e;exact⟨EqAt.same _,RcAt.none_none,RcNeAt.none_none⟩
   | int i =>
    cases bG rb;obtain⟨t,rfl⟩:=(show ∃ t,uu=Value.int i t from ru)
    simp only [eqN] at e;cases e;exact⟨EqAt.none_int _ _,RcAt.none_int _ _,RcNeAt.none_int _ _⟩
   | str i =>
    cases eS rb;obtain⟨t,rfl⟩:=(show ∃ t,uu=Value.str i t from ru)
    simp only [eqN] at e;cases e;exact⟨EqAt.none_str _ _,RcAt.none_str _ _,RcNeAt.none_str _ _⟩
   | tup ys =>
    simp only [Rep] at rb;obtain⟨p,us,rfl,hs,hr⟩:=rb;cases (show uu=Value.ref p from ru)
    obtain⟨its,w1,pl,_⟩:=I.tuple hs;simp only [eqN] at e;cases e;exact⟨EqAt.none_tuple pl hu0,RcAt.none_tuple pl hu0,RcNeAt.none_tuple pl hu0⟩
   | lst ys =>
    obtain⟨p,us,_,rfl,hs,hr,_⟩:=bX rb;cases (show uu=Value.ref p from ru)
    obtain⟨its,w1,pl,_⟩:=I.list hs;simp only [eqN] at e;cases e;exact⟨EqAt.none_list pl.isList hu0,RcAt.none_list pl.isList hu0,RcNeAt.none_list pl.isList hu0⟩
   | _=>simp only [eqN] at e;cases e
  | bl x =>
   cases gS ra;cases (show vv=Value.bool x from rv)
   cases b with
   | bl y =>
    cases gS rb;cases (show uu=Value.bool y from ru)
    simp only [eqN] at e;cases e;exact⟨EqAt.bool_bool _ _,RcAt.bool_bool _ _,RcNeAt.bool_bool _ _⟩
   | _=>simp only [eqN] at e;cases e
  | int x =>
   cases bG ra;obtain⟨t,rfl⟩:=(show ∃ t,vv=Value.int x t from rv)
   cases b with
   | int y =>
    cases bG rb;obtain⟨t',rfl⟩:=(show ∃ t,uu=Value.int y t from ru)
    simp only [eqN] at e;cases e;exact⟨EqAt.int_int _ _ _ _,RcAt.int_int _ _ _ _,RcNeAt.int_int _ _ _ _⟩
   | non =>
    cases eB rb;cases (show uu=Value.none from ru)
    simp only [eqN] at e;cases e;exact⟨EqAt.int_none _ _,RcAt.int_none _ _,RcNeAt.int_none _ _⟩
   | str y =>
    cases eS rb;obtain⟨t',rfl⟩:=(show ∃ t,uu=Value.str y t from ru)
    simp only [eqN] at e;cases e;exact⟨EqAt.int_str _ _ _ _,RcAt.int_str _ _ _ _,RcNeAt.int_str _ _ _ _⟩
   | _=>simp only [eqN] at e;cases e
  | str x =>
   cases eS ra;obtain⟨t,rfl⟩:=(show ∃ t,vv=Value.str x t from rv)
   cases b with
   | int y =>
    cases bG rb;obtain⟨t',rfl⟩:=(show ∃ t,uu=Value.int y t from ru)
    simp only [eqN] at e;cases e;exact⟨EqAt.str_int _ _ _ _,RcAt.str_int _ _ _ _,RcNeAt.str_int _ _ _ _⟩
   | non =>
    cases eB rb;cases (show uu=Value.none from ru)
    simp only [eqN] at e;cases e;exact⟨EqAt.str_none _ _,RcAt.str_none _ _,RcNeAt.str_none _ _⟩
   | str y =>
    cases eS rb;obtain⟨t',rfl⟩:=(show ∃ t,uu=Value.str y t from ru)
    simp only [eqN] at e;cases e;exact⟨EqAt.str_str _ _ _ _,RcAt.str_str _ _ _ _,RcNeAt.str_str _ _ _ _⟩
   | _=>simp only [eqN] at e;cases e
  | tup xs =>
   have ra':=ra;simp only [Rep] at ra;obtain⟨p,vs,rfl,hs,hr⟩:=ra;cases (show vv=Value.ref p from rv)
   obtain⟨its,w1,pl,_⟩:=I.tuple hs;cases b with
   | non =>
    cases eB rb;cases (show uu=Value.none from ru)
    simp only [eqN] at e;cases e;exact⟨EqAt.tuple_none pl hu0,RcAt.tuple_none pl hu0,RcNeAt.tuple_none pl hu0⟩
   | tup ys =>
    have rb':=rb;simp only [Rep] at rb;obtain⟨p',us,rfl,hs',hr'⟩:=rb;cases (show uu=Value.ref p' from ru)
    obtain⟨its2,w2,pl2,_⟩:=I.tuple hs';have e0:=e;simp only [eqN] at e;cases hq:eqL (eqN n) xs ys with
    | none=>rw [hq] at e;cases e
    | some c =>
     rw [hq] at e;cases e;obtain⟨ee,g1,g2⟩:=xA hq;have l1:=hr.length;have l2:=hr'.length;have l3:=w1.length;have l4:=w2.length;have es:(its.toArray.size == its2.toArray.size)=(xs.length == ys.length):=by simp [<- l1,<- l2,l3,l4]
     have em:min its.toArray.size its2.toArray.size=min xs.length ys.length:=by simp [<- l1,<- l2,l3,l4]
     have rc:=RcAt.tuples pl pl2 hu0 (seqs hr hr' w1 w2 g1);have rn:=RcNeAt.tuples pl pl2 hu0 (seqs hr hr' w1 w2 g1);rw [es,em,g2] at rc rn;refine⟨?_,rc,rn⟩;by_cases hp:p=p'
     .subst hp;have:=Z0r I _ _ _ _ _ _ _ ra' rb' e0;rw [this];exact EqAt.same _
     .exact EqAt.of_refs hp rc
   | _=>simp only [eqN] at e;cases e
  | lst xs =>
   obtain⟨p,vs,_,rfl,hs,hr,_⟩:=bX ra;cases (show vv=Value.ref p from rv)
   obtain⟨its,w1,pl,_⟩:=I.list hs;cases b with
   | non =>
    cases eB rb;cases (show uu=Value.none from ru)
    simp only [eqN] at e;cases e;exact⟨EqAt.list_none pl.isList hu0,RcAt.list_none pl.isList hu0,RcNeAt.list_none pl.isList hu0⟩
   | lst ys =>
    obtain⟨p',us,_,rfl,hs',hr',_⟩:=bX rb;cases (show uu=Value.ref p' from ru)
    obtain⟨its2,w2,pl2,_⟩:=I.list hs';have e0:=e;simp only [eqN] at e;have l1:=hr.length;have l2:=hr'.length;have l3:=w1.length;have l4:=w2.length;have key:RcAt A s (.ref p) (.ref p') k /\ RcNeAt A s (.ref p) (.ref p') (!k):=by
     by_cases hl:xs.length=ys.length
     .rw [if_pos hl] at e;obtain⟨ee,g1,g2⟩:=xA e;have hsz:its.toArray.size=its2.toArray.size:=by simp;omega
      have em:its.toArray.size=min xs.length ys.length:=by simp;omega
      have rc:=RcAt.lists pl.isList pl2.isList hsz hu0 (seqs hr hr' w1 w2 g1);have rn:=RcNeAt.lists pl.isList pl2.isList hsz hu0 (seqs hr hr' w1 w2 g1);rw [em,g2] at rc rn;exact⟨rc,rn⟩
     .rw [if_neg hl] at e;cases e;have hsz:(its.toArray.size != its2.toArray.size)=true:=by simp;omega
      exact⟨RcAt.lists_lengths pl.isList pl2.isList hsz hu0,RcNeAt.lists_lengths pl.isList pl2.isList hsz hu0⟩
    refine⟨?_,key.1,key.2⟩;by_cases hp:p=p'
    .subst hp;have:=Z0r I _ _ _ _ _ _ _ ra rb e0;rw [this];exact EqAt.same _
    .exact EqAt.of_refs hp key.1
   | _=>simp only [eqN] at e;cases e
  | obj _ _ _=>simp only [eqN] at e;cases e
  | dk _ _=>simp only [eqN] at e;cases e
  | dt _ _=>simp only [eqN] at e;cases e
  | exc _=>simp only [eqN] at e;cases e
  | fn _ _ _=>simp only [eqN] at e;cases e
def fEq (fa fb:En->Aa D):En->Aa Bool:=fun env=>match fa env,fb env with
 | some x,some y=>eqN 8 x y
 | _,_=>none
def Z8j (neg:Bool) (K:Frag):R2:=fun v u H Q=>∃ a b f1 f2 k st1 st2,Rep K st1 H a v f1 /\ Rep K st2 H b u f2 /\ eqN 8 a b=some k /\ Q (.bl (if neg then !k else k)) H
theorem Z3u (hu:X.A.units + 8 <= cLine):OpR X (compareOp .Eq) (Z8j false X.K):=fun pins s σ H x y v u Q I rx ry ⟨a,b,f1,f2,k,st1,st2,r1,r2,e,q⟩ =>
 (Z4e I 8 X.A a b x y v u f1 f2 k hu r1 r2 rx ry e).2.1 _ _ _ _ ⟨.bl k,H,I,rfl,q⟩
theorem Z3s (hu:X.A.units + 8 <= cLine):OpR X (compareOp .NotEq) (Z8j true X.K):=fun pins s σ H x y v u Q I rx ry ⟨a,b,f1,f2,k,st1,st2,r1,r2,e,q⟩ =>
 (Z4e I 8 X.A a b x y v u f1 f2 k hu r1 r2 rx ry e).2.2 _ _ _ _ ⟨.bl (!k),H,I,rfl,q⟩
theorem kU (e:fEq fa fb env=some bb):∃ x y,fa env=some x /\ fb env=some y /\ eqN 8 x y=some bb:=by
 unfold fEq at e;split at e
 .rename_i x y h1 h2;exact⟨x,y,h1,h2,e⟩
 .cases e
theorem dQ (hu:X.A.units + 8 <= cLine) (ha:QE X m1 rs1 a fa) (hb:QE X m2 rs2 b fb):QT X (.Compare a [.Eq] [b] pos) (fEq fa fb) :=
 pD (Z3u hu) ha hb (jG _) (fun env x y K H v u f1 f2 Q bb e ea eb r1 r2 hK q=>by
  subst hK;obtain⟨x',y',h1,h2,h3⟩:=kU e;rw [ea] at h1;rw [eb] at h2;cases h1;cases h2;exact⟨x,y,f1,f2,bb,_,_,r1,r2,h3,q⟩) fun env bb e=>let ⟨x,y,h1,h2,_⟩:=kU e;⟨x,y,h1,h2⟩
theorem L7 (hu:X.A.units + 8 <= cLine) (ha:QE X m1 rs1 a fa) (hb:QE X m2 rs2 b fb):QT X (.Compare a [.NotEq] [b] pos) (eO (fEq fa fb)) :=
 pD (Z3s hu) ha hb (jG _) (fun env x y K H v u f1 f2 Q bb e ea eb r1 r2 hK q=>by
  subst hK;unfold eO at e;cases h:fEq fa fb env with
  | none=>rw [h] at e;cases e
  | some k =>
   rw [h] at e;cases e;obtain⟨x',y',h1,h2,h3⟩:=kU h;rw [ea] at h1;rw [eb] at h2;cases h1;cases h2;exact⟨x,y,f1,f2,k,_,_,r1,r2,h3,q⟩) fun env bb e=>by
  unfold eO at e;cases h:fEq fa fb env with
  | none=>rw [h] at e;cases e
  | some k=>obtain⟨x,y,h1,h2,_⟩:=kU h;exact⟨x,y,h1,h2⟩
theorem Z0x (hu:X.A.units + 8 <= cLine) (ha:QE X m1 rs1 a fa) (hb:QE X m2 rs2 b fb):QE X m rs (.Compare a [.Eq] [b] pos) (hZ (fEq fa fb)) :=
 .mk (C2 (Z3u hu) ha hb (jG _)) fun σ H Q ⟨env,F,d,ok,e,q⟩=>by
  unfold hZ at e;cases h:fEq fa fb env with
  | none=>rw [h] at e;cases e
  | some k =>
   rw [h] at e;cases e;obtain⟨x,y,h1,h2,h3⟩:=kU h;exact two ok h1 h2 fun v u H' f1 f2 s r1 r2 _ _=>⟨x,y,f1,f2,k,_,_,r1,r2,h3,q _ _ _ s qC .nil⟩
theorem Z8n (hu:X.A.units + 8 <= cLine) (ha:QE X m1 rs1 a fa) (hb:QE X m2 rs2 b fb):QE X m rs (.Compare a [.NotEq] [b] pos) (hZ (eO (fEq fa fb))) :=
 .mk (C2 (Z3s hu) ha hb (jG _)) fun σ H Q ⟨env,F,d,ok,e,q⟩=>by
  unfold hZ eO at e;cases h:fEq fa fb env with
  | none=>rw [h] at e;cases e
  | some k =>
   rw [h] at e;cases e;obtain⟨x,y,h1,h2,h3⟩:=kU h;exact two ok h1 h2 fun v u H' f1 f2 s r1 r2 _ _=>⟨x,y,f1,f2,k,_,_,r1,r2,h3,q _ _ _ s qC .nil⟩
def tyN:D->Aa String
 | .non=>some "NoneType"
 | .bl _=>some "bool"
 | .int _=>some "int"
 | .str _=>some "str"
 | .tup _=>some "tuple"
 | .lst _=>some "list"
 | .obj _ _ _=>none
 | .dk _ _=>none
 | .dt _ _=>none
 | .exc _=>none
 | .fn _ _ _=>none
def iJ (c:String) (d:D):Aa Bool:=(tyN d).map fun T=>T == c || (T == "bool" && c == "int")
theorem Z4T {st:Bool}(I:Inv X pins σ H s) (r:Rep X.K st H d v fp) (rv:RelV v u) (hT:tyN d=some T)
  (e:PySem.W.kitOne X.K (.type T) cc=some k) (h:∀ tk,Q (.bool k) { s with toks:=tk }):wpAny (model X.prog X.w) X.A (call (.builtin "isinstance") [u,cc]) Q E s:=by
 cases d with
 | non=>cases hT;exact nX I rv (by rw [eB r];exact .non) e h
 | bl x=>cases hT;exact nX I rv (by rw [gS r];exact .bl x) e h
 | int x=>cases hT;exact nX I rv (by rw [bG r];exact .int x) e h
 | str x=>cases hT;exact nX I rv (by rw [eS r];exact .str x) e h
 | tup xs =>
  cases hT;simp only [Rep] at r;obtain⟨q,vs,rfl,hs,hr⟩:=r;cases (show u=Value.ref q from rv)
  obtain⟨its,w1,pl,_⟩:=I.tuple hs;obtain⟨o,h1,h2,_⟩:=pl;exact Qa2 PySem.W.kitx_tuple I.kIn ⟨o,h1,h2⟩ e (fun z=>nomatch z) h
 | lst xs =>
  cases hT;obtain⟨q,vs,_,rfl,hs,hr,_⟩:=bX r;cases (show u=Value.ref q from rv)
  obtain⟨its,w1,pl,_⟩:=I.list hs;obtain⟨o,h1,h2,_⟩:=pl.isList;exact Qa2 PySem.W.kitx_list I.kIn ⟨o,h1,h2⟩ e (fun z=>nomatch z) h
 | obj _ _ _=>cases hT
 | dk _ _=>cases hT
 | dt _ _=>cases hT
 | exc _=>cases hT
 | fn _ _ _=>cases hT
theorem uS:bootBuiltins "isinstance" = some (.builtin "isinstance"):=by decide +kernel
theorem gJ (hg:Gl X "isinstance") (hm:X.mg "isinstance" = none) (ha:QE X m1 rs1 a fa) (hgc:Gl X cn) (hmc:X.mg cn=none) (hvc:bootBuiltins cn=some (.type c))
  (hk:∀ d T k,tyN d=some T->iJ c d=some k->PySem.W.kitOne X.K (.type T) (.type c)=some k) (hnc:cn ≠ "__name__":=by decide) (hdc:(cn == ("__debug__" : Str))=false:=by decide)
  (he:starEach [a,.Name cn p2] X.env=(false,eval a X.env) :: starEach [.Name cn p2] X.env:=by rfl) (he2:starEach [.Name cn p2] X.env=(false,eval (.Name cn p2) X.env) :: starEach [] X.env:=by rfl) (hpl:(backTo pos (starEach [.Name cn p2] X.env)).any (·.1)=false:=by rfl) :
  QE X m rs (.Call (.Name "isinstance" p) [a,.Name cn p2] [] pos) (fun env=>(fa env).bind fun d=>(iJ c d).map .bl) :=
 .mk (L2.pe_callB (r:=fun vs H Q=>∃ d v fp k st,vs=[v,.ty c] /\ Rep X.K st H d v fp /\ iJ c d=some k /\ Q (.bl k) H)
   (fun pins s σ H xs us Q I w h=>by
    obtain⟨d,v,fp,k,st,rfl,r,hi,q⟩:=h;obtain⟨u,w',rfl,r1,r2⟩:=Z2y w;cases (show w'=Value.type c from r2)
    unfold iJ at hi;cases hT:tyN d with
    | none=>rw [hT] at hi;cases hi
    | some T=>exact Z4T I r r1 hT (hk d T k hT (by unfold iJ;exact hi)) fun tk=>⟨.bl k,H,I.tok tk,rfl,q⟩)
   hg hm uS (pa_cons ha (pa_cons (Z5l (v:=.ty c) hgc hmc hvc rfl hnc hdc) pa_nil he2) he) (by decide) (by decide) he hpl) fun σ H Q ⟨env,F,d,ok,e,q⟩=>by
  cases h1:fa env with
  | none=>simp only [h1] at e;cases e
  | some d' =>
   simp only [h1,Qbc] at e;cases h2:iJ c d' with
   | none=>rw [h2] at e;cases e
   | some k =>
    rw [h2] at e;cases e;exact⟨env,F,d',ok,h1,fun v H' fp s r c=>⟨d',v,fp,k,m1,rfl,r,h2,q _ _ _ s qC .nil⟩⟩
theorem qR (K:Frag):∀ d T k,tyN d=some T->iJ "list" d=some k->PySem.W.kitOne K (.type T) (.type "list")=some k:=by
 intro d T k h1 h2;unfold iJ at h2;rw [h1] at h2;cases d <;> simp only [tyN,Qba] at h1 <;> first | (subst h1;cases h2;rfl) | (cases h1)
theorem Z5M (K:Frag):∀ d T k,tyN d=some T->iJ "int" d=some k->PySem.W.kitOne K (.type T) (.type "int")=some k:=by
 intro d T k h1 h2;unfold iJ at h2;rw [h1] at h2;cases d <;> simp only [tyN,Qba] at h1 <;> first | (subst h1;cases h2;rfl) | (cases h1)
theorem Z3U (K:Frag):∀ d T k,tyN d=some T->iJ "bool" d=some k->PySem.W.kitOne K (.type T) (.type "bool")=some k:=by
 intro d T k h1 h2;unfold iJ at h2;rw [h1] at h2;cases d <;> simp only [tyN,Qba] at h1 <;> first | (subst h1;cases h2;rfl) | (cases h1)
theorem Z1W (K:Frag):∀ d T k,tyN d=some T->iJ "tuple" d=some k->PySem.W.kitOne K (.type T) (.type "tuple")=some k:=by
 intro d T k h1 h2;unfold iJ at h2;rw [h1] at h2;cases d <;> simp only [tyN,Qba] at h1 <;> first | (subst h1;cases h2;rfl) | (cases h1)
theorem Z5L (K:Frag):∀ d T k,tyN d=some T->iJ "str" d=some k->PySem.W.kitOne K (.type T) (.type "str")=some k:=by
 intro d T k h1 h2;unfold iJ at h2;rw [h1] at h2;cases d <;> simp only [tyN,Qba] at h1 <;> first | (subst h1;cases h2;rfl) | (cases h1)
theorem boot_bool:bootBuiltins "bool" = some (.type "bool"):=by decide +kernel
theorem boot_str:bootBuiltins "str" = some (.type "str"):=by decide +kernel
theorem eZ:OpR X (binaryOp .Mult) (rI IntMulOk fun i j=>.int (i * j)):=opI fun _ _ _ _ _ _ _ hc q=>PyProof.Rows.mul_int q hc
def dM (i j:Int):Prop:=0 < j /\ j.natAbs.log2 < 9000
theorem eT:OpR X (binaryOp .FloorDiv) (rI dM fun i j=>.int (i / j)):=opI fun i j _ _ _ _ _ hc q=>by
 have h1:(0:Int) < j:=hc.1;exact floordiv_int (by omega) (by rw [Int.fdiv_eq_ediv_of_nonneg i (by omega)];exact q) (.inl (PyProof.noPylong_of_log2 hc.2))
def mD:Ab D->Aa (Ab Int)
 | []=>some []
 | .int i :: r=>(mD r).map (i :: ·)
 | _ :: _=>none
theorem sZ {K:Frag}{st:Bool}:∀ {ds:Ab D}{ns:Ab Int}{vs:Ab V}{fp:Ab Af},mD ds=some ns->Reps K st H ds vs fp->vs=ns.map V.int
 | [],ns,vs,fp,h,r=>by simp only [mD] at h;cases h;simp only [Reps] at r;exact r.1
 | d :: ds,ns,vs,fp,h,r=>by
  simp only [Reps] at r;obtain⟨v,us,f1,f2,rfl,rfl,r1,r2⟩:=r;cases d with
  | int i =>
   simp only [mD] at h;cases hq:mD ds with
   | none=>rw [hq] at h;cases h
   | some ms =>
    rw [hq] at h;cases h;rw [bG r1,sZ hq r2];rfl
  | _=>simp only [mD] at h;cases h
def O8 (fa fb:En->Aa D):En->Aa D:=fun env=>match fa env,fb env with
 | some (.lst xs),some (.lst ys)=>if xs.length + ys.length <= 1000 then some (.lst (xs ++ ys)) else none
 | _,_=>none
theorem Z3a (ha:QE X true [] a fa) (hb:QE X true [] b fb):QE X true [] (.BinOp a .Add b pos) (O8 fa fb) :=
 .mk (L2.pe_op Z3v ha hb) fun σ H Q ⟨env,F,d,ok,e,q⟩=>by
  unfold O8 at e;split at e
  .rename_i xs ys h1 h2;split at e
   .rename_i hl;cases e;refine⟨env,F,_,ok,h1,fun v H1 f1 s1 r1 c1=>⟨env,F,_,ok.same s1,h2,fun u H2 f2 s2 r2 c2=>?_⟩⟩;have r1':=r1.same s2;obtain⟨a1,vs,g1,rfl,rfl,ha1,hr1⟩:=kL r1';obtain⟨a2,us,g2,rfl,rfl,ha2,hr2⟩:=kL r2;refine⟨a1,a2,vs,us,rfl,rfl,ha1,ha2,nJ (by rw [hr1.length,hr2.length];exact hl),fun p hp=>?_⟩;have hc1:=c1.2 rfl;have hc2:=c2.2 rfl;have nd:(g1 ++ g2).Nodup:=by
     refine QaT.mpr ⟨(QaO.mp hc1.1).2,(QaO.mp hc2.1).2,fun x hx y hy z=>?_⟩;obtain⟨o,ho⟩:=Rep.dom _ _ _ r1 x (Qae _ hx);rw [z,hc2.2 y (Qae _ hy)] at ho;cases ho
    have fr:∀ b ∈ g1 ++ g2,H b=none:=fun b hb=>(Qai.mp hb).elim (fun z=>hc1.2 b (Qae _ z)) fun z=>s1.free (hc2.2 b (Qae _ z));exact q _ _ (p :: (g1 ++ g2)) ((s1.trans s2).trans (bV hp)) (lO hp (hr1.append hr2)) (nE (s1.trans s2) hp (hr1.append hr2) ⟨fun b hb=>.inl (fr b hb),fun _=>⟨nd,fr⟩⟩)
   .cases e
  .cases e
def spI (K:Frag) (C:Af) (n:Nat) (f:Ab D->Aa D):Sp:=fun vs H Q _=>∃ x dx H0 us ds d fp,vs=.ref x :: us /\ H0 x=none /\ H0 dx=none /\ dx ≠ x /\ H=upd (upd H0 dx (.own x)) x (.ins C dx []) /\ ds.length=n /\ Reps K false H0 ds us fp /\ f ds=some d /\
 ∀ H' fp',Same H0 H'->Rep K true H' d (.ref x) fp'->(∀ b ∈ fp',H0 b=none)->fp'.Nodup->Q .non H'
theorem Z4I {K:Frag}{C:Af}{n:Nat}{f:Ab D->Aa D}{vs:Ab V}{H:Hp}{Q:VK}{E:XK}(h:spI K C n f vs H Q E):vs.length=n + 1:=by
 obtain⟨x,dx,H0,us,ds,d,fp,rfl,_,_,_,_,h1,h2,_⟩:=h;rw [Qal,h2.length,h1]
theorem Z52 (M:Mk X.K C fA) (G:bR X.prog X.w X.K X.mg X.base CX0 k fA fd ps (spI X.K C n F')) (hr:Room (k + 1) X.A) (hg:Gl X x) (hm:X.mg x=some (.ref C)) (hb:Binds X.K fd ps []) (ha:QA X m1 rs1 (e :: es) fs) (hn:∀ env xs,fs env=some xs->xs.length=n)
  (hdb:(x == ("__debug__" : Str))=false:=by decide) (he:starEach (e :: es) X.env=(false,eval e X.env) :: starEach es X.env:=by rfl) (hpl:(backTo pos (starEach es X.env)).any (·.1)=false:=by rfl) :
  QE X true [] (.Call (.Name x p) (e :: es) [] pos) (fun env=>(fs env).bind F') :=
 .mk (L2.pe_make M G hr hg hm hb .nil Z3m ha hdb he hpl) fun σ H Q ⟨env,F,d,ok,e,q⟩=>by
  cases h1:fs env with
  | none=>simp only [h1] at e;cases e
  | some xs =>
   simp only [h1,Qbc] at e;refine⟨env,F,xs,ok,h1,fun vs H1 fp s r c x dx hx hdx hne=>⟨x,dx,H1,vs ++ [],xs,d,fp,rfl,hx,hdx,hne,rfl,hn env xs h1,by rw [QaH];exact Reps.weak _ _ _ r,e,fun H' fp' s' r' fr nd=>⟨rfl,q _ H' fp' (s.trans s') r' ⟨fun b hb=>.inl (s.free (fr b hb)),fun _=>⟨nd,fun b hb=>s.free (fr b hb)⟩⟩⟩⟩⟩
structure aM (P:Program) (w:World) (K:Frag) (mg:Str->Option Value) (base:Heap) (x:Str) (dds:List D) (k n:Nat) (F':List D->Option D):Prop where
 ex:∃ fA fd ps dvs ds,bR P w K mg base CX0 k fA fd ps (spD K n F') /\ mg x=some (.ref fA) /\ keepIn K (.ref fA)=true /\ Binds K fd ps ds /\ Vals dvs ds /\ ∀ H,Reps K false H dds dvs []
def aJ (F':Ab D->Aa D) (dds:Ab D) (fs:En->Aa (Ab D)):En->Aa D:=fun env=>(fs env).bind fun xs=>F' (xs ++ dds)
def fB1 (F':Ab D->Aa D) (fs:En->Aa (Ab D)):En->Aa D:=fun env=>(fs env).bind F'
def sB1 (F':Ab D->Aa (Ab D)) (fs:En->Aa (Ab D)):En->Aa (Ab D):=fun env=>(fs env).bind F'
def uR (c:String) (fa:En->Aa D):En->Aa D:=fun env=>(fa env).bind fun d=>(iJ c d).map .bl
inductive NArgs:Nat->(En->Option (List D))->Prop
 | nil:NArgs 0 aH
 | cons {n:Nat}{f:En->Option D}{fs:En->Option (List D)}:NArgs n fs->NArgs (n + 1) (aC f fs)
theorem NArgs.len (h:NArgs n fs):∀ env xs,fs env=some xs->xs.length=n:=by
 induction h with
 | nil=>intro env xs e;cases e;rfl
 | cons h ih =>
  intro env xs e;unfold aC at e;split at e
  .rename_i d ds h1 h2;cases e;rw [Qal,ih env _ h2]
  .cases e
theorem Z6Y (c:aM X.prog X.w X.K X.mg X.base x dds k n F') (hr:Room k X.A) (hna:NArgs na fs) (hn:na + dds.length=n) (ha:QA X m1 rs1 (e :: es) fs) (hg:Gl X x:=by rfl)
  (hdb:(x == ("__debug__" : Str))=false:=by decide) (he:starEach (e :: es) X.env=(false,eval e X.env) :: starEach es X.env:=by rfl) (hpl:(backTo pos (starEach es X.env)).any (·.1)=false:=by rfl) :
  QE X true [] (.Call (.Name x p) (e :: es) [] pos) (aJ F' dds fs):=by
 obtain⟨fA,fd,ps,dvs,ds,G,hm,hk,hb,hd,hdd⟩:=c.ex;exact Z54 G hr hg hm hk hb hd hdd ha (fun env xs h=>by rw [hna.len env xs h];exact hn) hdb he hpl
structure Z4y (P:Program) (w:World) (K:Frag) (mg:Str->Option Value) (base:Heap) (x:Str) (C:Addr) (k n:Nat) (F':List D->Option D):Prop where
 ex:∃ fA fd ps,Mk K C fA /\ bR P w K mg base CX0 k fA fd ps (spI K C n F') /\ mg x=some (.ref C) /\ Binds K fd ps []
theorem Z8o (c:Z4y X.prog X.w X.K X.mg X.base x C k n F') (hr:Room (k + 1) X.A) (hna:NArgs n fs) (ha:QA X m1 rs1 (e :: es) fs) (hg:Gl X x:=by rfl)
  (hdb:(x == ("__debug__" : Str))=false:=by decide) (he:starEach (e :: es) X.env=(false,eval e X.env) :: starEach es X.env:=by rfl) (hpl:(backTo pos (starEach es X.env)).any (·.1)=false:=by rfl) :
  QE X true [] (.Call (.Name x p) (e :: es) [] pos) (fB1 F' fs):=by
 obtain⟨fA,fd,ps,M,G,hm,hb⟩:=c.ex;exact Z52 M G hr hg hm hb ha (fun env xs h=>hna.len env xs h) hdb he hpl
theorem cD (r:Room k A):A.units + 8 <= cLine:=by have:=r.un;omega
theorem gZ (i:Nat) (he:QE X true [] e f) (hN:X.N[i]? = some x:=by rfl) (hv:Vis X.env.scope x:=by first | exact Or.inl rfl | exact Or.inr (Or.inl rfl) | exact Or.inr (Or.inr rfl)) (hd:(x == ("__debug__" : Str))=false:=by decide) (hcd:(x == ("__classdict__" : Str))=false:=by decide)
  (hbase:attributeBase (.Name x p) "append" X.env (eval (.Name x p) X.env)=eval (.Name x p) X.env:=by rfl)
  (hfew:((backTo cpos (starEach [e] X.env)).all (fun x=>!x.1) && (backToKw cpos (keywordEach [] X.env)).all (fun x=>x.1.isSome)
   && decide (([e]:Ab Ag).length + ([]:Ab Keyword).length + (if ([]:Ab Keyword).isEmpty then 0 else 1) < 30))=true:=by rfl)
  (hline:(apos.endLine == cpos.line)=true:=by rfl) (hst:starEach [e] X.env=(false,eval e X.env) :: starEach [] X.env:=by rfl) (hplain:(backTo cpos (starEach [] X.env)).any (·.1)=false:=by rfl)
  (hs:swapsWith (.Call (.Attribute (.Name x p) "append" apos) [e] [] cpos) none pos.line X.env=pure false:=by rfl) :
  QS X (.Expr (.Call (.Attribute (.Name x p) "append" apos) [e] [] cpos) pos) (iG i f) :=
 Z1q hN hv he hd hcd hst (hpe:=Z8t PySem.F.plainAttrs_list PySem.F.slot_list_append PySem.F.type_list_append zA (lL hN hv hd hcd) (pa_cons he pa_nil hst) hbase hfew hline hst hplain) (hs:=hs)
theorem Z0u (i:Nat) (hk:QE X m2 rs2 k fk) (he:QE X m1 rs1 e f) (hN:X.N[i]? = some x:=by rfl) (hv:Vis X.env.scope x:=by first | exact Or.inl rfl | exact Or.inr (Or.inl rfl) | exact Or.inr (Or.inr rfl)) (hd:(x == ("__debug__" : Str))=false:=by decide) (hcd:(x == ("__classdict__" : Str))=false:=by decide)
  (ha:∀ v,assign (.Subscript (.Name x p) k spos) X.env v=(do
   let ov <- holding [v] (eval (.Name x p) X.env)
   let iv <- holding [v,ov] (eval k X.env)
   standAt spos
   holding [v,ov,iv] (setItem ov iv v)
   release [v,ov,iv] []):=by intro _;rfl)
  (hs:swapsWithSole [.Subscript (.Name x p) k spos] e pos.line X.env=pure false:=by rfl) (hw:swappedStores [.Subscript (.Name x p) k spos] e X.env=pure none:=by rfl) :
  QS X (.Assign [.Subscript (.Name x p) k spos] e pos) (L4 i fk f) :=
 Z6V hN hv he hk hd hcd (hps:=Z3h he (Z75 (lL hN hv hd hcd) hk Z2J ha) hs hw)
theorem C0 (he:QE X m rs e f) (hg:QG X tg t) (hs:swapsWithSole [tg] e pos.line X.env=pure false:=by rfl) (hw:swappedStores [tg] e X.env=pure none:=by rfl) (h1:(assignEach [tg] X.env).map (·.2)=[assign tg X.env]:=by rfl):QS X (.Assign [tg] e pos) (B9 rs t f) :=
 Z6T he hg hs hw (hps:=Z3h he hg hs hw h1)
def iP (i:Nat):En->Res:=fun env=>match env[i]? with | some (some (true,d))=>.ret d | _=>.bad
theorem Z6X:QE X m rs (.UnaryOp .USub (.Constant (.int i) k pp) pos) (fC (.int (-i))) :=
 .mk (pe_un Q9 L2.pe_int) fun σ H Q ⟨env,F,d,ok,e,q⟩=>by cases e;exact⟨i,rfl,q _ _ _ (Same.refl H) fN .nil⟩
theorem FunD.raw {P:Aj}{w:Ak}{K:Frag}{mg:Str->Aa Ad}{base:Ah}{x qual:Str}{st:Stmt}{f:Af}{fd:FuncData}{N ps:Ab Str}{k:Nat}{sp:Sp}(F:FunD K x qual st f fd) (S:aP N ps (aI st)) (len:∀ vs H Q E,sp vs H Q E->vs.length=ps.length)
  (hbody:∀ (cdv:Ad) (A:Ai) (outer:Ab Env) (s:Ac) (H:Hp) (vs:Ab V) (Q:VK) (E:XK),Room k (A.deeper (envOfC qual (aI st) s.heap.objs.size f cdv))->sp vs H Q E ->
   ∃ t,PSs (tJ CX0 P w K mg base N qual (aI st) f cdv A outer s H E).nox (bS st) t /\ t { nx:=fun _ H'=>Q .non H',rt:=Q } (L2.start N vs) H):bR P w K mg base CX0 (k + 1) f fd ps sp:=by
 obtain⟨oc,od,dV,kV,doc,pm,an,cdv,ct,osl,rfl,lk,hcd⟩:=F.ex;refine Z49 lk hcd S len fun A outer s H vs Q E hr hsp=>?_;obtain⟨t,h,q⟩:=hbody cdv A outer s H vs Q E hr hsp;exact⟨t,h.nox,q⟩
theorem Z8D {K:Frag}{C x dx:Af}{H0:Hp}{σ:L2.St}{us:Ab V}{ds:Ab D}{fp:Ab Af}{n1 n2 n3:Str}{f1 f2 f3:En->Aa D}{env:En}{d1 d2 d3:D}{E:Z2s}{F:Nat->Ab Af}
  (hx:H0 x=none) (hdx:H0 dx=none) (hne:dx ≠ x) (ok:EnvOk K H0 σ env F) (h0:σ[0]? = some (some (.ref x))) (e1:f1 env=some d1) (e2:f2 env=some d2) (e3:f3 env=some d3)
  (hC:Cls K C) (a1:NoAttr K C n1) (a2:NoAttr K C n2) (a3:NoAttr K C n3) (k12:¬ n1=n2) (k13:¬ n1=n3) (k23:¬ n2=n3)
  (q:∀ H' fp',Same H0 H'->Rep K true H' (.obj C [n1,n2,n3] [d1,d2,d3]) (.ref x) fp'->(∀ b ∈ fp',H0 b=none)->fp'.Nodup->E.nx σ H') :
  Z6H (Z4R K (R9 0) (tD K true [] f1) n1) (Z6H (Z4R K (R9 0) (tD K true [] f2) n2) (Z4R K (R9 0) (tD K true [] f3) n3)) E σ (upd (upd H0 dx (.own x)) x (.ins C dx [])):=by
 have hx':upd H0 dx (.own x) x=none:=by rw [aT (Ne.symm hne)];exact hx
 have s0:Same H0 (upd (upd H0 dx (.own x)) x (.ins C dx [])):=(bV hdx).trans (bV hx');have stp:∀ {Ha Hb:Hp}{o:HO},Same H0 Ha->Same Ha Hb->Same H0 (upd Hb x o):=fun {Ha Hb o} sa sb b u e=>by
  rw [aT (aU e hx)];exact sb _ _ (sa _ _ e)
 have p1:∀ y1:V,kB n1 y1 []=[(n1,y1)]:=fun _=>rfl;have p2:∀ y1 y2:V,kB n2 y2 [(n1,y1)]=[(n1,y1),(n2,y2)]:=fun y1 y2=>by simp [kB,k12]
 have p3:∀ y1 y2 y3:V,kB n3 y3 [(n1,y1),(n2,y2)]=[(n1,y1),(n2,y2),(n3,y3)]:=fun y1 y2 y3=>by simp [kB,k13,k23]
 refine⟨env,F,d1,ok.same s0,e1,fun y1 H1 g1 s1 r1 c1=>⟨.ref x,h0,x,C,dx,[],rfl,s1 _ _ bE,hC,a1,by show 0 < 1000;decide,?_⟩⟩;rw [p1];have S1:Same H0 (upd H1 x (.ins C dx [(n1,y1)])):=stp s0 s1;refine⟨env,F,d2,ok.same S1,e2,fun y2 H2 g2 s2 r2 c2=>⟨.ref x,h0,x,C,dx,[(n1,y1)],rfl,s2 _ _ bE,hC,a2,by show 1 < 1000;decide,?_⟩⟩;rw [p2];have S2:Same H0 (upd H2 x (.ins C dx [(n1,y1),(n2,y2)])):=stp S1 s2;refine⟨env,F,d3,ok.same S2,e3,fun y3 H3 g3 s3 r3 c3=>⟨.ref x,h0,x,C,dx,[(n1,y1),(n2,y2)],rfl,s3 _ _ bE,hC,a3,by show 2 < 1000;decide,?_⟩⟩;rw [p3];have S3:Same H0 (upd H3 x (.ins C dx [(n1,y1),(n2,y2),(n3,y3)])):=stp S2 s3;have x1:H1 x=some (.ins C dx []):=s1 _ _ bE;have x2:H2 x=some (.ins C dx [(n1,y1)]):=s2 _ _ bE;have x3:H3 x=some (.ins C dx [(n1,y1),(n2,y2)]):=s3 _ _ bE;have hc1:=c1.2 rfl;have hc2:=c2.2 rfl;have hc3:=c3.2 rfl;have nx1:x ∉ g1:=fun z=>by have:=hc1.2 x z;rw [bE] at this;cases this
 have nx2:x ∉ g2:=fun z=>by have:=hc2.2 x z;rw [bE] at this;cases this
 have nx3:x ∉ g3:=fun z=>by have:=hc3.2 x z;rw [bE] at this;cases this
 have ku:∀ {Ha:Hp}{o o':HO}{fp:Ab Af},Ha x=some o->(∀ xs,o ≠ .tup xs)->(∀ a b,o ≠ .frz a b)->x ∉ fp->Kp fp Ha (upd Ha x o'):=fun h m f n=>Kp.upd h m f n;have R1:=Rep.keep _ _ _ (ku (o':=.ins C dx [(n1,y1)]) x1 (by intro xs z;cases z) (by intro a b z;cases z) nx1) r1;have R1':=Rep.keep _ _ _ (ku (o':=.ins C dx [(n1,y1),(n2,y2)]) x2 (by intro xs z;cases z) (by intro a b z;cases z) nx1) (R1.same s2);have R1'':=Rep.keep _ _ _ (ku (o':=.ins C dx [(n1,y1),(n2,y2),(n3,y3)]) x3 (by intro xs z;cases z) (by intro a b z;cases z) nx1) (R1'.same s3);have R2:=Rep.keep _ _ _ (ku (o':=.ins C dx [(n1,y1),(n2,y2)]) x2 (by intro xs z;cases z) (by intro a b z;cases z) nx2) r2;have R2':=Rep.keep _ _ _ (ku (o':=.ins C dx [(n1,y1),(n2,y2),(n3,y3)]) x3 (by intro xs z;cases z) (by intro a b z;cases z) nx2) (R2.same s3);have R3:=Rep.keep _ _ _ (ku (o':=.ins C dx [(n1,y1),(n2,y2),(n3,y3)]) x3 (by intro xs z;cases z) (by intro a b z;cases z) nx3) r3;have d12:∀ a ∈ g1,∀ b ∈ g2,a ≠ b:=fun a ha b hb z=>by
  obtain⟨o,ho⟩:=Rep.dom _ _ _ R1 a ha;rw [z,hc2.2 b hb] at ho;cases ho
 have d13:∀ a ∈ g1,∀ b ∈ g3,a ≠ b:=fun a ha b hb z=>by
  obtain⟨o,ho⟩:=Rep.dom _ _ _ R1' a ha;rw [z,hc3.2 b hb] at ho;cases ho
 have d23:∀ a ∈ g2,∀ b ∈ g3,a ≠ b:=fun a ha b hb z=>by
  obtain⟨o,ho⟩:=Rep.dom _ _ _ R2 a ha;rw [z,hc3.2 b hb] at ho;cases ho
 refine q _ (x :: (g1 ++ (g2 ++ (g3 ++ [])))) S3 ?_ (fun b hb=>?_) ?_
 .simp only [Rep,Reps];exact⟨x,dx,[y1,y2,y3],g1 ++ (g2 ++ (g3 ++ [])),rfl,rfl,bE,rfl,y1,[y2,y3],g1,_,rfl,rfl,R1'',y2,[y3],g2,_,rfl,rfl,R2',y3,[],g3,[],rfl,rfl,R3,rfl,rfl⟩
 .rcases Qaf.mp hb with z | z
  .rw [z];exact hx
  .rw [QaH] at z;rcases Qai.mp z with z | z
   .exact s0.free (hc1.2 b z)
   .rcases Qai.mp z with z | z
    .exact S1.free (hc2.2 b z)
    .exact S2.free (hc3.2 b z)
 .rw [QaH];refine QaO.mpr ⟨fun z=>?_,QaT.mpr ⟨hc1.1,QaT.mpr ⟨hc2.1,hc3.1,d23⟩,fun a ha b hb=>?_⟩⟩
  .rcases Qai.mp z with z | z
   .exact nx1 z
   .rcases Qai.mp z with z | z
    .exact nx2 z
    .exact nx3 z
  .rcases Qai.mp hb with z | z
   .exact d12 a ha b z
   .exact d13 a ha b z
end PD
namespace Att
open PySem PySem.W PySem.Calls PyProof.Rows
theorem mF:∀ {ns:Ab Int}{i:Int},i ∈ ns->WData.weight (.int i) <= WData.weightAll (ns.map WData.int)
 | [],i,h=>nomatch h
 | n :: ns,i,h=>by
  simp only [Qao,WData.weightAll];rcases Qaf.mp h with z | z
  .subst z;omega
  .have:=mF z;omega
theorem Q0 {ns:Ab Int}(h:WData.layableAll [WData.list (ns.map WData.int)]=true):∀ i ∈ ns,Builtin.Int.intBits i <= 1048576:=fun i hi=>by
 simp only [WData.layableAll,List.all_cons,List.all_nil,Bool.and_true,WData.layable,QaU,RA,WData.weight] at h;have h1:=mF hi;have h2:WData.weight (.int i)=Builtin.Int.intBits i:=by simp only [WData.weight,Builtin.Int.intBits]
 rw [h2] at h1;have h3:WData.weightAll (List.map WData.int ns) <= 2 ^ 20:=of_decide_eq_true h.2;exact QaV h1 h3
theorem attach_callB {l:OpenLaw}
  (hn:l.most=some n) (hdf:d.params.defaults=[])
  (call:∀ (w:Ak) (s₀ s₁:Ac) (mg mb:Str->Aa Ad) (fa:Af) (o:Obj) (pm cd doc:Ad) (a:Af) (vs:Ab Ad) (ns:Ab Int),
   (∀ i ∈ ns,Builtin.Int.intBits i <= 1048576)->Ground q loose [] XP w s₀ mg mb s₁.heap->YP w s₁.heap ->
   s₁.heap.get? fa=some o->o.data=.func (docDef d.name d.params d.body d.scope pm cd doc)->s₁.heap.CodeRec cd d.name->mg d.name=some (.ref fa) ->
   s₁.heap.get? a=some { cls:=.type "list",data:=.seq vs.toArray }->IntsAre vs ns->ns.length <= n->s₁.gens = #[] ->
   codeAny (model l.prog w) callerA (.call (.ref fa) ⟨[.ref a],[]⟩) (fun r s'=>r=.ok (.ret (.bool true)) /\ OldK s₁.heap s'.heap /\ s'.os=s₁.os /\ AllBare s'.gens) s₁) :
  WalkO q loose XP YP l.row.toRowW d [] (fun f vs=>PySem.call f vs):=by
 intro w s₀ s₁ mg mb G Y fa o pm cd doc dV kV ho hd hcd hD hmg hg args vals as hpre hlay hrd hwl hlo;obtain rfl:dV=.none:=Dflts.none hD hdf;obtain rfl:kV=.none:=Dflts.noKw hD;obtain⟨a,vs,ns,rfl,rfl,hobj,hints,hlen⟩:=Z1e hn hpre hwl;refine enter_call (Ro (call w s₀ s₁ mg mb fa o pm cd doc a vs ns (Q0 hlay) G Y ho (fd_plain hd) hcd hmg hobj hints hlen hg) fun r s' hq=>?_);obtain⟨rfl,h2,h3,h4⟩:=hq;exact⟨.inl ⟨.bool true,.bool true,[],rfl,fun _=>rfl,.bool true,Z1w l _,fun _=>⟨List.Pairwise.nil,fun _ hm=>(nomatch hm)⟩⟩,h2,h3,h4⟩
end Att
namespace PD
open PySem PySem.Spec PyProof.Rows L2
theorem kK {K:Frag}{st:Bool}:∀ (ns:Ab Int),Reps K st H (ns.map D.int) (ns.map V.int) []
 | []=>by simp only [Qbi,Reps];exact⟨trivial,trivial⟩
 | n :: ns=>by simp only [Qao,Reps];exact⟨.int n,ns.map V.int,[],[],rfl,rfl,fN,kK ns⟩
def dO (i j:Int):Prop:=0 <= j /\ (Builtin.Int.intBits i:Int) + j <= 2 ^ 27
theorem dU:OpR X (binaryOp .LShift) (rI dO fun i j=>.int (i * 2 ^ j.toNat)):=opI fun _ _ _ _ _ _ _ hc q=>PyProof.Rows.lshift_int hc.1 hc.2 q
theorem uZ (h:Builtin.Int.intBits i <= n) (h0:0 <= j) (h1:(n:Int) + j <= 100000000):dO i j:=by
 have e:(2:Int) ^ 27=134217728:=by decide
 refine⟨h0,?_⟩;rw [e];omega
theorem jM (h0:0 <= j) (h1:j <= 1000000):dO 1 j:=uZ (n:=64) (PySem.intBits_le_64 (by decide) (by decide)) h0 (by omega)
theorem qp (h:QE X true [] e f):QE X true [] e f:=h
open PySem PySem.Spec PyProof.Rows L2 PySem.SeqAt
section
variable {X:Cx}{pins:Ab (Af × Obj)}{σ:L2.St}{H:Hp}{s:Ac}
theorem Z3B (h1:s.heap.IsTuple p xs) (h2:s.heap.IsList p ys):False:=by
 obtain⟨o,a1,a2,_⟩:=h1;obtain⟨o',b1,b2,_⟩:=h2;rw [a1] at b1;cases b1;rw [a2] at b2;exact absurd b2 (by simp)
def G4:D->Prop
 | .obj _ _ _=>False
 | .dk _ _=>False
 | .dt _ _=>False
 | .exc _=>False
 | .fn _ _ _=>False
 | _=>True
theorem Z62:eqN n (.obj C ns xs) x=none:=by cases n <;> cases x <;> simp only [eqN]
theorem Z7u:eqN n (.dk ns xs) x=none:=by cases n <;> cases x <;> simp only [eqN]
theorem Z7t:eqN n (.dt ns xs) x=none:=by cases n <;> cases x <;> simp only [eqN]
theorem Z64:eqN n (.exc C) x=none:=by cases n <;> cases x <;> simp only [eqN]
theorem Z7s:eqN n (.fn a vs ds) x=none:=by cases n <;> cases x <;> simp only [eqN]
theorem yS (e:eqN n a x=some k):G4 a:=by
 cases a with
 | obj C ns xs=>rw [Z62] at e;cases e
 | dk ns xs=>rw [Z7u] at e;cases e
 | dt ns xs=>rw [Z7t] at e;cases e
 | exc C=>rw [Z64] at e;cases e
 | fn _ _ _=>rw [Z7s] at e;cases e
 | _=>trivial
theorem Z2W (I:Inv X pins σ H s) {a b:D}{v:V}{f1 f2:Ab Af}(ra:Rep X.K st1 H a v f1) (rb:Rep X.K st2 H b v f2) (ha:G4 a) (hb:G4 b) :
  a=b \/ (∃ xs ys vs g1 g2,a=.tup xs /\ b=.tup ys /\ Reps X.K st1 H xs vs g1 /\ Reps X.K st2 H ys vs g2) \/ (∃ xs ys vs g1 g2,a=.lst xs /\ b=.lst ys /\ Reps X.K st1 H xs vs g1 /\ Reps X.K st2 H ys vs g2):=by
 have tl:∀ {xs ys:Ab D}{st st':Bool}{v:V}{g g':Ab Af},Rep X.K st H (.tup xs) v g->Rep X.K st' H (.lst ys) v g'->False:=by
  intro xs ys st st' v g g' r1 r2;simp only [Rep] at r1;obtain⟨p,vs,rfl,hs,_⟩:=r1;obtain⟨p',us,_,e,hs',_,_⟩:=bX r2;cases e;obtain⟨_,_,pl,_⟩:=I.tuple hs;obtain⟨_,_,pl2,_⟩:=I.list hs';exact Z3B pl pl2.isList
 have sc:∀ {d:D}{st:Bool}{v:V}{g:Ab Af},Rep X.K st H d v g->G4 d->(∀ p,v ≠ .ref p)->(d=.non /\ v=.non) \/ (∃ b,d=.bl b /\ v=.bl b) \/ (∃ i,d=.int i /\ v=.int i) \/ (∃ z,d=.str z /\ v=.str z):=by
  intro d st v g r ho hv;cases d with
  | non=>exact .inl ⟨rfl,eB r⟩
  | bl b=>exact .inr (.inl ⟨b,rfl,gS r⟩)
  | int b=>exact .inr (.inr (.inl ⟨b,rfl,bG r⟩))
  | str b=>exact .inr (.inr (.inr ⟨b,rfl,eS r⟩))
  | tup xs=>simp only [Rep] at r;obtain⟨p,_,e,_⟩:=r;exact absurd e (hv p)
  | lst xs=>obtain⟨p,_,_,e,_⟩:=bX r;exact absurd e (hv p)
  | obj _ _ _=>exact ho.elim
  | dk _ _=>exact ho.elim
  | dt _ _=>exact ho.elim
  | exc _=>exact ho.elim
  | fn _ _ _=>exact ho.elim
 by_cases hv:∃ p,v=.ref p
 .obtain⟨p,rfl⟩:=hv;cases a with
  | non=>have:=eB ra;cases this
  | bl b=>have:=gS ra;cases this
  | int b=>have:=bG ra;cases this
  | str b=>have:=eS ra;cases this
  | obj _ _ _=>exact ha.elim
  | dk _ _=>exact ha.elim
  | dt _ _=>exact ha.elim
  | exc _=>exact ha.elim
  | fn _ _ _=>exact ha.elim
  | tup xs =>
   cases b with
   | non=>have:=eB rb;cases this
   | bl b=>have:=gS rb;cases this
   | int b=>have:=bG rb;cases this
   | str b=>have:=eS rb;cases this
   | obj _ _ _=>exact hb.elim
   | dk _ _=>exact hb.elim
   | dt _ _=>exact hb.elim
   | exc _=>exact hb.elim
   | fn _ _ _=>exact hb.elim
   | lst ys=>exact (tl ra rb).elim
   | tup ys =>
    simp only [Rep] at ra rb;obtain⟨q,vs,e,hs,hr⟩:=ra;obtain⟨q',us,e',hs',hr'⟩:=rb;cases e;cases e';obtain rfl:=I.tuple_inj hs hs';exact .inr (.inl ⟨xs,ys,_,_,_,rfl,rfl,hr,hr'⟩)
  | lst xs =>
   cases b with
   | non=>have:=eB rb;cases this
   | bl b=>have:=gS rb;cases this
   | int b=>have:=bG rb;cases this
   | str b=>have:=eS rb;cases this
   | obj _ _ _=>exact hb.elim
   | dk _ _=>exact hb.elim
   | dt _ _=>exact hb.elim
   | exc _=>exact hb.elim
   | fn _ _ _=>exact hb.elim
   | tup ys=>exact (tl rb ra).elim
   | lst ys =>
    obtain⟨q,vs,_,e,hs,hr,_⟩:=bX ra;obtain⟨q',us,_,e',hs',hr',_⟩:=bX rb;cases e;cases e';obtain rfl:=I.list_inj hs hs';exact .inr (.inr ⟨xs,ys,_,_,_,rfl,rfl,hr,hr'⟩)
 .have hv':∀ p,v ≠ .ref p:=fun p e=>hv ⟨p,e⟩;left;rcases sc ra ha hv' with ⟨rfl,h⟩ | ⟨b',rfl,h⟩ | ⟨i,rfl,h⟩ | ⟨z,rfl,h⟩ <;> rcases sc rb hb hv' with ⟨rfl,k⟩ | ⟨b'',rfl,k⟩ | ⟨j,rfl,k⟩ | ⟨y,rfl,k⟩ <;> first | rfl | (have z:=h.symm.trans k;cases z;rfl) | (have z:=h.symm.trans k;cases z;done)
theorem Z4f (I:Inv X pins σ H s):∀ (n:Nat) (a b x:D) (v:V) (f1 f2:Ab Af) (k k':Bool),Rep X.K st1 H a v f1->Rep X.K st2 H b v f2->eqN n a x=some k->eqN n b x=some k'->k=k':=by
 intro n
 induction n with
 | zero=>intro a b x v f1 f2 k k' _ _ e;simp [eqN] at e
 | succ n ih =>
  have seq:∀ (xs ys zs:Ab D) (vs:Ab V) (f1 f2:Ab Af) (k k':Bool),Reps X.K st1 H xs vs f1->Reps X.K st2 H ys vs f2->eqL (eqN n) xs zs=some k->eqL (eqN n) ys zs=some k'->k=k':=by
   intro xs
   induction xs with
   | nil =>
    intro ys zs vs f1 f2 k k' r1 r2 e e';have l1:=r1.length;have l2:=r2.length;have:ys=[]:=by rw [<- List.length_eq_zero_iff,<- l2,l1];rfl
    subst this;rw [e] at e';cases e';rfl
   | cons x xs ihx =>
    intro ys zs vs f1 f2 k k' r1 r2 e e';cases ys with
    | nil =>
     have l1:=r1.length;have l2:=r2.length;rw [l1] at l2;simp at l2
    | cons y ys =>
     cases zs with
     | nil=>simp only [eqL] at e e';cases e;cases e';rfl
     | cons z zs =>
      simp only [Reps] at r1 r2;obtain⟨v,us,g1,g2,rfl,_,a1,a2⟩:=r1;obtain⟨v',us',g3,g4,e0,_,b1,b2⟩:=r2;cases e0;simp only [eqL] at e e';split at e
      .rename_i c d h1 h2;cases e;split at e'
       .rename_i c' d' h1' h2';cases e';rw [ih _ _ _ _ _ _ _ _ a1 b1 h1 h1',ihx _ _ _ _ _ _ _ a2 b2 h2 h2']
       .cases e'
      .cases e
  intro a b x v f1 f2 k k' ra rb e e';have ha:=yS e;have hb:=yS e';rcases Z2W I ra rb ha hb with rfl | ⟨xs,ys,vs,g1,g2,rfl,rfl,r1,r2⟩ | ⟨xs,ys,vs,g1,g2,rfl,rfl,r1,r2⟩
  .rw [e] at e';cases e';rfl
  .have l1:=r1.length;have l2:=r2.length;cases x with
   | tup zs =>
    simp only [eqN] at e e';cases h1:eqL (eqN n) xs zs with
    | none=>rw [h1] at e;cases e
    | some c =>
     cases h2:eqL (eqN n) ys zs with
     | none=>rw [h2] at e';cases e'
     | some c' =>
      rw [h1] at e;rw [h2] at e';cases e;cases e';rw [seq _ _ _ _ _ _ _ _ r1 r2 h1 h2,<- l1,<- l2]
   | non=>simp only [eqN] at e e';cases e;cases e';rfl
   | _=>simp only [eqN] at e;cases e
  .have l1:=r1.length;have l2:=r2.length;cases x with
   | lst zs =>
    simp only [eqN] at e e';by_cases hl:vs.length=zs.length
    .rw [if_pos (by omega)] at e e';exact seq _ _ _ _ _ _ _ _ r1 r2 e e'
    .rw [if_neg (by omega)] at e e';cases e;cases e';rfl
   | non=>simp only [eqN] at e e';cases e;cases e';rfl
   | _=>simp only [eqN] at e;cases e
end
def inD (x:D):Ab D->Aa Bool
 | []=>some false
 | y :: ys=>match eqN 8 y x,inD x ys with
  | some a,some b=>some (a || b)
  | _,_=>none
theorem Z0K:∀ {ys:Ab D}{k:Bool},inD x ys=some k->(∀ (i:Nat) (y:D),ys[i]? = some y->∃ c,eqN 8 y x=some c) /\ (k=true ↔ ∃ (i:Nat) (y:D),ys[i]? = some y /\ eqN 8 y x=some true)
 | [],k,h=>by simp only [inD] at h;cases h;exact⟨fun i y e=>by simp at e,by simp⟩
 | y :: ys,k,h=>by
  simp only [inD] at h;split at h
  .rename_i a b h1 h2;cases h;obtain⟨g1,g2⟩:=Z0K h2;refine⟨fun i z e=>?_,?_⟩
   .cases i with
    | zero=>simp at e;subst e;exact⟨a,h1⟩
    | succ i=>exact g1 i z (by simpa using e)
   .rw [Bool.or_eq_true,g2];constructor
    .rintro (z | ⟨i,z,e1,e2⟩)
     .exact⟨0,y,rfl,by rw [h1,z]⟩
     .exact⟨i + 1,z,by simpa using e1,e2⟩
    .rintro⟨i,z,e1,e2⟩;cases i with
     | zero=>simp at e1;subst e1;rw [h1] at e2;cases e2;exact .inl rfl
     | succ i=>exact .inr ⟨i,z,by simpa using e1,e2⟩
  .cases h
theorem E1 (I:Inv X pins σ H s) {A:Ai}{x:D}{ys:Ab D}{v:V}{vs:Ab V}{u:Ad}{its:Ab Ad}{f g:Ab Af}{k:Bool}(hu:A.units + 8 <= cLine) (rx:Rep X.K st1 H x v f) (rv:RelV v u) (r:Reps X.K st2 H ys vs g) (w:Vals vs its) (h:inD x ys=some k) :
  ∃ e:Ad->Bool,(∀ y ∈ its,EqAt A s y u (e y)) /\ its.any e=k:=by
 obtain⟨h1,h2⟩:=Z0K h
 classical
 have at_:∀ (i:Nat) (y:Ad),its[i]? = some y->∃ (z:D) (vz:V) (fz:Ab Af),ys[i]? = some z /\ Rep X.K st2 H z vz fz /\ RelV vz y:=by
  intro i y e;have hi:i < its.length:=(Qac.mp e).1;have l1:=r.length;have l2:=w.length;have hy:i < ys.length:=by omega
  obtain⟨vz,fz,a1,a2,_⟩:=r.get (Qad hy);obtain⟨y',c1,c2⟩:=w.get a1;rw [e] at c1;cases c1;exact⟨_,vz,fz,Qad hy,a2,c2⟩
 let e:Ad->Bool:=fun y=>decide (∃ (i:Nat) (z:D),its[i]? = some y /\ ys[i]? = some z /\ eqN 8 z x=some true)
 have key:∀ (i:Nat) (y:Ad) (z:D) (c:Bool),its[i]? = some y->ys[i]? = some z->eqN 8 z x=some c->e y=c:=by
  intro i y z c a1 a2 a3;by_cases hh:∃ (i:Nat) (z:D),its[i]? = some y /\ ys[i]? = some z /\ eqN 8 z x=some true
  .have:e y=true:=Rz hh;rw [this];obtain⟨j,z',b1,b2,b3⟩:=hh;obtain⟨z1,v1,g1,c1,c2,c3⟩:=at_ i y a1;obtain⟨z2,v2,g2,d1,d2,d3⟩:=at_ j y b1;rw [a2] at c1;cases c1;rw [b2] at d1;cases d1;have hvv:v1=v2:=RelV.inj c3 d3;subst hvv;exact (Z4f I 8 _ _ _ _ _ _ _ _ d2 c2 b3 a3)
  .have:e y=false:=Ry hh;rw [this];cases c with
   | false=>rfl
   | true=>exact absurd ⟨i,z,a1,a2,a3⟩ hh
 refine⟨e,fun y hy=>?_,?_⟩
 .obtain⟨i,hi⟩:=List.getElem?_of_mem hy;obtain⟨z,vz,g,c1,c2,c3⟩:=at_ i y hi;obtain⟨c,hc⟩:=h1 i z c1;rw [key i y z c hi c1 hc];exact (Z4e I 8 A z x vz v y u g f c hu c2 rx c3 rv hc).1
 .rw [Bool.eq_iff_iff,List.any_eq_true,h2];constructor
  .rintro⟨y,hy,he⟩;have:=of_decide_eq_true he;obtain⟨i,z,_,a2,a3⟩:=this;exact⟨i,z,a2,a3⟩
  .rintro⟨i,z,a2,a3⟩;have l1:=r.length;have l2:=w.length;have hi:i < its.length:=by have:=(Qac.mp a2).1;omega
   exact⟨its[i],List.getElem_mem hi,by rw [key i _ z true (Qad hi) a2 a3]⟩
def inF:D->D->Aa Bool
 | x,.lst ys=>inD x ys
 | x,.tup ys=>inD x ys
 | .str i,.str j=>some (!(Builtin.Str.occurrences j i 0 j.length 1).isEmpty)
 | _,_=>none
def fIn (fa fb:En->Aa D):En->Aa Bool:=fun env=>match fa env,fb env with
 | some x,some y=>inF x y
 | _,_=>none
def Z8i (neg:Bool) (K:Frag):R2:=fun v u H Q=>∃ a b f1 f2 k st1 st2,Rep K st1 H a v f1 /\ Rep K st2 H b u f2 /\ inF a b=some k /\ Q (.bl (if neg then !k else k)) H
theorem Z7d (hu:X.A.units + 9 <= cLine):OpR X (compareOp .In) (Z8i false X.K):=by
 rintro pins s σ H x y v u Q I rx ry ⟨a,b,f1,f2,k,st1,st2,r1,r2,e,q⟩;cases b with
 | lst ys =>
  obtain⟨p,vs,_,rfl,hs,hr,_⟩:=bX r2;cases ry;obtain⟨its,w,pl,hz⟩:=I.list hs;obtain⟨ee,h1,h2⟩:=E1 (A:=X.A.in1) I (by rw [kQ];omega) r1 rx hr w (show inD a ys=some k from e)
  refine SeqAt.in_listAt ee pl.isList (fun y hy=>h1 y (by simpa using hy)) ⟨.bl _,H,I,rfl,?_⟩;rw [show its.toArray.any ee=its.any ee by simp,h2];exact q
 | tup ys =>
  simp only [Rep] at r2;obtain⟨p,vs,rfl,hs,hr⟩:=r2;cases ry;obtain⟨its,w,pl,hz⟩:=I.tuple hs;obtain⟨ee,h1,h2⟩:=E1 (A:=X.A.in1) I (by rw [kQ];omega) r1 rx hr w (show inD a ys=some k from e)
  refine SeqAt.in_tupleAt ee pl (fun y hy=>h1 y (by simpa using hy)) ⟨.bl _,H,I,rfl,?_⟩;rw [show its.toArray.any ee=its.any ee by simp,h2];exact q
 | str j =>
  cases a with
  | str i =>
   have e1:=eS r1;have e2:=eS r2;subst e1 e2;have e3:k=_:=(QaS e).symm;subst e3;exact Z1D pins s σ H _ _ v u Q I rx ry ⟨i,j,rfl,rfl,q⟩
  | _=>simp only [inF] at e;cases e
 | _=>cases a <;> (simp only [inF] at e;cases e)
theorem Z1C (hu:X.A.units + 9 <= cLine):OpR X (compareOp .NotIn) (Z8i true X.K):=by
 rintro pins s σ H x y v u Q I rx ry ⟨a,b,f1,f2,k,st1,st2,r1,r2,e,q⟩;cases b with
 | lst ys =>
  obtain⟨p,vs,_,rfl,hs,hr,_⟩:=bX r2;cases ry;obtain⟨its,w,pl,hz⟩:=I.list hs;obtain⟨ee,h1,h2⟩:=E1 (A:=X.A.in1) I (by rw [kQ];omega) r1 rx hr w (show inD a ys=some k from e)
  refine SeqAt.notIn_listAt ee pl.isList (fun y hy=>h1 y (by simpa using hy)) ⟨.bl _,H,I,rfl,?_⟩;rw [show its.toArray.any ee=its.any ee by simp,h2];exact q
 | tup ys =>
  simp only [Rep] at r2;obtain⟨p,vs,rfl,hs,hr⟩:=r2;cases ry;obtain⟨its,w,pl,hz⟩:=I.tuple hs;obtain⟨ee,h1,h2⟩:=E1 (A:=X.A.in1) I (by rw [kQ];omega) r1 rx hr w (show inD a ys=some k from e)
  refine SeqAt.notIn_tupleAt ee pl (fun y hy=>h1 y (by simpa using hy)) ⟨.bl _,H,I,rfl,?_⟩;rw [show its.toArray.any ee=its.any ee by simp,h2];exact q
 | str j =>
  cases a with
  | str i =>
   have e1:=eS r1;have e2:=eS r2;subst e1 e2;have e3:k=_:=(QaS e).symm;subst e3;exact C5 pins s σ H _ _ v u Q I rx ry ⟨i,j,rfl,rfl,q⟩
  | _=>simp only [inF] at e;cases e
 | _=>cases a <;> (simp only [inF] at e;cases e)
theorem rD (e:fIn fa fb env=some bb):∃ x y,fa env=some x /\ fb env=some y /\ inF x y=some bb:=by
 unfold fIn at e;split at e
 .rename_i x y h1 h2;exact⟨x,y,h1,h2,e⟩
 .cases e
theorem Z6s (hu:X.A.units + 9 <= cLine) (ha:QE X m1 rs1 a fa) (hb:QE X m2 rs2 b fb) (hm:behindInMarks .In b=false:=by with_unfolding_all rfl):QT X (.Compare a [.In] [b] pos) (fIn fa fb) :=
 pD (Z7d hu) ha hb hm (fun env x y K H v u f1 f2 Q bb e ea eb r1 r2 hK q=>by
  subst hK;obtain⟨x',y',h1,h2,h3⟩:=rD e;rw [ea] at h1;rw [eb] at h2;cases h1;cases h2;exact⟨x,y,f1,f2,bb,_,_,r1,r2,h3,q⟩) fun env bb e=>let ⟨x,y,h1,h2,_⟩:=rD e;⟨x,y,h1,h2⟩
theorem Z2Y (hu:X.A.units + 9 <= cLine) (ha:QE X m1 rs1 a fa) (hb:QE X m2 rs2 b fb) (hm:behindInMarks .NotIn b=false:=by with_unfolding_all rfl):QT X (.Compare a [.NotIn] [b] pos) (eO (fIn fa fb)) :=
 pD (Z1C hu) ha hb hm (fun env x y K H v u f1 f2 Q bb e ea eb r1 r2 hK q=>by
  subst hK;unfold eO at e;cases h:fIn fa fb env with
  | none=>rw [h] at e;cases e
  | some k =>
   rw [h] at e;cases e;obtain⟨x',y',h1,h2,h3⟩:=rD h;rw [ea] at h1;rw [eb] at h2;cases h1;cases h2;exact⟨x,y,f1,f2,k,_,_,r1,r2,h3,q⟩) fun env bb e=>by
  unfold eO at e;cases h:fIn fa fb env with
  | none=>rw [h] at e;cases e
  | some k=>obtain⟨x,y,h1,h2,_⟩:=rD h;exact⟨x,y,h1,h2⟩
theorem Z2S (r:Room k A):A.units + 9 <= cLine:=by have:=r.un;omega
theorem Z37 (ha:QE X m1 rs1 a fa):QE X m rs (.Compare a [.Is] [.Constant .none j pos'] pos) (hZ (jO false fa)) :=
 .mk (C2 Z3t ha (sL (m:=false) (rs:=[])) (jG _)) fun σ H Q ⟨env,F,d,ok,e,q⟩=>by
  unfold hZ jO at e;cases h:fa env with
  | none=>rw [h] at e;cases e
  | some x =>
   rw [h] at e;refine two (fb:=fC .non) ok h rfl fun v u H' f1 f2 s r1 r2 _ _=>⟨eB r2,?_⟩;cases x with
   | non=>cases e;rw [eB r1];exact q _ _ _ s qC .nil
   | _=>cases e;rw [Ry (pB r1 (by intro z;cases z))];exact q _ _ _ s qC .nil
open Classical in
def esK:Ab (Str × Int)->Ab DictEntry->Prop
 | [],[]=>True
 | p :: kvs,e :: es=>((∃ t,e.key=.str p.1 t) /\ ∃ t,e.val=.int p.2 t) /\ esK kvs es
 | _,_=>False
structure Z9t (K:Frag) (P:Params) (mg:Str->Option Value) (name:Str) (kvs:List (Str × Int)):Prop where
 ex:∃ a es n,mg name=some (.ref a) /\ K.lookup a=some ⟨.type "dict",none,.dict es n,#[]⟩ /\ PySem.W.KeysLit P es.toList /\ (a == sysModules)=false /\ esK kvs es.toList
structure Z9v (K:Frag) (C:Addr):Prop where
 cl:Cls K C
 ha:PySem.W.findIn K (.ref C) "__class__" = some (some (.builtin "object.__class__"))
 hn:PySem.W.specialIn K (.builtin "object.__class__") "__get__" = some (some (.builtin "getset_descriptor.__get__"))
 htk:PySem.W.takesIn K (.builtin "object.__class__")=some true
 hm:PySem.W.mroIn K C (.type "object")=some true
open Classical in
section
variable {X:Cx}{e:Ag}{f:En->Aa D}{p pos pos' bpos:Pos}{x y:Str}{i j:Nat}
def gT (j i:Nat) (f:En->Aa D):En->Res:=fun env=>match env[i]?,f env with
 | some (some (true,.lst xs)),some (.lst ys)=>if flats xs=true /\ xs.length + ys.length <= 1000 then .next (env.set j (some (true,.lst (xs ++ ys)))) else .bad
 | _,_=>.bad
theorem Z4k {K:Frag}{P H:Hp}{σ:L2.St}{env:En}{F:Nat->Ab Af}{xs ys:Ab D}{Q:VK}(hF:EnvS K P H σ env F) (ei:env[i]? = some (some (true,.lst xs))) (ef:f env=some (.lst ys)) (hx:flats xs=true) (hl:xs.length + ys.length <= 1000)
  (q:∀ v H' fp,Same H H'->Rep K true H' (.lst (xs ++ ys)) v fp->fp.Nodup->(∀ b ∈ fp,H b=none)->Q v H'):∃ v,σ[i]? = some (some v) /\ tD K true [] f σ H fun u H2=>Z8k v u H2 Q:=by
 obtain⟨v,hv1,_⟩:=hF.ok i true _ ei;obtain⟨a1,a2,a3,a4⟩:=hF.own i _ ei;obtain⟨a,vs,g1,rfl,eg,ha,hr⟩:=kL (a3 v hv1);obtain⟨rfl,hr0⟩:=Reps.flat _ _ _ hx hr;refine⟨.ref a,hv1,env,F,.lst ys,hF.ok,ef,fun u H2 f2 s2 r2 c2=>?_⟩;obtain⟨b,us,g2,rfl,rfl,hb,hr2⟩:=kL r2;have hc2:=c2.2 rfl;refine⟨a,b,vs,us,rfl,rfl,s2 _ _ ha,hb,nJ (by rw [hr.length,hr2.length];exact hl),fun p hp=>?_⟩;have hr3:Reps K true H2 (xs ++ ys) (vs ++ us) ([] ++ g2):=((hr0 true).same s2).append hr2;rw [QbL] at hr3;refine q _ _ (p :: g2) (s2.trans (bV hp)) (lO hp hr3) ?_ fun c hc=>?_
 .refine QaO.mpr ⟨fun z=>?_,(QaO.mp hc2.1).2⟩;obtain⟨o,ho⟩:=Reps.dom _ _ _ hr2 p z;rw [hp] at ho;cases ho
 .rcases Qaf.mp hc with z | z
  .rw [z];exact s2.free hp
  .exact hc2.2 c (Qae _ z)
theorem nL (j i:Nat) (hNd:X.N.Nodup) (hj:X.N[j]? = some y) (hy:Loc X.env.scope y) (he:QE X true [] e f) (hN:X.N[i]? = some x:=by rfl) (hv:Vis X.env.scope x:=by first | exact Or.inl rfl | exact Or.inr (Or.inl rfl) | exact Or.inr (Or.inr rfl)) (hd:(x == ("__debug__" : Str))=false:=by decide) (hcd:(x == ("__classdict__" : Str))=false:=by decide)
  (hs:swapsWith (.BinOp (.Name x p) .Add e bpos) (some (.Name y pos')) pos.line X.env=pure false:=by rfl) (hf:X.fn y=true \/ X.env.scope.names.lookup y=some .local:=by first | exact .inl rfl | exact .inr rfl | assumption) :
  QS X (.Assign [.Name y pos'] (.BinOp (.Name x p) .Add e bpos) pos) (gT j i f):=.mk (Z3g hNd hj hy (L2.pe_op Z3v (lL hN hv hd hcd) he) hs hf) fun E σ H ⟨P,env,I,q⟩=>by
 obtain⟨F,hF⟩:=I.ex;unfold gT at q;split at q
 .rename_i xs ys ei ef;split at q
  .rename_i h;exact Z4k hF.nrm ei ef h.1 h.2 fun v H' fp s r nd fr=>q _ _ (yN j I.same I.len hF.nrm s r nd fr)
  .exact q.elim
 .exact q.elim
end
theorem uI:isSubtype (.type "range_iterator") (.type "reversed")=pure false:=by rw [isSubtype_type];kernel_rfl
theorem Z2V (h1:-(2 ^ 62) <= b) (h2:b < 2 ^ 62):(Builtin.Range.rangeFitsLong 0 && Builtin.Range.rangeFitsLong b && Builtin.Range.rangeFitsLong 1 && Builtin.Range.rangeFitsLong (-1) && Builtin.Range.rangeFitsLong (0 - 1) && Builtin.Range.rangeFitsLong (Builtin.Range.rangeSize 0 b 1))=true:=by
 rw [rangeSize_one];simp only [Builtin.Range.rangeFitsLong,QaU,RA];split <;> omega
theorem xE (hr:IsRange s.heap r 0 b 1 t u v) (h1:-(2 ^ 62) <= b) (h2:b < 2 ^ 62)
  (h:Q (.ref s.heap.objs.size) { s with heap:=s.heap.push { cls:=.type "range_iterator",data:=.fields #[rawInt (0 + (Builtin.Range.rangeSize 0 b 1 - 1) * 1),rawInt (Builtin.Range.rangeSize 0 b 1),rawInt (-1)] } }) :
  wpAny (model prog w) A (call (.builtin "range.__reversed__") [.ref r]) Q E s:=by
 have hT:s.TypeIs (.ref r) "range":=⟨_,hr,rfl⟩;refine Rh F.slot_range_reversed hT F.entry_range_reversed ?_ (F.args_range_reversed_1 _);unfold Builtin.«range.__reversed__»;refine Ra (Rj (a:=Value.ref r) rfl ?_);have hs:=Z2V h1 h2;unfold Builtin.Range.rangeFields;refine Ra ?_;refine Ra (wpAny_field hr rfl (x:=.int 0 t) rfl ?_);refine Ra (Rj (a:=some 0) rfl ?_);refine Ra (wpAny_field hr rfl (x:=.int b u) rfl ?_);refine Ra (Rj (a:=some b) rfl ?_);refine Ra (wpAny_field hr rfl (x:=.int 1 v) rfl ?_);refine Ra (Rj (a:=some 1) rfl ?_);refine Rb ?_;simp only [hs,QbO,Qbb,RD,RC]
 first
  | exact Ra (Re (Rb ⟨_,rfl,h⟩))
  | exact Ra (Rb (Ra (Re (Rb ⟨_,rfl,h⟩))))
  | (unfold newFields;exact Ra (Re (Rb ⟨_,rfl,h⟩)))
  | (unfold newFields;exact Ra (Rb (Ra (Re (Rb ⟨_,rfl,h⟩)))))
theorem rK (hr:IsRange s.heap r 0 b 1 t u v) (h1:-(2 ^ 62) <= b) (h2:b < 2 ^ 62)
  (h:Q₁ (.ref s.heap.objs.size) { s with heap:=s.heap.push { cls:=.type "range_iterator",data:=.fields #[rawInt (0 + (Builtin.Range.rangeSize 0 b 1 - 1) * 1),rawInt (Builtin.Range.rangeSize 0 b 1),rawInt (-1)] } }) :
  codeAny (model prog w) A (.call (.builtin "reversed.__new__") ⟨[.type "reversed",.ref r],[]⟩) (wants Q₁ E) s:=by
 have hT:s.TypeIs (.ref r) "range":=⟨_,hr,rfl⟩;refine codeAny_of_tree ?_;show wpAny _ A.in1 (do checkBuiltinCall "reversed.__new__" ⟨[.type "reversed",.ref r],[]⟩;again (.builtin "reversed.__new__" ⟨[.type "reversed",.ref r],[]⟩)) _ _ s
 refine Ra (Rj (F.newCall_reversed_1 _) (Rb ⟨Rq F.plain_reversed_new _,Rn F.entry_reversed_new ?_⟩));rw [Around.under_plainId F.plain_reversed_new _];unfold Builtin.«reversed.__new__»;refine Ra (Rj (newClass_reversed _) ?_)
 try dsimp only
 refine Ra (Rj (a:=()) (by first | rfl | kernel_rfl) ?_)
 refine Ra (Rj (a:=()) (by first | rfl | kernel_rfl) ?_)
 try dsimp only
 refine Ra (wpAny_specialOf hT F.slot_range_reversed.lookup ?_)
 try dsimp only
 refine Ra (Rj (F.slot_range_reversed.bind _) ?_)
 try dsimp only
 first
 | rw [if_neg (show ¬ ((Value.builtin "range.__reversed__" == Value.none)=true) from Bool.false_ne_true)]
 | (show wpAny _ _ (if (Value.builtin "range.__reversed__" == Value.none)=true then _ else _) _ _ _;rw [if_neg (show ¬ ((Value.builtin "range.__reversed__" == Value.none)=true) from Bool.false_ne_true)])
 refine Ra (Rk ?_);refine Ra (m:=runValue (.call (.builtin "range.__reversed__") ⟨[.ref r],[]⟩)) (show wpAny _ _ (call (.builtin "range.__reversed__") [.ref r]) _ _ _ from xE hr h1 h2 ?_)
 first
 | exact Rb h
 | exact Ra (Rb (Rb h))
theorem rL (hr:IsRange s.heap r 0 b 1 t u v) (h1:-(2 ^ 62) <= b) (h2:b < 2 ^ 62)
  (h:Q (.ref s.heap.objs.size) { s with heap:=s.heap.push { cls:=.type "range_iterator",data:=.fields #[rawInt (0 + (Builtin.Range.rangeSize 0 b 1 - 1) * 1),rawInt (Builtin.Range.rangeSize 0 b 1),rawInt (-1)] } }) :
  wpAny (model prog w) A (call (.type "reversed") [.ref r]) Q E s:=by
 refine callType_other (U := "range_iterator") (Q₁:=fun obj s₁=>obj=.ref s.heap.objs.size /\ s₁={ s with heap:=s.heap.push { cls:=.type "range_iterator",data:=.fields #[rawInt (0 + (Builtin.Range.rangeSize 0 b 1 - 1) * 1),rawInt (Builtin.Range.rangeSize 0 b 1),rawInt (-1)] } }) (by decide +kernel) F.create_reversed ⟨_,_,F.mro_reversed⟩ F.made_reversed uI (F.typeCall_reversed_1 _) (rK hr h1 h2 ⟨rfl,rfl⟩) ?_;rintro obj s₁ ⟨rfl,rfl⟩;exact⟨⟨_,Qan _ rfl,rfl⟩,h⟩
def Itd (lo:Int) (n:Nat):It:=⟨fun i _=>i < n,fun i H x H'=>H'=H /\ x=.int (lo - i),fun i _=>n <= i⟩
theorem yK {K:Frag}(it:Af) (lo:Int) (n:Nat):Q3 P w K tg (Itd lo n) [it] it (fun i h=>IsRangeIter h it (lo + (i:Nat) * (-1)) ((n:Int) - (i:Nat)) (-1)) where
 mem:=by simp
 obj:=fun i h st b hb=>by
  have e:b=it:=by simpa using hb
  subst e;exact⟨_,st,fun v z=>by
   have z':Data.fields _=Data.cell v:=z;cases z'⟩
 keep:=fun i h h' st k=>k it (by simp) _ st
 item:=by
  intro X hP hw hK hc i pins s σ H E I hf st hg;subst hP hw hK;obtain⟨f0,f1,f2,f3,f4,f5⟩:=hf it (by simp);have W:=Walks.range (prog:=X.prog) (w:=X.w) (I.ok.hd hc) it lo (-1) n;refine W.item i s _ _ hg st fun v h' tk hv st' kk=>?_;obtain⟨t,rfl⟩:=hv;have I1:Inv X pins σ H { s with heap:=h',toks:=tk }:=I.turned (fun b o hb e=>kk b o (by simpa using hb) e) f0 f1 f3 f4 f5;refine⟨_,rfl,Z0M (s:={ s with heap:=h',toks:=tk }) (n := "range_iterator") st' rfl rfl (by decide) ⟨.int (lo - i),H,I1,⟨t,?_⟩,⟨rfl,rfl⟩,st',fun b hb=>(hf b hb).1⟩⟩;rw [show lo + (i:Int) * -1=lo - i by omega]
 done:=by
  intro X hP hw hK hc i pins s σ H E I hf st hg;subst hP hw hK;obtain⟨f0,f1,f2,f3,f4,f5⟩:=hf it (by simp);exact wpAny_pyNext_range_end (I.ok.hd hc) st (by have:n <= i:=hg;omega) fun h' eb=>⟨rfl,I.turned (t':=s.toks) (fun b o hb e=>eb b o hb e) f0 f1 f3 f4 f5⟩
 self:=fun _ _ _ _ _ st h=>wpAny_pyIter_rangeiter st h
theorem yE:bootBuiltins "reversed" = some (.type "reversed"):=by decide +kernel
def Z8H (ta:TA):TI:=fun σ H R=>ta σ H fun vs H1=>∃ j:Int,vs=[.int j] /\ -(2 ^ 62) <= j /\ j < 2 ^ 62 /\ R (Itd ((j.toNat:Int) - 1) j.toNat) H1
theorem Z6P {H:Hp}(I:Inv X pins σ H s) (h3:-(2 ^ 62) <= hi) (h4:hi < 2 ^ 62)
  (q:R (Itd ((hi.toNat:Int) - 1) hi.toNat) H):wpAny (model X.prog X.w) X.A (call (.type "reversed") [.ref s.heap.objs.size]) (fun v s1=>wpAny (model X.prog X.w) X.A (pyIter v) (PIE X pins σ tg R) E s1) E { s with heap:=s.heap.push { cls:=.type "range",data:=.fields #[.int 0 t,.int hi u,.int 1 v] },toks:=tk }:=by
 refine rL (IsRange.new ..) h3 h4 ?_;have I1:Inv X pins σ H { s with heap:=s.heap.push { cls:=.type "range",data:=.fields #[.int 0 t,.int hi u,.int 1 v] },toks:=tk }:=I.kept fun b o e=>Qab _ e;have e2:((hi.toNat:Nat):Int)=Builtin.Range.rangeSize 0 hi 1:=by rw [rangeSize_one];split <;> omega
 have st0:IsRangeIter ((s.heap.push { cls:=.type "range",data:=.fields #[.int 0 t,.int hi u,.int 1 v] }).push { cls:=.type "range_iterator",data:=.fields #[rawInt (0 + (Builtin.Range.rangeSize 0 hi 1 - 1) * 1),rawInt (Builtin.Range.rangeSize 0 hi 1),rawInt (-1)] }) (s.heap.push { cls:=.type "range",data:=.fields #[.int 0 t,.int hi u,.int 1 v] }).objs.size (((hi.toNat:Int) - 1) + ((0:Nat):Int) * (-1)) (((hi.toNat:Nat):Int) - ((0:Nat):Int)) (-1):=by
  have e1:((hi.toNat:Int) - 1) + ((0:Nat):Int) * (-1)=0 + (Builtin.Range.rangeSize 0 hi 1 - 1) * 1:=by rw [<- e2];omega
  have e3:((hi.toNat:Nat):Int) - ((0:Nat):Int)=Builtin.Range.rangeSize 0 hi 1:=by rw [<- e2];omega
  rw [e1,e3];exact Qan _ rfl
 refine wpAny_pyIter_rangeiter st0 ?_;refine⟨(s.heap.push { cls:=.type "range",data:=.fields #[.int 0 t,.int hi u,.int 1 v] }).objs.size,[(s.heap.push { cls:=.type "range",data:=.fields #[.int 0 t,.int hi u,.int 1 v] }).objs.size],_,_,H,rfl,
  I1.kept (t':=tk) fun b o e=>Qab _ e,yK _ ((hi.toNat:Int) - 1) hi.toNat,st0,fun b hb=>?_,q⟩
 have e:b=(s.heap.push { cls:=.type "range",data:=.fields #[.int 0 t,.int hi u,.int 1 v] }).objs.size:=by simpa using hb
 subst e;exact I1.fpOk (Qag _) (I1.hok.fresh (Qag _))
theorem Z5g (hg:Gl X "range") (hm:X.mg "range" = none) (hg2:Gl X "reversed") (hm2:X.mg "reversed" = none) (ha:PA X [a] ta) (hs:starEach [a] X.env=[(false,eval a X.env)]:=by rfl)
  (hs2:starEach [.Call (.Name "range" p2) [a] [] pos2] X.env=[(false,eval (.Call (.Name "range" p2) [a] [] pos2) X.env)]:=by rfl):PI X tg (.Call (.Name "reversed" p) [.Call (.Name "range" p2) [a] [] pos2] [] pos) (Z8H ta):=by
 intro pins s σ H R I h;refine Call_ (kC I hg2 hm2 yE (PyProof.Rows.callWith_type1 (spliced_more (Call_ (kC I hg hm boot_range (PyProof.Rows.callWith_type1 (thn (ha pos2 pins s σ H _ I h) fun us s1 ⟨vs,H1,I1,r1,q1⟩=>?_) hs rfl))) hs2) hs2 rfl));obtain⟨j,e,q1,q2,q⟩:=q1;subst e;cases r1 with
 | cons r rr =>
  cases rr;obtain⟨t,rfl⟩:=r;exact call_range_1 (spliced_none (Z6P I1 q1 q2 q))
theorem wU {K:Frag}(lo:Int) (n:Nat):xJ K (Itd lo n) H0 ((List.range n).map fun (k:Nat)=>.int (lo - (k:Int))) []:=fun H k i=>by
 refine⟨fun d hd=>?_,fun hl=>(show n <= i by simpa using hl)⟩;rw [Qas] at hd;cases hdd:(List.range n)[i]? with
 | none=>rw [hdd] at hd;cases hd
 | some j =>
  rw [hdd] at hd;cases hd;obtain⟨hlt,e⟩:=Qac.mp hdd;rw [List.getElem_range] at e;subst e;refine⟨(show i < n by simpa using hlt),fun x H' y=>?_⟩;obtain⟨rfl,rfl⟩:=y;exact⟨Same.refl _,[],fN,fun b hb=>hb⟩
def Q6:Ab D->Aa (Ab D)
 | [.int j]=>if -(2 ^ 62) <= j /\ j < 2 ^ 62 then some ((List.range j.toNat).map fun (k:Nat)=>.int (((j.toNat:Int) - 1) - (k:Int))) else none
 | _=>none
theorem Z4Y (hg:Gl X "range") (hm:X.mg "range" = none) (hg2:Gl X "reversed") (hm2:X.mg "reversed" = none) (ha:QA X m1 rs1 [a] fs) (hs:starEach [a] X.env=[(false,eval a X.env)]:=by rfl)
  (hs2:starEach [.Call (.Name "range" p2) [a] [] pos2] X.env=[(false,eval (.Call (.Name "range" p2) [a] [] pos2) X.env)]:=by rfl):QI X tg rs (.Call (.Name "reversed" p) [.Call (.Name "range" p2) [a] [] pos2] [] pos) (sB1 Q6 fs) :=
 .mk (Z5g hg hm hg2 hm2 ha hs hs2) fun σ H R ⟨env,F,ds,ok,e,q⟩=>by
  unfold sB1 at e;cases h1:fs env with
  | none=>simp only [h1] at e;cases e
  | some xs =>
   simp only [h1,Qbc] at e;unfold Q6 at e;split at e
   .rename_i j;split at e
    .rename_i hj;cases e;refine⟨env,F,_,ok,h1,fun vs H' fp s r c=>?_⟩;obtain⟨v,rfl,r1⟩:=iO r;rw [bG r1];exact⟨j,rfl,hj.1,hj.2,q _ H' [] s (wU _ _) (fun b hb=>(by cases hb)) .nil⟩
    .cases e
   .cases e
theorem gU:∀ {a b:Ab Int},a.Perm b->a.Pairwise (· <= ·)->b.Pairwise (· <= ·)->a=b
 | [],b,p,_,_=>(List.nil_perm.mp p).symm
 | x :: a,[],p,_,_=>by have:=p.length_eq;simp at this
 | x :: a,y :: b,p,h1,h2=>by
  have hx:x ∈ y :: b:=p.mem_iff.mp Qau;have hy:y ∈ x :: a:=p.mem_iff.mpr Qau;have e1:y <= x:=by
   rcases Qaf.mp hx with z | z
   .omega
   .exact (Qbk.mp h2).1 x z
  have e2:x <= y:=by
   rcases Qaf.mp hy with z | z
   .omega
   .exact (Qbk.mp h1).1 y z
  have e:x=y:=by omega
  subst e;rw [gU (List.Perm.cons_inv p) (Qbk.mp h1).2 (Qbk.mp h2).2]
def Y8 (x:Int):Ab Int->Ab Int
 | []=>[x]
 | y :: r=>if x <= y then x :: y :: r else y :: Y8 x r
def mE:Ab Int->Ab Int
 | []=>[]
 | x :: r=>Y8 x (mE r)
theorem tF (x:Int):∀ r:Ab Int,(Y8 x r).Perm (x :: r)
 | []=>.refl _
 | y :: r=>by
  unfold Y8;split
  .exact .refl _
  .exact ((tF x r).cons y).trans (.swap x y r)
theorem tY (x:Int):∀ r:Ab Int,r.Pairwise (· <= ·)->(Y8 x r).Pairwise (· <= ·)
 | [],_=>by simp [Y8]
 | y :: r,h=>by
  obtain⟨h1,h2⟩:=Qbk.mp h;unfold Y8;split
  .rename_i hxy;refine Qbk.mpr ⟨fun z hz=>?_,h⟩;rcases Qaf.mp hz with e | e
   .omega
   .have:=h1 z e;omega
  .rename_i hxy;refine Qbk.mpr ⟨fun z hz=>?_,tY x r h2⟩;have hz':=(tF x r).mem_iff.mp hz;rcases Qaf.mp hz' with e | e
   .omega
   .exact h1 z e
theorem gI:∀ r:Ab Int,(mE r).Perm r
 | []=>.refl _
 | x :: r=>(tF x (mE r)).trans ((gI r).cons x)
theorem jR:∀ r:Ab Int,(mE r).Pairwise (· <= ·)
 | []=>.nil
 | x :: r=>tY x _ (jR r)
theorem kH (h:IntsAre its ns):Vals (ns.map V.int) its:=by
 induction h with
 | nil=>exact .nil
 | cons n t h ih=>exact .cons ⟨t,rfl⟩ ih
theorem uG:bootBuiltins "sorted" = some (.builtin "sorted"):=by decide +kernel
def un2 {α:Type}(f:En->Aa α):En->Aa α
 | some (_,.tup [a,b]) :: r=>f (some (false,a) :: some (false,b) :: r)
 | _=>none
theorem Z12 (h:un2 f (some (b,d) :: env) ≠ none):∃ d1 d2,d=.tup [d1,d2]:=by
 unfold un2 at h;split at h
 .rename_i e;cases e;exact⟨_,_,rfl⟩
 .exact absurd rfl h
theorem rR:un2 f (some (b,.tup [d1,d2]) :: env)=f (some (false,d1) :: some (false,d2) :: env):=rfl
theorem Z6Q {K:Frag}{st:Bool}(h:Reps K st H [d1,d2] vs fp):∃ v1 v2,vs=[v1,v2] /\ (∃ f,Rep K st H d1 v1 f) /\ ∃ f,Rep K st H d2 v2 f:=by
 simp only [Reps] at h;obtain⟨v,us,f1,f2,rfl,rfl,r1,v',us',f1',f2',rfl,rfl,r2,rfl,rfl⟩:=h;exact⟨_,_,rfl,⟨_,r1⟩,⟨_,r2⟩⟩
theorem Z2e {K:Frag}(ok:EnvOk K H σ env F) (r1:Rep K false H d1 v1 f1) (r2:Rep K false H d2 v2 f2) :
  ∃ F',EnvOk K H (((iR 2 fr σ).set 0 (some v1)).set 1 (some v2)) (some (false,d1) :: some (false,d2) :: kW fr env) F':=by
 refine⟨fun i=>match i with | 0=>f1 | 1=>f2 | i + 2=>F (fr.getD i 0),fun i o d' e=>?_⟩
 match i,e with
 | 0,e =>
  simp at e;obtain⟨_,rfl⟩:=e;exact⟨v1,by simp [iR],r1⟩
 | 1,e =>
  simp at e;obtain⟨_,rfl⟩:=e;exact⟨v2,by simp [iR],r2⟩
 | i + 2,e =>
  simp only [Qap,kW,Qas] at e;cases hj:fr[i]? with
  | none=>rw [hj] at e;cases e
  | some j =>
   rw [hj] at e;simp only [Option.map_some,Qba] at e;cases hq:env[j]? with
   | none=>rw [hq] at e;cases e
   | some s =>
    rw [hq] at e;simp only [Qaq] at e;subst e;obtain⟨w,h1,h2⟩:=ok j o d' hq;refine⟨w,?_,?_⟩
    .simp [iR,hj,h1]
    .have:fr.getD i 0=j:=by simp [List.getD,hj]
     simp only [this];exact h2
theorem xC {K:Frag}(h:tD K true [] (bL fr src (un2 fc) (un2 fe)) σ H Q) :
  Z0j (tDI K rs src) 2 fr (Z8K K 2 (E9 [0,1])) (tDT K fc) (tD K true [] fe) σ H Q:=by
 obtain⟨env,F,d,ok,e,q⟩:=h;unfold bL at e;cases h1:src env with
 | none=>rw [h1] at e;cases e
 | some ds =>
  rw [h1] at e;simp only at e;split at e
  .rename_i hlen;cases h2:dD (un2 fc) (un2 fe) (kW fr env) ds with
   | none=>rw [h2] at e;cases e
   | some ys =>
    rw [h2] at e;cases e;refine⟨env,F,ds,ok,h1,fun J H1 fp s1 gv dm cd=>?_⟩;intro acc hacc;refine⟨fun i k vs H2=>i <= ds.length /\ k=ds.length - i /\ H2 acc=some (.lst vs) /\ Same H1 H2 /\ ∃ zs f,dD (un2 fc) (un2 fe) (kW fr env) (ds.take i)=some zs /\ Reps K true H2 zs vs f /\ f.Nodup /\ (∀ b ∈ f,H1 b=none) /\ acc ∉ f,
     ⟨ds.length,Qbm _,rfl,bE,bV hacc,[],[],by simp [dD],by simp only [Reps];exact⟨trivial,trivial⟩,QaQ,fun b hb=>(by cases hb),by simp⟩,?_⟩
    rintro i k vs H2 ⟨hi,hk,ha,sm,zs,f,hz,hr,nd,hfr,hna⟩;refine⟨ha,?_⟩;have gi:=gv H2 (Kp.same sm fp) i;by_cases hlt:i < ds.length
    .right;have hd:ds[i]? = some ds[i]:=Qad hlt;obtain⟨go,hy⟩:=gi.1 _ hd;refine⟨go,fun x H3 y3=>?_⟩;obtain⟨sm3,f3,r3,_⟩:=hy x H3 y3;have ok3:EnvOk K H3 σ env F:=ok.same ((s1.trans sm).trans sm3);have hst:=lZ hd h2 hz;have hne:un2 fc (some (false,ds[i]) :: kW fr env) ≠ none:=by
      rcases hst with ⟨c1,_⟩ | ⟨c1,_⟩ <;> (rw [c1];intro z;cases z)
     obtain⟨d1,d2,hdd⟩:=Z12 hne;rw [hdd] at r3 hst;simp only [Rep] at r3;obtain⟨pt,wt,rfl,hsq,hrt⟩:=r3;obtain⟨v1,v2,rfl,⟨f1,r31⟩,⟨f2,r32⟩⟩:=Z6Q hrt;refine⟨pt,[v1,v2],rfl,hsq,rfl,v1,[v2],rfl,v2,[],rfl,rfl,⟨by simp [iR],by simp [iR]⟩,?_⟩;obtain⟨F',okin⟩:=Z2e (fr:=fr) ok3 r31 r32;rcases hst with ⟨c1,y',c2,c3⟩ | ⟨c1,c2⟩
     .refine⟨_,F',true,okin,c1,fun H4 s4=>Z21 ⟨_,F',y',okin.same s4,c2,fun v H5 fp5 s5 r5 c5=>?_⟩⟩;have s25:Same H2 H5:=(sm3.trans s4).trans s5;have s35:Same H4 H5:=s5;have ha5:H5 acc=some (.lst vs):=s25 _ _ ha;have hna5:acc ∉ fp5:=fun z=>by
       have:=(c5.2 rfl).2 acc z;rw [(sm3.trans s4) _ _ ha] at this;cases this
      have lv:vs.length < 1000:=by
       have:=oB hz;have h4:=hr.length;rw [Qav] at this;omega
      refine⟨vs,ha5,iU (Qbd lv),ds.length - (i + 1),by omega,hlt,rfl,bE,?_,zs ++ [y'],f ++ fp5,c3,?_,?_,?_,?_⟩
      .intro b o hb;have hba:b ≠ acc:=aU hb hacc;rw [aT hba];exact s25 _ _ (sm _ _ hb)
      .have e1:=Reps.keep _ _ _ (Kp.upd (o':=.lst (vs ++ [v])) ha5 (by intro xs z;cases z) (by intro a b z;cases z) hna) (hr.same s25);have e2:=Rep.keep _ _ _ (Kp.upd (o':=.lst (vs ++ [v])) ha5 (by intro xs z;cases z) (by intro a b z;cases z) hna5) r5;exact e1.snoc e2
      .refine QaT.mpr ⟨nd,(c5.2 rfl).1,fun a ha' b hb z=>?_⟩;obtain⟨o,ho⟩:=Reps.dom _ _ _ hr a ha';have:=(c5.2 rfl).2 b hb;rw [<- z,(sm3.trans s4) _ _ ho] at this;cases this
      .intro b hb;rcases Qai.mp hb with z | z
       .exact hfr b z
       .exact ((sm.trans sm3).trans s4).free ((c5.2 rfl).2 b z)
      .intro z;rcases Qai.mp z with z | z
       .exact hna z
       .exact hna5 z
     .refine⟨_,F',false,okin,c1,fun H4 s4=>Z22 ⟨ds.length - (i + 1),vs,by omega,hlt,rfl,(sm3.trans s4) _ _ ha,(sm.trans sm3).trans s4,zs,f,c2,hr.same (sm3.trans s4),nd,hfr,hna⟩⟩
    .left;have hi':i=ds.length:=by omega
     refine⟨gi.2 (by omega),?_⟩;have hz':dD (un2 fc) (un2 fe) (kW fr env) ds=some zs:=by rw [hi',QaR] at hz;exact hz
     rw [h2] at hz';cases hz';refine q _ H2 (acc :: f) (s1.trans sm) ?_ ⟨fun b hb=>?_,fun _=>⟨QaO.mpr ⟨hna,nd⟩,fun b hb=>?_⟩⟩
     .simp only [Rep];exact⟨acc,vs,f,rfl,hr,.inl ⟨rfl,ha⟩⟩
     .rcases Qaf.mp hb with z | z
      .exact .inl (by rw [z];exact s1.free hacc)
      .exact .inl (s1.free (hfr b z))
     .rcases Qaf.mp hb with z | z
      .rw [z];exact s1.free hacc
      .exact s1.free (hfr b z)
  .cases e
theorem Z39 {y:Str}(hc:X.calm=true) (chk:gB X.env.scope X.N scope fr=true) (hi:QI X (.Tuple [.Name x px,.Name y py] k pt) rs iter src)
  (hnd:(eD [x,y] fr X.N).Nodup) (hx:scope.names.lookup x=some .local) (hy:scope.names.lookup y=some .local)
  (ht:∀ cl C s0 H0 ex pins,QTs (eQ X (eD [x,y] fr X.N) scope cl C s0 H0 ex pins) ifs fc)
  (he:∀ cl C s0 H0 ex pins,QE (eQ X (eD [x,y] fr X.N) scope cl C s0 H0 ex pins) true [] elt fe)
  (hs:∀ x,foldedSetIterable iter X.env x=pure x:=by intro _;rfl) :
  QE X true [] (.ListComp elt [⟨.Tuple [.Name x px,.Name y py] k pt,iter,ifs,0⟩] scope pos) (bL fr src (un2 fc) (un2 fe)) :=
 .mk (Z0D (tgs:=[x,y]) (tt:=tDT X.K fc) (te:=tD X.K true [] fe) hc chk hi (fun cl C s0 H0 ex pins=>V7 (X:=eQ X (eD [x,y] fr X.N) scope cl C s0 H0 ex pins) hc (dC (dG (i:=0) hnd rfl (.inl (lookup_relabel_local hx)) (.inr (lookup_relabel_local hx))) (dC (dG (i:=1) hnd rfl (.inl (lookup_relabel_local hy)) (.inr (lookup_relabel_local hy))) lK))) ht he hs) fun σ H Q h=>xC h
theorem tR {spos py pt:Pos}
  (hc:X.calm=true) (hN:X.N.Nodup) (hi':X.N[i]? = some x) (hx':Loc X.env.scope x) (chk:gB X.env.scope X.N scope fr=true) (hi:QI X (.Tuple [.Name y px,.Name z py] k pt) rs iter src)
  (hnd:(eD [y,z] fr X.N).Nodup) (hx:scope.names.lookup y=some .local) (hy:scope.names.lookup z=some .local)
  (ht:∀ cl C s0 H0 ex pins,QTs (eQ X (eD [y,z] fr X.N) scope cl C s0 H0 ex pins) ifs fc)
  (he:∀ cl C s0 H0 ex pins,QE (eQ X (eD [y,z] fr X.N) scope cl C s0 H0 ex pins) true [] elt fe)
  (hsw:swapsWith (.ListComp elt [⟨.Tuple [.Name y px,.Name z py] k pt,iter,ifs,0⟩] scope pos) (some (.Name x pos')) spos.line X.env=pure true:=by rfl)
  (hf:X.fn x=true \/ X.env.scope.names.lookup x=some .local:=by first | exact .inl rfl | exact .inr rfl | assumption)
  (hs:∀ x,foldedSetIterable iter X.env x=pure x:=by intro _;rfl) :
  QS X (.Assign [.Name x pos'] (.ListComp elt [⟨.Tuple [.Name y px,.Name z py] k pt,iter,ifs,0⟩] scope pos) spos) (bP i (bL fr src (un2 fc) (un2 fe))) :=
 .mk (wC (tgs:=[y,z]) (tt:=tDT X.K fc) (te:=tD X.K true [] fe) hc hN hi' hx' chk hi (fun cl C s0 H0 ex pins=>V7 (X:=eQ X (eD [y,z] fr X.N) scope cl C s0 H0 ex pins) hc (dC (dG (i:=0) hnd rfl (.inl (lookup_relabel_local hx)) (.inr (lookup_relabel_local hx))) (dC (dG (i:=1) hnd rfl (.inl (lookup_relabel_local hy)) (.inr (lookup_relabel_local hy))) lK))) ht he hsw hf hs)
  fun E σ H q=>xC (sJ q)
def Z4U:V->Ab V->Hp->VK->Prop:=fun x vs H Q=>∃ i:Int,x=.int i /\ vs=[] /\ Q (.int ((Builtin.Int.intBits i:Nat):Int)) H
theorem Z1N:MtR X "int.bit_length" Z4U:=by
 intro pins s σ H x vs v us Q I rx rv h;obtain⟨i,rfl,rfl,q⟩:=h;obtain⟨t,rfl⟩:=rx;cases rv;exact call_int_bit_length ⟨.int ((Builtin.Int.intBits i:Nat):Int),H,I.tok _,⟨_,rfl⟩,q⟩
def uE (fa:En->Aa D):En->Aa D:=fun env=>match fa env with
 | some (.int i)=>some (.int ((Builtin.Int.intBits i:Nat):Int))
 | _=>none
theorem Z0y (ha:QE X m1 rs1 a fa) (hbase:attributeBase a "bit_length" X.env (eval a X.env)=eval a X.env:=by rfl) (hline:(apos.endLine == cpos.line)=true:=by rfl) :
  QE X m rs (.Call (.Attribute a "bit_length" apos) [] [] cpos) (uE fa) :=
 .mk (Z7b PySem.F.plainAttrs_int slot_int_bit_length type_int_bit_length Z1N ha hbase hline) fun σ H Q ⟨env,F,d,ok,e,q⟩=>by
  unfold uE at e;split at e
  .rename_i i h1;cases e;refine⟨env,F,_,ok,h1,fun v H' fp s r c=>?_⟩;rw [bG r];exact⟨rfl,i,rfl,rfl,q _ H' [] s fN .nil⟩
  .cases e
end PD
namespace L2
open PySem PySem.Spec PyProof.Rows
def Itz (K:Frag) (a b:Af):It :=
 ⟨fun i H => ∃ xs ys x y, SqL K H a xs /\ SqL K H b ys /\ xs[i]? = some x /\ ys[i]? = some y,
  fun i H v H'=>∃ p x y,H p=none /\ v=.ref p /\ (∀ xs,SqL K H a xs->xs[i]? = some x) /\ (∀ ys,SqL K H b ys->ys[i]? = some y) /\ H'=upd H p (.tup [x,y]),
  fun i H=>∃ xs ys,SqL K H a xs /\ SqL K H b ys /\ (xs.length <= i \/ ys.length <= i)⟩
theorem Z2B {K:Frag}(a b z TI TO i1 i2:Af) (D:ZipApart z TI TO i1 i2 a b) :
  Q3 P w K (.Tuple elts k1 pos) (Itz K a b) [z,TI,TO,i1,i2] z (fun i h=>IsZip h z TI TO .none /\ IsPair h TI (.ref i1) (.ref i2) /\ (∃ u v,IsPair h TO u v) /\ h.IsListIter i1 a i /\ h.IsListIter i2 b i) where
 mem:=by simp
 obj:=fun i h st c hc=>by
  obtain⟨hz,hT,⟨u,v,hO⟩,h1,h2⟩:=st;simp only [Qaf,Qbn,or_false] at hc;rcases hc with hc | hc | hc | hc | hc
  .rw [hc];exact⟨_,hz,fun v q=>by cases q⟩
  .rw [hc];exact⟨_,hT,fun v q=>by cases q⟩
  .rw [hc];exact⟨_,hO,fun v q=>by cases q⟩
  .rw [hc];obtain⟨o,e,c,d⟩:=h1;exact⟨o,e,fun v q=>by rw [d] at q;cases q⟩
  .rw [hc];obtain⟨o,e,c,d⟩:=h2;exact⟨o,e,fun v q=>by rw [d] at q;cases q⟩
 keep:=fun i h h' ⟨hz,hT,⟨u,v,hO⟩,h1,h2⟩ k=>⟨k z (by simp) _ hz,k TI (by simp) _ hT,⟨u,v,k TO (by simp) _ hO⟩,h1.at fun o q=>k i1 (by simp) o q,h2.at fun o q=>k i2 (by simp) o q⟩
 item:=by
  intro X hP hw hK hc i pins s σ H E I hf st hg;subst hP hw hK;obtain⟨xs,ys,x,y,hqa,hqb,hx,hy⟩:=hg;obtain⟨its,rv,p,hsz⟩:=I.list hqa;obtain⟨its2,rv2,p2,hsz2⟩:=I.list hqb;obtain⟨u,hu,ru⟩:=rv.get hx;obtain⟨u2,hu2,ru2⟩:=rv2.get hy;obtain⟨hz,hT,⟨ua,va,hO⟩,h1,h2⟩:=st;have fz:=hf z (by simp);have fO:=hf TO (by simp);have f1:=hf i1 (by simp);have f2:=hf i2 (by simp);refine wpAny_pyNext_zip_item D hz hT hO h1 h2 p.isList p2.isList (x:=u) (y:=u2) (by simpa using hu) (by simpa using hu2) fun h' a1 a2 a3 a4 a5 a6 hk=>?_;refine⟨_,rfl,wpAny_letOwnedTupleGo_zip (s:={ s with heap:=h' }) a1 fun h'' hz'' hs''=>?_⟩;have hfr:H s.heap.objs.size=none:=I.fresh;have lt:∀ b o,s.heap.get? b=some o->b ≠ s.heap.objs.size:=fun b o q=>QaA (Qah q);have kp:∀ b o,b ≠ z->b ≠ TO->b ≠ i1->b ≠ i2->s.heap.get? b=some o->h''.get? b=some o:=fun b o c1 c2 c3 c4 q=>(hs''.2 b c1).trans (hk b o c1 c2 c3 c4 q);have hzz:z ≠ s.heap.objs.size:=lt _ _ hz;have nch:∀ b u,H b=some u->b ≠ z /\ b ≠ TO /\ b ≠ i1 /\ b ≠ i2:=fun b u q=>⟨fun w=>(by rw [w,fz.1] at q;cases q),fun w=>(by rw [w,fO.1] at q;cases q),fun w=>(by rw [w,f1.1] at q;cases q),fun w=>(by rw [w,f2.1] at q;cases q)⟩;have hin:∀ c,c ∉ [z,TO,i1,i2]->c ≠ z /\ c ≠ TO /\ c ≠ i1 /\ c ≠ i2:=fun c hc=>by simpa using hc
  refine⟨.ref s.heap.objs.size,upd H s.heap.objs.size (.tup [x,y]),?_,rfl,⟨_,x,y,hfr,rfl,fun zs hzs=>by rw [I.list_inj hzs hqa];exact hx,fun zs hzs=>by rw [I.list_inj hzs hqb];exact hy,rfl⟩,
   ⟨hz'',(hs''.2 _ D.TIz).trans (hk _ _ D.TIz D.TITO D.TIi1 D.TIi2 hT),⟨_,_,(hs''.2 _ D.TOz).trans a2⟩,a3.at fun o q=>(hs''.2 i1 D.i1z).trans q,a4.at fun o q=>(hs''.2 i2 D.i2z).trans q⟩,fun c hc=>?_⟩
  .refine Inv.step (s:=s) (h':=h'') (t':=s.toks) (H':=upd H s.heap.objs.size (.tup [x,y])) (g':=s.gens) (d':=s.drawn) (ch:=[z,TO,i1,i2]) I (fun c hc=>?_)
    (fun c o _ _ hc q _=>let ⟨c1,c2,c3,c4⟩:=hin c hc;kp c o c1 c2 c3 c4 q) (fun c o _ _ hc q _=>let ⟨c1,c2,c3,c4⟩:=hin c hc;⟨o.slots,kp c o c1 c2 c3 c4 q⟩)
    (fun c o _ q n=>by rw [aT (lt c o q)];exact n) (fun c o hc q=>let ⟨c1,c2,c3,c4⟩:=hin c hc;⟨o,kp c o c1 c2 c3 c4 q⟩)
    (fun c ys q=>by rw [aT (aU q hfr)];exact q) (fun c o u q=>by rw [aT (aU q hfr)];exact q) (fun c ps q=>⟨#[],by rw [aT (aU q hfr),q];simp⟩) (fun m hm=>?_) (fun c u q=>?_) I.bare
   .simp only [Qaf,Qbn,or_false] at hc;rcases hc with hc | hc | hc | hc
    .rw [hc];exact⟨fz.2.2.2.1,fz.2.1,fz.2.2.2.2.1,fz.2.2.2.2.2⟩
    .rw [hc];exact⟨fO.2.2.2.1,fO.2.1,fO.2.2.2.2.1,fO.2.2.2.2.2⟩
    .rw [hc];exact⟨f1.2.2.2.1,f1.2.1,f1.2.2.2.2.1,f1.2.2.2.2.2⟩
    .rw [hc];exact⟨f2.2.2.2.1,f2.2.1,f2.2.2.2.2.1,f2.2.2.2.2.2⟩
   .obtain⟨o,es,ep,ho,r⟩:=hm;exact⟨o,es,ep,kp _ o (Ne.symm fz.2.1) (Ne.symm fO.2.1) (Ne.symm f1.2.1) (Ne.symm f2.2.1) ho,r⟩
   .by_cases hb:c=s.heap.objs.size
    .subst hb;rw [bE] at q;cases q;refine⟨by show 2 <= sizeLine;decide,[u,u2],.cons ru (.cons ru2 .nil),_,(hs''.2 _ (Ne.symm hzz)).trans a5,rfl,_,rfl⟩
    .rw [aT hb] at q;refine (I.hok c u q).stay (fun d v hc z=>?_) (fun c z=>by rw [aT (aU z hfr)];exact z) fun c ys z=>by rw [aT (aU z hfr)];exact z
     rcases hc with y | y
     .rw [y] at z ⊢;obtain⟨c1,c2,c3,c4⟩:=nch c u q;exact kp _ _ c1 c2 c3 c4 z
     .obtain⟨c1,c2,c3,c4⟩:=nch d _ y;exact kp _ _ c1 c2 c3 c4 z
  .have hb':c < s.heap.objs.size:=by
    simp only [Qaf,Qbn,or_false] at hc;rcases hc with hc | hc | hc | hc | hc
    .rw [hc];exact Qah hz
    .rw [hc];exact Qah hT
    .rw [hc];exact Qah hO
    .rw [hc];obtain⟨o,q,_⟩:=h1;exact Qah q
    .rw [hc];obtain⟨o,q,_⟩:=h2;exact Qah q
   rw [aT (QaA hb')];exact (hf c hc).1
 done:=by
  intro X hP hw hK hc i pins s σ H E I hf st hg;subst hP hw hK;obtain⟨xs,ys,hqa,hqb,hx⟩:=hg;obtain⟨its,rv,p,hsz⟩:=I.list hqa;obtain⟨its2,rv2,p2,hsz2⟩:=I.list hqb;obtain⟨hz,hT,⟨ua,va,hO⟩,h1,h2⟩:=st;have hl:=rv.length;have hl2:=rv2.length;have fz:=hf z (by simp);have fO:=hf TO (by simp);have f1:=hf i1 (by simp);have f2:=hf i2 (by simp);have hend:its.toArray[i]? = none \/ its2.toArray[i]? = none:=by
   rcases hx with z | z
   .left;simp;omega
   .right;simp;omega
  have hin:∀ c,c ∉ [z,TO,i1,i2]->c ≠ z /\ c ≠ TO /\ c ≠ i1 /\ c ≠ i2:=fun c hc=>by simpa using hc
  have nch:∀ b u,H b=some u->b ≠ z /\ b ≠ TO /\ b ≠ i1 /\ b ≠ i2:=fun b u q=>⟨fun w=>(by rw [w,fz.1] at q;cases q),fun w=>(by rw [w,fO.1] at q;cases q),fun w=>(by rw [w,f1.1] at q;cases q),fun w=>(by rw [w,f2.1] at q;cases q)⟩;refine wpAny_pyNext_zip_end (I.ok.hd hc) D hz hT hO h1 h2 p.isList p2.isList hend fun h' hk=>⟨rfl,?_⟩;refine Inv.step (s:=s) (h':=h') (t':=s.toks) (H':=H) (g':=s.gens) (d':=s.drawn) (ch:=[z,TO,i1,i2]) I (fun c hc=>?_)
   (fun c o _ _ hc q _=>let ⟨c1,c2,c3,c4⟩:=hin c hc;hk c o c1 c2 c3 c4 q) (fun c o _ _ hc q _=>let ⟨c1,c2,c3,c4⟩:=hin c hc;⟨o.slots,hk c o c1 c2 c3 c4 q⟩)
   (fun c o _ q n=>n) (fun c o hc q=>let ⟨c1,c2,c3,c4⟩:=hin c hc;⟨o,hk c o c1 c2 c3 c4 q⟩)
   (fun c ys q=>q) (fun c o u q=>q) (fun c ps q=>⟨#[],by rw [q];simp⟩) (fun m hm=>?_) (fun c u q=>?_) I.bare
  .simp only [Qaf,Qbn,or_false] at hc;rcases hc with hc | hc | hc | hc
   .rw [hc];exact⟨fz.2.2.2.1,fz.2.1,fz.2.2.2.2.1,fz.2.2.2.2.2⟩
   .rw [hc];exact⟨fO.2.2.2.1,fO.2.1,fO.2.2.2.2.1,fO.2.2.2.2.2⟩
   .rw [hc];exact⟨f1.2.2.2.1,f1.2.1,f1.2.2.2.2.1,f1.2.2.2.2.2⟩
   .rw [hc];exact⟨f2.2.2.2.1,f2.2.1,f2.2.2.2.2.1,f2.2.2.2.2.2⟩
  .obtain⟨o,es,ep,ho,r⟩:=hm;exact⟨o,es,ep,hk _ o (Ne.symm fz.2.1) (Ne.symm fO.2.1) (Ne.symm f1.2.1) (Ne.symm f2.2.1) ho,r⟩
  .refine (I.hok c u q).stay (fun d v hc z=>?_) (fun c z=>z) fun c ys z=>z;rcases hc with y | y
   .rw [y] at z ⊢;obtain⟨c1,c2,c3,c4⟩:=nch c u q;exact hk _ _ c1 c2 c3 c4 z
   .obtain⟨c1,c2,c3,c4⟩:=nch d _ y;exact hk _ _ c1 c2 c3 c4 z
 self:=fun _ _ _ _ _ st h=>wpAny_pyIter_zip st.1 h
theorem Z4m:bootBuiltins "zip" = some (.type "zip"):=by decide +kernel
def Z9m (K:Frag) (ta:TA):TI:=fun σ H R=>ta σ H fun vs H1=>∃ a b,vs=[.ref a,.ref b] /\ (∃ xs,SqL K H1 a xs) /\ (∃ ys,SqL K H1 b ys) /\ R (Itz K a b) H1
theorem Z73 {p pos:Pos}(hg:Gl X "zip") (hm:X.mg "zip" = none) (ha:PA X [l,l2] ta) (hs:starEach [l,l2] X.env=[(false,eval l X.env),(false,eval l2 X.env)]:=by rfl) (hs2:starEach [l2] X.env=[(false,eval l2 X.env)]:=by rfl) :
  PI X (.Tuple elts k1 tpos) (.Call (.Name "zip" p) [l,l2] [] pos) (Z9m X.K ta):=by
 intro pins s σ H R I h;refine Call_ (kC I hg hm Z4m (PyProof.Rows.callWith_type1 (thn (ha pos pins s σ H _ I h) fun us s1 ⟨vs,H1,I1,r1,q1⟩=>?_) (by rw [hs,hs2]) (by rw [hs2];rfl)));obtain⟨a,b,rfl,⟨xs,hqa⟩,⟨ys,hqb⟩,q⟩:=q1;cases r1 with
 | cons r rr =>
  cases rr with
  | cons r' rr =>
   cases rr;cases r;cases r';obtain⟨its,rv,pl,hz⟩:=I1.list hqa;obtain⟨its2,rv2,pl2,hz2⟩:=I1.list hqb;have la:a < s1.heap.objs.size:=by obtain⟨o,e,_⟩:=pl.isList;exact Qah e
   have lb:b < s1.heap.objs.size:=by obtain⟨o,e,_⟩:=pl2.isList;exact Qah e
   refine call_zip_2 pl.isList pl2.isList fun h' hzp hTI hTO hi1 hi2 hsz hk=>?_;refine wpAny_pyIter_zip (s:={ s1 with heap:=h' }) hzp ?_;have I2:Inv X pins σ H1 { s1 with heap:=h' }:=I1.kept (t':=s1.toks) hk;refine⟨s1.heap.objs.size + 4,[s1.heap.objs.size + 4,s1.heap.objs.size + 2,s1.heap.objs.size + 3,s1.heap.objs.size,s1.heap.objs.size + 1],_,_,H1,rfl,I2,Z2B a b _ _ _ _ _ (zipApart_new la lb),⟨hzp,hTI,⟨_,_,hTO⟩,hi1,hi2⟩,fun c hc=>?_,q⟩;have hb':s1.heap.objs.size <= c:=by
    simp only [Qaf,Qbn,or_false] at hc;rcases hc with hc | hc | hc | hc | hc <;> (rw [hc];first | exact Qag _ | exact Nat.le_add_right _ _)
   exact I1.fpOk hb' (I1.hok.fresh hb')
theorem oG:Builtin.Range.rangeSize i j (-1)=if j < i then i - j else 0:=by
 unfold Builtin.Range.rangeSize;split <;> split <;> simp_all <;> omega
theorem Z1b (h1:-(2 ^ 62) <= i) (h2:i < 2 ^ 62) (h3:-(2 ^ 62) <= j) (h4:j < 2 ^ 62):Builtin.Range.small i j (-1)=true:=by
 have e:=@oG i j;unfold Builtin.Range.small;rw [e];clear e;simp only [Builtin.Range.rangeFitsLong,QaU,RA];split <;> (refine⟨?_,?_⟩ <;> simp <;> omega)
end L2
namespace PD
open PySem PySem.Spec PyProof.Rows L2
def Z8E (ta:TA):TI:=fun σ H R=>ta σ H fun vs H1=>∃ i j:Int,vs=[.int i,.int j,.int (-1)] /\ (-(2 ^ 62) <= i /\ i < 2 ^ 62 /\ -(2 ^ 62) <= j /\ j < 2 ^ 62) /\ R (Itd i (i - j).toNat) H1
theorem Z65 {lo hi:Int}(I:Inv X pins σ H s) (h1:-(2 ^ 62) <= lo) (h2:lo < 2 ^ 62) (h3:-(2 ^ 62) <= hi) (h4:hi < 2 ^ 62)
  (q:R (Itd lo (lo - hi).toNat) H):wpAny (model X.prog X.w) X.A (pyIter (.ref s.heap.objs.size)) (PIE X pins σ tg R) E { s with heap:=s.heap.push { cls:=.type "range",data:=.fields #[.int lo t,.int hi u,.int (-1) v] },toks:=tk }:=by
 refine wpAny_pyIter_range (IsRange.new ..) (Z1b h1 h2 h3 h4) ?_;have I1:Inv X pins σ H { s with heap:=s.heap.push { cls:=.type "range",data:=.fields #[.int lo t,.int hi u,.int (-1) v] },toks:=tk }:=I.kept fun b o e=>Qab _ e;refine⟨(s.heap.push { cls:=.type "range",data:=.fields #[.int lo t,.int hi u,.int (-1) v] }).objs.size,[(s.heap.push { cls:=.type "range",data:=.fields #[.int lo t,.int hi u,.int (-1) v] }).objs.size],_,_,H,rfl,
  I1.kept (t':=tk) fun b o e=>Qab _ e,yK _ lo (lo - hi).toNat,?_,fun b hb=>?_,q⟩
 .have e1:lo + ((0:Nat):Int) * (-1)=lo:=by simp
  have e2:(((lo - hi).toNat:Nat):Int) - ((0:Nat):Int)=Builtin.Range.rangeSize lo hi (-1):=by rw [oG];split <;> omega
  show IsRangeIter _ _ (lo + ((0:Nat):Int) * (-1)) ((((lo - hi).toNat:Nat):Int) - ((0:Nat):Int)) (-1);rw [e1,e2];exact Qan _ rfl
 .have e:b=(s.heap.push { cls:=.type "range",data:=.fields #[.int lo t,.int hi u,.int (-1) v] }).objs.size:=by simpa using hb
  subst e;exact I1.fpOk (Qag _) (I1.hok.fresh (Qag _))
theorem Z1y (hg:Gl X "range") (hm:X.mg "range" = none) (ha:PA X [a,b,c] ta) (hs:starEach [a,b,c] X.env=(false,eval a X.env) :: starEach [b,c] X.env:=by rfl) (hs2:(backTo pos (starEach [b,c] X.env)).any (·.1)=false:=by rfl) :
  PI X tg (.Call (.Name "range" p) [a,b,c] [] pos) (Z8E ta):=by
 intro pins s σ H R I h;refine Call_ (kC I hg hm boot_range (PyProof.Rows.callWith_type1 (thn (ha pos pins s σ H _ I h) fun us s1 ⟨vs,H1,I1,r1,q1⟩=>?_) hs hs2));obtain⟨i,j,e,⟨q1,q2,q3,q4⟩,q⟩:=q1;subst e;cases r1 with
 | cons r rr =>
  cases rr with
  | cons r' rr =>
   cases rr with
   | cons r'' rr =>
    cases rr;obtain⟨t,rfl⟩:=r;obtain⟨t',rfl⟩:=r';obtain⟨t'',rfl⟩:=r'';exact call_range_3 (by decide) (Z65 I1 q1 q2 q3 q4 q) (Or.inl (PyProof.noPylong_small (by omega)))
def Q4:Ab D->Aa (Ab D)
 | [.int i,.int j,.int k]=>if (-(2 ^ 62) <= i /\ i < 2 ^ 62 /\ -(2 ^ 62) <= j /\ j < 2 ^ 62) /\ k = -1 then some ((List.range (i - j).toNat).map fun (k:Nat)=>.int (i - (k:Int))) else none
 | _=>none
theorem Z8d {K:Frag}(h:Reps K m H [d,d',d''] vs fp):∃ v v' v'' f f' f'',vs=[v,v',v''] /\ Rep K m H d v f /\ Rep K m H d' v' f' /\ Rep K m H d'' v'' f'' /\ fp=f ++ (f' ++ f''):=by
 simp only [Reps] at h;obtain⟨v,r,f1,f2,rfl,rfl,h1,v',r',f3,f4,rfl,rfl,h2,v'',r'',f5,f6,rfl,rfl,h3,rfl,rfl⟩:=h;exact⟨v,v',v'',f1,f3,f5,rfl,h1,h2,h3,by simp⟩
theorem Z1r {tg:Ag}(hg:Gl X "range") (hm:X.mg "range" = none) (ha:QA X m1 rs1 [a,b,c] fs) (hs:starEach [a,b,c] X.env=(false,eval a X.env) :: starEach [b,c] X.env:=by rfl) (hs2:(backTo pos (starEach [b,c] X.env)).any (·.1)=false:=by rfl) :
  QI X tg rs (.Call (.Name "range" p) [a,b,c] [] pos) (sB1 Q4 fs) :=
 .mk (Z1y hg hm ha hs hs2) fun σ H R ⟨env,F,ds,ok,e,q⟩=>by
  unfold sB1 at e;cases h1:fs env with
  | none=>simp only [h1] at e;cases e
  | some xs =>
   simp only [h1,Qbc] at e;unfold Q4 at e;split at e
   .rename_i i j k;split at e
    .rename_i hj;cases e;refine⟨env,F,_,ok,h1,fun vs H' fp s r c=>?_⟩;obtain⟨v,v',v'',f,f',f'',rfl,r1,r2,r3,rfl⟩:=Z8d r;rw [bG r1,bG r2,bG r3,hj.2];exact⟨i,j,rfl,hj.1,q _ H' [] s (wU _ _) (fun b hb=>(by cases hb)) .nil⟩
    .cases e
   .cases e
def oC:Ab D->Ab D->Ab D
 | x :: xs,y :: ys=>.tup [x,y] :: oC xs ys
 | _,_=>[]
theorem J1:∀ (xs ys:Ab D) (i:Nat),(oC xs ys)[i]? = match xs[i]?,ys[i]? with | some x,some y=>some (.tup [x,y]) | _,_=>none
 | [],ys,i=>by simp [oC]
 | x :: xs,[],i=>by
  simp only [oC,List.getElem?_nil];split <;> simp_all
 | x :: xs,y :: ys,0=>by simp [oC]
 | x :: xs,y :: ys,i + 1=>by simp only [oC,Qap];exact J1 xs ys i
theorem J0:∀ (xs ys:Ab D),(oC xs ys).length=min xs.length ys.length
 | [],ys=>by simp [oC]
 | x :: xs,[]=>by simp [oC]
 | x :: xs,y :: ys=>by simp only [oC,Qal,J0 xs ys];omega
theorem Z25 {K:Frag}(r1:Rep K false H0 (.lst xs) (.ref a) f1) (r2:Rep K false H0 (.lst ys) (.ref b) f2):xJ K (Itz K a b) H0 (oC xs ys) (f1 ++ f2):=fun H k i=>by
 have q1:=Rep.keep _ _ _ (k.sub fun b hb=>Qar _ hb) r1;have q2:=Rep.keep _ _ _ (k.sub fun b hb=>Qam _ hb) r2;obtain⟨p,vs,fp',e,hsq,hr,hsub⟩:=bX q1;cases e;obtain⟨p',vs',fp'',e,hsq',hr',hsub'⟩:=bX q2;cases e;refine⟨fun d hd=>?_,fun hl=>⟨vs,vs',hsq,hsq',by rw [hr.length,hr'.length];rw [J0] at hl;omega⟩⟩;rw [J1] at hd;split at hd
 .rename_i x y hx hy;cases hd;obtain⟨v,f,h1,h2,h3,_⟩:=hr.get hx;obtain⟨v',f',h1',h2',h3',_⟩:=hr'.get hy;refine⟨⟨vs,vs',v,v',hsq,hsq',h1,h1'⟩,fun x H' y=>?_⟩;obtain⟨q,w,w',hq,rfl,ya,yb,rfl⟩:=y;have e1:=ya vs hsq;rw [h1] at e1;cases e1;have e2:=yb vs' hsq';rw [h1'] at e2;cases e2;refine⟨bV hq,f ++ f',pH hq ?_,fun c hc=>?_⟩
  .simp only [Reps];exact⟨v,[v'],f,f',rfl,rfl,h2,v',[],f',[],rfl,by simp,h2',rfl,rfl⟩
  .rcases Qai.mp hc with z | z
   .exact Qar _ (hsub c (h3 c z))
   .exact Qam _ (hsub' c (h3' c z))
 .cases hd
def Z2q:Ab D->Aa (Ab D)
 | [.lst xs,.lst ys]=>some (oC xs ys)
 | _=>none
theorem Z2Z (hg:Gl X "zip") (hm:X.mg "zip" = none) (ha:QA X m1 rs [a,b] fs) (hs:starEach [a,b] X.env=[(false,eval a X.env),(false,eval b X.env)]:=by rfl) (hs2:starEach [b] X.env=[(false,eval b X.env)]:=by rfl) :
  QI X (.Tuple elts k1 tpos) rs (.Call (.Name "zip" p) [a,b] [] pos) (sB1 Z2q fs) :=
 .mk (Z73 hg hm ha hs hs2) fun σ H R ⟨env,F,ds,ok,e,q⟩=>by
  unfold sB1 at e;cases h1:fs env with
  | none=>simp only [h1] at e;cases e
  | some xs =>
   simp only [h1,Qbc] at e;unfold Z2q at e;split at e
   .cases e;refine⟨env,F,_,ok,h1,fun vs H' fp s r c=>?_⟩;obtain⟨v,v',f,f',rfl,r1,r2,rfl⟩:=Z0q r;have r1':=Rep.weak _ _ _ r1;have r2':=Rep.weak _ _ _ r2;obtain⟨p,ws,fp',rfl,hsq,hr,hsub⟩:=bX r1;obtain⟨p',ws',fp'',rfl,hsq',hr',hsub'⟩:=bX r2;refine⟨p,p',rfl,⟨ws,hsq⟩,⟨ws',hsq'⟩,q _ H' (f ++ f') s (Z25 r1' r2') (fun c hc=>?_) ⟨c.1,fun z=>(by cases z)⟩⟩;rcases Qai.mp hc with z | z
    .exact Rep.dom _ _ _ r1' c z
    .exact Rep.dom _ _ _ r2' c z
   .cases e
def Z60 (fa:En->Aa D):En->Aa D:=fun env=>match fa env with
 | some (.int i)=>some (.int (-i))
 | _=>none
theorem Z51 (ha:QE X m1 rs1 a fa):QE X m rs (.UnaryOp .USub a pos) (Z60 fa) :=
 .mk (L2.pe_un Q9 ha) fun σ H Q ⟨env,F,d,ok,e,q⟩=>by
  unfold Z60 at e;split at e
  .rename_i i h1;cases e;refine⟨env,F,_,ok,h1,fun v H' fp s r c=>?_⟩;rw [bG r];exact⟨i,rfl,q _ _ _ s fN .nil⟩
  .cases e
def keyOf:D->Aa Key
 | .int i=>some (.inl i)
 | .str x=>some (.inr x)
 | _=>none
theorem zB {K:Frag}{st:Bool}(e:keyOf d=some k) (r:Rep K st H d v fp):v=kV k:=by
 cases d with
 | int i=>cases e;exact bG r
 | str x=>cases e;exact eS r
 | _=>cases e
section
variable {κ:Type}[DecidableEq κ]
def uA {α:Type}:Ab κ->Ab α->κ->Aa α
 | k' :: ks,d :: ds,k=>if k'=k then some d else uA ks ds k
 | _,_,_=>none
def D4 (k:κ) (ks:Ab κ):Bool:=decide (k ∈ ks)
theorem memK_iff {ks:Ab κ}:D4 k ks=true ↔ k ∈ ks:=by unfold D4;simp
def V3 (ks:Ab κ) (k:κ):Ab κ:=if k ∈ ks then ks else ks ++ [k]
def wA {α:Type}(ks:Ab κ) (xs:Ab α) (k:κ) (x:α):Ab α:=if k ∈ ks then List.zipWith (fun k' y=>if k'=k then x else y) ks xs else xs ++ [x]
theorem Z2z {k:κ}:pT (ks.zip vs) k=uA ks vs k:=by
 induction ks generalizing vs with
 | nil=>simp [uA,pT]
 | cons k' ks ih =>
  cases vs with
  | nil=>simp [uA,pT]
  | cons v vs =>
   rw [List.zip_cons_cons];unfold uA;by_cases h:k'=k
   .rw [if_pos h,pR (by exact h)]
   .rw [if_neg h,pS (by exact h)];exact ih
theorem Z69 {ks:Ab κ}(hl:ks.length=vs.length):((ks.zip vs).any fun kv=>decide (kv.1=k))=decide (k ∈ ks):=by
 induction ks generalizing vs with
 | nil=>simp
 | cons k' ks ih =>
  cases vs with
  | nil=>cases hl
  | cons v vs =>
   rw [List.zip_cons_cons,List.any_cons,ih (by simpa using hl)];by_cases h:k'=k
   .subst h;simp
   .have h':¬ k=k':=fun z=>h z.symm;simp [h,h']
theorem Z5z {ks:Ab κ}{v:V}:(ks.zip vs).map (fun kv=>if kv.1=k then (kv.1,v) else kv)=ks.zip (List.zipWith (fun k' y=>if k'=k then v else y) ks vs):=by
 induction ks generalizing vs with
 | nil=>simp
 | cons k' ks ih =>
  cases vs with
  | nil=>simp
  | cons v' vs =>
   simp only [List.zip_cons_cons,Qao,List.zipWith_cons_cons,ih];split <;> rfl
theorem Z3f {ks:Ab κ}{v:V}(hl:ks.length=vs.length):sN (ks.zip vs) k v=(V3 ks k).zip (wA ks vs k v):=by
 unfold sN V3 wA;rw [Z69 hl];by_cases h:k ∈ ks
 .simp only [h,decide_true,RC];exact Z5z
 .simp only [h,decide_false,Qbb,RD];rw [List.zip_append hl];rfl
theorem Z3d {k:κ}(hl:ks.length=xs.length):(V3 ks k).length=(wA ks xs k x).length:=by
 unfold V3 wA;split
 .simp [hl]
 .simp [hl]
theorem zE:∀ {ks:Ab κ}{xs:Ab α},ks.length=xs.length->(uA ks xs k).isSome=D4 k ks
 | [],xs,h=>by simp [uA,D4]
 | k' :: ks,[],h=>by cases h
 | k' :: ks,x :: xs,h=>by
  unfold uA;by_cases hk:k'=k
  .subst hk;simp [D4]
  .rw [if_neg hk,zE (by simpa using h)];have h':¬ k=k':=fun z=>hk z.symm;simp [D4,h']
theorem tN {K:Frag}{st:Bool}(rd:Rep K st H d v []):∀ {ks:Ab κ}{ds:Ab D}{vs:Ab V},Reps K st H ds vs []->Reps K st H (List.zipWith (fun k' y=>if k'=k then d else y) ks ds) (List.zipWith (fun k' y=>if k'=k then v else y) ks vs) []
 | [],ds,vs,r=>by simp only [List.zipWith_nil_left,Reps];exact⟨trivial,trivial⟩
 | k' :: ks,[],vs,r=>by
  simp only [Reps] at r;obtain⟨rfl,_⟩:=r;simp only [List.zipWith_nil_right,Reps];exact⟨trivial,trivial⟩
 | k' :: ks,x :: ds,vs,r=>by
  simp only [Reps] at r;obtain⟨w,us,f1,f2,rfl,e,r1,r2⟩:=r;obtain⟨rfl,rfl⟩:=List.append_eq_nil_iff.mp e.symm;have ih:=tN (k:=k) rd (ks:=ks) r2;simp only [List.zipWith_cons_cons,Reps];refine⟨_,_,[],[],rfl,rfl,?_,ih⟩;split
  .exact rd
  .exact r1
theorem Z3c {K:Frag}{st:Bool}{ks:Ab κ}(rd:Rep K st H d v []) (r:Reps K st H ds vs []):Reps K st H (wA ks ds k d) (wA ks vs k v) []:=by
 unfold wA;split
 .exact tN rd r
 .have:=Reps.snoc r rd;simpa using this
end
theorem Z8A {K:Frag}(hq:H q=none) (hl:ks.length=vs.length) (h:Reps K m H ds vs fp):Rep K m (upd H q (.dK (ks.zip vs))) (.dk ks ds) (.ref q) (q :: fp):=by
 simp only [Rep];exact⟨q,vs,fp,rfl,rfl,bE,hl,h.same (bV hq)⟩
theorem L0 {K:Frag}:Reps K m H [] [] []:=by simp only [Reps];exact⟨trivial,trivial⟩
theorem Z38:QE X true [] (.Dict [] [] pos) (fC (.dk [] [])):=.mk L2.pe_dnewK fun σ H Q ⟨env,F,d,ok,e,q⟩=>by
 cases e;intro p hp;exact q _ _ [p] (bV hp) (Z8A (ks:=[]) (vs:=[]) hp rfl L0) (nE (m:=true) (K:=X.K) (Same.refl H) hp (L0 (m:=true)) .nil)
def Z9 (fa fb:En->Aa D):En->Aa Bool:=fun env=>match fa env,fb env with
 | some x,some (.dk ks ds)=>match keyOf x with
  | some k=>some (D4 k ks)
  | none=>none
 | _,_=>none
theorem Z18 {K:Frag}{H:Hp}{Q:VK}(neg:Bool) {env:En}{F:Nat->Ab Af}{bb:Bool}(ok:EnvOk K H σ env F) (e:Z9 fa fb env=some bb) (q:∀ H',Same H H'->Q (.bl (if neg then !bb else bb)) H') :
  tD K m1 rs1 fa σ H fun y H1=>tD K m2 rs2 fb σ H1 fun x H2=>∃ a o,x=.ref a /\ DGet H2 a y o /\ Q (.bl (if neg then !o.isSome else o.isSome)) H2:=by
 unfold Z9 at e;split at e
 .rename_i x ks ds h1 h2;cases hk:keyOf x with
  | none=>rw [hk] at e;cases e
  | some k =>
   rw [hk] at e;cases e;refine two ok h1 h2 fun v u H' f1 f2 s r1 r2 _ _=>?_;rw [zB hk r1];simp only [Rep] at r2;obtain⟨a,vs,fp',rfl,rfl,hs,hl,hr⟩:=r2;refine⟨a,_,rfl,DGet.k hs,?_⟩;rw [Z2z,zE hl];exact q H' s
 .cases e
theorem Z6S (hu:X.A.units + 1 < cLine) (ha:QE X m1 rs1 a fa) (hb:QE X m2 rs2 b fb) (hm:behindInMarks .In b=false:=by with_unfolding_all rfl):QT X (.Compare a [.In] [b] pos) (Z9 fa fb) :=
 .mk (L2.pt_cmp (Z7c hu ha hb) hm) fun σ H Q ⟨env,F,bb,ok,e,q⟩=>Z18 (Q:=fun v H'=>∃ k,v=.bl k /\ Q k H') false ok e fun H' s=>⟨bb,rfl,q H' s⟩
theorem Q7 {K:Frag}(sm:Same P H) (hl:σ.length=env.length) (h:EnvS K P H σ env F) (ei:env[i]? = some (some (true,d0)))
  (hv:σ[i]? = some (some (.ref a))) (hF:F i=a :: fp') (ha:H a=some o) (nt:∀ xs,o ≠ .tup xs) (nf:∀ x u,o ≠ .frz x u) (new:∀ st,Rep K st (upd H a o') d1 (.ref a) (a :: fp2)) (nd:(a :: fp2).Nodup) (hn:∀ b ∈ fp2,b ∈ fp' \/ (P b=none /\ ∀ j s,env[j]? = some (some s)->b ∉ F j)) :
  SInv K P (upd H a o') σ (env.set i (some (true,d1))):=by
 have hi:i < env.length:=(Qac.mp ei).1;obtain⟨o1,o2,o3,o4⟩:=h.own i _ ei;have ha0:a ∈ F i:=by rw [hF];exact Qau
 have kp:∀ {fp:Ab Af},a ∉ fp->Kp fp H (upd H a o'):=fun hn=>Kp.upd ha nt nf hn;refine⟨fun b o e=>?_,by simp [hl],lX F i (a :: fp2),fun j o d e=>?_,fun j d e=>?_⟩
 .have:b ≠ a:=fun z=>by have:=o2 a ha0;rw [z,this] at e;cases e
  rw [aT this];exact sm _ _ e
 .rw [dW hi] at e;by_cases hj:j=i
  .subst hj;rw [if_pos rfl] at e;cases e;exact⟨_,hv,by rw [bN];exact new false⟩
  .rw [if_neg hj] at e;obtain⟨w,h1,h2⟩:=h.ok j o d e;exact⟨w,h1,by rw [aZ hj];exact Rep.keep _ _ _ (kp (o4 j _ hj e a ha0)) h2⟩
 .rw [dW hi] at e;by_cases hj:j=i
  .subst hj;rw [if_pos rfl] at e;cases e;refine⟨by rw [bN];exact nd,fun b hb=>?_,fun w hw=>?_,fun k s hk ek b hb=>?_⟩
   .rw [bN] at hb;rcases Qaf.mp hb with z | z
    .rw [z];exact o2 a ha0
    .rcases hn b z with y | y
     .exact o2 b (by rw [hF];exact Qae _ y)
     .exact y.1
   .rw [hv] at hw;cases hw;rw [bN];exact new true
   .rw [bN] at hb;rw [aZ hk];rw [dW hi,if_neg hk] at ek;rcases Qaf.mp hb with z | z
    .rw [z];exact o4 k s hk ek a ha0
    .rcases hn b z with y | y
     .exact o4 k s hk ek b (by rw [hF];exact Qae _ y)
     .exact y.2 k s ek
  .rw [if_neg hj] at e;obtain⟨a1,a2,a3,a4⟩:=h.own j d e;refine⟨by rw [aZ hj];exact a1,fun b hb=>a2 b (by rw [aZ hj] at hb;exact hb),fun w hw=>by rw [aZ hj];exact Rep.keep _ _ _ (kp (o4 j _ hj e a ha0)) (a3 w hw),fun k s hk ek b hb=>?_⟩;rw [aZ hj] at hb;rw [dW hi] at ek;by_cases hki:k=i
   .subst hki;rw [bN];intro z;rcases Qaf.mp z with z | z
    .exact a4 k _ hk ei b hb (by rw [z];exact ha0)
    .rcases hn b z with y | y
     .exact a4 k _ hk ei b hb (by rw [hF];exact Qae _ y)
     .exact y.2 j _ e hb
   .rw [if_neg hki] at ek;rw [aZ hki];exact a4 k s hk ek b hb
def vX (i:Nat) (fk fv:En->Aa D):En->Res:=fun env=>match fv env,env[i]?,fk env with
 | some d,some (some (true,.dk ks ds)),some kd=>match keyOf kd with
  | some k=>if flats ds=true /\ flat d=true /\ ks.length < 1000 then .next (env.set i (some (true,.dk (V3 ks k) (wA ks ds k d)))) else .bad
  | none=>.bad
 | _,_,_=>.bad
theorem Z0v (hu:X.A.units + 1 < cLine) (i:Nat) (hk:QE X m2 rs2 key fk) (hv:QE X m1 rs1 value fv) (hN:X.N[i]? = some x:=by rfl) (hvis:Vis X.env.scope x:=by first | exact Or.inl rfl | exact Or.inr (Or.inl rfl) | exact Or.inr (Or.inr rfl)) (hd:(x == ("__debug__" : Str))=false:=by decide) (hcd:(x == ("__classdict__" : Str))=false:=by decide)
  (hs:swapsWith value (some (.Subscript (.Name x p) key pos')) pos.line X.env=pure false:=by rfl) :
  QS X (.Assign [.Subscript (.Name x p) key pos'] value pos) (vX i fk fv):=.mk (Z5c hu (lL hN hvis hd hcd) hk hv hs) fun E σ H ⟨P,env,I,q⟩=>by
 obtain⟨F,hF⟩:=I.ex;unfold vX at q;split at q
 .rename_i d ks ds kd h1 h2 h3;cases hkk:keyOf kd with
  | none=>rw [hkk] at q;exact q.elim
  | some k =>
   rw [hkk] at q;simp only at q;split at q
   .rename_i hfl;obtain⟨w,hv1,_⟩:=hF.ok i true _ h2;obtain⟨o1,o2,o3,o4⟩:=hF.own i _ h2;have r0:=o3 w hv1;simp only [Rep] at r0;obtain⟨a,vs,fp',rfl,hFi,ha,hl,hr⟩:=r0;obtain⟨e1,e2⟩:=Reps.flat _ _ _ hfl.1 hr;subst e1;refine⟨env,F,d,hF.ok,h1,fun v H1 fp s r c=>⟨.ref a,hv1,env,F,kd,hF.ok.same s,h3,fun kv H2 fp2 s2 r2 c2=>?_⟩⟩;obtain⟨_,rf⟩:=Rep.flat _ _ _ hfl.2.1 r;rw [zB hkk r2];have ha':=(s.trans s2) _ _ ha;have hlk:(ks.zip vs).length < sizeLine:=by
     rw [List.length_zip];have:=iU (n:=ks.length) (by omega);omega
    refine⟨a,_,rfl,DPut.k ha' hlk,q _ _ ?_⟩;refine Q7 (fp2:=[]) (fp':=[]) (I.same.trans (s.trans s2)) I.len (hF.grow (s.trans s2)) h2 hv1 hFi ha' (by intro xs z;cases z) (by intro x u z;cases z) (fun st=>?_) (by simp) (fun b hb=>(by cases hb));rw [Z3f hl];simp only [Rep];refine⟨a,wA ks vs k v,[],rfl,rfl,bE,Z3d hl,?_⟩;refine Reps.keep _ _ _ (Kp.upd (fp:=[]) ha' (by intro xs z;cases z) (by intro x u z;cases z) (by simp)) ?_;exact Z3c ((rf st).same s2) ((e2 st).same (s.trans s2))
   .exact q.elim
 .exact q.elim
theorem P5 (S:PySem.W.KdlSrc prog w T r d n PP OK) (h0:A.handled=none) (hS:OK s.heap) (hz:n <= sizeLine)
  (fin:∀ (hp:Ah) (tk:Nat) (vs:Ae Ad),(∀ c o,s.heap.get? c=some o->hp.get? c=some o)->s.heap.objs.size < hp.objs.size->PySem.ItemsOf PP vs n->Z vs.toList { s with heap:=hp,toks:=tk }) :
  wpAny (model prog w) A (collect (.ref r)) Z E s:=by
 obtain⟨l1,l2⟩:=S.there _ hS;unfold collect;refine Ra (wpAny_runValue (Rn PyProof.Rows.entry_proto_collect' ?_));rw [Around.under_plainId PySem.F.plain_proto_collect _];show wpAny _ A.in1 (newList [] >>= fun nl=>again (.builtin "list.__iadd__" ⟨[nl,.ref r],[]⟩)) _ _ s;refine Ra (Re (Rb ⟨Rq QbJ _,Rn PyProof.Rows.entry_list_iadd' ?_⟩));rw [Around.under_plainId QbJ _];have hN:(s.heap.push { cls:=.type "list",data:=.seq ([]:Ab Ad).toArray }).get? s.heap.objs.size=some { cls:=.type "list",data:=.seq #[] }:=Qan _ rfl;have ext:=PySem.W.kdl_extend (A:=A) (s:={ s with heap:=s.heap.push { cls:=.type "list",data:=.seq ([]:Ab Ad).toArray } })
  (R:=fun (q:Result) (t:Ac)=>q=.ok (.ret (.ref s.heap.objs.size)) /\ ∃ (hp:Ah) (tk:Nat) (vs:Ae Ad) (k:Nat),t={ s with heap:=hp,toks:=tk } /\ (∀ c o,s.heap.get? c=some o->hp.get? c=some o) /\
   hp.get? s.heap.objs.size=some { cls:=.type "list",dict:=none,data:=.seq vs k,slots:=#[] } /\ PySem.ItemsOf PP vs n)
  S h0 (S.keep _ _ hS fun c _ o e=>Qab _ e) s.heap.objs.size (Nat.ne_of_gt l1) (Nat.ne_of_gt l2) (.ref s.heap.objs.size) 0 hN
  (fun hp tk vs k kept at' its=>⟨rfl,hp,tk,vs,k,rfl,fun c o e=>kept c o (QaA (Qah e)) (Qab _ e),at',its⟩) hz
 show wpAny _ A.in1 (Builtin.List.listExtendWith (.ref s.heap.objs.size) (.ref r) (.ref s.heap.objs.size)) _ _ _;refine Rc ext (fun out t hq=>?_) fun x t hq=>(by cases hq.1);cases out with
 | done fl =>
  obtain⟨e,hp,tk,vs,k,rfl,kept,at',its⟩:=hq;cases e;show wpAny _ A (load s.heap.objs.size >>= _) _ _ _;exact Ra (wpAny_load at' (Rb (fin hp tk vs kept (Qah at') its)))
 | again code =>
  refine⟨hq.1,Ro hq.2 fun res t2 hr=>?_⟩;obtain⟨rfl,hp,tk,vs,k,rfl,kept,at',its⟩:=hr;show wpAny _ A (load s.heap.objs.size >>= _) _ _ _;exact Ra (wpAny_load at' (Rb (fin hp tk vs kept (Qah at') its)))
theorem wR:∀ {l:Ab Ad}{ns:Ab Int},l.length=ns.length->(∀ (j:Nat) (v:Ad),l[j]? = some v->∃ n t,ns[j]? = some n /\ v=.int n t)->IntsAre l ns
 | [],[],_,_=>.nil
 | [],_ :: _,h,_=>by cases h
 | _ :: _,[],h,_=>by cases h
 | v :: l,n :: ns,h,hv=>by
  obtain⟨n',t,e,rfl⟩:=hv 0 v rfl;cases e;exact .cons n t (wR (by simpa using h) fun j u hu=>hv (j + 1) u hu)
theorem yD (hc:X.calm=true):CallR X (.builtin "sorted") (fun vs H Q=>∃ (a:Af) (kvs:Ab (Key × V)) (ns:Ab Int),vs=[.ref a] /\ H a=some (.dK kvs) /\ kvs.map (·.1)=ns.map Sum.inl /\ ns.length < 64 /\ ∀ l,H l=none->Q (.ref l) (upd H l (.lst ((mE ns).map V.int)))):=fun pins s σ H xs us Q I w h=>by
 obtain⟨a,kvs,ns,rfl,ha,hk,h64,q⟩:=h;obtain⟨u,rfl,r⟩:=oE w;cases (show u=Value.ref a from r)
 obtain⟨z,hd,vs,rel,dd⟩:=Z6y I.hok ha;obtain⟨ep,hat⟩:=dd.dictAt;have hkeys:=rel.keys;have hlen:=rel.length;have hn:vs.length=ns.length:=by
  have:=congrArg List.length hk;simp only [Qaa] at this;omega
 have hz:vs.length <= sizeLine:=by omega
 refine Calls.call_function_entry kind_sorted plain_sorted entry_sorted (args_sorted1 _) ?_;unfold Builtin.«sorted»;refine Ra (m:=checkCount "sorted" 1 1 _) (Rb ?_);refine Ra (P5 (A:=X.A.in1) (PySem.W.kdl_dict (knd:=fD X.prog X.w) (kvs:=vs) (ep:=ep) hd) (I.ok.hd hc) hat hz fun hp tk acc kept hlt its=>?_);have hI:IntsAre acc.toList ns:=by
  refine wR (by rw [Qak,its.1,hn]) fun j v hv=>?_;rw [Qax] at hv;obtain⟨k,x,hx,hkv⟩:=its.2 j v hv;have e1:(vs.map (·.1))[j]? = some k:=by rw [Qas,hx];rfl
  rw [<- hkeys,hk,Qas] at e1;cases hns:ns[j]? with
  | none=>rw [hns] at e1;cases e1
  | some n =>
   rw [hns] at e1;simp only [Option.map_some,Qba] at e1;subst e1;rcases dL (show wQ (Sum.inl n) v=true from hkv) with ⟨i,t,e,rfl⟩ | ⟨x,t,e,_⟩
   .cases e;exact⟨n,t,rfl,rfl⟩
   .cases e
 have hal:acc.toList.length < 64:=by rw [Qak,its.1,hn];exact h64
 refine Ra (wpAny_newList ?_ (by rw [Qak,its.1];exact hz));have hoL:(hp.push { cls:=.type "list",data:=.seq acc.toList.toArray }).get? hp.objs.size=some (seqObj "list" acc.toList.toArray 0):=Qan _ rfl;refine Ra (Rg (Rh slot_list_sort ⟨_,hoL,rfl⟩ entry_list_sort (list_sort_tree hoL hI hal fun out ns' a1 a2 a3=>⟨_,rfl,?_⟩) (args_list_sort _)));refine Rb ⟨_,rfl,?_⟩;obtain⟨ee,he⟩:=sortedHeap_at (out:=out) hoL;have hns:ns'=mE ns:=gU (a2.trans (gI ns).symm) a3 (jR ns);subst hns;refine⟨.ref hp.objs.size,_,I.laid (t':=tk) (fun c u e=>?_) (Qbd hlt) (show ObjOk X.prog X.w _ _ _ (.lst ((mE ns).map V.int)) from ⟨?_,out.toList,ee,kH a1,?_⟩),rfl,q _ (I.hok.fresh (Qbd hlt))⟩
 .have e':=kept c u e;have h2:=Qah e';rw [sortedHeap_old (QaA h2) (by rw [size_push'];exact Qa3 h2)];exact Qab _ e'
 .have:=a2.length_eq;rw [Qaa,this];omega
 .rw [Array.toArray_toList];exact he
def intKeys:Ab Key->Aa (Ab Int)
 | []=>some []
 | .inl i :: r=>(intKeys r).map (i :: ·)
 | .inr _ :: _=>none
theorem tW:∀ {ks:Ab Key}{ns:Ab Int},intKeys ks=some ns->ks=ns.map Sum.inl
 | [],ns,h=>by cases h;rfl
 | .inl i :: r,ns,h=>by
  unfold intKeys at h;cases hr:intKeys r with
  | none=>rw [hr] at h;cases h
  | some m=>rw [hr] at h;cases h;rw [Qao,<- tW hr]
 | .inr _ :: _,ns,h=>by cases h
theorem Y7 (ns:Ab Int):intKeys (ns.map Sum.inl)=some ns:=by
 induction ns with
 | nil=>rfl
 | cons n ns ih=>rw [Qao];unfold intKeys;rw [ih];rfl
def G6:Ab D->Aa D
 | [.dk ks _]=>match intKeys ks with
  | some ns=>if ns.length < 64 then some (.lst ((mE ns).map .int)) else none
  | none=>none
 | _=>none
theorem Z32 (hc:X.calm=true) (hg:Gl X "sorted") (hm:X.mg "sorted" = none) (ha:QE X m1 rs1 a fa) (he:starEach [a] X.env=(false,eval a X.env) :: starEach [] X.env:=by rfl) (hpl:(backTo pos (starEach [] X.env)).any (·.1)=false:=by rfl) :
  QE X m rs (.Call (.Name "sorted" p) [a] [] pos) (fB1 G6 (aC fa aH)) :=
 pZ (yD hc) hg hm uG (aD ha bM he) (fun ds d vs H fp Q e r q=>by
  unfold G6 at e;split at e
  .rename_i ks xs;cases hq:intKeys ks with
   | none=>rw [hq] at e;cases e
   | some ns =>
    rw [hq] at e;simp only at e;split at e
    .rename_i h64;cases e;obtain⟨v,rfl,r1⟩:=iO r;simp only [Rep] at r1;obtain⟨p,ws,fp',rfl,rfl,hs,hl,hr⟩:=r1;refine⟨p,_,ns,rfl,hs,?_,h64,fun l hl=>?_⟩
     .rw [<- tW hq,List.map_fst_zip (by omega)]
     .exact q _ _ [l] (bV hl) (lO hl (kK (mE ns))) (fun b hb=>by simp at hb;rw [hb];exact hl) (by simp)
    .cases e
  .cases e) (he:=he) (hpl:=hpl)
abbrev Itm:=Sum Nat (En->Aa D)
def iA:Ab Itm->En->Aa (Ab D)
 | [],_=>some []
 | .inl i :: r,env=>match env[i]?,iA r env with
  | some (some (true,d)),some ds=>some (d :: ds)
  | _,_=>none
 | .inr f :: r,env=>match f env,iA r env with
  | some d,some ds=>some (d :: ds)
  | _,_=>none
def ownOf:Ab Itm->Ab Nat
 | []=>[]
 | .inl i :: r=>i :: ownOf r
 | .inr _ :: r=>ownOf r
def Z6I (K:Frag) (is:Ab Itm):TA:=fun σ H Q=>∃ P env F ds,Same P H /\ EnvS K P H σ env F /\ iA is env=some ds /\
 ∀ vs H' fp,Same H H'->Reps K true H' ds vs fp->fp.Nodup->(∀ b ∈ fp,P b=none /\ (H b=none \/ ∃ i ∈ ownOf is,∃ d,env[i]? = some (some (true,d)) /\ b ∈ F i))->Q vs H'
def QIt (X:Cx) (es:Ab Ag) (is:Ab Itm):Prop:=PA X es (Z6I X.K is)
theorem Z4W:QIt X [] []:=fun pos pins s σ H Q I ⟨P,env,F,ds,sm,hF,e,q⟩=>L2.pa_nil pos pins s σ H Q I (by
 cases e;exact q [] H [] (Same.refl H) (by simp only [Reps];exact⟨trivial,trivial⟩) QaQ (fun b hb=>(by cases hb)))
theorem C1 (i:Nat) (hr:QIt X es is) (hni:i ∉ ownOf is:=by simp [PD.ownOf]) (hN:X.N[i]? = some x:=by rfl) (hv:Vis X.env.scope x:=by first | exact Or.inl rfl | exact Or.inr (Or.inl rfl) | exact Or.inr (Or.inr rfl)) (hd:(x == ("__debug__" : Str))=false:=by decide) (hcd:(x == ("__classdict__" : Str))=false:=by decide)
  (h1:starEach (.Name x p :: es) X.env=(false,eval (.Name x p) X.env) :: starEach es X.env:=by rfl):QIt X (.Name x p :: es) (.inl i :: is) :=
 fun pos pins s σ H Q I ⟨P,env,F,ds,sm,hF,e,q⟩=>L2.pa_cons (lL hN hv hd hcd) hr h1 pos pins s σ H Q I (by
  unfold iA at e;split at e
  .rename_i d ds' e1 e2;cases e;obtain⟨v,hv1,_⟩:=hF.ok i true d e1;obtain⟨a1,a2,a3,a4⟩:=hF.own i d e1;refine⟨v,hv1,P,env,F,ds',sm,hF,e2,fun vs H' fp s r nd hb=>?_⟩;refine q (v :: vs) H' (F i ++ fp) s ?_ (QaT.mpr ⟨a1,nd,fun b hb1 b' hb2 z=>?_⟩) (fun b hb'=>?_)
   .simp only [Reps];exact⟨v,vs,F i,fp,rfl,rfl,(a3 v hv1).same s,r⟩
   .rw [<- z] at hb2;rcases (hb b hb2).2 with y | ⟨k,hk,d',ek,hbk⟩
    .obtain⟨o,ho⟩:=hF.dom e1 b hb1;rw [y] at ho;cases ho
    .exact a4 k _ (fun z=>hni (z ▸ hk)) ek b hb1 hbk
   .rcases Qai.mp hb' with z | z
    .exact⟨a2 b z,.inr ⟨i,by simp [ownOf],d,e1,z⟩⟩
    .obtain⟨y1,y2⟩:=hb b z;exact⟨y1,y2.imp id fun⟨k,hk,d',ek,hbk⟩=>⟨k,by simp [ownOf,hk],d',ek,hbk⟩⟩
  .cases e)
theorem Z4X (he:QE X true [] e f) (hr:QIt X es is) (h1:starEach (e :: es) X.env=(false,eval e X.env) :: starEach es X.env:=by rfl):QIt X (e :: es) (.inr f :: is) :=
 fun pos pins s σ H Q I ⟨P,env,F,ds,sm,hF,e',q⟩=>L2.pa_cons he hr h1 pos pins s σ H Q I (by
  unfold iA at e';split at e'
  .rename_i d ds' e1 e2;cases e';refine⟨env,F,d,hF.ok,e1,fun v H1 fp1 s1 r1 c1=>⟨P,env,F,ds',sm.trans s1,hF.grow s1,e2,fun vs H' fp s r nd hb=>?_⟩⟩;obtain⟨n1,n2⟩:=c1.2 rfl;refine q (v :: vs) H' (fp1 ++ fp) (s1.trans s) ?_ (QaT.mpr ⟨n1,nd,fun b hb1 b' hb2 z=>?_⟩) (fun b hb'=>?_)
   .simp only [Reps];exact⟨v,vs,fp1,fp,rfl,rfl,r1.same s,r⟩
   .rw [<- z] at hb2;rcases (hb b hb2).2 with y | ⟨k,hk,d',ek,hbk⟩
    .obtain⟨o,ho⟩:=Rep.dom _ _ _ r1 b hb1;rw [y] at ho;cases ho
    .obtain⟨o,ho⟩:=hF.dom ek b hbk;rw [n2 b hb1] at ho;cases ho
   .rcases Qai.mp hb' with z | z
    .exact⟨sm.free (n2 b z),.inl (n2 b z)⟩
    .obtain⟨y1,y2⟩:=hb b z;refine⟨y1,?_⟩;rcases y2 with y | y
     .exact .inl (s1.free y)
     .obtain⟨k,hk,d',ek,hbk⟩:=y;exact .inr ⟨k,by simpa [ownOf] using hk,d',ek,hbk⟩
  .cases e')
def L3 (is:Ab Itm):En->Res:=fun env=>match iA is env with
 | some ds=>if ds.length <= 1000 then .ret (.tup ds) else .bad
 | none=>.bad
theorem Z4V (h:QIt X es is):QS X (.Return (some (.Tuple es k1 p3)) pos) (L3 is):=.mk (V4 (L2.pe_tup h)) fun E σ H ⟨P,env,I,q⟩=>by
 obtain⟨F,hF⟩:=I.ex;unfold L3 at q;split at q
 .rename_i ds e1;split at q
  .rename_i hl;refine⟨P,env,F,ds,I.same,hF,e1,fun vs H' fp s r nd hb=>⟨by rw [r.length];exact Qbd (iU hl),fun q' hq=>?_⟩⟩;exact q _ _ fp ((I.same.trans s).trans (bV hq)) (pH hq r) (fun b hb'=>(hb b hb').1) nd
  .exact q.elim
 .exact q.elim
end PD
namespace HT
open PySem PyProof.Rows
theorem getItem_tuple_all {lo hi:Aa Int}(ht:IsTup s.heap t items) (hs:s.heap.IsSliceOf sl vl vu .none) (pl:IsPart vl lo) (pu:IsPart vu hi)
  (h1:sIx items.size 0 lo=0) (h2:sIx items.size items.size hi=items.size) (h:Q (.ref t) s):wpAny (model prog w) A (getItem (.ref t) (.ref sl)) Q E s:=by
 obtain⟨os,hos,hcs,hds⟩:=id hs;have hTs:s.TypeIs (.ref sl) "slice":=⟨os,hos,hcs⟩;unfold getItem
 try with_reducible refine Rg ?_
 first | refine Ra (Rb ?_) | skip
 refine Ra (wpAny_sequenceKey ht.typeIs (by decide) ?_);refine Ra (wpAny_callSpecial?_slot (name:=Str.ofString "__getitem__") ht.typeIs PyProof.Rows.slot_tuple_getitem
  (Rh PyProof.Rows.slot_tuple_getitem ht.typeIs entry_tuple_getitem ?_ (args_tuple_getitem _ _)))
 show wpAny _ _ (Builtin.Tuple.tupleItemsOf (.ref t) >>= _) _ _ s;refine Ra (tupleItemsOf_ ht ?_);refine Ra (wpAny_typeOf hTs ?_);rw [if_pos (by decide)];refine Ra (kJ hs pl pu ?_);have hyes:(((sIx items.size 0 lo:Nat):Int) == 0 && (1:Int) == 1 && (sIx items.size items.size hi - sIx items.size 0 lo) == items.size)=true:=by
  rw [h1,h2];simp
 show wpAny _ _ (if (((sIx items.size 0 lo:Nat):Int) == 0 && (1:Int) == 1 && (sIx items.size items.size hi - sIx items.size 0 lo) == items.size)=true then _ else _) _ _ s;rw [if_pos hyes];refine Ra ?_;unfold Builtin.Tuple.tupleIsExact;refine Ra (wpAny_typeOf ht.typeIs (Rb ?_));show wpAny _ _ (if (Value.type "tuple" == Value.type "tuple")=true then _ else _) _ _ s;rw [if_pos (by decide)];exact Ra (Rk (Rb ⟨_,rfl,Rb h⟩))
end HT
namespace PD
open PySem PySem.Spec PyProof.Rows L2
theorem Reps.rev {K:Frag}{st:Bool}:∀ {ds:Ab D}{vs:Ab V},Reps K st H ds vs []->Reps K st H ds.reverse vs.reverse []
 | [],vs,h=>by
  simp only [Reps] at h;obtain⟨rfl,_⟩:=h;simp only [List.reverse_nil,Reps];exact⟨trivial,trivial⟩
 | d :: ds,vs,h=>by
  simp only [Reps] at h;obtain⟨v,us,f1,f2,rfl,e,r1,r2⟩:=h;obtain⟨rfl,rfl⟩:=List.append_eq_nil_iff.mp e.symm;have:=Reps.snoc (Reps.rev r2) r1;simpa using this
def Z8e (K:Frag):V->Aa Int->Aa Int->Hp->VK->Prop:=fun x lo hi H Q=>∃ a xs,x=.ref a /\ SqT K H a xs /\ HT.sIx xs.length 0 lo=0 /\ HT.sIx xs.length xs.length hi=xs.length /\ Q (.ref a) H
theorem Z4J:SlR X (Z8e X.K):=by
 intro pins s σ H x v vl vu lo hi sl Q I rx hs pl pu h;obtain⟨a,xs,rfl,hx,h1,h2,q⟩:=h;cases rx;obtain⟨its,r,ht,hz⟩:=I.tuple hx;have hlen:its.toArray.size=xs.length:=by rw [Qaz];exact r.length.symm
 refine⟨"tuple",_,PyProof.Rows.slot_tuple_getitem.lookup,ht.typeIs,?_⟩;exact HT.getItem_tuple_all ht hs pl pu (by rw [hlen];exact h1) (by rw [hlen];exact h2) ⟨.ref a,H,I,rfl,q⟩
def Z7 (fa:En->Aa D) (fl fh:En->Aa (Aa Int)):En->Aa D:=fun env=>match fa env,fl env,fh env with
 | some (.tup ds),some lo,some hi=>if flats ds=true then some (.tup (cutD ds lo hi)) else none
 | _,_,_=>none
theorem Z01 {lo hi:Aa Int}(h1:HT.sIx ds.length 0 lo=0) (h2:HT.sIx ds.length ds.length hi=ds.length):cutD ds lo hi=ds:=by
 unfold cutD;rw [h1,h2];simp
theorem yR {lo hi:Aa Ag}(ha:QE X m1 rs1 a fa) (hl:QO X lo fl) (hu:QO X hi fh):QE X m rs (.Subscript a (.Slice lo hi none p2) pos) (Z7 fa fl fh) :=
 .mk (L2.pe_slice (SlR.or Z2H Z4J) ha hl hu) fun σ H Q ⟨env,F,d,ok,e,q⟩=>by
  unfold Z7 at e;split at e
  .rename_i ds l h h1 h2 h3;split at e
   .rename_i hf;cases e;refine⟨env,F,_,ok,h1,fun v H1 f1 s1 r1 c1=>⟨env,F,l,ok.same s1,h2,fun H2 s2=>⟨env,F,h,ok.same (s1.trans s2),h3,fun H3 s3=>?_⟩⟩⟩;have r1':=r1.same (s2.trans s3);have r0:=r1';simp only [Rep] at r1';obtain⟨p,vs,rfl,hsq,hr⟩:=r1';by_cases hw:HT.sIx ds.length 0 l=0 /\ HT.sIx ds.length ds.length h=ds.length
    .right;refine⟨p,vs,rfl,hsq,by rw [hr.length];exact hw.1,by rw [hr.length];exact hw.2,?_⟩;rw [Z01 hw.1 hw.2] at q;exact q _ _ [] ((s1.trans s2).trans s3) ((Rep.flat _ _ _ (by simpa only [PD.flat] using hf) r0).2 m) .nil
    .left;refine⟨p,vs,rfl,hsq,by rw [hr.length];exact hw,fun p' hp=>?_⟩;obtain⟨g1,g2⟩:=Reps.flat _ _ _ hf hr;obtain⟨f',e3,e4⟩:=Reps.cut (g2 m) l h;obtain rfl:f'=[]:=List.eq_nil_iff_forall_not_mem.mpr fun b hb=>(by cases e4 b hb);exact q _ _ [] (((s1.trans s2).trans s3).trans (bV hp)) (pH hp e3) .nil
   .cases e
  .cases e
theorem Z3l (he:PE X e te):PE X (.Subscript e (.Slice none none (some (.UnaryOp .USub (.Constant (.int 1) k pp) p3)) p2) pos)
  (fun σ H Q=>te σ H fun x H1=>∃ a xs,x=.ref a /\ SqL X.K H1 a xs /\ ∀ p,H1 p=none->Q (.ref p) (upd H1 p (.lst xs.reverse))):=by
 intro pins s σ H Q I h;refine Subscript_ (thn (he pins s σ H _ I h) fun v s1 ⟨x,H1,I1,r1,a,xs,ex,hx,q⟩=>?_);subst ex;cases r1;refine wpAny_Slice ?_;rw [evalPart_none];refine Rb (Rb ?_);refine thn ((L2.pe_un (pos:=p3) Q9 (L2.pe_int (i:=1) (j:=k) (pos:=pp))) pins s1 σ H1 (fun v H2=>v=.int (-1) /\ H2=H1) I1 ⟨1,rfl,rfl,rfl⟩) fun st s2 h2=>?_;obtain⟨z,H2,I2,rz,rfl,rfl⟩:=h2;obtain⟨t,rfl⟩:=rz;have I3:Inv X pins σ H2 { s2 with heap:=s2.heap.push { cls:=.type "slice",data:=.fields #[.none,.none,.int (-1) t] } }:=I2.kept (t':=s2.toks) fun b ob q=>Qab _ q;obtain⟨its,r,ht,hz⟩:=I3.list hx;have hlen:=r.length;show wpAny (model X.prog X.w) X.A (subscriptTail e (.Slice none none (some (.UnaryOp .USub (.Constant (.int 1) k pp) p3)) p2) (.ref a) (.ref s2.heap.objs.size)) (EP X pins σ Q) X.xe { s2 with heap:=s2.heap.push { cls:=.type "slice",data:=.fields #[.none,.none,.int (-1) t] } };refine tail_any (ops:=[.ref a,.ref s2.heap.objs.size]) ht.isList.typeIs slot_list_getitem.lookup ?_ (by with_unfolding_all rfl);refine wpAny_getItem_list_slice ht.isList (Heap.IsSliceOf.new ..) .none .none (.int _ _) (by simp) ?_ (by rw [Qaz] <;> omega);rw [PySem.W.krv_pick];refine⟨.ref (s2.heap.push { cls:=.type "slice",data:=.fields #[.none,.none,.int (-1) t] }).objs.size,_,I3.laid (t':=s2.toks) (o:=.lst xs.reverse) (fun b ob q=>Qab _ q) (Qag _) ?_,rfl,q _ (I3.hok.fresh (Qag _))⟩;exact⟨by rw [List.length_reverse];exact hz,_,0,r.reverse,Qan _ rfl⟩
def F1 (fa:En->Aa D):En->Aa D:=fun env=>match fa env with
 | some (.lst ds)=>if flats ds=true then some (.lst ds.reverse) else none
 | _=>none
theorem Z33 (ha:QE X m1 rs1 a fa):QE X m rs (.Subscript a (.Slice none none (some (.UnaryOp .USub (.Constant (.int 1) k pp) p3)) p2) pos) (F1 fa) :=
 .mk (Z3l ha) fun σ H Q ⟨env,F,d,ok,e,q⟩=>by
  unfold F1 at e;split at e
  .rename_i ds h1;split at e
   .rename_i hf;cases e;refine⟨env,F,_,ok,h1,fun v H1 f1 s1 r1 c1=>?_⟩;obtain⟨p,vs,fp',rfl,hsq,hr,hsub⟩:=bX r1;refine⟨p,vs,rfl,hsq,fun p' hp=>?_⟩;obtain⟨g1,g2⟩:=Reps.flat _ _ _ hf hr;exact q _ _ [p'] (s1.trans (bV hp)) (lO hp (Reps.rev (g2 m))) (nE (m:=m) (K:=X.K) s1 hp (Reps.rev (g2 m)) .nil)
   .cases e
  .cases e
@[simp] theorem ev_var:aA i env=(env[i]?).join.map (·.2):=(rfl)
@[simp] theorem ev_C:fC d env=some d:=(rfl)
theorem oM {C:Int->Int->Prop}{g:Int->Int->D}{i j:Int}(ha:fa env=some (.int i)) (hb:fb env=some (.int j)) (hc:C i j):fI2 C g fa fb env=some (g i j):=by simp [fI2,ha,hb,hc]
theorem Z4c {g:Int->Int->D}{i j:Int}(ha:fa env=some (.int i)) (hb:fb env=some (.int j)):fI0 g fa fb env=some (g i j):=by simp [fI0,ha,hb]
@[simp] theorem ev_Flat:aY f env=match f env with | some d=>if flat d=true then some d else none | none=>none:=(rfl)
@[simp] theorem ev_B:fB f env=match f env with | some (.bl b)=>some b | _=>none:=(rfl)
@[simp] theorem ev_OfB:hZ b env=(b env).map .bl:=(rfl)
@[simp] theorem ev_And:kE b c env=match b env with | some true=>c env | some false=>some false | none=>none:=(rfl)
@[simp] theorem ev_Or:fOr b c env=match b env with | some false=>c env | some true=>some true | none=>none:=(rfl)
@[simp] theorem ev_Not:eO b env=(b env).map (!·):=(rfl)
@[simp] theorem ev_Nil:aH env=some []:=(rfl)
@[simp] theorem ev_Cons:aC f fs env=match f env,fs env with | some d,some ds=>some (d :: ds) | _,_=>none:=(rfl)
@[simp] theorem ev_Tup:iK fs env=match fs env with | some ds=>if ds.length <= 1000 then some (.tup ds) else none | none=>none:=(rfl)
@[simp] theorem ev_Lst:gE fs env=match fs env with | some ds=>if ds.length <= 1000 then some (.lst ds) else none | none=>none:=(rfl)
@[simp] theorem ev_BI:fBI p fa fb env=match fa env,fb env with | some (.int i),some (.int j)=>some (p i j) | _,_=>none:=(rfl)
@[simp] theorem ev_IsN:jO neg fa env=match fa env with | some .non=>some (!neg) | some _=>some neg | none=>none:=(rfl)
@[simp] theorem ev_Eq:fEq fa fb env=match fa env,fb env with | some x,some y=>eqN 8 x y | _,_=>none:=(rfl)
@[simp] theorem ev_Ix : fIx fa fb env = match fa env, fb env with
 | some (.lst ds),some (.int i)=>atI ds i
 | some (.tup ds),some (.int i)=>atI ds i
 | some (.str z),some (.int i)=>if z.length <= 1000 then (atI z.cps.toList i).map fun c=>.str ⟨#[c]⟩ else none
 | _,_=>none:=(rfl)
@[simp] theorem ev_I2' {C : Int -> Int -> Prop} {g : Int -> Int -> D} : fI2 C g fa fb env = match fa env, fb env with
 | some (.int i),some (.int j)=>open Classical in if C i j then some (g i j) else none
 | _,_=>none:=(rfl)
@[simp] theorem ev_I0' {g : Int -> Int -> D} : fI0 g fa fb env = match fa env, fb env with
 | some (.int i),some (.int j)=>some (g i j)
 | _,_=>none:=(rfl)
@[simp] theorem ev_Call:aJ F' dds fs env=match fs env with | some xs=>F' (xs ++ dds) | none=>none:=by unfold aJ;cases fs env <;> rfl
@[simp] theorem ev_B1:fB1 F' fs env=match fs env with | some xs=>F' xs | none=>none:=by unfold fB1;cases fs env <;> rfl
@[simp] theorem ev_IsT {c:String}:uR c fa env=match fa env with | some d=>(iJ c d).map .bl | none=>none:=by unfold uR;cases fa env <;> rfl
@[simp] theorem ev_NoP:tI env=some none:=(rfl)
@[simp] theorem ev_P:fP f env=match f env with | some (.int i)=>some (some i) | _=>none:=(rfl)
@[simp] theorem ev_seq:cM fa env=match fa env with | some (.lst ds)=>some ds | some (.tup ds)=>some ds | _=>none:=(rfl)
@[simp] theorem ev_TT:fTT env=some true:=(rfl)
@[simp] theorem ev_cat:O8 fa fb env=match fa env,fb env with | some (.lst a),some (.lst b)=>if a.length + b.length <= 1000 then some (.lst (a ++ b)) else none | _,_=>none:=(rfl)
theorem ev_Sl:fSl fa fl fh env=match fa env,fl env,fh env with
 | some (.lst ds),some lo,some hi=>if flats ds=true then some (.lst (cutD ds lo hi)) else none
 | some (.tup ds),some lo,some hi=>if flats ds=true /\ ¬ (HT.sIx ds.length 0 lo=0 /\ HT.sIx ds.length ds.length hi=ds.length) then some (.tup (cutD ds lo hi)) else none
 | _,_,_=>none:=(rfl)
theorem ev_In:fIn fa fb env=match fa env,fb env with | some x,some y=>inF x y | _,_=>none:=(rfl)
theorem ev_SlW:Z7 fa fl fh env=match fa env,fl env,fh env with
 | some (.tup ds),some lo,some hi=>if flats ds=true then some (.tup (cutD ds lo hi)) else none
 | _,_,_=>none:=(rfl)
theorem ev_RevSl:F1 fa env=match fa env with | some (.lst ds)=>if flats ds=true then some (.lst ds.reverse) else none | _=>none:=(rfl)
theorem ev_Neg:Z60 fa env=match fa env with | some (.int i)=>some (.int (-i)) | _=>none:=(rfl)
theorem ev_InK:Z9 fa fb env=match fa env,fb env with
 | some x,some (.dk ks ds)=>match keyOf x with
  | some k=>some (D4 k ks)
  | none=>none
 | _,_=>none:=(rfl)
theorem ev_Bits:uE fa env=match fa env with | some (.int i)=>some (.int ((Builtin.Int.intBits i:Nat):Int)) | _=>none:=(rfl)
@[simp] theorem ev_rNext:bQ env=.next env:=(rfl)
@[simp] theorem ev_rIf:rIf c g h env=match c env with | some true=>g env | some false=>h env | none=>.bad:=(rfl)
@[simp] theorem ev_rRet:bF f env=match f env with | some d=>.ret d | none=>.bad:=(rfl)
@[simp] theorem ev_rSet:bP i f env=match f env with | some d=>.next (env.set i (some (true,d))) | none=>.bad:=(rfl)
@[simp] theorem ev_rSeq:aR g h env=match g env with | .next env'=>h env' | r=>r:=(rfl)
def LI (xs:Ab Int):D:=.lst (xs.map .int)
theorem eqN_int (n:Nat) (a b:Int):eqN (n + 1) (.int a) (.int b)=some (decide (a=b)):=by simp only [eqN];congr
theorem eqN_str (n:Nat) (a b:Str):eqN (n + 1) (.str a) (.str b)=some (a == b):=by simp only [eqN]
theorem eqN_bl (n:Nat) (a b:Bool):eqN (n + 1) (.bl a) (.bl b)=some (a == b):=by simp only [eqN]
theorem eqN_non:eqN (n + 1) .non .non=some true:=by simp only [eqN]
theorem eqN_tnon:eqN (n + 1) (.tup xs) .non=some false:=by simp only [eqN]
theorem eqN_tup (n:Nat) (xs ys:Ab D):eqN (n + 1) (.tup xs) (.tup ys)=(eqL (eqN n) xs ys).map (· && xs.length == ys.length):=by simp only [eqN]
theorem F3 (n:Nat) (xs ys:Ab D):eqN (n + 1) (.lst xs) (.lst ys)=if xs.length=ys.length then eqL (eqN n) xs ys else some false:=by simp only [eqN]
theorem eqL_cons:eqL f (x :: xs) (y :: ys)=match f x y,eqL f xs ys with | some a,some b=>some (a && b) | _,_=>none:=by rw [eqL];try (cases f x y <;> cases eqL f xs ys <;> rfl)
theorem eqL_nil:eqL f [] ys=some true:=by simp only [eqL]
theorem eqL_nilL:eqL f xs []=some true:=by cases xs <;> simp only [eqL]
theorem atI_m3 (x y z:α):atI [x,y,z] (-1)=some z:=rfl
theorem atI_m4 (x y z w:α):atI [x,y,z,w] (-1)=some w:=rfl
theorem atI_0 (x:α) (xs:Ab α):atI (x :: xs) 0=some x:=fW (j:=0) rfl
theorem atI_1 (x y:α) (xs:Ab α):atI (x :: y :: xs) 1=some y:=fW (j:=1) rfl
theorem atI_2 (x y z:α) (xs:Ab α):atI (x :: y :: z :: xs) 2=some z:=fW (j:=2) rfl
theorem atI_3 (x y z w:α) (xs:Ab α):atI (x :: y :: z :: w :: xs) 3=some w:=fW (j:=3) rfl
theorem nO (h:-(2 ^ 64) < a) (h2:a < 2 ^ 64):IntMulOk a b:=.of_left (PySem.intBits_le_64 h h2)
theorem nN (h:-(2 ^ 64) < b) (h2:b < 2 ^ 64):IntMulOk a b:=.of_right (PySem.intBits_le_64 h h2)
theorem Z1n (n:Nat):HT.sIx (n + 1) 0 (some 1)=1:=by
 have:=HT.sIx_nat (n + 1) 0 1;simpa using this
theorem Z4j (x:D) (xs:Ab D):PD.cutD (x :: xs) (some 1) none=xs:=by
 unfold PD.cutD;rw [Qal,Z1n,HT.sIx_none];simp
theorem jL (xs:Ab D) (n:Nat):PD.cutD xs none (some (n:Int))=xs.take n:=by
 unfold PD.cutD;rw [HT.sIx_nat,HT.sIx_none];simp only [List.drop_zero,Nat.sub_zero];by_cases h:n <= xs.length
 .rw [Nat.min_eq_left h]
 .rw [Nat.min_eq_right (by omega),QaR,Qbq (by omega)]
def nth (vs:Ab Int) (a:Int):Int:=vs.getD a.toNat 0
theorem gG {vs:Ab Int}{a:Int}(h0:0 <= a) (h1:a < vs.length):atI (vs.map D.int) a=some (.int (nth vs a)):=by
 have e:atI (vs.map D.int) ((a.toNat:Nat):Int)=some (.int (nth vs a)):=by
  refine fW ?_;have hl:a.toNat < vs.length:=by omega
  simp [nth,List.getD,hl]
 rwa [QbI h0] at e
theorem fL (xs:Ab Int):flats (xs.map D.int)=true:=kT fun d hd=>by
 obtain⟨i,_,rfl⟩:=QaM.mp hd;rfl
theorem Z3W {n:Nat}{l:Int}(h0:0 <= l) (h1:l < n):ixN n l=some l.toNat:=by simp [ixN,h0,h1]
theorem tE:∀ (xs:Ab Int),mD (xs.map D.int)=some xs
 | []=>rfl
 | x :: xs=>by simp only [Qao,mD,tE xs,Option.map_some]
theorem O5 (I:Nat->En->Prop):∀ (ds:Ab D) (k:Nat) (env:En),(∀ i d env,ds[i]? = some d->I (k + i) env->∃ env1 env2,t d env=some env1 /\ (g env1=.next env2 \/ g env1=.cont env2) /\ I (k + i + 1) env2)->I k env ->
  ∃ env',nD t g ds env=.next env' /\ I (k + ds.length) env'
 | [],k,env,_,h=>⟨env,rfl,h⟩
 | d :: ds,k,env,st,h=>by
  obtain⟨env1,env2,h1,h2,h3⟩:=st 0 d env rfl h;obtain⟨env',h4,h5⟩:=O5 I ds (k + 1) env2 (fun i d' e hd hI=>by
   have:=st (i + 1) d' e (by simpa using hd) (by rwa [show k + (i + 1)=k + 1 + i by omega])
   rwa [show k + (i + 1) + 1=k + 1 + i + 1 by omega] at this) h3
  refine⟨env',?_,by rwa [Qal,show k + (ds.length + 1)=k + 1 + ds.length by omega]⟩;unfold nD;rw [h1];simp only;rcases h2 with h2 | h2 <;> (rw [h2];exact h4)
theorem bB (h:g (enStart L ds)=.ret d):runF L g ds=some d:=by unfold runF;rw [h]
theorem Z4N (e:g env=.next env') (q:h env'=r):aR g h env=r:=by unfold aR;rw [e];exact q
theorem Z1p (e:src env=some ds) (h:nD t g ds (fz rs env)=.next env'):eL rs src t g env=.next env':=by unfold eL;rw [e];exact h
theorem eI (h:f env=some (.lst ds)):cM f env=some ds:=by unfold cM;rw [h]
theorem Z2b (I:Nat->En->Prop) {ds:Ab D}{env:En}(st:∀ i d env,ds[i]? = some d->I i env->∃ env1 env2,t d env=some env1 /\ (g env1=.next env2 \/ g env1=.cont env2) /\ I (i + 1) env2) (h:I 0 env) :
  ∃ env',nD t g ds env=.next env' /\ I ds.length env':=by
 have:=O5 I ds 0 env (fun i d e hd hI=>by rw [Qa6] at *;exact st i d e hd hI) h
 rwa [Qa6] at this
theorem iS (h:f env=some d) (q:k (env.set i (some (true,d)))=r):aR (bP i f) k env=r:=by unfold aR bP;rw [h];exact q
theorem V1 (e:c env=some true) (q:aR g k env=r):aR (rIf c g h) k env=r:=by
 unfold aR rIf at *;rw [e];exact q
theorem sNo (e:c env=some false) (q:k env=r):aR (rIf c g bQ) k env=r:=by
 unfold aR rIf;rw [e];exact q
theorem vV (h:f env=some d):aR (bF f) k env=.ret d:=by unfold aR bF;rw [h]
theorem cE (h:f env=some d):bF f env=.ret d:=by unfold bF;rw [h]
theorem uU (h:f env=some d):bP i f env=.next (env.set i (some (true,d))):=by unfold bP;rw [h]
theorem L5 (e:c env=some true) (q:g env=r):rIf c g h env=r:=by unfold rIf;rw [e];exact q
theorem pX (e:c env=some false) (q:h env=r):rIf c g h env=r:=by unfold rIf;rw [e];exact q
theorem jS (h:f env=some d) (e:env[i]? = some (some (true,.lst ds))) (hl:ds.length <= 1000):iG i f env=.next (env.set i (some (true,.lst (ds ++ [d])))):=by unfold iG;rw [h,e];simp [hl]
theorem O6 {g k:En->Res}(I:Nat->En->Prop):∀ (ds:Ab D) (n:Nat) (env:En),(∀ i d env,ds[i]? = some d->I (n + i) env->∃ env1,t d env=some env1 /\ ((∃ env2,(g env1=.next env2 \/ g env1=.cont env2) /\ I (n + i + 1) env2) \/ (∃ d',g env1=.ret d' /\ r=.ret d') \/ (∃ env2,g env1=.brk env2 /\ k env2=r)))->I n env ->
  (∀ env',I (n + ds.length) env'->k env'=r)->(match nD t g ds env with | .next e=>k e | r=>r)=r
 | [],n,env,_,h,q=>by simpa [nD] using q env (by simpa using h)
 | d :: ds,n,env,st,h,q=>by
  obtain⟨env1,h1,h2⟩:=st 0 d env rfl h;unfold nD;rw [h1];rcases h2 with ⟨env2,h3,h4⟩ | ⟨d',h3,rfl⟩ | ⟨env2,h3,h4⟩
  .have ih:=O6 (k:=k) (r:=r) I ds (n + 1) env2 (fun i d' e hd hI=>by
    have:=st (i + 1) d' e (by simpa using hd) (by rwa [show n + (i + 1)=n + 1 + i by omega])
    rwa [show n + (i + 1) + 1=n + 1 + i + 1 by omega] at this) h4 (fun e he=>q e (by rwa [Qal,show n + (ds.length + 1)=n + 1 + ds.length by omega]))
   rcases h3 with h3 | h3 <;> (simp only [h3];exact ih)
  .simp only [h3]
  .simp only [h3];exact h4
theorem Z9b (hs:src env=some ds) (I:Nat->En->Prop) (h0:I 0 (fz rs env))
  (st:∀ i d env,ds[i]? = some d->I i env->∃ env1,t d env=some env1 /\ ((∃ env2,(g env1=.next env2 \/ g env1=.cont env2) /\ I (i + 1) env2) \/ (∃ d',g env1=.ret d' /\ r=.ret d') \/ (∃ env2,g env1=.brk env2 /\ k env2=r)))
  (hend:∀ env',I ds.length env'->k env'=r):aR (eL rs src t g) k env=r:=by
 unfold aR eL;rw [hs];exact O6 I ds 0 _ (fun i d e hd hI=>by rw [Qa6] at *;exact st i d e hd hI) h0 (fun e he=>hend e (by rwa [Qa6] at he))
theorem gR (hs:src env=some ds) (I:Nat->En->Prop) (h0:I 0 (fz rs env))
  (st:∀ i d env,ds[i]? = some d->I i env->∃ env1 env2,t d env=some env1 /\ g env1=.next env2 /\ I (i + 1) env2)
  (hend:∀ env',I ds.length env'->k env'=r):aR (eL rs src t g) k env=r :=
 Z9b hs I h0 (fun i d e hd hI=>let ⟨e1,e2,a,b,c⟩:=st i d e hd hI;⟨e1,a,.inl ⟨e2,.inl b,c⟩⟩) hend
theorem tK (φ:α->D) (ψ:α->D):∀ (xs:Ab α),(∀ x ∈ xs,fe (some (false,φ x) :: env)=some (ψ x))->dD fTT fe env (xs.map φ)=some (xs.map ψ)
 | [],_=>rfl
 | x :: xs,h=>by
  have h1:=h x Qau;have ih:=tK φ ψ xs fun y hy=>h y (Qae _ hy);simp only [Qao,dD,fTT,h1];rw [ih]
theorem bY (φ:α->D) (ψ:α->D) {xs:Ab α}(hs:src env=some (xs.map φ)) (hl:xs.length <= 1000) (h:∀ x ∈ xs,fe (some (false,φ x) :: kW fr env)=some (ψ x)) :
  bL fr src fTT fe env=some (.lst (xs.map ψ)):=by
 unfold bL;rw [hs];simp only [Qaa,hl,RC];rw [tK φ ψ xs h];rfl
theorem rJ (φ:α->D) (ψ:α->D) (p:α->Bool):∀ (xs:Ab α),(∀ x ∈ xs,fc (some (false,φ x) :: env)=some (p x))->(∀ x ∈ xs,p x=true->fe (some (false,φ x) :: env)=some (ψ x))->dD fc fe env (xs.map φ)=some ((xs.filter p).map ψ)
 | [],_,_=>rfl
 | x :: xs,hc,h=>by
  have h1:=hc x Qau;have ih:=rJ φ ψ p xs (fun y hy=>hc y (Qae _ hy)) fun y hy=>h y (Qae _ hy);simp only [Qao,dD,h1];cases hp:p x with
  | true =>
   have h2:=h x Qau hp;simp only [h2,ih,List.filter_cons,hp,RC,Qao]
  | false=>simp only [ih,List.filter_cons,hp];simp
theorem fV (φ:α->D) (ψ:α->D) (p:α->Bool) {xs:Ab α}(hs:src env=some (xs.map φ)) (hl:xs.length <= 1000) (hc:∀ x ∈ xs,fc (some (false,φ x) :: kW fr env)=some (p x)) (h:∀ x ∈ xs,p x=true->fe (some (false,φ x) :: kW fr env)=some (ψ x)) :
  bL fr src fc fe env=some (.lst ((xs.filter p).map ψ)):=by
 unfold bL;rw [hs];simp only [Qaa,hl,RC];rw [rJ φ ψ p xs hc h];rfl
theorem aK (h:fs env=some xs) (q:F' (xs ++ dds)=r):aJ F' dds fs env=r:=by unfold aJ;rw [h];exact q
theorem dX (h:fs env=some xs) (q:F' xs=r):sB1 F' fs env=r:=by unfold sB1;rw [h];exact q
theorem kD (h:fs env=some xs) (q:F' xs=r):fB1 F' fs env=r:=by unfold fB1;rw [h];exact q
theorem aQ (h:f env=some d) (q:fs env=some ds):aC f fs env=some (d :: ds):=by unfold aC;rw [h,q]
theorem Z9e (h0:0 <= j) (h1:j <= 1000):eJ [.int j]=some ((List.range j.toNat).map fun (k:Nat)=>.int (0 + (k:Int))):=by
 simp only [eJ];rw [if_pos (by omega)]
theorem mO {n:Nat}(h1:n <= 1000):eJ [.int (n:Int)]=some ((List.range n).map fun (k:Nat)=>.int (k:Int)):=by
 rw [Z9e (by omega) (by omega),Qat];congr 1;apply Qbe;intro a _;congr 1;omega
theorem Z2T {j:Int}{n:Nat}(e:j=(n:Int)) (h:n <= 1000):eJ [.int j]=some ((List.range n).map fun (k:Nat)=>.int (k:Int)):=by
 rw [e];exact mO h
theorem cH {l:Ab α}(h:l[i]? = some x):l.take (i + 1)=l.take i ++ [x]:=by
 obtain⟨hi,e⟩:=Qac.mp h;rw [List.take_succ,h];rfl
theorem fE {l:Ab α}{i:Nat}(h:(l.map f)[i]? = some y):∃ x,l[i]? = some x /\ y=f x:=by
 rw [Qas] at h;cases e:l[i]? with
 | none=>rw [e] at h;cases h
 | some x=>rw [e] at h;cases h;exact⟨x,rfl,rfl⟩
theorem Y1 {l:Ab α}(h:(l.mapIdx f)[i]? = some y):∃ x,l[i]? = some x /\ y=f i x:=by
 rw [List.getElem?_mapIdx] at h;cases e:l[i]? with
 | none=>rw [e] at h;cases h
 | some x=>rw [e] at h;cases h;exact⟨x,rfl,rfl⟩
theorem cY {y:D}(h:((List.range n).map f)[i]? = some y):i < n /\ y=f i:=by
 obtain⟨x,h1,rfl⟩:=fE h;rw [List.getElem?_range] at h1
 .cases h1;have hi:i < n:=by
   by_cases z:i < n
   .exact z
   .rw [Qaw (by simp;omega)] at h;cases h
  exact⟨hi,rfl⟩
 .by_cases z:i < n
  .exact z
  .rw [Qaw (by simp;omega)] at h;cases h
theorem Z4L (n:Nat):(0:Int) < 1 * 2 ^ n:=by rw [Qbv];exact Int.pow_pos (by decide)
theorem qL (n:Nat):(2 ^ n).log2=n:=by
 rw [Nat.log2_eq_iff (Nat.ne_of_gt (Qbg n))];exact⟨Qag _,Nat.pow_lt_pow_right (by decide) (Qbz n)⟩
theorem xD (h:n < 9000):dM i (1 * 2 ^ n):=by
 refine⟨Z4L n,?_⟩;rw [Qbv,Int.natAbs_pow];show (2 ^ n).log2 < 9000;rw [qL];exact h
def Wp (r:Res) (Q:Res->Prop):Prop:=Q r
def Rt (P:D->Prop):Res->Prop:=fun r=>∃ d,r=.ret d /\ P d
section
variable {Q:Res->Prop}{env:En}{k g h:En->Res}{f:En->Aa D}{c:En->Aa Bool}{i:Nat}{d:D}{P:D->Prop}
theorem Z4S (w:Wp (g (enStart L ds)) (Rt P)):∃ d,runF L g ds=some d /\ P d:=by
 obtain⟨d,e,p⟩:=w;exact⟨d,bB e,p⟩
theorem jN (e:f env=some d) (q:Wp (k (env.set i (some (true,d)))) Q):Wp (aR (bP i f) k env) Q:=by unfold aR bP;rw [e];exact q
theorem Z0d (e:f env=some d) (q:Q (.next (env.set i (some (true,d))))):Wp (bP i f env) Q:=by unfold bP;rw [e];exact q
theorem Z8W (e:c env=some true) (q:Wp (aR g k env) Q):Wp (aR (rIf c g h) k env) Q:=by unfold aR rIf at *;rw [e];exact q
theorem J3 (e:c env=some true) (q:Wp (g env) Q):Wp (rIf c g h env) Q:=by unfold rIf at *;rw [e];exact q
theorem yJ (e:c env=some false) (q:Wp (h env) Q):Wp (rIf c g h env) Q:=by unfold rIf at *;rw [e];exact q
theorem wNo (e:c env=some false) (q:Wp (k env) Q):Wp (aR (rIf c g bQ) k env) Q:=by unfold aR rIf;rw [e];exact q
theorem Z7I (e:f env=some d) (q:Q (.ret d)):Wp (bF f env) Q:=by unfold bF;rw [e];exact q
theorem Z7H (e:f env=some d) (q:Q (.ret d)):Wp (aR (bF f) k env) Q:=by unfold aR bF;rw [e];exact q
theorem Z0f (h:f env=some d) (e:env[i]? = some (some (true,.lst ds))) (hl:ds.length <= 1000) (q:Q (.next (env.set i (some (true,.lst (ds ++ [d])))))):Wp (iG i f env) Q:=by
 rw [jS h e hl];exact q
theorem Z7J {fk:En->Aa D}{ds:Ab D}(h:f env=some d) (hk:fk env=some (.int j)) (e:env[i]? = some (some (true,.lst ds))) (h0:0 <= j) (h1:j < ds.length) (hf:flats ds=true) (hd:flat d=true) (q:Q (.next (env.set i (some (true,.lst (ds.set j.toNat d)))))):Wp (L4 i fk f env) Q:=by
 unfold L4;simp only [h,hk,e,Z3W h0 h1,hf,hd];simpa [Wp] using q
theorem Z4B (M:En->Prop) (h1:Wp (g env) (fun r=>∃ e,r=.next e /\ M e)) (h2:∀ e,M e->Wp (k e) Q):Wp (aR g k env) Q:=by
 obtain⟨e,h3,h4⟩:=h1;unfold aR;rw [h3];exact h2 e h4
theorem Z7G (e:f env=some d) (e2:t d (fz rs env)=some env') (q:Wp (k env') Q):Wp (aR (B9 rs t f) k env) Q:=by
 unfold aR B9;rw [e];simp only [e2];exact q
theorem Z2x (e:env[i]? = some (some (true,d))) (q:Q (.ret d)):Wp (iP i env) Q:=by
 unfold iP;simp only [e];exact q
theorem Z8b (w:Wp (g (enStart L ds)) (fun r=>r=.ret d)):runF L g ds=some d:=bB w
theorem Z2w (e1:env[i]? = some (some (true,.lst xs))) (e2:f env=some (.lst ys)) (h1:flats xs=true) (h2:xs.length + ys.length <= 1000) (q:Q (.next (env.set j (some (true,.lst (xs ++ ys)))))):Wp (gT j i f env) Q:=by
 unfold gT;simp only [e1,e2,h1,h2,and_self,RC];exact q
def Tn (I:En->Prop) (k:En->Res) (Q:Res->Prop):Res->Prop
 | .next e=>I e
 | .cont e=>I e
 | .brk e=>Wp (k e) Q
 | .ret d=>Q (.ret d)
 | .bad=>False
theorem Z0R (I:Nat->En->Prop):∀ (ds:Ab D) (n:Nat) (env:En),(∀ i d env,ds[i]? = some d->I (n + i) env->∃ env1,t d env=some env1 /\ Wp (g env1) (Tn (I (n + i + 1)) k Q))->I n env ->
  (∀ env',I (n + ds.length) env'->Wp (k env') Q)->Wp (match nD t g ds env with | .next e=>k e | r=>r) Q
 | [],n,env,_,h,q=>by simpa [nD] using q env (by simpa using h)
 | d :: ds,n,env,st,h,q=>by
  obtain⟨env1,h1,h2⟩:=st 0 d env rfl h;unfold nD;rw [h1];have ih:∀ env2,I (n + 0 + 1) env2->Wp (match nD t g ds env2 with | .next e=>k e | r=>r) Q:=fun env2 h4=>Z0R I ds (n + 1) env2 (fun i d' e hd hI=>by
    have:=st (i + 1) d' e (by simpa using hd) (by rwa [show n + (i + 1)=n + 1 + i by omega])
    rwa [show n + (i + 1) + 1=n + 1 + i + 1 by omega] at this) h4 (fun e he=>q e (by rwa [Qal,show n + (ds.length + 1)=n + 1 + ds.length by omega]))
  unfold Wp at h2;cases e1:g env1 with
  | next e=>rw [e1] at h2;simp only [e1];exact ih e h2
  | cont e=>rw [e1] at h2;simp only [e1];exact ih e h2
  | brk e=>rw [e1] at h2;simp only [e1];exact h2
  | ret d'=>rw [e1] at h2;simp only [e1];exact h2
  | bad=>rw [e1] at h2;exact h2.elim
theorem Z8X (hs:src env=some ds) (I:Nat->En->Prop) (h0:I 0 (fz rs env))
  (st:∀ i d env,ds[i]? = some d->I i env->∃ env1,t d env=some env1 /\ Wp (g env1) (Tn (I (i + 1)) k Q))
  (hend:∀ env',I ds.length env'->Wp (k env') Q):Wp (aR (eL rs src t g) k env) Q:=by
 unfold aR eL;rw [hs];exact Z0R I ds 0 _ (fun i d e hd hI=>by rw [Qa6] at *;exact st i d e hd hI) h0 (fun e he=>hend e (by rwa [Qa6] at he))
theorem Z0e (hs:src env=some ds) (I:Nat->En->Prop) (h0:I 0 (fz rs env))
  (st:∀ i d env (R:Res->Prop),ds[i]? = some d->I i env->(∀ e,I (i + 1) e->R (.next e))->∃ env1,t d env=some env1 /\ Wp (g env1) R)
  (hend:∀ env',I ds.length env'->Wp (k env') Q):Wp (aR (eL rs src t g) k env) Q :=
 Z8X hs I h0 (fun i d e hd hI=>st i d e _ hd hI fun _ z=>z) hend
end
end PD
namespace G
open PySem PySem.Spec PyProof.Rows L2 PD
inductive Kd where | and | or | xor deriving DecidableEq
def Kd.s:Kd->Str | .and => "and" | .or => "or" | .xor => "xor"
inductive Row where | fix (b:Int) | not (a:Int) | bin (k:Kd) (a b:Int)
def Row.d:Row->D
 | .fix b=>.tup [.str "fix",.int b]
 | .not a=>.tup [.str "not",.int a]
 | .bin k a b=>.tup [.str k.s,.int a,.int b]
inductive Flt where | none | wire (w b:Int) | leg (w l b:Int)
def Flt.d:Flt->D
 | .none=>.non
 | .wire w b=>.tup [.str "wire",.int w,.int b]
 | .leg w l b=>.tup [.str "leg",.int w,.int l,.int b]
theorem Z7V:((Str.ofString "wire") == (Str.ofString "leg"))=false:=by decide +kernel
theorem Z83:((Str.ofString "leg") == (Str.ofString "wire"))=false:=by decide +kernel
theorem Z98:((Str.ofString "wire") == (Str.ofString "wire"))=true:=by decide +kernel
theorem Z4Q:((Str.ofString "fix") == (Str.ofString "fix"))=true:=by decide +kernel
theorem Z1l:((Str.ofString "not") == (Str.ofString "fix"))=false:=by decide +kernel
theorem Z1m (k:Kd):(k.s == (Str.ofString "fix"))=false:=by cases k <;> decide +kernel
theorem Z85 (k:Kd):(k.s == (Str.ofString "not"))=false:=by cases k <;> decide +kernel
theorem Z99:((Str.ofString "not") == (Str.ofString "not"))=true:=by decide +kernel
theorem Z86 (k:Kd):(k.s == (Str.ofString "and"))=decide (k=.and):=by cases k <;> decide +kernel
theorem Z84 (k:Kd):(k.s == (Str.ofString "or"))=decide (k=.or):=by cases k <;> decide +kernel
theorem Z9a:((Str.ofString "leg") == (Str.ofString "leg"))=true:=by decide +kernel
theorem Z2R (r:Row):flat r.d=true:=by cases r <;> rfl
theorem jK (f:Flt):flat f.d=true:=by cases f <;> rfl
theorem Z1o (rows:Ab Row):flats (rows.map Row.d)=true:=kT fun d hd=>by
 obtain⟨r,_,rfl⟩:=QaM.mp hd;exact Z2R r
def bO (v w o:Int):Flt->Int
 | .wire w' b=>if w'=w then o * b else v
 | _=>v
def Row.ws:Row->Ab Int
 | .fix _=>[]
 | .not a=>[a]
 | .bin _ a b=>[a,b]
def legs (r:Row) (w:Int) (vs:Ab Int) (o:Int) (f:Flt):Ab Int:=match f with
 | .leg w' l b=>if w'=w then (r.ws.map (nth vs)).set l.toNat (o * b) else r.ws.map (nth vs)
 | _=>r.ws.map (nth vs)
def hX (r:Row) (ls:Ab Int) (o:Int):Int:=match r with
 | .fix b=>o * b
 | .not _=>Builtin.bitXor o (nth ls 0)
 | .bin .and _ _=>Builtin.bitAnd (nth ls 0) (nth ls 1)
 | .bin .or _ _=>Builtin.bitOr (nth ls 0) (nth ls 1)
 | .bin .xor _ _=>Builtin.bitXor (nth ls 0) (nth ls 1)
def aX (C:Af) (ins:Int) (rows:Ab Row) (outs:Ab Int):D:=.obj C ["ins","rows","outs"] [.int ins,.lst (rows.map Row.d),LI outs]
theorem rB (h:fa env=some (aX C ins rows outs)):gO C "rows" fa env=some (.lst (rows.map Row.d)):=by
 have h1:(Str.ofString "rows" == Str.ofString "ins")=false:=by decide +kernel
 simp [gO,h,aX,QaX,h1]
theorem lY (h:fa env=some (aX C ins rows outs)):gO C "ins" fa env=some (.int ins):=by
 simp [gO,h,aX,QaX]
theorem wY (h:fa env=some (aX C ins rows outs)):gO C "outs" fa env=some (LI outs):=by
 have h1:(Str.ofString "outs" == Str.ofString "ins")=false:=by decide +kernel
 have h2:(Str.ofString "outs" == Str.ofString "rows")=false:=by decide +kernel
 simp [gO,h,aX,QaX,h1,h2]
def bU (o:Int) (f:Flt):Ab Int->Ab Int->Ab Int
 | vs,[]=>vs
 | vs,s :: r=>bU o f (vs ++ [bO s vs.length o f]) r
def eR (o:Int) (f:Flt):Ab Int->Ab Row->Ab Int
 | vs,[]=>vs
 | vs,r :: rs=>eR o f (vs ++ [bO (hX r (legs r vs.length vs o f) o) vs.length o f]) rs
theorem gH (o:Int) (f:Flt):∀ (ss vs:Ab Int),(bU o f vs ss).length=vs.length + ss.length
 | [],vs=>by simp [bU]
 | s :: r,vs=>by simp only [bU];rw [gH o f r];simp;omega
theorem sK (o:Int) (f:Flt):∀ (rs:Ab Row) (vs:Ab Int),(eR o f vs rs).length=vs.length + rs.length
 | [],vs=>by simp [eR]
 | r :: rs,vs=>by simp only [eR];rw [sK o f rs];simp;omega
theorem lA (o:Int) (f:Flt):∀ (ss vs:Ab Int) (s:Int),bU o f vs (ss ++ [s])=bU o f vs ss ++ [bO s (bU o f vs ss).length o f]
 | [],vs,s=>by simp [bU]
 | a :: ss,vs,s=>by simp only [QbA,bU];rw [lA o f ss]
theorem pA (o:Int) (f:Flt):∀ (rs:Ab Row) (vs:Ab Int) (r:Row),eR o f vs (rs ++ [r])=eR o f vs rs ++ [bO (hX r (legs r (eR o f vs rs).length (eR o f vs rs) o f) o) (eR o f vs rs).length o f]
 | [],vs,s=>by simp [eR]
 | a :: ss,vs,s=>by simp only [QbA,eR];rw [pA o f ss]
def RowOk (n:Int):Row->Prop
 | .fix b=>b=0 \/ b=1
 | .not a=>0 <= a /\ a < n
 | .bin _ a b=>(0 <= a /\ a < n) /\ 0 <= b /\ b < n
theorem RowOk.ws (h:RowOk n r):∀ a ∈ r.ws,0 <= a /\ a < n:=by
 cases r with
 | fix b=>intro a ha;cases ha
 | not a=>intro b hb;simp [Row.ws] at hb;subst hb;exact h
 | bin k a b=>intro c hc;simp [Row.ws] at hc;exact hc.elim (fun z=>z ▸ h.1) (fun z=>z ▸ h.2)
def RowsOk (ins:Nat) (rows:Ab Row):Prop:=∀ k r,rows[k]? = some r->RowOk ((ins + k:Nat):Int) r
structure FltOk (ins:Nat) (rows:List Row) (f:Flt):Prop where
 w:∀ w b,f=.wire w b->b=0 \/ b=1
 l:∀ w l b,f=.leg w l b->b=0 \/ b=1
 leg:∀ w l b k r,f=.leg w l b->rows[k]? = some r->w=((ins + k:Nat):Int)->0 <= l /\ l < r.ws.length
theorem FltOk.no:FltOk ins rows .none:=⟨fun _ _ z=>(by cases z),fun _ _ _ z=>(by cases z),fun _ _ _ _ _ z=>(by cases z)⟩
theorem Z3L (r:Row) (w:Int) (vs:Ab Int) (o:Int) (f:Flt):(legs r w vs o f).length=r.ws.length:=by
 unfold legs;split
 .split <;> simp
 .simp
theorem rM (h:b=0 \/ b=1):IntMulOk o b:=by rcases h with z | z <;> (subst z;exact nN (by decide) (by decide))
def hV (n:Nat) (g:Int):Ab Int:=(List.range n).map fun k=>(g / 2 ^ k) % 2
def xF (ins:Nat) (rows:Ab Row) (g:Int) (f:Flt):Ab Int:=eR 1 f (bU 1 f [] (hV ins g)) rows
def iF (o:Int) (f:Flt) (ss:Ab Int) (rows:Ab Row):Ab Int:=eR o f (bU o f [] ss) rows
theorem nG (o:Int) (f:Flt) (ss:Ab Int) (rows:Ab Row):(iF o f ss rows).length=ss.length + rows.length:=by
 unfold iF;rw [sK,gH];simp
theorem oZ (o:Int) (f:Flt):∀ (rs:Ab Row) (vs:Ab Int) (k:Nat),k <= rs.length->(eR o f vs rs).take (vs.length + k)=eR o f vs (rs.take k)
 | [],vs,k,h=>by
  have:k=0:=by simpa using h
  subst this;simp [eR]
 | r :: rs,vs,0,h=>by
  have ih:=oZ o f rs (vs ++ [bO (hX r (legs r vs.length vs o f) o) vs.length o f]) 0 (Qbm _);simp only [eR,Qbt,Nat.add_zero] at ih ⊢;have e:(eR o f (vs ++ [bO (hX r (legs r vs.length vs o f) o) vs.length o f]) rs).take vs.length=((eR o f (vs ++ [bO (hX r (legs r vs.length vs o f) o) vs.length o f]) rs).take (vs ++ [bO (hX r (legs r vs.length vs o f) o) vs.length o f]).length).take vs.length:=by
   rw [List.take_take];congr 1;simp
  rw [e,ih];simp
 | r :: rs,vs,k + 1,h=>by
  have ih:=oZ o f rs (vs ++ [bO (hX r (legs r vs.length vs o f) o) vs.length o f]) k (by simpa using h);simp only [eR,QbH];rw [<- ih];congr 1;simp;omega
theorem kZ (o:Int) (f:Flt):∀ (ss vs:Ab Int) (k:Nat),k <= ss.length->(bU o f vs ss).take (vs.length + k)=bU o f vs (ss.take k)
 | [],vs,k,h=>by
  have:k=0:=by simpa using h
  subst this;simp [bU]
 | s :: ss,vs,0,h=>by
  have ih:=kZ o f ss (vs ++ [bO s vs.length o f]) 0 (Qbm _);simp only [bU,Qbt,Nat.add_zero] at ih ⊢;have e:(bU o f (vs ++ [bO s vs.length o f]) ss).take vs.length=((bU o f (vs ++ [bO s vs.length o f]) ss).take (vs ++ [bO s vs.length o f]).length).take vs.length:=by
   rw [List.take_take];congr 1;simp
  rw [e,ih];simp
 | s :: ss,vs,k + 1,h=>by
  have ih:=kZ o f ss (vs ++ [bO s vs.length o f]) k (by simpa using h);simp only [bU,QbH];rw [<- ih];congr 1;simp;omega
theorem jA (h:k <= rows.length):(iF o f ss rows).take (ss.length + k)=iF o f ss (rows.take k):=by
 have:=oZ o f rows (bU o f [] ss) k h;rw [gH] at this;simpa [iF] using this
theorem xL (h:k <= ss.length):(iF o f ss rows).take k=bU o f [] (ss.take k):=by
 have h1:=jA (o:=o) (f:=f) (ss:=ss) (rows:=rows) (k:=0) (Qbm _);have e:(iF o f ss rows).take k=((iF o f ss rows).take (ss.length + 0)).take k:=by rw [List.take_take];congr 1;omega
 have h2:=kZ o f ss [] k h;rw [e,h1];simpa [iF,eR] using h2
theorem yP {l a:Ab α}(h:l.take (i + 1)=a ++ [x]) (hl:i < l.length):l.take i=a /\ l[i]? = some x:=by
 have h1:l.take (i + 1)=l.take i ++ [l[i]]:=by rw [List.take_succ,Qad hl];rfl
 rw [h1] at h;obtain⟨h2,h3⟩:=List.append_inj' h rfl;refine⟨h2,?_⟩;rw [Qad hl];simpa using h3
theorem vD {f:Flt}{i:Nat}(h:ss[i]? = some s):(iF o f ss rows)[i]? = some (bO s i o f):=by
 have hi:i < ss.length:=(Qac.mp h).1;have h1:=xL (o:=o) (f:=f) (rows:=rows) (show i + 1 <= ss.length from hi)
 rw [cH h,lA,gH] at h1;have h2:=(yP h1 (by rw [nG];omega)).2;rw [h2];congr 2;simp;omega
theorem rQ {f:Flt}(h:rows[k]? = some r) :
  (iF o f ss rows)[ss.length + k]? = some (bO (hX r (legs r ((ss.length + k:Nat):Int) ((iF o f ss rows).take (ss.length + k)) o f) o) ((ss.length + k:Nat):Int) o f):=by
 have hk:k < rows.length:=(Qac.mp h).1;have h1:=jA (o:=o) (f:=f) (ss:=ss) (show k + 1 <= rows.length from hk)
 have h0:=jA (o:=o) (f:=f) (ss:=ss) (show k <= rows.length from Qbd hk)
 have hl:(iF o f ss (rows.take k)).length=ss.length + k:=by rw [nG];simp;omega
 rw [cH h] at h1;unfold iF at h1 h0 hl;rw [pA,hl] at h1;have h2:=(yP (l:=iF o f ss rows) (i:=ss.length + k) (by rw [<- h1];rfl) (by rw [nG];omega)).2;rw [h2];show _=some (bO (hX r (legs r _ ((eR o f (bU o f [] ss) rows).take (ss.length + k)) o f) o) _ o f);rw [h0]
def Bt (x:Int):Prop:=x=0 \/ x=1
instance (x:Int):Decidable (Bt x):=inferInstanceAs (Decidable (x=0 \/ x=1))
theorem Z67 (h:Bt x):Builtin.bitXor 1 x=1 - x:=by rcases h with z | z <;> (subst z;decide)
theorem Z08 (h:Bt x):Bt (Builtin.bitXor 1 x):=by rw [Z67 h];rcases h with z | z <;> (subst z;decide)
theorem Z2m (h:Bt x) (k:Bt y):Bt (Builtin.bitAnd x y):=by rcases h with z | z <;> rcases k with w | w <;> (subst z;subst w;decide)
theorem Z4l (h:Bt x) (k:Bt y):Bt (Builtin.bitOr x y):=by rcases h with z | z <;> rcases k with w | w <;> (subst z;subst w;decide)
theorem Z2l (h:Bt x) (k:Bt y):Bt (Builtin.bitXor x y):=by rcases h with z | z <;> rcases k with w | w <;> (subst z;subst w;decide)
theorem iC {i:Nat}(h:vs[i]? = some x) (e:a=(i:Int)):nth vs a=x:=by
 subst e;simp [nth,List.getD,h]
theorem D3 (h0:0 <= a) (h1:a < vs.length):nth vs a ∈ vs:=by
 have hl:a.toNat < vs.length:=by omega
 have:vs[a.toNat]? = some (vs[a.toNat]):=Qad hl;unfold nth;rw [List.getD,this];exact List.getElem_mem hl
theorem lM (h:∀ x ∈ vs,Bt x) (a:Int):Bt (nth vs a):=by
 unfold nth;cases e:vs[a.toNat]? with
 | none=>left;simp [List.getD,e]
 | some x=>rw [List.getD,e];exact h x (QaI e)
theorem Z0H (h:∀ x ∈ vs,Bt x) (hf:∀ w l b,f=.leg w l b->b=0 \/ b=1):∀ x ∈ legs r w vs 1 f,Bt x:=by
 have h0:∀ x ∈ r.ws.map (nth vs),Bt x:=fun x hx=>by
  obtain⟨a,_,rfl⟩:=QaM.mp hx;exact lM h a
 intro x hx;unfold legs at hx;split at hx
 .rename_i w' l b;split at hx
  .rcases List.mem_or_eq_of_mem_set hx with z | z
   .exact h0 x z
   .rw [z,Qbv];exact hf _ _ _ rfl
  .exact h0 x hx
 .exact h0 x hx
theorem Z5U (h:∀ x ∈ ls,Bt x) (hr:RowOk n r):Bt (hX r ls 1):=by
 cases r with
 | fix b=>show Bt (1 * b);rw [Qbv];exact hr
 | not a=>exact Z08 (lM h 0)
 | bin k a b=>cases k with
  | and=>exact Z2m (lM h 0) (lM h 1)
  | or=>exact Z4l (lM h 0) (lM h 1)
  | xor=>exact Z2l (lM h 0) (lM h 1)
theorem yW (h:Bt v) (hf:∀ w b,f=.wire w b->b=0 \/ b=1):Bt (bO v w 1 f):=by
 unfold bO;split
 .split
  .rw [Qbv];exact hf _ _ rfl
  .exact h
 .exact h
theorem vK (hf:∀ w b,f=.wire w b->b=0 \/ b=1):∀ (ss vs:Ab Int),(∀ x ∈ vs,Bt x)->(∀ x ∈ ss,Bt x)->∀ x ∈ bU 1 f vs ss,Bt x
 | [],vs,h,_=>h
 | s :: ss,vs,h,hs=>by
  simp only [bU];refine vK hf ss _ (fun x hx=>?_) fun x hx=>hs x (Qae _ hx);rcases Qai.mp hx with z | z
  .exact h x z
  .have:x=bO s vs.length 1 f:=by simpa using z
   rw [this];exact yW (hs s Qau) hf
theorem K9 (hf:∀ w b,f=.wire w b->b=0 \/ b=1) (hl:∀ w l b,f=.leg w l b->b=0 \/ b=1):∀ (rs:Ab Row) (vs:Ab Int),(∀ x ∈ vs,Bt x)->(∀ r ∈ rs,∃ n,RowOk n r)->∀ x ∈ eR 1 f vs rs,Bt x
 | [],vs,h,_=>h
 | r :: rs,vs,h,hs=>by
  simp only [eR];refine K9 hf hl rs _ (fun x hx=>?_) fun x hx=>hs x (Qae _ hx);rcases Qai.mp hx with z | z
  .exact h x z
  .have:x=bO (hX r (legs r vs.length vs 1 f) 1) vs.length 1 f:=by simpa using z
   obtain⟨n,hn⟩:=hs r Qau;rw [this];exact yW (Z5U (Z0H h hl) hn) hf
theorem E5 (n:Nat) (g:Int):∀ x ∈ hV n g,Bt x:=fun x hx=>by
 obtain⟨k,_,rfl⟩:=QaM.mp hx;have h0:=QaL (g / 2 ^ k) (show (2:Int) ≠ 0 by decide);have h1:=QaC (g / 2 ^ k) (show (0:Int) < 2 by decide);show _ \/ _;omega
theorem Z4r (hr:RowsOk ins rows) (hf:FltOk ins rows f):∀ x ∈ xF ins rows g f,Bt x:=by
 refine K9 hf.w hf.l rows _ (vK hf.w _ _ (fun x hx=>(by cases hx)) (E5 ins g)) fun r hr'=>?_;obtain⟨k,hk⟩:=List.getElem?_of_mem hr';exact⟨_,hr k r hk⟩
theorem Z4q (h:i < ins):(xF ins rows g f)[i]? = some (bO (g / 2 ^ i % 2) i 1 f) :=
 vD (ss:=hV ins g) (by simp [hV,h])
theorem Z2o (h:rows[k]? = some r) :
  (xF ins rows g f)[ins + k]? = some (bO (hX r (legs r ((ins + k:Nat):Int) ((xF ins rows g f).take (ins + k)) 1 f) 1) ((ins + k:Nat):Int) 1 f):=by
 have:=rQ (o:=1) (f:=f) (ss:=hV ins g) h;have gl:(hV ins g).length=ins:=by simp [hV]
 rw [gl] at this;exact this
end G
namespace PD
open PySem PySem.Spec PyProof.Rows L2
open Classical in
mutual
theorem Rep.keepF {K:Frag}{st:Bool}{H H':Hp}(ht:∀ a xs,SqT K H a xs->SqT K H' a xs):∀ (d:D) (v:V) (fp:Ab Af),flat d=true->Rep K st H d v fp->Rep K st H' d v fp
 | .non,v,fp,_,h=>by simpa only [Rep] using h
 | .bl _,v,fp,_,h=>by simpa only [Rep] using h
 | .int _,v,fp,_,h=>by simpa only [Rep] using h
 | .str _,v,fp,_,h=>by simpa only [Rep] using h
 | .tup ds,v,fp,f,h=>by
  simp only [Rep] at h ⊢;obtain⟨a,vs,e,hs,hr⟩:=h;exact⟨a,vs,e,ht _ _ hs,Reps.keepF ht ds vs fp (by simpa only [PD.flat] using f) hr⟩
 | .lst _,v,fp,f,h=>by simp only [PD.flat] at f;cases f
 | .obj _ _ _,v,fp,f,h=>by simp only [PD.flat] at f;cases f
 | .dk _ _,v,fp,f,h=>by simp only [PD.flat] at f;cases f
 | .dt _ _,v,fp,f,h=>by simp only [PD.flat] at f;cases f
 | .exc _,v,fp,f,h=>by simp only [PD.flat] at f;cases f
 | .fn _ _ _,v,fp,f,h=>by simp only [PD.flat] at f;cases f
theorem Reps.keepF {K:Frag}{st:Bool}{H H':Hp}(ht:∀ a xs,SqT K H a xs->SqT K H' a xs):∀ (ds:Ab D) (vs:Ab V) (fp:Ab Af),flats ds=true->Reps K st H ds vs fp->Reps K st H' ds vs fp
 | [],vs,fp,_,h=>by simpa only [Reps] using h
 | d :: ds,vs,fp,f,h=>by
  simp only [Reps] at h ⊢;simp only [flats,QaU] at f;obtain⟨v,r,f1,f2,e1,e2,h1,h2⟩:=h;exact⟨v,r,f1,f2,e1,e2,Rep.keepF ht d v f1 f.1 h1,Reps.keepF ht ds r f2 f.2 h2⟩
end
end PD
namespace L2
open PySem PySem.Spec PyProof.Rows
theorem Z5Y {K:Frag}{dV kV doc pm cdv ct oc:Ad}
  {osl:Ae (Aa Ad)}{N ps:Ab Str}{A:Ai}{outer:Ab Env}{s:Ac}{H:Hp}{args:Args}{us:Ab Ad}{vs:Ab V}{Q:VK}{E:XK}(lk:K.lookup f=some ⟨oc,od,.func (fnOf name qual params body scope dV kV doc pm an cdv ct),osl⟩) (hcd:codeIn K cdv qual=true) (S:aP N ps scope)
  (hl:vs.length=ps.length) (hr:Room (k + 1) A) (e0:Env0 P w K mg base A outer s H) (hb:BindsTo s (fnOf name qual params body scope dV kV doc pm an cdv ct) args (ps.zip us)) (r:Vals vs us)
  (hbody:Room k (A.deeper (envOfC qual scope s.heap.objs.size f cdv))->∃ t,PSs (tJ CX P w K mg base N qual scope f cdv A outer s H E) body t /\ t { nx:=fun _ H'=>Q .non H',rt:=Q } (start N vs) H) :
  codeAny (model P w) A (.call (.ref f) args) (CR CX outer P w H s Q E) s:=by
 have KX:K.In s.heap:=e0.mod.kin.keeps fun b o e=>(e0.bs b o e).1;have lim:s.heap.NoLimit:=e0.mod.nolimit.keeps fun b o e=>(e0.bs b o e).1;have hkind:∀ y ∈ ps.zip us,scope.names.lookup y.1=some .local \/ (scope.names.lookup y.1=some .cell /\ ((cellsFrom (s.heap.objs.size + 1) scope.names []).lookup y.1).isSome=true):=fun⟨n,v⟩ hy=>by
  rcases S.par n (List.of_mem_zip hy).1 with q | q
  .exact .inl q
  .exact .inr ⟨q,PySem.W.cellsFrom_some _ _ _ (.inl q)⟩
 refine codeAny_call_function hr.depth (KX _ _ lk) rfl S.co S.gen rfl (PySem.W.codeRec_of KX hcd) (hb _ _ _ _ ?_);refine wpAny_newFunctionEnv_cells S.kind hkind fun env he s1 x=>?_;subst he;refine⟨lim.keeps x.toInCall.keep,codeAny_func ?_⟩;obtain⟨t,ht,hq⟩:=hbody (hr.deeper _);have I:Inv (tJ CX P w K mg base N qual scope f cdv A outer s H E) [] (start N vs) H s1:=zD S hr.hd e0 hl r x;refine Rc (ht [] s1 (start N vs) H _ I hq) (fun fl s' hs=>?_) fun e s' hs=>hs;have fin:∀ {σ':St}{H':Hp}{v:V}{u:Ad},Inv (tJ CX P w K mg base N qual scope f cdv A outer s H E) [] σ' H' s'->RelV v u->Q v H'->CE outer P w H s Q u s' :=
  fun {σ' H' v u} J rv q=>⟨v,H',J.os,J.bare,J.base,J.hok,rv,q⟩
 cases fl with
 | ret u =>
  obtain⟨v,σ',H',J,rv,q⟩:=hs;exact fin J rv q
 | next =>
  obtain⟨σ',H',J,q⟩:=hs;exact fin (v:=V.non) (u:=Value.none) J rfl q
 | brk =>
  obtain⟨_,_,_,q⟩:=hs;exact False.elim q
 | cont =>
  obtain⟨_,_,_,q⟩:=hs;exact False.elim q
theorem Z1Q {K:Frag}
  (KX:K.In s₁.heap) (hns:s₁.heap.Ns mainGlobals mg) (hb:s₁.heap.Ns builtinsNs mb) (hbb:∀ x:Str,x ≠ "__name__" -> mb x=bootBuiltins x) (hlim:s₁.heap.NoLimit) (hg:s₁.gens = #[])
  (ha:s₁.heap.get? a=some { cls:=.type "list",data:=.seq vs.toArray }) (hi:IntsAre vs ns) (hl:ns.length <= sizeLine) (hr:Room k callerA)
  (hT:s₁.heap.TableAt c₀ P₀ #[]) (hKP:K.lookup P₀=none) (hBm:s₁.heap.BuiltinsAt mg P₀)
  (F:∀ base:Ah,K.In base->base.Ns mainGlobals mg->base.BuiltinsAt mg P₀->bR P w K mg base CX k fa fd [x] sp) (hbind:∀ (s:Ac) (u:Ad),BindsTo s fd ⟨[u],[]⟩ [(x,u)])
  (hsp:∀ H:Hp,H P₀=some (.tbl #[(pos,q₀)])->SqL K H a (ns.map V.int)->sp [.ref a] H (fun v H'=>v=.bl true /\ H' P₀=some (.tbl #[(pos,q₀)])) fun _ _ _=>False)
  (hCX:∀ H e s',CX [] H s₁ (fun _ _ _=>False) e s'->False) :
  codeAny (model P w) callerA (.call (.ref fa) ⟨[.ref a],[]⟩) (fun r s'=>r=.ok (.ret (.bool true)) /\ OldK s₁.heap s'.heap /\ s'.os=s₁.os /\ AllBare s'.gens) s₁:=by
 have rv:=kH hi;have lenV:=hi.length;have hP:=hT.2;have hPa:P₀ ≠ a:=fun z=>by rw [z,ha] at hP;cases hP
 have core:∀ H:Hp,H P₀=some (.tbl #[(pos,q₀)])->(H a=none \/ ∃ o xs,H a=some (.frz o (.lst xs)))->SqL K H a (ns.map V.int)->HOk P w H s₁.heap->(∀ b,H b ≠ none->b=a \/ b=P₀)->(H a ≠ none->K.lookup a=none) ->
   codeAny (model P w) callerA (.call (.ref fa) ⟨[.ref a],[]⟩) (fun r s'=>r=.ok (.ret (.bool true)) /\ OldK s₁.heap s'.heap /\ s'.os=s₁.os /\ AllBare s'.gens) s₁:=by
  intro H hHP hO hS hok hA hK;have base_of:∀ {b:Af}{o:Obj},s₁.heap.get? b=some o->H b=none->(yA s₁.heap H).get? b=some o:=fun e n=>Z41 e n;have noA:∀ {b:Af}{o:Obj}{es:Ae DictEntry}{ep:Nat},s₁.heap.get? b=some o->o.data=.dict es ep->H b=none:=fun {b o es ep} e d=>by
   cases q:H b with
   | none=>rfl
   | some u =>
    rcases hA b (by rw [q];simp) with e' | e'
    .subst e';rw [ha] at e;cases e;cases d
    .subst e';rw [hP] at e;cases e;cases d
  have nsK:∀ {b:Af}{m:Str->Aa Ad},s₁.heap.Ns b m->(yA s₁.heap H).Ns b m:=fun {b m} ⟨o,es,ep,e,d,r⟩=>⟨o,es,ep,base_of e (noA e d),d,r⟩;have hKb:K.In (yA s₁.heap H):=fun b o e=>base_of (KX b o e) (by
   cases q:H b with
   | none=>rfl
   | some u =>
    rcases hA b (by rw [q];simp) with e' | e'
    .subst e';rw [hK (by rw [q];simp)] at e;cases e
    .subst e';rw [hKP] at e;cases e)
  have hBb:(yA s₁.heap H).BuiltinsAt mg P₀:=by
   obtain⟨bm,ob,b1,b2,b3,b4,b5,b6,b7⟩:=hBm;refine⟨bm,ob,b1,b2,b3,b4,base_of b5 ?_,b6,b7⟩;cases q:H bm with
   | none=>rfl
   | some u =>
    rcases hA bm (by rw [q];simp) with e' | e'
    .rw [e',ha] at b5;cases b5;exact absurd (show Value.type "list" = Value.type "module" from b6) (by decide)
    .exact absurd e' b4
  have hM:Mod K mg (yA s₁.heap H):=⟨hKb,nsK hns,⟨mb,nsK hb,hbb⟩,let ⟨mc,h1,h2⟩:=hlim;⟨mc,nsK h1,h2⟩⟩;have e0:Env0 P w K mg (yA s₁.heap H) callerA [] s₁ H:=⟨rfl,hM,fun b o e=>Z5t e,Nat.le_of_eq (Z23 _ _),trivial,fun b hb=>absurd (show b ∈ ([]:Ab Af) from hb) (by simp),hok,.of_eq hg⟩
  refine Ro ((F _ hKb (nsK hns) hBb).run callerA [] s₁ H ⟨[.ref a],[]⟩ [.ref a] [.ref a] _ _ hr e0 (hbind s₁ (.ref a)) (.cons rfl .nil) (hsp H hHP hS)) fun r s' h=>?_;cases r with
  | error e=>exact (hCX H e s' h).elim
  | ok fl =>
   cases fl with
   | next=>exact False.elim h
   | brk=>exact False.elim h
   | cont=>exact False.elim h
   | ret u =>
    obtain⟨v,H',os,bare,un,hok',r',q1,q2⟩:=h;subst q1;obtain rfl:u=Value.bool true:=r';have old:∀ b o,s₁.heap.get? b=some o->b ≠ P₀->s'.heap.get? b=some o:=fun b o e hbP=>by
     cases q:H b with
     | none=>exact un.keep b o e q (by intro z;exact absurd (show b ∈ ([]:Ab Af) from z) (by simp)) (by simp)
     | some u =>
      rcases hA b (by rw [q];simp) with e' | e'
      .subst e';rcases hO with z | ⟨ob,xs,z⟩
       .rw [q] at z;cases z
       .have z2:=un.frzs b ob _ z;obtain⟨e1,_⟩:=hok b _ z;obtain⟨e2,_⟩:=hok' b _ z2;rw [e] at e1;cases e1;exact e2
      .exact absurd e' hbP
    obtain⟨ps,hps,_⟩:=(show ObjOk P w H' s'.heap P₀ (.tbl #[(pos,q₀)]) from hok' P₀ _ q2)
    refine⟨rfl,⟨fun b o e=>?_,fun b o e=>?_⟩,os,bare⟩
    .by_cases hbP:b=P₀
     .subst hbP;rw [hP] at e;cases e;exact .inr (.inl ⟨hT.isCodeTable,rfl,#[],ps,rfl,by rw [hps];simp⟩)
     .exact .inl (old b o e hbP)
    .by_cases hbP:b=P₀
     .subst hbP;exact⟨_,hps⟩
     .exact⟨o,old b o e hbP⟩
 have tx:∀ H:Hp,ObjOk P w H s₁.heap P₀ (.tbl #[(pos,q₀)]):=fun H=>⟨#[],hP,True.intro,fun p _=>.inl rfl⟩;cases hk:K.lookup a with
 | some o =>
  have e:=KX a o hk;rw [ha] at e;cases e;refine core (fun b=>if b=P₀ then some (.tbl #[(pos,q₀)]) else none) (if_pos rfl) (.inl (if_neg (Ne.symm hPa))) (.inr ⟨_,vs.toArray,_,hk,rfl,rfl,rfl,by rw [Qaz,lenV];exact hl,by simpa using rv⟩) (fun b u z=>?_) (fun b z=>?_) fun z=>absurd (if_neg (Ne.symm hPa)) z
  .by_cases hb:b=P₀
   .have z':=(if_pos hb).symm.trans z;cases z';subst hb;exact tx _
   .have z':=(if_neg hb).symm.trans z;cases z'
  .by_cases hb:b=P₀
   .exact .inr hb
   .exact absurd (if_neg hb) z
 | none =>
  refine core (fun b=>if b=P₀ then some (.tbl #[(pos,q₀)]) else if b=a then some (.frz { cls:=.type "list",data:=.seq vs.toArray } (.lst (ns.map V.int))) else none) (if_pos rfl) (.inr ⟨{ cls:=.type "list",data:=.seq vs.toArray },ns.map V.int,(if_neg (Ne.symm hPa)).trans (if_pos rfl)⟩) (.inl (.inr ⟨{ cls:=.type "list",data:=.seq vs.toArray },(if_neg (Ne.symm hPa)).trans (if_pos rfl)⟩)) (fun b u z=>?_) (fun b z=>?_) fun _=>hk
  .by_cases hbP:b=P₀
   .have z':=(if_pos hbP).symm.trans z;cases z';subst hbP;exact tx _
   .by_cases hb:b=a
    .have z':=((if_neg hbP).trans (if_pos hb)).symm.trans z;cases z';subst hb;exact⟨ha,by rw [Qaa];exact hl,vs,_,rv,ha⟩
    .have z':=((if_neg hbP).trans (if_neg hb)).symm.trans z;cases z'
  .by_cases hbP:b=P₀
   .exact .inr hbP
   .by_cases hb:b=a
    .exact .inl hb
    .exact absurd ((if_neg hbP).trans (if_neg hb)) z
def TabIn (H:Hp) (P:Af) (pq:Pos × Str):Prop:=∃ ps:Ae (Pos × Str),H P=some (.tbl ps) /\ ps[0]? = some pq
theorem TabIn.un (t:TabIn H P pq) (u:Un fs ex H H' h h'):TabIn H' P pq:=by
 obtain⟨ps,e,e0⟩:=t;obtain⟨more,e'⟩:=u.tbls P ps e;refine⟨_,e',?_⟩;have hlt:0 < ps.size:=by
  by_cases hz:0 < ps.size
  .exact hz
  .rw [Array.getElem?_eq_none (by omega)] at e0;cases e0
 rw [Array.getElem?_append_left hlt];exact e0
theorem Z3O (I:Inv X pins σ H s) (hc:X.env.code=.ref c) (C:PySem.W.CodeHd X.base c P) (hB:X.base.BuiltinsAt X.mg P)
  (hT:TabIn H P (pos,q)) (hq:X.env.qual ++ "<lambda>" = q) (hdef:defaultsOf params X.env=([],[])) (hcl:closureFor scope X.env=pure cl)
  (h:∀ a c' pm ctv oc s' H',Inv X pins σ H' s'->Same H H'->H' a=none->s.heap.objs.size <= a->s'.heap.get? a=some (PySem.W.kla_obj "<lambda>" q params body scope cl pm c' ctv)->H' c'=some (.frz oc (.cod q))->Q (.ref a) s') :
  wpAny (model X.prog X.w) X.A (eval (.Lambda params body scope pos) X.env) Q E s:=by
 obtain⟨ps,hP,h0⟩:=hT;obtain⟨pv,hpv,ht,hcs⟩:=(show ObjOk X.prog X.w H s.heap P (.tbl ps) from I.hok P _ hP)
 have hg:s.heap.Ns mainGlobals X.mg:=I.mod.glob.keeps I.bk;have hgP:mainGlobals ≠ P:=fun z=>by
  obtain⟨o,es,ep,e,hd,_⟩:=hg;rw [z,hpv] at e;cases e;cases hd
 have C':PySem.W.CodeHd s.heap c P:=C.keeps I.bk;have hB':s.heap.BuiltinsAt X.mg P:=hB.keeps I.bk;have hLP:X.env.locals ≠ P:=fun z=>by have:=I.free;rw [z,hP] at this;cases this
 refine PySem.W.kla_eval hdef ?_;rw [hq];rcases hcs _ h0 with hn | ⟨c',oc,hf,hc'⟩
 .refine PySem.W.kla_makeFunction hcl I.ok.glob hg hc C' hpv ht hn hgP hB' fun c' ctv h' tk hx hge hlt hrec htb=>?_;obtain⟨c2,oc,vs,t,e2,hoc,hdc,hv⟩:=hrec;cases e2;have hHc:H c'=none:=I.hok.fresh hge;have kp:∀ b o,b ≠ P->s.heap.get? b=some o->(h'.push (PySem.W.kla_obj "<lambda>" q params body scope cl ((X.mg "__name__").getD .none) c' ctv)).get? b=some o:=fun b o hb e=>Qab _ (hx b o hb e);have nP:∀ b,H b=none->b ≠ P:=fun b hb z=>by rw [z,hP] at hb;cases hb
  have szh:s.heap.objs.size <= h'.objs.size:=QaV hge (Qbd hlt);refine h h'.objs.size c' _ ctv oc _ (upd H c' (.frz oc (.cod q))) ?_ (fun b o e=>by rw [aT (aU e hHc)];exact e) ?_ szh (Qan _ rfl) bE
  .refine Inv.step (s:=s) (t':=tk) (g':=s.gens) (d':=s.drawn) (ch:=[]) I (fun _ z=>nomatch z) (fun b o _ _ _ e n=>kp b o (nP b n) e) (fun b o _ _ _ e n=>⟨o.slots,kp b o (nP b n) e⟩)
    (fun b o _ e n=>by rw [aT (QaA (QaE (Qah e) hge))];exact n) (fun b o _ e=>?_)
    (fun b xs e=>by rw [aT (aU e hHc)];exact e) (fun b o u e=>by rw [aT (aU e hHc)];exact e) (fun b ps e=>⟨#[],by rw [aT (aU e hHc),e];simp⟩) (fun m hm=>?_) (fun b u e=>?_) I.bare
   .by_cases hb:b=P
    .subst hb;exact⟨_,Qab _ htb⟩
    .exact⟨o,kp b o hb e⟩
   .obtain⟨o,es,ep,ho,r⟩:=hm;exact⟨o,es,ep,kp _ o hLP ho,r⟩
   .by_cases hb:b=c'
    .subst hb;rw [bE] at e;cases e;exact⟨Qab _ hoc,_,oc,vs,t,rfl,Qab _ hoc,hdc,hv⟩
    .rw [aT hb] at e;by_cases hbP:b=P
     .subst hbP;rw [hP] at e;cases e;refine⟨_,Qab _ htb,?_,fun p hp=>.inr ⟨c',oc,?_,?_⟩⟩
      .rw [QaD];exact TriplesOk_snoc _ _ _ _ ht
      .rw [h0] at hp;cases hp;rw [QaD];exact codeAmong_snoc _ ht hn
      .rw [h0] at hp;cases hp;exact bE
     .refine (I.hok b u e).stay (fun d v hd r=>kp d v ?_ r) (fun d r=>by rw [aT (aU r hHc)];exact r) (fun d xs r=>by rw [aT (aU r hHc)];exact r) (fun d o q r=>by rw [aT (aU r hHc)];exact r);rcases hd with z | z
      .rw [z];exact hbP
      .rintro rfl;rw [hP] at z;cases z
  .rw [aT (Nat.ne_of_gt hlt)];exact I.hok.fresh szh
 .refine PySem.W.kla_makeFunctionHit hcl I.ok.glob hg hc C' hpv ht hf hB' fun ctv h' tk hk hsz=>?_;exact h h'.objs.size c' _ ctv oc _ H (I.kept (t':=tk) fun b o e=>Qab _ (hk b o e)) (fun _ _ e=>e) (I.hok.fresh hsz) hsz (Qan _ rfl) hc'
def Z0W (P:Aj) (w:Ak) (K:Frag) (mg:Str->Aa Ad) (base:Ah) (N:Ab Str) (q:Str) (scope:Scope) (a c':Af) (cl:Ab (Str × Af)) (A:Ai) (outer:Ab Env) (s:Ac) (H:Hp):Cx where
 prog:=P
 w:=w
 K:=K
 mg:=mg
 base:=base
 A:=A.deeper (PySem.W.envX q scope s.heap.objs.size a (.ref c') cl)
 N:=N
 s₀:=s
 H₀:=H
 env:=PySem.W.envX q scope s.heap.objs.size a (.ref c') cl
 outer:=outer
 stack:=PySem.W.envX q scope s.heap.objs.size a (.ref c') cl :: outer
 ex:=[]
 calm:=true
 fn:=fun _=>false
 pn:=[]
 xe:=fun _ _=>False
structure FnSt (q:Str) (params:Arguments) (body:Expr) (scope:Scope) (ns:List Str) (a:Addr) (dvs:List V) (s:Shared) (H:Hp) (fs:List Addr) (cl:List (Str × Addr)) (pm:Value) (c':Addr) (ctv:Value) (oc:Obj):Prop where
 fn:s.heap.get? a=some (PySem.W.kla_obj "<lambda>" q params body scope cl pm c' ctv)
 free:H a=none
 nfs:a ∉ fs
 code:H c'=some (.frz oc (.cod q))
 inj:∀ x y c,cl.lookup x=some c->cl.lookup y=some c->x=y
 has:∀ x,(x,NameKind.free) ∈ scope.names->∃ c,cl.lookup x=some c
 cell:∀ x c,cl.lookup x=some c->(∃ v,s.heap.IsCell c v) /\ H c=none /\ c ∉ fs
 len:dvs.length=ns.length
 vals:∀ (i:Nat) n dv,ns[i]? = some n->dvs[i]? = some dv->∃ c u,cl.lookup n=some c /\ s.heap.IsCell c (some u) /\ RelV dv u
theorem FnSt.now
  (F:FnSt q params body scope ns a dvs X.s₀ X.H₀ X.fs cl pm c' ctv oc) (I:Inv X pins σ H s) (hx:X.ex=[]):FnSt q params body scope ns a dvs s H X.fs cl pm c' ctv oc:=by
 have nx:∀ b,b ∉ X.ex:=fun b=>by rw [hx];simp
 have kc:∀ c v,X.H₀ c=none->c ∉ X.fs->X.s₀.heap.IsCell c v->s.heap.IsCell c v:=fun c v h1 h2 ⟨o,ho,hd⟩=>⟨o,I.base.keep c o ho h1 h2 (nx c),hd⟩;refine⟨I.base.keep a _ F.fn F.free F.nfs (nx a),I.base.free a _ F.fn F.free (nx a),F.nfs,I.base.frzs _ _ _ F.code,F.inj,F.has,fun x c e=>?_,F.len,fun i n dv h1 h2=>?_⟩
 .obtain⟨⟨v,hv⟩,h1,h2⟩:=F.cell x c e;have hv':=hv;obtain⟨o,ho,hd⟩:=hv;exact⟨⟨v,kc c v h1 h2 hv'⟩,I.base.free c o ho h1 (nx c),h2⟩
 .obtain⟨c,u,e1,e2,e3⟩:=F.vals i n dv h1 h2;obtain⟨_,h3,h4⟩:=F.cell n c e1;exact⟨c,u,e1,kc c _ h3 h4 e2,e3⟩
theorem Z3P {K:Frag}
  (F:FnSt q params body scope ns a dvs s H fs cl pm c' ctv oc) (e0:Env0 P w K mg base A outer s H) (hr:Room (k + 1) A) (r:RelV v u)
  (hbind:bindArgs (PySem.W.kla_fn "<lambda>" q params body scope cl pm (.ref c') ctv) ⟨[u],[]⟩=pure [(x,u)]) (hx:scope.names.lookup x=some .local) (hns:∀ n ∈ ns,scope.names.lookup n=some .free) (hnc:∀ y ∈ scope.names,y.2 ≠ .cell)
  (hco:scope.isCoroutine=false) (hgen:scope.isGenerator=false) (hk:scope.kind=.function)
  (ht:Room k (A.deeper (PySem.W.envX q scope s.heap.objs.size a (.ref c') cl))->PE (Z0W P w K mg base (x :: ns) q scope a c' cl A outer s H) body t) (hq:t (some v :: dvs.map some) H Q) :
  codeAny (model P w) A (.call (.ref a) ⟨[u],[]⟩) (CR CX outer P w H s Q E) s:=by
 have hd0:A.depth < recursionLimit:=by have:=hr.dp;omega
 have lim:s.heap.NoLimit:=e0.mod.nolimit.keeps fun b o e=>(e0.bs b o e).1;obtain⟨_,hcd⟩:=(show ObjOk P w H s.heap c' (.frz oc (.cod q)) from e0.hok c' _ F.code)
 refine PySem.W.kla_callFunE hd0 F.fn rfl hco hgen rfl hcd ?_;rw [hbind];refine Rb (wpAny_newFunctionEnv hnc (fun y hy=>?_) (fun h₁ hns₁ hsb=>⟨lim.fresh _ hsb,?_⟩) hk)
 .have:y=(x,u):=by simpa using hy
  subst this;exact hx
 show codeAny _ _ (.expr body (PySem.W.envX q scope s.heap.objs.size a (.ref c') cl)) _ _;have hk₁:∀ b o,s.heap.get? b=some o->h₁.get? b=some o:=fun b o e=>hsb.extBut b o (QaA (Qah e)) (Qab _ e);have noA:∀ b:Af,b ∉ (Z0W P w K mg base (x :: ns) q scope a c' cl A outer s H).ex:=fun b z=>absurd (show b ∈ ([]:Ab Af) from z) (by simp)
 have I:Inv (Z0W P w K mg base (x :: ns) q scope a c' cl A outer s H) [] (some v :: dvs.map some) H { s with heap:=h₁,toks:=s.toks + [(x,u)].length }:=by
  refine⟨⟨e0.mod,hk,rfl,rfl,Qag _,F.inj,fun y hy=>?_,fun y c hf _=>(by cases hf),fun _=>hr.hd,Around.frames_deeper e0.frames,.inr ⟨rfl,rfl⟩,fun b z=>absurd z (noA b),e0.bs,e0.bsz,fun b _ _=>noA b,fun b z=>absurd z (noA b),e0.funs,e0.frf⟩,
   rfl,e0.bare,Un.kept hk₁,⟨_,hns₁,fun i y v' h1 h2 h3=>?_⟩,fun y c e=>?_,e0.hok.fresh (Qag _),fun y c e=>(F.cell y c e).2.1,fun p hp=>absurd (show p ∈ ([]:Ab (Af × Obj)) from hp) (by simp),e0.hok.kept hk₁,?_⟩
  .have hy:scope.names.lookup y=some .cell \/ scope.names.lookup y=some .free:=hy;rcases hy with hy | hy
   .exact absurd rfl (hnc _ (PySem.mem_of_lookup hy))
   .exact F.has y (PySem.mem_of_lookup hy)
  .cases i with
   | zero =>
    have h1:some x=some y:=h1;have h2:some (some v)=some (some v'):=h2;cases h1;cases h2;exact⟨u,r,.inl ⟨hx,by simp⟩⟩
   | succ i =>
    have h1:ns[i]? = some y:=h1;have h2:(dvs.map some)[i]? = some (some v'):=h2;rw [Qas] at h2;cases hv:dvs[i]? with
    | none=>rw [hv] at h2;cases h2
    | some dv =>
     rw [hv] at h2;cases h2;obtain⟨c,u',e1,e2,e3⟩:=F.vals i y _ h1 hv;exact⟨u',e3,.inr ⟨.inr (hns y (QaI h1)),c,e1,e2.keeps hk₁⟩⟩
  .obtain⟨⟨v',z⟩,_⟩:=F.cell y c e;exact⟨v',z.keeps hk₁⟩
  .show (some v :: dvs.map some).length=(x :: ns).length;simp [F.len]
 refine PySem.W.kla_codeExpr (Rc (ht (hr.deeper _) [] _ _ H Q I hq) (fun u' s' hs=>?_) fun e s' z=>z.elim);obtain⟨v',H',J,rv,qq⟩:=hs;exact⟨v',H',J.os,J.bare,J.base,J.hok,rv,qq⟩
end L2
namespace PD
open PySem PySem.Spec PyProof.Rows L2
theorem TabIn.same (t:TabIn H P pq) (s:Same H H'):TabIn H' P pq:=let ⟨ps,e,e0⟩:=t;⟨ps,s _ _ e,e0⟩
theorem Reps.fam {K:Frag}{st:Bool}:∀ {ds:Ab D}{vs:Ab V}{fp:Ab Af},Reps K st H ds vs fp->∃ F:Nat->Ab Af,∀ (j:Nat) d,ds[j]? = some d->∃ v,vs[j]? = some v /\ Rep K st H d v (F j)
 | [],vs,fp,h=>⟨fun _=>[],fun j d e=>by simp at e⟩
 | d :: ds,vs,fp,h=>by
  simp only [Reps] at h;obtain⟨v,r,f1,f2,rfl,rfl,h1,h2⟩:=h;obtain⟨F,hF⟩:=Reps.fam h2;refine⟨fun j=>match j with | 0=>f1 | j + 1=>F j,fun j d' e=>?_⟩
  cases j with
  | zero=>simp at e;subst e;exact⟨v,rfl,h1⟩
  | succ j=>exact hF j d' (by simpa using e)
def Z0T (d:D) (ds:Ab D):En:=some (false,d) :: ds.map fun x=>some (false,x)
theorem Z2d {K:Frag}(r:Rep K false H d v f) (rs:Reps K false H ds dvs fp):∃ F,EnvOk K H (some v :: dvs.map some) (Z0T d ds) F:=by
 obtain⟨F,hF⟩:=rs.fam;refine⟨fun i=>match i with | 0=>f | i + 1=>F i,fun i o d' e=>?_⟩
 cases i with
 | zero =>
  simp [Z0T] at e;obtain⟨_,rfl⟩:=e;exact⟨v,rfl,r⟩
 | succ i =>
  simp only [Z0T,Qap,Qas] at e;cases hd:ds[i]? with
  | none=>rw [hd] at e;cases e
  | some d2 =>
   rw [hd] at e;simp only [Option.map_some,Qba,Prod.mk.injEq] at e;obtain⟨_,rfl⟩:=e;obtain⟨w,h1,h2⟩:=hF i d2 hd;exact⟨w,by simp [h1],h2⟩
def St (q:Str) (params:Arguments) (body:Ag) (scope:Scope) (ns:Ab Str) (a:Af) (dvs:Ab V) (s:Ac) (H:Hp) (fs:Ab Af):Prop:=∃ cl pm c' ctv oc,FnSt q params body scope ns a dvs s H fs cl pm c' ctv oc
def fFn (i:Nat) (a0:Af) (dv0:Ab V) (fa:En->Aa D) (g:En->Aa D):En->Aa D:=fun env=>match aA i env,fa env with
 | some (.fn a dvs ds),some d=>if a=a0 /\ dvs=dv0 then g (Z0T d ds) else none
 | _,_=>none
theorem zR (h:aA i env=some d):∃ o,env[i]? = some (some (o,d)):=by
 unfold aA at h;cases h1:env[i]? with
 | none=>rw [h1] at h;cases h
 | some o =>
  cases o with
  | none=>rw [h1] at h;cases h
  | some pr=>rw [h1] at h;cases h;exact⟨pr.1,rfl⟩
theorem Z1t {i:Nat}(hN:X.N[i]? = some f) (hv:Vis X.env.scope f) (hex:X.ex=[]) (F:St q params body scope ns a0 dv0 X.s₀ X.H₀ X.fs) (hr:Room (k + 1) X.A) (ha:QE X m1 rs1 e fa)
  (hbind:∀ cl pm cd ctv u,bindArgs (PySem.W.kla_fn "<lambda>" q params body scope cl pm cd ctv) ⟨[u],[]⟩=pure [(x,u)]) (hx:scope.names.lookup x=some .local) (hns:∀ n ∈ ns,scope.names.lookup n=some .free) (hnc:∀ y ∈ scope.names,y.2 ≠ .cell)
  (hco:scope.isCoroutine=false) (hgen:scope.isGenerator=false) (hk:scope.kind=.function)
  (hb:∀ a c' cl A outer s H,Room k (A.deeper (PySem.W.envX q scope s.heap.objs.size a (.ref c') cl))->QE (Z0W X.prog X.w X.K X.mg X.base (x :: ns) q scope a c' cl A outer s H) true [] body g)
  (hd:(f == ("__debug__" : Str))=false:=by decide) (hcd:(f == ("__classdict__" : Str))=false:=by decide)
  (he:starEach [e] X.env=(false,eval e X.env) :: starEach [] X.env:=by rfl) (hpl:(backTo pos (starEach [] X.env)).any (·.1)=false:=by rfl) :
  QE X true [] (.Call (.Name f p) [e] [] pos) (fFn i a0 dv0 fa g):=by
 intro pins s σ H Q I ⟨env,Fp,d,ok,e,q⟩;unfold fFn at e;split at e
 .rename_i a dvs ds dA h1 h2;split at e
  .rename_i hh;obtain⟨rfl,rfl⟩:=hh;obtain⟨o,hs⟩:=zR h1;obtain⟨v,hv1,hv2⟩:=ok i o _ hs;simp only [Rep] at hv2;obtain⟨rfl,hv2⟩:=hv2;obtain⟨cl,pm,c',ctv,oc,F⟩:=F;refine Rl (thn (lL (pos:=p) hN hv hd hcd pins s σ H (fun v H'=>v=V.ref a /\ H'=H) I ⟨_,hv1,rfl,rfl⟩) fun fv s1 ⟨v1,H1,I1,r1,hv1,hH⟩=>?_);subst hv1 hH;cases (show fv=Value.ref a from r1)
   refine PySem.W.callWith_F ⟨_,_,_,_,(F.now I1 hex).fn⟩ (thn ((aD ha (bM (m:=m1) (rs:=rs1)) he) pos pins s1 σ H1 (fun vs H2=>∃ v f2,vs=[v] /\ Same H1 H2 /\ Rep X.K m1 H2 dA v f2) I1 ⟨env,Fp,[dA],ok,by simp [aC,aH,h2],fun vs H2 fp s2 r2 c2=>?_⟩) fun us s2 ⟨vs,H2,I2,rv,v,f2,hvs,sm,r2⟩=>?_) he hpl
   .obtain⟨v,rfl,r3⟩:=iO r2;exact⟨v,fp,rfl,s2,r3⟩
   .subst hvs;cases rv with
    | cons ru rr =>
     cases rr;rename_i u;have F2:=F.now I2 hex;refine⟨⟨_,_,_,_,F2.fn⟩,wpAny_call (Ro (Z3P (CX:=CX0) (E:=E0) (t:=tD X.K true [] g) (Q:=Q) F2 I2.env0 hr ru (hbind _ _ _ _ _) hx hns hnc hco hgen hk (fun hr'=>hb a c' cl X.A X.stack s2 H2 hr') ?_) fun r s' hq=>?_)⟩
     .obtain⟨F',okL⟩:=Z2d (Rep.weak _ _ _ r2) (hv2.same sm);exact⟨_,F',d,okL,e,fun v' H' fp' s3 r3 c3=>q v' H' fp' (sm.trans s3) r3 ⟨fun b hb=>.inl (sm.free ((c3.2 rfl).2 b hb)),fun _=>⟨(c3.2 rfl).1,fun b hb=>sm.free ((c3.2 rfl).2 b hb)⟩⟩⟩
     .cases r with
      | error e=>exact False.elim hq
      | ok fl =>
       cases fl with
       | ret u=>exact I2.after hq
       | next=>exact False.elim hq
       | brk=>exact False.elim hq
       | cont=>exact False.elim hq
  .cases e
 .cases e
structure Z10 (P:Program) (w:World) (K:Frag) (mg:Str->Option Value) (base:Heap) (k:Nat) (f:Addr) (fd:FuncData) (ps:List Str) (n:Nat) (S:Addr->List V->Shared->Hp->List Addr->Prop) (mm:Addr->List V->List D->Option D):Prop where
 run:∀ (A:Ai) (outer:Ab Env) (s:Ac) (H:Hp) (args:Args) (us:Ab Ad) (vs:Ab V) (Q:VK) (a:Af) (dvs:Ab V),Room k A->Env0 P w K mg base A outer s H->S a dvs s H (frs outer)->BindsTo s fd args (ps.zip us)->Vals vs us->spD K n (mm a dvs) vs H Q E0 ->
  codeAny (model P w) A (.call (.ref f) args) (CR CX0 outer P w H s Q E0) s
theorem FunD.okL {K:Frag}{st:Stmt}{g:Af->Ab V->En->Res}(F:FunD K x qual st f fd) (S':aP N ps (aI st)) (hn:ps.length=n) (hL:N.length=L)
  (hb:∀ (a:Af) (dvs:Ab V) (cdv:Ad) (A:Ai) (outer:Ab Env) (s:Ac) (H:Hp) (E:XK),Room k (A.deeper (envOfC qual (aI st) s.heap.objs.size f cdv))->S a dvs s H (frs outer)->QSs (tJ CX0 P w K mg base N qual (aI st) f cdv A outer s H E).nox (bS st) (g a dvs)) :
  Z10 P w K mg base (k + 1) f fd ps n S (fun a dvs=>runF L (g a dvs)):=by
 subst hn hL;obtain⟨oc,od,dV,kV,doc,pm,an,cdv,ct,osl,rfl,lk,hcd⟩:=F.ex;refine⟨fun A outer s H args us vs Q a dvs hr e0 hS hbd rv hsp=>?_⟩;have hl:=A2 hsp;refine Z5Y lk hcd S' hl hr e0 hbd rv fun hr'=>?_;obtain⟨ds,d,fp,h1,h2,h3,q⟩:=hsp;have hq:=hb a dvs cdv A outer s H E0 hr' hS;refine⟨_,PSs.nox hq,H,enStart N.length ds,oR h2,?_⟩;unfold runF at h3;cases hg:g a dvs (enStart N.length ds) with
 | ret d' =>
  rw [hg] at h3;cases h3;exact fun v H' fp' s r fr nd=>q v H' fp' s r fr nd
 | next env' =>
  rw [hg] at h3;cases h3;exact fun σ' H' I'=>q .non H' [] I'.same pI (fun b hb=>(by cases hb)) QaQ
 | brk _=>rw [hg] at h3;cases h3
 | cont _=>rw [hg] at h3;cases h3
 | bad=>rw [hg] at h3;cases h3
def Z8R (e:Ag) (i:Nat):Ag:=match e with
 | .Call _ as _ _=>as.getD i e
 | e=>e
def Z9f (s:Stmt):Ag:=match s with
 | .Return (some e) _=>e
 | _=>.Name "" ⟨0,0,0,0⟩
def Z9j (e:Ag):Arguments:=match e with
 | .Lambda a _ _ _=>a
 | _=>{ posonlyargs:=[],args:=[],vararg:=none,kwonlyargs:=[],kw_defaults:=[],kwarg:=none,defaults:=[] }
def Z9k (e:Ag):Ag:=match e with
 | .Lambda _ b _ _=>b
 | e=>e
def Z9i (e:Ag):Scope:=match e with
 | .Lambda _ _ s _=>s
 | _=>{ kind:=.function,names:=[],isGenerator:=false,isCoroutine:=false }
def lamPos (e:Ag):Pos:=match e with
 | .Lambda _ _ _ p=>p
 | _=>⟨0,0,0,0⟩
def Z2h:Ab Nat->En->Aa (Ab D)
 | [],_=>some []
 | j :: r,env=>match aA j env,Z2h r env with
  | some d,some ds=>some (d :: ds)
  | _,_=>none
theorem P7 {K:Frag}(ok:EnvOk K H σ env F):∀ {cap:Ab Nat}{ds:Ab D},Z2h cap env=some ds ->
  ∃ dvs fp,Reps K false H ds dvs fp /\ dvs.length=cap.length /\ ∀ (i j:Nat),cap[i]? = some j->∃ v,dvs[i]? = some v /\ σ[j]? = some (some v)
 | [],ds,h=>by
  simp only [Z2h] at h;cases h;exact⟨[],[],by simp only [Reps];exact⟨trivial,trivial⟩,rfl,fun i j e=>by simp at e⟩
 | c :: r,ds,h=>by
  unfold Z2h at h;split at h
  .rename_i d ds' h1 h2;cases h;obtain⟨dvs,fp,a1,a2,a3⟩:=P7 ok h2;obtain⟨o,hs⟩:=zR h1;obtain⟨v,hv1,hv2⟩:=ok c o _ hs;refine⟨v :: dvs,F c ++ fp,by simp only [Reps];exact⟨v,dvs,F c,fp,rfl,rfl,hv2,a1⟩,by simp [a2],fun i j e=>?_⟩;cases i with
   | zero=>simp at e;subst e;exact⟨v,rfl,hv1⟩
   | succ i=>exact a3 i j (by simpa using e)
  .cases h
open Classical in
def sV (mm:Af->Ab V->Ab D->Aa D) (d1 d2:D) (ds:Ab D):Aa D:=if h:∃ d,∀ a dvs,mm a dvs [d1,d2,.fn a dvs ds]=some d then some h.choose else none
theorem Z1R (h:sV mm d1 d2 ds=some d) (a:Af) (dvs:Ab V):mm a dvs [d1,d2,.fn a dvs ds]=some d:=by
 unfold sV at h;split at h
 .rename_i hh;cases h;exact hh.choose_spec a dvs
 .cases h
theorem Z1S (h:∀ a dvs,mm a dvs [d1,d2,.fn a dvs ds]=some d):sV mm d1 d2 ds=some d:=by
 have hh:∃ d,∀ a dvs,mm a dvs [d1,d2,.fn a dvs ds]=some d:=⟨d,h⟩;unfold sV;rw [dif_pos hh,<- hh.choose_spec 0 [],h 0 []]
def Z4a (cap:Ab Nat) (fa fb:En->Aa D) (F':D->D->Ab D->Aa D):En->Aa D:=fun env=>match fa env,fb env,Z2h cap env with
 | some d1,some d2,some ds=>F' d1 d2 ds
 | _,_,_=>none
theorem Z61 (h1:fa env=some d1) (h2:fb env=some d2) (h3:Z2h cap env=some ds) (h:F' d1 d2 ds=some d):Z4a cap fa fb F' env=some d:=by
 unfold Z4a;rw [h1,h2,h3];exact h
structure G9 (P:Program) (w:World) (K:Frag) (mg:Str->Option Value) (base:Heap) (x:Str) (k n:Nat) (S:Addr->List V->Shared->Hp->List Addr->Prop) (mm:Addr->List V->List D->Option D):Prop where
 ex:∃ fA fd ps,Z10 P w K mg base k fA fd ps n S mm /\ mg x=some (.ref fA) /\ keepIn K (.ref fA)=true /\ Binds K fd ps [] /\ ps.length=n
structure LamIn (fd:FuncData) (base:Heap) (mg:Str->Option Value) (P:Addr):Prop where
 ex:∃ c,fd.code=.ref c /\ PySem.W.CodeHd base c P
 blt:base.BuiltinsAt mg P
structure Z6A (X:Cx) (P:Addr) (lpos:Pos) (q:Str):Prop where
 ex:∃ c,X.env.code=.ref c /\ PySem.W.CodeHd X.base c P
 blt:X.base.BuiltinsAt X.mg P
 tab:TabIn X.H₀ P (lpos,q)
 qual:X.env.qual ++ "<lambda>" = q
theorem LamIn.at (L:LamIn fd X.base X.mg P) (hc:X.env.code=fd.code) (hT:TabIn X.H₀ P (lpos,q)) (hq:X.env.qual ++ "<lambda>" = q):Z6A X P lpos q :=
 ⟨let ⟨c,e,h⟩:=L.ex;⟨c,hc.trans e,h⟩,L.blt,hT,hq⟩
theorem Z5Z {cap:Ab Nat}(I:Inv X pins σ H s) (hfn:∀ n,X.fn n=true) (hcl1:∀ n c,cl.lookup n=some c->X.env.cells.lookup n=some c) (hcl2:∀ n,(n,NameKind.free) ∈ scope.names->∃ c,cl.lookup n=some c)
  (hns:∀ n ∈ ns,scope.names.lookup n=some .free) (hnc:∀ n ∈ ns,X.env.scope.names.lookup n=some .cell) (hcl:dvs.length=ns.length) (hcap:∀ (i:Nat) n,ns[i]? = some n->∃ j,cap[i]? = some j /\ X.N[j]? = some n) (hv:∀ (i j:Nat),cap[i]? = some j->∃ v,dvs[i]? = some v /\ σ[j]? = some (some v))
  (hfa:s.heap.get? a=some (PySem.W.kla_obj "<lambda>" q params body scope cl pm c' ctv)) (hHa:H a=none) (hna:a ∉ frs X.stack) (hcd:H c'=some (.frz oc (.cod q))) :
  FnSt q params body scope ns a dvs s H (frs X.stack) cl pm c' ctv oc:=by
 refine⟨hfa,hHa,hna,hcd,fun y z c h1 h2=>I.ok.inj y z c (hcl1 _ _ h1) (hcl1 _ _ h2),hcl2,fun y c e=>⟨I.cell y c (hcl1 _ _ e),I.freeC y c (hcl1 _ _ e),fun hb=>?_⟩,hcl,fun i n dv h1 h2=>?_⟩
 .rcases Qaf.mp (I.stkSub c hb) with z | z
  .exact I.cne y c (hcl1 _ _ e) z
  .obtain⟨_,o,ho,_⟩:=I.ok.funs.mem z;exact absurd (QaE (Qah ho) (I.ok.cab y c (hfn y) (hcl1 _ _ e))) (Qbf _)
 .obtain⟨j,hj,hN⟩:=hcap i n h1;obtain⟨v,hv1,hv2⟩:=hv i j hj;rw [h2] at hv1;cases hv1;have hn:=QaI h1;obtain⟨m,hm,hl⟩:=I.loc;obtain⟨u,ru,lk⟩:=hl j n dv hN hv2 (.inr (.inl (hnc n hn)));obtain⟨c,hc⟩:=hcl2 n (PySem.mem_of_lookup (hns n hn));rcases lk with ⟨hk,_⟩ | ⟨_,c2,hc2,hi⟩
  .have hk:X.env.scope.names.lookup n=some .local:=hk;rw [hnc n hn] at hk;cases hk
  .have:=hcl1 n c hc;rw [hc2] at this;cases this;exact⟨c,u,hc,hi,ru⟩
theorem V2 (c:G9 X.prog X.w X.K X.mg X.base x k 3 (St q params body scope ns) mm) (T:Z6A X P lpos q) (hr:Room k X.A) (ha:QE X m1 rs1 e1 fa) (hb:QE X m2 rs2 e2 fb) (cap:Ab Nat)
  (hfn:∀ n,X.fn n=true) (hdef:defaultsOf params X.env=([],[])) (hfr:∀ y ∈ scope.names,y.2=NameKind.free->y.1 ∈ ns)
  (hns:∀ n ∈ ns,scope.names.lookup n=some .free) (hnc:∀ n ∈ ns,X.env.scope.names.lookup n=some .cell) (hcl:cap.length=ns.length) (hcap:∀ (i:Nat) n,ns[i]? = some n->∃ j,cap[i]? = some j /\ X.N[j]? = some n) (hg:Gl X x:=by rfl) (hdb:(x == ("__debug__" : Str))=false:=by decide)
  (he1:starEach [e1,e2,.Lambda params body scope lpos] X.env=(false,eval e1 X.env) :: starEach [e2,.Lambda params body scope lpos] X.env:=by rfl) (he2:starEach [e2,.Lambda params body scope lpos] X.env=(false,eval e2 X.env) :: starEach [.Lambda params body scope lpos] X.env:=by rfl)
  (he3:starEach [.Lambda params body scope lpos] X.env=(false,eval (.Lambda params body scope lpos) X.env) :: starEach [] X.env:=by rfl) (hpl:(backTo pos (starEach [e2,.Lambda params body scope lpos] X.env)).any (·.1)=false:=by rfl) :
  QE X true [] (.Call (.Name x p) [e1,e2,.Lambda params body scope lpos] [] pos) (Z4a cap fa fb (sV mm)):=by
 obtain⟨fA,fd,ps,G,hm,hk,hbd,hps⟩:=c.ex;obtain⟨cc,hcc,hCH⟩:=T.ex;intro pins s σ H Q I ⟨env,Fp,d,ok,e,q⟩;unfold Z4a at e;split at e
 .rename_i d1 d2 ds h1 h2 h3;refine Rl (D6 I hg hm ?_ hdb);refine PySem.W.callWith_K (h₀:=X.base) I.ok.mod.kin hk ?_ he1 hpl;rw [he1];show wpAny _ _ (spliced ((false,eval e1 X.env) :: backTo pos (starEach [e2,.Lambda params body scope lpos] X.env))) _ _ s;refine Calls.spliced_cons (thn (ha pins s σ H (fun v1 H1=>∃ f1,Same H H1 /\ Rep X.K m1 H1 d1 v1 f1) I ⟨env,Fp,d1,ok,h1,fun v1 H1 f1 s1 r1 _=>⟨f1,s1,r1⟩⟩) fun u1 s1 ⟨v1,H1,I1,rv1,f1,sm1,r1⟩=>?_);rw [he2];show wpAny _ _ (spliced ((false,eval e2 X.env) :: backTo pos (starEach [.Lambda params body scope lpos] X.env))) _ _ s1;refine Calls.spliced_cons (thn (hb pins s1 σ H1 (fun v2 H2=>∃ f2,Same H1 H2 /\ Rep X.K m2 H2 d2 v2 f2) I1 ⟨env,Fp,d2,ok.same sm1,h2,fun v2 H2 f2 s2 r2 _=>⟨f2,s2,r2⟩⟩) fun u2 s2 ⟨v2,H2,I2,rv2,f2,sm2,r2⟩=>?_);rw [he3];show wpAny _ _ (spliced ((false,eval (.Lambda params body scope lpos) X.env) :: backTo pos (starEach [] X.env))) _ _ s2;obtain⟨cl,ecl,hcl1,hcl2⟩:=pM (scope:=scope) (env:=X.env) fun n hn=>I2.ok.has n (.inl (hnc n (hfr _ hn rfl)));refine Calls.spliced_cons (Z3O I2 hcc hCH T.blt (T.tab.un I2.base) T.qual hdef ecl fun a c' pm ctv oc s3 H3 I3 sm3 hHa hge hfa hcd=>?_);refine Calls.spliced_nil ⟨I3.kIn,?_⟩;have hna:a ∉ frs X.stack:=fun z=>by
   obtain⟨_,o,ho,_⟩:=I2.stack.mem z;exact absurd (QaE (Qah ho) hge) (Qbf _)
  obtain⟨dvs,fp,hrs,hlen,hvs⟩:=P7 ok h3;have FS:=Z5Z I3 hfn hcl1 hcl2 hns hnc (hlen.trans hcl) hcap hvs hfa hHa hna hcd;have smA:Same H H3:=(sm1.trans sm2).trans sm3;have rr:Vals [v1,v2,.ref a] [u1,u2,.ref a]:=.cons rv1 (.cons rv2 (.cons rfl .nil));refine wpAny_call (Ro (G.run X.A X.stack s3 H3 ⟨[u1,u2,.ref a],[]⟩ [u1,u2,.ref a] [v1,v2,.ref a] Q a dvs hr I3.env0 ⟨cl,pm,c',ctv,oc,FS⟩ ?_ rr ?_) fun r s' hq=>?_)
  .have:=hbd s3 [u1,u2,.ref a] I3.kIn (by simp [hps]);rw [QaH] at this;exact this
  .refine⟨[d1,d2,.fn a dvs ds],d,f1 ++ (f2 ++ (fp ++ [])),rfl,?_,Z1R e a dvs,fun v H' fp' s4 r4 h4 nd=>q v H' fp' (smA.trans s4) r4 ⟨fun b hb=>.inl (smA.free (h4 b hb)),fun _=>⟨nd,fun b hb=>smA.free (h4 b hb)⟩⟩⟩;simp only [Reps,Rep];exact⟨v1,_,f1,_,rfl,rfl,Rep.weak _ _ _ (r1.same (sm2.trans sm3)),v2,_,f2,_,rfl,rfl,Rep.weak _ _ _ (r2.same sm3),_,[],fp,[],rfl,rfl,⟨rfl,hrs.same smA⟩,rfl,rfl⟩
  .cases r with
   | error e=>exact False.elim hq
   | ok fl =>
    cases fl with
    | ret u=>exact I3.after hq
    | next=>exact False.elim hq
    | brk=>exact False.elim hq
    | cont=>exact False.elim hq
 .cases e
def spT (K:Frag) (P:Af) (pq:Pos × Str) (n:Nat) (f:Ab D->Aa D):Sp:=fun vs H Q E=>TabIn H P pq /\ spD K n f vs H Q E
theorem FunD.okT {K:Frag}{st:Stmt}(F:FunD K x qual st f fd) (S:aP N ps (aI st)) (hn:ps.length=n) (hL:N.length=L)
  (hb:∀ (cdv:Ad) (A:Ai) (outer:Ab Env) (s:Ac) (H:Hp) (E:XK),Room k (A.deeper (envOfC qual (aI st) s.heap.objs.size f cdv))->cdv=fd.code->TabIn H P₀ pq->QSs (tJ CX0 P w K mg base N qual (aI st) f cdv A outer s H E).nox (bS st) g) :
  bR P w K mg base CX0 (k + 1) f fd ps (spT K P₀ pq n (runF L g)):=by
 subst hn hL;obtain⟨oc,od,dV,kV,doc,pm,an,cdv,ct,osl,rfl,lk,hcd⟩:=F.ex;refine Z49 lk hcd S (fun vs H Q E h=>A2 h.2) fun A outer s H vs Q E hr hsp=>?_;obtain⟨hT,ds,d,fp,h1,h2,h3,q⟩:=hsp;have hq:=hb cdv A outer s H E hr rfl hT;refine⟨_,PSs.nox hq,H,enStart N.length ds,oR h2,?_⟩;unfold runF at h3;cases hg:g (enStart N.length ds) with
 | ret d' =>
  rw [hg] at h3;cases h3;exact fun v H' fp' s r fr nd=>q v H' fp' s r fr nd
 | next env' =>
  rw [hg] at h3;cases h3;exact fun σ' H' I'=>q .non H' [] I'.same pI (fun b hb=>(by cases hb)) QaQ
 | brk _=>rw [hg] at h3;cases h3
 | cont _=>rw [hg] at h3;cases h3
 | bad=>rw [hg] at h3;cases h3
structure vA (P:Program) (w:World) (K:Frag) (mg:Str->Option Value) (base:Heap) (x:Str) (P₀:Addr) (pq:Pos × Str) (k n:Nat) (F':List D->Option D):Prop where
 ex:∃ fA fd ps,bR P w K mg base CX0 k fA fd ps (spT K P₀ pq n F') /\ mg x=some (.ref fA) /\ keepIn K (.ref fA)=true /\ Binds K fd ps []
theorem Z55 (c:vA X.prog X.w X.K X.mg X.base x P₀ pq k n F') (hT:TabIn X.H₀ P₀ pq) (hr:Room k X.A) (hna:NArgs n fs) (ha:QA X m1 rs1 (e :: es) fs) (hg:Gl X x:=by rfl)
  (hdb:(x == ("__debug__" : Str))=false:=by decide) (he:starEach (e :: es) X.env=(false,eval e X.env) :: starEach es X.env:=by rfl) (hpl:(backTo pos (starEach es X.env)).any (·.1)=false:=by rfl) :
  QE X true [] (.Call (.Name x p) (e :: es) [] pos) (aJ F' [] fs):=by
 obtain⟨fA,fd,ps,G,hm,hk,hb⟩:=c.ex;intro pins s σ H Q I ⟨env,F,d,ok,e,q⟩;refine L2.pe_call (dvs:=[]) (ds:=[]) G hr hg hm hk hb .nil Z3m ha hdb he hpl pins s σ H Q I ?_;unfold aJ at e;cases h1:fs env with
 | none=>simp only [h1] at e;cases e
 | some xs =>
  simp only [h1,Qbc] at e;refine⟨env,F,xs,ok,h1,fun vs H' fp s2 r c=>⟨TabIn.same (hT.un I.base) s2,xs ++ [],d,fp,by rw [QaH];exact hna.len env xs h1,?_,e,fun v H2 fp' s3 r2 h2 nd=>q v H2 fp' (s2.trans s3) r2 ⟨fun b hb=>.inl (s2.free (h2 b hb)),fun _=>⟨nd,fun b hb=>s2.free (h2 b hb)⟩⟩⟩⟩;rw [QaH,QaH];exact Reps.weak _ _ _ r
theorem walkT {l:PySem.W.OpenLaw}{K:Params->Frag}
  (hn:l.most=some n) (hn2:n <= sizeLine) (hdf:d.params.defaults=[]) (hr:Room k callerA)
  (hY:∀ (w:Ak) (h:Ah),YP w h->(K w.params).In h) (hC:∀ (w:Ak) (h:Ah),YP w h->h.TableAt c₀ P₀ #[]) (hKP:∀ w:Ak,(K w.params).lookup P₀=none)
  (F:∀ (w:Ak) (mg:Str->Aa Ad) (fa:Af) (h:Ah),(K w.params).In h->h.Ns mainGlobals mg->mg d.name=some (.ref fa) ->
   ∃ (fd:FuncData) (m:Ab D->Aa D),(∀ (s:Ac) (u:Ad),BindsTo s fd ⟨[u],[]⟩ [(x,u)]) /\ (∀ ns:Ab Int,ns.length <= n->(∀ i ∈ ns,Builtin.Int.intBits i <= 1048576)->m [.lst (ns.map D.int)]=some (.bl true)) /\
    ∀ base:Ah,(K w.params).In base->base.Ns mainGlobals mg->base.BuiltinsAt mg P₀->bR l.prog w (K w.params) mg base CX0 k fa fd [x] (spT (K w.params) P₀ pq 1 m)) :
  PySem.W.WalkO q loose XP YP l.row.toRowW d [] (fun f vs=>PySem.call f vs):=by
 refine Att.attach_callB hn hdf fun w s₀ s₁ mg mb fa o pm cd doc a vs ns hbits G Y ho hd hcd hmg hobj hints hlen hg=>?_;have KX:=hY w _ Y;obtain⟨fd,m,hb,hm,hF⟩:=F w mg fa _ KX G.T.g hmg;obtain⟨bm,ob,b1,b2,b3,b4,b5,b6⟩:=G.T.bmain;have hT:=hC w _ Y;have hBm:s₁.heap.BuiltinsAt mg P₀:=by
  refine⟨bm,ob,b1,b2,fun z=>?_,fun z=>?_,b3,b4,b5,b6⟩
  .obtain⟨o',es,ep,e,hd',_⟩:=G.T.g;rw [z,e] at b3;cases b3;rw [hd'] at b6;cases b6
  .rw [z,hT.2] at b3;cases b3;cases b4
 refine Z1Q (pos:=pq.1) (q₀:=pq.2) KX G.T.g G.T.b G.T.builtins G.T.nolimit hg hobj hints (QaV hlen hn2) hr hT (hKP w) hBm hF hb (fun H hP hS=>?_) fun H e s' z=>z;have hrep:∃ fp,Reps (K w.params) false H [.lst (ns.map D.int)] [.ref a] fp:=by
  rcases Z2F hS with z | z
  .refine⟨[a],?_⟩;simp only [Reps,Rep];exact⟨.ref a,[],[a],[],rfl,rfl,⟨a,_,[],rfl,kK ns,.inl ⟨rfl,z⟩⟩,rfl,rfl⟩
  .refine⟨[],?_⟩;simp only [Reps,Rep];exact⟨.ref a,[],[],[],rfl,rfl,⟨a,_,[],rfl,kK ns,.inr ⟨trivial,rfl,z⟩⟩,rfl,rfl⟩
 obtain⟨fp,hrep⟩:=hrep;exact⟨⟨_,hP,rfl⟩,_,_,fp,rfl,hrep,hm ns hlen hbits,fun v H' fp' sm r _ _=>⟨gS r,sm _ _ hP⟩⟩
theorem Z3X (I:Inv X pins σ H s) (d':Drawn):Inv X pins σ H { s with drawn:=d' } :=
 I.step (h':=s.heap) (g':=s.gens) (d':=d') (t':=s.toks) (ch:=[]) (fun _ z=>nomatch z) (fun _ _ _ _ _ e _=>e) (fun _ o _ _ _ e _=>⟨o.slots,e⟩) (fun _ _ _ _ n=>n) (fun _ o _ e=>⟨o,e⟩) (fun _ _ e=>e) (fun _ _ _ e=>e) (fun _ ps e=>⟨#[],by rw [e];simp⟩) (fun _ hm=>hm) I.hok I.bare
theorem zT (hc:X.calm=true):CallR X (.type "set") (fun vs H Q=>∃ (a:Af) (ns:Ab Int),vs=[.ref a] /\ SqL X.K H a (ns.map V.int) /\ ns.length < 1000 /\ ∀ l,H l=none->Q (.ref l) (upd H l (.sI (TS.dedI ns)))):=fun pins s σ H xs us Q I w h=>by
 obtain⟨a,ns,rfl,hs,hl,q⟩:=h;obtain⟨u,rfl,r⟩:=oE w;cases (show u=Value.ref a from r)
 obtain⟨its,w1,pl,hz⟩:=I.list hs;have hi:=Y6 w1;have hlen:=IntsAre.length hi;refine TS.w_set (I.ok.hd hc) pl.isList (by simpa using hi) (by rw [Qaz,hlen];show ns.length + 1 < 4096;omega) fun h' tk hS kept=>?_;exact⟨.ref s.heap.objs.size,_,I.laid (t':=tk) (fun b u e=>kept b u (Qah e) e) (Qag _) (show ObjOk X.prog X.w _ _ _ (.sI (TS.dedI ns)) from hS),rfl,q _ (I.hok.fresh (Qag _))⟩
theorem yC (hc:X.calm=true):CallR X (.builtin "sorted") (fun vs H Q=>∃ (a:Af) (ns:Ab Int),vs=[.ref a] /\ H a=some (.sI ns) /\ ns.length < 128 /\ ∀ l,H l=none->Q (.ref l) (upd H l (.lst ((mE ns).map V.int)))):=fun pins s σ H xs us Q I w h=>by
 obtain⟨a,ns,rfl,ha,hl,q⟩:=h;obtain⟨u,rfl,r⟩:=oE w;cases (show u=Value.ref a from r)
 have hS:TS.SB X.prog X.w (TS.btOf X.w) s.heap a ns:=I.hok a _ ha;have hz:ns.length <= sizeLine:=by rw [sizeLine_eq];omega
 refine Calls.call_function_entry kind_sorted plain_sorted entry_sorted (args_sorted1 _) ?_;unfold Builtin.«sorted»;refine Ra (m:=checkCount "sorted" 1 1 _) (Rb ?_);refine Ra (TS.w_collect (A:=X.A.in1) hS (I.ok.hd hc) hz fun hp tk d' acc kept hlt q1 q2=>?_);have hal:acc.length=ns.length:=by have:=q2.length_eq;rwa [Qaa] at this
 refine Ra (wpAny_newList ?_ (by rw [hal];exact hz));have hoL:(hp.push { cls:=.type "list",data:=.seq acc.toArray }).get? hp.objs.size=some (seqObj "list" acc.toArray 0):=Qan _ rfl;refine Ra (Rg (Rh slot_list_sort ⟨_,hoL,rfl⟩ entry_list_sort (TS.sort128 hoL q1 (by omega) fun out ns' a1 a2 a3=>⟨_,rfl,?_⟩) (args_list_sort _)));refine Rb ⟨_,rfl,?_⟩;obtain⟨ee,he⟩:=sortedHeap_at (out:=out) hoL;have hns:ns'=mE ns:=gU ((a2.trans q2).trans (gI ns).symm) a3 (jR ns);subst hns;refine⟨.ref hp.objs.size,_,(Z3X I d').laid (t':=tk) (fun c u e=>?_) (Qbd hlt) (show ObjOk X.prog X.w _ _ _ (.lst ((mE ns).map V.int)) from ⟨?_,out.toList,ee,kH a1,?_⟩),rfl,q _ (I.hok.fresh (Qbd hlt))⟩
 .have e':=kept c u e;have h2:=Qah e';rw [sortedHeap_old (QaA h2) (by rw [size_push'];exact Qa3 h2)];exact Qab _ e'
 .have:=a2.length_eq;rw [Qaa,this,Qaa];omega
 .rw [Array.toArray_toList];exact he
theorem Z03:CallR X (.builtin "len") (fun vs H Q=>∃ (a:Af) (ns:Ab Int),vs=[.ref a] /\ H a=some (.sI ns) /\ ns.length < 1000 /\ Q (.int ns.length) H):=fun pins s σ H xs us Q I w h=>by
 obtain⟨a,ns,rfl,ha,hl,q⟩:=h;obtain⟨u,rfl,r⟩:=oE w;cases (show u=Value.ref a from r)
 obtain⟨o,es,ep,t,ho,hex,hd,hel,hvs,hb,hf,hT⟩:=show TS.SB X.prog X.w (TS.btOf X.w) s.heap a ns from I.hok a _ ha
 have hz:es.size=ns.length:=by have:=hvs.length_eq;unfold TS.esI at this;rwa [Qaa,Qak] at this
 exact PySem.call_len_set ho hex hd hf (by rw [hz];omega) ⟨.int ns.length,H,I.tok _,⟨s.toks + 1,by rw [hz]⟩,q⟩
theorem P8:bootBuiltins "set" = some (.type "set"):=by decide +kernel
def tM:Ab D->Aa D
 | [.lst ds]=>match mD ds with
  | some ns=>if ns.length < 128 then some (.lst ((mE (TS.dedI ns)).map .int)) else none
  | none=>none
 | _=>none
def xK:Ab D->Aa D
 | [.lst ds]=>match mD ds with
  | some ns=>if ns.length < 1000 then some (.int (TS.dedI ns).length) else none
  | none=>none
 | _=>none
theorem Z31 (hc:X.calm=true) (hg:Gl X "sorted") (hm:X.mg "sorted" = none) (hg2:Gl X "set") (hm2:X.mg "set" = none) (ha:QE X m1 rs1 a fa) (he:starEach [a] X.env=(false,eval a X.env) :: starEach [] X.env:=by rfl)
  (hpl:(backTo pos (starEach [] X.env)).any (·.1)=false:=by rfl) (hpl2:(backTo pos2 (starEach [] X.env)).any (·.1)=false:=by rfl) (he2:starEach [.Call (.Name "set" p2) [a] [] pos2] X.env=(false,eval (.Call (.Name "set" p2) [a] [] pos2) X.env) :: starEach [] X.env:=by rfl) :
  QE X m rs (.Call (.Name "sorted" p) [.Call (.Name "set" p2) [a] [] pos2] [] pos) (fB1 tM (aC fa aH)) :=
 .mk (L2.pe_callB (yC hc) hg hm uG (L2.pa_cons (L2.pe_callTy (zT hc) hg2 hm2 P8 (aD ha bM he) (by decide) (by decide) he hpl2) L2.pa_nil he2) (by decide) (by decide) he2 hpl) fun σ H Q ⟨env,F,d,ok,e,q⟩=>by
  unfold fB1 at e;cases h1:(aC fa aH) env with
  | none=>rw [h1] at e;cases e
  | some ds =>
   rw [h1] at e;replace e:tM ds=some d:=e;refine⟨env,F,ds,ok,h1,fun vs H' fp s r c=>?_⟩;unfold tM at e;split at e
   .rename_i ds';cases hq:mD ds' with
    | none=>rw [hq] at e;cases e
    | some ns =>
     rw [hq] at e;simp only at e;split at e
     .rename_i h128;cases e;obtain⟨v,rfl,r1⟩:=iO r;obtain⟨p,ws,fp',rfl,hsq,hr,hsub⟩:=bX r1;rw [sZ hq hr] at hsq;refine⟨p,ns,rfl,hsq,by omega,fun l hl=>⟨l,TS.dedI ns,rfl,bE,Qbr (TS.dedI_len ns) h128,fun l2 hl2=>?_⟩⟩;have s2:=s.trans (bV (o:=.sI (TS.dedI ns)) hl);exact q _ _ [l2] (s2.trans (bV hl2)) (lO hl2 (kK _)) ⟨fun b hb=>.inl (by rw [QaF.mp hb];exact s2.free hl2),fun _=>⟨by simp,fun b hb=>by rw [QaF.mp hb];exact s2.free hl2⟩⟩
     .cases e
   .cases e
theorem Z53 (hc:X.calm=true) (hg:Gl X "len") (hm:X.mg "len" = none) (hg2:Gl X "set") (hm2:X.mg "set" = none) (ha:QE X m1 rs1 a fa) (he:starEach [a] X.env=(false,eval a X.env) :: starEach [] X.env:=by rfl)
  (hpl:(backTo pos (starEach [] X.env)).any (·.1)=false:=by rfl) (hpl2:(backTo pos2 (starEach [] X.env)).any (·.1)=false:=by rfl) (he2:starEach [.Call (.Name "set" p2) [a] [] pos2] X.env=(false,eval (.Call (.Name "set" p2) [a] [] pos2) X.env) :: starEach [] X.env:=by rfl) :
  QE X m rs (.Call (.Name "len" p) [.Call (.Name "set" p2) [a] [] pos2] [] pos) (fB1 xK (aC fa aH)) :=
 .mk (L2.pe_callB Z03 hg hm PySem.boot_len (L2.pa_cons (L2.pe_callTy (zT hc) hg2 hm2 P8 (aD ha bM he) (by decide) (by decide) he hpl2) L2.pa_nil he2) (by decide) (by decide) he2 hpl) fun σ H Q ⟨env,F,d,ok,e,q⟩=>by
  unfold fB1 at e;cases h1:(aC fa aH) env with
  | none=>rw [h1] at e;cases e
  | some ds =>
   rw [h1] at e;replace e:xK ds=some d:=e;refine⟨env,F,ds,ok,h1,fun vs H' fp s r c=>?_⟩;unfold xK at e;split at e
   .rename_i ds';cases hq:mD ds' with
    | none=>rw [hq] at e;cases e
    | some ns =>
     rw [hq] at e;simp only at e;split at e
     .rename_i hk;cases e;obtain⟨v,rfl,r1⟩:=iO r;obtain⟨p,ws,fp',rfl,hsq,hr,hsub⟩:=bX r1;rw [sZ hq hr] at hsq;refine⟨p,ns,rfl,hsq,hk,fun l hl=>⟨l,TS.dedI ns,rfl,bE,Qbr (TS.dedI_len ns) hk,?_⟩⟩;exact q _ _ [] (s.trans (bV (o:=.sI (TS.dedI ns)) hl)) fN .nil
     .cases e
   .cases e
theorem FunD.k {P:Aj}{w:Ak}{K:Frag}{mg:Str->Aa Ad}{base:Ah}{x qual:Str}{st:Stmt}{f:Af}{fd:FuncData}{N ps:Ab Str}{k n L:Nat}{g:En->Res}(F:FunD K x qual st f fd) (S:aP N ps (aI st))
  (hb:∀ {cdv:Ad}{A:Ai}{outer:Ab Env}{s:Ac}{H:Hp}{E:XK},N.Nodup->Room k (A.deeper (envOfC qual (aI st) s.heap.objs.size f cdv))->QSs (tJ CX0 P w K mg base N qual (aI st) f cdv A outer s H E).nox (bS st) g) (hn:ps.length=n:=by rfl) (hL:N.length=L:=by rfl) :
  bR P w K mg base CX0 (k + 1) f fd ps (spD K n (runF L g)):=F.ok S hn hL fun _ _ _ _ _ _ hr=>hb S.nd hr
section
variable {X:Cx}{m1:Bool}{rs rs1:Ab Nat}{e:Ag}{es:Ab Ag}{f:En->Aa D}{fs:En->Aa (Ab D)}{pos p pos':Pos}{x:Str}
theorem Qc {k n na:Nat}{dds:Ab D}{F':Ab D->Aa D}(c:aM X.prog X.w X.K X.mg X.base x dds k n F') (ha:QA X m1 rs1 (e :: es) fs) (hr:Room k X.A:=by exact Room.mono (by assumption) (by first | decide | omega)) (hna:NArgs na fs:=by (repeat apply NArgs.cons);exact NArgs.nil) (hn:na + dds.length=n:=by rfl) (hg:Gl X x:=by rfl)
  (hdb:(x == ("__debug__" : Str))=false:=by decide) (he:starEach (e :: es) X.env=(false,eval e X.env) :: starEach es X.env:=by rfl) (hpl:(backTo pos (starEach es X.env)).any (·.1)=false:=by rfl) :
  QE X true [] (.Call (.Name x p) (e :: es) [] pos) (aJ F' dds fs):=Z6Y c hr hna hn ha hg hdb he hpl
theorem Qn (rs:Ab Nat):QA X false rs [] aH:=bM
theorem Qv (i:Nat) {x:Str}(hs:∀ r ∈ [i],r ∈ rs:=by simp) (hN:X.N[i]? = some x:=by rfl) (hv:Vis X.env.scope x:=by first | exact Or.inl rfl | exact Or.inr (Or.inl rfl) | exact Or.inr (Or.inr rfl)) (hd:(x == ("__debug__" : Str))=false:=by decide) (hcd:(x == ("__classdict__" : Str))=false:=by decide) :
  QE X false rs (.Name x pos) (aA i):=(aB i hN hv hd hcd).more hs
theorem Qs (i:Nat) (he:QE X true [] e f) (hN:X.N.Nodup:=by assumption) (hi:X.N[i]? = some x:=by rfl) (hx:Loc X.env.scope x:=by first | exact .inl rfl | exact .inr rfl) (hs:swapsWith e (some (.Name x pos')) pos.line X.env=pure false:=by rfl) (hf:X.fn x=true \/ X.env.scope.names.lookup x=some .local:=by first | exact .inl rfl | exact .inr rfl | assumption) :
  QS X (.Assign [.Name x pos'] e pos) (bP i f):=Z6U hN hi hx he hs hf
theorem Qg (i:Nat) (hN:X.N.Nodup:=by assumption) (hi:X.N[i]? = some x:=by rfl) (hx:Loc X.env.scope x:=by first | exact .inl rfl | exact .inr rfl) (hf:X.fn x=true \/ X.env.scope.names.lookup x=some .local:=by first | exact .inl rfl | exact .inr rfl | assumption):QG X (.Name x pos) (gtN i):=Z50 hN hi hx hf
end
def HD (K:Frag) (x:Str) (st:Stmt) (f:Af):Prop:=nsIn K mainGlobals x=some (some (.ref f)) /\ (∃ oc od kV doc pm an cd ct sl,K.lookup f=some ⟨oc,od,.func (fnOf x x (cF st) (bS st) (aI st) .none kV doc pm an cd ct),sl⟩ /\ codeIn K cd x=true) /\ keepIn K (.ref f)=true
def HU (x:Str) (st:Stmt) (ps:Ab Str):Prop:=∀ (r:Ad × Ad × Ad × Aa Af × Ad × Ad) (us:Ab Ad),us.length=ps.length->bindArgs (fnOf x x (cF st) (bS st) (aI st) .none r.1 r.2.1 r.2.2.1 r.2.2.2.1 r.2.2.2.2.1 r.2.2.2.2.2) ⟨us,[]⟩=pure (ps.zip us)
def HX (P:Aj) (w:Ak) (K:Frag) (mg:Str->Aa Ad) (base:Ah):Prop:=∃ hh:Ah,K.In hh /\ hh.Ns mainGlobals mg
section
variable {K:Frag}{x:Str}{st:Stmt}{f:Af}{ps:Ab Str}{P:Aj}{w:Ak}{mg:Str->Aa Ad}{base:Ah}{k n:Nat}
theorem HD.mk {oc kV doc pm cd ct:Ad}{od an:Aa Af}{sl:Ae (Aa Ad)}(a:nsIn K mainGlobals x=some (some (.ref f))) (l:K.lookup f=some ⟨oc,od,.func (fnOf x x (cF st) (bS st) (aI st) .none kV doc pm an cd ct),sl⟩)
  (c:codeIn K cd x=true) (k:keepIn K (.ref f)=true):HD K x st f:=⟨a,⟨oc,od,kV,doc,pm,an,cd,ct,sl,l,c⟩,k⟩
theorem HD.use (h:HD K x st f) (Y:HX P w K mg base) (hu:HU x st ps) :
  ∃ fd,FunD K x x st f fd /\ mg x=some (.ref f) /\ keepIn K (.ref f)=true /\ Binds K fd ps []:=by
 obtain⟨a,⟨oc,od,kV,doc,pm,an,cd,ct,sl,l,c⟩,k⟩:=h;obtain⟨_,X,G⟩:=Y;exact⟨_,lV l c k,mg_of X G a,k,.all (hu (kV,doc,pm,an,cd,ct))⟩
theorem HD.c {F':Ab D->Aa D}(h:HD K x st f) (Y:HX P w K mg base)
  (ok:∀ fd,FunD K x x st f fd->bR P w K mg base CX0 k f fd ps (spD K n F')) (hu:HU x st ps):aM P w K mg base x [] k n F':=by
 obtain⟨fd,F,a,kp,b⟩:=h.use Y hu;exact⟨⟨f,fd,ps,[],[],ok fd F,a,kp,b,.nil,fun H=>by simp only [Reps];exact⟨trivial,trivial⟩⟩⟩
theorem HD.t {P₀:Af}{pq:Pos × Str}{F':Ab D->Aa D}(h:HD K x st f) (Y:HX P w K mg base)
  (ok:∀ fd,FunD K x x st f fd->bR P w K mg base CX0 k f fd ps (spT K P₀ pq n F')) (hu:HU x st ps):vA P w K mg base x P₀ pq k n F':=by
 obtain⟨fd,F,a,kp,b⟩:=h.use Y hu;exact⟨⟨f,fd,ps,ok fd F,a,kp,b⟩⟩
theorem HD.l {S:Af->Ab V->Ac->Hp->Ab Af->Prop}{mm:Af->Ab V->Ab D->Aa D}(h:HD K x st f) (Y:HX P w K mg base)
  (ok:∀ fd,FunD K x x st f fd->Z10 P w K mg base k f fd ps n S mm) (hu:HU x st ps) (hn:ps.length=n):G9 P w K mg base x k n S mm:=by
 obtain⟨fd,F,a,kp,b⟩:=h.use Y hu;exact⟨⟨f,fd,ps,ok fd F,a,kp,b,hn⟩⟩
theorem HD.r {F':Ab D->Aa D}(h:HD K x st f) (Y:HX P w K mg base)
  (ok:∀ fd,FunD K x x st f fd->mg x=some (.ref f)->keepIn K (.ref f)=true->Binds K fd ps []->bR P w K mg base CX0 k f fd ps (spD K n F')) (hu:HU x st ps):aM P w K mg base x [] k n F':=by
 obtain⟨fd,F,a,kp,b⟩:=h.use Y hu;exact⟨⟨f,fd,ps,[],[],ok fd F a kp b,a,kp,b,.nil,fun H=>by simp only [Reps];exact⟨trivial,trivial⟩⟩⟩
end
end PD
namespace G
open PySem PySem.Spec PyProof.Rows L2 PD
theorem yU:∀ (n a b:Nat),a <= n->a ||| b=(a ^^^ b) + (a &&& b)
 | n,0,b,_=>by simp
 | 0,a + 1,b,h=>by omega
 | n + 1,a + 1,b,h=>by
  have ih:=yU n ((a + 1) / 2) (b / 2) (by omega);have o:=congrArg (· = true) (Nat.testBit_or (a + 1) b 0);have x:=congrArg (· = true) (Nat.testBit_xor (a + 1) b 0);have d:=congrArg (· = true) (QbB (a + 1) b 0);simp only [Nat.testBit_zero,Bool.or_eq_true,QaU,RA] at o x d;rw [<- Nat.or_div_two,<- Nat.xor_div_two,<- Nat.and_div_two] at ih;generalize a + 1=A at *
  generalize A ||| b=O at *
  generalize A ^^^ b=X at *
  generalize A &&& b=N at *
  have ho:O % 2=1 ↔ A % 2=1 \/ b % 2=1:=by rw [o]
  have hd:N % 2=1 ↔ A % 2=1 /\ b % 2=1:=by rw [d]
  have hx:X % 2=1 ↔ ¬ (A % 2=1 ↔ b % 2=1):=by
   rw [x];by_cases h1:A % 2=1 <;> by_cases h2:b % 2=1 <;> simp [h1,h2]
  by_cases h1:A % 2=1 <;> by_cases h2:b % 2=1 <;> simp only [h1,h2,or_self,or_true,true_or,and_self,and_true,true_and,and_false,false_and,iff_self,not_true,iff_true,iff_false,or_false,false_or,not_false_iff] at ho hd hx <;> omega
theorem Q2 (a:Nat):¬ (0:Int) <= Builtin.bitNot (a:Int):=by unfold Builtin.bitNot;omega
theorem Z4u (a:Int):Builtin.bitNot (Builtin.bitNot a)=a:=by unfold Builtin.bitNot;omega
theorem rN (a b:Nat):Builtin.bitAnd (a:Int) (b:Int)=((a &&& b:Nat):Int):=by
 simp [Builtin.bitAnd]
theorem G2 (a b:Nat):Builtin.bitOr (a:Int) (b:Int)=((a ||| b:Nat):Int):=by
 unfold Builtin.bitOr Builtin.bitAnd;rw [Ry (Q2 a),Ry (Q2 b)];simp only [Z4u,Qat]
theorem Z4t (a b:Nat):Builtin.bitXor (a:Int) (b:Int)=((a ^^^ b:Nat):Int):=by
 unfold Builtin.bitXor;rw [G2,rN,yU a a b (Qag _)];omega
def tabN:Nat->(Nat->Bool)->Nat
 | 0,_=>0
 | n + 1,b=>tabN n b + (if b n then 2 ^ n else 0)
theorem fT:∀ (n:Nat) (b:Nat->Bool),tabN n b < 2 ^ n
 | 0,b=>by simp [tabN]
 | n + 1,b=>by
  have:=fT n b;simp only [tabN,Nat.pow_succ];split <;> omega
theorem cC:∀ (n:Nat) (b:Nat->Bool) (g:Nat),(tabN n b).testBit g=(decide (g < n) && b g)
 | 0,b,g=>by simp [tabN]
 | n + 1,b,g=>by
  have ih:=cC n b g;have hlt:=fT n b;simp only [tabN];cases hb:b n with
  | true =>
   simp only [RC];rw [Nat.add_comm];by_cases h1:g < n
   .rw [Nat.testBit_two_pow_add_gt h1,ih];simp [h1,Qa3 h1]
   .by_cases h2:g=n
    .subst h2;rw [Nat.testBit_two_pow_add_eq,ih];simp [hb]
    .rw [Nat.testBit_lt_two_pow]
     .simp [show ¬ g < n + 1 by omega]
     .have:2 ^ (n + 1) <= 2 ^ g:=Qbw (by decide) (by omega);rw [Nat.pow_succ] at this;omega
  | false =>
   simp only [Qbb,RD,Nat.add_zero];rw [ih];by_cases h2:g=n
   .subst h2;simp [hb]
   .by_cases h1:g < n
    .simp [h1,Qa3 h1]
    .simp [h1,show ¬ g < n + 1 by omega]
theorem R8 (h:∀ g,g < n->a g=b g):tabN n a=tabN n b:=by
 apply Nat.eq_of_testBit_eq;intro g;rw [cC,cC];by_cases hg:g < n
 .simp [hg,h g hg]
 .simp [hg]
theorem kY (h1:x < 2 ^ n) (h:∀ g,g < n->x.testBit g=b g):x=tabN n b:=by
 apply Nat.eq_of_testBit_eq;intro g;rw [cC];by_cases hg:g < n
 .simp [hg,h g hg]
 .have:x < 2 ^ g:=QaE h1 (Qbw (by decide) (by omega));rw [Nat.testBit_lt_two_pow this];simp [hg]
def tab (n:Nat) (b:Nat->Bool):Int:=(tabN n b:Int)
theorem cQ (h:∀ g,g < n->a g=b g):tab n a=tab n b:=by unfold tab;rw [R8 h]
theorem pW (n:Nat) (a b:Nat->Bool):Builtin.bitAnd (tab n a) (tab n b)=tab n (fun g=>a g && b g):=by
 unfold tab;rw [rN];congr 1;refine kY (Qbr Nat.and_le_left (fT n a)) fun g hg=>?_;rw [QbB,cC,cC];simp [hg]
theorem vH (n:Nat) (a b:Nat->Bool):Builtin.bitOr (tab n a) (tab n b)=tab n (fun g=>a g || b g):=by
 unfold tab;rw [G2];congr 1;refine kY (Nat.or_lt_two_pow (fT n a) (fT n b)) fun g hg=>?_;rw [Nat.testBit_or,cC,cC];simp [hg]
theorem nH (n:Nat) (a b:Nat->Bool):Builtin.bitXor (tab n a) (tab n b)=tab n (fun g=>a g ^^ b g):=by
 unfold tab;rw [Z4t];congr 1;refine kY (Nat.xor_lt_two_pow (fT n a) (fT n b)) fun g hg=>?_;rw [Nat.testBit_xor,cC,cC];simp [hg]
theorem Z17 (n:Nat):tabN n (fun _=>true)=2 ^ n - 1:=by
 symm;refine kY (by have:=Qbg n;omega) fun g hg=>?_;rw [Nat.testBit_two_pow_sub_one];simp [hg]
theorem nI:∀ (n:Nat),tabN n (fun _=>false)=0
 | 0=>rfl
 | n + 1=>by simp [tabN,nI n]
def bA (n:Nat):Int:=2 ^ n - 1
theorem mG (n:Nat):tab n (fun _=>true)=bA n:=by
 unfold tab bA;rw [Z17];have:=Qbg n;rw [Int.ofNat_sub (by omega)];simp
theorem Z0i (n:Nat) {b:Int}(h:b=0 \/ b=1):bA n * b=tab n (fun _=>decide (b=1)):=by
 rcases h with z | z
 .subst z;have:(fun _:Nat=>decide ((0:Int)=1))=fun _=>false:=by funext;decide
  rw [this,Int.mul_zero];unfold tab;rw [nI];rfl
 .subst z;have:(fun _:Nat=>decide ((1:Int)=1))=fun _=>true:=by funext;decide
  rw [this,Int.mul_one,mG]
theorem Z0h (n:Nat) (b:Nat->Bool):Builtin.bitXor (bA n) (tab n b)=tab n (fun g=>!b g):=by
 rw [<- mG,nH];exact cQ fun g _=>by simp
def inT:Nat->Ab Int
 | 0=>[]
 | k + 1=>(inT k).map (fun t=>Builtin.bitOr t (t * 2 ^ (2 ^ k))) ++ [bA (2 ^ k) * 2 ^ (2 ^ k)]
theorem fU:∀ n,(inT n).length=n
 | 0=>rfl
 | n + 1=>by simp [inT,fU n]
theorem Z0g (n:Nat) (b:Nat->Bool):tab n b * 2 ^ n=tab (n + n) (fun g=>decide (n <= g) && b (g - n)):=by
 unfold tab;have:((tabN n b:Nat):Int) * 2 ^ n=((tabN n b * 2 ^ n:Nat):Int):=by simp
 rw [this];congr 1;refine kY ?_ fun g hg=>?_
 .rw [Nat.pow_add];exact Nat.mul_lt_mul_of_pos_right (fT n b) (Qbg n)
 .rw [<- Nat.shiftLeft_eq,Nat.testBit_shiftLeft,cC];by_cases h:n <= g
  .simp [h,show g - n < n by omega]
  .simp [h]
theorem Z2C (n m:Nat) (b:Nat->Bool):tab n b=tab (n + m) (fun g=>decide (g < n) && b g):=by
 unfold tab;congr 1;refine kY ?_ fun g hg=>cC n b g;exact QaE (fT n b) (Qbw (by decide) (by omega))
theorem nY:∀ (n i:Nat),i < n->(inT n)[i]? = some (tab (2 ^ n) fun g=>decide (g / 2 ^ i % 2=1))
 | 0,i,h=>by omega
 | n + 1,i,h=>by
  have e2:2 ^ (n + 1)=2 ^ n + 2 ^ n:=by rw [Nat.pow_succ];omega
  simp only [inT];by_cases hi:i < n
  .rw [QaY (by simp [fU,hi]),Qas,nY n i hi];simp only [Option.map_some];congr 1;rw [Z0g];rw [Z2C (2 ^ n) (2 ^ n),vH,e2];refine cQ fun g hg=>?_;by_cases h1:g < 2 ^ n
   .simp [h1,show ¬ 2 ^ n <= g by omega]
   .have h2:2 ^ n <= g:=by omega
    simp only [h1,h2,decide_false,decide_true,Bool.false_and,Bool.false_or,Bool.true_and];have h3:2 ^ n=2 ^ i * (2 * 2 ^ (n - i - 1)):=by rw [<- Nat.pow_succ',<- Nat.pow_add];congr 1;omega
    have h4:g / 2 ^ i=(g - 2 ^ n) / 2 ^ i + 2 * 2 ^ (n - i - 1):=by
     have:g=(g - 2 ^ n) + 2 ^ i * (2 * 2 ^ (n - i - 1)):=by omega
     conv=>lhs;rw [this]
     rw [Nat.add_mul_div_left _ _ (Qbg i)]
    rw [h4];congr 2;omega
  .have hin:i=n:=by omega
   subst hin;rw [Qa4 (by simp [fU]),Qaa,fU,Nat.sub_self];simp only [Qaj];congr 1;rw [<- mG,Z0g,e2];refine cQ fun g hg=>?_;by_cases h1:2 ^ i <= g
   .have:g / 2 ^ i=1:=by
     rw [Nat.div_eq_iff (Qbg i)];omega
    simp [h1,this]
   .have:g / 2 ^ i=0:=Nat.div_eq_of_lt (by omega);simp [h1,this]
theorem Z8Q (h:Bt x) (k:Bt y):(decide (x=1) && decide (y=1))=decide (Builtin.bitAnd x y=1):=by rcases h with z | z <;> rcases k with w | w <;> (subst z;subst w;decide)
theorem Z9o (h:Bt x) (k:Bt y):(decide (x=1) || decide (y=1))=decide (Builtin.bitOr x y=1):=by rcases h with z | z <;> rcases k with w | w <;> (subst z;subst w;decide)
theorem Z8O (h:Bt x) (k:Bt y):(decide (x=1) ^^ decide (y=1))=decide (Builtin.bitXor x y=1):=by rcases h with z | z <;> rcases k with w | w <;> (subst z;subst w;decide)
theorem Z8P (h:Bt x):(!decide (x=1))=decide (Builtin.bitXor 1 x=1):=by rcases h with z | z <;> (subst z;decide)
def tb (n:Nat) (b:Nat->Int):Int:=tab n fun g=>decide (b g=1)
theorem kI (h:∀ g,g < n->a g=b g):tb n a=tb n b:=cQ fun g hg=>by rw [h g hg]
theorem R7 (n:Nat) {b:Int}(h:b=0 \/ b=1):bA n * b=tb n fun _=>1 * b:=by
 rw [Z0i n h];exact cQ fun g _=>by rw [Qbv]
theorem Z6G (n:Nat) {a b:Nat->Int}(ha:∀ g,Bt (a g)) (hb:∀ g,Bt (b g)):Builtin.bitAnd (tb n a) (tb n b)=tb n fun g=>Builtin.bitAnd (a g) (b g):=by
 unfold tb;rw [pW];exact cQ fun g _=>Z8Q (ha g) (hb g)
theorem Z7K (n:Nat) {a b:Nat->Int}(ha:∀ g,Bt (a g)) (hb:∀ g,Bt (b g)):Builtin.bitOr (tb n a) (tb n b)=tb n fun g=>Builtin.bitOr (a g) (b g):=by
 unfold tb;rw [vH];exact cQ fun g _=>Z9o (ha g) (hb g)
theorem Z6E (n:Nat) {a b:Nat->Int}(ha:∀ g,Bt (a g)) (hb:∀ g,Bt (b g)):Builtin.bitXor (tb n a) (tb n b)=tb n fun g=>Builtin.bitXor (a g) (b g):=by
 unfold tb;rw [nH];exact cQ fun g _=>Z8O (ha g) (hb g)
theorem Z6F (n:Nat) {a:Nat->Int}(ha:∀ g,Bt (a g)):Builtin.bitXor (bA n) (tb n a)=tb n fun g=>Builtin.bitXor 1 (a g):=by
 unfold tb;rw [Z0h];exact cQ fun g _=>Z8P (ha g)
theorem yM (h:v=tb n b) (hf:∀ w b,f=.wire w b->b=0 \/ b=1):bO v w (bA n) f=tb n fun g=>bO (b g) w 1 f:=by
 cases f with
 | none=>exact h
 | leg _ _ _=>exact h
 | wire w' b' =>
  unfold bO;by_cases hw:w'=w
  .simp only [hw,RC];exact R7 n (hf _ _ rfl)
  .simp only [hw,RD];exact h
theorem Z4D {V:Ab Int}{B:Nat->Ab Int}(h:∀ a ∈ r.ws,nth V a=tb n fun g=>nth (B g) a) (hb:∀ w l b,f=.leg w l b->b=0 \/ b=1) :
  ∀ j:Nat,j < r.ws.length->nth (legs r w V (bA n) f) j=tb n fun g=>nth (legs r w (B g) 1 f) j:=by
 have base:∀ j:Nat,j < r.ws.length->nth (r.ws.map (nth V)) j=tb n fun g=>nth (r.ws.map (nth (B g))) j:=by
  intro j hj;have e1:∀ L:Ab Int,nth (r.ws.map (nth L)) j=nth L (r.ws[j]):=fun L=>iC (i:=j) (by simp [hj]) rfl;rw [e1 V,h _ (List.getElem_mem hj)];exact kI fun g _=>(e1 (B g)).symm
 intro j hj;cases f with
 | none=>exact base j hj
 | wire _ _=>exact base j hj
 | leg w' l b =>
  unfold legs;by_cases hw:w'=w
  .simp only [hw,RC];by_cases hl:l.toNat=j
   .have e2:∀ (L:Ab Int) (x:Int),L.length=r.ws.length->nth (L.set l.toNat x) j=x:=fun L x hL=>iC (i:=j) (by rw [hl,QaZ (by omega)]) rfl;rw [e2 _ _ (by simp)];rw [R7 n (hb _ _ _ rfl)];exact kI fun g _=>(e2 _ _ (by simp)).symm
   .have e3:∀ (L:Ab Int) (x:Int),nth (L.set l.toNat x) j=nth L j:=fun L x=>by
     unfold nth;rw [Qat,List.getD,List.getD,Qay hl]
    rw [e3,base j hj];exact kI fun g _=>(e3 _ _).symm
  .simp only [hw,RD];exact base j hj
theorem Z4E {M:Nat->Ab Int}(hr:RowOk k r) (h:∀ j:Nat,j < r.ws.length->nth L j=tb n fun g=>nth (M g) j) (hM:∀ g,∀ x ∈ M g,Bt x):hX r L (bA n)=tb n fun g=>hX r (M g) 1:=by
 have bt:∀ j g,Bt (nth (M g) j):=fun j g=>lM (hM g) j;cases r with
 | fix b=>exact R7 n hr
 | not a =>
  have h0:=h 0 (by simp [Row.ws]);show Builtin.bitXor (bA n) (nth L 0)=_;rw [show nth L 0=nth L ((0:Nat):Int) from rfl,h0]
  exact Z6F n fun g=>bt _ g
 | bin k a b =>
  have h0:nth L 0=tb n fun g=>nth (M g) 0:=h 0 (by simp [Row.ws]);have h1:nth L 1=tb n fun g=>nth (M g) 1:=h 1 (by simp [Row.ws]);cases k with
  | and =>
   show Builtin.bitAnd (nth L 0) (nth L 1)=_;rw [h0,h1];exact Z6G n (fun g=>bt _ g) fun g=>bt _ g
  | or =>
   show Builtin.bitOr (nth L 0) (nth L 1)=_;rw [h0,h1];exact Z7K n (fun g=>bt _ g) fun g=>bt _ g
  | xor =>
   show Builtin.bitXor (nth L 0) (nth L 1)=_;rw [h0,h1];exact Z6E n (fun g=>bt _ g) fun g=>bt _ g
def aL (ins:Nat) (rows:Ab Row) (f:Flt):Ab Int:=iF (bA (2 ^ ins)) f (inT ins) rows
theorem jQ (ins:Nat) (rows:Ab Row) (f:Flt):(aL ins rows f).length=ins + rows.length:=by
 unfold aL;rw [nG,fU]
theorem M8 {i:Nat}(h0:0 <= a) (h1:a < i):nth (l.take i) a=nth l a:=by
 unfold nth;rw [List.getD,List.getD,Qa1 (by omega)]
theorem J7 {rows:Ab Row}(hr:RowsOk ins rows) (hf:FltOk ins rows f):∀ (i:Nat),i < ins + rows.length->nth (aL ins rows f) i=tb (2 ^ ins) fun g=>nth (xF ins rows g f) i:=by
 intro i
 induction i using Nat.strongRecOn with
 | _ i ih =>
  intro hi;by_cases h1:i < ins
  .have e1:(aL ins rows f)[i]? = some (bO (tab (2 ^ ins) fun g=>decide (g / 2 ^ i % 2=1)) i (bA (2 ^ ins)) f):=vD (nY ins i h1);rw [iC e1 rfl];have e2:(tab (2 ^ ins) fun g=>decide (g / 2 ^ i % 2=1))=tb (2 ^ ins) fun g=>((g:Int) / 2 ^ i % 2):=by
    refine cQ fun g _=>?_;have e3:((g:Int) / 2 ^ i % 2)=((g / 2 ^ i % 2:Nat):Int):=by simp
    have e4:(g / 2 ^ i % 2=1) ↔ ((g:Int) / 2 ^ i % 2=1):=by rw [e3];omega
    exact decide_eq_decide.mpr e4
   rw [yM e2 hf.w];exact kI fun g _=>(iC (Z4q h1) rfl).symm
  .obtain⟨k,rfl⟩:∃ k,i=ins + k:=⟨i - ins,by omega⟩;have hk:k < rows.length:=by omega
   have hr1:=Qad hk;generalize rows[k]=r at hr1;have hrow:=hr k r hr1;have e1:=rQ (o:=bA (2 ^ ins)) (f:=f) (ss:=inT ins) hr1;rw [fU] at e1;rw [show nth (aL ins rows f) ((ins + k:Nat):Int)=_ from iC e1 rfl]
   have hb:∀ g:Nat,nth (xF ins rows g f) ((ins + k:Nat):Int)=_:=fun g=>iC (Z2o (g:=g) (f:=f) hr1) rfl;have e2:hX r (legs r ((ins + k:Nat):Int) ((iF (bA (2 ^ ins)) f (inT ins) rows).take (ins + k)) (bA (2 ^ ins)) f) (bA (2 ^ ins))=tb (2 ^ ins) fun g=>hX r (legs r ((ins + k:Nat):Int) ((xF ins rows g f).take (ins + k)) 1 f) 1:=by
    refine Z4E hrow (Z4D (fun a ha=>?_) hf.l) fun g=>Z0H (fun x hx=>Z4r hr hf x (List.mem_of_mem_take hx)) hf.l;have ha2:=hrow.ws a ha;obtain⟨a',rfl⟩:∃ a':Nat,a=(a':Int):=⟨a.toNat,by omega⟩;have:=ih a' (by omega) (by omega);rw [M8 (by omega) (by omega)];show nth (aL ins rows f) _=_;rw [this];exact kI fun g _=>(M8 (by omega) (by omega)).symm
   rw [yM e2 hf.w];exact kI fun g _=>(hb g).symm
theorem vI:∀ (n:Nat) (b:Nat->Bool),tabN n b + tabN n (fun g=>!b g) + 1=2 ^ n
 | 0,b=>by simp [tabN]
 | n + 1,b=>by
  have ih:=vI n b;simp only [tabN,Nat.pow_succ];by_cases hb:b n=true
  .simp only [hb,QbO,Qbb,RC,RD];omega
  .simp only [hb,Bool.not_false,Qbb,RC,RD];omega
theorem Z4F (n:Nat) (b:Nat->Bool):bA n - tab n b=tab n (fun g=>!b g):=by
 have h:=vI n b;have h2:((2 ^ n:Nat):Int)=2 ^ n:=by simp
 unfold bA tab;rw [<- h2];omega
def IsT (n:Nat) (x:Int):Prop:=∃ b,x=tab n b
theorem Z5N (h:IsT n x):Builtin.bitXor (bA n) x=bA n - x:=by obtain⟨b,rfl⟩:=h;rw [Z0h,Z4F]
theorem IsT.and (h:IsT n x) (k:IsT n y):IsT n (Builtin.bitAnd x y):=by obtain⟨b,rfl⟩:=h;obtain⟨c,rfl⟩:=k;exact⟨_,pW n b c⟩
theorem IsT.or (h:IsT n x) (k:IsT n y):IsT n (Builtin.bitOr x y):=by obtain⟨b,rfl⟩:=h;obtain⟨c,rfl⟩:=k;exact⟨_,vH n b c⟩
theorem IsT.xor (h:IsT n x) (k:IsT n y):IsT n (Builtin.bitXor x y):=by obtain⟨b,rfl⟩:=h;obtain⟨c,rfl⟩:=k;exact⟨_,nH n b c⟩
theorem mY (n:Nat):IsT n 0:=⟨fun _=>false,by unfold tab;rw [nI];rfl⟩
theorem IsT.nonneg (h:IsT n x):0 <= x:=by obtain⟨b,rfl⟩:=h;exact Int.natCast_nonneg _
theorem Z5O (h:b=0 \/ b=1):IsT n (bA n * b):=⟨_,Z0i n h⟩
theorem Z5v (l:Ab Int) (a:Int):nth l a=nth l ((a.toNat:Nat):Int):=by unfold nth;rw [Qat]
theorem dI (hr:RowsOk ins rows) (hf:FltOk ins rows f) (a:Int):IsT (2 ^ ins) (nth (aL ins rows f) a):=by
 by_cases h:a.toNat < ins + rows.length
 .rw [Z5v,J7 hr hf _ h];exact⟨_,rfl⟩
 .have:nth (aL ins rows f) a=0:=by
   unfold nth;rw [List.getD,Qaw (by rw [jQ];omega)];rfl
  rw [this];exact mY _
theorem vG (h:i < ins):(aL ins rows f)[i]? = some (bO (tab (2 ^ ins) fun g=>decide (g / 2 ^ i % 2=1)) i (bA (2 ^ ins)) f):=vD (nY ins i h)
theorem tO (h:rows[k]? = some r) :
  (aL ins rows f)[ins + k]? = some (bO (hX r (legs r ((ins + k:Nat):Int) ((aL ins rows f).take (ins + k)) (bA (2 ^ ins)) f) (bA (2 ^ ins))) ((ins + k:Nat):Int) (bA (2 ^ ins)) f):=by
 have:=rQ (o:=bA (2 ^ ins)) (f:=f) (ss:=inT ins) h;rw [fU] at this;exact this
def sU (r:Row) (w l:Int) (vs:Ab Int) (o:Int) (f:Flt):Int:=match f with
 | .leg w' l' b=>if w'=w /\ l'=l then o * b else nth vs (nth r.ws l)
 | _=>nth vs (nth r.ws l)
theorem sT (hl:l=0 /\ 0 < r.ws.length \/ l=1 /\ 1 < r.ws.length) (hf:∀ w' l' b,f=.leg w' l' b->w'=w->0 <= l' /\ l' < r.ws.length):nth (legs r w vs o f) l=sU r w l vs o f:=by
 have hm:∀ j:Nat,j < r.ws.length->(r.ws.map (nth vs))[j]? = some (nth vs (nth r.ws j)):=fun j hj=>by
  rw [Qas,Qad hj];simp [nth,List.getD,hj]
 have hbase:nth (r.ws.map (nth vs)) l=nth vs (nth r.ws l):=by
  rcases hl with ⟨rfl,h⟩ | ⟨rfl,h⟩
  .exact iC (hm 0 h) rfl
  .exact iC (hm 1 h) rfl
 cases f with
 | none=>exact hbase
 | wire _ _=>exact hbase
 | leg w' l' b =>
  unfold legs sU;by_cases h:w'=w
  .obtain⟨l0,l1⟩:=hf w' l' b rfl h;simp only [h,RC,true_and];by_cases h2:l'=l
   .subst h2;simp only [RC];refine iC (i:=l'.toNat) ?_ (by omega);rw [QaZ (by rw [Qaa];omega)]
   .simp only [h2,RD];have hne:l'.toNat ≠ l.toNat:=by omega
    rw [<- hbase];unfold nth;rw [List.getD,List.getD,Qay hne]
  .simp only [h,RD,false_and];exact hbase
def kdT (k:Kd) (x y:Int):Int:=match k with | .and=>Builtin.bitAnd x y | .or=>Builtin.bitOr x y | .xor=>Builtin.bitXor x y
theorem Z3M (hv:∀ a,IsT n (nth vs a)) (hb:∀ w l b,f=.leg w l b->b=0 \/ b=1):IsT n (sU r w l vs (bA n) f):=by
 unfold sU;split
 .split
  .exact Z5O (hb _ _ _ rfl)
  .exact hv _
 .exact hv _
def jP (A B outs:Ab Int):Int:=outs.foldl (fun acc a=>Builtin.bitOr acc (Builtin.bitXor (nth A a) (nth B a))) 0
theorem yL (hA:∀ a,IsT n (nth A a)) (hB:∀ a,IsT n (nth B a)):∀ (outs:Ab Int) (x:Int),IsT n x->IsT n (outs.foldl (fun acc a=>Builtin.bitOr acc (Builtin.bitXor (nth A a) (nth B a))) x)
 | [],x,h=>h
 | a :: outs,x,h=>by rw [Qa8];exact yL hA hB outs _ (h.or ((hA a).xor (hB a)))
theorem Z15 (hA:∀ a,IsT n (nth A a)) (hB:∀ a,IsT n (nth B a)) (outs:Ab Int):IsT n (jP A B outs):=yL hA hB outs 0 (mY n)
theorem R6 {A B outs:Ab Int}{i:Nat}{a:Int}(h:outs[i]? = some a):jP A B (outs.take (i + 1))=Builtin.bitOr (jP A B (outs.take i)) (Builtin.bitXor (nth A a) (nth B a)):=by
 unfold jP;rw [cH h,List.foldl_append];rfl
theorem M7:∀ (n t:Nat),t <= n->0 < t->∃ k m,t=2 ^ k * (2 * m + 1)
 | 0,t,h,h0=>by omega
 | n + 1,t,h,h0=>by
  by_cases hp:t % 2=1
  .exact⟨0,t / 2,by simp;omega⟩
  .obtain⟨k,m,e⟩:=M7 n (t / 2) (by omega) (by omega);refine⟨k + 1,m,?_⟩;have:t=2 * (t / 2):=by omega
   rw [this,e,Nat.pow_succ];simp only [Nat.mul_comm,Nat.mul_left_comm,Nat.mul_assoc]
theorem Z0G:∀ (k m:Nat),(2 ^ k * (2 * m + 1)) &&& (2 ^ k * (2 * m + 1) - 1)=2 ^ k * (2 * m)
 | 0,m=>by
  have d:=congrArg (· = true) (QbB (2 * m + 1) (2 * m) 0);simp only [Nat.testBit_zero,QaU,RA] at d;have h1:=Nat.and_div_two (a:=2 * m + 1) (b:=2 * m);rw [show (2 * m + 1) / 2=m by omega,show 2 * m / 2=m by omega,Nat.and_self] at h1;simp only [Nat.pow_zero,Nat.one_mul,Nat.add_sub_cancel];generalize (2 * m + 1) &&& (2 * m)=N at *
  have hd:¬ N % 2=1:=by rw [d];omega
  omega
 | k + 1,m=>by
  have ih:=Z0G k m;have hpos:0 < 2 ^ k * (2 * m + 1):=Nat.mul_pos (Qbg k) (by omega);have e:2 ^ (k + 1) * (2 * m + 1)=2 * (2 ^ k * (2 * m + 1)):=by rw [Nat.pow_succ,Nat.mul_comm (2 ^ k) 2,Nat.mul_assoc]
  have e2:2 ^ (k + 1) * (2 * m)=2 * (2 ^ k * (2 * m)):=by rw [Nat.pow_succ,Nat.mul_comm (2 ^ k) 2,Nat.mul_assoc]
  rw [e,e2];generalize 2 ^ k * (2 * m + 1)=T at *
  generalize 2 ^ k * (2 * m)=U at *
  have d:=congrArg (· = true) (QbB (2 * T) (2 * T - 1) 0);simp only [Nat.testBit_zero,QaU,RA] at d;have h1:=Nat.and_div_two (a:=2 * T) (b:=2 * T - 1);rw [show 2 * T / 2=T by omega,show (2 * T - 1) / 2=T - 1 by omega,ih] at h1;generalize (2 * T) &&& (2 * T - 1)=N at *
  have hd:¬ N % 2=1:=by rw [d];omega
  omega
theorem Z5A (h:t=((2 ^ k * (2 * m + 1):Nat):Int)):Builtin.bitAnd t (-t)=((2 ^ k:Nat):Int):=by
 have hpos:0 < 2 ^ k * (2 * m + 1):=Nat.mul_pos (Qbg k) (by omega);have l:=Z0G k m;have e3:2 ^ k * (2 * m + 1)=2 ^ k * (2 * m) + 2 ^ k:=by rw [Nat.mul_add,Nat.mul_one]
 generalize 2 ^ k * (2 * m + 1)=T at *
 subst h;unfold Builtin.bitAnd;rw [Rz (show (0:Int) <= (T:Int) by omega),Ry (show ¬ (0:Int) <= -(T:Int) by omega)];have e1:(Builtin.bitNot (-(T:Int))).toNat=T - 1:=by unfold Builtin.bitNot;omega
 simp only [e1,Qat,l];omega
theorem Z4p (k:Nat):Builtin.Int.intBits ((2 ^ k:Nat):Int)=k + 1:=by
 have hp:=Qbg k;unfold Builtin.Int.intBits;have h0:¬ ((2 ^ k:Nat):Int)=0:=by omega
 have h1:(((2 ^ k:Nat):Int) == 0)=false:=by simpa using h0
 rw [h1];simp only [Qbb,RD,Int.natAbs_natCast,qL]
def bC (ins:Nat) (rows:Ab Row) (w:Int):Ab Int:=if w < (ins:Int) then [] else match rows[(w - (ins:Int)).toNat]? with | some r=>r.ws | none=>[]
theorem kP {ins:Nat}(h:w < (ins:Int)):bC ins rows w=[]:=if_pos h
theorem lT {ins:Nat}(h:(ins:Int) <= w) (e:rows[(w - (ins:Int)).toNat]? = some r):bC ins rows w=r.ws:=by
 unfold bC;rw [if_neg (by omega),e]
theorem iW (hr:RowsOk ins rows) {w b:Int}(hb:b ∈ bC ins rows w):0 <= b /\ b < w:=by
 by_cases h:w < (ins:Int)
 .rw [kP h] at hb;cases hb
 .cases e:rows[(w - (ins:Int)).toNat]? with
  | none=>unfold bC at hb;rw [if_neg h,e] at hb;cases hb
  | some r =>
   rw [lT (by omega) e] at hb;have:=(hr _ r e).ws b hb;omega
theorem hU:(bC ins rows w).length <= 2:=by
 unfold bC;split
 .simp
 .split
  .rename_i r _;cases r <;> simp [Row.ws]
  .simp
def mR (ks:Ab Int) (k:Int):Ab Int:=if k ∈ ks then ks else ks ++ [k]
theorem Z3G:a ∈ mR ks k ↔ a ∈ ks \/ a=k:=by
 unfold mR;split
 .rename_i h;exact⟨.inl,fun z=>z.elim id fun z=>z ▸ h⟩
 .simp
theorem X6 (h:ks.Nodup) (hk:k ∉ ks):(ks ++ [k]).Nodup:=by
 refine QaT.mpr ⟨h,by simp,fun a ha b hb z=>?_⟩;have:b=k:=by simpa using hb
 subst this;subst z;exact hk ha
theorem X7 (h:ks.Nodup):(mR ks k).Nodup:=by
 unfold mR;split
 .exact h
 .rename_i hk;exact X6 h hk
def fH (ks xs:Ab Int):Ab Int:=xs.foldl mR ks
theorem mem_addAll:∀ {xs ks:Ab Int}{a:Int},a ∈ fH ks xs ↔ a ∈ ks \/ a ∈ xs
 | [],ks,a=>by simp [fH]
 | x :: xs,ks,a=>by
  have ih:=mem_addAll (xs:=xs) (ks:=mR ks x) (a:=a);unfold fH at ih ⊢;rw [Qa8,ih,Z3G,Qaf,or_assoc]
theorem lN:∀ {xs ks:Ab Int},ks.Nodup->(fH ks xs).Nodup
 | [],ks,h=>h
 | x :: xs,ks,h=>by
  have ih:=lN (xs:=xs) (ks:=mR ks x) (X7 h);exact ih
theorem uH {xs ks:Ab Int}(h:xs[i]? = some a):fH ks (xs.take (i + 1))=mR (fH ks (xs.take i)) a:=by
 unfold fH;rw [cH h,List.foldl_append];rfl
theorem mT:∀ (N:Nat) (l:Ab Int),l.Nodup->(∀ a ∈ l,0 <= a /\ a < (N:Int))->l.length <= N
 | 0,[],_,_=>Qag _
 | 0,a :: l,_,h=>by have:=h a Qau;omega
 | N + 1,l,nd,h=>by
  have ih:=mT N (l.erase (N:Int)) (nd.erase _) (fun a ha=>by
   have h1:=(nd.mem_erase_iff).mp ha;have:=h a h1.2;have h2:a ≠ (N:Int):=h1.1;omega)
  rw [List.length_erase] at ih;split at ih <;> omega
structure NeedL (ins:Nat) (rows:List Row) (outs L:List Int):Prop where
 nd:L.Nodup
 out:∀ a ∈ outs,a ∈ L
 cl:∀ a ∈ L,∀ b ∈ bC ins rows a,b ∈ L
 least:∀ S:Int->Prop,(∀ a ∈ outs,S a)->(∀ a,S a->∀ b ∈ bC ins rows a,S b)->∀ a ∈ L,S a
abbrev Ho (ins:Nat) (rows:Ab Row) (outs:Ab Int):Prop:=∀ a ∈ outs,0 <= a /\ a < ((ins + rows.length:Nat):Int)
theorem NeedL.bound (h:NeedL ins rows outs L) (hr:RowsOk ins rows) (ho:Ho ins rows outs):∀ a ∈ L,0 <= a /\ a < ((ins + rows.length:Nat):Int) :=
 h.least _ ho fun a ha b hb=>by have:=iW hr hb;omega
theorem NeedL.len (h:NeedL ins rows outs L) (hr:RowsOk ins rows) (ho:Ho ins rows outs):L.length <= ins + rows.length:=mT _ _ h.nd (h.bound hr ho)
def fY (ins:Nat) (rows:Ab Row) (outs:Ab Int):Nat->Ab Int
 | 0=>fH [] outs
 | j + 1=>if (((ins + rows.length:Nat):Int) - 1 - (j:Int)) ∈ fY ins rows outs j then fH (fY ins rows outs j) (bC ins rows (((ins + rows.length:Nat):Int) - 1 - (j:Int))) else fY ins rows outs j
structure Z8V (ins:Nat) (rows:List Row) (outs:List Int) (j:Nat) (L:List Int):Prop where
 nd:L.Nodup
 out:∀ a ∈ outs,a ∈ L
 cl:∀ a ∈ L,((ins + rows.length:Nat):Int) - (j:Int) <= a->∀ b ∈ bC ins rows a,b ∈ L
 least:∀ S:Int->Prop,(∀ a ∈ outs,S a)->(∀ a,S a->∀ b ∈ bC ins rows a,S b)->∀ a ∈ L,S a
theorem Z0F (hr:RowsOk ins rows) (ho:Ho ins rows outs):∀ j,Z8V ins rows outs j (fY ins rows outs j)
 | 0=>by
  refine⟨lN QaQ,fun a ha=>mem_addAll.mpr (.inr ha),fun a ha h=>?_,fun S h1 _ a ha=>?_⟩
  .have:=ho a ((mem_addAll.mp ha).elim (fun z=>(by cases z)) id);omega
  .exact h1 a ((mem_addAll.mp ha).elim (fun z=>(by cases z)) id)
 | j + 1=>by
  have ih:=Z0F hr ho j;unfold fY;by_cases hw:(((ins + rows.length:Nat):Int) - 1 - (j:Int)) ∈ fY ins rows outs j
  .rw [if_pos hw];generalize hW:((ins + rows.length:Nat):Int) - 1 - (j:Int)=W at *
   refine⟨lN ih.nd,fun a ha=>mem_addAll.mpr (.inl (ih.out a ha)),fun a ha h b hb=>?_,fun S h1 h2 a ha=>?_⟩
   .rcases mem_addAll.mp ha with z | z
    .by_cases haw:a=W
     .subst haw;exact mem_addAll.mpr (.inr hb)
     .exact mem_addAll.mpr (.inl (ih.cl a z (by omega) b hb))
    .have:=iW hr z;omega
   .rcases mem_addAll.mp ha with z | z
    .exact ih.least S h1 h2 a z
    .exact h2 W (ih.least S h1 h2 W hw) a z
  .rw [if_neg hw];refine⟨ih.nd,ih.out,fun a ha h b hb=>?_,ih.least⟩;by_cases haw:a=((ins + rows.length:Nat):Int) - 1 - (j:Int)
   .rw [haw] at ha;exact absurd ha hw
   .exact ih.cl a ha (by omega) b hb
theorem qB (hr:RowsOk ins rows) (ho:Ho ins rows outs):NeedL ins rows outs (fY ins rows outs rows.length):=by
 have h:=Z0F hr ho rows.length;refine⟨h.nd,h.out,fun a ha b hb=>?_,h.least⟩;by_cases hi:a < (ins:Int)
 .rw [kP hi] at hb;cases hb
 .exact h.cl a ha (by omega) b hb
def mU (ins:Nat) (rows:Ab Row) (outs:Ab Int):Ab Int:=mE (fY ins rows outs rows.length)
theorem mem_needV:a ∈ mU ins rows outs ↔ a ∈ fY ins rows outs rows.length:=(gI _).mem_iff
theorem tS (hr:RowsOk ins rows) (ho:Ho ins rows outs):∀ a ∈ mU ins rows outs,0 <= a /\ a < ((ins + rows.length:Nat):Int) :=
 fun a ha=>(qB hr ho).bound hr ho a (mem_needV.mp ha)
theorem yY (hr:RowsOk ins rows) (ho:Ho ins rows outs):(mU ins rows outs).length <= ins + rows.length:=by
 have:=(gI (fY ins rows outs rows.length)).length_eq;unfold mU;rw [this];exact (qB hr ho).len hr ho
def cU (ins:Nat) (rows:Ab Row) (w:Int):Ab Int:=if w < (ins:Int) then [0,1] else match rows[(w - (ins:Int)).toNat]? with | some (.fix b)=>[1 - b] | _=>[0,1]
theorem gF:(cU ins rows w).length <= 2:=by
 unfold cU;split
 .simp
 .split <;> simp
theorem zU (hr:RowsOk ins rows) {w b:Int}(hb:b ∈ cU ins rows w):b=0 \/ b=1:=by
 unfold cU at hb;split at hb
 .simpa using hb
 .split at hb
  .rename_i c e;have:=hr _ _ e;have h2:b=1 - c:=by simpa using hb
   rcases (show c=0 \/ c=1 from this) with z | z <;> omega
  .simpa using hb
def bW (ins:Nat) (rows:Ab Row) (w:Int) (k:Nat):Ab Int->Ab Flt
 | []=>[]
 | a :: r=>(cU ins rows a).map (fun b=>Flt.leg w (k:Int) b) ++ bW ins rows w (k + 1) r
def cG (ins:Nat) (rows:Ab Row) (w:Int):Ab Flt:=(cU ins rows w).map (fun b=>Flt.wire w b) ++ bW ins rows w 0 (bC ins rows w)
def bI (ins:Nat) (rows:Ab Row) (outs:Ab Int):Ab Flt:=(mU ins rows outs).flatMap (cG ins rows)
theorem mX:∀ (l:Ab Int) (k:Nat) (a:Int),bW ins rows w k (l ++ [a])=bW ins rows w k l ++ (cU ins rows a).map (fun b=>Flt.leg w ((k + l.length:Nat):Int) b)
 | [],k,a=>by simp [bW]
 | x :: l,k,a=>by
  simp only [QbA,bW];rw [mX l (k + 1) a,QaK,Qal,show k + 1 + l.length=k + (l.length + 1) by omega]
theorem iD:∀ (l:Ab Int) (k:Nat),(bW ins rows w k l).length <= 2 * l.length
 | [],k=>by simp [bW]
 | x :: l,k=>by
  have h1:=iD (ins:=ins) (rows:=rows) (w:=w) l (k + 1);have h2:=gF (ins:=ins) (rows:=rows) (w:=x);simp only [bW,QaB,Qaa,Qal];omega
theorem vC:(cG ins rows w).length <= 6:=by
 have h1:=iD (ins:=ins) (rows:=rows) (w:=w) (bC ins rows w) 0;have h2:=gF (ins:=ins) (rows:=rows) (w:=w);have h3:=hU (ins:=ins) (rows:=rows) (w:=w);unfold cG;rw [QaB,Qaa];omega
theorem rC:∀ (l:Ab Int),(l.flatMap (cG ins rows)).length <= 6 * l.length
 | []=>by simp
 | a :: l=>by
  have h1:=rC (ins:=ins) (rows:=rows) l;have h2:=vC (ins:=ins) (rows:=rows) (w:=a);rw [List.flatMap_cons,QaB,Qal];omega
theorem gN (hr:RowsOk ins rows) (ho:Ho ins rows outs):(bI ins rows outs).length <= 6 * (ins + rows.length):=by
 have h1:=rC (ins:=ins) (rows:=rows) (mU ins rows outs);have h2:=yY hr ho;unfold bI;omega
theorem oJ:∀ {l:Ab Int}{k:Nat},f ∈ bW ins rows w k l->∃ j a b,l[j]? = some a /\ b ∈ cU ins rows a /\ f=.leg w ((k + j:Nat):Int) b
 | [],k,h=>by cases h
 | x :: l,k,h=>by
  simp only [bW] at h;rcases Qai.mp h with z | z
  .obtain⟨b,hb,rfl⟩:=QaM.mp z;exact⟨0,x,b,rfl,hb,rfl⟩
  .obtain⟨j,a,b,h1,h2,h3⟩:=oJ z;exact⟨j + 1,a,b,by simpa using h1,h2,by rw [h3];congr 2;omega⟩
theorem pK {ins:Nat}(hr:RowsOk ins rows):∀ f ∈ bI ins rows outs,FltOk ins rows f /\ f ≠ .none:=by
 intro f hf;obtain⟨w,_,hw⟩:=List.mem_flatMap.mp hf;unfold cG at hw;rcases Qai.mp hw with z | z
 .obtain⟨b,hb,rfl⟩:=QaM.mp z;have h1:=zU hr hb;exact⟨⟨fun w b e=>(by cases e;exact h1),fun w l b e=>(by cases e),fun w l b k r e=>(by cases e)⟩,fun z=>(by cases z)⟩
 .obtain⟨j,a,b,h1,h2,rfl⟩:=oJ z;have h3:=zU hr h2;refine⟨⟨fun w b e=>(by cases e),fun w l b e=>(by cases e;exact h3),fun w' l' b' k r e er ew=>?_⟩,fun z=>(by cases z)⟩;cases e;have hl:bC ins rows w=r.ws:=lT (by omega) (by rw [ew,show (((ins + k:Nat):Int) - (ins:Int)).toNat=k by omega];exact er);rw [hl] at h1;have:=(Qac.mp h1).1;omega
def dKT (ks:Ab Int):D:=.dk (ks.map Sum.inl) (ks.map fun _=>.bl true)
theorem inl_mem {ks:Ab Int}:(Sum.inl k:Key) ∈ ks.map Sum.inl ↔ k ∈ ks:=by
 constructor
 .intro h;obtain⟨a,ha,e⟩:=QaM.mp h;cases e;exact ha
 .intro h;exact QaM.mpr ⟨k,h,rfl⟩
theorem N3 {ks:Ab Int}:D4 (Sum.inl k:Key) (ks.map Sum.inl)=decide (k ∈ ks):=by
 by_cases h:k ∈ ks
 .rw [memK_iff.mpr (inl_mem.mpr h),Rz h]
 .rw [Ry h,Bool.eq_false_iff];exact fun z=>h (inl_mem.mp (memK_iff.mp z))
theorem Z3e:V3 (ks.map Sum.inl) (Sum.inl k:Key)=(mR ks k).map Sum.inl:=by
 unfold V3 mR;by_cases h:k ∈ ks
 .rw [if_pos (inl_mem.mpr h),if_pos h]
 .rw [if_neg (fun z=>h (inl_mem.mp z)),if_neg h,QaG];rfl
theorem pQ:∀ (ks:Ab Int),List.zipWith (fun (k':Key) (y:D)=>if k'=(Sum.inl k:Key) then D.bl true else y) (ks.map Sum.inl) (ks.map fun _=>D.bl true)=ks.map fun _=>D.bl true
 | []=>rfl
 | a :: ks=>by simp only [Qao,List.zipWith_cons_cons,pQ ks];split <;> rfl
theorem Z1v:wA (ks.map Sum.inl) (ks.map fun _=>D.bl true) (Sum.inl k:Key) (.bl true)=(mR ks k).map fun _=>D.bl true:=by
 unfold wA mR;by_cases h:k ∈ ks
 .rw [if_pos (inl_mem.mpr h),if_pos h];exact pQ ks
 .rw [if_neg (fun z=>h (inl_mem.mp z)),if_neg h,QaG];rfl
theorem Z5 (ks:Ab Int):flats (ks.map fun _=>D.bl true)=true:=kT fun d hd=>by
 obtain⟨_,_,rfl⟩:=QaM.mp hd;rfl
theorem vW (hv:fv env=some (.bl true)) (hi:env[i]? = some (some (true,dKT ks))) (hk:fk env=some (.int k)) (hl:ks.length < 1000) :
  vX i fk fv env=.next (env.set i (some (true,dKT (mR ks k)))):=by
 unfold vX dKT at *
 rw [hv,hi,hk];simp only [keyOf,Z5,PD.flat,Qaa,hl,and_self,RC,Z3e,Z1v]
theorem wS:∀ (ks:Ab Int),inD (.int k) (ks.map D.int)=some (decide (k ∈ ks))
 | []=>rfl
 | a :: ks=>by
  simp only [Qao,inD,eqN_int,wS ks];by_cases h:a=k
  .subst h;simp
  .have h':¬ k=a:=fun z=>h z.symm;simp [h,h']
theorem N6:inF (.int k) (LI ks)=some (decide (k ∈ ks)):=wS ks
theorem L6 (hs:src env=some ds) (I:Nat->En->Prop) (h0:I 0 (fz rs env))
  (st:∀ i d env,ds[i]? = some d->I i env->∃ env1 env2,t d env=some env1 /\ g env1=.next env2 /\ I (i + 1) env2):∃ env',eL rs src t g env=.next env' /\ I ds.length env':=by
 obtain⟨env',h1,h2⟩:=Z2b I (fun i d e hd hI=>let ⟨e1,e2,a,b,c⟩:=st i d e hd hI;⟨e1,e2,a,.inl b,c⟩) h0;exact⟨env',Z1p hs h1,h2⟩
theorem pP:∀ {xs ks:Ab Int},(fH ks xs).length <= ks.length + xs.length
 | [],ks=>by simp [fH]
 | x :: xs,ks=>by
  have ih:=pP (xs:=xs) (ks:=mR ks x);have h:(mR ks x).length <= ks.length + 1:=by unfold mR;split <;> simp
  have e:fH ks (x :: xs)=fH (mR ks x) xs:=rfl;rw [e,Qal];omega
theorem yZ (hr:RowsOk ins rows) (ho:Ho ins rows outs) (j:Nat):(fY ins rows outs j).length <= ins + rows.length :=
 mT _ _ (Z0F hr ho j).nd ((Z0F hr ho j).least _ ho fun a ha b hb=>by have:=iW hr hb;omega)
theorem Z2c {l:Ab Int}(h:l[i]? = some w):(l.take (i + 1)).flatMap (cG ins rows)=(l.take i).flatMap (cG ins rows) ++ cG ins rows w:=by
 rw [cH h,List.flatMap_append];simp
theorem mW {l:Ab Int}(h:l[i]? = some a):bW ins rows w 0 (l.take (i + 1))=bW ins rows w 0 (l.take i) ++ (cU ins rows a).map (fun b=>Flt.leg w (i:Int) b):=by
 have hi:i < l.length:=(Qac.mp h).1;rw [cH h,mX,Qav,Qa6,Nat.min_eq_left (by omega)]
theorem nF {rows:Ab Row}{k:Nat}(h:rows[k]? = some r) {a:Int}(e:a=(k:Int)):atI (rows.map Row.d) a=some r.d:=by
 subst e;exact fW (by simp [h])
theorem pL (h:env[i]? = some (some (true,d))) (hr:iA r env=some ds):iA (.inl i :: r) env=some (d :: ds):=by unfold iA;rw [h,hr]
theorem Z8 (h:f env=some d) (hr:iA r env=some ds):iA (.inr f :: r) env=some (d :: ds):=by unfold iA;rw [h,hr]
theorem Z2X (h:iA is env=some ds) (hl:ds.length <= 1000):L3 is env=.ret (.tup ds):=by unfold L3;rw [h];simp only [hl,RC]
def oO (f:Flt) (w:Int):Bool:=match f with | .wire w' _=>decide (w'=w) | _=>false
def bH (ins:Nat) (rows:Ab Row) (outs:Ab Int):D:=.tup [.int ins,.lst (rows.map Row.d),LI outs,LI (inT ins)]
theorem Z9d (h:(b - a).toNat=n) (h0:0 <= a) (h1:a <= 1000) (h2:0 <= b) (h3:b <= 1000):Q5 [.int a,.int b]=some ((List.range n).map fun (k:Nat)=>.int (a + (k:Int))):=by
 simp only [Q5];rw [if_pos ⟨by omega,by omega,by omega,by omega⟩,h]
theorem Z02 (h0:0 < j) (h1:j < 65536):dM i j:=by
 refine⟨h0,?_⟩;have:j.natAbs.log2 <= j.natAbs:=Nat.log2_le_self _;by_cases hz:j.natAbs=0
 .rw [hz];decide
 .have h2:j.natAbs < 2 ^ 16:=by omega
  have:=(Nat.log2_lt hz).mpr h2;omega
theorem Z0E (h:(l.length:Int) <= a):nth l a=0:=by
 unfold nth;rw [List.getD,Qaw (by omega)];rfl
theorem Z5u {l:Ab Int}{j:Nat}{x:Int}(P:Int->Prop) (h:∀ a ∈ l,P a) (hx:P x):∀ a ∈ l.set j x,P a:=fun a ha=>(List.mem_or_eq_of_mem_set ha).elim (h a) fun z=>z ▸ hx
def fQ (ins:Nat) (rows:Ab Row) (outs:Ab Int):Nat->Ab Int
 | 0=>outs
 | j + 1=>if (((ins + rows.length:Nat):Int) - 1 - (j:Int)) ∈ fQ ins rows outs j then fQ ins rows outs j ++ bC ins rows (((ins + rows.length:Nat):Int) - 1 - (j:Int)) else fQ ins rows outs j
structure Z8S (ins:Nat) (rows:List Row) (outs:List Int) (j:Nat) (L:List Int):Prop where
 out:∀ a ∈ outs,a ∈ L
 cl:∀ a ∈ L,((ins + rows.length:Nat):Int) - (j:Int) <= a->∀ b ∈ bC ins rows a,b ∈ L
 least:∀ S:Int->Prop,(∀ a ∈ outs,S a)->(∀ a,S a->∀ b ∈ bC ins rows a,S b)->∀ a ∈ L,S a
theorem Z6d (hr:RowsOk ins rows) (ho:Ho ins rows outs):∀ j,Z8S ins rows outs j (fQ ins rows outs j)
 | 0=>by
  refine⟨fun a ha=>ha,fun a ha h=>?_,fun S h1 _ a ha=>h1 a ha⟩;have:=ho a ha;omega
 | j + 1=>by
  have ih:=Z6d hr ho j;unfold fQ;by_cases hw:(((ins + rows.length:Nat):Int) - 1 - (j:Int)) ∈ fQ ins rows outs j
  .rw [if_pos hw];generalize hW:((ins + rows.length:Nat):Int) - 1 - (j:Int)=W at *
   refine⟨fun a ha=>Qar _ (ih.out a ha),fun a ha h b hb=>?_,fun S h1 h2 a ha=>?_⟩
   .rcases Qai.mp ha with z | z
    .by_cases haw:a=W
     .subst haw;exact Qam _ hb
     .exact Qar _ (ih.cl a z (by omega) b hb)
    .have:=iW hr z;omega
   .rcases Qai.mp ha with z | z
    .exact ih.least S h1 h2 a z
    .exact h2 W (ih.least S h1 h2 W hw) a z
  .rw [if_neg hw];refine⟨ih.out,fun a ha h b hb=>?_,ih.least⟩;by_cases haw:a=((ins + rows.length:Nat):Int) - 1 - (j:Int)
   .rw [haw] at ha;exact absurd ha hw
   .exact ih.cl a ha (by omega) b hb
theorem rP:∀ j,(fQ ins rows outs j).length <= outs.length + 2 * j
 | 0=>by simp [fQ]
 | j + 1=>by
  have ih:=rP (ins:=ins) (rows:=rows) (outs:=outs) j;have hl:=hU (ins:=ins) (rows:=rows) (w:=((ins + rows.length:Nat):Int) - 1 - (j:Int));unfold fQ;split
  .rw [QaB];omega
  .omega
theorem Z11 (hr:RowsOk ins rows) (ho:Ho ins rows outs) {a:Int}:a ∈ fQ ins rows outs (ins + rows.length) ↔ a ∈ mU ins rows outs:=by
 have h:=Z6d hr ho (ins + rows.length);have k:=qB hr ho;rw [mem_needV];constructor
 .exact h.least _ k.out k.cl a
 .refine k.least _ h.out (fun c hc b hb=>?_) a;by_cases hi:c < (ins:Int)
  .rw [kP hi] at hb;cases hb
  .exact h.cl c hc (by omega) b hb
def fM (n:Nat):Ab Int:=(List.range n).map fun (k:Nat)=>(k:Int)
theorem rangeI_mem:a ∈ fM n ↔ 0 <= a /\ a < (n:Int):=by
 unfold fM;constructor
 .intro h;obtain⟨k,hk,rfl⟩:=QaM.mp h;have:=Qa7.mp hk;omega
 .intro ⟨h1,h2⟩;exact QaM.mpr ⟨a.toNat,Qa7.mpr (by omega),by omega⟩
theorem xT (n:Nat):(fM n).Pairwise (· < ·):=by
 unfold fM;rw [List.pairwise_map];refine List.Pairwise.imp (fun h=>?_) List.pairwise_lt_range;omega
theorem X8 (hr:RowsOk ins rows) (ho:Ho ins rows outs) :
  (fM (ins + rows.length)).filter (fun a=>decide (a ∈ fQ ins rows outs (ins + rows.length)))=mU ins rows outs:=by
 have s1:((fM (ins + rows.length)).filter (fun a=>decide (a ∈ fQ ins rows outs (ins + rows.length)))).Pairwise (· < ·):=(xT _).filter _;have n1:((fM (ins + rows.length)).filter (fun a=>decide (a ∈ fQ ins rows outs (ins + rows.length)))).Nodup:=s1.imp fun h=>by omega
 have n2:(mU ins rows outs).Nodup:=(gI _).nodup_iff.mpr (qB hr ho).nd;refine gU ((List.perm_ext_iff_of_nodup n1 n2).mpr fun a=>?_) (s1.imp fun h=>by omega) (jR _);rw [QbM,RA,Z11 hr ho,rangeI_mem];exact⟨fun h=>h.2,fun h=>⟨tS hr ho a h,h⟩⟩
theorem pV:tab n b=0 ↔ ∀ g,g < n->b g=false:=by
 constructor
 .intro h g hg;have h1:=cC n b g;have h2:tabN n b=0:=by unfold tab at h;omega
  rw [h2] at h1;simpa [hg] using h1.symm
 .intro h;rw [show tab n b=tab n (fun _=>false) from cQ fun g hg=>h g hg]
  unfold tab;rw [nI];rfl
theorem Z4G:tab n a=tab n b ↔ ∀ g,g < n->a g=b g:=by
 constructor
 .intro h g hg;have h1:=cC n a g;have h2:=cC n b g;have h3:tabN n a=tabN n b:=by unfold tab at h;omega
  rw [h3,h2] at h1;simpa [hg] using h1.symm
 .exact cQ
theorem Z5m (hx:IsT n x) (hy:IsT n y):Builtin.bitOr x y=0 ↔ x=0 /\ y=0:=by
 obtain⟨a,rfl⟩:=hx;obtain⟨b,rfl⟩:=hy;rw [vH,pV,pV,pV];constructor
 .intro h;exact⟨fun g hg=>by have:=h g hg;simp at this;exact this.1,fun g hg=>by have:=h g hg;simp at this;exact this.2⟩
 .intro ⟨h1,h2⟩ g hg;simp [h1 g hg,h2 g hg]
theorem Z2t (hx:IsT n x) (hy:IsT n y):Builtin.bitXor x y=0 ↔ x=y:=by
 obtain⟨a,rfl⟩:=hx;obtain⟨b,rfl⟩:=hy;rw [nH,pV,Z4G];constructor
 .intro h g hg;have:=h g hg;cases ha:a g <;> cases hb:b g <;> simp_all
 .intro h g hg;rw [h g hg];simp
theorem zP (hA:∀ a,IsT n (nth A a)) (hB:∀ a,IsT n (nth B a)):∀ (outs:Ab Int) (x:Int),IsT n x->(outs.foldl (fun acc a=>Builtin.bitOr acc (Builtin.bitXor (nth A a) (nth B a))) x=0 ↔ x=0 /\ ∀ a ∈ outs,nth A a=nth B a)
 | [],x,h=>by simp
 | a :: outs,x,h=>by
  rw [Qa8,zP hA hB outs _ (h.or ((hA a).xor (hB a))),Z5m h ((hA a).xor (hB a)),Z2t (hA a) (hB a)];simp only [Qaf,forall_eq_or_imp,and_assoc]
theorem oP (hA:∀ a,IsT n (nth A a)) (hB:∀ a,IsT n (nth B a)) (outs:Ab Int):jP A B outs=0 ↔ outs.map (nth B)=outs.map (nth A):=by
 unfold jP;rw [zP hA hB outs 0 (mY n)];constructor
 .intro ⟨_,h⟩;exact Qbe fun a ha=>(h a ha).symm
 .intro h;refine⟨rfl,fun a ha=>?_⟩;have:=List.map_inj_left.mp h a ha;exact this.symm
theorem P2 (n:Nat):∀ (xs ys:Ab Int),xs.length=ys.length->eqL (eqN (n + 1)) (xs.map D.int) (ys.map D.int)=some (decide (xs=ys))
 | [],[],_=>by simp [eqL_nil]
 | [],_ :: _,h=>by cases h
 | _ :: _,[],h=>by cases h
 | x :: xs,y :: ys,h=>by
  have ih:=P2 n xs ys (by simpa using h);simp only [Qao,eqL_cons,eqN_int,ih];by_cases h1:x=y
  .by_cases h2:xs=ys
   .simp [h1,h2]
   .simp [h1,h2]
  .simp [h1]
theorem Z7w (h:xs.length=ys.length):eqN (n + 2) (LI xs) (LI ys)=some (decide (xs=ys)):=by
 unfold LI;rw [F3,if_pos (by simpa using h)];exact P2 n xs ys h
theorem I0 (φ ψ:α->D):∀ (xs:Ab α),oC (xs.map φ) (xs.map ψ)=xs.map fun x=>.tup [φ x,ψ x]
 | []=>rfl
 | x :: xs=>by simp only [Qao,oC];rw [I0 φ ψ xs]
def pgN (n:Nat) (ts:Ab Nat):Nat:=ts.foldl (fun p t=>2 ^ n * p + t) 0
theorem jF (n:Nat) (ts:Ab Nat) (t:Nat):pgN n (ts ++ [t])=2 ^ n * pgN n ts + t:=by unfold pgN;rw [List.foldl_append];rfl
theorem J9 {α:Type}{P:Ab α->Prop}(h0:P []) (h1:∀ l x,P l->P (l ++ [x])) (l:Ab α):P l:=by
 have:∀ r:Ab α,P r.reverse:=fun r=>by
  induction r with
  | nil=>exact h0
  | cons x r ih=>rw [List.reverse_cons];exact h1 _ _ ih
 have:=this l.reverse
 rwa [List.reverse_reverse] at this
theorem Z0k:∀ {l:Ab α}{k:Nat},l.length=k + 1->∃ r x,l=r ++ [x] /\ r.length=k:=fun {l k} h=>by
 have hne:l ≠ []:=fun e=>by rw [e] at h;cases h
 exact⟨l.dropLast,l.getLast hne,(List.dropLast_concat_getLast hne).symm,by rw [List.length_dropLast];omega⟩
theorem Z76 {n:Nat}(ts:Ab Nat):(∀ t ∈ ts,t < 2 ^ n)->pgN n ts < 2 ^ (n * ts.length):=by
 refine J9 (P:=fun ts=>(∀ t ∈ ts,t < 2 ^ n)->pgN n ts < 2 ^ (n * ts.length)) (fun _=>by simp [pgN]) (fun l x ih h=>?_) ts;have h1:=ih fun t ht=>h t (Qar _ ht);have h2:=h x (by simp);rw [jF,QaB,show n * (l.length + [x].length)=n + n * l.length by simp [Nat.mul_add,Nat.add_comm],Nat.pow_add]
 calc 2 ^ n * pgN n l + x < 2 ^ n * pgN n l + 2 ^ n:=by omega
  _=2 ^ n * (pgN n l + 1):=by rw [Nat.mul_add,Nat.mul_one]
  _ <= 2 ^ n * 2 ^ (n * l.length):=Nat.mul_le_mul_left _ h1
theorem Z0C:∀ (k:Nat) (ts us:Ab Nat),ts.length=k->us.length=k->(∀ t ∈ ts,t < 2 ^ n)->(∀ t ∈ us,t < 2 ^ n)->pgN n ts=pgN n us->ts=us
 | 0,ts,us,h1,h2,_,_,_=>by rw [Qa9 h1,Qa9 h2]
 | k + 1,ts,us,h1,h2,h3,h4,h=>by
  obtain⟨r,x,rfl,hr⟩:=Z0k h1;obtain⟨q,y,rfl,hq⟩:=Z0k h2;rw [jF,jF] at h;have hx:=h3 x (by simp);have hy:=h4 y (by simp);have e1:x=y:=by
   have:=congrArg (· % 2 ^ n) h;simp only [Nat.mul_add_mod,Nat.mod_eq_of_lt hx,Nat.mod_eq_of_lt hy] at this;exact this
  subst e1;have e2:pgN n r=pgN n q:=Nat.eq_of_mul_eq_mul_left (Qbg n) (Nat.add_right_cancel h);rw [Z0C k r q hr hq (fun t ht=>h3 t (Qar _ ht)) (fun t ht=>h4 t (Qar _ ht)) e2]
theorem Z5k {n m:Nat}(hm:m < 2 ^ n) (ts:Ab Nat):(∀ t ∈ ts,t < 2 ^ n)->pgN n ts &&& pgN n (List.replicate ts.length m)=pgN n (ts.map (· &&& m)):=by
 refine J9 (P:=fun ts=>(∀ t ∈ ts,t < 2 ^ n)->pgN n ts &&& pgN n (List.replicate ts.length m)=pgN n (ts.map (· &&& m))) (fun _=>by simp [pgN]) (fun l x ih h=>?_) ts;have h1:=ih fun t ht=>h t (Qar _ ht);have h2:=h x (by simp);rw [QaB,QaG,show List.replicate (l.length + [x].length) m=List.replicate l.length m ++ [m] by rw [List.length_singleton,List.replicate_succ'],jF,jF,List.map_singleton,jF,<- h1];apply Nat.eq_of_testBit_eq;intro j;rw [QbB,Nat.testBit_two_pow_mul_add _ h2,Nat.testBit_two_pow_mul_add _ hm,Nat.testBit_two_pow_mul_add _ (Qbr Nat.and_le_left h2)];split
 .rw [QbB]
 .rw [QbB]
def pgV (n:Nat) (ts:Ab Int):Int:=(pgN n (ts.map Int.toNat):Nat)
theorem qT (h:IsT n t):t=(t.toNat:Int) /\ t.toNat < 2 ^ n:=by
 obtain⟨b,rfl⟩:=h;exact⟨rfl,fT n b⟩
theorem qS {n:Nat}{ts:Ab Int}(h:∀ t ∈ ts,IsT n t):∀ t ∈ ts.map Int.toNat,t < 2 ^ n:=fun t ht=>by
 obtain⟨x,hx,rfl⟩:=QaM.mp ht;exact (qT (h x hx)).2
theorem Z3j (ht:IsT n t):Builtin.bitOr (pgV n ts * 2 ^ n) t=pgV n (ts ++ [t]):=by
 obtain⟨e,hl⟩:=qT ht;unfold pgV;rw [QaG,List.map_singleton,jF,Nat.two_pow_add_eq_or_of_lt hl]
 conv=>lhs;rw [e]
 rw [show ((pgN n (ts.map Int.toNat):Nat):Int) * 2 ^ n=((2 ^ n * pgN n (ts.map Int.toNat):Nat):Int) by rw [Nat.mul_comm];simp,G2]
theorem Z0B (hl:ts.length=us.length) (h1:∀ t ∈ ts,IsT n t) (h2:∀ t ∈ us,IsT n t) (h:pgV n ts=pgV n us):ts=us:=by
 have e:=Z0C us.length (ts.map Int.toNat) (us.map Int.toNat) (by rw [Qaa,hl]) (by rw [Qaa]) (qS h1) (qS h2) (by unfold pgV at h;exact Int.ofNat.inj h);have back:∀ l:Ab Int,(∀ t ∈ l,IsT n t)->l=(l.map Int.toNat).map fun (k:Nat)=>(k:Int):=fun l hl=>by
  rw [QaW]
  conv=>lhs;rw [<- List.map_id l]
  exact Qbe fun t ht=>(qT (hl t ht)).1
 rw [back ts h1,back us h2,e]
theorem Z5j (hm:IsT n m) (h:∀ t ∈ ts,IsT n t):Builtin.bitAnd (pgV n ts) (pgV n (List.replicate ts.length m))=pgV n (ts.map fun t=>Builtin.bitAnd t m):=by
 obtain⟨e,hl⟩:=qT hm;unfold pgV;rw [rN];congr 1;have:=Z5k hl (ts.map Int.toNat) (qS h);rw [Qaa] at this;rw [List.map_replicate,this,QaW,QaW];congr 1;refine Qbe fun t ht=>?_;obtain⟨e1,_⟩:=qT (h t ht);show t.toNat &&& m.toNat=(Builtin.bitAnd t m).toNat
 conv=>rhs;rw [e1,e]
 rw [rN,Qat]
theorem Z3k {n:Nat}{ts:Ab Int}(h:∀ t ∈ ts,IsT n t):Builtin.Int.intBits (pgV n ts) <= n * ts.length:=by
 refine PyProof.Rows.intBits_le ?_;unfold pgV;rw [Int.natAbs_natCast];have:=Z76 _ (qS h)
 rwa [Qaa] at this
def pO {α:Type}[DecidableEq α] (vs:Ab α) (k:α):Ab α:=if k ∈ vs then vs else vs ++ [k]
def F6 {α:Type}[DecidableEq α] (ks:Ab α):Ab α:=ks.foldl pO []
section
variable {α:Type}[DecidableEq α]
theorem tH:∀ (ns vs:Ab α),(∀ x,x ∈ ns.foldl pO vs ↔ x ∈ vs \/ x ∈ ns) /\ (vs.Nodup->(ns.foldl pO vs).Nodup) /\ (ns.foldl pO vs).length <= vs.length + ns.length
 | [],vs=>⟨fun x=>by simp,id,Qag _⟩
 | n :: ns,vs=>by
  obtain⟨b,c,d⟩:=tH ns (pO vs n);refine⟨fun x=>?_,fun h=>c ?_,?_⟩
  .rw [Qa8,b,Qaf,<- or_assoc];refine or_congr ?_ Iff.rfl;unfold pO;split
   .exact⟨.inl,fun h=>h.elim id fun e=>e ▸ ‹_›⟩
   .rw [Qai,QaF]
  .unfold pO;split
   .exact h
   .exact QaT.mpr ⟨h,QbK _ _,fun a ha b hb=>by rw [QaF.mp hb];rintro rfl;exact absurd ha ‹_›⟩
  .rw [Qa8,Qal];have:(pO vs n).length <= vs.length + 1:=by unfold pO;split <;> simp
   omega
theorem rH (ks:Ab α) (x:α):x ∈ F6 ks ↔ x ∈ ks:=by rw [F6,(tH ks []).1];simp
theorem Z00 (ks:Ab α):(F6 ks).Nodup:=(tH ks []).2.1 QaQ
theorem Z0U:∀ (ks vs:Ab α),(∀ x ∈ vs ++ ks,∀ y ∈ vs ++ ks,f x=f y->x=y)->(ks.map f).foldl TS.addI (vs.map f)=(ks.foldl pO vs).map f
 | [],vs,h=>rfl
 | k :: ks,vs,h=>by
  rw [Qao,Qa8,Qa8];have e:TS.addI (vs.map f) (f k)=(pO vs k).map f:=by
   unfold TS.addI pO;by_cases hk:k ∈ vs
   .rw [if_pos hk,if_pos (Qbx hk)]
   .rw [if_neg hk,if_neg fun z=>by
     obtain⟨x,hx,ex⟩:=QaM.mp z;exact hk (h x (Qar _ hx) k (by simp) ex ▸ hx),QaG];rfl
  rw [e];refine Z0U ks (pO vs k) fun x hx y hy=>h x ?_ y ?_
  .rcases Qai.mp hx with z | z
   .unfold pO at z;split at z
    .exact Qar _ z
    .rcases Qai.mp z with z | z
     .exact Qar _ z
     .rw [QaF.mp z];simp
   .exact Qam _ (Qae _ z)
  .rcases Qai.mp hy with z | z
   .unfold pO at z;split at z
    .exact Qar _ z
    .rcases Qai.mp z with z | z
     .exact Qar _ z
     .rw [QaF.mp z];simp
   .exact Qam _ (Qae _ z)
end
theorem wF:∀ (l2 l1:Ab Int),l2.Nodup->(∀ x ∈ l2,x ∈ l1)->l1.length <= l2.length->l1.Perm l2
 | [],l1,_,_,h=>by rw [Qa9 (Nat.le_zero.mp h)]
 | x :: l2,l1,nd,sub,h=>by
  have hx:=sub x (by simp);obtain⟨n1,n2⟩:=QaO.mp nd;refine (List.perm_cons_erase hx).trans (List.Perm.cons x (wF l2 _ n2 (fun y hy=>?_) ?_))
  .exact (List.mem_erase_of_ne (fun e:y=x=>n1 (by rw [<- e];exact hy))).mpr (sub y (Qae _ hy))
  .rw [List.length_erase_of_mem hx];simp only [Qal] at h;omega
theorem Z66:(TS.dedI l).length=l.length ↔ l.Nodup:=by
 constructor
 .intro h;exact (wF _ l (TS.dedI_nodup l) (fun x hx=>(TS.dedI_mem l x).mp hx) (by omega)).nodup_iff.mpr (TS.dedI_nodup l)
 .intro h;have:=wF l (TS.dedI l) h (fun x hx=>(TS.dedI_mem l x).mpr hx) (TS.dedI_len l);exact this.length_eq
theorem oI:∀ {l:Ab α},(∀ x ∈ l,∀ y ∈ l,f x=f y ↔ g x=g y)->((l.map f).Nodup ↔ (l.map g).Nodup)
 | [],_=>by simp
 | a :: l,h=>by
  rw [Qao,Qao,QaO,QaO];refine and_congr (not_congr ?_) (oI fun x hx y hy=>h x (Qae _ hx) y (Qae _ hy));rw [QaM,QaM];exact exists_congr fun x=>and_congr_right fun hx=>h x (Qae _ hx) a (by simp)
def wK (m:Int) (ts:Ab Int):Ab Int:=ts.map fun t=>Builtin.bitAnd t m
def yT (m:Int) (ks:Ab (Ab Int)):Bool:=decide (((F6 ks).map (wK m)).Nodup)
theorem V9 (hm:IsT n m) (hk:∀ ts ∈ ks,ts.length=k /\ ∀ t ∈ ts,IsT n t) :
  (TS.dedI ((mE (TS.dedI (ks.map (pgV n)))).map fun p=>Builtin.bitAnd p (pgV n (List.replicate k m)))).length=(mE (TS.dedI (ks.map (pgV n)))).length ↔ yT m ks=true:=by
 have e1:TS.dedI (ks.map (pgV n))=(F6 ks).map (pgV n):=Z0U ks [] fun x hx y hy e=>by
  rw [QbL] at hx hy;obtain⟨a1,a2⟩:=hk x hx;obtain⟨b1,b2⟩:=hk y hy;exact Z0B (a1.trans b1.symm) a2 b2 e
 have hk':∀ ts ∈ F6 ks,ts.length=k /\ ∀ t ∈ ts,IsT n t:=fun ts h=>hk ts ((rH ks ts).mp h);have e2:=fun l:Ab Int=>(Z66 (l:=l.map fun p=>Builtin.bitAnd p (pgV n (List.replicate k m))));have e3:=e2 (mE (TS.dedI (ks.map (pgV n))));rw [Qaa] at e3;rw [e3,((gI _).map _).nodup_iff,e1,QaW];unfold yT;rw [RA];refine oI fun x hx y hy=>?_;obtain⟨a1,a2⟩:=hk' x hx;obtain⟨b1,b2⟩:=hk' y hy;have f1:∀ z,z.length=k->(∀ t ∈ z,IsT n t)->Builtin.bitAnd (pgV n z) (pgV n (List.replicate k m))=pgV n (wK m z):=fun z h1 h2=>by rw [<- h1];exact Z5j hm h2
 have f2:∀ z:Ab Int,(∀ t ∈ z,IsT n t)->∀ t ∈ wK m z,IsT n t:=fun z hz t ht=>by
  obtain⟨u,hu,rfl⟩:=QaM.mp ht;exact (hz u hu).and hm
 simp only [Function.comp_apply];rw [f1 x a1 a2,f1 y b1 b2];exact⟨fun e=>Z0B (by unfold wK;rw [Qaa,Qaa,a1,b1]) (f2 x a2) (f2 y b2) e,fun e=>by rw [e]⟩
theorem Z3o (hk:∀ ts ∈ ks,∀ t ∈ ts,IsT n t):yT (tab n fun _=>true) ks=true:=by
 unfold yT;rw [RA];have:(F6 ks).map (wK (tab n fun _=>true))=(F6 ks).map id:=Qbe fun ts h=>by
  show wK _ ts=ts;unfold wK
  conv=>rhs;rw [<- List.map_id ts]
  refine Qbe fun t ht=>?_;obtain⟨b,rfl⟩:=hk ts ((rH ks ts).mp h) t ht;rw [pW];exact cQ fun g _=>by simp
 rw [this,List.map_id];exact Z00 ks
def top (i:Nat):Stmt:=PySem.Challenge.pw_stuckwire_k55_whole_book.main.body.getD i (.Pass ⟨0,0,0,0⟩)
abbrev lE:Stmt:=top 11
abbrev mI:Stmt:=top 10
abbrev lD:Stmt:=top 9
abbrev rV:Stmt:=top 8
abbrev B7:Stmt:=top 7
abbrev lF:Stmt:=top 5
abbrev jD:Stmt:=top 6
abbrev fI:Stmt:=top 2
abbrev sH:Stmt:=top 4
abbrev cA:Stmt:=top 3
abbrev lC:Stmt:=top 15
abbrev vP:Stmt:=top 13
abbrev iM:Stmt:=top 16
abbrev lG:Stmt:=top 14
abbrev mN:Stmt:=top 18
abbrev oU:Stmt:=top 17
abbrev jY:Stmt:=top 19
abbrev mM:Stmt:=top 21
abbrev jB:Stmt:=top 31
abbrev mH:Stmt:=top 32
abbrev U8:Stmt:=top 22
abbrev sG:Stmt:=top 25
abbrev dZ:Stmt:=top 24
abbrev gQ:Stmt:=top 27
abbrev B4:Stmt:=top 26
abbrev rT:Stmt:=top 28
abbrev oV:Stmt:=top 30
abbrev dN:Stmt:=top 29
abbrev V0:Stmt:=top 34
abbrev rX:Stmt:=top 36
abbrev U9:Stmt:=top 37
abbrev rZ:Stmt:=top 38
abbrev sC:Stmt:=top 39
abbrev vS:Stmt:=top 40
abbrev vT:Stmt:=top 41
abbrev sB:Stmt:=top 43
abbrev sE:Stmt:=top 42
abbrev B6:Stmt:=top 44
abbrev jZ:Stmt:=top 45
abbrev rW:Stmt:=top 46
abbrev jC:Stmt:=top 47
abbrev B5:Stmt:=top 49
abbrev mK:Stmt:=top 50
abbrev oX:Stmt:=top 51
abbrev oY:Stmt:=top 52
abbrev mL:Stmt:=top 53
abbrev vU:Stmt:=top 54
abbrev sA:Stmt:=top 55
abbrev sD:Stmt:=top 56
abbrev vR:Stmt:=top 57
abbrev oW:Stmt:=top 58
abbrev rY:Stmt:=top 59
abbrev mJ:Stmt:=top 60
abbrev mB:Stmt:=top 61
abbrev cI:Stmt:=Z5P (top 1) 0
def hG (C:Af):Ab D->Aa D:=fun ds=>match ds with
 | [i,r,o]=>match (aY (aA 1)) [none,some (false,i),some (false,r),some (false,o)],(bL [] (cM (aA 2)) fTT (fB1 G5 (aC (aA 0) aH))) [none,some (false,i),some (false,r),some (false,o)],(fB1 gY (aC (aA 3) aH)) [none,some (false,i),some (false,r),some (false,o)] with
  | some a,some b,some c=>some (.obj C ["ins","rows","outs"] [a,b,c])
  | _,_,_=>none
 | _=>none
def iT (C:Af):En->Res :=
  (aR (bP 3 (aY (fIx (aA 0) (fC (.int 0)))))
  (aR (rIf (fEq (aA 3) (fC (.str "fix"))) (bF (fI2 IntMulOk (fun i j=>.int (i * j)) (aA 2) (fIx (aA 0) (fC (.int 1))))) bQ)
  (aR (rIf (fEq (aA 3) (fC (.str "not"))) (bF (fI0 (fun i j=>.int (Builtin.bitXor i j)) (aA 2) (fIx (aA 1) (fC (.int 0))))) bQ)
  (aR (rIf (fEq (aA 3) (fC (.str "and"))) (bF (fI0 (fun i j=>.int (Builtin.bitAnd i j)) (fIx (aA 1) (fC (.int 0))) (fIx (aA 1) (fC (.int 1))))) bQ)
  (aR (rIf (fEq (aA 3) (fC (.str "or"))) (bF (fI0 (fun i j=>.int (Builtin.bitOr i j)) (fIx (aA 1) (fC (.int 0))) (fIx (aA 1) (fC (.int 1))))) bQ)
  (bF (fI0 (fun i j=>.int (Builtin.bitXor i j)) (fIx (aA 1) (fC (.int 0))) (fIx (aA 1) (fC (.int 1))))))))))
def eG (C:Af):Ab D->Aa D:=runF 4 (iT C)
def jX (C:Af):En->Res :=
  (aR (rIf (fEq (fIx (aA 0) (fC (.int 0))) (fC (.str "fix"))) (bF (gE aH)) bQ)
  (bF (fB1 gY (aC (fSl (aA 0) (fP (fC (.int 1))) tI) aH))))
def dJ (C:Af):Ab D->Aa D:=runF 1 (jX C)
def gX (C:Af):En->Res :=
  (aR (bP 5 (bL [2] (cM (aJ (dJ C) [] (aC (aA 0) aH))) fTT (aY (fIx (aA 1) (aA 0)))))
  (aR (rIf (kE (jO true (aA 4)) (kE (fEq (fIx (aA 4) (fC (.int 0))) (fC (.str "leg"))) (fEq (fIx (aA 4) (fC (.int 1))) (aA 1)))) (L4 5 (fIx (aA 4) (fC (.int 2))) (fI2 IntMulOk (fun i j=>.int (i * j)) (aA 3) (fIx (aA 4) (fC (.int 3))))) bQ)
  (iP 5)))
def dH (C:Af):Ab D->Aa D:=runF 6 (gX C)
def kR (C:Af):En->Res :=
  (aR (rIf (kE (jO true (aA 3)) (kE (fEq (fIx (aA 3) (fC (.int 0))) (fC (.str "wire"))) (fEq (fIx (aA 3) (fC (.int 1))) (aA 1)))) (bF (fI2 IntMulOk (fun i j=>.int (i * j)) (aA 2) (fIx (aA 3) (fC (.int 2))))) bQ)
  (bF (aY (aA 0))))
def fK (C:Af):Ab D->Aa D:=runF 4 (kR C)
def Z0O (C:Af):En->Res :=
  (aR (bP 4 (gE aH))
  (aR (eL [1] (cM (aA 1)) (gtN 5) (iG 4 (aJ (fK C) [] (aC (aA 5) (aC (fB1 bK (aC (aA 4) aH)) (aC (aA 2) (aC (aA 3) aH)))))))
  (aR (eL [0] (cM (gO C "rows" (aA 0))) (gtN 6) (aR (bP 7 (fB1 bK (aC (aA 4) aH)))
  (aR (bP 8 (aJ (dH C) [] (aC (aA 6) (aC (aA 7) (aC (aA 4) (aC (aA 2) (aC (aA 3) aH)))))))
  (iG 4 (aJ (fK C) [] (aC (aJ (eG C) [] (aC (aA 6) (aC (aA 8) (aC (aA 2) aH)))) (aC (aA 7) (aC (aA 2) (aC (aA 3) aH)))))))))
  (iP 4))))
def uW (C:Af):Ab D->Aa D:=runF 9 (Z0O C)
def qZ (C:Af):En->Res :=
  (bF (fI0 (fun i j=>.int (i - j)) (fI2 dO (fun i j=>.int (i * 2 ^ j.toNat)) (fC (.int 1)) (fI2 dO (fun i j=>.int (i * 2 ^ j.toNat)) (fC (.int 1)) (aA 0))) (fC (.int 1))))
def cW (C:Af):Ab D->Aa D:=runF 1 (qZ C)
def nC (C:Af):En->Res :=
  (aR (bP 1 (gE aH))
  (aR (eL [] (sB1 eJ (aC (aA 0) aH)) (gtN 2) (aR (bP 3 (fI2 dO (fun i j=>.int (i * 2 ^ j.toNat)) (fC (.int 1)) (aA 2)))
  (aR (bP 1 (bL [3] (cM (aA 1)) fTT (fI0 (fun i j=>.int (Builtin.bitOr i j)) (aA 0) (fI2 dO (fun i j=>.int (i * 2 ^ j.toNat)) (aA 0) (aA 1)))))
  (iG 1 (fI2 dO (fun i j=>.int (i * 2 ^ j.toNat)) (aJ (cW C) [] (aC (aA 2) aH)) (aA 3))))))
  (iP 1)))
def gW (C:Af):Ab D->Aa D:=runF 4 (nC C)
def Z45 (C:Af):En->Res :=
  (bF (aJ (uW C) [] (aC (aA 0) (aC (aJ (gW C) [] (aC (gO C "ins" (aA 0)) aH)) (aC (aJ (cW C) [] (aC (gO C "ins" (aA 0)) aH)) (aC (aA 1) aH))))))
def jH (C:Af):Ab D->Aa D:=runF 2 (Z45 C)
def Z29 (C:Af):En->Res :=
  (bF (bL [1] (cM (gO C "outs" (aA 0))) fTT (aY (fIx (aA 1) (aA 0)))))
def nW (C:Af):Ab D->Aa D:=runF 2 (Z29 C)
def E7 (C:Af):En->Res :=
  (bF (aJ (nW C) [] (aC (aA 0) (aC (aJ (jH C) [] (aC (aA 0) (aC (aA 1) aH))) aH))))
def bD (C:Af):Ab D->Aa D:=runF 2 (E7 C)
def lU (C:Af):En->Res :=
  (aR (rIf (fBI (fun i j=>decide (i < j)) (aA 1) (gO C "ins" (aA 0))) (bF (gE aH)) bQ)
  (bF (aJ (dJ C) [] (aC (fIx (gO C "rows" (aA 0)) (fI0 (fun i j=>.int (i - j)) (aA 1) (gO C "ins" (aA 0)))) aH))))
def cV (C:Af):Ab D->Aa D:=runF 2 (lU C)
def N8 (C:Af):En->Res :=
  (aR (bP 1 (fC (.dk [] [])))
  (aR (eL [0] (cM (gO C "outs" (aA 0))) (gtN 2) (vX 1 (aA 2) (fC (.bl true))))
  (aR (eL [] (sB1 Q4 (aC (fI0 (fun i j=>.int (i - j)) (fI0 (fun i j=>.int (i + j)) (gO C "ins" (aA 0)) (fB1 bK (aC (gO C "rows" (aA 0)) aH))) (fC (.int 1))) (aC (fI0 (fun i j=>.int (i - j)) (gO C "ins" (aA 0)) (fC (.int 1))) (aC (fC (.int (-1))) aH)))) (gtN 3) (rIf (Z9 (aA 3) (aA 1)) (eL [] (cM (aJ (cV C) [] (aC (aA 0) (aC (aA 3) aH)))) (gtN 4) (vX 1 (aA 4) (fC (.bl true)))) bQ))
  (bF (fB1 G6 (aC (aA 1) aH))))))
def qF (C:Af):Ab D->Aa D:=runF 5 (N8 C)
def iN (C:Af):En->Res :=
  (aR (rIf (kE (fBI (fun i j=>decide (j <= i)) (aA 1) (gO C "ins" (aA 0))) (fEq (fIx (fIx (gO C "rows" (aA 0)) (fI0 (fun i j=>.int (i - j)) (aA 1) (gO C "ins" (aA 0)))) (fC (.int 0))) (fC (.str "fix")))) (bF (gE (aC (fI0 (fun i j=>.int (i - j)) (fC (.int 1)) (fIx (fIx (gO C "rows" (aA 0)) (fI0 (fun i j=>.int (i - j)) (aA 1) (gO C "ins" (aA 0)))) (fC (.int 1)))) aH))) bQ)
  (bF (gE (aC (fC (.int 0)) (aC (fC (.int 1)) aH)))))
def bJ (C:Af):Ab D->Aa D:=runF 2 (iN C)
def rA (C:Af):En->Res :=
  (aR (bP 1 (gE aH))
  (aR (eL [] (cM (aJ (qF C) [] (aC (aA 0) aH))) (gtN 2) (aR (eL [] (cM (aJ (bJ C) [] (aC (aA 0) (aC (aA 2) aH)))) (gtN 3) (iG 1 (iK (aC (fC (.str "wire")) (aC (aY (aA 2)) (aC (aY (aA 3)) aH))))))
  (eL [] (sB1 A1 (aC (aJ (cV C) [] (aC (aA 0) (aC (aA 2) aH))) aH)) (gtT [4,5]) (eL [] (cM (aJ (bJ C) [] (aC (aA 0) (aC (aA 5) aH)))) (gtN 3) (iG 1 (iK (aC (fC (.str "leg")) (aC (aY (aA 2)) (aC (aY (aA 4)) (aC (aY (aA 3)) aH))))))))))
  (iP 1)))
def fG (C:Af):Ab D->Aa D:=runF 6 (rA C)
def uD (C:Af):En->Res :=
  (aR (bP 2 (fC (.int 0)))
  (aR (eL [0,1] (sB1 Z2q (aC (aA 0) (aC (aA 1) aH))) (gtT [3,4]) (bP 2 (fI0 (fun i j=>.int (Builtin.bitOr i j)) (aA 2) (fI0 (fun i j=>.int (Builtin.bitXor i j)) (aA 3) (aA 4)))))
  (bF (aY (aA 2)))))
def gL (C:Af):Ab D->Aa D:=runF 5 (uD C)
def wV (C:Af):En->Res :=
  (aR (bP 2 (aJ (bD C) [.non] (aC (aA 0) aH)))
  (bF (bL [2,0] (cM (aA 1)) fTT (aJ (gL C) [] (aC (aA 1) (aC (aJ (bD C) [] (aC (aA 2) (aC (aA 0) aH))) aH))))))
def lQ (C:Af):Ab D->Aa D:=runF 3 (wV C)
def oK (C:Af):En->Res :=
  (aR (rIf (fEq (aA 0) (fC (.int 0))) (bF (fC .non)) bQ)
  (bF (fI0 (fun i j=>.int (i - j)) (uE (fI0 (fun i j=>.int (Builtin.bitAnd i j)) (aA 0) (Z60 (aA 0)))) (fC (.int 1)))))
def gA (C:Af):Ab D->Aa D:=runF 1 (oK C)
def O4 (C:Af):En->Res :=
  (bF (bL [0] (sB1 eJ (aC (uE (aA 0)) aH)) (fEq (fI0 (fun i j=>.int (Builtin.bitAnd i j)) (fI2 (fun _ j=>0 <= j) (fun i j=>.int (i / 2 ^ j.toNat)) (aA 1) (aA 0)) (fC (.int 1))) (fC (.int 1))) (aY (aA 0))))
def gK (C:Af):Ab D->Aa D:=runF 1 (O4 C)
def mZ (C:Af):En->Res :=
  (aR (bP 2 (fC (.int 0)))
  (aR (eL [1] (cM (aA 1)) (gtN 3) (bP 2 (fI0 (fun i j=>.int (Builtin.bitOr i j)) (fI2 dO (fun i j=>.int (i * 2 ^ j.toNat)) (aA 2) (fI2 dO (fun i j=>.int (i * 2 ^ j.toNat)) (fC (.int 1)) (gO C "ins" (aA 0)))) (aA 3))))
  (bF (aY (aA 2)))))
def cX (C:Af):Ab D->Aa D:=runF 4 (mZ C)
def uB (C:Af):En->Res :=
  (aR (bP 3 (aJ (cX C) [] (aC (aA 0) (aC (bL [2] (cM (gO C "outs" (aA 0))) fTT (aY (aA 1))) aH))))
  (bF (hZ (fEq (fB1 xK (aC (bL [3] (cM (aA 1)) fTT (fI0 (fun i j=>.int (Builtin.bitAnd i j)) (aA 0) (aA 1))) aH)) (fB1 bK (aC (aA 1) aH))))))
def eV (C:Af):Ab D->Aa D:=runF 4 (uB C)
abbrev l_lam:Ag:=Z8R (Z8R (Z9f ((bS dN).getD 3 (.Pass ⟨0,0,0,0⟩))) 0) 2
abbrev q_lam:Str:=("widened" ++ ".<locals>.") ++ "<lambda>"
abbrev Z6z:=St q_lam (Z9j l_lam) (Z9k l_lam) (Z9i l_lam) ["circuit","pages"]
def Z44 (C:Af) (a0:Af) (dv0:Ab V):En->Res :=
  (aR (bP 3 (aY (aA 0)))
  (aR (eL [1] (cM (aA 1)) (gtN 4) (aR (bP 5 (fI0 (fun i j=>.int (Builtin.bitXor i j)) (aA 3) (fI2 dO (fun i j=>.int (i * 2 ^ j.toNat)) (fC (.int 1)) (aA 4))))
  (rIf (fB (fFn 2 a0 dv0 (aA 5) (aJ (eV C) [] (aC (aA 1) (aC (aA 2) (aC (aA 0) aH)))))) (bP 3 (aY (aA 5))) bQ)))
  (bF (aY (aA 3)))))
def wL (C:Af) (a0:Af) (dv0:Ab V):Ab D->Aa D:=runF 6 (Z44 C a0 dv0)
def Z28 (C:Af):En->Res :=
  (bF (bL [1] (cM (aA 0)) fTT (fI0 (fun i j=>.int (Builtin.bitAnd i j)) (fI2 (fun _ j=>0 <= j) (fun i j=>.int (i / 2 ^ j.toNat)) (aA 0) (aA 1)) (fC (.int 1)))))
def nV (C:Af):Ab D->Aa D:=runF 2 (Z28 C)
def zN (C:Af):En->Res :=
  (aR (bP 3 (aJ (bD C) [] (aC (aA 0) (aC (aA 2) aH))))
  (bF (bL [3] (cM (aA 1)) fTT (aJ (nV C) [] (aC (aA 1) (aC (aA 0) aH))))))
def eU (C:Af):Ab D->Aa D:=runF 4 (zN C)
def qY (C:Af):En->Res :=
  (bF (O8 (gE (aC (fC .non) aH)) (aJ (fG C) [] (aC (aA 0) aH))))
def cL (C:Af):Ab D->Aa D:=runF 1 (qY C)
def Z5W (C:Af):En->Res :=
  (bF (bL [2,0,1] (cM (aJ (cL C) [] (aC (aA 0) aH))) (fEq (aJ (eU C) [] (aC (aA 2) (aC (aA 3) (aC (aA 0) aH)))) (aA 1)) (aY (aA 0))))
def qG (C:Af):Ab D->Aa D:=runF 3 (Z5W C)
def Z27 (C:Af):En->Res :=
  (bF (aJ (gA C) [] (aC (aJ (gL C) [] (aC (aJ (bD C) [] (aC (aA 0) (aC (aA 1) aH))) (aC (aJ (bD C) [] (aC (aA 0) (aC (aA 2) aH))) aH))) aH)))
def nQ (C:Af):Ab D->Aa D:=runF 3 (Z27 C)
def Z2 (C:Af):En->Res :=
  (bF (fB1 tM (aC (bL [0] (cM (aJ (cL C) [] (aC (aA 0) aH))) fTT (aJ (cX C) [] (aC (aA 1) (aC (aJ (bD C) [] (aC (aA 1) (aC (aA 0) aH))) aH)))) aH)))
def lR (C:Af):Ab D->Aa D:=runF 1 (Z2 C)
def zF (C:Af):En->Res :=
  (aR (bP 2 (aJ (cW C) [] (aC (gO C "ins" (aA 0)) aH)))
  (aR (bP 3 (bL [1] (cM (aJ (gK C) [] (aC (aA 2) aH))) (eO (fIn (aA 0) (aA 1))) (aY (aA 0))))
  (aR (bP 4 (aJ (lR C) [] (aC (aA 0) aH)))
  (bF (aJ (gK C) [] (aC (Z4a [0,4] (aA 2) (aA 3) (sV (wL C))) aH))))))
def kM (C:Af):Ab D->Aa D:=runF 5 (zF C)
def Z47 (C:Af):En->Res :=
  (aR (bP 1 (aJ (fG C) [] (aC (aA 0) aH)))
  (bF (bL [] (sB1 Z2q (aC (aA 1) (aC (aJ (lQ C) [] (aC (aA 0) (aC (aA 1) aH))) aH))) (un2 (fEq (aA 1) (fC (.int 0)))) (un2 (aY (aA 0))))))
def D5 (C:Af):Ab D->Aa D:=runF 2 (Z47 C)
def zH (C:Af):En->Res :=
  (bF (hZ (kE (fB (uR "int" (aA 0))) (fB (hZ (eO (fB (uR "bool" (aA 0)))))))))
def cS (C:Af):Ab D->Aa D:=runF 1 (zH C)
def Z46 (C:Af):En->Res :=
  (aR (rIf (fBI (fun i j=>decide (i < j)) (aA 1) (fB1 bK (aC (aA 0) aH))) (bF (aY (fIx (aA 0) (aA 1)))) bQ)
  (bF (fC (.int 0))))
def jJ (C:Af):Ab D->Aa D:=runF 2 (Z46 C)
def tG (C:Af):En->Res :=
  (aR (rIf (fBI (fun i j=>decide (j <= i)) (aA 0) (fI2 Z6c (fun i j=>.int (i ^ j.toNat)) (fC (.int 10)) (fC (.int 40)))) (bF (fI2 (fun _ j=>0 < j) (fun i j=>.int (i % j)) (fI2 dM (fun i j=>.int (i / j)) (fI0 (fun i j=>.int (i - j)) (aA 0) (fI2 Z6c (fun i j=>.int (i ^ j.toNat)) (fC (.int 10)) (fC (.int 40)))) (fI2 dO (fun i j=>.int (i * 2 ^ j.toNat)) (fC (.int 1)) (fI2 IntMulOk (fun i j=>.int (i * j)) (fC (.int 31)) (fI2 (fun _ j=>0 < j) (fun i j=>.int (i % j)) (aA 1) (fC (.int 60)))))) (fI2 dO (fun i j=>.int (i * 2 ^ j.toNat)) (fC (.int 1)) (fC (.int 31))))) bQ)
  (aR (bP 2 (fI2 (fun _ j=>0 < j) (fun i j=>.int (i % j)) (fI0 (fun i j=>.int (i + j)) (fI0 (fun i j=>.int (i + j)) (fI2 IntMulOk (fun i j=>.int (i * j)) (aA 0) (fC (.int 1103515245))) (fI2 IntMulOk (fun i j=>.int (i * j)) (fI2 IntMulOk (fun i j=>.int (i * j)) (fC (.int 7919)) (aA 1)) (aA 1))) (aA 1)) (fC (.int 2147483647))))
  (aR (bP 2 (fI2 (fun _ j=>0 < j) (fun i j=>.int (i % j)) (fI2 IntMulOk (fun i j=>.int (i * j)) (aA 2) (aA 2)) (fC (.int 2147483629))))
  (bF (fI2 (fun _ j=>0 < j) (fun i j=>.int (i % j)) (fI2 IntMulOk (fun i j=>.int (i * j)) (aA 2) (fC (.int 69621))) (fC (.int 2147483587)))))))
def cT (C:Af):Ab D->Aa D:=runF 3 (tG C)
def zL (C:Af):En->Res :=
  (aR (bP 2 (bL [] (sB1 eJ (aC (aA 1) aH)) fTT (fI0 (fun i j=>.int (i + j)) (fI2 IntMulOk (fun i j=>.int (i * j)) (aA 0) (aA 0)) (fC (.int 1)))))
  (aR (bP 3 (fSl (aA 0) tI (fP (fC (.int 63)))))
  (aR (eL [] (sB1 Q5 (aC (fC (.int 2)) (aC (fB1 bK (aC (aA 3) aH)) aH))) (gtN 4) (aR (bP 5 (fI2 (fun _ j=>0 < j) (fun i j=>.int (i % j)) (aA 4) (aA 1)))
  (aR (bP 6 (fI0 (fun i j=>.int (i + j)) (fI2 IntMulOk (fun i j=>.int (i * j)) (fIx (aA 2) (aA 5)) (fC (.int 31))) (aJ (cT C) [] (aC (fIx (aA 3) (aA 4)) (aC (aA 4) aH)))))
  (L4 2 (aA 5) (fI2 (fun _ j=>0 < j) (fun i j=>.int (i % j)) (aA 6) (fC (.int 2147483629)))))))
  (iP 2))))
def nT (C:Af):Ab D->Aa D:=runF 7 (zL C)
def O0 (C:Af):En->Res :=
  (aR (bP 2 (gE aH))
  (aR (eL [1] (cM (aA 1)) (gtN 3) (aR (bP 4 (fI0 (fun i j=>.int (i + j)) (aA 0) (fB1 bK (aC (aA 2) aH))))
  (aR (bP 5 (fI0 (fun i j=>.int (i - j)) (fI0 (fun i j=>.int (i - j)) (aA 4) (fC (.int 1))) (fI2 (fun _ j=>0 < j) (fun i j=>.int (i % j)) (fI2 dM (fun i j=>.int (i / j)) (aA 3) (fC (.int 16))) (fB1 Z2r (aC (fC (.int 1)) (aC (fB1 Z0c (aC (aA 4) (aC (fC (.int 5)) aH))) aH))))))
  (aR (bP 6 (fI0 (fun i j=>.int (i - j)) (fI0 (fun i j=>.int (i - j)) (aA 4) (fC (.int 1))) (fI2 (fun _ j=>0 < j) (fun i j=>.int (i % j)) (fI2 dM (fun i j=>.int (i / j)) (aA 3) (fC (.int 80))) (fB1 Z2r (aC (fC (.int 1)) (aC (aA 4) aH))))))
  (rIf (fOr (fEq (aA 4) (fC (.int 0))) (fEq (fI2 (fun _ j=>0 < j) (fun i j=>.int (i % j)) (aA 3) (fC (.int 16))) (fC (.int 0)))) (iG 2 (iK (aC (fC (.str "fix")) (aC (fI2 (fun _ j=>0 < j) (fun i j=>.int (i % j)) (fI2 dM (fun i j=>.int (i / j)) (aA 3) (fC (.int 16))) (fC (.int 2))) aH)))) (rIf (fBI (fun i j=>decide (i < j)) (fI2 (fun _ j=>0 < j) (fun i j=>.int (i % j)) (aA 3) (fC (.int 16))) (fC (.int 4))) (iG 2 (iK (aC (fC (.str "not")) (aC (aY (aA 5)) aH)))) (iG 2 (iK (aC (aY (fIx (gE (aC (fC (.str "and")) (aC (fC (.str "or")) (aC (fC (.str "xor")) (aC (fC (.str "and")) aH))))) (fI2 (fun _ j=>0 < j) (fun i j=>.int (i % j)) (aA 3) (fC (.int 4))))) (aC (aY (aA 5)) (aC (aY (aA 6)) aH)))))))))))
  (iP 2)))
def qH (C:Af):Ab D->Aa D:=runF 7 (O0 C)
def O1 (C:Af):En->Res :=
  (aR (bP 2 (gE (aC (fI0 (fun i j=>.int (i - j)) (aA 0) (fC (.int 1))) aH)))
  (aR (eL [] (sB1 eJ (aC (fI2 (fun _ j=>0 < j) (fun i j=>.int (i % j)) (aA 1) (fC (.int 4))) aH)) (gtN 3) (iG 2 (fI2 (fun _ j=>0 < j) (fun i j=>.int (i % j)) (fI2 dM (fun i j=>.int (i / j)) (aA 1) (fI0 (fun i j=>.int (i + j)) (aA 3) (fC (.int 4)))) (aA 0))))
  (aR (rIf (fEq (fI2 (fun _ j=>0 < j) (fun i j=>.int (i % j)) (fI2 dM (fun i j=>.int (i / j)) (aA 1) (fC (.int 64))) (fC (.int 16))) (fC (.int 0))) (gT 2 2 (bL [0,1] (sB1 eJ (aC (fI0 (fun i j=>.int (i - j)) (fC (.int 16)) (fB1 bK (aC (aA 2) aH))) aH)) fTT (fI2 (fun _ j=>0 < j) (fun i j=>.int (i % j)) (fI2 IntMulOk (fun i j=>.int (i * j)) (aA 0) (aA 2)) (aA 1)))) bQ)
  (aR (rIf (fEq (fI2 (fun _ j=>0 < j) (fun i j=>.int (i % j)) (fI2 dM (fun i j=>.int (i / j)) (aA 1) (fC (.int 1024))) (fC (.int 3))) (fC (.int 0))) (bP 2 (F1 (aA 2))) bQ)
  (iP 2)))))
def qI (C:Af):Ab D->Aa D:=runF 4 (O1 C)
def zK (C:Af):En->Res :=
  (aR (bP 2 (fC (.int 0)))
  (aR (eL [] (sB1 eJ (aC (fI2 dO (fun i j=>.int (i * 2 ^ j.toNat)) (fC (.int 1)) (aA 0)) aH)) (gtN 3) (rIf (fEq (fI2 (fun _ j=>0 < j) (fun i j=>.int (i % j)) (fI2 dM (fun i j=>.int (i / j)) (aA 3) (fI2 dO (fun i j=>.int (i * 2 ^ j.toNat)) (fC (.int 1)) (aA 1))) (fC (.int 2))) (fC (.int 1))) (bP 2 (fI0 (fun i j=>.int (i + j)) (aA 2) (fI2 dO (fun i j=>.int (i * 2 ^ j.toNat)) (fC (.int 1)) (aA 3)))) bQ))
  (bF (aY (aA 2)))))
def iV (C:Af):Ab D->Aa D:=runF 4 (zK C)
def zM (C:Af):En->Res :=
  (aR (bP 1 (aJ (jJ C) [] (aC (aA 0) (aC (fC (.int 0)) aH))))
  (aR (bP 2 (aY (fIx (gE (aC (fI2 (fun _ j=>0 < j) (fun i j=>.int (i % j)) (aA 1) (fC (.int 4))) (aC (fI2 (fun _ j=>0 < j) (fun i j=>.int (i % j)) (fI2 dM (fun i j=>.int (i / j)) (aA 1) (fC (.int 4))) (fC (.int 6))) aH))) (fB1 G7 (aC (hZ (fEq (fI2 (fun _ j=>0 < j) (fun i j=>.int (i % j)) (fI2 dM (fun i j=>.int (i / j)) (aA 1) (fC (.int 36))) (fC (.int 6))) (fC (.int 5)))) aH)))))
  (aR (bP 3 (aJ (nT C) [] (aC (aA 0) (aC (fC (.int 11)) aH))))
  (aR (bP 4 (aJ (qH C) [] (aC (aA 2) (aC (fSl (aA 3) tI (fP (fI2 (fun _ j=>0 < j) (fun i j=>.int (i % j)) (aJ (jJ C) [] (aC (aA 0) (aC (fC (.int 1)) aH))) (fC (.int 11))))) aH))))
  (aR (rIf (fEq (fI0 (fun i j=>.int (i + j)) (aA 2) (fB1 bK (aC (aA 4) aH))) (fC (.int 0))) (bP 4 (gE (aC (iK (aC (fC (.str "fix")) (aC (fI2 (fun _ j=>0 < j) (fun i j=>.int (i % j)) (fI2 dM (fun i j=>.int (i / j)) (aA 1) (fC (.int 216))) (fC (.int 2))) aH))) aH))) bQ)
  (aR (bP 5 (aJ (qI C) [] (aC (fI0 (fun i j=>.int (i + j)) (aA 2) (fB1 bK (aC (aA 4) aH))) (aC (fIx (aA 3) (fC (.int 10))) aH))))
  (L3 (.inl 2 :: (.inl 4 :: (.inl 5 :: (.inr (bL [2] (sB1 eJ (aC (aA 2) aH)) fTT (aJ (iV C) [] (aC (aA 1) (aC (aA 0) aH)))) :: [])))))))))))
def nU (C:Af):Ab D->Aa D:=runF 6 (zM C)
def Z0N (C:Af):En->Res :=
  (aR (rIf (kE (jO true (aA 3)) (fEq (Z7 (aA 3) tI (fP (fC (.int 3)))) (iK (aC (fC (.str "leg")) (aC (aA 4) (aC (aA 2) aH)))))) (bF (fI2 IntMulOk (fun i j=>.int (i * j)) (aA 5) (fIx (aA 3) (fC (.int 3))))) bQ)
  (bF (aY (fIx (aA 0) (fIx (aA 1) (fI0 (fun i j=>.int (i + j)) (aA 2) (fC (.int 1))))))))
def qK (C:Af):Ab D->Aa D:=runF 6 (Z0N C)
def iE (C:Af):En->Res :=
  (aR (rIf (fEq (fIx (aA 1) (fC (.int 0))) (fC (.str "fix"))) (bF (fI2 IntMulOk (fun i j=>.int (i * j)) (aA 4) (fIx (aA 1) (fC (.int 1))))) bQ)
  (aR (bP 5 (aJ (qK C) [] (aC (aA 0) (aC (aA 1) (aC (fC (.int 0)) (aC (aA 2) (aC (aA 3) (aC (aA 4) aH))))))))
  (aR (rIf (fEq (fIx (aA 1) (fC (.int 0))) (fC (.str "not"))) (bF (fI0 (fun i j=>.int (i - j)) (aA 4) (aA 5))) bQ)
  (aR (bP 6 (aJ (qK C) [] (aC (aA 0) (aC (aA 1) (aC (fC (.int 1)) (aC (aA 2) (aC (aA 3) (aC (aA 4) aH))))))))
  (aR (rIf (fEq (fIx (aA 1) (fC (.int 0))) (fC (.str "and"))) (bF (fI0 (fun i j=>.int (Builtin.bitAnd i j)) (aA 5) (aA 6))) bQ)
  (aR (rIf (fEq (fIx (aA 1) (fC (.int 0))) (fC (.str "or"))) (bF (fI0 (fun i j=>.int (Builtin.bitOr i j)) (aA 5) (aA 6))) bQ)
  (bF (fI0 (fun i j=>.int (i - j)) (fI0 (fun i j=>.int (Builtin.bitOr i j)) (aA 5) (aA 6)) (fI0 (fun i j=>.int (Builtin.bitAnd i j)) (aA 5) (aA 6))))))))))
def eN (C:Af):Ab D->Aa D:=runF 7 (iE C)
def zG (C:Af):En->Res :=
  (aR (B9 [0] (gtT [2,3,4,5]) (aA 0))
  (aR (bP 6 (fI0 (fun i j=>.int (i - j)) (fI2 dO (fun i j=>.int (i * 2 ^ j.toNat)) (fC (.int 1)) (fI2 dO (fun i j=>.int (i * 2 ^ j.toNat)) (fC (.int 1)) (aA 2))) (fC (.int 1))))
  (aR (bP 7 (gE aH))
  (aR (eL [] (sB1 eJ (aC (fI0 (fun i j=>.int (i + j)) (aA 2) (fB1 bK (aC (aA 3) aH))) aH)) (gtN 8) (rIf (kE (jO true (aA 1)) (fEq (Z7 (aA 1) tI (fP (fC (.int 2)))) (iK (aC (fC (.str "wire")) (aC (aA 8) aH))))) (iG 7 (fI2 IntMulOk (fun i j=>.int (i * j)) (aA 6) (fIx (aA 1) (fC (.int 2))))) (rIf (fBI (fun i j=>decide (i < j)) (aA 8) (aA 2)) (iG 7 (aY (fIx (aA 5) (aA 8)))) (iG 7 (aJ (eN C) [] (aC (aA 7) (aC (fIx (aA 3) (fI0 (fun i j=>.int (i - j)) (aA 8) (aA 2))) (aC (aA 1) (aC (aA 8) (aC (aA 6) aH))))))))))
  (iP 7)))))
def nR (C:Af):Ab D->Aa D:=runF 9 (zG C)
def nA (C:Af):En->Res :=
  (aR (bP 2 (aJ (nR C) [] (aC (aA 0) (aC (aA 1) aH))))
  (bF (bL [2] (cM (fIx (aA 0) (fC (.int 2)))) fTT (aY (fIx (aA 1) (aA 0))))))
def dR (C:Af):Ab D->Aa D:=runF 3 (nA C)
def E8 (C:Af):En->Res :=
  (aR (rIf (fOr (fBI (fun i j=>decide (i < j)) (aA 1) (fIx (aA 0) (fC (.int 0)))) (fEq (fIx (fIx (fIx (aA 0) (fC (.int 1))) (fI0 (fun i j=>.int (i - j)) (aA 1) (fIx (aA 0) (fC (.int 0))))) (fC (.int 0))) (fC (.str "fix")))) (bF (gE aH)) bQ)
  (bF (fB1 gY (aC (fSl (fIx (fIx (aA 0) (fC (.int 1))) (fI0 (fun i j=>.int (i - j)) (aA 1) (fIx (aA 0) (fC (.int 0))))) (fP (fC (.int 1))) tI) aH))))
def lS (C:Af):Ab D->Aa D:=runF 2 (E8 C)
def nB (C:Af):En->Res :=
  (aR (rIf (kE (fBI (fun i j=>decide (j <= i)) (aA 1) (fIx (aA 0) (fC (.int 0)))) (fEq (fIx (fIx (fIx (aA 0) (fC (.int 1))) (fI0 (fun i j=>.int (i - j)) (aA 1) (fIx (aA 0) (fC (.int 0))))) (fC (.int 0))) (fC (.str "fix")))) (bF (gE (aC (fI0 (fun i j=>.int (i - j)) (fC (.int 1)) (fIx (fIx (fIx (aA 0) (fC (.int 1))) (fI0 (fun i j=>.int (i - j)) (aA 1) (fIx (aA 0) (fC (.int 0))))) (fC (.int 1)))) aH))) bQ)
  (bF (gE (aC (fC (.int 0)) (aC (fC (.int 1)) aH)))))
def eE (C:Af):Ab D->Aa D:=runF 2 (nB C)
def wX (C:Af):En->Res :=
  (aR (bP 1 (fB1 gY (aC (fIx (aA 0) (fC (.int 2))) aH)))
  (aR (eL [] (sB1 Q6 (aC (fI0 (fun i j=>.int (i + j)) (fIx (aA 0) (fC (.int 0))) (fB1 bK (aC (fIx (aA 0) (fC (.int 1))) aH))) aH)) (gtN 2) (rIf (fIn (aA 2) (aA 1)) (gT 1 1 (aJ (lS C) [] (aC (aA 0) (aC (aA 2) aH)))) bQ))
  (aR (bP 3 (gE aH))
  (aR (eL [] (sB1 eJ (aC (fI0 (fun i j=>.int (i + j)) (fIx (aA 0) (fC (.int 0))) (fB1 bK (aC (fIx (aA 0) (fC (.int 1))) aH))) aH)) (gtN 2) (rIf (fIn (aA 2) (aA 1)) (aR (gT 3 3 (bL [2] (cM (aJ (eE C) [] (aC (aA 0) (aC (aA 2) aH)))) fTT (iK (aC (fC (.str "wire")) (aC (aY (aA 1)) (aC (aY (aA 0)) aH))))))
  (aR (bP 4 (aJ (lS C) [] (aC (aA 0) (aC (aA 2) aH))))
  (eL [] (sB1 eJ (aC (fB1 bK (aC (aA 4) aH)) aH)) (gtN 5) (gT 3 3 (bL [2,5] (cM (aJ (eE C) [] (aC (aA 0) (aC (fIx (aA 4) (aA 5)) aH)))) fTT (iK (aC (fC (.str "leg")) (aC (aY (aA 1)) (aC (aY (aA 2)) (aC (aY (aA 0)) aH)))))))))) bQ))
  (iP 3)))))
def gD (C:Af):Ab D->Aa D:=runF 6 (wX C)
def Z3 (C:Af):En->Res :=
  (bF (bL [1] (cM (aA 0)) fTT (fI2 (fun _ j=>0 < j) (fun i j=>.int (i % j)) (fI2 dM (fun i j=>.int (i / j)) (aA 0) (fI2 dO (fun i j=>.int (i * 2 ^ j.toNat)) (fC (.int 1)) (aA 1))) (fC (.int 2)))))
def fF (C:Af):Ab D->Aa D:=runF 2 (Z3 C)
def O3 (C:Af):En->Res :=
  (bF (bL [0] (cM (aA 1)) fTT (aJ (fF C) [] (aC (aA 1) (aC (aA 0) aH)))))
def iI (C:Af):Ab D->Aa D:=runF 2 (O3 C)
def O2 (C:Af):En->Res :=
  (aR (rIf (fOr (eO (fB (uR "list" (aA 0)))) (eO (fEq (fB1 bK (aC (aA 0) aH)) (fB1 bK (aC (aA 1) aH))))) (bF (fC (.bl false))) bQ)
  (aR (eL [] (sB1 eJ (aC (fB1 bK (aC (aA 1) aH)) aH)) (gtN 2) (rIf (fOr (eO (fB (aJ (cS C) [] (aC (fIx (aA 0) (aA 2)) aH)))) (eO (fEq (fIx (aA 0) (aA 2)) (fIx (aA 1) (aA 2))))) (bF (fC (.bl false))) bQ))
  (bF (fC (.bl true)))))
def qJ (C:Af):Ab D->Aa D:=runF 3 (O2 C)
def zJ (C:Af):En->Res :=
  (aR (rIf (fOr (eO (fB (uR "list" (aA 0)))) (eO (fEq (fB1 bK (aC (aA 0) aH)) (fB1 bK (aC (aA 1) aH))))) (bF (fC (.bl false))) bQ)
  (aR (eL [] (sB1 eJ (aC (fB1 bK (aC (aA 1) aH)) aH)) (gtN 2) (rIf (eO (fB (aJ (qJ C) [] (aC (fIx (aA 0) (aA 2)) (aC (fIx (aA 1) (aA 2)) aH))))) (bF (fC (.bl false))) bQ))
  (bF (fC (.bl true)))))
def kN (C:Af):Ab D->Aa D:=runF 3 (zJ C)
def kS (C:Af):En->Res :=
  (aR (rIf (jO false (aA 1)) (bF (hZ (jO false (aA 0)))) bQ)
  (aR (rIf (fOr (eO (fB (uR "tuple" (aA 0)))) (fOr (eO (fEq (fB1 bK (aC (aA 0) aH)) (fB1 bK (aC (aA 1) aH)))) (eO (fB (uR "str" (fIx (aA 0) (fC (.int 0)))))))) (bF (fC (.bl false))) bQ)
  (aR (eL [] (cM (fSl (aA 0) (fP (fC (.int 1))) tI)) (gtN 2) (rIf (eO (fB (aJ (cS C) [] (aC (aA 2) aH)))) (bF (fC (.bl false))) bQ))
  (bF (hZ (fEq (aA 0) (aA 1)))))))
def kO (C:Af):Ab D->Aa D:=runF 3 (kS C)
def N9 (C:Af):En->Res :=
  (aR (rIf (fOr (eO (fB (uR "list" (aA 0)))) (eO (fEq (fB1 bK (aC (aA 0) aH)) (fB1 bK (aC (aA 1) aH))))) (bF (fC (.bl false))) bQ)
  (aR (eL [] (sB1 eJ (aC (fB1 bK (aC (aA 1) aH)) aH)) (gtN 2) (rIf (eO (fB (aJ (kO C) [] (aC (fIx (aA 0) (aA 2)) (aC (fIx (aA 1) (aA 2)) aH))))) (bF (fC (.bl false))) bQ))
  (bF (fC (.bl true)))))
def mV (C:Af):Ab D->Aa D:=runF 3 (N9 C)
def wW (C:Af):En->Res :=
  (aR (rIf (eO (fB (uR "list" (aA 0)))) (bF (fC (.bl false))) bQ)
  (aR (eL [] (sB1 eJ (aC (fB1 bK (aC (aA 0) aH)) aH)) (gtN 2) (aR (rIf (fOr (eO (fB (aJ (cS C) [] (aC (fIx (aA 0) (aA 2)) aH)))) (fOr (fBI (fun i j=>decide (i < j)) (fIx (aA 0) (aA 2)) (fC (.int 0))) (fBI (fun i j=>decide (j <= i)) (fIx (aA 0) (aA 2)) (aA 1)))) (bF (fC (.bl false))) bQ)
  (rIf (kE (fBI (fun i j=>decide (j < i)) (aA 2) (fC (.int 0))) (fBI (fun i j=>decide (i <= j)) (fIx (aA 0) (aA 2)) (fIx (aA 0) (fI0 (fun i j=>.int (i - j)) (aA 2) (fC (.int 1)))))) (bF (fC (.bl false))) bQ)))
  (bF (fC (.bl true)))))
def jI (C:Af):Ab D->Aa D:=runF 3 (wW C)
def zI (C:Af):En->Res :=
  (aR (bP 2 (gE aH))
  (aR (eL [] (sB1 eJ (aC (fI2 dO (fun i j=>.int (i * 2 ^ j.toNat)) (fC (.int 1)) (aA 0)) aH)) (gtN 3) (rIf (fBI (fun i j=>decide (i < j)) (fI2 (fun _ j=>0 < j) (fun i j=>.int (i % j)) (aJ (cT C) [] (aC (aA 1) (aC (aA 3) aH))) (fC (.int 4))) (fI2 (fun _ j=>0 < j) (fun i j=>.int (i % j)) (aA 1) (fC (.int 5)))) (iG 2 (aY (aA 3))) bQ))
  (iP 2)))
def nS (C:Af):Ab D->Aa D:=runF 4 (zI C)
def uC (C:Af):En->Res :=
  (aR (bP 5 (aJ (nQ C) [] (aC (aA 0) (aC (aA 1) (aC (aA 2) aH)))))
  (aR (rIf (fEq (aA 3) (aA 4)) (bF (hZ (jO false (aA 5)))) bQ)
  (bF (hZ (kE (fB (aJ (cS C) [] (aC (aA 5) aH))) (fB (hZ (eO (fEq (aJ (fF C) [] (aC (aA 3) (aC (aA 5) aH))) (aJ (fF C) [] (aC (aA 4) (aC (aA 5) aH))))))))))))
def iH (C:Af):Ab D->Aa D:=runF 6 (uC C)
def Z6u (C:Af):En->Res :=
  (aR (bP 1 (aJ (nU C) [] (aC (aA 0) aH)))
  (aR (bP 2 (fB1 (hG C) (aC (fIx (aA 1) (fC (.int 0))) (aC (fB1 gY (aC (fIx (aA 1) (fC (.int 1))) aH)) (aC (fB1 gY (aC (fIx (aA 1) (fC (.int 2))) aH)) aH)))))
  (aR (bP 3 (aJ (kM C) [] (aC (aA 2) (aC (aJ (nS C) [] (aC (fIx (aA 1) (fC (.int 0))) (aC (aJ (cT C) [] (aC (aJ (jJ C) [] (aC (aA 0) (aC (fC (.int 0)) aH))) (aC (fC (.int 8)) aH))) aH))) aH))))
  (aR (rIf (eO (fB (aJ (jI C) [] (aC (aA 3) (aC (fI2 dO (fun i j=>.int (i * 2 ^ j.toNat)) (fC (.int 1)) (fIx (aA 1) (fC (.int 0)))) aH))))) (bF (fC (.bl false))) bQ)
  (aR (bP 4 (bL [1] (cM (O8 (gE (aC (fC .non) aH)) (aJ (gD C) [] (aC (aA 1) aH)))) fTT (iK (aC (aY (aA 0)) (aC (aJ (dR C) [] (aC (aA 1) (aC (aA 0) aH))) aH)))))
  (aR (bP 5 (bL [4] (cM (aA 4)) (un2 (kE (jO true (aA 0)) (fEq (aA 1) (fIx (fIx (aA 2) (fC (.int 0))) (fC (.int 1)))))) (un2 (aY (aA 0)))))
  (aR (rIf (eO (fB (aJ (mV C) [] (aC (aJ (D5 C) [] (aC (aA 2) aH)) (aC (aA 5) aH))))) (bF (fC (.bl false))) bQ)
  (aR (eL [] (sB1 eJ (aC (fB1 Z0c (aC (fB1 bK (aC (aA 4) aH)) (aC (fC (.int 12)) aH))) aH)) (gtN 6) (aR (bP 7 (aJ (cT C) [] (aC (aJ (jJ C) [] (aC (aA 0) (aC (fI0 (fun i j=>.int (i + j)) (aA 6) (fC (.int 2))) aH))) (aC (aA 6) aH))))
  (aR (B9 [4] (gtT [8,9]) (fIx (aA 4) (fIx (gE (aC (fI2 (fun _ j=>0 < j) (fun i j=>.int (i % j)) (aA 7) (fB1 bK (aC (aA 4) aH))) (aC (fC (.int 0)) aH))) (fB1 G7 (aC (hZ (fEq (aA 6) (fC (.int 0)))) aH)))))
  (aR (bP 10 (aJ (iI C) [] (aC (aA 9) (aC (aA 3) aH))))
  (aR (rIf (eO (fB (aJ (kN C) [] (aC (aJ (eU C) [] (aC (aA 2) (aC (aA 3) (aC (aA 8) aH)))) (aC (aA 10) aH))))) (bF (fC (.bl false))) bQ)
  (aR (bP 11 (bL [9] (cM (aA 4)) (un2 (fEq (aA 1) (aA 2))) (un2 (aY (aA 0)))))
  (aR (rIf (eO (fB (aJ (mV C) [] (aC (aJ (qG C) [] (aC (aA 2) (aC (aA 3) (aC (aA 10) aH)))) (aC (aA 11) aH))))) (bF (fC (.bl false))) bQ)
  (aR (B9 [4] (gtT [12,13]) (fIx (aA 4) (fI2 (fun _ j=>0 < j) (fun i j=>.int (i % j)) (fI2 dM (fun i j=>.int (i / j)) (aA 7) (fC (.int 512))) (fB1 bK (aC (aA 4) aH)))))
  (rIf (eO (fB (aJ (iH C) [] (aC (aA 2) (aC (aA 8) (aC (aA 12) (aC (aA 9) (aC (aA 13) aH)))))))) (bF (fC (.bl false))) bQ)))))))))
  (bF (fC (.bl true)))))))))))
def Z3I (C:Af):Ab D->Aa D:=runF 14 (Z6u C)
section
variable {P:Aj}{w:Ak}{K:Frag}{mg:Str->Aa Ad}{base:Ah}{C fA:Af}{fd:FuncData}
theorem Saa:aP ["self","ins","rows","outs"] ["self","ins","rows","outs"] (aI cI):=RF
theorem uP  (F:FunD K "__init__" "Circuit.__init__" cI fA fd) (z_list:mg "list" = none) (z_tuple:mg "tuple" = none) (hC:Cls K C) (hA_ins:NoAttr K C "ins") (hA_rows:NoAttr K C "rows") (hA_outs:NoAttr K C "outs") :
  bR P w K mg base CX0 1 fA fd ["self","ins","rows","outs"] (spI K C 3 (hG C)):=by
 have nd:=Saa.nd;refine F.raw Saa (fun vs H Q E h=>Z4I h) fun cdv A outer s H vs Q E hr hsp=>?_;obtain⟨x,dx,H0,us,ds,d,fp,rfl,hx,hdx,hne,rfl,h1,h2,h3,q⟩:=hsp;obtain⟨F,hF⟩:=B8 h2;have hl:=h2.length
 match ds,us,h1,hl,hF,h3 with
 | [i,r,o],[u1,u2,u3],_,_,hF,h3 =>
  unfold hG at h3;simp only at h3;split at h3
  .rename_i a b c e1 e2 e3;cases h3;refine⟨_,wB (V5 (pv 0) (show QE _ true [] _ _ from (QE.flat (aB 1))) rfl) (wB (V5 (pv 0) (show QE _ true [] _ _ from (dS (fr:=[]) rfl (by rfl) (cB (aB 2)) (show List.Nodup (["row"]:Ab Str) from by decide +kernel) (by rfl) (fun _ _ _ _ _ _=>dF) (fun _ _ _ _ _ _=>(qp (Z30 (by rfl) z_tuple (aB 0)))))) rfl) (Z0z (V5 (pv 0) (show QE _ true [] _ _ from (qp (nM (by rfl) z_list (aB 3)))) rfl))),?_⟩
   refine Z8D (F:=fun i=>F (i - 1)) (us:=[u1,u2,u3]) (ds:=[i,r,o]) (fp:=fp) hx hdx hne (fun j ow d' e=>?_) rfl e1 e2 e3 hC hA_ins hA_rows hA_outs (by decide +kernel) (by decide +kernel) (by decide +kernel) q
   match j,e with
   | 1,e=>cases e;exact (let ⟨v,a1,a2⟩:=hF 0 i rfl;⟨v,by cases a1;rfl,a2⟩)
   | 2,e=>cases e;exact (let ⟨v,a1,a2⟩:=hF 1 r rfl;⟨v,by cases a1;rfl,a2⟩)
   | 3,e=>cases e;exact (let ⟨v,a1,a2⟩:=hF 2 o rfl;⟨v,by cases a1;rfl,a2⟩)
   | 0,e=>cases e
   | j + 4,e=>cases e
  .cases h3
theorem xQ:aP ["row","legs","ones","kind"] ["row","legs","ones"] (aI lE):=RF
theorem xX   (F:FunD K "gate_value" "gate_value" lE fA fd)  :
  bR P w K mg base CX0 1 fA fd ["row","legs","ones"] (spD K 3 (eG C)) :=
 F.k xQ fun nd hr=>(aE (Qs 3 (QE.flat (aS (aB 0) (qp aG))))
   (aE (bT (dQ (cD hr) (aB 3) (qp cR)) (aF (aN (qp (aO eZ (aB 2) (aS (aB 0) (qp aG)))))) aV)
   (aE (bT (dQ (cD hr) (aB 3) (qp cR)) (aF (aN (qp (aW C4 (aB 2) (aS (aB 1) (qp aG)))))) aV)
   (aE (bT (dQ (cD hr) (aB 3) (qp cR)) (aF (aN (qp (aW pF (aS (aB 1) (qp aG)) (aS (aB 1) (qp aG)))))) aV)
   (aE (bT (dQ (cD hr) (aB 3) (qp cR)) (aF (aN (qp (aW yV (aS (aB 1) (qp aG)) (aS (aB 1) (qp aG)))))) aV)
   (aF (aN (qp (aW C4 (aS (aB 1) (qp aG)) (aS (aB 1) (qp aG)))))))))))
theorem A5:aP ["row"] ["row"] (aI mI):=RF
theorem C7   (F:FunD K "leg_wires" "leg_wires" mI fA fd) (z_list:mg "list" = none) :
  bR P w K mg base CX0 1 fA fd ["row"] (spD K 1 (dJ C)) :=
 F.k A5 fun nd hr=>(aE (bT (dQ (cD hr) (aS (aB 0) (qp aG)) (qp cR)) (aF (aN (eM bM))) aV)
   (aF (aN (qp (nM (by rfl) z_list (qp (mQ (aB 0) (lI (qp aG)) lJ)))))))
theorem xP:aP ["row","wire","values","ones","fault","legs"] ["row","wire","values","ones","fault"] (aI lD):=RF
theorem xW   (F:FunD K "leg_values" "leg_values" lD fA fd) (c_leg_wires:aM P w K mg base "leg_wires" [] 1 1 (dJ C)) :
  bR P w K mg base CX0 2 fA fd ["row","wire","values","ones","fault"] (spD K 5 (dH C)) :=
 F.k xP fun nd hr=>(aE (lH (i:=5) (fr:=[2]) rfl nd rfl (Or.inl rfl) (by rfl) (cB (m1:=true) (rs:=[]) (Qc c_leg_wires (aD (Qv 0) (Qn [0])))) (show List.Nodup (["source","values"]:Ab Str) from by decide +kernel) (by rfl) (fun _ _ _ _ _ _=>dF) (fun _ _ _ _ _ _=>(QE.flat (aS (aB 1) (aB 0)))))
   (aE (bT (QW.qt (kA (pY (aB 4)) (kA (dQ (cD hr) (aS (aB 4) (qp aG)) (qp cR)) (jT (dQ (cD hr) (aS (aB 4) (qp aG)) (aB 1)))))) (aF (Z0u 5 (aS (aB 4) (qp aG)) (qp (aO eZ (aB 3) (aS (aB 4) (qp aG)))))) aV)
   (aF (iB (i:=5)))))
theorem T3:aP ["value","wire","ones","fault"] ["value","wire","ones","fault"] (aI rV):=RF
theorem W3   (F:FunD K "on_wire" "on_wire" rV fA fd)  :
  bR P w K mg base CX0 1 fA fd ["value","wire","ones","fault"] (spD K 4 (fK C)) :=
 F.k T3 fun nd hr=>(aE (bT (QW.qt (kA (pY (aB 3)) (kA (dQ (cD hr) (aS (aB 3) (qp aG)) (qp cR)) (jT (dQ (cD hr) (aS (aB 3) (qp aG)) (aB 1)))))) (aF (aN (qp (aO eZ (aB 2) (aS (aB 3) (qp aG)))))) aV)
   (aF (aN (QE.flat (aB 0)))))
theorem Z2O:aP ["circuit","starts","ones","fault","values","start","row","wire","legs"] ["circuit","starts","ones","fault"] (aI B7):=RF
theorem Z3A   (F:FunD K "borne" "borne" B7 fA fd) (c_gate_value:aM P w K mg base "gate_value" [] 1 3 (eG C)) (c_leg_values:aM P w K mg base "leg_values" [] 2 5 (dH C)) (c_on_wire:aM P w K mg base "on_wire" [] 1 4 (fK C)) (z_len:mg "len" = none) (hC:Cls K C) (hA_rows:NoAttr K C "rows") :
  bR P w K mg base CX0 3 fA fd ["circuit","starts","ones","fault"] (spD K 4 (uW C)) :=
 F.k Z2O fun nd hr=>(aE (Qs 4 (eM bM))
   (aE (cP rfl PassesOwn.never (cB (aB 1)) (Qg 5) (aF (gZ 4 (Qc c_on_wire (aD (Qv 5) (aD (QE.weak (qp (cJ (by rfl) z_len (aB 4)))) (aD (Qv 2) (aD (Qv 3) (Qn [5,2,3])))))))))
   (aE (cP rfl PassesOwn.never (cB (eY hC hA_rows (aB 0))) (Qg 6) (aE (Qs 7 (qp (cJ (by rfl) z_len (aB 4))))
   (aE (Qs 8 (Qc c_leg_values (aD (Qv 6) (aD (Qv 7) (aD (Qv 4) (aD (Qv 2) (aD (Qv 3) (Qn [6,7,4,2,3]))))))))
   (aF (gZ 4 (Qc c_on_wire (aD (QE.weak (Qc c_gate_value (aD (Qv 6) (aD (Qv 8) (aD (Qv 2) (Qn [6,8,2])))))) (aD (Qv 7) (aD (Qv 2) (aD (Qv 3) (Qn [7,2,3])))))))))))
   (aF (iB (i:=4))))))
theorem xR:aP ["ins"] ["ins"] (aI lF):=RF
theorem xY   (F:FunD K "full_table" "full_table" lF fA fd)  :
  bR P w K mg base CX0 1 fA fd ["ins"] (spD K 1 (cW C)) :=
 F.k xR fun nd hr=>(aF (aN (qp (aW cZ (qp (aO dU (qp aG) (qp (aO dU (qp aG) (aB 0))))) (qp aG)))))
theorem uL:aP ["ins","found","k","width"] ["ins"] (aI jD):=RF
theorem uO   (F:FunD K "input_tables" "input_tables" jD fA fd) (c_full_table:aM P w K mg base "full_table" [] 1 1 (cW C)) (z_range:mg "range" = none) :
  bR P w K mg base CX0 2 fA fd ["ins"] (spD K 1 (gW C)) :=
 F.k uL fun nd hr=>(aE (Qs 1 (eM bM))
   (aE (cP rfl PassesOwn.never (cO (rs:=[]) (by rfl) z_range (aD (Qv 0) (Qn [0]))) (Qg 2) (aE (Qs 3 (qp (aO dU (qp aG) (aB 2))))
   (aE (lH (i:=1) (fr:=[3]) rfl nd rfl (Or.inl rfl) (by rfl) (cB (aB 1)) (show List.Nodup (["table","width"]:Ab Str) from by decide +kernel) (by rfl) (fun _ _ _ _ _ _=>dF) (fun _ _ _ _ _ _=>(qp (aW yV (aB 0) (qp (aO dU (aB 0) (aB 1)))))))
   (aF (gZ 1 (qp (aO dU (Qc c_full_table (aD (Qv 2) (Qn [2]))) (aB 3))))))))
   (aF (iB (i:=1)))))
theorem Z1f:aP ["circuit","fault"] ["circuit","fault"] (aI fI):=RF
theorem Z1E   (F:FunD K "tables" "tables" fI fA fd) (c_borne:aM P w K mg base "borne" [] 3 4 (uW C)) (c_full_table:aM P w K mg base "full_table" [] 1 1 (cW C)) (c_input_tables:aM P w K mg base "input_tables" [] 2 1 (gW C)) (hC:Cls K C) (hA_ins:NoAttr K C "ins") :
  bR P w K mg base CX0 4 fA fd ["circuit","fault"] (spD K 2 (jH C)) :=
 F.k Z1f fun nd hr=>(aF (aN (Qc c_borne (aD (Qv 0) (aD (QE.weak (Qc c_input_tables (aD (RG (eY hC hA_ins (aB 0))) (Qn [0])))) (aD (QE.weak (Qc c_full_table (aD (RG (eY hC hA_ins (aB 0))) (Qn [0])))) (aD (Qv 1) (Qn [0,1]))))))))
theorem U6:aP ["circuit","values"] ["circuit","values"] (aI sH):=RF
theorem X4   (F:FunD K "at_outs" "at_outs" sH fA fd) (hC:Cls K C) (hA_outs:NoAttr K C "outs") :
  bR P w K mg base CX0 1 fA fd ["circuit","values"] (spD K 2 (nW C)) :=
 F.k U6 fun nd hr=>(aF (aN (dS (fr:=[1]) rfl (by rfl) (cB (eY hC hA_outs (aB 0))) (show List.Nodup (["out","values"]:Ab Str) from by decide +kernel) (by rfl) (fun _ _ _ _ _ _=>dF) (fun _ _ _ _ _ _=>(QE.flat (aS (aB 1) (aB 0)))))))
theorem xO:aP ["circuit","fault"] ["circuit","fault"] (aI cA):=RF
theorem xV   (F:FunD K "out_tables" "out_tables" cA fA fd) (c_at_outs:aM P w K mg base "at_outs" [] 1 2 (nW C)) (c_tables:aM P w K mg base "tables" [] 4 2 (jH C)) :
  bR P w K mg base CX0 5 fA fd ["circuit","fault"] (spD K 2 (bD C)) :=
 F.k xO fun nd hr=>(aF (aN (Qc c_at_outs (aD (Qv 0) (aD (QE.weak (Qc c_tables (aD (Qv 0) (aD (Qv 1) (Qn [0,1]))))) (Qn [0]))))))
theorem xN:aP ["circuit","wire"] ["circuit","wire"] (aI lC):=RF
theorem xU   (F:FunD K "sources_of" "sources_of" lC fA fd) (c_leg_wires:aM P w K mg base "leg_wires" [] 1 1 (dJ C)) (hC:Cls K C) (hA_ins:NoAttr K C "ins") (hA_rows:NoAttr K C "rows") :
  bR P w K mg base CX0 2 fA fd ["circuit","wire"] (spD K 2 (cV C)) :=
 F.k xN fun nd hr=>(aE (bT (vY (aB 1) (eY hC hA_ins (aB 0))) (aF (aN (eM bM))) aV)
   (aF (aN (Qc c_leg_wires (aD (QE.more (aS (eY hC hA_rows (aB 0)) (qp (aW cZ (aB 1) (eY hC hA_ins (aB 0))))) (by simp)) (Qn [0]))))))
theorem Z1g:aP ["circuit","marked","out","wire","source"] ["circuit"] (aI vP):=RF
theorem Z1F   (F:FunD K "needed" "needed" vP fA fd) (c_sources_of:aM P w K mg base "sources_of" [] 2 2 (cV C)) (z_len:mg "len" = none) (z_range:mg "range" = none) (z_sorted:mg "sorted" = none) (hC:Cls K C) (hA_ins:NoAttr K C "ins") (hA_outs:NoAttr K C "outs") (hA_rows:NoAttr K C "rows") :
  bR P w K mg base CX0 3 fA fd ["circuit"] (spD K 1 (qF C)) :=
 F.k Z1g fun nd hr=>(aE (Qs 1 Z38)
   (aE (cP rfl PassesOwn.never (cB (eY hC hA_outs (aB 0))) (Qg 2) (aF (Z0v (Z40 hr) 1 (aB 2) (qp fS))))
   (aE (cP rfl PassesOwn.never (Z1r (rs:=[]) (by rfl) z_range (aD (QE.weak (qp (aW cZ (qp (aW gC (eY hC hA_ins (aB 0)) (qp (cJ (by rfl) z_len (eY hC hA_rows (aB 0)))))) (qp aG)))) (aD (QE.weak (qp (aW cZ (eY hC hA_ins (aB 0)) (qp aG)))) (aD (QE.weak (qp Z6X)) (Qn []))))) (Qg 3) (aF (bT (Z6S (Z40 hr) (aB 3) (aB 1)) (aF (cP rfl PassesOwn.never (cB (m1:=true) (rs:=[]) (Qc c_sources_of (aD (Qv 0) (aD (Qv 3) (Qn [0,3]))))) (Qg 4) (aF (Z0v (Z40 hr) 1 (aB 4) (qp fS))))) aV)))
   (aF (aN (qp (Z32 rfl (by rfl) z_sorted (aB 1))))))))
theorem rS:aP ["circuit","wire"] ["circuit","wire"] (aI iM):=RF
theorem sO   (F:FunD K "bits_to_stick" "bits_to_stick" iM fA fd) (hC:Cls K C) (hA_ins:NoAttr K C "ins") (hA_rows:NoAttr K C "rows") :
  bR P w K mg base CX0 1 fA fd ["circuit","wire"] (spD K 2 (bJ C)) :=
 F.k rS fun nd hr=>(aE (bT (QW.qt (kA (Z0t (aB 1) (eY hC hA_ins (aB 0))) (jT (dQ (cD hr) (aS (aS (eY hC hA_rows (aB 0)) (qp (aW cZ (aB 1) (eY hC hA_ins (aB 0))))) (qp aG)) (qp cR))))) (aF (aN (eM (aD (qp (aW cZ (qp aG) (aS (aS (eY hC hA_rows (aB 0)) (qp (aW cZ (aB 1) (eY hC hA_ins (aB 0))))) (qp aG)))) bM)))) aV)
   (aF (aN (eM (aD (qp aG) (aD (qp aG) bM))))))
theorem xS:aP ["circuit","faults","wire","bit","leg","source"] ["circuit"] (aI lG):=RF
theorem xZ   (F:FunD K "all_faults" "all_faults" lG fA fd) (c_bits_to_stick:aM P w K mg base "bits_to_stick" [] 1 2 (bJ C)) (c_needed:aM P w K mg base "needed" [] 3 1 (qF C)) (c_sources_of:aM P w K mg base "sources_of" [] 2 2 (cV C)) (z_enumerate:mg "enumerate" = none) :
  bR P w K mg base CX0 4 fA fd ["circuit"] (spD K 1 (fG C)) :=
 F.k xS fun nd hr=>(aE (Qs 1 (eM bM))
   (aE (cP rfl PassesOwn.never (cB (m1:=true) (rs:=[]) (Qc c_needed (aD (Qv 0) (Qn [0])))) (Qg 2) (aE (cP rfl PassesOwn.never (cB (m1:=true) (rs:=[]) (Qc c_bits_to_stick (aD (Qv 0) (aD (Qv 2) (Qn [0,2]))))) (Qg 3) (aF (gZ 1 (jE (aD (qp cR) (aD (QE.flat (aB 2)) (aD (QE.flat (aB 3)) bM)))))))
   (aF (cP rfl PassesOwn.never (Z4Z (m1:=true) (rs:=[]) (by rfl) z_enumerate (aD (Qc c_sources_of (aD (Qv 0) (aD (Qv 2) (Qn [0,2])))) bM)) (vZ (is:=[4,5]) rfl (dC (dG (i:=4) nd rfl (Or.inl rfl)) (dC (dG (i:=5) nd rfl (Or.inl rfl)) lK)) rfl) (aF (cP rfl PassesOwn.never (cB (m1:=true) (rs:=[]) (Qc c_bits_to_stick (aD (Qv 0) (aD (Qv 5) (Qn [0,5]))))) (Qg 3) (aF (gZ 1 (jE (aD (qp cR) (aD (QE.flat (aB 2)) (aD (QE.flat (aB 4)) (aD (QE.flat (aB 3)) bM)))))))))))))
   (aF (iB (i:=1)))))
theorem B0:aP ["one_tables","other_tables","found","one","other"] ["one_tables","other_tables"] (aI mN):=RF
theorem D2   (F:FunD K "differing" "differing" mN fA fd) (z_zip:mg "zip" = none) :
  bR P w K mg base CX0 1 fA fd ["one_tables","other_tables"] (spD K 2 (gL C)) :=
 F.k B0 fun nd hr=>(aE (Qs 2 (qp aG))
   (aE (cP rfl PassesOwn.never (Z2Z (rs:=[0,1]) (by rfl) z_zip (aD (Qv 0) (aD (Qv 1) (Qn [0,1])))) (vZ (is:=[3,4]) rfl (dC (dG (i:=3) nd rfl (Or.inl rfl)) (dC (dG (i:=4) nd rfl (Or.inl rfl)) lK)) rfl) (aF (Qs 2 (qp (aW yV (aB 2) (qp (aW C4 (aB 3) (aB 4))))))))
   (aF (aN (QE.flat (aB 2))))))
theorem K4:aP ["circuit","faults","good"] ["circuit","faults"] (aI oU):=RF
theorem L9   (F:FunD K "tellings" "tellings" oU fA fd) (c_differing:aM P w K mg base "differing" [] 1 2 (gL C)) (c_out_tables_d:aM P w K mg base "out_tables" [.non] 5 2 (bD C)) (c_out_tables:aM P w K mg base "out_tables" [] 5 2 (bD C)) :
  bR P w K mg base CX0 6 fA fd ["circuit","faults"] (spD K 2 (lQ C)) :=
 F.k K4 fun nd hr=>(aE (Qs 2 (Qc c_out_tables_d (aD (Qv 0) (Qn [0]))))
   (aF (aN (dS (fr:=[2,0]) rfl (by rfl) (cB (aB 1)) (show List.Nodup (["fault","good","circuit"]:Ab Str) from by decide +kernel) (by rfl) (fun _ _ _ _ _ _=>dF) (fun _ _ _ _ _ _=>(Qc c_differing (aD (Qv 1) (aD (QE.weak (Qc c_out_tables (aD (Qv 2) (aD (Qv 0) (Qn [2,0]))))) (Qn [1])))))))))
theorem vN:aP ["told"] ["told"] (aI jY):=RF
theorem wG   (F:FunD K "least_given" "least_given" jY fA fd)  :
  bR P w K mg base CX0 1 fA fd ["told"] (spD K 1 (gA C)) :=
 F.k vN fun nd hr=>(aE (bT (dQ (cD hr) (aB 0) (qp aG)) (aF (aN (qp sL))) aV)
   (aF (aN (qp (aW cZ (qp (Z0y (qp (aW pF (aB 0) (qp (Z51 (aB 0))))))) (qp aG))))))
theorem A9:aP ["marks"] ["marks"] (aI mM):=RF
theorem D1   (F:FunD K "givens_in" "givens_in" mM fA fd) (z_range:mg "range" = none) :
  bR P w K mg base CX0 1 fA fd ["marks"] (spD K 1 (gK C)) :=
 F.k A9 fun nd hr=>(aF (aN (dS (fr:=[0]) rfl (by rfl) (cO (rs:=[]) (by rfl) z_range (aD (QE.weak (qp (Z0y (aB 0)))) (Qn []))) (show List.Nodup (["given","marks"]:Ab Str) from by decide +kernel) (by rfl) (fun _ _ _ _ _ _=>nK (dQ (cD hr) (qp (aW pF (qp (aO Z3q (aB 1) (aB 0))) (qp aG))) (qp aG))) (fun _ _ _ _ _ _=>(QE.flat (aB 0))))))
theorem uJ:aP ["circuit","found","page","table"] ["circuit","found"] (aI jB):=RF
theorem uM   (F:FunD K "side_by_side" "side_by_side" jB fA fd) (hC:Cls K C) (hA_ins:NoAttr K C "ins") :
  bR P w K mg base CX0 1 fA fd ["circuit","found"] (spD K 2 (cX C)) :=
 F.k uJ fun nd hr=>(aE (Qs 2 (qp aG))
   (aE (cP rfl PassesOwn.never (cB (aB 1)) (Qg 3) (aF (Qs 2 (qp (aW yV (qp (aO dU (aB 2) (qp (aO dU (qp aG) (eY hC hA_ins (aB 0)))))) (aB 3))))))
   (aF (aN (QE.flat (aB 2))))))
theorem A4:aP ["circuit","pages","marks","tested"] ["circuit","pages","marks"] (aI mH):=RF
theorem C6   (F:FunD K "parts_all" "parts_all" mH fA fd) (c_side_by_side:aM P w K mg base "side_by_side" [] 1 2 (cX C)) (z_len:mg "len" = none) (z_set:mg "set" = none) (hC:Cls K C) (hA_outs:NoAttr K C "outs") :
  bR P w K mg base CX0 2 fA fd ["circuit","pages","marks"] (spD K 3 (eV C)) :=
 F.k A4 fun nd hr=>(aE (Qs 3 (Qc c_side_by_side (aD (Qv 0) (aD (QE.weak (dS (fr:=[2]) rfl (by rfl) (cB (eY hC hA_outs (aB 0))) (show List.Nodup (["out","marks"]:Ab Str) from by decide +kernel) (by rfl) (fun _ _ _ _ _ _=>dF) (fun _ _ _ _ _ _=>(QE.flat (aB 1))))) (Qn [0])))))
   (aF (aN (qp (Z0x (cD hr) (qp (Z53 rfl (by rfl) z_len (by rfl) z_set (dS (fr:=[3]) rfl (by rfl) (cB (aB 1)) (show List.Nodup (["page","tested"]:Ab Str) from by decide +kernel) (by rfl) (fun _ _ _ _ _ _=>dF) (fun _ _ _ _ _ _=>(qp (aW pF (aB 0) (aB 1))))))) (qp (cJ (by rfl) z_len (aB 1))))))))
theorem Sac:aP ["marks","spare","is_enough","kept","given","fewer"] ["marks","spare","is_enough"] (aI U8):=RF
theorem Z5p   (F:FunD K "thin" "thin" U8 fA fd) (c_parts_all:aM P w K mg base "parts_all" [] 2 3 (eV C)) :
  Z10 P w K mg base 4 fA fd ["marks","spare","is_enough"] 3 Z6z (wL C):=by
 have nd:=Sac.nd;refine F.okL Sac rfl rfl fun a0 dv0 cdv A outer s H E hr hS=>?_;exact (aE (Qs 3 (QE.flat (aB 0)))
   (aE (cP rfl PassesOwn.never (cB (aB 1)) (Qg 4) (aE (Qs 5 (qp (aW C4 (aB 3) (qp (aO dU (qp aG) (aB 4))))))
   (aF (bT (fR (Z1t (x := "marks") (k:=2) (i:=2) rfl (Or.inl rfl) rfl hS (hr.mono (by decide)) (aB 5) (fun _ _ _ _ _=>rfl) rfl (by intro n hn;simp at hn;first | (subst hn;rfl) | (rcases hn with rfl | rfl <;> rfl)) (by decide +kernel) rfl rfl rfl (fun _ _ _ _ _ _ _ hr=>(Qc c_parts_all (aD (Qv 1) (aD (Qv 2) (aD (Qv 0) (Qn [1,2,0])))))))) (aF (Qs 3 (QE.flat (aB 5)))) aV))))
   (aF (aN (QE.flat (aB 3))))))
theorem U5:aP ["found","given"] ["found","given"] (aI sG):=RF
theorem X3   (F:FunD K "bits_at" "bits_at" sG fA fd)  :
  bR P w K mg base CX0 1 fA fd ["found","given"] (spD K 2 (nV C)) :=
 F.k U5 fun nd hr=>(aF (aN (dS (fr:=[1]) rfl (by rfl) (cB (aB 0)) (show List.Nodup (["table","given"]:Ab Str) from by decide +kernel) (by rfl) (fun _ _ _ _ _ _=>dF) (fun _ _ _ _ _ _=>(qp (aW pF (qp (aO Z3q (aB 0) (aB 1))) (qp aG)))))))
theorem U7:aP ["circuit","tests","fault","found"] ["circuit","tests","fault"] (aI dZ):=RF
theorem X5   (F:FunD K "answers" "answers" dZ fA fd) (c_bits_at:aM P w K mg base "bits_at" [] 1 2 (nV C)) (c_out_tables:aM P w K mg base "out_tables" [] 5 2 (bD C)) :
  bR P w K mg base CX0 6 fA fd ["circuit","tests","fault"] (spD K 3 (eU C)) :=
 F.k U7 fun nd hr=>(aE (Qs 3 (Qc c_out_tables (aD (Qv 0) (aD (Qv 2) (Qn [0,2])))))
   (aF (aN (dS (fr:=[3]) rfl (by rfl) (cB (aB 1)) (show List.Nodup (["test","found"]:Ab Str) from by decide +kernel) (by rfl) (fun _ _ _ _ _ _=>dF) (fun _ _ _ _ _ _=>(Qc c_bits_at (aD (Qv 1) (aD (Qv 0) (Qn [1,0])))))))))
theorem oS:aP ["circuit"] ["circuit"] (aI gQ):=RF
theorem pG   (F:FunD K "good_and_faults" "good_and_faults" gQ fA fd) (c_all_faults:aM P w K mg base "all_faults" [] 4 1 (fG C)) :
  bR P w K mg base CX0 5 fA fd ["circuit"] (spD K 1 (cL C)) :=
 F.k oS fun nd hr=>(aF (aN (Z3a (eM (aD (qp sL) bM)) (Qc c_all_faults (aD (Qv 0) (Qn [0]))))))
theorem Z2L:aP ["circuit","tests","told"] ["circuit","tests","told"] (aI B4):=RF
theorem Z3x   (F:FunD K "named" "named" B4 fA fd) (c_answers:aM P w K mg base "answers" [] 6 3 (eU C)) (c_good_and_faults:aM P w K mg base "good_and_faults" [] 5 1 (cL C)) :
  bR P w K mg base CX0 7 fA fd ["circuit","tests","told"] (spD K 3 (qG C)) :=
 F.k Z2L fun nd hr=>(aF (aN (dS (fr:=[2,0,1]) rfl (by rfl) (cB (m1:=true) (rs:=[]) (Qc c_good_and_faults (aD (Qv 0) (Qn [0])))) (show List.Nodup (["fault","told","circuit","tests"]:Ab Str) from by decide +kernel) (by rfl) (fun _ _ _ _ _ _=>nK (dQ (cD hr) (Qc c_answers (aD (Qv 2) (aD (Qv 3) (aD (Qv 0) (Qn [2,3,0]))))) (aB 1))) (fun _ _ _ _ _ _=>(QE.flat (aB 0))))))
theorem T2:aP ["circuit","one","other"] ["circuit","one","other"] (aI rT):=RF
theorem W2   (F:FunD K "parting" "parting" rT fA fd) (c_differing:aM P w K mg base "differing" [] 1 2 (gL C)) (c_least_given:aM P w K mg base "least_given" [] 1 1 (gA C)) (c_out_tables:aM P w K mg base "out_tables" [] 5 2 (bD C)) :
  bR P w K mg base CX0 6 fA fd ["circuit","one","other"] (spD K 3 (nQ C)) :=
 F.k T2 fun nd hr=>(aF (aN (Qc c_least_given (aD (QE.weak (Qc c_differing (aD (QE.weak (Qc c_out_tables (aD (Qv 0) (aD (Qv 1) (Qn [0,1]))))) (aD (QE.weak (Qc c_out_tables (aD (Qv 0) (aD (Qv 2) (Qn [0,2]))))) (Qn []))))) (Qn [])))))
theorem K5:aP ["circuit"] ["circuit"] (aI oV):=RF
theorem M0   (F:FunD K "pages_of" "pages_of" oV fA fd) (c_good_and_faults:aM P w K mg base "good_and_faults" [] 5 1 (cL C)) (c_out_tables:aM P w K mg base "out_tables" [] 5 2 (bD C)) (c_side_by_side:aM P w K mg base "side_by_side" [] 1 2 (cX C)) (z_set:mg "set" = none) (z_sorted:mg "sorted" = none) :
  bR P w K mg base CX0 6 fA fd ["circuit"] (spD K 1 (lR C)) :=
 F.k K5 fun nd hr=>(aF (aN (qp (Z31 rfl (by rfl) z_sorted (by rfl) z_set (dS (fr:=[0]) rfl (by rfl) (cB (m1:=true) (rs:=[]) (Qc c_good_and_faults (aD (Qv 0) (Qn [0])))) (show List.Nodup (["fault","circuit"]:Ab Str) from by decide +kernel) (by rfl) (fun _ _ _ _ _ _=>dF) (fun _ _ _ _ _ _=>(Qc c_side_by_side (aD (Qv 1) (aD (QE.weak (Qc c_out_tables (aD (Qv 1) (aD (Qv 0) (Qn [1,0]))))) (Qn [1]))))))))))
theorem Sad:aP ["circuit","tests","every","spare","pages"] ["circuit","tests"] (aI dN):=RF
theorem W1 {P:Aj}{w:Ak}{K:Frag}{mg:Str->Aa Ad}{base:Ah}{C fA P0:Af}{fd:FuncData}  (F:FunD K "widened" "widened" dN fA fd) (c_full_table:aM P w K mg base "full_table" [] 1 1 (cW C)) (c_givens_in:aM P w K mg base "givens_in" [] 1 1 (gK C)) (c_pages_of:aM P w K mg base "pages_of" [] 6 1 (lR C)) (c_thin:G9 P w K mg base "thin" 4 3 Z6z (wL C)) (L_lam:LamIn fd base mg P0) (hC:Cls K C) (hA_ins:NoAttr K C "ins") :
  bR P w K mg base CX0 7 fA fd ["circuit","tests"] (spT K P0 (lamPos l_lam,q_lam) 2 (kM C)):=by
 have nd:=Sad.nd;exact F.okT Sad rfl rfl fun _ _ _ _ _ _ hr hcd hT=>(aE (Qs 2 (Qc c_full_table (aD (RG (eY hC hA_ins (aB 0))) (Qn [0]))))
   (aE (lH (i:=3) (fr:=[1]) rfl nd rfl (Or.inl rfl) (by rfl) (cB (m1:=true) (rs:=[]) (Qc c_givens_in (aD (Qv 2) (Qn [2])))) (show List.Nodup (["given","tests"]:Ab Str) from by decide +kernel) (by rfl) (fun _ _ _ _ _ _=>nK (Z2Y (Z2S hr) (aB 0) (aB 1))) (fun _ _ _ _ _ _=>(QE.flat (aB 0))))
   (aE (Qs 4 (Qc c_pages_of (aD (Qv 0) (Qn [0]))))
   (aF (aN (Qc c_givens_in (aD (QE.weak (V2 c_thin (L_lam.at hcd hT rfl) (hr.mono (by decide)) (aB 2) (aB 3) [0,4] (fun _=>rfl) rfl (by decide +kernel) (by intro n hn;simp at hn;first | (subst hn;rfl) | (rcases hn with rfl | rfl <;> rfl)) (by intro n hn;simp at hn;first | (subst hn;rfl) | (rcases hn with rfl | rfl <;> rfl)) rfl (by intro i n h;match i,h with | 0,h=>(cases h;exact⟨_,rfl,rfl⟩) | 1,h=>(first | (cases h;done) | (cases h;exact⟨_,rfl,rfl⟩)) | i + 2,h=>(simp at h)))) (Qn []))))))))
theorem Z4P:aP ["circuit","faults"] ["circuit"] (aI V0):=RF
theorem Z5r   (F:FunD K "idle" "idle" V0 fA fd) (c_all_faults:aM P w K mg base "all_faults" [] 4 1 (fG C)) (c_tellings:aM P w K mg base "tellings" [] 6 2 (lQ C)) (z_zip:mg "zip" = none) :
  bR P w K mg base CX0 7 fA fd ["circuit"] (spD K 1 (D5 C)) :=
 F.k Z4P fun nd hr=>(aE (Qs 1 (Qc c_all_faults (aD (Qv 0) (Qn [0]))))
   (aF (aN (Z39 (fr:=[]) rfl (by rfl) (Z2Z (rs:=[1]) (by rfl) z_zip (aD (Qv 1) (aD (QE.weak (Qc c_tellings (aD (Qv 0) (aD (Qv 1) (Qn [0,1]))))) (Qn [1])))) (show List.Nodup (["fault","told"]:Ab Str) from by decide +kernel) (by rfl) (by rfl) (fun _ _ _ _ _ _=>nK (dQ (cD hr) (aB 1) (qp aG))) (fun _ _ _ _ _ _=>(QE.flat (aB 0)))))))
theorem T6:aP ["_law_found"] ["_law_found"] (aI rX):=RF
theorem W5   (F:FunD K "_law_whole" "_law_whole" rX fA fd) (z_bool:mg "bool" = none) (z_int:mg "int" = none) (z_isinstance:mg "isinstance" = none) :
  bR P w K mg base CX0 1 fA fd ["_law_found"] (spD K 1 (cS C)) :=
 F.k T6 fun nd hr=>(aF (aN (qp (Z3b (qp (gJ (by rfl) z_isinstance (aB 0) (by rfl) z_int PD.boot_int (Z5M _))) (Z34 (qp (Z6W (qp (gJ (by rfl) z_isinstance (aB 0) (by rfl) z_bool PD.boot_bool (Z3U _))))))))))
theorem Z4O:aP ["_law_script","_law_k"] ["_law_script","_law_k"] (aI U9):=RF
theorem Z5q   (F:FunD K "_law_at" "_law_at" U9 fA fd) (z_len:mg "len" = none) :
  bR P w K mg base CX0 1 fA fd ["_law_script","_law_k"] (spD K 2 (jJ C)) :=
 F.k Z4O fun nd hr=>(aE (bT (vY (aB 1) (qp (cJ (by rfl) z_len (aB 0)))) (aF (aN (QE.flat (aS (aB 0) (aB 1))))) aV)
   (aF (aN (qp aG))))
theorem T9:aP ["_law_cell","_law_k","_law_number"] ["_law_cell","_law_k"] (aI rZ):=RF
theorem W7   (F:FunD K "_law_mixed" "_law_mixed" rZ fA fd)  :
  bR P w K mg base CX0 1 fA fd ["_law_cell","_law_k"] (spD K 2 (cT C)) :=
 F.k T9 fun nd hr=>(aE (bT (Z0t (aB 0) (qp (aO Z3r (qp aG) (qp aG)))) (aF (aN (qp (aO cK (qp (aO eT (qp (aW cZ (aB 0) (qp (aO Z3r (qp aG) (qp aG))))) (qp (aO dU (qp aG) (qp (aO eZ (qp aG) (qp (aO cK (aB 1) (qp aG))))))))) (qp (aO dU (qp aG) (qp aG))))))) aV)
   (aE (Qs 2 (qp (aO cK (qp (aW gC (qp (aW gC (qp (aO eZ (aB 0) (qp aG))) (qp (aO eZ (qp (aO eZ (qp aG) (aB 1))) (aB 1))))) (aB 1))) (qp aG))))
   (aE (Qs 2 (qp (aO cK (qp (aO eZ (aB 2) (aB 2))) (qp aG))))
   (aF (aN (qp (aO cK (qp (aO eZ (aB 2) (qp aG))) (qp aG))))))))
theorem U2:aP ["_law_script","_law_many","_law_found","_law_some","_law_k","_law_at_here","_law_left"] ["_law_script","_law_many"] (aI sC):=RF
theorem X0   (F:FunD K "_law_folds" "_law_folds" sC fA fd) (c_l_mixed:aM P w K mg base "_law_mixed" [] 1 2 (cT C)) (z_len:mg "len" = none) (z_range:mg "range" = none) :
  bR P w K mg base CX0 2 fA fd ["_law_script","_law_many"] (spD K 2 (nT C)) :=
 F.k U2 fun nd hr=>(aE (lH (i:=2) (fr:=[]) rfl nd rfl (Or.inl rfl) (by rfl) (cO (rs:=[]) (by rfl) z_range (aD (Qv 1) (Qn [1]))) (show List.Nodup (["_law_k"]:Ab Str) from by decide +kernel) (by rfl) (fun _ _ _ _ _ _=>dF) (fun _ _ _ _ _ _=>(qp (aW gC (qp (aO eZ (aB 0) (aB 0))) (qp aG)))))
   (aE (Qs 3 (qp (mQ (aB 0) lJ (lI (qp aG)))))
   (aE (cP rfl PassesOwn.never (Z1s (rs:=[]) (by rfl) z_range (aD (QE.weak (qp aG)) (aD (QE.weak (qp (cJ (by rfl) z_len (aB 3)))) (Qn [])))) (Qg 4) (aE (Qs 5 (qp (aO cK (aB 4) (aB 1))))
   (aE (Qs 6 (qp (aW gC (qp (aO eZ (aS (aB 2) (aB 5)) (qp aG))) (Qc c_l_mixed (aD (RG (aS (aB 3) (aB 4))) (aD (Qv 4) (Qn [3,4])))))))
   (aF (Z0u 2 (aB 5) (qp (aO cK (aB 6) (qp aG))))))))
   (aF (iB (i:=2))))))
theorem Z1i:aP ["_law_ins","_law_numbers","_law_rows_here","_law_number","_law_at_here","_law_one","_law_two"] ["_law_ins","_law_numbers"] (aI vS):=RF
theorem Z1H   (F:FunD K "_law_rows" "_law_rows" vS fA fd) (z_len:mg "len" = none) (z_max:mg "max" = none) (z_min:mg "min" = none) :
  bR P w K mg base CX0 1 fA fd ["_law_ins","_law_numbers"] (spD K 2 (qH C)) :=
 F.k Z1i fun nd hr=>(aE (Qs 2 (eM bM))
   (aE (cP rfl PassesOwn.never (cB (aB 1)) (Qg 3) (aE (Qs 4 (qp (aW gC (aB 0) (qp (cJ (by rfl) z_len (aB 2))))))
   (aE (Qs 5 (qp (aW cZ (qp (aW cZ (aB 4) (qp aG))) (qp (aO cK (qp (aO eT (aB 3) (qp aG))) (qp (Z36 rfl (by rfl) z_max (aD (QE.weak (qp aG)) (aD (QE.weak (qp (Z35 rfl (by rfl) z_min (aD (Qv 4) (aD (QE.weak (qp aG)) (Qn [4])))))) (Qn []))))))))))
   (aE (Qs 6 (qp (aW cZ (qp (aW cZ (aB 4) (qp aG))) (qp (aO cK (qp (aO eT (aB 3) (qp aG))) (qp (Z36 rfl (by rfl) z_max (aD (QE.weak (qp aG)) (aD (Qv 4) (Qn [4]))))))))))
   (aF (bT (QW.qt (oH (dQ (cD hr) (aB 4) (qp aG)) (mP (dQ (cD hr) (qp (aO cK (aB 3) (qp aG))) (qp aG))))) (aF (gZ 2 (jE (aD (qp cR) (aD (qp (aO cK (qp (aO eT (aB 3) (qp aG))) (qp aG))) bM))))) (aF (bT (vY (qp (aO cK (aB 3) (qp aG))) (qp aG)) (aF (gZ 2 (jE (aD (qp cR) (aD (QE.flat (aB 5)) bM))))) (aF (gZ 2 (jE (aD (QE.flat (aS (QE.weak (rs:=[]) (eM (aD (qp cR) (aD (qp cR) (aD (qp cR) (aD (qp cR) bM)))))) (qp (aO cK (aB 3) (qp aG))))) (aD (QE.flat (aB 5)) (aD (QE.flat (aB 6)) bM))))))))))))))
   (aF (iB (i:=2)))))
theorem Z1j:aP ["_law_all_wires","_law_number","_law_outs_here","_law_k"] ["_law_all_wires","_law_number"] (aI vT):=RF
theorem Z1I   (F:FunD K "_law_outs" "_law_outs" vT fA fd) (z_len:mg "len" = none) (z_range:mg "range" = none) :
  bR P w K mg base CX0 1 fA fd ["_law_all_wires","_law_number"] (spD K 2 (qI C)) :=
 F.k Z1j fun nd hr=>(aE (Qs 2 (eM (aD (qp (aW cZ (aB 0) (qp aG))) bM)))
   (aE (cP rfl PassesOwn.never (cO (rs:=[]) (by rfl) z_range (aD (QE.weak (qp (aO cK (aB 1) (qp aG)))) (Qn []))) (Qg 3) (aF (gZ 2 (qp (aO cK (qp (aO eT (aB 1) (qp (aW gC (aB 3) (qp aG))))) (aB 0))))))
   (aE (bT (dQ (cD hr) (qp (aO cK (qp (aO eT (aB 1) (qp aG))) (qp aG))) (qp aG)) (aF (nL 2 2 nd rfl (Or.inl rfl) (dS (fr:=[0,1]) rfl (by rfl) (cO (rs:=[]) (by rfl) z_range (aD (QE.weak (qp (aW cZ (qp aG) (qp (cJ (by rfl) z_len (aB 2)))))) (Qn []))) (show List.Nodup (["_law_k","_law_all_wires","_law_number"]:Ab Str) from by decide +kernel) (by rfl) (fun _ _ _ _ _ _=>dF) (fun _ _ _ _ _ _=>(qp (aO cK (qp (aO eZ (aB 0) (aB 2))) (aB 1))))))) aV)
   (aE (bT (dQ (cD hr) (qp (aO cK (qp (aO eT (aB 1) (qp aG))) (qp aG))) (qp aG)) (aF (Qs 2 (qp (Z33 (aB 2))))) aV)
   (aF (iB (i:=2)))))))
theorem U1:aP ["_law_ins","_law_k","_law_total","_law_given"] ["_law_ins","_law_k"] (aI sB):=RF
theorem W9   (F:FunD K "_law_input" "_law_input" sB fA fd) (z_range:mg "range" = none) :
  bR P w K mg base CX0 1 fA fd ["_law_ins","_law_k"] (spD K 2 (iV C)) :=
 F.k U1 fun nd hr=>(aE (Qs 2 (qp aG))
   (aE (cP rfl PassesOwn.never (cO (rs:=[]) (by rfl) z_range (aD (QE.weak (qp (aO dU (qp aG) (aB 0)))) (Qn []))) (Qg 3) (aF (bT (dQ (cD hr) (qp (aO cK (qp (aO eT (aB 3) (qp (aO dU (qp aG) (aB 1))))) (qp aG))) (qp aG)) (aF (Qs 2 (qp (aW gC (aB 2) (qp (aO dU (qp aG) (aB 3))))))) aV)))
   (aF (aN (QE.flat (aB 2))))))
theorem U4:aP ["_law_script","_law_first","_law_ins","_law_folds_here","_law_rows_here","_law_outs_here"] ["_law_script"] (aI sE):=RF
theorem X2   (F:FunD K "_law_drawn" "_law_drawn" sE fA fd) (c_l_at:aM P w K mg base "_law_at" [] 1 2 (jJ C)) (c_l_folds:aM P w K mg base "_law_folds" [] 2 2 (nT C)) (c_l_input:aM P w K mg base "_law_input" [] 1 2 (iV C)) (c_l_outs:aM P w K mg base "_law_outs" [] 1 2 (qI C)) (c_l_rows:aM P w K mg base "_law_rows" [] 1 2 (qH C)) (z_int:mg "int" = none) (z_len:mg "len" = none) (z_range:mg "range" = none) :
  bR P w K mg base CX0 3 fA fd ["_law_script"] (spD K 1 (nU C)) :=
 F.k U4 fun nd hr=>(aE (Qs 1 (Qc c_l_at (aD (Qv 0) (aD (QE.weak (qp aG)) (Qn [0])))))
   (aE (Qs 2 (QE.flat (aS (QE.weak (rs:=[]) (eM (aD (qp (aO cK (aB 1) (qp aG))) (aD (qp (aO cK (qp (aO eT (aB 1) (qp aG))) (qp aG))) bM)))) (qp (Z0w (by rfl) z_int (qp (Z0x (cD hr) (qp (aO cK (qp (aO eT (aB 1) (qp aG))) (qp aG))) (qp aG))))))))
   (aE (Qs 3 (Qc c_l_folds (aD (Qv 0) (aD (QE.weak (qp aG)) (Qn [0])))))
   (aE (Qs 4 (Qc c_l_rows (aD (Qv 2) (aD (QE.weak (qp (mQ (aB 3) lJ (lI (qp (aO cK (Qc c_l_at (aD (Qv 0) (aD (QE.weak (qp aG)) (Qn [0])))) (qp aG))))))) (Qn [2])))))
   (aE (bT (dQ (cD hr) (qp (aW gC (aB 2) (qp (cJ (by rfl) z_len (aB 4))))) (qp aG)) (aF (Qs 4 (eM (aD (jE (aD (qp cR) (aD (qp (aO cK (qp (aO eT (aB 1) (qp aG))) (qp aG))) bM))) bM)))) aV)
   (aE (Qs 5 (Qc c_l_outs (aD (QE.weak (qp (aW gC (aB 2) (qp (cJ (by rfl) z_len (aB 4)))))) (aD (RG (aS (aB 3) (qp aG))) (Qn [3])))))
   (aF (Z4V (C1 2 (C1 4 (C1 5 (Z4X (dS (fr:=[2]) rfl (by rfl) (cO (rs:=[]) (by rfl) z_range (aD (Qv 2) (Qn [2]))) (show List.Nodup (["_law_k","_law_ins"]:Ab Str) from by decide +kernel) (by rfl) (fun _ _ _ _ _ _=>dF) (fun _ _ _ _ _ _=>(Qc c_l_input (aD (Qv 1) (aD (Qv 0) (Qn [1,0])))))) Z4W))))))))))))
theorem Z2N:aP ["_law_seen","_law_row","_law_leg_here","_law_fault_here","_law_wire","_law_most"] ["_law_seen","_law_row","_law_leg_here","_law_fault_here","_law_wire","_law_most"] (aI B6):=RF
theorem Z3z   (F:FunD K "_law_leg" "_law_leg" B6 fA fd)  :
  bR P w K mg base CX0 1 fA fd ["_law_seen","_law_row","_law_leg_here","_law_fault_here","_law_wire","_law_most"] (spD K 6 (qK C)) :=
 F.k Z2N fun nd hr=>(aE (bT (QW.qt (kA (pY (aB 3)) (jT (dQ (cD hr) (qp (yR (aB 3) lJ (lI (qp aG)))) (jE (aD (QE.weak (qp cR)) (aD (Qv 4) (aD (Qv 2) (Qn [4,2]))))))))) (aF (aN (qp (aO eZ (aB 5) (aS (aB 3) (qp aG)))))) aV)
   (aF (aN (QE.flat (aS (aB 0) (aS (aB 1) (qp (aW gC (aB 2) (qp aG)))))))))
theorem vO:aP ["_law_seen","_law_row","_law_fault_here","_law_wire","_law_most","_law_one","_law_two"] ["_law_seen","_law_row","_law_fault_here","_law_wire","_law_most"] (aI jZ):=RF
theorem wH   (F:FunD K "_law_row_table" "_law_row_table" jZ fA fd) (c_l_leg:aM P w K mg base "_law_leg" [] 1 6 (qK C)) :
  bR P w K mg base CX0 2 fA fd ["_law_seen","_law_row","_law_fault_here","_law_wire","_law_most"] (spD K 5 (eN C)) :=
 F.k vO fun nd hr=>(aE (bT (dQ (cD hr) (aS (aB 1) (qp aG)) (qp cR)) (aF (aN (qp (aO eZ (aB 4) (aS (aB 1) (qp aG)))))) aV)
   (aE (Qs 5 (Qc c_l_leg (aD (Qv 0) (aD (Qv 1) (aD (QE.weak (qp aG)) (aD (Qv 2) (aD (Qv 3) (aD (Qv 4) (Qn [0,1,2,3,4])))))))))
   (aE (bT (dQ (cD hr) (aS (aB 1) (qp aG)) (qp cR)) (aF (aN (qp (aW cZ (aB 4) (aB 5))))) aV)
   (aE (Qs 6 (Qc c_l_leg (aD (Qv 0) (aD (Qv 1) (aD (QE.weak (qp aG)) (aD (Qv 2) (aD (Qv 3) (aD (Qv 4) (Qn [0,1,2,3,4])))))))))
   (aE (bT (dQ (cD hr) (aS (aB 1) (qp aG)) (qp cR)) (aF (aN (qp (aW pF (aB 5) (aB 6))))) aV)
   (aE (bT (dQ (cD hr) (aS (aB 1) (qp aG)) (qp cR)) (aF (aN (qp (aW yV (aB 5) (aB 6))))) aV)
   (aF (aN (qp (aW cZ (qp (aW yV (aB 5) (aB 6))) (qp (aW pF (aB 5) (aB 6)))))))))))))
theorem T5:aP ["_law_drawn_here","_law_fault_here","_law_ins","_law_rows_here","_law_outs_here","_law_inputs","_law_most","_law_seen","_law_wire"] ["_law_drawn_here","_law_fault_here"] (aI rW):=RF
theorem W4   (F:FunD K "_law_wires" "_law_wires" rW fA fd) (c_l_row_table:aM P w K mg base "_law_row_table" [] 2 5 (eN C)) (z_len:mg "len" = none) (z_range:mg "range" = none) :
  bR P w K mg base CX0 3 fA fd ["_law_drawn_here","_law_fault_here"] (spD K 2 (nR C)) :=
 F.k T5 fun nd hr=>(aE (C0 (aB 0) (vZ (is:=[2,3,4,5]) rfl (dC (dG (i:=2) nd rfl (Or.inl rfl)) (dC (dG (i:=3) nd rfl (Or.inl rfl)) (dC (dG (i:=4) nd rfl (Or.inl rfl)) (dC (dG (i:=5) nd rfl (Or.inl rfl)) lK)))) rfl))
   (aE (Qs 6 (qp (aW cZ (qp (aO dU (qp aG) (qp (aO dU (qp aG) (aB 2))))) (qp aG))))
   (aE (Qs 7 (eM bM))
   (aE (cP rfl PassesOwn.never (cO (rs:=[]) (by rfl) z_range (aD (QE.weak (qp (aW gC (aB 2) (qp (cJ (by rfl) z_len (aB 3)))))) (Qn []))) (Qg 8) (aF (bT (QW.qt (kA (pY (aB 1)) (jT (dQ (cD hr) (qp (yR (aB 1) lJ (lI (qp aG)))) (jE (aD (QE.weak (qp cR)) (aD (Qv 8) (Qn [8])))))))) (aF (gZ 7 (qp (aO eZ (aB 6) (aS (aB 1) (qp aG)))))) (aF (bT (vY (aB 8) (aB 2)) (aF (gZ 7 (QE.flat (aS (aB 5) (aB 8))))) (aF (gZ 7 (Qc c_l_row_table (aD (Qv 7) (aD (QE.more (aS (aB 3) (qp (aW cZ (aB 8) (aB 2)))) (by simp)) (aD (Qv 1) (aD (Qv 8) (aD (Qv 6) (Qn [7,3,1,8,6]))))))))))))))
   (aF (iB (i:=7)))))))
theorem uK:aP ["_law_drawn_here","_law_fault_here","_law_seen"] ["_law_drawn_here","_law_fault_here"] (aI jC):=RF
theorem uN   (F:FunD K "_law_out_tables" "_law_out_tables" jC fA fd) (c_l_wires:aM P w K mg base "_law_wires" [] 3 2 (nR C)) :
  bR P w K mg base CX0 4 fA fd ["_law_drawn_here","_law_fault_here"] (spD K 2 (dR C)) :=
 F.k uK fun nd hr=>(aE (Qs 2 (Qc c_l_wires (aD (Qv 0) (aD (Qv 1) (Qn [0,1])))))
   (aF (aN (dS (fr:=[2]) rfl (by rfl) (cB (aS (aB 0) (qp aG))) (show List.Nodup (["_law_wire","_law_seen"]:Ab Str) from by decide +kernel) (by rfl) (fun _ _ _ _ _ _=>dF) (fun _ _ _ _ _ _=>(QE.flat (aS (aB 1) (aB 0))))))))
theorem Z2M:aP ["_law_drawn_here","_law_wire"] ["_law_drawn_here","_law_wire"] (aI B5):=RF
theorem Z3y   (F:FunD K "_law_own" "_law_own" B5 fA fd) (z_list:mg "list" = none) :
  bR P w K mg base CX0 1 fA fd ["_law_drawn_here","_law_wire"] (spD K 2 (lS C)) :=
 F.k Z2M fun nd hr=>(aE (bT (QW.qt (oH (vY (aB 1) (aS (aB 0) (qp aG))) (mP (dQ (cD hr) (aS (aS (aS (aB 0) (qp aG)) (qp (aW cZ (aB 1) (aS (aB 0) (qp aG))))) (qp aG)) (qp cR))))) (aF (aN (eM bM))) aV)
   (aF (aN (qp (nM (by rfl) z_list (qp (mQ (aS (aS (aB 0) (qp aG)) (qp (aW cZ (aB 1) (aS (aB 0) (qp aG))))) (lI (qp aG)) lJ)))))))
theorem A7:aP ["_law_drawn_here","_law_wire"] ["_law_drawn_here","_law_wire"] (aI mK):=RF
theorem C9   (F:FunD K "_law_bits_of" "_law_bits_of" mK fA fd)  :
  bR P w K mg base CX0 1 fA fd ["_law_drawn_here","_law_wire"] (spD K 2 (eE C)) :=
 F.k A7 fun nd hr=>(aE (bT (QW.qt (kA (Z0t (aB 1) (aS (aB 0) (qp aG))) (jT (dQ (cD hr) (aS (aS (aS (aB 0) (qp aG)) (qp (aW cZ (aB 1) (aS (aB 0) (qp aG))))) (qp aG)) (qp cR))))) (aF (aN (eM (aD (qp (aW cZ (qp aG) (aS (aS (aS (aB 0) (qp aG)) (qp (aW cZ (aB 1) (aS (aB 0) (qp aG))))) (qp aG)))) bM)))) aV)
   (aF (aN (eM (aD (qp aG) (aD (qp aG) bM))))))
theorem K7:aP ["_law_drawn_here","_law_wanted","_law_wire","_law_found","_law_own_here","_law_leg_here"] ["_law_drawn_here"] (aI oX):=RF
theorem M5   (F:FunD K "_law_faults" "_law_faults" oX fA fd) (c_l_bits_of:aM P w K mg base "_law_bits_of" [] 1 2 (eE C)) (c_l_own:aM P w K mg base "_law_own" [] 1 2 (lS C)) (z_len:mg "len" = none) (z_list:mg "list" = none) (z_range:mg "range" = none) (z_reversed:mg "reversed" = none) :
  bR P w K mg base CX0 2 fA fd ["_law_drawn_here"] (spD K 1 (gD C)) :=
 F.k K7 fun nd hr=>(aE (Qs 1 (qp (nM (by rfl) z_list (aS (aB 0) (qp aG)))))
   (aE (cP rfl PassesOwn.never (Z4Y (rs:=[]) (by rfl) z_range (by rfl) z_reversed (aD (QE.weak (qp (aW gC (aS (aB 0) (qp aG)) (qp (cJ (by rfl) z_len (aS (aB 0) (qp aG))))))) (Qn []))) (Qg 2) (aF (bT (Z6s (Z2S hr) (aB 2) (aB 1)) (aF (nL 1 1 nd rfl (Or.inl rfl) (Qc c_l_own (aD (Qv 0) (aD (Qv 2) (Qn [0,2])))))) aV)))
   (aE (Qs 3 (eM bM))
   (aE (cP rfl PassesOwn.never (cO (rs:=[]) (by rfl) z_range (aD (QE.weak (qp (aW gC (aS (aB 0) (qp aG)) (qp (cJ (by rfl) z_len (aS (aB 0) (qp aG))))))) (Qn []))) (Qg 2) (aF (bT (Z6s (Z2S hr) (aB 2) (aB 1)) (aE (nL 3 3 nd rfl (Or.inl rfl) (dS (fr:=[2]) rfl (by rfl) (cB (m1:=true) (rs:=[]) (Qc c_l_bits_of (aD (Qv 0) (aD (Qv 2) (Qn [0,2]))))) (show List.Nodup (["_law_bit","_law_wire"]:Ab Str) from by decide +kernel) (by rfl) (fun _ _ _ _ _ _=>dF) (fun _ _ _ _ _ _=>(jE (aD (qp cR) (aD (QE.flat (aB 1)) (aD (QE.flat (aB 0)) bM)))))))
   (aE (Qs 4 (Qc c_l_own (aD (Qv 0) (aD (Qv 2) (Qn [0,2])))))
   (aF (cP rfl PassesOwn.never (cO (rs:=[]) (by rfl) z_range (aD (QE.weak (qp (cJ (by rfl) z_len (aB 4)))) (Qn []))) (Qg 5) (aF (nL 3 3 nd rfl (Or.inl rfl) (dS (fr:=[2,5]) rfl (by rfl) (cB (m1:=true) (rs:=[]) (Qc c_l_bits_of (aD (Qv 0) (aD (RG (aS (aB 4) (aB 5))) (Qn [0,4]))))) (show List.Nodup (["_law_bit","_law_wire","_law_leg_here"]:Ab Str) from by decide +kernel) (by rfl) (fun _ _ _ _ _ _=>dF) (fun _ _ _ _ _ _=>(jE (aD (qp cR) (aD (QE.flat (aB 1)) (aD (QE.flat (aB 2)) (aD (QE.flat (aB 0)) bM))))))))))))) aV)))
   (aF (iB (i:=3)))))))
theorem K8:aP ["_law_told_outs","_law_given"] ["_law_told_outs","_law_given"] (aI oY):=RF
theorem M6   (F:FunD K "_law_answer" "_law_answer" oY fA fd)  :
  bR P w K mg base CX0 1 fA fd ["_law_told_outs","_law_given"] (spD K 2 (fF C)) :=
 F.k K8 fun nd hr=>(aF (aN (dS (fr:=[1]) rfl (by rfl) (cB (aB 0)) (show List.Nodup (["_law_table","_law_given"]:Ab Str) from by decide +kernel) (by rfl) (fun _ _ _ _ _ _=>dF) (fun _ _ _ _ _ _=>(qp (aO cK (qp (aO eT (aB 0) (qp (aO dU (qp aG) (aB 1))))) (qp aG)))))))
theorem A8:aP ["_law_told_outs","_law_tests_here"] ["_law_told_outs","_law_tests_here"] (aI mL):=RF
theorem D0   (F:FunD K "_law_answers" "_law_answers" mL fA fd) (c_l_answer:aM P w K mg base "_law_answer" [] 1 2 (fF C)) :
  bR P w K mg base CX0 2 fA fd ["_law_told_outs","_law_tests_here"] (spD K 2 (iI C)) :=
 F.k A8 fun nd hr=>(aF (aN (dS (fr:=[0]) rfl (by rfl) (cB (aB 1)) (show List.Nodup (["_law_given","_law_told_outs"]:Ab Str) from by decide +kernel) (by rfl) (fun _ _ _ _ _ _=>dF) (fun _ _ _ _ _ _=>(Qc c_l_answer (aD (Qv 1) (aD (Qv 0) (Qn [1,0]))))))))
theorem Z1k:aP ["_law_found","_law_due","_law_k"] ["_law_found","_law_due"] (aI vU):=RF
theorem Z1J   (F:FunD K "_law_list" "_law_list" vU fA fd) (c_l_whole:aM P w K mg base "_law_whole" [] 1 1 (cS C)) (z_isinstance:mg "isinstance" = none) (z_len:mg "len" = none) (z_list:mg "list" = none) (z_range:mg "range" = none) :
  bR P w K mg base CX0 2 fA fd ["_law_found","_law_due"] (spD K 2 (qJ C)) :=
 F.k Z1k fun nd hr=>(aE (bT (QW.qt (oH (fZ (fR (qp (gJ (by rfl) z_isinstance (aB 0) (by rfl) z_list PD.boot_list (qR _))))) (mP (L7 (cD hr) (qp (cJ (by rfl) z_len (aB 0))) (qp (cJ (by rfl) z_len (aB 1))))))) (aF (aN (qp fS))) aV)
   (aE (cP rfl PassesOwn.never (cO (rs:=[]) (by rfl) z_range (aD (QE.weak (qp (cJ (by rfl) z_len (aB 1)))) (Qn []))) (Qg 2) (aF (bT (QW.qt (oH (fZ (fR (Qc c_l_whole (aD (RG (aS (aB 0) (aB 2))) (Qn [0]))))) (mP (L7 (cD hr) (aS (aB 0) (aB 2)) (aS (aB 1) (aB 2)))))) (aF (aN (qp fS))) aV)))
   (aF (aN (qp fS)))))
theorem U0:aP ["_law_found","_law_due","_law_k"] ["_law_found","_law_due"] (aI sA):=RF
theorem W8   (F:FunD K "_law_lists" "_law_lists" sA fA fd) (c_l_list:aM P w K mg base "_law_list" [] 2 2 (qJ C)) (z_isinstance:mg "isinstance" = none) (z_len:mg "len" = none) (z_list:mg "list" = none) (z_range:mg "range" = none) :
  bR P w K mg base CX0 3 fA fd ["_law_found","_law_due"] (spD K 2 (kN C)) :=
 F.k U0 fun nd hr=>(aE (bT (QW.qt (oH (fZ (fR (qp (gJ (by rfl) z_isinstance (aB 0) (by rfl) z_list PD.boot_list (qR _))))) (mP (L7 (cD hr) (qp (cJ (by rfl) z_len (aB 0))) (qp (cJ (by rfl) z_len (aB 1))))))) (aF (aN (qp fS))) aV)
   (aE (cP rfl PassesOwn.never (cO (rs:=[]) (by rfl) z_range (aD (QE.weak (qp (cJ (by rfl) z_len (aB 1)))) (Qn []))) (Qg 2) (aF (bT (fZ (fR (Qc c_l_list (aD (RG (aS (aB 0) (aB 2))) (aD (RG (aS (aB 1) (aB 2))) (Qn [0,1])))))) (aF (aN (qp fS))) aV)))
   (aF (aN (qp fS)))))
theorem U3:aP ["_law_found","_law_due","_law_part"] ["_law_found","_law_due"] (aI sD):=RF
theorem X1   (F:FunD K "_law_fault" "_law_fault" sD fA fd) (c_l_whole:aM P w K mg base "_law_whole" [] 1 1 (cS C)) (z_isinstance:mg "isinstance" = none) (z_len:mg "len" = none) (z_str:mg "str" = none) (z_tuple:mg "tuple" = none) :
  bR P w K mg base CX0 2 fA fd ["_law_found","_law_due"] (spD K 2 (kO C)) :=
 F.k U3 fun nd hr=>(aE (bT (Z6R (aB 1)) (aF (aN (qp (Z37 (aB 0))))) aV)
   (aE (bT (QW.qt (oH (fZ (fR (qp (gJ (by rfl) z_isinstance (aB 0) (by rfl) z_tuple PD.boot_tuple (Z1W _))))) (oH (L7 (cD hr) (qp (cJ (by rfl) z_len (aB 0))) (qp (cJ (by rfl) z_len (aB 1)))) (mP (fZ (fR (qp (gJ (by rfl) z_isinstance (aS (aB 0) (qp aG)) (by rfl) z_str PD.boot_str (Z5L _))))))))) (aF (aN (qp fS))) aV)
   (aE (cP rfl PassesOwn.never (cB (m1:=true) (rs:=[]) (qp (mQ (aB 0) (lI (qp aG)) lJ))) (Qg 2) (aF (bT (fZ (fR (Qc c_l_whole (aD (Qv 2) (Qn [2]))))) (aF (aN (qp fS))) aV)))
   (aF (aN (qp (Z0x (cD hr) (aB 0) (aB 1))))))))
theorem Z1h:aP ["_law_found","_law_due","_law_k"] ["_law_found","_law_due"] (aI vR):=RF
theorem Z1G   (F:FunD K "_law_same" "_law_same" vR fA fd) (c_l_fault:aM P w K mg base "_law_fault" [] 2 2 (kO C)) (z_isinstance:mg "isinstance" = none) (z_len:mg "len" = none) (z_list:mg "list" = none) (z_range:mg "range" = none) :
  bR P w K mg base CX0 3 fA fd ["_law_found","_law_due"] (spD K 2 (mV C)) :=
 F.k Z1h fun nd hr=>(aE (bT (QW.qt (oH (fZ (fR (qp (gJ (by rfl) z_isinstance (aB 0) (by rfl) z_list PD.boot_list (qR _))))) (mP (L7 (cD hr) (qp (cJ (by rfl) z_len (aB 0))) (qp (cJ (by rfl) z_len (aB 1))))))) (aF (aN (qp fS))) aV)
   (aE (cP rfl PassesOwn.never (cO (rs:=[]) (by rfl) z_range (aD (QE.weak (qp (cJ (by rfl) z_len (aB 1)))) (Qn []))) (Qg 2) (aF (bT (fZ (fR (Qc c_l_fault (aD (RG (aS (aB 0) (aB 2))) (aD (RG (aS (aB 1) (aB 2))) (Qn [0,1])))))) (aF (aN (qp fS))) aV)))
   (aF (aN (qp fS)))))
theorem K6:aP ["_law_found","_law_top","_law_k"] ["_law_found","_law_top"] (aI oW):=RF
theorem M3   (F:FunD K "_law_rising" "_law_rising" oW fA fd) (c_l_whole:aM P w K mg base "_law_whole" [] 1 1 (cS C)) (z_isinstance:mg "isinstance" = none) (z_len:mg "len" = none) (z_list:mg "list" = none) (z_range:mg "range" = none) :
  bR P w K mg base CX0 2 fA fd ["_law_found","_law_top"] (spD K 2 (jI C)) :=
 F.k K6 fun nd hr=>(aE (bT (fZ (fR (qp (gJ (by rfl) z_isinstance (aB 0) (by rfl) z_list PD.boot_list (qR _))))) (aF (aN (qp fS))) aV)
   (aE (cP rfl PassesOwn.never (cO (rs:=[]) (by rfl) z_range (aD (QE.weak (qp (cJ (by rfl) z_len (aB 0)))) (Qn []))) (Qg 2) (aE (bT (QW.qt (oH (fZ (fR (Qc c_l_whole (aD (RG (aS (aB 0) (aB 2))) (Qn [0]))))) (oH (vY (aS (aB 0) (aB 2)) (qp aG)) (mP (Z0t (aS (aB 0) (aB 2)) (aB 1)))))) (aF (aN (qp fS))) aV)
   (aF (bT (QW.qt (kA (Z8m (aB 2) (qp aG)) (jT (Z8l (aS (aB 0) (aB 2)) (aS (aB 0) (qp (aW cZ (aB 2) (qp aG)))))))) (aF (aN (qp fS))) aV))))
   (aF (aN (qp fS)))))
theorem T7:aP ["_law_ins","_law_number","_law_tests_here","_law_given"] ["_law_ins","_law_number"] (aI rY):=RF
theorem W6   (F:FunD K "_law_tests" "_law_tests" rY fA fd) (c_l_mixed:aM P w K mg base "_law_mixed" [] 1 2 (cT C)) (z_range:mg "range" = none) :
  bR P w K mg base CX0 2 fA fd ["_law_ins","_law_number"] (spD K 2 (nS C)) :=
 F.k T7 fun nd hr=>(aE (Qs 2 (eM bM))
   (aE (cP rfl PassesOwn.never (cO (rs:=[]) (by rfl) z_range (aD (QE.weak (qp (aO dU (qp aG) (aB 0)))) (Qn []))) (Qg 3) (aF (bT (vY (qp (aO cK (Qc c_l_mixed (aD (Qv 1) (aD (Qv 3) (Qn [1,3])))) (qp aG))) (qp (aO cK (aB 1) (qp aG)))) (aF (gZ 2 (QE.flat (aB 3)))) aV)))
   (aF (iB (i:=2)))))
theorem A6:aP ["_law_circuit","_law_one","_law_other","_law_first","_law_second","_law_found"] ["_law_circuit","_law_one","_law_other","_law_first","_law_second"] (aI mJ):=RF
theorem C8   (F:FunD K "_law_parting" "_law_parting" mJ fA fd) (c_l_answer:aM P w K mg base "_law_answer" [] 1 2 (fF C)) (c_l_whole:aM P w K mg base "_law_whole" [] 1 1 (cS C)) (c_parting:aM P w K mg base "parting" [] 6 3 (nQ C)) :
  bR P w K mg base CX0 7 fA fd ["_law_circuit","_law_one","_law_other","_law_first","_law_second"] (spD K 5 (iH C)) :=
 F.k A6 fun nd hr=>(aE (Qs 5 (Qc c_parting (aD (Qv 0) (aD (Qv 1) (aD (Qv 2) (Qn [0,1,2]))))))
   (aE (bT (dQ (cD hr) (aB 3) (aB 4)) (aF (aN (qp (Z37 (aB 5))))) aV)
   (aF (aN (qp (Z3b (Qc c_l_whole (aD (Qv 5) (Qn [5]))) (Z34 (qp (Z8n (cD hr) (Qc c_l_answer (aD (Qv 3) (aD (Qv 5) (Qn [3,5])))) (Qc c_l_answer (aD (Qv 4) (aD (Qv 5) (Qn [4,5])))))))))))))
theorem Sab:aP ["_law_script","_law_drawn_here","_law_circuit","_law_row","_law_some","_law_spare","_law_k","_law_number","_law_fault_here","_law_told_outs","_law_told_bits","_law_due","_law_other","_law_more"] ["_law_script"] (aI mB):=RF
theorem Z7e {P:Aj}{w:Ak}{K:Frag}{mg:Str->Aa Ad}{base:Ah}{C fA P0:Af}{fd:FuncData}  (F:FunD K "law" "law" mB fA fd) (c_l_answers:aM P w K mg base "_law_answers" [] 2 2 (iI C)) (c_l_at:aM P w K mg base "_law_at" [] 1 2 (jJ C)) (c_l_drawn:aM P w K mg base "_law_drawn" [] 3 1 (nU C)) (c_l_faults:aM P w K mg base "_law_faults" [] 2 1 (gD C)) (c_l_lists:aM P w K mg base "_law_lists" [] 3 2 (kN C)) (c_l_mixed:aM P w K mg base "_law_mixed" [] 1 2 (cT C)) (c_l_out_tables:aM P w K mg base "_law_out_tables" [] 4 2 (dR C)) (c_l_parting:aM P w K mg base "_law_parting" [] 7 5 (iH C)) (c_l_rising:aM P w K mg base "_law_rising" [] 2 2 (jI C)) (c_l_same:aM P w K mg base "_law_same" [] 3 2 (mV C)) (c_l_tests:aM P w K mg base "_law_tests" [] 2 2 (nS C)) (c_answers:aM P w K mg base "answers" [] 6 3 (eU C)) (c_idle:aM P w K mg base "idle" [] 7 1 (D5 C)) (c_named:aM P w K mg base "named" [] 7 3 (qG C)) (c_widened:vA P w K mg base "widened" P0 (lamPos l_lam,q_lam) 7 2 (kM C)) (mk_Circuit:Z4y P w K mg base "Circuit" C 1 3 (hG C)) (z_int:mg "int" = none) (z_len:mg "len" = none) (z_list:mg "list" = none) (z_min:mg "min" = none) (z_range:mg "range" = none) :
  bR P w K mg base CX0 8 fA fd ["_law_script"] (spT K P0 (lamPos l_lam,q_lam) 1 (Z3I C)):=by
 have nd:=Sab.nd;exact F.okT Sab rfl rfl fun _ _ _ _ _ _ hr hcd hT=>(aE (Qs 1 (Qc c_l_drawn (aD (Qv 0) (Qn [0]))))
   (aE (Qs 2 (Z8o mk_Circuit (hr.mono (by decide)) (.cons (.cons (.cons NArgs.nil))) (aD (RG (aS (aB 1) (qp aG))) (aD (QE.weak (qp (nM (by rfl) z_list (aS (aB 1) (qp aG))))) (aD (QE.weak (qp (nM (by rfl) z_list (aS (aB 1) (qp aG))))) (Qn [1]))))))
   (aE (Qs 3 (Z55 c_widened hT (hr.mono (by decide)) (.cons (.cons NArgs.nil)) (aD (Qv 2) (aD (QE.weak (Qc c_l_tests (aD (RG (aS (aB 1) (qp aG))) (aD (QE.weak (Qc c_l_mixed (aD (QE.weak (Qc c_l_at (aD (Qv 0) (aD (QE.weak (qp aG)) (Qn [0]))))) (aD (QE.weak (qp aG)) (Qn []))))) (Qn [1]))))) (Qn [2])))))
   (aE (bT (fZ (fR (Qc c_l_rising (aD (Qv 3) (aD (QE.weak (qp (aO dU (qp aG) (aS (aB 1) (qp aG))))) (Qn [3])))))) (aF (aN (qp fS))) aV)
   (aE (Qs 4 (dS (fr:=[1]) rfl (by rfl) (cB (m1:=true) (rs:=[]) (Z3a (eM (aD (qp sL) bM)) (Qc c_l_faults (aD (Qv 1) (Qn [1]))))) (show List.Nodup (["_law_fault_here","_law_drawn_here"]:Ab Str) from by decide +kernel) (by rfl) (fun _ _ _ _ _ _=>dF) (fun _ _ _ _ _ _=>(jE (aD (QE.flat (aB 0)) (aD (Qc c_l_out_tables (aD (Qv 1) (aD (Qv 0) (Qn [1,0])))) bM))))))
   (aE (tR (i:=5) (fr:=[4]) rfl nd rfl (Or.inl rfl) (by rfl) (cB (aB 4)) (show List.Nodup (["_law_fault_here","_law_told_outs","_law_some"]:Ab Str) from by decide +kernel) (by rfl) (by rfl) (fun _ _ _ _ _ _=>nK (QW.qt (kA (pY (aB 0)) (jT (dQ (cD hr) (aB 1) (aS (aS (aB 2) (qp aG)) (qp aG))))))) (fun _ _ _ _ _ _=>(QE.flat (aB 0))))
   (aE (bT (fZ (fR (Qc c_l_same (aD (QE.weak (Qc c_idle (aD (Qv 2) (Qn [2])))) (aD (Qv 5) (Qn [5])))))) (aF (aN (qp fS))) aV)
   (aE (cP rfl PassesOwn.never (cO (rs:=[]) (by rfl) z_range (aD (QE.weak (qp (Z35 rfl (by rfl) z_min (aD (QE.weak (qp (cJ (by rfl) z_len (aB 4)))) (aD (QE.weak (qp aG)) (Qn [])))))) (Qn []))) (Qg 6) (aE (Qs 7 (Qc c_l_mixed (aD (QE.weak (Qc c_l_at (aD (Qv 0) (aD (QE.weak (qp (aW gC (aB 6) (qp aG)))) (Qn [0]))))) (aD (Qv 6) (Qn [6])))))
   (aE (C0 (aS (aB 4) (aS (QE.weak (rs:=[]) (eM (aD (qp (aO cK (aB 7) (qp (cJ (by rfl) z_len (aB 4))))) (aD (qp aG) bM)))) (qp (Z0w (by rfl) z_int (qp (Z0x (cD hr) (aB 6) (qp aG))))))) (vZ (is:=[8,9]) rfl (dC (dG (i:=8) nd rfl (Or.inl rfl)) (dC (dG (i:=9) nd rfl (Or.inr rfl)) lK)) rfl))
   (aE (Qs 10 (Qc c_l_answers (aD (Qv 9) (aD (Qv 3) (Qn [9,3])))))
   (aE (bT (fZ (fR (Qc c_l_lists (aD (QE.weak (Qc c_answers (aD (Qv 2) (aD (Qv 3) (aD (Qv 8) (Qn [2,3,8])))))) (aD (Qv 10) (Qn [10])))))) (aF (aN (qp fS))) aV)
   (aE (tR (i:=11) (fr:=[9]) rfl nd rfl (Or.inl rfl) (by rfl) (cB (aB 4)) (show List.Nodup (["_law_other","_law_more","_law_told_outs"]:Ab Str) from by decide +kernel) (by rfl) (by rfl) (fun _ _ _ _ _ _=>nK (dQ (cD hr) (aB 1) (aB 2))) (fun _ _ _ _ _ _=>(QE.flat (aB 0))))
   (aE (bT (fZ (fR (Qc c_l_same (aD (QE.weak (Qc c_named (aD (Qv 2) (aD (Qv 3) (aD (Qv 10) (Qn [2,3,10])))))) (aD (Qv 11) (Qn [11])))))) (aF (aN (qp fS))) aV)
   (aE (C0 (aS (aB 4) (qp (aO cK (qp (aO eT (aB 7) (qp aG))) (qp (cJ (by rfl) z_len (aB 4)))))) (vZ (is:=[12,13]) rfl (dC (dG (i:=12) nd rfl (Or.inl rfl)) (dC (dG (i:=13) nd rfl (Or.inl rfl)) lK)) rfl))
   (aF (bT (fZ (fR (Qc c_l_parting (aD (Qv 2) (aD (Qv 8) (aD (Qv 12) (aD (Qv 9) (aD (Qv 13) (Qn [2,8,12,9,13]))))))))) (aF (aN (qp fS))) aV))))))))))
   (aF (aN (qp fS)))))))))))
end
local macro_rules | `(tactic| walk_at "ev") => do
 let ns:=("runF enStart List.map_cons List.map_nil List.length_cons List.length_nil List.cons_append List.nil_append List.append_nil List.replicate Nat.reduceAdd Nat.reduceSub Nat.reduceLeDiff PD.fz PD.fz1 ev_var ev_C ev_Flat ev_B ev_OfB ev_And ev_Or ev_Not ev_Nil ev_Cons ev_Tup ev_Lst ev_BI ev_IsN ev_Eq ev_Ix ev_I2' ev_I0' ev_Call ev_B1 ev_IsT ev_NoP ev_P ev_Sl ev_In ev_Bits ev_Neg ev_SlW ev_RevSl ev_InK keyOf ev_seq ev_TT ev_cat ev_rNext ev_rIf ev_rRet ev_rSet ev_rSeq List.getElem?_cons_zero List.getElem?_cons_succ List.set_cons_zero List.set_cons_succ Option.join_some Option.map_some Option.bind_some PD.flat Bool.not_true Bool.not_false if_true if_false eqN_int eqN_str eqN_bl eqN_non eqN_tnon atI_m3 atI_m4 atI_0 atI_1 atI_2 atI_3 decide_true decide_false eq_self and_self Bool.and_true Bool.and_false Bool.true_and Bool.false_and eqN_tup eqL_cons eqL_nil eqL_nilL reduceIte reduceCtorEq Int.reduceEq Int.reduceAdd Int.reduceSub Int.reduceLT Int.reduceLE Int.reduceNeg Nat.reduceEqDiff Nat.reduceBEq Bool.false_eq_true".splitOn " ").toArray.map fun s=>Lean.mkIdent s.toName
 `(tactic| simp only [$[$ns:ident],*, *])
theorem Z5y (hl:rows.length <= 1000):hG C [.int ins,.lst (rows.map Row.d),LI outs]=some (aX C ins rows outs):=by
 have e1:bL [] (cM (aA 2)) fTT (fB1 G5 (aC (aA 0) aH)) [none,some (false,.int ins),some (false,.lst (rows.map Row.d)),some (false,LI outs)]=some (.lst (rows.map Row.d)) :=
  bY Row.d Row.d (xs:=rows) rfl hl fun r _=>by cases r <;> rfl
 have e2:gY [.lst (outs.map D.int)]=some (.lst (outs.map D.int)):=by simp only [gY,fL,RC]
 unfold hG;simp only [e1];simp only [LI,aX];walk_at "ev"
theorem on_wire (h:-(2 ^ 64) < o /\ o < 2 ^ 64 \/ ∀ w b,f=.wire w b->b=0 \/ b=1):fK C [.int v,.int w,.int o,f.d]=some (.int (bO v w o f)):=by
 cases f with
 | none=>simp [fK,runF,enStart,kR,Flt.d,PD.flat,bO]
 | wire w' b =>
  by_cases hw:w'=w
  .have hm:IntMulOk o b:=h.elim (fun z=>nO z.1 z.2) fun z=>by rcases z w' b rfl with z | z <;> (subst z;exact nN (by decide) (by decide))
   simp [fK,runF,enStart,kR,Flt.d,PD.flat,bO,atI_0,atI_1,atI_2,eqN_str,eqN_int,hw,hm]
  .simp [fK,runF,enStart,kR,Flt.d,PD.flat,bO,atI_0,atI_1,atI_2,eqN_str,eqN_int,hw]
 | leg w' l b =>
  simp [fK,runF,enStart,kR,Flt.d,PD.flat,bO,atI_0,atI_1,atI_2,eqN_str,eqN_int,Z83]
theorem leg_wires (r:Row):dJ C [r.d]=some (LI r.ws):=by
 cases r with
 | fix b=>simp [dJ,runF,enStart,jX,atI_0,eqN_str,Row.d,LI,Row.ws]
 | not a=>simp [dJ,runF,enStart,jX,atI_0,eqN_str,Row.d,LI,Row.ws,Z1l,fSl,flats,PD.flat,Z4j,Z1n,gY]
 | bin k a b=>simp [dJ,runF,enStart,jX,atI_0,eqN_str,Row.d,LI,Row.ws,Z1m,fSl,flats,PD.flat,Z4j,Z1n,gY]
theorem Z2g (env:En) (he:env=[some (false,LI vs)]) (ws:Ab Int) (h:∀ a ∈ ws,0 <= a /\ a < vs.length):dD fTT (aY (fIx (aA 1) (aA 0))) env (ws.map D.int)=some ((ws.map (nth vs)).map D.int):=by
 subst he;rw [tK D.int (fun a=>.int (nth vs a)) ws fun a ha=>by simp [LI,gG (h a ha).1 (h a ha).2,PD.flat]];simp [Function.comp_def]
theorem leg_values (hw:∀ a ∈ r.ws,0 <= a /\ a < vs.length) (hl:∀ w' l b,f=.leg w' l b->w'=w->0 <= l /\ l < r.ws.length) (hm:∀ w' l b,f=.leg w' l b->IntMulOk o b) :
  dH C [r.d,.int w,LI vs,.int o,f.d]=some (LI (legs r w vs o f)):=by
 have hlen:r.ws.length <= 1000:=by cases r <;> simp [Row.ws]
 have e1:∀ x:D,bL [2] (cM (aJ (dJ C) [] (aC (aA 0) aH))) fTT (aY (fIx (aA 1) (aA 0))) [some (false,r.d),some (false,.int w),some (false,LI vs),some (false,.int o),some (false,x),none]=some (LI (r.ws.map (nth vs))):=by
  intro x;simp only [bL,cM,aJ,aC,aA,aH,Qaj,Qaq,Option.map_some,Qbc,QaH,leg_wires,LI,Qaa,hlen,RC];rw [Z2g (vs:=vs) (kW [2] _) (by simp [kW,LI]) r.ws hw];rfl
 cases f with
 | none=>simp [dH,runF,enStart,gX,e1,Flt.d,iP,legs]
 | wire w' b=>simp [dH,runF,enStart,gX,e1,Flt.d,iP,legs,atI_0,eqN_str,Z7V]
 | leg w' l b =>
  by_cases hww:w'=w
  .subst hww;obtain⟨l0,l1⟩:=hl _ l b rfl rfl;have hmm:=hm _ l b rfl;simp only [LI] at e1;have hfl:flats (List.map (D.int ∘ nth vs) r.ws)=true:=by have:=fL (r.ws.map (nth vs));simpa using this
   simp [dH,runF,enStart,gX,e1,Flt.d,iP,legs,atI_0,atI_1,atI_2,atI_3,eqN_str,eqN_int,L4,hmm,LI,Z3W l0 (by simpa using l1),hfl,PD.flat,List.map_set]
  .simp [dH,runF,enStart,gX,e1,Flt.d,iP,legs,atI_0,atI_1,atI_2,eqN_str,eqN_int,hww]
theorem gate_value (hl:ls.length=r.ws.length) (hm:∀ b,r=.fix b->IntMulOk o b):eG C [r.d,LI ls,.int o]=some (.int (hX r ls o)):=by
 cases r with
 | fix b =>
  have:=hm b rfl;simp [eG,runF,enStart,iT,Row.d,atI_0,atI_1,PD.flat,eqN_str,this,hX]
 | not a =>
  have h0:atI (ls.map D.int) 0=some (.int (nth ls 0)):=gG (by decide) (by simp [Row.ws] at hl;omega);simp [eG,runF,enStart,iT,Row.d,atI_0,atI_1,PD.flat,eqN_str,hX,Z1l,LI,h0]
 | bin k a b =>
  have h0:atI (ls.map D.int) 0=some (.int (nth ls 0)):=gG (by decide) (by simp [Row.ws] at hl;omega);have h1:atI (ls.map D.int) 1=some (.int (nth ls 1)):=gG (by decide) (by simp [Row.ws] at hl;omega);cases k <;> simp [eG,runF,enStart,iT,Row.d,atI_0,atI_1,PD.flat,eqN_str,hX,Z1m,Z85,Z86,Z84,LI,h0,h1]
theorem borne (hs:ss.length + rows.length <= 1000) (hr:RowsOk ss.length rows) (hf:FltOk ss.length rows f) :
  uW C [aX C ins rows outs,LI ss,.int o,f.d]=some (LI (eR o f (bU o f [] ss) rows)):=by
 have ow:∀ v w,fK C [.int v,.int w,.int o,f.d]=some (.int (bO v w o f)):=fun v w=>on_wire (.inr hf.w);refine bB ?_;unfold Z0O;refine iS (d:=.lst []) (by walk_at "ev") ?_;refine gR (ds:=ss.map D.int) (by walk_at "ev";rfl) (fun i env=>∃ s,env=[some (false,aX C ins rows outs),some (false,LI ss),some (false,.int o),some (false,f.d),some (true,LI (bU o f [] (ss.take i))),s,none,none,none]) ⟨none,rfl⟩ ?_ ?_
 .rintro i d env hd ⟨s,rfl⟩;obtain⟨x,hx,rfl⟩:=fE hd;refine⟨_,_,rfl,?_,some (false,.int x),rfl⟩;have hi:i < ss.length:=(Qac.mp hx).1;have hl:(bU o f [] (ss.take i)).length <= 1000:=by rw [gH];simp;omega
  rw [cH hx,lA];simp [iG,bK,LI,ow,hl,QaG]
 rintro env ⟨s1,rfl⟩;rw [Qaa,QaR];refine gR (eI (rB (by rfl))) (fun i env=>∃ s a b c,env=[some (false,aX C ins rows outs),some (false,LI ss),some (false,.int o),some (false,f.d),some (true,LI (eR o f (bU o f [] ss) (rows.take i))),s,a,b,c]) ⟨s1,none,none,none,rfl⟩ ?_ ?_
 .rintro i d env hd ⟨s,a,b,c,rfl⟩;obtain⟨r,hx,rfl⟩:=fE hd;have hi:i < rows.length:=(Qac.mp hx).1;have hvl:(eR o f (bU o f [] ss) (rows.take i)).length=ss.length + i:=by rw [sK,gH];simp;omega
  generalize hvs:eR o f (bU o f [] ss) (rows.take i)=vs at hvl;have hrow:=hr i r hx;have lv:dH C [r.d,.int (vs.length:Int),LI vs,.int o,f.d]=some (LI (legs r vs.length vs o f)) :=
   leg_values (fun a ha=>by rw [hvl];exact hrow.ws a ha) (fun w' l b e hw=>hf.leg w' l b i r e hx (by rw [hw,hvl])) (fun w' l b e=>rM (hf.l w' l b e))
  have gv:eG C [r.d,LI (legs r vs.length vs o f),.int o]=some (.int (hX r (legs r vs.length vs o f) o)):=gate_value (Z3L _ _ _ _ _) (fun b e=>rM (by subst e;exact hrow));refine⟨_,_,rfl,?_,s,some (false,r.d),some (true,.int vs.length),some (true,LI (legs r vs.length vs o f)),rfl⟩;have hl:vs.length <= 1000:=by omega
  rw [cH hx,pA,hvs];simp only [LI] at lv gv;simp [iG,bK,LI,ow,hl,QaG,lv,gv]
 rintro env ⟨s2,a2,b2,c2,rfl⟩;rw [Qaa,QaR];rfl
theorem at_outs (ho:outs.length <= 1000) (h:∀ a ∈ outs,0 <= a /\ a < vs.length):nW C [aX C ins rows outs,LI vs]=some (LI (outs.map (nth vs))):=by
 refine bB ?_;show bF _ [some (false,aX C ins rows outs),some (false,LI vs)]=_;unfold bF;rw [bY D.int (fun a=>.int (nth vs a)) (xs:=outs) (eI (wY (by rfl))) ho (fun a ha=>by simp [kW,LI,gG (h a ha).1 (h a ha).2,PD.flat])];simp [LI,Function.comp_def]
theorem gP (n:Nat):(1:Int) * 2 ^ (n:Int).toNat=((2 ^ n:Nat):Int):=by rw [Qbv,Qat];simp
theorem Z0Q (n:Nat):(1:Int) * 2 ^ ((2 ^ n:Nat):Int).toNat - 1=bA (2 ^ n):=by rw [Qbv,Qat];rfl
theorem qA (h:n <= 8):(0:Int) <= ((2 ^ n:Nat):Int) /\ ((2 ^ n:Nat):Int) <= 256 :=
 ⟨Int.natCast_nonneg _,Int.ofNat_le.mpr (show 2 ^ n <= 256 from Qbw (show 0 < 2 by decide) h)⟩
theorem full_table {C:Af}{n:Nat}(h:n <= 8):cW C [.int n]=some (.int (bA (2 ^ n))):=by
 obtain⟨pb0,pb1⟩:=qA h;have p1:dO 1 (n:Int):=jM (by omega) (by omega);have p2:dO 1 ((2 ^ n:Nat):Int):=jM pb0 (Qbp pb1 (by decide));have e1:=gP n;have e2:=Z0Q n;unfold cW qZ;clear pb0 pb1 h;walk_at "ev"
theorem P9 (n:Nat) (b:Nat->Bool):Builtin.Int.intBits (tab n b) <= n:=by
 rw [PySem.intBits_le_iff];unfold tab;have:=fT n b;simpa using this
theorem Z2n (n:Nat):Builtin.Int.intBits (bA n) <= n:=by rw [<- mG];exact P9 n _
theorem input_tables {C:Af}{n:Nat}(h:n <= 8):gW C [.int n]=some (LI (inT n)):=by
 refine bB ?_;unfold nC;refine iS (d:=.lst []) (by walk_at "ev") ?_;refine gR (ds:=(List.range n).map fun (k:Nat)=>.int (k:Int)) (dX (xs:=[.int (n:Int)]) (by walk_at "ev") (mO (by omega)))
  (fun i env=>∃ a b,env=[some (false,.int n),some (true,LI (inT i)),a,b]) ⟨none,none,rfl⟩ ?_ ?_
 .rintro i d env hd ⟨a,b,rfl⟩;obtain⟨hi,rfl⟩:=cY hd;obtain⟨pb0,pb1⟩:=qA (show i <= 8 by omega);have pb2:∀ m:Nat,m=2 ^ i->(m:Int) + ((2 ^ i:Nat):Int) <= 100000000:=fun m e=>by subst e;exact Qbp (Int.add_le_add pb1 pb1) (by decide)
  have p1:dO 1 (i:Int):=jM (by omega) (by omega);have e1:=gP i;have ft:=full_table (C:=C) (n:=i) (by omega);refine⟨_,_,rfl,?_,some (false,.int i),some (true,.int ((2 ^ i:Nat):Int)),rfl⟩;refine iS (d:=.int ((2 ^ i:Nat):Int)) (by clear pb0 pb1 pb2;walk_at "ev") ?_;refine iS (bY D.int (fun t=>.int (Builtin.bitOr t (t * 2 ^ (2 ^ i)))) (xs:=inT i) (by rfl) (by rw [fU];omega) (fun t ht=>?_)) ?_
  .obtain⟨j,hj⟩:=List.getElem?_of_mem ht;have hj2:j < i:=by have:=(Qac.mp hj).1;rwa [fU] at this
   rw [nY i j hj2] at hj;have p3:dO t ((2 ^ i:Nat):Int):=by
    rw [<- QaS hj];exact uZ (P9 _ _) pb0 (pb2 _ rfl)
   show fI0 _ (aA 0) _ [some (false,.int t),some (true,.int ((2 ^ i:Nat):Int))]=_;clear pb0 pb1 pb2 hj;walk_at "ev";rw [Qat]
  .have p4:dO (bA (2 ^ i)) ((2 ^ i:Nat):Int):=uZ (Z2n _) pb0 (pb2 _ rfl);refine (jS (d:=.int (bA (2 ^ i) * 2 ^ (2 ^ i))) ?_ rfl (by rw [Qaa,fU];omega)).trans ?_
   .clear pb0 pb1 pb2;walk_at "ev";rw [Qat]
   .simp only [inT,LI,QaG,QaW,Qao,Qbi];rfl
 .rintro env ⟨a,b,rfl⟩;rw [Qaa,QaJ];rfl
theorem Z16 {C:Af}{ins:Nat}{rows:Ab Row}{outs:Ab Int}{f:Flt}(hi:ins <= 8) (hs:ins + rows.length <= 1000) (hr:RowsOk ins rows) (hf:FltOk ins rows f) :
  jH C [aX C ins rows outs,f.d]=some (LI (aL ins rows f)):=by
 have gl:=fU ins;have b:=borne (C:=C) (ins:=ins) (o:=bA (2 ^ ins)) (rows:=rows) (outs:=outs) (ss:=inT ins) (f:=f) (by rw [gl];exact hs) (by rw [gl];exact hr) (by rw [gl];exact hf);have it:=input_tables (C:=C) hi;have ft:=full_table (C:=C) hi;refine bB (cE (aK (xs:=[aX C ins rows outs,LI (inT ins),.int (bA (2 ^ ins)),f.d]) ?_ b));refine aQ rfl (aQ (aK (xs:=[.int ins]) (aQ (lY (by rfl)) rfl) it) (aQ (aK (xs:=[.int ins]) (aQ (lY (by rfl)) rfl) ft) (aQ rfl rfl)))
theorem fJ (hi:ins <= 8) (hs:ins + rows.length <= 1000) (hr:RowsOk ins rows) (hf:FltOk ins rows f) (hl:outs.length <= 1000) (ho:Ho ins rows outs) :
  bD C [aX C ins rows outs,f.d]=some (LI (outs.map (nth (aL ins rows f)))):=by
 have e1:=Z16 (C:=C) (outs:=outs) hi hs hr hf;have e2:=at_outs (C:=C) (ins:=ins) (rows:=rows) (outs:=outs) (vs:=aL ins rows f) hl (fun a ha=>by rw [jQ];exact ho a ha);exact bB (cE (aK (xs:=[aX C ins rows outs,LI (aL ins rows f)]) (aQ rfl (aQ (aK (xs:=[aX C ins rows outs,f.d]) rfl e1) rfl)) e2))
theorem yH:∀ (outs:Ab Int),oC ((outs.map (nth A)).map D.int) ((outs.map (nth B)).map D.int)=outs.map fun a=>.tup [.int (nth A a),.int (nth B a)]
 | []=>rfl
 | a :: outs=>by simp only [Qao,oC];rw [yH outs]
theorem rG:gL C [LI (outs.map (nth A)),LI (outs.map (nth B))]=some (.int (jP A B outs)):=by
 refine bB ?_;unfold uD;refine iS (d:=.int 0) (by walk_at "ev") ?_;refine gR (ds:=outs.map fun a=>.tup [.int (nth A a),.int (nth B a)]) (dX (xs:=[LI (outs.map (nth A)),LI (outs.map (nth B))]) rfl (by simp only [Z2q,LI,yH]))
  (fun i env=>∃ a b,env=[some (false,LI (outs.map (nth A))),some (false,LI (outs.map (nth B))),some (true,.int (jP A B (outs.take i))),a,b]) ⟨none,none,rfl⟩ ?_ ?_
 .rintro i d env hd ⟨a,b,rfl⟩;obtain⟨x,hx,rfl⟩:=fE hd;refine⟨_,_,rfl,?_,some (false,.int (nth A x)),some (false,.int (nth B x)),rfl⟩;rw [R6 hx];rfl
 .rintro env ⟨a,b,rfl⟩;rw [Qaa,QaR];rfl
def vE (ins:Nat) (rows:Ab Row) (outs:Ab Int) (f:Flt):Int:=jP (aL ins rows .none) (aL ins rows f) outs
theorem J5 {C:Af}{ins:Nat}{rows:Ab Row}{outs:Ab Int}{fs:Ab Flt}(hi:ins <= 8) (hs:ins + rows.length <= 1000) (hr:RowsOk ins rows) (hf:∀ f ∈ fs,FltOk ins rows f) (hl:outs.length <= 1000) (ho:Ho ins rows outs) (hfl:fs.length <= 1000) :
  lQ C [aX C ins rows outs,.lst (fs.map Flt.d)]=some (LI (fs.map (vE ins rows outs))):=by
 have o0:bD C [aX C ins rows outs,.non]=some (LI (outs.map (nth (aL ins rows .none)))):=fJ (f:=.none) hi hs hr .no hl ho;refine bB ?_;unfold wV;refine iS (aK (xs:=[aX C ins rows outs]) rfl o0) ?_;refine cE ?_;rw [bY Flt.d (fun f=>.int (vE ins rows outs f)) (xs:=fs) (by rfl) hfl (fun f hf'=>?_)]
 .simp [LI,Function.comp_def]
 .have of:=fJ (C:=C) (outs:=outs) hi hs hr (hf f hf') hl ho;exact aK (xs:=[LI (outs.map (nth (aL ins rows .none))),LI (outs.map (nth (aL ins rows f)))]) (aQ rfl (aQ (aK (xs:=[aX C ins rows outs,f.d]) rfl of) rfl)) rG
def pJ (t:Int):D:=if t=0 then .non else .int ((Builtin.Int.intBits (Builtin.bitAnd t (-t)):Nat) - 1)
theorem wN:gA C [.int x]=some (pJ x):=by
 unfold gA oK pJ;by_cases h:x=0
 .subst h;walk_at "ev"
 .walk_at "ev"
theorem oF (h1:w < ((ins + rows.length:Nat):Int)):cV C [aX C ins rows outs,.int w]=some (LI (bC ins rows w)):=by
 have fi:=lY (C:=C) (ins:=ins) (rows:=rows) (outs:=outs) (fa:=aA 0) (env:=[some (false,aX C ins rows outs),some (false,.int w)]) rfl;have fr:=rB (C:=C) (ins:=ins) (rows:=rows) (outs:=outs) (fa:=aA 0) (env:=[some (false,aX C ins rows outs),some (false,.int w)]) rfl;refine bB ?_;show lU C [some (false,aX C ins rows outs),some (false,.int w)]=_;unfold lU;by_cases h:w < (ins:Int)
 .rw [kP h];refine V1 ?_ (vV rfl);clear fr;walk_at "ev"
 .have hk:(w - (ins:Int)).toNat < rows.length:=by omega
  have hr1:=Qad hk;generalize rows[(w - (ins:Int)).toNat]=r at hr1;have ea:=nF hr1 (a:=w - (ins:Int)) (by omega);rw [lT (by omega) hr1];refine sNo (by clear fr ea;walk_at "ev") ?_;refine cE (aK (xs:=[r.d]) (aQ ?_ rfl) (leg_wires r));walk_at "ev"
theorem kX (h1:w < ((ins + rows.length:Nat):Int)):bJ C [aX C ins rows outs,.int w]=some (LI (cU ins rows w)):=by
 have fi:=lY (C:=C) (ins:=ins) (rows:=rows) (outs:=outs) (fa:=aA 0) (env:=[some (false,aX C ins rows outs),some (false,.int w)]) rfl;have fr:=rB (C:=C) (ins:=ins) (rows:=rows) (outs:=outs) (fa:=aA 0) (env:=[some (false,aX C ins rows outs),some (false,.int w)]) rfl;refine bB ?_;show iN C [some (false,aX C ins rows outs),some (false,.int w)]=_;unfold iN cU;by_cases h:w < (ins:Int)
 .have h':¬ (ins:Int) <= w:=by omega
  rw [if_pos h];refine sNo (by clear fr;walk_at "ev") rfl
 .have h':(ins:Int) <= w:=by omega
  have hk:(w - (ins:Int)).toNat < rows.length:=by omega
  have hr1:=Qad hk;generalize rows[(w - (ins:Int)).toNat]=r at hr1;have ea:=nF hr1 (a:=w - (ins:Int)) (by omega);rw [if_neg h,hr1];cases r with
  | fix b =>
   have e1:=Z4Q;simp only [Row.d] at ea;refine V1 (by walk_at "ev") (vV ?_);simp only [LI,Qao,Qbi];walk_at "ev"
  | not a =>
   have e1:=Z1l;simp only [Row.d] at ea;exact sNo (by walk_at "ev") rfl
  | bin k a b =>
   have e1:=Z1m k;simp only [Row.d] at ea;exact sNo (by walk_at "ev") rfl
theorem Z9c {a b:Int}{n:Nat}(h:a - b=(n:Int)) (h1:-1000 <= b) (h2:a <= 1000):Q4 [.int a,.int b,.int (-1)]=some ((List.range n).map fun (k:Nat)=>.int (a - (k:Int))):=by
 simp only [Q4];rw [if_pos (by refine⟨⟨by omega,by omega,by omega,by omega⟩,trivial⟩),h,Qat]
theorem Z1L {C:Af}{ins:Nat}{rows:Ab Row}{outs:Ab Int}(hs:ins + rows.length < 64) (hl:outs.length <= 100) (hr:RowsOk ins rows) (ho:Ho ins rows outs) :
  qF C [aX C ins rows outs]=some (LI (mU ins rows outs)):=by
 refine bB ?_;unfold N8;refine iS (d:=dKT []) rfl ?_;refine gR (eI (wY (by rfl))) (fun i env=>∃ a,env=[some (false,aX C ins rows outs),some (true,dKT (fH [] (outs.take i))),a,none,none]) ⟨none,rfl⟩ ?_ ?_
 .rintro i d env hd ⟨a,rfl⟩;obtain⟨x,hx,rfl⟩:=fE hd;refine⟨_,_,rfl,vW (ks:=fH [] (outs.take i)) (k:=x) rfl rfl rfl ?_,some (false,.int x),by rw [uH hx];rfl⟩;have:=pP (xs:=outs.take i) (ks:=[]);rw [Qav,List.length_nil] at this;omega
 rintro env ⟨a,rfl⟩;rw [Qaa,QaR];have el:bK [.lst (rows.map Row.d)]=some (.int (rows.length:Int)):=by simp only [bK,Qaa]
 refine gR (ds:=(List.range rows.length).map fun (k:Nat)=>.int (((ins + rows.length:Nat):Int) - 1 - (k:Int))) (dX (xs:=[.int (((ins + rows.length:Nat):Int) - 1),.int ((ins:Int) - 1),.int (-1)]) ?_ (Z9c (by omega) (by omega) (by omega)))
  (fun i env=>∃ a b c,env=[some (false,aX C ins rows outs),some (true,dKT (fY ins rows outs i)),a,b,c]) ⟨a,none,none,rfl⟩ ?_ ?_
 .have fi:=lY (C:=C) (ins:=ins) (rows:=rows) (outs:=outs) (fa:=aA 0) (env:=[some (false,aX C ins rows outs),some (true,dKT (fH [] outs)),a,none,none]) rfl;have fr:=rB (C:=C) (ins:=ins) (rows:=rows) (outs:=outs) (fa:=aA 0) (env:=[some (false,aX C ins rows outs),some (true,dKT (fH [] outs)),a,none,none]) rfl;rw [show ((ins + rows.length:Nat):Int)=(ins:Int) + (rows.length:Int) by omega];clear hr ho hs hl;walk_at "ev"
 .rintro i d env hd ⟨a,b,c,rfl⟩;obtain⟨hi,rfl⟩:=cY hd;have hnl:=yZ hr ho i;by_cases hw:(((ins + rows.length:Nat):Int) - 1 - (i:Int)) ∈ fY ins rows outs i
  .generalize hW:((ins + rows.length:Nat):Int) - 1 - (i:Int)=W at *
   have so:=oF (C:=C) (ins:=ins) (rows:=rows) (outs:=outs) (w:=W) (by omega);have hll:=hU (ins:=ins) (rows:=rows) (w:=W);obtain⟨env',h1,⟨z,rfl⟩⟩:=L6 (rs:=[]) (src:=cM (aJ (cV C) [] (aC (aA 0) (aC (aA 3) aH)))) (t:=gtN 4) (g:=vX 1 (aA 4) (fC (.bl true))) (env:=[some (false,aX C ins rows outs),some (true,dKT (fY ins rows outs i)),a,some (false,.int W),c]) (ds:=(bC ins rows W).map D.int)
    (eI (aK (xs:=[aX C ins rows outs,.int W]) rfl so))
    (fun j env=>∃ z,env=[some (false,aX C ins rows outs),some (true,dKT (fH (fY ins rows outs i) ((bC ins rows W).take j))),a,some (false,.int W),z]) ⟨c,rfl⟩ (by
     rintro j d env hd ⟨z,rfl⟩;obtain⟨x,hx,rfl⟩:=fE hd;refine⟨_,_,rfl,vW (ks:=fH (fY ins rows outs i) ((bC ins rows W).take j)) (k:=x) rfl rfl rfl ?_,some (false,.int x),by rw [uH hx];rfl⟩;have:=pP (xs:=(bC ins rows W).take j) (ks:=fY ins rows outs i);rw [Qav] at this;omega)
   rw [Qaa,QaR] at h1;refine⟨_,_,rfl,L5 ?_ h1,a,some (false,.int W),z,?_⟩
   .show Z9 (aA 3) (aA 1) [some (false,aX C ins rows outs),some (true,dKT (fY ins rows outs i)),a,some (false,.int W),c]=some true;simp only [ev_InK,ev_var,Qaj,Qap,Qaq,Option.map_some,dKT,keyOf,N3,hw,decide_true]
   .simp only [fY];rw [hW,if_pos hw]
  .generalize hW:((ins + rows.length:Nat):Int) - 1 - (i:Int)=W at *
   refine⟨_,_,rfl,pX ?_ rfl,a,some (false,.int W),c,?_⟩
   .show Z9 (aA 3) (aA 1) [some (false,aX C ins rows outs),some (true,dKT (fY ins rows outs i)),a,some (false,.int W),c]=some false;simp only [ev_InK,ev_var,Qaj,Qap,Qaq,Option.map_some,dKT,keyOf,N3,hw,decide_false]
   .simp only [fY];rw [hW,if_neg hw];rfl
 rintro env ⟨a,b,c,rfl⟩;rw [Qaa,QaJ];have hnl:=yZ hr ho rows.length;refine cE (kD (xs:=[dKT (fY ins rows outs rows.length)]) rfl ?_);unfold G6 dKT;simp only [Y7];rw [if_pos (by omega)];rfl
theorem Z2p {ins:Nat}{rows:Ab Row}{C:Af}{outs:Ab Int}{w:Int}{base:Ab D}(hb:base.length <= 900) (a3 a4 a5:Slot) (so:bJ C [aX C ins rows outs,.int w]=some (LI (cU ins rows w))) :
  ∃ z,eL [] (cM (aJ (bJ C) [] (aC (aA 0) (aC (aA 2) aH)))) (gtN 3) (iG 1 (iK (aC (fC (.str "wire")) (aC (aY (aA 2)) (aC (aY (aA 3)) aH)))))
   [some (false,aX C ins rows outs),some (true,.lst base),some (false,.int w),a3,a4,a5]=.next [some (false,aX C ins rows outs),some (true,.lst (base ++ ((cU ins rows w).map fun b=>Flt.wire w b).map Flt.d)),some (false,.int w),z,a4,a5]:=by
 have hbl:=gF (ins:=ins) (rows:=rows) (w:=w);obtain⟨env',h1,⟨z,rfl⟩⟩:=L6 (rs:=[]) (src:=cM (aJ (bJ C) [] (aC (aA 0) (aC (aA 2) aH)))) (t:=gtN 3) (g:=iG 1 (iK (aC (fC (.str "wire")) (aC (aY (aA 2)) (aC (aY (aA 3)) aH)))))
  (env:=[some (false,aX C ins rows outs),some (true,.lst base),some (false,.int w),a3,a4,a5]) (ds:=(cU ins rows w).map D.int) (eI (aK (xs:=[aX C ins rows outs,.int w]) rfl so))
  (fun j env=>∃ z,env=[some (false,aX C ins rows outs),some (true,.lst (base ++ (((cU ins rows w).take j).map fun b=>Flt.wire w b).map Flt.d)),some (false,.int w),z,a4,a5]) ⟨a3,by simp [PD.fz]⟩ (by
   rintro j d env hd ⟨z,rfl⟩;obtain⟨x,hx,rfl⟩:=fE hd;refine⟨_,_,rfl,jS (d:=(Flt.wire w x).d) rfl rfl ?_,some (false,.int x),?_⟩
   .rw [QaB,Qaa,Qaa,Qav];omega
   .rw [cH hx];simp only [QaG,Qao,Qbi,<- QaK];rfl)
 rw [Qaa,QaR] at h1;exact⟨z,h1⟩
theorem Z4v {ins:Nat}{rows:Ab Row}{C:Af}{outs:Ab Int}{w:Int}{base:Ab D}(hb:base.length <= 900) (a3 a4 a5:Slot) (sl:cV C [aX C ins rows outs,.int w]=some (LI (bC ins rows w))) (so:∀ a ∈ bC ins rows w,bJ C [aX C ins rows outs,.int a]=some (LI (cU ins rows a))) :
  ∃ x y z,eL [] (sB1 A1 (aC (aJ (cV C) [] (aC (aA 0) (aC (aA 2) aH))) aH)) (gtT [4,5]) (eL [] (cM (aJ (bJ C) [] (aC (aA 0) (aC (aA 5) aH)))) (gtN 3) (iG 1 (iK (aC (fC (.str "leg")) (aC (aY (aA 2)) (aC (aY (aA 4)) (aC (aY (aA 3)) aH)))))))
   [some (false,aX C ins rows outs),some (true,.lst base),some (false,.int w),a3,a4,a5]=.next [some (false,aX C ins rows outs),some (true,.lst (base ++ (bW ins rows w 0 (bC ins rows w)).map Flt.d)),some (false,.int w),x,y,z]:=by
 have hll:=hU (ins:=ins) (rows:=rows) (w:=w);obtain⟨env',h1,⟨x,y,z,rfl⟩⟩:=L6 (rs:=[]) (src:=sB1 A1 (aC (aJ (cV C) [] (aC (aA 0) (aC (aA 2) aH))) aH)) (t:=gtT [4,5]) (g:=eL [] (cM (aJ (bJ C) [] (aC (aA 0) (aC (aA 5) aH)))) (gtN 3) (iG 1 (iK (aC (fC (.str "leg")) (aC (aY (aA 2)) (aC (aY (aA 4)) (aC (aY (aA 3)) aH)))))))
  (env:=[some (false,aX C ins rows outs),some (true,.lst base),some (false,.int w),a3,a4,a5]) (ds:=((bC ins rows w).map D.int).mapIdx fun i d=>.tup [.int i,d]) (dX (xs:=[LI (bC ins rows w)]) (aQ (aK (xs:=[aX C ins rows outs,.int w]) rfl sl) rfl) (by simp only [A1,LI]))
  (fun j env=>∃ x y z,env=[some (false,aX C ins rows outs),some (true,.lst (base ++ (bW ins rows w 0 ((bC ins rows w).take j)).map Flt.d)),some (false,.int w),x,y,z]) ⟨a3,a4,a5,by simp [PD.fz,bW]⟩ (by
   rintro j d env hd ⟨x,y,z,rfl⟩;obtain⟨e,he,rfl⟩:=Y1 hd;obtain⟨a,ha,rfl⟩:=fE he;have sa:=so a (QaI ha);have hbl:=gF (ins:=ins) (rows:=rows) (w:=a);have hfl:=iD (ins:=ins) (rows:=rows) (w:=w) ((bC ins rows w).take j) 0;rw [Qav] at hfl;generalize hB:base ++ (bW ins rows w 0 ((bC ins rows w).take j)).map Flt.d=B at *
   have hBl:B.length <= 950:=by rw [<- hB,QaB,Qaa];omega
   obtain⟨env',h1,⟨z',rfl⟩⟩:=L6 (rs:=[]) (src:=cM (aJ (bJ C) [] (aC (aA 0) (aC (aA 5) aH)))) (t:=gtN 3) (g:=iG 1 (iK (aC (fC (.str "leg")) (aC (aY (aA 2)) (aC (aY (aA 4)) (aC (aY (aA 3)) aH))))))
    (env:=[some (false,aX C ins rows outs),some (true,.lst B),some (false,.int w),x,some (false,.int j),some (false,.int a)]) (ds:=(cU ins rows a).map D.int) (eI (aK (xs:=[aX C ins rows outs,.int a]) rfl sa))
    (fun l env=>∃ z',env=[some (false,aX C ins rows outs),some (true,.lst (B ++ (((cU ins rows a).take l).map fun b=>Flt.leg w (j:Int) b).map Flt.d)),some (false,.int w),z',some (false,.int j),some (false,.int a)]) ⟨x,by simp [PD.fz]⟩ (by
     rintro l d env hd ⟨z',rfl⟩;obtain⟨b,hb',rfl⟩:=fE hd;refine⟨_,_,rfl,jS (d:=(Flt.leg w (j:Int) b).d) rfl rfl ?_,some (false,.int b),?_⟩
     .rw [QaB,Qaa,Qaa,Qav];omega
     .rw [cH hb'];simp only [QaG,Qao,Qbi,<- QaK];rfl)
   rw [Qaa,QaR] at h1;refine⟨_,_,rfl,h1,z',some (false,.int j),some (false,.int a),?_⟩;rw [mW ha,QaG,<- QaK,hB])
 rw [List.length_mapIdx,Qaa,QaR] at h1;exact⟨x,y,z,h1⟩
theorem oN {C:Af}{ins:Nat}{rows:Ab Row}{outs:Ab Int}(hs:ins + rows.length < 64) (hl:outs.length <= 100) (hr:RowsOk ins rows) (ho:Ho ins rows outs) :
  fG C [aX C ins rows outs]=some (.lst ((bI ins rows outs).map Flt.d)):=by
 have nd:=Z1L (C:=C) hs hl hr ho;have nb:=tS hr ho;have nl:=yY hr ho;refine bB ?_;unfold rA bI;generalize mU ins rows outs=N at *
 refine iS (d:=.lst []) rfl ?_;refine gR (ds:=N.map D.int) (eI (aK (xs:=[aX C ins rows outs]) rfl nd))
  (fun i env=>∃ a b c d,env=[some (false,aX C ins rows outs),some (true,.lst (((N.take i).flatMap (cG ins rows)).map Flt.d)),a,b,c,d]) ⟨none,none,none,none,rfl⟩ ?_ ?_
 .rintro i d env hd ⟨a,b,c,e,rfl⟩;obtain⟨w,hw,rfl⟩:=fE hd;have hwb:=nb w (QaI hw);have hil:i < N.length:=(Qac.mp hw).1;have fl:=rC (ins:=ins) (rows:=rows) (N.take i);rw [Qav] at fl;rw [Z2c hw];generalize hB:(N.take i).flatMap (cG ins rows)=B at *
  have hBl:(B.map Flt.d).length <= 400:=by rw [Qaa];omega
  obtain⟨z,h1⟩:=Z2p (C:=C) (outs:=outs) (w:=w) (base:=B.map Flt.d) (by omega) b c e (kX hwb.2);have hbl:=gF (ins:=ins) (rows:=rows) (w:=w);obtain⟨x',y',z',h2⟩:=Z4v (C:=C) (outs:=outs) (w:=w) (base:=B.map Flt.d ++ ((cU ins rows w).map fun b=>Flt.wire w b).map Flt.d) (by rw [QaB,Qaa,Qaa,Qaa];rw [Qaa] at hBl;omega) z c e (oF hwb.2)
   (fun a ha=>kX (by have:=iW hr ha;omega))
  refine⟨_,_,rfl,Z4N h1 h2,some (false,.int w),x',y',z',?_⟩;unfold cG;simp only [QaG,QaK]
 .rintro env ⟨a,b,c,e,rfl⟩;rw [Qaa,QaR];rfl
theorem zQ (fs:Ab Flt):flats (fs.map Flt.d)=true:=kT fun d hd=>by
 obtain⟨f,_,rfl⟩:=QaM.mp hd;exact jK f
theorem pC (e1:env[j]? = some (some (true,.lst xs))) (e2:f env=some (.lst ys)) (h1:flats xs=true) (h2:xs.length + ys.length <= 1000):gT i j f env=.next (env.set i (some (true,.lst (xs ++ ys)))):=by
 unfold gT;simp only [e1,e2,h1,h2,and_self,RC]
theorem Z5K (h0:0 <= k):jJ C [LI ns,.int k]=some (.int (nth ns k)):=by
 have el:bK [.lst (ns.map D.int)]=some (.int (ns.length:Int)):=by simp only [bK,Qaa]
 unfold jJ Z46;by_cases h:k < (ns.length:Int)
 .have ea:=gG (vs:=ns) h0 h;simp only [LI];walk_at "ev"
 .have e0:=Z0E (l:=ns) (a:=k) (by omega);simp only [LI];walk_at "ev"
theorem uY (hc:Builtin.Int.intBits c <= 1048600) (hk:0 <= k) (hk2:k <= 100000):∃ m,0 <= m /\ m < 2147483648 /\ cT C [.int c,.int k]=some (.int m):=by
 have p1:Z6c 10 40:=⟨by decide,by decide,by decide⟩;have p2:dO 1 (31 * (k % 60)):=jM (by omega) (by omega);have p3:dO 1 31:=jM (by decide) (by decide);have m1:IntMulOk 31 (k % 60):=nO (by decide) (by decide);have m2:IntMulOk c 1103515245:=nN (by decide) (by decide);have m3:IntMulOk 7919 k:=nO (by decide) (by decide);have m4:IntMulOk (7919 * k) k:=nN (by omega) (by omega);have q1:(0:Int) < 60:=by decide
 have q2:(0:Int) < 1 * 2 ^ Int.toNat 31:=by decide
 have q3:(0:Int) < 2147483629:=by decide
 have q4:(0:Int) < 2147483587:=by decide
 have q5:(0:Int) < 2147483647:=by decide
 have d1:dM (c - 10 ^ Int.toNat 40) (1 * 2 ^ (31 * (k % 60)).toNat):=xD (by omega);by_cases h:(10:Int) ^ Int.toNat 40 <= c
 .refine⟨(c - 10 ^ Int.toNat 40) / (1 * 2 ^ (31 * (k % 60)).toNat) % (1 * 2 ^ Int.toNat 31),QaL _ (by decide),QaC _ (by decide),?_⟩;unfold cT tG;walk_at "ev"
 .have n0:=QaL (c * 1103515245 + 7919 * k * k + k) (show (2147483647:Int) ≠ 0 by decide);have n1:=QaC (c * 1103515245 + 7919 * k * k + k) q5;generalize hA:(c * 1103515245 + 7919 * k * k + k) % 2147483647=A at n0 n1;have m5:IntMulOk A A:=nO (by omega) (by omega);have n2:=QaL (A * A) (show (2147483629:Int) ≠ 0 by decide);have n3:=QaC (A * A) q3;generalize hB:A * A % 2147483629=B at n2 n3;have m6:IntMulOk B 69621:=nN (by decide) (by decide);refine⟨B * 69621 % 2147483587,QaL _ (by decide),Int.lt_trans (QaC _ (by decide)) (by decide),?_⟩;unfold cT tG;walk_at "ev"
theorem Z5I (hlen:ns.length <= 63) (hb:∀ c ∈ ns,Builtin.Int.intBits c <= 1048576):∃ d,nT C [LI ns,.int 11]=some d /\ ∃ xs:Ab Int,xs.length=11 /\ (∀ x ∈ xs,0 <= x /\ x < 2147483648) /\ d=LI xs:=by
 refine Z4S ?_;unfold zL;have e0:bL [] (sB1 eJ (aC (aA 1) aH)) fTT (fI0 (fun i j=>.int (i + j)) (fI2 IntMulOk (fun i j=>.int (i * j)) (aA 0) (aA 0)) (fC (.int 1))) [some (false,LI ns),some (false,.int 11),none,none,none,none,none]=some (LI ((List.range 11).map fun (k:Nat)=>(k:Int) * (k:Int) + 1)):=by
  rw [bY (fun (k:Nat)=>.int (k:Int)) (fun (k:Nat)=>.int ((k:Int) * (k:Int) + 1)) (xs:=List.range 11) (dX (xs:=[.int 11]) rfl (Z2T (n:=11) rfl (by decide))) (by decide) (fun k hk=>?_)]
  .simp [LI,Function.comp_def]
  .have:=Qa7.mp hk;have mo:IntMulOk (k:Int) (k:Int):=nO (by omega) (by omega);walk_at "ev"
 refine jN e0 ?_;have e1:=fL ns;have e2:cutD (ns.map D.int) none (some 63)=ns.map D.int:=(jL (ns.map D.int) 63).trans (Qbq (by simpa using hlen));refine jN (d:=LI ns) (by simp only [LI];walk_at "ev") ?_;have el:bK [.lst (ns.map D.int)]=some (.int (ns.length:Int)):=by simp only [bK,Qaa]
 refine Z0e (ds:=(List.range (ns.length - 2)).map fun (k:Nat)=>.int (2 + (k:Int))) (dX (xs:=[.int 2,.int (ns.length:Int)]) (by simp only [LI];walk_at "ev") (Z9d (by omega) (by decide) (by decide) (by omega) (by omega)))
  (fun i env=>∃ xs a b c,xs.length=11 /\ (∀ x ∈ xs,0 <= x /\ x < 2147483648) /\ env=[some (false,LI ns),some (false,.int 11),some (true,LI xs),some (true,LI ns),a,b,c]) ⟨_,none,none,none,by simp,?_,rfl⟩ ?_ ?_
 .intro x hx;obtain⟨k,hk,rfl⟩:=QaM.mp hx;have hk:=Qa7.mp hk;have h1:(k:Int) * (k:Int) <= 11 * 11:=Int.mul_le_mul (by omega) (by omega) (by omega) (by omega);have h2:0 <= (k:Int) * (k:Int):=Int.mul_nonneg (by omega) (by omega);omega
 .rintro i d env R hd ⟨xs,a,b,c,hx,hall,rfl⟩ hR;obtain⟨hi,rfl⟩:=cY hd;refine⟨_,rfl,?_⟩;have q11:(0:Int) < 11:=by decide
  have z0:=QaL (2 + (i:Int)) (show (11:Int) ≠ 0 by decide);have z1:=QaC (2 + (i:Int)) q11;generalize hz:(2 + (i:Int)) % 11=z at z0 z1;refine jN (d:=.int z) (by clear hR hall e0 e1 e2 el hb;walk_at "ev") ?_;have a1:=gG (vs:=xs) (a:=z) z0 (by omega);have a2:=gG (vs:=ns) (a:=2 + (i:Int)) (by omega) (by omega);have hm1:=D3 (vs:=xs) (a:=z) z0 (by omega);have hm2:=D3 (vs:=ns) (a:=2 + (i:Int)) (by omega) (by omega);obtain⟨m,m0,m1,em⟩:=uY (C:=C) (c:=nth ns (2 + (i:Int))) (k:=2 + (i:Int)) (QaV (hb _ hm2) (by decide)) (by omega) (by omega);have mo:IntMulOk (nth xs z) 31:=nN (by decide) (by decide);refine jN (d:=.int (nth xs z * 31 + m)) (by simp only [LI];clear hR hall e0 e1 e2 el hb hm1 hm2;walk_at "ev") ?_;have q3:(0:Int) < 2147483629:=by decide
  refine Z7J (d:=.int ((nth xs z * 31 + m) % 2147483629)) (j:=z) (ds:=xs.map D.int) (by clear hR hall e0 e1 e2 el hb hm1 hm2 em a1 a2;walk_at "ev") rfl rfl z0 (by rw [Qaa];omega) (fL _) rfl ?_;refine hR _ ⟨xs.set z.toNat ((nth xs z * 31 + m) % 2147483629),_,_,_,by simpa using hx,Z5u _ hall ?_,by simp only [LI,List.map_set];rfl⟩;have y0:=QaL (nth xs z * 31 + m) (show (2147483629:Int) ≠ 0 by decide);have y1:=QaC (nth xs z * 31 + m) q3;omega
 .rintro env ⟨xs,a,b,c,hx,hall,rfl⟩;exact Z2x rfl ⟨_,rfl,xs,hx,hall,rfl⟩
theorem Z8r (x:Int):∃ k:Kd,atI [D.str "and",.str "or",.str "xor",.str "and"] (x % 4)=some (.str k.s):=by
 have h0:=QaL x (show (4:Int) ≠ 0 by decide);have h1:=QaC x (show (0:Int) < 4 by decide);generalize x % 4=y at *
 have:y=0 \/ y=1 \/ y=2 \/ y=3:=by omega
 rcases this with rfl | rfl | rfl | rfl
 .exact⟨.and,rfl⟩
 .exact⟨.or,rfl⟩
 .exact⟨.xor,rfl⟩
 .exact⟨.and,rfl⟩
theorem RowsOk.snoc (h:RowsOk ins rows) (hr:RowOk ((ins + rows.length:Nat):Int) r):RowsOk ins (rows ++ [r]):=by
 intro k r' e;by_cases hk:k < rows.length
 .rw [QaY hk] at e;exact h k r' e
 .rw [Qa4 (by omega)] at e;have:k - rows.length=0:=by
   by_cases z:k - rows.length=0
   .exact z
   .rw [Qaw (by simp;omega)] at e;cases e
  rw [this] at e;simp at e;subst e;have:k=rows.length:=by omega
  rw [this];exact hr
theorem Z7f {C:Af}{ins:Nat}{xs:Ab Int}(hl:xs.length <= 100):∃ d,qH C [.int ins,LI xs]=some d /\ ∃ rows:Ab Row,RowsOk ins rows /\ rows.length=xs.length /\ d=.lst (rows.map Row.d):=by
 refine Z4S ?_;unfold O0;refine jN (d:=.lst []) rfl ?_;refine Z0e (ds:=xs.map D.int) rfl (fun i env=>∃ rows a b c e,RowsOk ins rows /\ rows.length=i /\ env=[some (false,.int ins),some (false,LI xs),some (true,.lst (rows.map Row.d)),a,b,c,e])
  ⟨[],none,none,none,none,fun k r h=>(by simp at h),rfl,rfl⟩ ?_ ?_
 .rintro i d env R hd ⟨rows,a,b,c,e,hr,rfl,rfl⟩ hR;obtain⟨n,hn,rfl⟩:=fE hd;have hil:=(Qac.mp hn).1;refine⟨_,rfl,?_⟩;have el:bK [.lst (rows.map Row.d)]=some (.int (rows.length:Int)):=by simp only [bK,Qaa]
  generalize hA:(ins:Int) + (rows.length:Int)=A;have hA0:0 <= A:=by omega
  refine jN (d:=.int A) (by clear hR;walk_at "ev") ?_;have d16:dM n 16:=⟨by decide,by decide⟩;have d80:dM n 80:=⟨by decide,by decide⟩;have q16:(0:Int) < 16:=by decide
  have q4:(0:Int) < 4:=by decide
  have q2:(0:Int) < 2:=by decide
  have f1:Z0c [.int A,.int 5]=some (.int (if 5 < A then 5 else A)):=rfl;generalize hM:(if 5 < A then 5 else A)=M at f1;have hM1:M <= A /\ 0 <= M /\ (0 < A->0 < M):=by rw [<- hM];split <;> omega
  have f2:Z2r [.int 1,.int M]=some (.int (if M > 1 then M else 1)):=rfl;generalize hM2:(if M > 1 then M else 1)=M2 at f2;have hM3:0 < M2 /\ (0 < A->M2 <= A):=by rw [<- hM2];split <;> omega
  have f3:Z2r [.int 1,.int A]=some (.int (if A > 1 then A else 1)):=rfl;generalize hM4:(if A > 1 then A else 1)=M4 at f3;have hM5:0 < M4 /\ (0 < A->M4 <= A):=by rw [<- hM4];split <;> omega
  have p2:=hM3.1;have p4:=hM5.1;have u0:=QaL (n / 16) (show M2 ≠ 0 by omega);have u1:=QaC (n / 16) p2;have v0:=QaL (n / 80) (show M4 ≠ 0 by omega);have v1:=QaC (n / 80) p4;refine jN (d:=.int (A - 1 - n / 16 % M2)) (by clear hR hM hM2 hM4 hM1 hM3 hM5 hA el;walk_at "ev") ?_;refine jN (d:=.int (A - 1 - n / 80 % M4)) (by clear hR hM hM2 hM4 hM1 hM3 hM5 hA el f1 f2;walk_at "ev") ?_;have hlen:(rows.map Row.d).length <= 1000:=by rw [Qaa];omega
  have hfin:∀ r:Row,RowOk A r->R (.next [some (false,.int ins),some (false,LI xs),some (true,.lst (rows.map Row.d ++ [r.d])),some (false,.int n),some (true,.int A),some (true,.int (A - 1 - n / 16 % M2)),some (true,.int (A - 1 - n / 80 % M4))]):=by
   intro r hro;refine hR _ ⟨rows ++ [r],some (false,.int n),some (true,.int A),some (true,.int (A - 1 - n / 16 % M2)),some (true,.int (A - 1 - n / 80 % M4)),hr.snoc (by rw [show ((ins + rows.length:Nat):Int)=A by omega];exact hro),by simp,?_⟩;simp only [QaG,Qao,Qbi]
  have w0:=QaL (n / 16) (show (2:Int) ≠ 0 by decide);have w1:=QaC (n / 16) q2;obtain⟨kd,hkd⟩:=Z8r n;generalize hone:A - 1 - n / 16 % M2=one at *
  generalize htwo:A - 1 - n / 80 % M4=two at *
  by_cases hc:A=0 \/ n % 16=0
  .refine J3 (by
    clear hfin hR;rcases hc with z | z
    .subst z;walk_at "ev"
    .by_cases hz:A=0
     .subst hz;walk_at "ev"
     .walk_at "ev") ?_
   refine Z0f (d:=(Row.fix (n / 16 % 2)).d) (by clear hfin hR;walk_at "ev";rfl) rfl hlen ?_;exact hfin (.fix (n / 16 % 2)) (by show _ \/ _;omega)
  .have hz:¬ A=0:=fun z=>hc (.inl z);have hz2:¬ n % 16=0:=fun z=>hc (.inr z);refine yJ (by clear hfin hR;walk_at "ev") ?_;by_cases h4:n % 16 < 4
   .refine J3 (by clear hfin hR;walk_at "ev") ?_;refine Z0f (d:=(Row.not one).d) (by clear hfin hR;walk_at "ev";rfl) rfl hlen ?_;exact hfin (.not one) (by show _ /\ _;omega)
   .refine yJ (by clear hfin hR;walk_at "ev") ?_;refine Z0f (d:=(Row.bin kd one two).d) (by clear hfin hR;walk_at "ev";rfl) rfl hlen ?_;exact hfin (.bin kd one two) (by show (_ /\ _) /\ _;omega)
 .rintro env ⟨rows,a,b,c,e,hr,hl',rfl⟩;exact Z2x rfl ⟨_,rfl,rows,hr,by simpa using hl',rfl⟩
theorem Z7g (hW:0 < W):∃ d,qI C [.int W,.int n]=some d /\ ∃ outs:Ab Int,0 < outs.length /\ outs.length <= 16 /\ (∀ a ∈ outs,0 <= a /\ a < W) /\ d=LI outs:=by
 refine Z4S ?_;unfold O1;refine jN (d:=LI [W - 1]) (by simp only [LI,Qao,Qbi];walk_at "ev") ?_;have q4:(0:Int) < 4:=by decide
 have z0:=QaL n (show (4:Int) ≠ 0 by decide);have z1:=QaC n q4;obtain⟨k4,hk4⟩:∃ k:Nat,n % 4=(k:Int):=⟨(n % 4).toNat,by omega⟩;have hin1:∀ {l:Ab Int}{v:Int},(∀ a ∈ l,0 <= a /\ a < W)->0 <= v->v < W->∀ a ∈ l ++ [v],0 <= a /\ a < W:=by
  intro l v h1 h2 h3 a ha;rcases Qai.mp ha with z | z
  .exact h1 a z
  .have:a=v:=by simpa using z
   subst this;exact⟨h2,h3⟩
 refine Z0e (ds:=(List.range k4).map fun (k:Nat)=>.int (k:Int)) (dX (xs:=[.int (n % 4)]) (by clear hin1 hk4;walk_at "ev") (Z2T hk4 (by omega)))
  (fun i env=>∃ outs a,outs.length=i + 1 /\ (∀ a ∈ outs,0 <= a /\ a < W) /\ env=[some (false,.int W),some (false,.int n),some (true,LI outs),a]) ⟨[W - 1],none,rfl,fun a ha=>(by have h1:a=W - 1:=(by simpa using ha);omega),rfl⟩ ?_ ?_
 .rintro i d env R hd ⟨outs,a,ho,hall,rfl⟩ hR;obtain⟨hi,rfl⟩:=cY hd;have dk:dM n ((i:Int) + 4):=Z02 (by omega) (by omega);have v0:=QaL (n / ((i:Int) + 4)) (show W ≠ 0 by omega);have v1:=QaC (n / ((i:Int) + 4)) hW;refine⟨_,rfl,?_⟩;refine Z0f (d:=.int (n / ((i:Int) + 4) % W)) (ds:=outs.map D.int) (by clear hR hall hin1 hk4;walk_at "ev") rfl (by rw [Qaa];omega) ?_;refine hR _ ⟨outs ++ [n / ((i:Int) + 4) % W],some (false,.int (i:Int)),by simp [ho],hin1 hall v0 v1,?_⟩;simp only [LI,QaG,Qao,Qbi];rfl
 rintro env ⟨outs,a,ho,hall,rfl⟩;rw [Qaa,QaJ] at ho;have d64:dM n 64:=⟨by decide,by decide⟩;have d1024:dM n 1024:=⟨by decide,by decide⟩;have q16:(0:Int) < 16:=by decide
 have q3:(0:Int) < 3:=by decide
 have ol:outs.length <= 4:=by omega
 refine Z4B (fun e=>∃ outs a,0 < outs.length /\ outs.length <= 16 /\ (∀ a ∈ outs,0 <= a /\ a < W) /\ e=[some (false,.int W),some (false,.int n),some (true,LI outs),a]) ?_ ?_
 .by_cases h:n / 64 % 16=0
  .refine J3 (by clear hin1 hall;walk_at "ev") ?_;have el:bK [.lst (outs.map D.int)]=some (.int (outs.length:Int)):=by simp only [bK,Qaa]
   have ec:bL [0,1] (sB1 eJ (aC (fI0 (fun i j=>.int (i - j)) (fC (.int 16)) (fB1 bK (aC (aA 2) aH))) aH)) fTT (fI2 (fun _ j=>0 < j) (fun i j=>.int (i % j)) (fI2 IntMulOk (fun i j=>.int (i * j)) (aA 0) (aA 2)) (aA 1)) [some (false,.int W),some (false,.int n),some (true,LI outs),a]=some (LI ((List.range (16 - outs.length)).map fun (k:Nat)=>(k:Int) * n % W)):=by
    rw [bY (fun (k:Nat)=>.int (k:Int)) (fun (k:Nat)=>.int ((k:Int) * n % W)) (xs:=List.range (16 - outs.length)) (dX (xs:=[.int (16 - (outs.length:Int))]) (by simp only [LI];clear hin1 hall;walk_at "ev") (Z2T (by omega) (by omega))) (by rw [QaJ];omega) (fun k hk=>?_)]
    .simp [LI,Function.comp_def]
    .have hk:=Qa7.mp hk;have mo:IntMulOk (k:Int) n:=nO (by omega) (by omega);show fI2 _ _ _ (aA 1) [some (false,.int (k:Int)),some (false,.int W),some (false,.int n)]=_;clear hin1 hall;walk_at "ev"
   refine Z2w (xs:=outs.map D.int) rfl ec (fL _) (by simp;omega) ?_;refine⟨_,rfl,outs ++ (List.range (16 - outs.length)).map (fun (k:Nat)=>(k:Int) * n % W),a,by simp;omega,by simp;omega,fun b hb=>?_,?_⟩
   .rcases Qai.mp hb with z | z
    .exact hall b z
    .obtain⟨k,_,rfl⟩:=QaM.mp z;exact⟨QaL _ (by omega),QaC _ hW⟩
   .simp only [LI,QaG];rfl
  .refine yJ (by clear hin1 hall;walk_at "ev") ?_;exact⟨_,rfl,outs,a,by omega,by omega,hall,rfl⟩
 rintro _ ⟨outs,a,o1,o2,hall,rfl⟩;refine Z4B (fun e=>∃ outs a,0 < outs.length /\ outs.length <= 16 /\ (∀ a ∈ outs,0 <= a /\ a < W) /\ e=[some (false,.int W),some (false,.int n),some (true,LI outs),a]) ?_ ?_
 .by_cases h:n / 1024 % 3=0
  .refine J3 (by clear hin1 hall;walk_at "ev") ?_;have fo:=fL outs;refine Z0d (d:=LI outs.reverse) (by simp only [LI,List.map_reverse];clear hin1 hall;walk_at "ev") ?_;exact⟨_,rfl,outs.reverse,a,by simpa using o1,by simpa using o2,fun b hb=>hall b (List.mem_reverse.mp hb),rfl⟩
  .refine yJ (by clear hin1 hall;walk_at "ev") ?_;exact⟨_,rfl,outs,a,o1,o2,hall,rfl⟩
 rintro _ ⟨outs,a,o1,o2,hall,rfl⟩;exact Z2x rfl ⟨_,rfl,outs,o1,o2,hall,rfl⟩
theorem Z5H {C:Af}{ins i:Nat}(hi:ins <= 8) (h:i < ins):iV C [.int ins,.int i]=some (.int (tab (2 ^ ins) fun g=>decide (g / 2 ^ i % 2=1))):=by
 obtain⟨pb0,pb1⟩:=qA hi;have pbn:2 ^ ins <= 256:=Int.ofNat_le.mp pb1;have p1:dO 1 (ins:Int):=jM (by omega) (by omega);have p3:dO 1 (i:Int):=jM (by omega) (by omega);refine bB ?_;unfold zK;refine iS (d:=.int 0) rfl ?_;refine gR (ds:=(List.range (2 ^ ins)).map fun (k:Nat)=>.int (k:Int)) (dX (xs:=[.int ((1:Int) * 2 ^ (ins:Int).toNat)]) (by clear pb0 pb1 pbn hi h p3;walk_at "ev") (Z2T (gP ins) (by omega)))
  (fun j env=>∃ a,env=[some (false,.int ins),some (false,.int i),some (true,.int (tab j fun g=>decide (g / 2 ^ i % 2=1))),a]) ⟨none,rfl⟩ ?_ ?_
 .rintro g d env hd ⟨a,rfl⟩;obtain⟨hg,rfl⟩:=cY hd;have d1:dM (g:Int) ((1:Int) * 2 ^ (i:Int).toNat):=xD (by omega);have q2:(0:Int) < 2:=by decide
  have ee:((g:Int) / ((1:Int) * 2 ^ (i:Int).toNat) % 2=1)=(g / 2 ^ i % 2=1):=by
   rw [gP];apply propext;constructor
   .intro z;exact Int.ofNat.inj (by simpa using z)
   .intro z;have:=congrArg (fun (n:Nat)=>(n:Int)) z;simpa using this
  have p4:dO 1 (g:Int):=jM (by omega) (by omega);by_cases hb:g / 2 ^ i % 2=1
  .have e5:tab (g + 1) (fun g=>decide (g / 2 ^ i % 2=1))=tab g (fun g=>decide (g / 2 ^ i % 2=1)) + (1:Int) * 2 ^ (g:Int).toNat:=by
    unfold tab;simp only [tabN];simp [hb]
   refine⟨_,_,rfl,L5 (by clear pb0 pb1 pbn hi h p1 hd;walk_at "ev") (uU (d:=.int (tab g (fun g=>decide (g / 2 ^ i % 2=1)) + (1:Int) * 2 ^ (g:Int).toNat)) (by clear pb0 pb1 pbn hi h p1 hd ee;walk_at "ev")),some (false,.int g),by rw [e5];rfl⟩
  .have e5:tab (g + 1) (fun g=>decide (g / 2 ^ i % 2=1))=tab g (fun g=>decide (g / 2 ^ i % 2=1)):=by
    unfold tab;simp only [tabN];simp [hb]
   refine⟨_,_,rfl,pX (by clear pb0 pb1 pbn hi h p1 hd;walk_at "ev") rfl,some (false,.int g),by rw [e5];rfl⟩
 .rintro env ⟨a,rfl⟩;rw [Qaa,QaJ];rfl
theorem Z5J (hlen:ns.length <= 63) (hb:∀ c ∈ ns,Builtin.Int.intBits c <= 1048576):∃ d,nU C [LI ns]=some d /\ ∃ (ins:Nat) (rows:Ab Row) (outs:Ab Int),ins <= 5 /\ RowsOk ins rows /\ rows.length <= 10 /\ 0 < outs.length /\ outs.length <= 16 /\ (Ho ins rows outs) /\ 0 < ins + rows.length /\ d=bH ins rows outs:=by
 refine Z4S ?_;unfold zM;have a0:=Z5K (C:=C) (ns:=ns) (k:=0) (by decide);have a1:=Z5K (C:=C) (ns:=ns) (k:=1) (by decide);generalize nth ns 0=fst at a0;generalize nth ns 1=snd at a1;refine jN (d:=.int fst) (aK (xs:=[LI ns,.int 0]) rfl a0) ?_;have q4:(0:Int) < 4:=by decide
 have q6:(0:Int) < 6:=by decide
 have q11:(0:Int) < 11:=by decide
 have q2:(0:Int) < 2:=by decide
 have d4:dM fst 4:=⟨by decide,by decide⟩;have d36:dM fst 36:=⟨by decide,by decide⟩;have d216:dM fst 216:=⟨by decide,by decide⟩;have u0:=QaL fst (show (4:Int) ≠ 0 by decide);have u1:=QaC fst q4;have v0:=QaL (fst / 4) (show (6:Int) ≠ 0 by decide);have v1:=QaC (fst / 4) q6;have w0:=QaL (fst / 216) (show (2:Int) ≠ 0 by decide);have w1:=QaC (fst / 216) q2;refine Z4B (fun e=>∃ ins:Nat,ins <= 5 /\ e=[some (false,LI ns),some (true,.int fst),some (true,.int ins),none,none,none]) ?_ ?_
 .by_cases h:fst / 36 % 6=5
  .refine Z0d (d:=.int (fst / 4 % 6)) (by clear hb a0 a1;walk_at "ev";simp only [G7,RC];walk_at "ev") ?_;refine⟨_,rfl,(fst / 4 % 6).toNat,by omega,?_⟩;rw [QbI v0];rfl
  .refine Z0d (d:=.int (fst % 4)) (by clear hb a0 a1;walk_at "ev";simp only [G7];walk_at "ev") ?_;refine⟨_,rfl,(fst % 4).toNat,by omega,?_⟩;rw [QbI u0];rfl
 rintro _ ⟨ins,hi5,rfl⟩;obtain⟨_,ef,xs,hxl,hxb,rfl⟩:=Z5I (C:=C) hlen hb;refine jN (d:=LI xs) (aK (xs:=[LI ns,.int 11]) rfl ef) ?_;have s0:=QaL snd (show (11:Int) ≠ 0 by decide);have s1:=QaC snd q11;obtain⟨k,hk⟩:∃ k:Nat,snd % 11=(k:Int):=⟨(snd % 11).toNat,by omega⟩;have e1:=fL xs;have e2:cutD (xs.map D.int) none (some (k:Int))=(xs.take k).map D.int:=by rw [List.map_take];exact jL (xs.map D.int) k
 obtain⟨_,er,rows,hr,hrl,rfl⟩:=Z7f (C:=C) (ins:=ins) (xs:=xs.take k) (by rw [Qav];omega);have hrl2:rows.length <= 10:=by rw [hrl,Qav];omega
 have ep:fSl (aA 3) tI (fP (fI2 (fun _ j=>0 < j) (fun i j=>.int (i % j)) (aJ (jJ C) [] (aC (aA 0) (aC (fC (.int 1)) aH))) (fC (.int 11)))) [some (false,LI ns),some (true,.int fst),some (true,.int ins),some (true,LI xs),none,none]=some (LI (xs.take k)):=by
  have:fP (fI2 (fun _ j=>0 < j) (fun i j=>.int (i % j)) (aJ (jJ C) [] (aC (aA 0) (aC (fC (.int 1)) aH))) (fC (.int 11))) [some (false,LI ns),some (true,.int fst),some (true,.int ins),some (true,LI xs),none,none]=some (some (k:Int)):=by
   clear hb a0 ef er e1 e2 hxb hr;walk_at "ev"
  rw [ev_Sl,this];simp only [LI,ev_var,ev_NoP,Qaj,Qap,Qaq,Option.map_some,e1,RC,e2]
 refine jN (d:=.lst (rows.map Row.d)) (aK (xs:=[.int ins,LI (xs.take k)]) (aQ rfl (aQ ep rfl)) er) ?_;refine Z4B (fun e=>∃ rows:Ab Row,RowsOk ins rows /\ rows.length <= 10 /\ 0 < ins + rows.length /\ e=[some (false,LI ns),some (true,.int fst),some (true,.int ins),some (true,LI xs),some (true,.lst (rows.map Row.d)),none]) ?_ ?_
 .have el:bK [.lst (rows.map Row.d)]=some (.int (rows.length:Int)):=by simp only [bK,Qaa]
  by_cases h:(ins:Int) + (rows.length:Int)=0
  .refine J3 (by clear hb a0 a1 ef er e1 e2 ep hxb hr hrl;walk_at "ev") ?_;refine Z0d (d:=.lst [(Row.fix (fst / 216 % 2)).d]) (by clear hb a0 a1 ef er e1 e2 ep hxb hr hrl;walk_at "ev";rfl) ?_;refine⟨_,rfl,[.fix (fst / 216 % 2)],?_,by simp,by simp,rfl⟩;intro k' r' e'
   match k',e' with
   | 0,e'=>cases e';show _ \/ _;omega
   | k' + 1,e'=>simp at e'
  .refine yJ (by clear hb a0 a1 ef er e1 e2 ep hxb hr hrl;walk_at "ev") ?_;exact⟨_,rfl,rows,hr,hrl2,by omega,rfl⟩
 clear er hr hrl hrl2;rintro _ ⟨rows,hr,hrl,hpos,rfl⟩;have el:bK [.lst (rows.map Row.d)]=some (.int (rows.length:Int)):=by simp only [bK,Qaa]
 have a10:=gG (vs:=xs) (a:=10) (by decide) (by omega);obtain⟨_,eo,outs,o1,o2,ho,rfl⟩:=Z7g (C:=C) (W:=(ins:Int) + (rows.length:Int)) (n:=nth xs 10) (by omega);refine jN (d:=LI outs) (aK (xs:=[.int ((ins:Int) + (rows.length:Int)),.int (nth xs 10)]) (by simp only [LI] at *;clear hb a0 a1 ef e1 e2 ep hxb hr eo ho;walk_at "ev") eo) ?_;have ei:bL [2] (sB1 eJ (aC (aA 2) aH)) fTT (aJ (iV C) [] (aC (aA 1) (aC (aA 0) aH))) [some (false,LI ns),some (true,.int fst),some (true,.int ins),some (true,LI xs),some (true,.lst (rows.map Row.d)),some (true,LI outs)]=some (LI (inT ins)):=by
  have e7:((List.range ins).map fun (i:Nat)=>D.int (tab (2 ^ ins) fun g=>decide (g / 2 ^ i % 2=1)))=(inT ins).map D.int:=by
   apply List.ext_getElem?;intro j;by_cases hj:j < ins
   .rw [Qas,Qas,nY ins j hj,List.getElem?_range hj];simp only [Option.map_some]
   .rw [Qaw (by simp;omega),Qaw (by rw [Qaa,fU];omega)]
  have e8:=bY (fr:=[2]) (src:=sB1 eJ (aC (aA 2) aH)) (fe:=aJ (iV C) [] (aC (aA 1) (aC (aA 0) aH))) (env:=[some (false,LI ns),some (true,.int fst),some (true,.int ins),some (true,LI xs),some (true,.lst (rows.map Row.d)),some (true,LI outs)])
   (fun (k:Nat)=>.int (k:Int)) (fun (i:Nat)=>.int (tab (2 ^ ins) fun g=>decide (g / 2 ^ i % 2=1))) (xs:=List.range ins) (dX (xs:=[.int (ins:Int)]) rfl (mO (by omega))) (by rw [QaJ];omega) (fun i hi=>aK (xs:=[.int ins,.int i]) rfl (Z5H (by omega) (Qa7.mp hi)))
  rw [e8,e7];simp only [LI]
 refine⟨bH ins rows outs,?_,ins,rows,outs,hi5,hr,hrl,o1,o2,fun a ha=>by have:=ho a ha;omega,hpos,rfl⟩;exact Z2X (pL rfl (pL rfl (pL rfl (Z8 ei rfl)))) (by simp)
theorem Z3S (hl:l=0 /\ 0 < r.ws.length \/ l=1 /\ 1 < r.ws.length) (hw:∀ a ∈ r.ws,0 <= a /\ a < vs.length) (hb:∀ w l b,f=.leg w l b->b=0 \/ b=1) :
  qK C [LI vs,r.d,.int l,f.d,.int w,.int (bA n)]=some (.int (sU r w l vs (bA n) f)):=by
 have key:aY (fIx (aA 0) (fIx (aA 1) (fI0 (fun i j=>.int (i + j)) (aA 2) (fC (.int 1))))) [some (false,LI vs),some (false,r.d),some (false,.int l),some (false,f.d),some (false,.int w),some (false,.int (bA n))]=some (.int (nth vs (nth r.ws l))):=by
  cases r with
  | fix b=>simp [Row.ws] at hl
  | not a =>
   rcases hl with ⟨rfl,_⟩ | ⟨_,h⟩
   .have ha:=hw a (by simp [Row.ws]);have ea:=gG ha.1 ha.2;have en:nth (Row.not a).ws 0=a:=rfl;simp only [LI,Row.d];walk_at "ev"
   .simp [Row.ws] at h
  | bin k a b =>
   rcases hl with ⟨rfl,_⟩ | ⟨rfl,_⟩
   .have ha:=hw a (by simp [Row.ws]);have ea:=gG ha.1 ha.2;have en:nth (Row.bin k a b).ws 0=a:=rfl;simp only [LI,Row.d];walk_at "ev"
   .have ha:=hw b (by simp [Row.ws]);have ea:=gG ha.1 ha.2;have en:nth (Row.bin k a b).ws 1=b:=rfl;simp only [LI,Row.d];walk_at "ev"
 refine bB ?_;unfold Z0N;cases f with
 | none =>
  refine sNo ?_ (cE key);simp only [Flt.d];rfl
 | wire w' b =>
  have e1:=Z7V;have ef:flats [.str "wire",.int w',.int b]=true:=rfl;have ec:cutD [.str "wire",.int w',.int b] none (some 3)=[.str "wire",.int w',.int b]:=jL _ 3;refine sNo ?_ (cE key);simp only [Flt.d];clear key hl hw hb;walk_at "ev"
  try simp
 | leg w' l' b =>
  have e1:=Z9a;have ef:flats [.str "leg",.int w',.int l',.int b]=true:=rfl;have ec:cutD [.str "leg",.int w',.int l',.int b] none (some 3)=[.str "leg",.int w',.int l']:=jL _ 3;have e2:kE (jO true (aA 3)) (fEq (Z7 (aA 3) tI (fP (fC (.int 3)))) (iK (aC (fC (.str "leg")) (aC (aA 4) (aC (aA 2) aH))))) [some (false,LI vs),some (false,r.d),some (false,.int l),some (false,(Flt.leg w' l' b).d),some (false,.int w),some (false,.int (bA n))]=some (decide (w'=w /\ l'=l)):=by
   simp only [Flt.d];clear key hl hw hb;by_cases h1:w'=w
   .by_cases h2:l'=l
    .subst h1;subst h2;walk_at "ev";try simp
    .subst h1;walk_at "ev";try simp [h2]
   .walk_at "ev";try simp [h1]
  by_cases h:w'=w /\ l'=l
  .rw [Rz h] at e2;have mo:IntMulOk (bA n) b:=rM (hb _ _ _ rfl);refine V1 e2 (vV ?_);simp only [sU,if_pos h,Flt.d];clear e1 e2 key;walk_at "ev"
  .rw [Ry h] at e2;refine sNo e2 ?_;simp only [sU,if_neg h];exact cE key
theorem N5 {C:Af}{n:Nat}{r:Row}{w k:Int}{vs:Ab Int}{f:Flt}(hr:RowOk k r) (hn:k <= vs.length) (hv:∀ a,IsT n (nth vs a)) (hb:∀ w l b,f=.leg w l b->b=0 \/ b=1) (hf:∀ w' l' b,f=.leg w' l' b->w'=w->0 <= l' /\ l' < r.ws.length) :
  eN C [LI vs,r.d,f.d,.int w,.int (bA n)]=some (.int (hX r (legs r w vs (bA n) f) (bA n))):=by
 have hw:∀ a ∈ r.ws,0 <= a /\ a < vs.length:=fun a ha=>by have:=hr.ws a ha;omega
 cases r with
 | fix b =>
  have e1:=Z4Q;have mo:IntMulOk (bA n) b:=rM hr;unfold eN iE;simp only [Row.d,hX];clear hv hb hf hw hr;walk_at "ev"
 | not a =>
  have h0:=Z3S (C:=C) (n:=n) (w:=w) (l:=0) (f:=f) (.inl ⟨rfl,by simp [Row.ws]⟩) hw hb;have k0:=sT (w:=w) (l:=0) (o:=bA n) (vs:=vs) (.inl ⟨rfl,by simp [Row.ws]⟩) hf;have e1:=Z1l;have e2:=Z99;have g1:=Z5N (Z3M (r:=.not a) (w:=w) (l:=0) hv hb);have g2:hX (.not a) (legs (.not a) w vs (bA n) f) (bA n)=bA n - sU (.not a) w 0 vs (bA n) f:=by rw [<- g1,<- k0];rfl
  rw [g2];generalize sU (Row.not a) w 0 vs (bA n) f=x at *
  unfold eN iE;simp only [Row.d] at h0 ⊢;clear g1 g2 k0 hf hb hv hr hw;walk_at "ev"
 | bin kd a b =>
  have h0:=Z3S (C:=C) (n:=n) (w:=w) (l:=0) (f:=f) (.inl ⟨rfl,by simp [Row.ws]⟩) hw hb;have k0:=sT (w:=w) (l:=0) (o:=bA n) (vs:=vs) (.inl ⟨rfl,by simp [Row.ws]⟩) hf;have h1:=Z3S (C:=C) (n:=n) (w:=w) (l:=1) (f:=f) (.inr ⟨rfl,by simp [Row.ws]⟩) hw hb;have k1:=sT (w:=w) (l:=1) (o:=bA n) (vs:=vs) (.inr ⟨rfl,by simp [Row.ws]⟩) hf;have e1:=Z1m kd;have e2:=Z85 kd;have e3:=Z86 kd;have e4:=Z84 kd;have g:hX (.bin kd a b) (legs (.bin kd a b) w vs (bA n) f) (bA n)=kdT kd (sU (.bin kd a b) w 0 vs (bA n) f) (sU (.bin kd a b) w 1 vs (bA n) f):=by
   rw [<- k0,<- k1];cases kd <;> rfl
  rw [g];clear g k0 k1 hf hb hv hr hw;generalize sU (Row.bin kd a b) w 0 vs (bA n) f=x at *
  generalize sU (Row.bin kd a b) w 1 vs (bA n) f=y at *
  unfold eN iE;simp only [Row.d] at h0 h1 ⊢;cases kd with
  | and=>walk_at "ev";rfl
  | or=>walk_at "ev";rfl
  | xor=>walk_at "ev";rfl
theorem Z5E {C:Af}{ins:Nat}{rows:Ab Row}{outs:Ab Int}{f:Flt}(hi:ins <= 8) (hs:ins + rows.length <= 1000) (hr:RowsOk ins rows) (hf:FltOk ins rows f) :
  nR C [bH ins rows outs,f.d]=some (LI (aL ins rows f)):=by
 have hN:=jQ ins rows f;have hbt:=dI hr hf;obtain⟨pb0,pb1⟩:=qA hi;have p1:dO 1 (ins:Int):=jM (by omega) (by omega);have p2:dO 1 ((1:Int) * 2 ^ (ins:Int).toNat):=by rw [gP];exact jM pb0 (Qbp pb1 (by decide))
 have ep:(1:Int) * 2 ^ ((1:Int) * 2 ^ (ins:Int).toNat).toNat - 1=bA (2 ^ ins):=by rw [gP];exact Z0Q ins
 refine bB ?_;unfold zG;have el:bK [.lst (rows.map Row.d)]=some (.int (rows.length:Int)):=by simp only [bK,Qaa]
 have e0:B9 [0] (gtT [2,3,4,5]) (aA 0) (enStart 9 [bH ins rows outs,f.d])=.next [some (false,bH ins rows outs),some (false,f.d),some (false,.int ins),some (false,.lst (rows.map Row.d)),some (false,LI outs),some (false,LI (inT ins)),none,none,none]:=rfl;refine Z4N e0 ?_;refine iS (d:=.int (bA (2 ^ ins))) (by clear hbt pb0 pb1 hN hi hs hr hf e0;walk_at "ev") ?_;refine iS (d:=.lst []) rfl ?_;refine gR (ds:=(List.range (ins + rows.length)).map fun (k:Nat)=>.int (k:Int)) (dX (xs:=[.int ((ins:Int) + (rows.length:Int))]) (by clear hbt pb0 pb1 hN hi hs hr hf p1 p2 ep e0;walk_at "ev") (Z2T (by omega) hs))
  (fun i env=>∃ s,env=[some (false,bH ins rows outs),some (false,f.d),some (false,.int ins),some (false,.lst (rows.map Row.d)),some (false,LI outs),some (false,LI (inT ins)),some (true,.int (bA (2 ^ ins))),some (true,LI ((aL ins rows f).take i)),s]) ⟨none,rfl⟩ ?_ ?_
 .rintro i d env hd ⟨s,rfl⟩;obtain⟨hin,rfl⟩:=cY hd;have htl:((aL ins rows f).take i).length=i:=by rw [Qav];omega
  have hol:(((aL ins rows f).take i).map D.int).length <= 1000:=by rw [Qaa];omega
  have fin:∀ v,(aL ins rows f)[i]? = some v->Res.next [some (false,bH ins rows outs),some (false,f.d),some (false,.int ins),some (false,.lst (rows.map Row.d)),some (false,LI outs),some (false,LI (inT ins)),some (true,.int (bA (2 ^ ins))),some (true,.lst (((aL ins rows f).take i).map D.int ++ [.int v])),some (false,.int i)] =
    .next [some (false,bH ins rows outs),some (false,f.d),some (false,.int ins),some (false,.lst (rows.map Row.d)),some (false,LI outs),some (false,LI (inT ins)),some (true,.int (bA (2 ^ ins))),some (true,LI ((aL ins rows f).take (i + 1))),some (false,.int i)]:=by
   intro v hv;rw [cH hv];simp only [LI,QaG,Qao,Qbi]
  generalize htk:(aL ins rows f).take i=vs at *
  -- the wire's own fault
  have ht:∀ z,kE (jO true (aA 1)) (fEq (Z7 (aA 1) tI (fP (fC (.int 2)))) (iK (aC (fC (.str "wire")) (aC (aA 8) aH)))) [some (false,bH ins rows outs),some (false,f.d),some (false,.int ins),some (false,.lst (rows.map Row.d)),some (false,LI outs),some (false,LI (inT ins)),some (true,.int (bA (2 ^ ins))),z,some (false,.int i)]=some (oO f (i:Int)):=by
   intro z;clear hbt pb0 pb1 hN hi hs hr hf p1 p2 ep e0 fin hol hd htl htk;cases f with
   | none=>rfl
   | leg w l b =>
    have e1:=Z83;have ef:flats [.str "leg",.int w,.int l,.int b]=true:=rfl;have ec:cutD [.str "leg",.int w,.int l,.int b] none (some 2)=[.str "leg",.int w]:=jL _ 2;simp only [Flt.d];walk_at "ev"
    try simp [oO]
   | wire w b =>
    have e1:=Z98;simp only [Flt.d];by_cases hw:w=(i:Int)
    .subst hw;have ef:flats [.str "wire",.int (i:Int),.int b]=true:=rfl;have ec:cutD [.str "wire",.int (i:Int),.int b] none (some 2)=[.str "wire",.int (i:Int)]:=jL _ 2;walk_at "ev"
     try simp [oO]
    .have ef:flats [.str "wire",.int w,.int b]=true:=rfl;have ec:cutD [.str "wire",.int w,.int b] none (some 2)=[.str "wire",.int w]:=jL _ 2;walk_at "ev"
     try simp [oO,hw]
  by_cases hst:∃ b,f=.wire (i:Int) b
  .obtain⟨b,rfl⟩:=hst;have hv:(aL ins rows (.wire (i:Int) b))[i]? = some (bA (2 ^ ins) * b):=by
    by_cases h1:i < ins
    .rw [vG h1];simp only [bO,RC]
    .have hk:i - ins < rows.length:=by omega
     have hr1:=Qad hk;generalize rows[i - ins]=r at hr1;have hv:=tO (ins:=ins) (f:=.wire (i:Int) b) hr1;rw [show ins + (i - ins)=i by omega] at hv;rw [hv];simp only [bO,RC]
   have mo:IntMulOk (bA (2 ^ ins)) b:=rM (hf.w _ _ rfl);refine⟨_,_,rfl,(L5 ((ht _).trans (by simp [oO])) (jS (d:=.int (bA (2 ^ ins) * b)) ?_ rfl hol)).trans (fin _ hv),some (false,.int i),rfl⟩;simp only [Flt.d];clear hbt pb0 pb1 hN hi hs hr hf p1 p2 ep e0 fin hol hd htl htk ht hv;walk_at "ev"
  .have hnw:∀ v,bO v (i:Int) (bA (2 ^ ins)) f=v:=by
    intro v;cases f with
    | none=>rfl
    | leg _ _ _=>rfl
    | wire w b =>
     unfold bO;by_cases hw:w=(i:Int)
     .subst hw;exact absurd ⟨b,rfl⟩ hst
     .simp only [hw,RD]
   have hfalse:oO f (i:Int)=false:=by
    cases f with
    | none=>rfl
    | leg _ _ _=>rfl
    | wire w b =>
     by_cases hw:w=(i:Int)
     .subst hw;exact absurd ⟨b,rfl⟩ hst
     .simp [oO,hw]
   by_cases h1:i < ins
   .have c1:(i:Int) < (ins:Int):=by omega
    have hv:=vG (rows:=rows) (f:=f) h1;rw [hnw] at hv;have ea:atI ((inT ins).map D.int) (i:Int)=some (.int (tab (2 ^ ins) fun g=>decide (g / 2 ^ i % 2=1))):=by
     rw [gG (by omega) (by rw [fU];omega)];exact congrArg (fun z=>some (D.int z)) (iC (nY ins i h1) rfl)
    refine⟨_,_,rfl,(pX ((ht _).trans (by rw [hfalse])) (L5 ?_ (jS (d:=.int (tab (2 ^ ins) fun g=>decide (g / 2 ^ i % 2=1))) ?_ rfl hol))).trans (fin _ hv),some (false,.int i),rfl⟩
    .clear hbt pb0 pb1 hN hi hs hr hf p1 p2 ep e0 fin hol hd htl htk ht hv ea hnw hfalse hst;walk_at "ev"
    .simp only [LI];clear hbt pb0 pb1 hN hi hs hr hf p1 p2 ep e0 fin hol hd htl htk ht hv hnw hfalse hst;walk_at "ev"
   .have c1:¬ (i:Int) < (ins:Int):=by omega
    have hk:i - ins < rows.length:=by omega
    have hr1:=Qad hk;generalize rows[i - ins]=r at hr1;have hv:=tO (ins:=ins) (f:=f) hr1;rw [show ins + (i - ins)=i by omega,hnw,htk] at hv;have hrow:=hr _ r hr1;rw [show ins + (i - ins)=i by omega] at hrow;have ea:=nF hr1 (a:=(i:Int) - (ins:Int)) (by omega);have eg:=N5 (C:=C) (n:=2 ^ ins) (w:=(i:Int)) (vs:=vs) (f:=f) hrow (by rw [htl];omega) (fun a=>?_) hf.l (fun w' l' b e hw=>hf.leg w' l' b (i - ins) r e hr1 (by rw [hw];omega))
    .refine⟨_,_,rfl,(pX ((ht _).trans (by rw [hfalse])) (pX ?_ (jS (d:=.int (hX r (legs r i vs (bA (2 ^ ins)) f) (bA (2 ^ ins)))) ?_ rfl hol))).trans (fin _ hv),some (false,.int i),rfl⟩
     .clear hbt pb0 pb1 hN hi hs hr hf p1 p2 ep e0 fin hol hd htl htk ht hv ea hnw hfalse hst eg;walk_at "ev"
     .clear hbt pb0 pb1 hN hi hs hr hf p1 p2 ep e0 fin hol hd htl htk ht hv hnw hfalse hst;walk_at "ev"
    .rw [<- htk];by_cases ha:a.toNat < i
     .have:nth ((aL ins rows f).take i) a=nth (aL ins rows f) a:=by unfold nth;rw [List.getD,List.getD,Qa1 ha]
      rw [this];exact hbt a
     .have:nth ((aL ins rows f).take i) a=0:=by unfold nth;rw [List.getD,Qaw (by rw [Qav];omega)];rfl
      rw [this];exact mY _
 .rintro env ⟨s,rfl⟩;rw [Qaa,QaJ,<- hN,QaR];rfl
theorem D7 (hi:ins <= 8) (hs:ins + rows.length <= 1000) (hr:RowsOk ins rows) (hf:FltOk ins rows f) (hl:outs.length <= 1000) (ho:Ho ins rows outs) :
  dR C [bH ins rows outs,f.d]=some (LI (outs.map (nth (aL ins rows f)))):=by
 have w:=Z5E (C:=C) (outs:=outs) hi hs hr hf;have hN:=jQ ins rows f;generalize aL ins rows f=T at *
 refine bB ?_;unfold nA;refine iS (aK (xs:=[bH ins rows outs,f.d]) rfl w) ?_;refine cE ?_;rw [bY D.int (fun a=>.int (nth T a)) (xs:=outs) (by rfl) hl (fun a ha=>?_)]
 .simp [LI,Function.comp_def]
 .have h:=ho a ha;have ea:=gG (vs:=T) (a:=a) h.1 (by rw [hN];exact h.2);show aY (fIx (aA 1) (aA 0)) [some (false,.int a),some (true,LI T)]=_;simp only [LI];walk_at "ev"
theorem Z8B (h1:w < ((ins + rows.length:Nat):Int)):lS C [bH ins rows outs,.int w]=some (LI (bC ins rows w)):=by
 refine bB ?_;show E8 C [some (false,bH ins rows outs),some (false,.int w)]=_;unfold E8 bH;by_cases h:w < (ins:Int)
 .rw [kP h];refine V1 (by walk_at "ev") (vV rfl)
 .have hk:(w - (ins:Int)).toNat < rows.length:=by omega
  have hr1:=Qad hk;generalize rows[(w - (ins:Int)).toNat]=r at hr1;have ea:=nF hr1 (a:=w - (ins:Int)) (by omega);rw [lT (by omega) hr1];cases r with
  | fix b =>
   have e1:=Z4Q;simp only [Row.d] at ea;exact V1 (by walk_at "ev") (vV rfl)
  | not a =>
   have e1:=Z1l;simp only [Row.d] at ea;refine sNo (by walk_at "ev") (cE ?_);simp [ea,fSl,flats,PD.flat,Z4j,Z1n,gY,LI,Row.ws,atI_0,atI_1]
  | bin k a b =>
   have e1:=Z1m k;simp only [Row.d] at ea;refine sNo (by walk_at "ev") (cE ?_);simp [ea,fSl,flats,PD.flat,Z4j,Z1n,gY,LI,Row.ws,atI_0,atI_1]
theorem Z1U (h1:w < ((ins + rows.length:Nat):Int)):eE C [bH ins rows outs,.int w]=some (LI (cU ins rows w)):=by
 refine bB ?_;show nB C [some (false,bH ins rows outs),some (false,.int w)]=_;unfold nB cU bH;by_cases h:w < (ins:Int)
 .have h':¬ (ins:Int) <= w:=by omega
  rw [if_pos h];exact sNo (by walk_at "ev") rfl
 .have h':(ins:Int) <= w:=by omega
  have hk:(w - (ins:Int)).toNat < rows.length:=by omega
  have hr1:=Qad hk;generalize rows[(w - (ins:Int)).toNat]=r at hr1;have ea:=nF hr1 (a:=w - (ins:Int)) (by omega);rw [if_neg h,hr1];cases r with
  | fix b =>
   have e1:=Z4Q;simp only [Row.d] at ea;refine V1 (by walk_at "ev") (vV ?_);simp only [LI,Qao,Qbi];walk_at "ev"
  | not a =>
   have e1:=Z1l;simp only [Row.d] at ea;exact sNo (by walk_at "ev") rfl
  | bin k a b =>
   have e1:=Z1m k;simp only [Row.d] at ea;exact sNo (by walk_at "ev") rfl
theorem Z8c {n:Nat}(h:n <= 1000):Q6 [.int (n:Int)]=some ((List.range n).map fun (k:Nat)=>.int ((n:Int) - 1 - (k:Int))):=by
 simp only [Q6];rw [if_pos ⟨by omega,by omega⟩,Qat]
theorem Z3T {C:Af}{ins:Nat}{rows:Ab Row}{outs:Ab Int}(hs:ins + rows.length < 64) (hl:outs.length <= 100) (hr:RowsOk ins rows) (ho:Ho ins rows outs) :
  gD C [bH ins rows outs]=some (.lst ((bI ins rows outs).map Flt.d)):=by
 have el:bK [.lst (rows.map Row.d)]=some (.int (rows.length:Int)):=by simp only [bK,Qaa]
 have OW:∀ w:Int,w < ((ins + rows.length:Nat):Int)->lS C [bH ins rows outs,.int w]=some (LI (bC ins rows w)):=fun w h=>Z8B h;have BO:∀ w:Int,w < ((ins + rows.length:Nat):Int)->eE C [bH ins rows outs,.int w]=some (LI (cU ins rows w)):=fun w h=>Z1U h;refine bB ?_;unfold wX;refine iS (d:=LI outs) (by simp only [bH,LI];have:=fL outs;simp [gY,this,atI_2,enStart]) ?_;have es:∀ (a b c d e:Slot),fI0 (fun i j=>.int (i + j)) (fIx (aA 0) (fC (.int 0))) (fB1 bK (aC (fIx (aA 0) (fC (.int 1))) aH)) [some (false,bH ins rows outs),a,b,c,d,e]=some (.int ((ins + rows.length:Nat):Int)):=by
  intro a b c d e;rw [show ((ins + rows.length:Nat):Int)=(ins:Int) + (rows.length:Int) by omega];simp only [bH];clear OW BO;walk_at "ev"
 refine gR (ds:=(List.range (ins + rows.length)).map fun (k:Nat)=>.int (((ins + rows.length:Nat):Int) - 1 - (k:Int))) (dX (xs:=[.int ((ins + rows.length:Nat):Int)]) (aQ (es _ _ _ _ _) rfl) (Z8c (by omega)))
  (fun i env=>∃ a,env=[some (false,bH ins rows outs),some (true,LI (fQ ins rows outs i)),a,none,none,none]) ⟨none,rfl⟩ ?_ ?_
 .rintro i d env hd ⟨a,rfl⟩;obtain⟨hi,rfl⟩:=cY hd;have hwl:=rP (ins:=ins) (rows:=rows) (outs:=outs) i;generalize hW:((ins + rows.length:Nat):Int) - 1 - (i:Int)=W;have hin:fIn (aA 2) (aA 1) [some (false,bH ins rows outs),some (true,LI (fQ ins rows outs i)),some (false,.int W),none,none,none]=some (decide (W ∈ fQ ins rows outs i)):=by
   show inF (.int W) (LI (fQ ins rows outs i))=_;exact N6
  by_cases hw:W ∈ fQ ins rows outs i
  .have ow:=OW W (by omega);have hll:=hU (ins:=ins) (rows:=rows) (w:=W);refine⟨_,_,rfl,L5 (hin.trans (by simp [hw])) (pC (xs:=(fQ ins rows outs i).map D.int) (ys:=(bC ins rows W).map D.int) rfl (aK (xs:=[bH ins rows outs,.int W]) rfl ow) (fL _) (by simp;omega)),some (false,.int W),?_⟩;simp only [fQ];rw [hW,if_pos hw];simp only [LI,QaG];rfl
  .refine⟨_,_,rfl,pX (hin.trans (by simp [hw])) rfl,some (false,.int W),?_⟩;simp only [fQ];rw [hW,if_neg hw];rfl
 rintro env ⟨a,rfl⟩;rw [Qaa,QaJ];refine iS (d:=.lst []) rfl ?_;have hwl:=rP (ins:=ins) (rows:=rows) (outs:=outs) (ins + rows.length);have hnr:=X8 hr ho;have hfl:∀ i,(((fM (ins + rows.length)).take i).filter (fun a=>decide (a ∈ fQ ins rows outs (ins + rows.length)))).length <= ins + rows.length:=fun i=>by
  refine QaV (QbD _ _) ?_;rw [Qav];have:(fM (ins + rows.length)).length=ins + rows.length:=by simp [fM]
  omega
 generalize hWt:fQ ins rows outs (ins + rows.length)=Wt at *
 refine gR (ds:=(fM (ins + rows.length)).map D.int) ((dX (xs:=[.int ((ins + rows.length:Nat):Int)]) (aQ (es _ _ _ _ _) rfl) (mO (by omega))).trans (by
   simp only [fM,QaW];rfl))
  (fun i env=>∃ a b c,env=[some (false,bH ins rows outs),some (true,LI Wt),a,some (true,.lst (((((fM (ins + rows.length)).take i).filter (fun a=>decide (a ∈ Wt))).flatMap (cG ins rows)).map Flt.d)),b,c]) ⟨a,none,none,rfl⟩ ?_ ?_
 .rintro i d env hd ⟨a,b,c,rfl⟩;obtain⟨w,hw,rfl⟩:=fE hd;have hwb:=rangeI_mem.mp (QaI hw);have hfl:=hfl i;have fl:=rC (ins:=ins) (rows:=rows) (((fM (ins + rows.length)).take i).filter (fun a=>decide (a ∈ Wt)));rw [cH hw,List.filter_append];generalize hB:(((fM (ins + rows.length)).take i).filter (fun a=>decide (a ∈ Wt))).flatMap (cG ins rows)=B at *
  have hBl:(B.map Flt.d).length <= 400:=by rw [Qaa];omega
  have hin:fIn (aA 2) (aA 1) [some (false,bH ins rows outs),some (true,LI Wt),some (false,.int w),some (true,.lst (B.map Flt.d)),b,c]=some (decide (w ∈ Wt)):=by
   show inF (.int w) (LI Wt)=_;exact N6
  by_cases hwW:w ∈ Wt
  .have hbl:=gF (ins:=ins) (rows:=rows) (w:=w);have hll:=hU (ins:=ins) (rows:=rows) (w:=w);have bw:=BO w hwb.2;have lw:=OW w hwb.2;have c1:bL [2] (cM (aJ (eE C) [] (aC (aA 0) (aC (aA 2) aH)))) fTT (iK (aC (fC (.str "wire")) (aC (aY (aA 1)) (aC (aY (aA 0)) aH)))) [some (false,bH ins rows outs),some (true,LI Wt),some (false,.int w),some (true,.lst (B.map Flt.d)),b,c]=some (.lst (((cU ins rows w).map fun b=>Flt.wire w b).map Flt.d)):=by
    rw [bY D.int (fun b=>(Flt.wire w b).d) (xs:=cU ins rows w) (eI (aK (xs:=[bH ins rows outs,.int w]) rfl bw)) (by omega) (fun x _=>rfl),QaW];rfl
   have h1:=pC (i:=3) (j:=3) (env:=[some (false,bH ins rows outs),some (true,LI Wt),some (false,.int w),some (true,.lst (B.map Flt.d)),b,c]) rfl c1 (zQ B) (by simp only [Qaa] at *;omega);rw [<- QaG] at h1;generalize hB2:B ++ (cU ins rows w).map (fun b=>Flt.wire w b)=B2 at *
   have hB2l:(B2.map Flt.d).length <= 410:=by rw [<- hB2,Qaa,QaB,Qaa];rw [Qaa] at hBl;omega
   have e2:bP 4 (aJ (lS C) [] (aC (aA 0) (aC (aA 2) aH))) [some (false,bH ins rows outs),some (true,LI Wt),some (false,.int w),some (true,.lst (B2.map Flt.d)),b,c]=.next [some (false,bH ins rows outs),some (true,LI Wt),some (false,.int w),some (true,.lst (B2.map Flt.d)),some (true,LI (bC ins rows w)),c]:=uU (aK (xs:=[bH ins rows outs,.int w]) rfl lw);have elg:bK [LI (bC ins rows w)]=some (.int ((bC ins rows w).length:Int)):=by simp only [bK,LI,Qaa]
   obtain⟨env',h2,⟨x,rfl⟩⟩:=L6 (rs:=[]) (src:=sB1 eJ (aC (fB1 bK (aC (aA 4) aH)) aH)) (t:=gtN 5) (g:=gT 3 3 (bL [2,5] (cM (aJ (eE C) [] (aC (aA 0) (aC (fIx (aA 4) (aA 5)) aH)))) fTT (iK (aC (fC (.str "leg")) (aC (aY (aA 1)) (aC (aY (aA 2)) (aC (aY (aA 0)) aH)))))))
    (env:=[some (false,bH ins rows outs),some (true,LI Wt),some (false,.int w),some (true,.lst (B2.map Flt.d)),some (true,LI (bC ins rows w)),c]) (ds:=(List.range (bC ins rows w).length).map fun (k:Nat)=>.int (k:Int)) (dX (xs:=[.int ((bC ins rows w).length:Int)]) (aQ (kD (xs:=[LI (bC ins rows w)]) rfl elg) rfl) (mO (by omega)))
    (fun j env=>∃ x,env=[some (false,bH ins rows outs),some (true,LI Wt),some (false,.int w),some (true,.lst ((B2 ++ bW ins rows w 0 ((bC ins rows w).take j)).map Flt.d)),some (true,LI (bC ins rows w)),x]) ⟨c,by simp [PD.fz,bW]⟩ (by
     rintro j d env hd ⟨x,rfl⟩;obtain⟨hj,rfl⟩:=cY hd;have ha:=Qad hj;generalize (bC ins rows w)[j]=a' at ha;have hab:=iW hr (QaI ha);have ea:atI ((bC ins rows w).map D.int) (j:Int)=some (.int a'):=fW (by simp [ha]);have ba:=BO a' (by omega);have hbl2:=gF (ins:=ins) (rows:=rows) (w:=a');have hfl:=iD (ins:=ins) (rows:=rows) (w:=w) ((bC ins rows w).take j) 0;rw [Qav] at hfl;rw [mW ha,<- QaK];generalize hB3:B2 ++ bW ins rows w 0 ((bC ins rows w).take j)=B3 at *
     have hB3l:(B3.map Flt.d).length <= 450:=by rw [<- hB3,Qaa,QaB];rw [Qaa] at hB2l;omega
     have c2:bL [2,5] (cM (aJ (eE C) [] (aC (aA 0) (aC (fIx (aA 4) (aA 5)) aH)))) fTT (iK (aC (fC (.str "leg")) (aC (aY (aA 1)) (aC (aY (aA 2)) (aC (aY (aA 0)) aH))))) [some (false,bH ins rows outs),some (true,LI Wt),some (false,.int w),some (true,.lst (B3.map Flt.d)),some (true,LI (bC ins rows w)),some (false,.int (j:Int))]=some (.lst (((cU ins rows a').map fun b=>Flt.leg w (j:Int) b).map Flt.d)):=by
      rw [bY D.int (fun b=>(Flt.leg w (j:Int) b).d) (xs:=cU ins rows a') (eI (aK (xs:=[bH ins rows outs,.int a']) (aQ rfl (aQ ea rfl)) ba)) (by omega) (fun x _=>rfl),QaW];rfl
     have h3:=pC (i:=3) (j:=3) (env:=[some (false,bH ins rows outs),some (true,LI Wt),some (false,.int w),some (true,.lst (B3.map Flt.d)),some (true,LI (bC ins rows w)),some (false,.int (j:Int))]) rfl c2 (zQ B3) (by simp only [Qaa] at *;omega);rw [<- QaG] at h3;exact⟨_,_,rfl,h3,some (false,.int j),rfl⟩)
   rw [Qaa,QaJ,QaR] at h2;refine⟨_,_,rfl,L5 (hin.trans (by simp [hwW])) (Z4N h1 (Z4N e2 h2)),some (false,.int w),some (true,LI (bC ins rows w)),x,?_⟩;simp only [List.filter_cons,hwW,decide_true,RC,List.filter_nil,List.flatMap_append,List.flatMap_cons,List.flatMap_nil,QaH,hB];unfold cG;rw [<- hB2,QaK]
  .refine⟨_,_,rfl,pX (hin.trans (by simp [hwW])) rfl,some (false,.int w),b,c,?_⟩;simp only [List.filter_cons,hwW,decide_false,Qbb,RD,List.filter_nil,QaH,hB];rfl
 .rintro env ⟨a,b,c,rfl⟩;rw [Qaa,QaR,hnr];rfl
def cN (T outs:Ab Int) (g:Int):Ab Int:=outs.map fun a=>nth T a / 2 ^ g.toNat % 2
def LL (xss:Ab (Ab Int)):D:=.lst (xss.map LI)
theorem Z09 (hl:outs.length <= 1000) (hg:0 <= g):nV C [LI (outs.map (nth T)),.int g]=some (LI (cN T outs g)):=by
 refine bB (cE ?_);rw [bY (fun a=>.int (nth T a)) (fun a=>.int (nth T a / 2 ^ g.toNat % 2)) (xs:=outs) (by simp [LI,cM,aA,enStart,Function.comp_def]) hl (fun a ha=>by
  simp [kW,enStart,PyProof.Rows.bitAnd_m1,hg])]
 simp [LI,cN,Function.comp_def]
theorem xH (hi:ins <= 8) (hs:ins + rows.length <= 1000) (hr:RowsOk ins rows) (hf:FltOk ins rows f) (hl:outs.length <= 1000) (ho:Ho ins rows outs) (ht:∀ g ∈ tests,0 <= g) (htl:tests.length <= 1000) :
  eU C [aX C ins rows outs,LI tests,f.d]=some (LL (tests.map (cN (aL ins rows f) outs))):=by
 have o1:=fJ (C:=C) (outs:=outs) hi hs hr hf hl ho;refine bB ?_;unfold zN;refine iS (aK (xs:=[aX C ins rows outs,f.d]) rfl o1) (cE ?_);rw [bY D.int (fun g=>LI (cN (aL ins rows f) outs g)) (xs:=tests) (by rfl) htl (fun g hg=>aK (xs:=[LI (outs.map (nth (aL ins rows f))),.int g]) (by rfl) (Z09 hl (ht g hg)))];simp [LL,Function.comp_def]
theorem wO (hl:outs.length <= 1000) (hg:0 <= g) (hg2:g <= 300):fF C [LI (outs.map (nth T)),.int g]=some (LI (cN T outs g)):=by
 have sh:dO 1 g:=jM (by omega) (by omega);refine bB (cE ?_);rw [bY (fun a=>.int (nth T a)) (fun a=>.int (nth T a / 2 ^ g.toNat % 2)) (xs:=outs) (by simp [LI,cM,aA,enStart,Function.comp_def]) hl (fun a ha=>by
  have dv:dM (nth T a) (1 * 2 ^ g.toNat):=xD (by omega);have q2:(0:Int) < 2:=by decide
  have e1:(1:Int) * 2 ^ g.toNat=2 ^ g.toNat:=Qbv _;rw [e1] at dv;simp [kW,enStart,sh,dv])]
 simp [LI,cN,Function.comp_def]
theorem Z1V (hl:outs.length <= 1000) (ht:∀ g ∈ tests,0 <= g /\ g <= 300) (htl:tests.length <= 1000):iI C [LI (outs.map (nth T)),LI tests]=some (LL (tests.map (cN T outs))):=by
 refine bB (cE ?_);rw [bY D.int (fun g=>LI (cN T outs g)) (xs:=tests) (by rfl) htl (fun g hg=>aK (xs:=[LI (outs.map (nth T)),.int g]) (by rfl) (wO hl (ht g hg).1 (ht g hg).2))];simp [LL,Function.comp_def]
theorem uX:cS C [.int i]=some (.bl true):=by
 have h1:iJ "int" (.int i)=some true:=rfl;have h2:iJ "bool" (.int i)=some false:=rfl;unfold cS zH;walk_at "ev"
theorem oQ (hg:g < n):(tab n b / 2 ^ g % 2=1) ↔ b g=true:=by
 have h:=cC n b g;rw [Nat.testBit_eq_decide_div_mod_eq] at h;simp only [hg,decide_true,Bool.true_and] at h;have e:tab n b / 2 ^ g % 2=((tabN n b / 2 ^ g % 2:Nat):Int):=by unfold tab;simp
 rw [e,<- h];constructor
 .intro z;exact Rz (by omega)
 .intro z;have:=of_decide_eq_true z;omega
theorem Z5d (h:t < n):(1 * 2 ^ t:Int)=tab n (fun g=>decide (g=t)):=by
 unfold tab;have:2 ^ t=tabN n (fun g=>decide (g=t)):=kY (Nat.pow_lt_pow_right (by decide) h) fun g hg=>by
  rw [Nat.testBit_two_pow];by_cases e:g=t
  .simp [e]
  .simp [e,Ne.symm e]
 rw [<- this,Qbv];simp
def gV (n:Nat) (b:Nat->Bool):Ab Int:=((List.range n).filter b).map fun (k:Nat)=>(k:Int)
theorem gV_mem:g ∈ gV n b ↔ ∃ k:Nat,k < n /\ b k=true /\ g=(k:Int):=by
 unfold gV;rw [QaM];constructor
 .rintro⟨k,hk,rfl⟩;have:=QbM.mp hk;exact⟨k,Qa7.mp this.1,this.2,rfl⟩
 .rintro⟨k,h1,h2,rfl⟩;exact⟨k,QbM.mpr ⟨Qa7.mpr h1,h2⟩,rfl⟩
theorem Z7p:(gV n b).length <= n:=by
 unfold gV;rw [Qaa];exact QaV (QbD ..) (by simp)
theorem Z2a (n:Nat) (b:Nat->Bool):(gV n b).Pairwise (· < ·):=by
 unfold gV;rw [List.pairwise_map];exact (List.pairwise_lt_range.filter b).imp fun h=>by omega
theorem Z7q (n:Nat):gV n (fun _=>true)=fM n:=by
 unfold gV fM;congr 1;exact List.filter_eq_self.mpr fun _ _=>rfl
theorem yQ:∀ {n:Nat},L <= n->(∀ g,L <= g->g < n->b g=false)->(List.range n).filter b=(List.range L).filter b
 | 0,h,_=>by
  have:L=0:=by omega
  rw [this]
 | n + 1,h,hb=>by
  by_cases e:L=n + 1
  .rw [e]
  .rw [List.range_succ,List.filter_append,yQ (n:=n) (by omega) fun g h1 h2=>hb g h1 (by omega)];simp [hb n (by omega) (by omega)]
theorem qX (hn:n <= 256):gK C [.int (tab n b)]=some (LI (gV n b)):=by
 have hlt:(tab n b).natAbs < 2 ^ n:=by unfold tab;rw [Int.natAbs_natCast];exact fT n b
 have hL:Builtin.Int.intBits (tab n b) <= n:=PyProof.Rows.intBits_le hlt;have hB:(tab n b).natAbs < 2 ^ Builtin.Int.intBits (tab n b):=by
  unfold Builtin.Int.intBits;by_cases h0:tab n b=0
  .simp [h0]
  .rw [if_neg (by simpa using h0)];exact Nat.lt_log2_self
 generalize hLe:Builtin.Int.intBits (tab n b)=L at *
 have hz:∀ g,L <= g->g < n->b g=false:=fun g h1 h2=>by
  cases hb:b g with
  | false=>rfl
  | true =>
   have h3:=cC n b g;rw [hb] at h3;simp only [h2,decide_true,Bool.true_and] at h3;have h4:=Nat.ge_two_pow_of_testBit h3;have h5:2 ^ L <= 2 ^ g:=Qbw (by decide) h1;have h6:(tab n b).natAbs=tabN n b:=by unfold tab;rw [Int.natAbs_natCast]
   omega
 refine bB (cE ?_);have key:=fV (fr:=[0]) (src:=sB1 eJ (aC (uE (aA 0)) aH)) (fc:=fEq (fI0 (fun i j=>.int (Builtin.bitAnd i j)) (fI2 (fun _ j=>0 <= j) (fun i j=>.int (i / 2 ^ j.toNat)) (aA 1) (aA 0)) (fC (.int 1))) (fC (.int 1))) (fe:=aY (aA 0)) (env:=[some (false,.int (tab n b))]) (fun (k:Nat)=>.int (k:Int)) (fun (k:Nat)=>.int (k:Int)) b (xs:=List.range L)
  (dX (xs:=[.int (L:Int)]) (aQ (by
    show uE (aA 0) [some (false,.int (tab n b))]=_;unfold uE;simp only [ev_var,Qaj,Qaq,Option.map_some,hLe]) rfl) (by
   unfold eJ;simp only;rw [if_pos (by omega),Qat];simp)) (by rw [QaJ];omega) (fun g hg=>by
   have hgl:g < n:=by have:=Qa7.mp hg;omega
   have h0:(0:Int) <= (g:Int):=by omega
   have ha:=oQ (n:=n) (b:=b) hgl;show fEq _ _ [some (false,.int (g:Int)),some (false,.int (tab n b))]=_;simp only [ev_Eq,ev_I0',ev_I2',ev_var,ev_C,Qaj,Qap,Qaq,Option.map_some,h0,RC,eqN_int,PyProof.Rows.bitAnd_m1,Qat];congr 1;cases hb:b g with
   | true=>exact Rz (ha.mpr hb)
   | false=>exact Ry fun z=>by rw [ha.mp z] at hb;cases hb) (fun g _ _=>rfl)
 refine key.trans ?_;unfold gV LI;rw [yQ hL hz,QaW];rfl
def qO (b:Nat->Bool) (g:Nat):Nat->Bool:=fun x=>b x && !decide (x=g)
def vJ (E:(Nat->Bool)->Bool) (b:Nat->Bool) (g:Nat):Nat->Bool:=if E (qO b g)=true then qO b g else b
def gM (E:(Nat->Bool)->Bool) (gs:Ab Nat) (i:Nat):Nat->Bool:=(gs.take i).foldl (vJ E) fun _=>true
section
variable {E:(Nat->Bool)->Bool}
theorem Z2E (h:x ≠ g):vJ E b g x=b x:=by
 unfold vJ;split
 .simp [qO,h]
 .rfl
theorem Y5 (h:gs[i]? = some g):gM E gs (i + 1)=vJ E (gM E gs i) g:=by
 unfold gM;rw [cH h,List.foldl_append];rfl
theorem O7:∀ (l:Ab Nat) (b:Nat->Bool) {x:Nat},x ∉ l->l.foldl (vJ E) b x=b x
 | [],b,x,_=>rfl
 | g :: l,b,x,h=>by
  rw [Qa8,O7 l _ fun z=>h (Qae _ z),Z2E fun z:x=g=>h (by rw [z];exact Qau)]
theorem Z1Z (h:x ∉ gs.take i):gM E gs i x=true:=O7 _ _ h
theorem Z20 (h0:E (fun _=>true)=true) (gs:Ab Nat):∀ i,E (gM E gs i)=true:=fun i=>by
 have:∀ (l:Ab Nat) (b:Nat->Bool),E b=true->E (l.foldl (vJ E) b)=true:=fun l=>by
  induction l with
  | nil=>exact fun b h=>h
  | cons g l ih =>
   intro b h;refine ih _ ?_;unfold vJ;split
   .assumption
   .exact h
 exact this _ _ h0
end
def dB (ins:Nat) (rows:Ab Row) (outs:Ab Int) (f:Flt):Ab Int:=outs.map (nth (aL ins rows f))
def mC (ins:Nat) (rows:Ab Row) (outs:Ab Int):Ab (Ab Int):=(Flt.none :: bI ins rows outs).map (dB ins rows outs)
theorem Z5x:FltOk ins rows .none:=⟨fun _ _ h=>(nomatch h),fun _ _ _ h=>(nomatch h),fun _ _ _ _ _ h=>(nomatch h)⟩
theorem tL (hr:RowsOk ins rows):∀ f ∈ Flt.none :: bI ins rows outs,FltOk ins rows f:=fun f hf=>by
 rcases Qaf.mp hf with rfl | hf
 .exact Z5x
 .exact (pK (outs:=outs) hr f hf).1
theorem wP (hr:RowsOk ins rows):∀ ts ∈ mC ins rows outs,ts.length=outs.length /\ ∀ t ∈ ts,IsT (2 ^ ins) t:=fun ts h=>by
 obtain⟨f,hf,rfl⟩:=QaM.mp h;refine⟨by unfold dB;rw [Qaa],fun t ht=>?_⟩;obtain⟨a,_,rfl⟩:=QaM.mp ht;exact dI hr (tL hr f hf) a
def pE (ins:Nat) (rows:Ab Row) (outs:Ab Int):Ab Int:=mE (TS.dedI ((mC ins rows outs).map (pgV (2 ^ ins))))
theorem wD (hi:ins <= 8):2 ^ ins <= 256:=QaV (Qbw (by decide) hi) (by decide)
theorem Z0l {C:Af}{ins:Nat}{rows:Ab Row}{outs ts:Ab Int}(hi:ins <= 8) (hl:ts.length <= 100) (ht:∀ t ∈ ts,IsT (2 ^ ins) t):cX C [aX C ins rows outs,LI ts]=some (.int (pgV (2 ^ ins) ts)):=by
 have pb:=wD hi;refine bB ?_;unfold mZ;refine iS (d:=.int 0) rfl ?_;refine gR (ds:=ts.map D.int) rfl (fun i env=>i <= ts.length /\ ∃ x,env=[some (false,aX C ins rows outs),some (false,LI ts),some (true,.int (pgV (2 ^ ins) (ts.take i))),x]) ⟨Qbm _,none,rfl⟩ ?_ ?_
 .rintro i d env hd ⟨hil,x,rfl⟩;obtain⟨t,h,rfl⟩:=fE hd;have hlt:i < ts.length:=(Qac.mp h).1;have htk:∀ t ∈ ts.take i,IsT (2 ^ ins) t:=fun t ht'=>ht t (List.mem_of_mem_take ht');have hb:=Z3k htk;obtain⟨pb0,pb1⟩:=qA hi;rw [Qav] at hb;have hb2:2 ^ ins * min i ts.length <= 256 * 100:=Nat.mul_le_mul pb (by omega);have st:=Z3j (ts:=ts.take i) (ht t (QaI h));rw [<- cH h] at st;refine⟨_,_,rfl,uU (d:=.int (pgV (2 ^ ins) (ts.take (i + 1)))) ?_,by omega,some (false,.int t),rfl⟩;show fI0 _ _ _ [some (false,aX C ins rows outs),some (false,LI ts),some (true,.int (pgV (2 ^ ins) (ts.take i))),some (false,.int t)]=_;have z1:fI2 dO (fun i j=>.int (i * 2 ^ j.toNat)) (fC (.int 1)) (gO C "ins" (aA 0)) [some (false,aX C ins rows outs),some (false,LI ts),some (true,.int (pgV (2 ^ ins) (ts.take i))),some (false,.int t)]=some (.int (1 * 2 ^ (ins:Int).toNat)):=oM (C:=dO) rfl (lY rfl) (jM (by omega) (by omega));rw [gP] at z1;have z2:fI2 dO (fun i j=>.int (i * 2 ^ j.toNat)) (aA 2) (fI2 dO (fun i j=>.int (i * 2 ^ j.toNat)) (fC (.int 1)) (gO C "ins" (aA 0))) [some (false,aX C ins rows outs),some (false,LI ts),some (true,.int (pgV (2 ^ ins) (ts.take i))),some (false,.int t)]=some (.int (pgV (2 ^ ins) (ts.take i) * 2 ^ ((2 ^ ins:Nat):Int).toNat)):=oM (C:=dO) rfl z1 (uZ (n:=25600) (by omega) pb0 (by omega));rw [Qat] at z2;rw [<- st];exact Z4c z2 rfl
 .rintro env ⟨_,x,rfl⟩;rw [Qaa,QaR];rfl
theorem C3 {C:Af}{ins:Nat}{rows:Ab Row}{outs PG:Ab Int}{b:Nat->Bool}(hi:ins <= 8) (hl:outs.length <= 100) (hp:PG.length <= 900) :
  eV C [aX C ins rows outs,LI PG,.int (tab (2 ^ ins) b)]=some (.bl (decide ((TS.dedI (PG.map fun p=>Builtin.bitAnd p (pgV (2 ^ ins) (List.replicate outs.length (tab (2 ^ ins) b))))).length=PG.length))):=by
 have sd:=Z0l (C:=C) (ins:=ins) (rows:=rows) (outs:=outs) (ts:=List.replicate outs.length (tab (2 ^ ins) b)) hi (by rw [List.length_replicate];exact hl) fun t ht=>by rw [(List.mem_replicate.mp ht).2];exact⟨b,rfl⟩
 generalize pgV (2 ^ ins) (List.replicate outs.length (tab (2 ^ ins) b))=T at *
 refine bB ?_;unfold uB;have c1:bL [2] (cM (gO C "outs" (aA 0))) fTT (aY (aA 1)) (enStart 4 [aX C ins rows outs,LI PG,.int (tab (2 ^ ins) b)])=some (LI (List.replicate outs.length (tab (2 ^ ins) b))):=by
  rw [bY D.int (fun _=>.int (tab (2 ^ ins) b)) (xs:=outs) (eI (wY rfl)) (by omega) (fun a ha=>rfl)];unfold LI;rw [List.map_replicate,List.map_const']
 refine iS (d:=.int T) (aK (xs:=[aX C ins rows outs,LI (List.replicate outs.length (tab (2 ^ ins) b))]) (aQ rfl (aQ c1 rfl)) sd) ?_;refine cE ?_;have c2:bL [3] (cM (aA 1)) fTT (fI0 (fun i j=>.int (Builtin.bitAnd i j)) (aA 0) (aA 1)) [some (false,aX C ins rows outs),some (false,LI PG),some (false,.int (tab (2 ^ ins) b)),some (true,.int T)]=some (LI (PG.map fun p=>Builtin.bitAnd p T)):=by
  rw [bY D.int (fun p=>.int (Builtin.bitAnd p T)) (xs:=PG) rfl (by omega) (fun a ha=>rfl)];unfold LI;rw [QaW];rfl
 have c3:fB1 xK (aC (bL [3] (cM (aA 1)) fTT (fI0 (fun i j=>.int (Builtin.bitAnd i j)) (aA 0) (aA 1))) aH) [some (false,aX C ins rows outs),some (false,LI PG),some (false,.int (tab (2 ^ ins) b)),some (true,.int T)]=some (.int ((TS.dedI (PG.map fun p=>Builtin.bitAnd p T)).length:Nat)):=kD (aQ c2 rfl) (by
  show xK [.lst ((PG.map fun p=>Builtin.bitAnd p T).map D.int)]=_;simp only [xK,tE];rw [if_pos (by rw [Qaa];omega)])
 have c4:fB1 bK (aC (aA 1) aH) [some (false,aX C ins rows outs),some (false,LI PG),some (false,.int (tab (2 ^ ins) b)),some (true,.int T)]=some (.int (PG.length:Nat)):=kD rfl (by simp only [bK,LI,Qaa]);refine (show hZ _ [some (false,aX C ins rows outs),some (false,LI PG),some (false,.int (tab (2 ^ ins) b)),some (true,.int T)]=_ from ?_)
 simp only [ev_OfB,ev_Eq,c3,c4,eqN_int,Option.map_some,Int.ofNat_inj]
theorem Z0L (hs:ins + rows.length < 64) (hl:outs.length <= 100) (hr:RowsOk ins rows) (ho:Ho ins rows outs) :
  cL C [aX C ins rows outs]=some (.lst ((Flt.none :: bI ins rows outs).map Flt.d)):=by
 have af:=oN (C:=C) hs hl hr ho;have fl:=gN hr ho;generalize bI ins rows outs=FS at *
 refine bB (cE ?_);have h1:aJ (fG C) [] (aC (aA 0) aH) (enStart 1 [aX C ins rows outs])=some (.lst (FS.map Flt.d)):=aK (xs:=[aX C ins rows outs]) rfl af;have h2:gE (aC (fC .non) aH) (enStart 1 [aX C ins rows outs])=some (.lst [.non]):=rfl;unfold O8;simp only [h1,h2];rw [if_pos (by rw [Qaa];simp;omega)];rfl
theorem Z3p (hi:ins <= 8) (hs:ins + rows.length < 21) (hl:outs.length <= 100) (hr:RowsOk ins rows) (ho:Ho ins rows outs) :
  lR C [aX C ins rows outs]=some (LI (pE ins rows outs)):=by
 have gf:=Z0L (C:=C) (by omega) hl hr ho;have fl:=gN hr ho;have ok:=tL (outs:=outs) hr;have kk:=wP (outs:=outs) hr;unfold pE;have hkl:(mC ins rows outs).length=(bI ins rows outs).length + 1:=by unfold mC;rw [Qaa,Qal]
 refine bB (cE ?_);have c1:bL [0] (cM (aJ (cL C) [] (aC (aA 0) aH))) fTT (aJ (cX C) [] (aC (aA 1) (aC (aJ (bD C) [] (aC (aA 1) (aC (aA 0) aH))) aH))) (enStart 1 [aX C ins rows outs])=some (LI ((mC ins rows outs).map (pgV (2 ^ ins)))):=by
  rw [bY Flt.d (fun f=>.int (pgV (2 ^ ins) (dB ins rows outs f))) (xs:=Flt.none :: bI ins rows outs) (eI (aK (xs:=[aX C ins rows outs]) rfl gf)) (by rw [Qal];omega) (fun f hf=>?_)]
  .unfold LI mC;rw [QaW,QaW];rfl
  .have ot:=fJ (C:=C) (outs:=outs) hi (by omega) hr (ok f hf) (by omega) ho;have sd:=Z0l (C:=C) (ins:=ins) (rows:=rows) (outs:=outs) (ts:=dB ins rows outs f) hi (by unfold dB;rw [Qaa];exact hl) (kk _ (Qbx hf)).2;show aJ (cX C) [] _ [some (false,f.d),some (false,aX C ins rows outs)]=_;exact aK (xs:=[aX C ins rows outs,LI (dB ins rows outs f)]) (aQ rfl (aQ (aK (xs:=[aX C ins rows outs,f.d]) rfl ot) rfl)) sd
 refine kD (aQ c1 rfl) ?_;show tM [.lst (((mC ins rows outs).map (pgV (2 ^ ins))).map D.int)]=_;simp only [tM,tE];rw [if_pos (by rw [Qaa];omega)];rfl
theorem W0 (hs:ins + rows.length < 64) (hr:RowsOk ins rows) (ho:Ho ins rows outs):(pE ins rows outs).length <= 900:=by
 have fl:=gN hr ho;unfold pE;rw [(gI _).length_eq];have:=TS.dedI_len ((mC ins rows outs).map (pgV (2 ^ ins)));rw [Qaa] at this;unfold mC at this ⊢;rw [Qaa,Qal] at this;omega
def enP (ins:Nat) (rows:Ab Row) (outs:Ab Int) (b:Nat->Bool):Bool:=yT (tab (2 ^ ins) b) (mC ins rows outs)
theorem Z3n {C:Af}{ins:Nat}{rows:Ab Row}{outs:Ab Int}{b:Nat->Bool}(hi:ins <= 8) (hs:ins + rows.length < 64) (hl:outs.length <= 100) (hr:RowsOk ins rows) (ho:Ho ins rows outs) :
  eV C [aX C ins rows outs,LI (pE ins rows outs),.int (tab (2 ^ ins) b)]=some (.bl (enP ins rows outs b)):=by
 rw [C3 hi hl (W0 hs hr ho)];have h:=V9 (n:=2 ^ ins) (k:=outs.length) (m:=tab (2 ^ ins) b) ⟨b,rfl⟩ (wP (outs:=outs) hr);unfold enP;congr 2;cases hp:yT (tab (2 ^ ins) b) (mC ins rows outs) with
 | true=>exact Rz (h.mpr hp)
 | false=>exact Ry fun z=>by rw [h.mp z] at hp;cases hp
theorem Z4C (hn:n <= 256) (hg:∀ g ∈ gs,g < n) (hd:gs.Nodup) (hE:∀ b,eV C [c1,c2,.int (tab n b)]=some (.bl (E b))) (a:Af) (dvs:Ab V) :
  wL C a dvs [.int (tab n fun _=>true),LI (gs.map fun (k:Nat)=>(k:Int)),.fn a dvs [c1,c2]]=some (.int (tab n (gM E gs gs.length))):=by
 refine bB ?_;unfold Z44;refine iS (d:=.int (tab n fun _=>true)) rfl ?_;refine gR (ds:=(gs.map fun (k:Nat)=>(k:Int)).map D.int) rfl (fun i env=>i <= gs.length /\ ∃ x y,env=[some (false,.int (tab n fun _=>true)),some (false,LI (gs.map fun (k:Nat)=>(k:Int))),some (false,.fn a dvs [c1,c2]),some (true,.int (tab n (gM E gs i))),x,y]) ⟨Qbm _,none,none,rfl⟩ ?_ ?_
 .rintro i d env hd' ⟨hi,x,y,rfl⟩;rw [QaW] at hd';obtain⟨g,hgi,rfl⟩:=fE hd';have hin:=hg g (QaI hgi);have hlt:=(Qac.mp hgi).1;have sh:dO 1 ((g:Nat):Int):=jM (by omega) (by omega);have kb:gM E gs i g=true:=Z1Z fun z=>by
   obtain⟨j,hj⟩:=Qbh.mp z;have hj2:=(Qac.mp hj).1;rw [Qav] at hj2;rw [Qa1 (by omega)] at hj;obtain⟨p1,p2⟩:=Qac.mp hj;obtain⟨p3,p4⟩:=Qac.mp hgi;have:=(List.getElem_inj hd).mp (p2.trans p4.symm);omega
  have few:Builtin.bitXor (tab n (gM E gs i)) (1 * 2 ^ ((g:Nat):Int).toNat)=tab n (qO (gM E gs i) g):=by
   rw [Qat,Z5d hin,nH];refine cQ fun z hz=>?_;unfold qO;by_cases e:z=g
   .subst e;simp [kb]
   .simp [e]
  have hst:gM E gs (i + 1)=if E (qO (gM E gs i) g)=true then qO (gM E gs i) g else gM E gs i:=Y5 hgi;have ha':=hE (qO (gM E gs i) g);rw [hst];generalize qO (gM E gs i) g=lb at *
  generalize gM E gs i=kb0 at *
  generalize LI (gs.map fun (k:Nat)=>(k:Int))=GS;clear hst hd' kb;have e5:fI0 (fun i j=>.int (Builtin.bitXor i j)) (aA 3) (fI2 dO (fun i j=>.int (i * 2 ^ j.toNat)) (fC (.int 1)) (aA 4)) [some (false,.int (tab n fun _=>true)),some (false,GS),some (false,.fn a dvs [c1,c2]),some (true,.int (tab n kb0)),some (false,.int (g:Int)),y]=some (.int (tab n lb)):=by
   have z:fI2 dO (fun i j=>.int (i * 2 ^ j.toNat)) (fC (.int 1)) (aA 4) [some (false,.int (tab n fun _=>true)),some (false,GS),some (false,.fn a dvs [c1,c2]),some (true,.int (tab n kb0)),some (false,.int (g:Int)),y]=some (.int (1 * 2 ^ (g:Int).toNat)):=oM (C:=dO) rfl rfl sh;rw [<- few];exact Z4c rfl z
  have eF:fB (fFn 2 a dvs (aA 5) (aJ (eV C) [] (aC (aA 1) (aC (aA 2) (aC (aA 0) aH))))) [some (false,.int (tab n fun _=>true)),some (false,GS),some (false,.fn a dvs [c1,c2]),some (true,.int (tab n kb0)),some (false,.int (g:Int)),some (true,.int (tab n lb))]=some (E lb):=by
   have z:fFn 2 a dvs (aA 5) (aJ (eV C) [] (aC (aA 1) (aC (aA 2) (aC (aA 0) aH)))) [some (false,.int (tab n fun _=>true)),some (false,GS),some (false,.fn a dvs [c1,c2]),some (true,.int (tab n kb0)),some (false,.int (g:Int)),some (true,.int (tab n lb))]=some (.bl (E lb)):=by
    unfold fFn;simp only [ev_var,Qaj,Qap,Qaq,Option.map_some,and_self,RC];exact aK (xs:=[c1,c2,.int (tab n lb)]) rfl ha'
   rw [ev_B,z]
  refine⟨_,_,rfl,?_,by omega,some (false,.int (g:Int)),some (true,.int (tab n lb)),rfl⟩;refine iS (d:=.int (tab n lb)) e5 ?_;show rIf _ _ _ [some (false,.int (tab n fun _=>true)),some (false,GS),some (false,.fn a dvs [c1,c2]),some (true,.int (tab n kb0)),some (false,.int (g:Int)),some (true,.int (tab n lb))]=_;by_cases hEl:E lb=true
  .rw [hEl] at eF;rw [if_pos hEl];exact L5 eF (uU (d:=.int (tab n lb)) rfl)
  .rw [Bool.not_eq_true] at hEl;rw [hEl] at eF;rw [if_neg (by rw [hEl];decide)];exact pX eF rfl
 .rintro env ⟨_,x,y,rfl⟩;rw [Qaa,Qaa];rfl
def lB (n:Nat) (tests:Ab Int):Ab Nat:=(List.range n).filter fun (k:Nat)=>!decide ((k:Int) ∈ tests)
def J2 (ins:Nat) (rows:Ab Row) (outs tests:Ab Int):Nat->Bool:=gM (enP ins rows outs) (lB (2 ^ ins) tests) (lB (2 ^ ins) tests).length
theorem Q8 (hi:ins <= 8) (hs:ins + rows.length < 21) (hl:outs.length <= 100) (hr:RowsOk ins rows) (ho:Ho ins rows outs) :
  kM C [aX C ins rows outs,LI tests]=some (LI (gV (2 ^ ins) (J2 ins rows outs tests))):=by
 have pb:=wD hi;have pe:=Z3p (C:=C) hi hs hl hr ho;have te:=fun a dvs=>Z4C (C:=C) (n:=2 ^ ins) (E:=enP ins rows outs) (c1:=aX C ins rows outs) (c2:=LI (pE ins rows outs)) (gs:=lB (2 ^ ins) tests) pb (fun g hg=>Qa7.mp (QbM.mp hg).1) (List.Nodup.sublist List.filter_sublist List.nodup_range) (fun b=>Z3n hi (by omega) hl hr ho) a dvs;have lr:=Z1S (mm:=wL C) te;have ft:cW C [.int ins]=some (.int (tab (2 ^ ins) fun _=>true)):=by rw [full_table hi,mG]
 have g1:=qX (C:=C) (n:=2 ^ ins) (b:=fun _=>true) pb;rw [Z7q] at g1;have g2:=qX (C:=C) (n:=2 ^ ins) (b:=J2 ins rows outs tests) pb;unfold J2 at g2 ⊢;generalize pE ins rows outs=PG at *
 generalize 2 ^ ins=n at *
 have csp:∀ E:En,E=[some (false,aX C ins rows outs),some (false,LI tests),some (true,.int (tab n fun _=>true)),none,none]->bL [1] (cM (aJ (gK C) [] (aC (aA 2) aH))) (eO (fIn (aA 0) (aA 1))) (aY (aA 0)) E=some (LI ((lB n tests).map fun (k:Nat)=>(k:Int))):=fun E hE=>by
  subst hE;rw [fV (fun (k:Nat)=>D.int (k:Int)) (fun (k:Nat)=>D.int (k:Int)) (fun (k:Nat)=>!decide ((k:Int) ∈ tests)) (xs:=List.range n) (eI ((aK (xs:=[.int (tab n fun _=>true)]) rfl g1).trans (by unfold LI fM;rw [QaW];rfl))) (by rw [QaJ];omega) (fun k hk=>?_) (fun k _ _=>rfl)]
  .unfold lB LI;rw [QaW];rfl
  .show eO (fIn (aA 0) (aA 1)) [some (false,.int (k:Int)),some (false,LI tests)]=_;have:fIn (aA 0) (aA 1) [some (false,.int (k:Int)),some (false,LI tests)]=some (decide ((k:Int) ∈ tests)):=wS tests;rw [ev_Not,this];rfl
 generalize (tab n fun _=>true)=ev at *
 generalize tab n (gM (enP ins rows outs) (lB n tests) (lB n tests).length)=kv at *
 generalize LI (gV n (gM (enP ins rows outs) (lB n tests) (lB n tests).length))=GV at *
 refine bB ?_;unfold zF;refine iS (d:=.int ev) (aK (xs:=[.int ins]) (aQ (lY rfl) rfl) ft) ?_;refine iS (csp _ rfl) ?_;refine iS (d:=LI PG) (aK (xs:=[aX C ins rows outs]) rfl pe) ?_;exact cE (aK (xs:=[.int kv]) (aQ (Z61 rfl rfl rfl lr) rfl) g2)
theorem Z3R {C:Af}{L:Ab Int}{top:Int}(hl:L.length <= 1000) (hs:L.Pairwise (· < ·)) (hb:∀ x ∈ L,0 <= x /\ x < top):jI C [LI L,.int top]=some (.bl true):=by
 refine bB ?_;unfold wW;have el:bK [LI L]=some (.int (L.length:Int)):=by simp only [bK,LI,Qaa]
 have ty:iJ "list" (LI L)=some true:=rfl;refine sNo (by walk_at "ev") ?_;refine gR (ds:=(List.range L.length).map fun (k:Nat)=>.int (k:Int)) (dX (xs:=[.int (L.length:Int)]) (by walk_at "ev") (mO hl)) (fun i env=>∃ a,env=[some (false,LI L),some (false,.int top),a]) ⟨none,rfl⟩ ?_ ?_
 .rintro i d env hd ⟨a,rfl⟩;obtain⟨hi,rfl⟩:=cY hd;have hx:=Qad hi;generalize hxe:L[i]=x at hx;have hbx:=hb x (QaI hx);have ea:fIx (aA 0) (aA 2) [some (false,LI L),some (false,.int top),some (false,.int (i:Int))]=some (.int x):=by
   rw [ev_Ix];simp only [ev_var,Qaj,Qap,Qaq,Option.map_some,LI];exact fW (by simp [hx])
  have lw:=uX (C:=C) (i:=x);have c1:¬ x < 0:=by omega
  have c2:¬ top <= x:=by omega
  refine⟨_,_,rfl,?_,some (false,.int i),rfl⟩;refine (show aR _ _ [some (false,LI L),some (false,.int top),some (false,.int (i:Int))]=_ from ?_)
  have w1:aJ (cS C) [] (aC (fIx (aA 0) (aA 2)) aH) [some (false,LI L),some (false,.int top),some (false,.int (i:Int))]=some (.bl true):=aK (xs:=[.int x]) (aQ ea rfl) lw;refine sNo ?_ (pX ?_ rfl)
  .simp only [ev_Or,ev_Not,ev_B,ev_BI,w1,ea,ev_C,ev_var,Qaj,Qap,Qaq,Option.map_some,QbO,c1,c2,decide_false]
  .have w5:fBI (fun i j=>decide (j < i)) (aA 2) (fC (.int 0)) [some (false,LI L),some (false,.int top),some (false,.int (i:Int))]=some (decide ((0:Int) < (i:Int))):=rfl;cases i with
   | zero=>rfl
   | succ j =>
    have hy:=Qad (show j < L.length by omega);generalize hye:L[j]=y at hy;have eb:fIx (aA 0) (fI0 (fun i j=>.int (i - j)) (aA 2) (fC (.int 1))) [some (false,LI L),some (false,.int top),some (false,.int ((j + 1:Nat):Int))]=some (.int y):=by
     rw [ev_Ix];have z:fI0 (fun i j=>.int (i - j)) (aA 2) (fC (.int 1)) [some (false,LI L),some (false,.int top),some (false,.int ((j + 1:Nat):Int))]=some (.int (j:Int)):=by
      rw [Z4c (i:=((j + 1:Nat):Int)) (j:=1) rfl rfl];congr 2;omega
     have q:atI (L.map D.int) (j:Int)=some (.int y):=fW (by simp [hy]);rw [z];simp only [ev_var,Qaj,Qaq,Option.map_some,LI,q]
    have c3:¬ x <= y:=by
     have:=QbG.mp hs j (j + 1) (by omega) hi (by omega);rw [hxe,hye] at this;omega
    have w6:fBI (fun i j=>decide (i <= j)) (fIx (aA 0) (aA 2)) (fIx (aA 0) (fI0 (fun i j=>.int (i - j)) (aA 2) (fC (.int 1)))) [some (false,LI L),some (false,.int top),some (false,.int ((j + 1:Nat):Int))]=some false:=by
     rw [ev_BI,ea,eb];simp only [Ry c3]
    have w7:decide ((0:Int) < ((j + 1:Nat):Int))=true:=Rz (by omega);simp only [ev_And,w5,w6,w7]
 .rintro env ⟨a,rfl⟩;rfl
theorem Z5F {C:Af}{ins:Nat}{num:Int}(hi:ins <= 8) (hn:0 <= num) (hn2:num < 2147483648):∃ p:Nat->Bool,nS C [.int ins,.int num]=some (LI (gV (2 ^ ins) p)):=by
 have hb:Builtin.Int.intBits num <= 1048600:=QaV (PySem.intBits_le_64 (by omega) (by omega)) (by decide);have hmx:∀ g:Nat,∃ m:Int,g < 300->cT C [.int num,.int (g:Int)]=some (.int m):=fun g=>by
  by_cases h:g < 300
  .obtain⟨m,_,_,e⟩:=uY (C:=C) (c:=num) (k:=(g:Int)) hb (by omega) (by omega);exact⟨m,fun _=>e⟩
  .exact⟨0,fun z=>absurd z h⟩
 obtain⟨mx,hmx⟩:=Classical.axiomOfChoice hmx;have pb:=wD hi;have n5:(0:Int) < 5:=by decide
 have n4:(0:Int) < 4:=by decide
 refine⟨fun g=>decide (mx g % 4 < num % 5),bB ?_⟩;unfold zI;have z1:fI2 dO (fun i j=>.int (i * 2 ^ j.toNat)) (fC (.int 1)) (aA 0) [some (false,.int (ins:Int)),some (false,.int num),some (true,.lst []),none]=some (.int ((2 ^ ins:Nat):Int)):=by
  rw [oM (C:=dO) (i:=1) (j:=(ins:Int)) rfl rfl (jM (by omega) (by omega)),gP]
 refine iS (d:=.lst []) rfl ?_;refine gR (ds:=(List.range (2 ^ ins)).map fun (k:Nat)=>.int (k:Int)) (dX (xs:=[.int ((2 ^ ins:Nat):Int)]) (aQ z1 rfl) (mO (by omega)))
  (fun i env=>i <= 2 ^ ins /\ ∃ x,env=[some (false,.int (ins:Int)),some (false,.int num),some (true,LI (((List.range i).filter fun g=>decide (mx g % 4 < num % 5)).map fun (k:Nat)=>(k:Int))),x]) ⟨Qbm _,none,rfl⟩ ?_ ?_
 .rintro i d env hd ⟨hil,x,rfl⟩;obtain⟨hin,rfl⟩:=cY hd;have hol:(((List.range i).filter fun g=>decide (mx g % 4 < num % 5)).map fun (k:Nat)=>(k:Int)).length <= 1000:=by
   rw [Qaa];exact QaV (QbD ..) (by rw [QaJ];omega)
  rw [List.range_succ,List.filter_append,QaG];generalize ((List.range i).filter fun g=>decide (mx g % 4 < num % 5)).map (fun (k:Nat)=>(k:Int))=acc at *
  have em:=hmx i (by omega);have w1:aJ (cT C) [] (aC (aA 1) (aC (aA 3) aH)) [some (false,.int (ins:Int)),some (false,.int num),some (true,LI acc),some (false,.int (i:Int))]=some (.int (mx i)):=aK (xs:=[.int num,.int (i:Int)]) rfl em;have w2:fI2 (fun _ j=>0 < j) (fun i j=>.int (i % j)) (aJ (cT C) [] (aC (aA 1) (aC (aA 3) aH))) (fC (.int 4)) [some (false,.int (ins:Int)),some (false,.int num),some (true,LI acc),some (false,.int (i:Int))]=some (.int (mx i % 4)):=oM w1 rfl n4;have w3:fI2 (fun _ j=>0 < j) (fun i j=>.int (i % j)) (aA 1) (fC (.int 5)) [some (false,.int (ins:Int)),some (false,.int num),some (true,LI acc),some (false,.int (i:Int))]=some (.int (num % 5)):=oM rfl rfl n5;have w4:fBI (fun i j=>decide (i < j)) (fI2 (fun _ j=>0 < j) (fun i j=>.int (i % j)) (aJ (cT C) [] (aC (aA 1) (aC (aA 3) aH))) (fC (.int 4))) (fI2 (fun _ j=>0 < j) (fun i j=>.int (i % j)) (aA 1) (fC (.int 5))) [some (false,.int (ins:Int)),some (false,.int num),some (true,LI acc),some (false,.int (i:Int))]=some (decide (mx i % 4 < num % 5)):=by
   rw [ev_BI,w2,w3]
  refine⟨_,_,rfl,?_,by omega,some (false,.int (i:Int)),rfl⟩;refine (show rIf _ _ _ [some (false,.int (ins:Int)),some (false,.int num),some (true,LI acc),some (false,.int (i:Int))]=_ from ?_)
  by_cases hp:mx i % 4 < num % 5
  .rw [Rz hp] at w4;refine (L5 w4 (jS (d:=.int (i:Int)) (ds:=acc.map D.int) rfl rfl (by rw [Qaa];exact hol))).trans ?_;simp [LI,hp]
  .rw [Ry hp] at w4;refine (pX w4 rfl).trans ?_;simp [LI,hp,bQ]
 .rintro env ⟨_,x,rfl⟩;rw [Qaa,QaJ];rfl
def qU (ins:Nat) (rows:Ab Row) (outs:Ab Int):Ab Flt:=(bI ins rows outs).filter fun f=>decide (vE ins rows outs f=0)
theorem Z5Q (hi:ins <= 8) (hs:ins + rows.length < 64) (hr:RowsOk ins rows) (hl:outs.length <= 100) (ho:Ho ins rows outs) :
  D5 C [aX C ins rows outs]=some (.lst ((qU ins rows outs).map Flt.d)):=by
 have af:=oN (C:=C) hs hl hr ho;have fl:=gN hr ho;have te:=J5 (C:=C) (fs:=bI ins rows outs) hi (by omega) hr (fun f hf=>(pK hr f hf).1) (by omega) ho (by omega);refine bB ?_;unfold Z47 qU;generalize bI ins rows outs=FS at *
 refine iS (aK (xs:=[aX C ins rows outs]) rfl af) ?_;refine cE ?_;refine fV (fun f=>.tup [Flt.d f,.int (vE ins rows outs f)]) Flt.d (fun f=>decide (vE ins rows outs f=0)) (xs:=FS) (dX (xs:=[.lst (FS.map Flt.d),LI (FS.map (vE ins rows outs))]) (aQ rfl (aQ (aK (xs:=[aX C ins rows outs,.lst (FS.map Flt.d)]) rfl te) rfl)) ?_) (by omega) ?_ ?_
 .simp only [Z2q,LI,QaW];rw [I0];rfl
 .intro f _;rw [rR];simp only [ev_Eq,ev_var,ev_C,Qaj,Qap,Qaq,Option.map_some,eqN_int]
 .intro f _ _;rw [rR];have:=jK f;simp only [ev_Flat,ev_var,Qaj,Qaq,Option.map_some,this,RC]
theorem Z63 (n:Nat) (f:Flt):eqN (n + 2) f.d f.d=some true:=by
 cases f <;> simp [Flt.d,eqN_tup,eqL_cons,eqL_nil,eqN_str,eqN_int,eqN_non]
theorem D8 {C:Af}{f:Flt}:kO C [f.d,f.d]=some (.bl true):=by
 have lw:∀ i,cS C [.int i]=some (.bl true):=fun i=>uX;have key:∀ (xs:Ab Int) (z:Str),f.d=.tup (.str z :: xs.map D.int)->kO C [f.d,f.d]=some (.bl true):=by
  intro xs z ef;have ee:=Z63 6 f;have fl:=jK f;have t1:iJ "tuple" f.d=some true:=by rw [ef];rfl
  have t2:iJ "str" (.str z)=some true:=rfl;have el:bK [f.d]=some (.int ((xs.length + 1:Nat):Int)):=by rw [ef];simp [bK]
  have en:jO false (aA 1) [some (false,f.d),some (false,f.d),none]=some false:=by rw [ef];rfl
  have ei:fIx (aA 0) (fC (.int 0)) [some (false,f.d),some (false,f.d),none]=some (.str z):=by
   rw [ef,ev_Ix];simp only [ev_var,ev_C,Qaj,Qaq,Option.map_some,atI_0]
  have et2:eO (fB (uR "str" (fIx (aA 0) (fC (.int 0))))) [some (false,f.d),some (false,f.d),none]=some false:=by simp only [ev_Not,ev_B,ev_IsT,ei,t2,Option.map_some,QbO]
  have et1:eO (fB (uR "tuple" (aA 0))) [some (false,f.d),some (false,f.d),none]=some false:=by simp only [ev_Not,ev_B,ev_IsT,ev_var,Qaj,Qaq,t1,Option.map_some,QbO]
  have et3:eO (fEq (fB1 bK (aC (aA 0) aH)) (fB1 bK (aC (aA 1) aH))) [some (false,f.d),some (false,f.d),none]=some false:=by
   simp only [ev_Not,ev_Eq,ev_B1,ev_Cons,ev_Nil,ev_var,Qaj,Qap,Qaq,Option.map_some,el,eqN_int,decide_true,QbO]
  refine bB ?_;show kS C [some (false,f.d),some (false,f.d),none]=_;unfold kS;refine sNo en ?_;refine sNo (by simp only [ev_Or,et1,et2,et3]) ?_;refine gR (ds:=xs.map D.int) (by
    have fl':flats (.str z :: xs.map D.int)=true:=by rw [ef] at fl;simpa only [PD.flat] using fl
    have e1:fSl (aA 0) (fP (fC (.int 1))) tI [some (false,f.d),some (false,f.d),none]=some (.tup (xs.map D.int)):=by
     rw [ev_Sl];simp [ef,fl',Z4j,Z1n]
    unfold cM;rw [e1])
   (fun j env=>∃ c,env=[some (false,f.d),some (false,f.d),c]) ⟨none,rfl⟩ ?_ ?_
  .rintro j d env hd ⟨c,rfl⟩;obtain⟨y,hy,rfl⟩:=fE hd;have:=lw y;refine⟨_,_,rfl,pX ?_ rfl,some (false,.int y),rfl⟩;clear lw;walk_at "ev"
  .rintro env ⟨c,rfl⟩;refine cE ?_;simp only [ev_OfB,ev_Eq,ev_var,Qaj,Qap,Qaq,Option.map_some];rw [show eqN 8 f.d f.d=some true from ee]
   rfl
 cases f with
 | none =>
  refine bB ?_;show kS C [some (false,.non),some (false,.non),none]=_;unfold kS;exact V1 rfl (vV rfl)
 | wire w b=>exact key [w,b] "wire" rfl
 | leg w l b=>exact key [w,l,b] "leg" rfl
theorem Z3Q {C:Af}{fs:Ab Flt}(hl:fs.length <= 1000):mV C [.lst (fs.map Flt.d),.lst (fs.map Flt.d)]=some (.bl true):=by
 refine bB ?_;unfold N9;have el:bK [.lst (fs.map Flt.d)]=some (.int (fs.length:Int)):=by simp only [bK,Qaa]
 have ty:iJ "list" (.lst (fs.map Flt.d))=some true:=rfl;refine sNo (by walk_at "ev") ?_;refine gR (ds:=(List.range fs.length).map fun (k:Nat)=>.int (k:Int)) (dX (xs:=[.int (fs.length:Int)]) (by walk_at "ev") (mO hl)) (fun i env=>∃ a,env=[some (false,.lst (fs.map Flt.d)),some (false,.lst (fs.map Flt.d)),a]) ⟨none,rfl⟩ ?_ ?_
 .rintro i d env hd ⟨a,rfl⟩;obtain⟨hi,rfl⟩:=cY hd;have hx:=Qad hi;generalize fs[i]=f at hx;have ea:atI (fs.map Flt.d) (i:Int)=some f.d:=fW (by simp [hx]);have lf:=D8 (C:=C) (f:=f);refine⟨_,_,rfl,pX ?_ rfl,some (false,.int i),rfl⟩;clear hd hx ty el;walk_at "ev"
 .rintro env ⟨a,rfl⟩;rfl
theorem Z7h (h:xs.length <= 1000):qJ C [LI xs,LI xs]=some (.bl true):=by
 refine bB ?_;unfold O2;have el:bK [.lst (xs.map D.int)]=some (.int (xs.length:Int)):=by simp only [bK,Qaa]
 have ty:iJ "list" (.lst (xs.map D.int))=some true:=rfl;refine sNo (by simp only [LI];walk_at "ev") ?_;refine gR (ds:=(List.range xs.length).map fun (k:Nat)=>.int (k:Int)) (dX (xs:=[.int (xs.length:Int)]) (by simp only [LI];walk_at "ev") (mO h)) (fun i env=>∃ s,env=[some (false,LI xs),some (false,LI xs),s]) ⟨none,rfl⟩ ?_ ?_
 .rintro i d env hd ⟨s,rfl⟩;obtain⟨hi,rfl⟩:=cY hd;have ea:=gG (vs:=xs) (a:=(i:Int)) (by omega) (by omega);have ew:cS C [.int (nth xs i)]=some (.bl true):=uX;exact⟨_,_,rfl,pX (by simp only [LI];walk_at "ev") rfl,some (false,.int i),rfl⟩
 .rintro env ⟨s,rfl⟩;rfl
theorem Z5G (h:xss.length <= 1000) (h2:∀ xs ∈ xss,xs.length <= 1000):kN C [LL xss,LL xss]=some (.bl true):=by
 refine bB ?_;unfold zJ;have el:bK [.lst (xss.map LI)]=some (.int (xss.length:Int)):=by simp only [bK,Qaa]
 have ty:iJ "list" (.lst (xss.map LI))=some true:=rfl;refine sNo (by simp only [LL];walk_at "ev") ?_;refine gR (ds:=(List.range xss.length).map fun (k:Nat)=>.int (k:Int)) (dX (xs:=[.int (xss.length:Int)]) (by simp only [LL];walk_at "ev") (mO h)) (fun i env=>∃ s,env=[some (false,LL xss),some (false,LL xss),s]) ⟨none,rfl⟩ ?_ ?_
 .rintro i d env hd ⟨s,rfl⟩;obtain⟨hi,rfl⟩:=cY hd;have hx:=Qad hi;generalize xss[i]=xs at hx;have ea:atI (xss.map LI) (i:Int)=some (LI xs):=fW (by simp [hx]);have ll:=Z7h (C:=C) (h2 xs (QaI hx));refine⟨_,_,rfl,pX ?_ rfl,some (false,.int i),rfl⟩;simp only [LL];clear hd hx ty el h2;walk_at "ev"
 .rintro env ⟨s,rfl⟩;rfl
theorem rE:eqN (n + 2) (LI xs) (LI ys)=some (decide (xs=ys)):=by
 by_cases h:xs.length=ys.length
 .exact Z7w h
 .unfold LI;rw [F3,if_neg (by simpa using h),Ry (fun z=>h (by rw [z]))]
theorem Z0S:∀ {xss yss:Ab (Ab Int)},xss.length=yss.length->eqL (eqN (n + 2)) (xss.map LI) (yss.map LI)=some (decide (xss=yss))
 | [],[],_=>by simp [eqL_nil]
 | x :: xs,y :: ys,h=>by
  rw [Qao,Qao,eqL_cons,rE,Z0S (by simpa using h)];by_cases h1:x=y
  .by_cases h2:xs=ys
   .simp [h1,h2]
   .simp [h1,h2]
  .simp [h1]
 | [],_ :: _,h=>by simp at h
 | _ :: _,[],h=>by simp at h
theorem Z7v:eqN (n + 3) (LL xss) (LL yss)=some (decide (xss=yss)):=by
 unfold LL;rw [F3];by_cases h:xss.length=yss.length
 .rw [if_pos (by simpa using h),Z0S h]
 .rw [if_neg (by simpa using h),Ry (fun z=>h (by rw [z]))]
def sQ (ins:Nat) (rows:Ab Row) (outs tests:Ab Int) (told:Ab (Ab Int)):Ab Flt:=(Flt.none :: bI ins rows outs).filter fun f=>decide (tests.map (cN (aL ins rows f) outs)=told)
theorem Z3E (hi:ins <= 8) (hs:ins + rows.length < 64) (hl:outs.length <= 100) (hr:RowsOk ins rows) (ho:Ho ins rows outs) (ht:∀ g ∈ tests,0 <= g) (htl:tests.length <= 1000) :
  qG C [aX C ins rows outs,LI tests,LL told]=some (.lst ((sQ ins rows outs tests told).map Flt.d)):=by
 have gf:=Z0L (C:=C) hs hl hr ho;have fl:=gN hr ho;have fo:=tL (outs:=outs) hr;unfold sQ;have hFl:(Flt.none :: bI ins rows outs).length <= 1000:=by rw [Qal];omega
 generalize Flt.none :: bI ins rows outs=FS at *
 refine bB (cE ?_);refine fV Flt.d Flt.d (fun f=>decide (tests.map (cN (aL ins rows f) outs)=told)) (xs:=FS) (eI (aK (xs:=[aX C ins rows outs]) rfl gf)) hFl ?_ ?_
 .intro f hf;have an:=xH (C:=C) hi (by omega) hr (fo f hf) (by omega) ho ht htl;have e1:aJ (eU C) [] (aC (aA 2) (aC (aA 3) (aC (aA 0) aH))) [some (false,f.d),some (false,LL told),some (false,aX C ins rows outs),some (false,LI tests)]=some (LL (tests.map (cN (aL ins rows f) outs))):=aK (xs:=[aX C ins rows outs,LI tests,f.d]) rfl an;show fEq _ (aA 1) [some (false,f.d),some (false,LL told),some (false,aX C ins rows outs),some (false,LI tests)]=_;simp only [ev_Eq,e1,ev_var,Qaj,Qap,Qaq,Option.map_some];exact Z7v (n:=5)
 .intro f _ _;have:=jK f;simp only [ev_Flat,ev_var,Qaj,Qaq,Option.map_some,this,RC]
theorem V8 (hi:ins <= 8) (hs:ins + rows.length <= 1000) (hr:RowsOk ins rows) (hf:FltOk ins rows f) (hg:FltOk ins rows g) (hl:outs.length <= 1000) (ho:Ho ins rows outs) :
  nQ C [aX C ins rows outs,f.d,g.d]=some (pJ (jP (aL ins rows f) (aL ins rows g) outs)):=by
 have o1:=fJ (C:=C) (outs:=outs) hi hs hr hf hl ho;have o2:=fJ (C:=C) (outs:=outs) hi hs hr hg hl ho;exact bB (cE (aK (xs:=[.int (jP (aL ins rows f) (aL ins rows g) outs)]) (aQ (aK (xs:=[LI (outs.map (nth (aL ins rows f))),LI (outs.map (nth (aL ins rows g)))]) (aQ (aK (xs:=[aX C ins rows outs,f.d]) rfl o1) (aQ (aK (xs:=[aX C ins rows outs,g.d]) rfl o2) rfl)) rG) rfl) wN))
theorem Z3J (h:t=((2 ^ k * (2 * m + 1):Nat):Int)):t / (1 * 2 ^ k) % 2=1:=by
 have e:((2 ^ k * (2 * m + 1):Nat):Int)=(2 ^ k:Int) * ((2 * m + 1:Nat):Int):=by
  simp only [Int.natCast_mul,Int.natCast_pow];rfl
 rw [h,e,Qbv,Int.mul_ediv_cancel_left _ (Int.ne_of_gt (Int.pow_pos (by decide)))];omega
theorem Z1P (h:IsT n t) (h0:¬ t=0):∃ k m:Nat,t=((2 ^ k * (2 * m + 1):Nat):Int) /\ k < n /\ pJ t=.int (k:Int):=by
 have hp:=h.nonneg;obtain⟨k,m,e⟩:=M7 t.toNat t.toNat (Qag _) (by omega);have et:t=((2 ^ k * (2 * m + 1):Nat):Int):=by omega
 refine⟨k,m,et,?_,?_⟩
 .obtain⟨b,rfl⟩:=h;have h1:=fT n b;have h2:2 ^ k < 2 ^ n:=by
   refine Qbr (Nat.le_mul_of_pos_right (2 ^ k) (show 0 < 2 * m + 1 by omega)) ?_;have:tabN n b=2 ^ k * (2 * m + 1):=by unfold tab at et;omega
   rw [<- this];exact h1
  exact (Nat.pow_lt_pow_iff_right (by decide)).mp h2
 .unfold pJ;rw [if_neg h0,Z5A et,Z4p];congr 1;omega
theorem yX:∀ {l:Ab α},(l.map f).Nodup->∀ {x y:α},x ∈ l->y ∈ l->f x=f y->x=y
 | [],_,_,_,h,_,_=>(nomatch h)
 | a :: l,hn,x,y,hx,hy,e=>by
  rw [Qao] at hn;obtain⟨h1,h2⟩:=QaO.mp hn;rcases Qaf.mp hx with e1 | h3
  .rcases Qaf.mp hy with e2 | h4
   .rw [e1,e2]
   .exact absurd (e1 ▸ e ▸ Qbx h4) h1
  .rcases Qaf.mp hy with e2 | h4
   .exact absurd (e2 ▸ e ▸ Qbx h3) h1
   .exact yX h2 h3 h4 e
theorem Z6a (hA:∀ a,IsT n (nth A a)) (hB:∀ a,IsT n (nth B a)) (h:(gV n b).map (cN A outs)=(gV n b).map (cN B outs)):wK (tab n b) (outs.map (nth A))=wK (tab n b) (outs.map (nth B)):=by
 unfold wK;rw [QaW,QaW];refine Qbe fun a ha=>?_;show Builtin.bitAnd (nth A a) (tab n b)=Builtin.bitAnd (nth B a) (tab n b);obtain⟨p,hp⟩:=hA a;obtain⟨q,hq⟩:=hB a;rw [hp,hq,pW,pW];refine cQ fun g hg=>?_;cases hb:b g with
 | false=>simp
 | true =>
  have h1:=List.map_inj_left.mp h (g:Int) (gV_mem.mpr ⟨g,hg,hb,rfl⟩);unfold cN at h1;have h2:=List.map_inj_left.mp h1 a ha;rw [hp,hq,Qat] at h2;have h3:=oQ (b:=p) hg;have h4:=oQ (b:=q) hg;rw [h2] at h3;have h5:=h3.symm.trans h4;cases hp':p g <;> cases hq':q g <;> simp_all
theorem Z7A (h:outs.map (nth A)=outs.map (nth B)) (g:Int):cN A outs g=cN B outs g:=by
 unfold cN;have:∀ T:Ab Int,(outs.map fun a=>nth T a / 2 ^ g.toNat % 2)=(outs.map (nth T)).map fun t=>t / 2 ^ g.toNat % 2:=fun T=>by rw [QaW];rfl
 rw [this,this,h]
theorem Z6b (hr:RowsOk ins rows) (hen:enP ins rows outs b=true) (hf:f ∈ Flt.none :: bI ins rows outs) (hg:g ∈ Flt.none :: bI ins rows outs) :
  (gV (2 ^ ins) b).map (cN (aL ins rows f) outs)=(gV (2 ^ ins) b).map (cN (aL ins rows g) outs) ↔ dB ins rows outs f=dB ins rows outs g:=by
 constructor
 .intro h;have hm:=Z6a (dI hr (tL hr f hf)) (dI hr (tL hr g hg)) h;have hn:((F6 (mC ins rows outs)).map (wK (tab (2 ^ ins) b))).Nodup:=of_decide_eq_true hen;exact yX hn ((rH _ _).mpr (Qbx hf)) ((rH _ _).mpr (Qbx hg)) hm
 .intro h;exact Qbe fun x _=>Z7A h x
def F5 (ins:Nat) (rows:Ab Row) (outs:Ab Int) (f:Flt):Ab Flt:=(Flt.none :: bI ins rows outs).filter fun g=>decide (dB ins rows outs g=dB ins rows outs f)
theorem Z1M (hr:RowsOk ins rows) (hen:enP ins rows outs b=true) (hf:f ∈ Flt.none :: bI ins rows outs) :
  sQ ins rows outs (gV (2 ^ ins) b) ((gV (2 ^ ins) b).map (cN (aL ins rows f) outs))=F5 ins rows outs f:=by
 unfold sQ F5;exact List.filter_congr fun g hg=>by rw [decide_eq_decide.mpr (Z6b hr hen hg hf)]
def isF:Flt->Bool | .none=>false | _=>true
theorem Z7o (h:f ≠ .none):isF f=true:=by cases f <;> first | rfl | exact absurd rfl h
theorem Z3Z (hr:RowsOk ins rows) :
  (Flt.none :: bI ins rows outs).filter (fun f=>isF f && decide (dB ins rows outs f=dB ins rows outs .none))=qU ins rows outs:=by
 unfold qU;rw [List.filter_cons_of_neg (by simp [isF])];refine List.filter_congr fun f hf=>?_;have ok:=pK (outs:=outs) hr f hf;have:=oP (dI hr .no) (dI hr ok.1) outs;unfold vE dB;rw [Z7o ok.2,Bool.true_and,decide_eq_decide.mpr this]
theorem J6 (hk:k < n) (hA:∀ a,IsT n (nth A a)) (hB:∀ a,IsT n (nth B a)):∀ (outs:Ab Int) (x:Int),IsT n x -> ¬ x / 2 ^ k % 2=1->(∀ a ∈ outs,nth A a / 2 ^ k % 2=nth B a / 2 ^ k % 2) -> ¬ outs.foldl (fun acc a=>Builtin.bitOr acc (Builtin.bitXor (nth A a) (nth B a))) x / 2 ^ k % 2=1
 | [],x,_,h,_=>h
 | a :: outs,x,hx,h,ha=>by
  rw [Qa8];refine J6 hk hA hB outs _ (hx.or ((hA a).xor (hB a))) ?_ fun c hc=>ha c (Qae _ hc);have h1:=ha a Qau;obtain⟨p,hp⟩:=hA a;obtain⟨q,hq⟩:=hB a;obtain⟨r,rfl⟩:=hx;rw [hp,hq] at h1 ⊢;have e1:=oQ (b:=p) hk;have e2:=oQ (b:=q) hk;rw [h1] at e1;have e3:=e1.symm.trans e2;rw [nH,vH,oQ hk];rw [oQ hk] at h;cases hp':p k <;> cases hq':q k <;> simp_all
theorem Z1B (hr:RowsOk ins rows) (hf:FltOk ins rows f) (hg:FltOk ins rows g) (hne:¬ dB ins rows outs f=dB ins rows outs g) :
  ∃ k:Nat,k < 2 ^ ins /\ pJ (jP (aL ins rows f) (aL ins rows g) outs)=.int (k:Int) /\ ¬ cN (aL ins rows f) outs k=cN (aL ins rows g) outs k:=by
 have hA:=dI hr hf;have hB:=dI hr hg;have h0:¬ jP (aL ins rows f) (aL ins rows g) outs=0:=fun z=>hne ((oP hA hB outs).mp z).symm;obtain⟨k,m,e1,e2,e3⟩:=Z1P (Z15 hA hB outs) h0;refine⟨k,e2,e3,fun z=>?_⟩;have h1:=Z3J e1;rw [Qbv] at h1;refine J6 e2 hA hB outs 0 (mY _) (by simp) (fun a ha=>?_) h1;unfold cN at z;have:=List.map_inj_left.mp z a ha
 rwa [Qat] at this
theorem Z1T (hi:ins <= 8) (hs:ins + rows.length <= 1000) (hr:RowsOk ins rows) (hf:FltOk ins rows f) (hg:FltOk ins rows g) (hl:outs.length <= 1000) (ho:Ho ins rows outs) :
  iH C [aX C ins rows outs,f.d,g.d,LI (dB ins rows outs f),LI (dB ins rows outs g)]=some (.bl true):=by
 have pe:=V8 (C:=C) hi hs hr hf hg hl ho;have pb:=wD hi;refine Z8b ?_;unfold uC;refine jN (aK (xs:=[aX C ins rows outs,f.d,g.d]) rfl pe) ?_;have eq:=rE (n:=6) (xs:=dB ins rows outs f) (ys:=dB ins rows outs g);by_cases h:dB ins rows outs f=dB ins rows outs g
 .have hz:jP (aL ins rows f) (aL ins rows g) outs=0:=(oP (dI hr hf) (dI hr hg) outs).mpr h.symm;rw [hz];rw [Rz h] at eq;refine Z8W (by
   show fEq (aA 3) (aA 4) [some (false,aX C ins rows outs),some (false,f.d),some (false,g.d),some (false,LI (dB ins rows outs f)),some (false,LI (dB ins rows outs g)),some (true,pJ 0)]=_;simp only [ev_Eq,ev_var,Qaj,Qap,Qaq,Option.map_some,eq]) ?_
  exact Z7H (d:=.bl true) rfl rfl
 .rw [Ry h] at eq;obtain⟨k,k1,k2,k3⟩:=Z1B hr hf hg h;rw [k2];have lw:=uX (C:=C) (i:=(k:Int));have a1:=wO (C:=C) (T:=aL ins rows f) (outs:=outs) (g:=(k:Int)) hl (by omega) (by omega);have a2:=wO (C:=C) (T:=aL ins rows g) (outs:=outs) (g:=(k:Int)) hl (by omega) (by omega);refine wNo (by
   show fEq (aA 3) (aA 4) [some (false,aX C ins rows outs),some (false,f.d),some (false,g.d),some (false,LI (dB ins rows outs f)),some (false,LI (dB ins rows outs g)),some (true,.int (k:Int))]=_;simp only [ev_Eq,ev_var,Qaj,Qap,Qaq,Option.map_some,eq]) ?_
  refine Z7I (d:=.bl true) ?_ rfl;have e3:=rE (n:=6) (xs:=cN (aL ins rows f) outs k) (ys:=cN (aL ins rows g) outs k);rw [Ry k3] at e3
  let E:En:=[some (false,aX C ins rows outs),some (false,f.d),some (false,g.d),some (false,LI (dB ins rows outs f)),some (false,LI (dB ins rows outs g)),some (true,.int (k:Int))]
  have c0:aJ (cS C) [] (aC (aA 5) aH) E=some (.bl true):=aK (xs:=[.int (k:Int)]) rfl lw;have c1:aJ (fF C) [] (aC (aA 3) (aC (aA 5) aH)) E=some (LI (cN (aL ins rows f) outs k)):=aK (xs:=[LI (dB ins rows outs f),.int (k:Int)]) rfl a1;have c2:aJ (fF C) [] (aC (aA 4) (aC (aA 5) aH)) E=some (LI (cN (aL ins rows g) outs k)):=aK (xs:=[LI (dB ins rows outs g),.int (k:Int)]) rfl a2;show hZ _ E=_;simp only [ev_OfB,ev_And,ev_B,ev_Not,ev_Eq,c0,c1,c2,Option.map_some,e3,Bool.not_false]
def fX (ins:Nat) (rows:Ab Row) (outs:Ab Int) (f:Flt):D:=.tup [f.d,LI (dB ins rows outs f)]
theorem mS (h:fs env=some xs) (q:F' xs=some (.bl true)):eO (fB (aJ F' [] fs)) env=some false:=by
 have:aJ F' [] fs env=some (.bl true):=aK (xs:=xs) h (by simpa using q);simp only [ev_Not,ev_B,this,Option.map_some,QbO]
theorem M9 (hb:∀ i ∈ ns,Builtin.Int.intBits i <= 1048576) (h0:0 <= k):Builtin.Int.intBits (nth ns k) <= 1048600:=by
 by_cases h:k < (ns.length:Int)
 .exact QaV (hb _ (D3 h0 h)) (by decide)
 .rw [Z0E (by omega)];decide
theorem Z3N (ns:Ab Int) (hlen:ns.length <= 63) (hbits:∀ i ∈ ns,Builtin.Int.intBits i <= 1048576):Z3I C [.lst (ns.map D.int)]=some (.bl true):=by
 refine Z8b ?_;unfold Z6u;obtain⟨_,ed,ins,rows,outs,hi5,hr,hrl,o1,o2,ho,hpos,rfl⟩:=Z5J (C:=C) hlen hbits;refine jN (aK (xs:=[LI ns]) rfl ed) ?_;have f1:gY [.lst (rows.map Row.d)]=some (.lst (rows.map Row.d)):=by simp only [gY,Z1o,RC]
 have f2:gY [LI outs]=some (LI outs):=by simp only [gY,LI,fL,RC]
 have mc:=Z5y (C:=C) (ins:=ins) (rows:=rows) (outs:=outs) (by omega);refine jN (d:=aX C ins rows outs) (by simp only [bH];clear hbits ed;walk_at "ev") ?_;have la:=Z5K (C:=C) (ns:=ns) (k:=0) (by omega);obtain⟨num,n0,n1,em⟩:=uY (C:=C) (c:=nth ns 0) (k:=8) (M9 hbits (by omega)) (by omega) (by omega);obtain⟨p,et⟩:=Z5F (C:=C) (ins:=ins) (num:=num) (by omega) n0 n1;have ew:=Q8 (C:=C) (ins:=ins) (rows:=rows) (outs:=outs) (tests:=gV (2 ^ ins) p) (by omega) (by omega) (by omega) hr ho;have pb:=wD (ins:=ins) (by omega);have kk:=wP (outs:=outs) hr;have hen:enP ins rows outs (J2 ins rows outs (gV (2 ^ ins) p))=true:=Z20 (Z3o fun ts hts=>(kk ts hts).2) _ _;generalize J2 ins rows outs (gV (2 ^ ins) p)=B at *
 have hWl:=Z7p (n:=2 ^ ins) (b:=B);have er:=Z3R (C:=C) (L:=gV (2 ^ ins) B) (top:=((2 ^ ins:Nat):Int)) (by omega) (Z2a _ _) fun x hx=>by obtain⟨k,h1,_,rfl⟩:=gV_mem.mp hx;omega
 have hWb:∀ x ∈ gV (2 ^ ins) B,0 <= x /\ x <= 300:=fun x hx=>by obtain⟨k,h1,_,rfl⟩:=gV_mem.mp hx;omega
 have ND:∀ f ∈ Flt.none :: bI ins rows outs,sQ ins rows outs (gV (2 ^ ins) B) ((gV (2 ^ ins) B).map (cN (aL ins rows f) outs))=F5 ins rows outs f:=fun f hf=>Z1M hr hen hf;generalize gV (2 ^ ins) B=W at *
 have z1:∀ E:En,E[1]? = some (some (true,bH ins rows outs))->fI2 dO (fun i j=>.int (i * 2 ^ j.toNat)) (fC (.int 1)) (fIx (aA 1) (fC (.int 0))) E=some (.int ((2 ^ ins:Nat):Int)):=fun E hE=>by
  have e0:fIx (aA 1) (fC (.int 0)) E=some (.int (ins:Int)):=by
   rw [ev_Ix];simp only [ev_var,hE,Qaq,Option.map_some,ev_C];rfl
  rw [oM (C:=dO) (i:=1) (j:=(ins:Int)) rfl e0 (jM (by omega) (by omega)),gP]
 let S0:Slot:=some (false,.lst (ns.map D.int))
 let S1:Slot:=some (true,bH ins rows outs)
 let S2:Slot:=some (true,aX C ins rows outs)
 let S3:Slot:=some (true,LI W)
 let E0:En:=[S0,S1,S2,S3,none,none,none,none,none,none,none,none,none,none]
 refine jN (d:=LI W) (aK (xs:=[aX C ins rows outs,LI (gV (2 ^ ins) p)]) (aQ rfl (aQ (aK (xs:=[.int (ins:Int),.int num]) (aQ rfl (aQ (aK (xs:=[.int (nth ns 0),.int 8]) (aQ (aK (xs:=[LI ns,.int 0]) rfl la) rfl) em) rfl)) et) rfl)) ew) ?_;have hri:=mS (F':=jI C) (fs:=aC (aA 3) (aC (fI2 dO (fun i j=>.int (i * 2 ^ j.toNat)) (fC (.int 1)) (fIx (aA 1) (fC (.int 0)))) aH)) (env:=E0) (xs:=[LI W,.int ((2 ^ ins:Nat):Int)]) (aQ rfl (aQ (z1 _ rfl) rfl)) er;refine wNo hri ?_;have lf:=Z3T (C:=C) (ins:=ins) (rows:=rows) (outs:=outs) (by omega) (by omega) hr ho;have fl:=gN hr ho;have fo:=tL (outs:=outs) hr;have hs1:ins + rows.length <= 1000:=by omega
 have OT:∀ f,FltOk ins rows f->dR C [bH ins rows outs,f.d]=some (LI (dB ins rows outs f)):=fun f hf=>D7 (by omega) hs1 hr hf (by omega) ho;have LN:∀ f,iI C [LI (dB ins rows outs f),LI W]=some (LL (W.map (cN (aL ins rows f) outs))):=fun f=>Z1V (by omega) hWb (by omega);have AN:∀ f,FltOk ins rows f->eU C [aX C ins rows outs,LI W,f.d]=some (LL (W.map (cN (aL ins rows f) outs))):=fun f hf=>xH (by omega) (by omega) hr hf (by omega) ho (fun g hg=>(hWb g hg).1) (by omega);have NM:∀ told,qG C [aX C ins rows outs,LI W,LL told]=some (.lst ((sQ ins rows outs W told).map Flt.d)):=fun told=>Z3E (by omega) (by omega) (by omega) hr ho (fun g hg=>(hWb g hg).1) (by omega);have LP:∀ f g,FltOk ins rows f->FltOk ins rows g->iH C [aX C ins rows outs,f.d,g.d,LI (dB ins rows outs f),LI (dB ins rows outs g)]=some (.bl true):=fun f g hf hg=>Z1T (by omega) (by omega) hr hf hg (by omega) ho;have LL1:∀ f,kN C [LL (W.map (cN (aL ins rows f) outs)),LL (W.map (cN (aL ins rows f) outs))]=some (.bl true):=fun f=>Z5G (by rw [Qaa];omega) fun xs hx=>by
  obtain⟨g,_,rfl⟩:=QaM.mp hx;unfold cN;rw [Qaa];omega
 have ID:=Z5Q (C:=C) (ins:=ins) (rows:=rows) (outs:=outs) (by omega) (by omega) hr (by omega) ho;have ide:=Z3Z (outs:=outs) hr;have idl:(qU ins rows outs).length <= 1000:=QaV (QbD _ _) (by omega);have dul:∀ f,(F5 ins rows outs f).length <= 1000:=fun f=>QaV (QbD _ _) (by rw [Qal];omega);have hdue:∀ f,F5 ins rows outs f=(Flt.none :: bI ins rows outs).filter fun g=>decide (dB ins rows outs g=dB ins rows outs f):=fun f=>rfl;have hFl:(Flt.none :: bI ins rows outs).length <= 1000:=by rw [Qal];omega
 have hFp:0 < (Flt.none :: bI ins rows outs).length:=by rw [Qal];omega
 have e4:bL [1] (cM (O8 (gE (aC (fC .non) aH)) (aJ (gD C) [] (aC (aA 1) aH)))) fTT (iK (aC (aY (aA 0)) (aC (aJ (dR C) [] (aC (aA 1) (aC (aA 0) aH))) aH))) E0=some (.lst ((Flt.none :: bI ins rows outs).map (fX ins rows outs))):=by
  have h1:aJ (gD C) [] (aC (aA 1) aH) E0=some (.lst ((bI ins rows outs).map Flt.d)):=aK (xs:=[bH ins rows outs]) rfl lf;have h2:gE (aC (fC .non) aH) E0=some (.lst [.non]):=rfl;have h3:[D.non].length + ((bI ins rows outs).map Flt.d).length <= 1000:=by rw [Qaa,List.length_singleton];omega
  have h4:O8 (gE (aC (fC .non) aH)) (aJ (gD C) [] (aC (aA 1) aH)) E0=some (.lst ((Flt.none :: bI ins rows outs).map Flt.d)):=by
   simp only [ev_cat,h1,h2,h3,RC,QbA,QbL,Qao,Flt.d]
  refine bY Flt.d (fX ins rows outs) (eI h4) hFl (fun f hf=>?_);have of:=OT f (fo f hf);have ff:=jK f;have g1:aJ (dR C) [] (aC (aA 1) (aC (aA 0) aH)) [some (false,f.d),S1]=some (LI (dB ins rows outs f)):=aK (xs:=[bH ins rows outs,f.d]) rfl of;have g2:aY (aA 0) [some (false,f.d),S1]=some f.d:=by simp only [ev_Flat,ev_var,Qaj,Qaq,Option.map_some,ff,RC]
  show iK _ [some (false,f.d),S1]=_;rw [ev_Tup,aQ g2 (aQ g1 rfl)];rfl
 refine jN e4 ?_;have h00:(Flt.none :: bI ins rows outs)[0]? = some .none:=rfl;generalize Flt.none :: bI ins rows outs=FS at *
 have hget:∀ j:Nat,j < FS.length->∃ f,f ∈ FS /\ atI (FS.map (fX ins rows outs)) (j:Int)=some (fX ins rows outs f):=fun j hj=>⟨FS[j],List.getElem_mem hj,fW (by simp [Qad hj])⟩
 let S4:Slot:=some (true,.lst (FS.map (fX ins rows outs)))
 have e5:bL [4] (cM (aA 4)) (un2 (kE (jO true (aA 0)) (fEq (aA 1) (fIx (fIx (aA 2) (fC (.int 0))) (fC (.int 1)))))) (un2 (aY (aA 0))) [S0,S1,S2,S3,S4,none,none,none,none,none,none,none,none,none]=some (.lst ((qU ins rows outs).map Flt.d)):=by
  rw [<- ide];refine fV (fX ins rows outs) Flt.d (fun f=>isF f && decide (dB ins rows outs f=dB ins rows outs .none)) (by rfl) hFl ?_ ?_
  .intro f _;unfold fX;rw [rR]
   let E4:En:=[some (false,f.d),some (false,LI (dB ins rows outs f)),S4]
   have a0:atI (FS.map (fX ins rows outs)) ((0:Nat):Int)=some (fX ins rows outs .none):=fW (by rw [Qas,h00];rfl);have a1:fIx (aA 2) (fC (.int 0)) E4=some (fX ins rows outs .none):=a0;have a2:fIx (fIx (aA 2) (fC (.int 0))) (fC (.int 1)) E4=some (LI (dB ins rows outs .none)):=by rw [ev_Ix,a1];rfl
   have a3:fEq (aA 1) (fIx (fIx (aA 2) (fC (.int 0))) (fC (.int 1))) E4=some (decide (dB ins rows outs f=dB ins rows outs .none)):=by
    simp only [ev_Eq,a2,ev_var,E4,Qaj,Qap,Qaq,Option.map_some];exact rE (n:=6)
   have a4:jO true (aA 0) E4=some (isF f):=by cases f <;> rfl
   show kE _ _ E4=_;rw [ev_And,a4,a3];cases isF f <;> rfl
  .intro f _ _;have:=jK f;unfold fX;rw [rR];simp only [ev_Flat,ev_var,Qaj,Qaq,Option.map_some,this,RC]
 refine jN e5 ?_
 let S5:Slot:=some (true,.lst ((qU ins rows outs).map Flt.d))
 refine wNo (mS (xs:=[.lst ((qU ins rows outs).map Flt.d),.lst ((qU ins rows outs).map Flt.d)]) (aQ (aK (xs:=[aX C ins rows outs]) rfl ID) rfl) (Z3Q idl)) ?_;clear ed mc f1 f2 em et ew er lf e4 e5 ide la hri ID;have hmin:fB1 Z0c (aC (fB1 bK (aC (aA 4) aH)) (aC (fC (.int 12)) aH)) [S0,S1,S2,S3,S4,S5,none,none,none,none,none,none,none,none]=some (.int ((min FS.length 12:Nat):Int)):=by
  refine kD (xs:=[.int (FS.length:Int),.int 12]) (aQ (kD (xs:=[.lst (FS.map (fX ins rows outs))]) rfl (by simp only [bK,Qaa])) rfl) ?_;simp only [Z0c];congr 2;split <;> omega
 refine Z0e (ds:=(List.range (min FS.length 12)).map fun (k:Nat)=>.int (k:Int)) (dX (xs:=[.int ((min FS.length 12:Nat):Int)]) (aQ hmin rfl) (mO (by omega)))
  (fun i env=>∃ o a b c d e f g h,env=[S0,S1,S2,S3,some (o,.lst (FS.map (fX ins rows outs))),S5,a,b,c,d,e,f,g,h]) ⟨true,none,none,none,none,none,none,none,none,rfl⟩ ?_ ?_
 .rintro i dd env R hd ⟨o,a,b,c,d,e,f,g,h,rfl⟩ hR;obtain⟨hi,rfl⟩:=cY hd;refine⟨_,rfl,?_⟩;have ta:=Z5K (C:=C) (ns:=ns) (k:=(i:Int) + 2) (by omega);obtain⟨n,n0,n1,en⟩:=uY (C:=C) (c:=nth ns ((i:Int) + 2)) (k:=(i:Int)) (M9 hbits (by omega)) (by omega) (by omega);refine jN (d:=.int n) (aK (xs:=[.int (nth ns ((i:Int) + 2)),.int (i:Int)]) (aQ (aK (xs:=[LI ns,.int ((i:Int) + 2)]) rfl ta) rfl) en) ?_;have hFL:0 < (FS.length:Int):=by omega
  have y0:=QaL n (show (FS.length:Int) ≠ 0 by omega);have y1:=QaC n hFL
  let S6:Slot:=some (false,.int (i:Int))
  let S7:Slot:=some (true,.int n)
  let E2:En:=[S0,S1,S2,S3,some (o,.lst (FS.map (fX ins rows outs))),S5,S6,S7,c,d,e,f,g,h]
  obtain⟨j1,hj1,hx1⟩:∃ j1:Nat,j1 < FS.length /\ fIx (gE (aC (fI2 (fun _ j=>0 < j) (fun i j=>.int (i % j)) (aA 7) (fB1 bK (aC (aA 4) aH))) (aC (fC (.int 0)) aH))) (fB1 G7 (aC (hZ (fEq (aA 6) (fC (.int 0)))) aH)) E2=some (.int (j1:Int)):=by
   have y2:fB1 bK (aC (aA 4) aH) E2=some (.int (FS.length:Int)):=kD (xs:=[.lst (FS.map (fX ins rows outs))]) rfl (by simp only [bK,Qaa]);have y3:fI2 (fun _ j=>0 < j) (fun i j=>.int (i % j)) (aA 7) (fB1 bK (aC (aA 4) aH)) E2=some (.int (n % (FS.length:Int))):=oM (C:=fun _ j=>0 < j) (i:=n) rfl y2 hFL;have y4:gE (aC (fI2 (fun _ j=>0 < j) (fun i j=>.int (i % j)) (aA 7) (fB1 bK (aC (aA 4) aH))) (aC (fC (.int 0)) aH)) E2=some (.lst [.int (n % (FS.length:Int)),.int 0]):=by
    rw [ev_Lst,aQ y3 rfl];rfl
   have y5:fB1 G7 (aC (hZ (fEq (aA 6) (fC (.int 0)))) aH) E2=some (.int (if (i:Int)=0 then 1 else 0)):=by
    refine kD (xs:=[.bl (decide ((i:Int)=0))]) (aQ ?_ rfl) ?_
    .show hZ (fEq (aA 6) (fC (.int 0))) E2=_;simp only [ev_OfB,ev_Eq,ev_var,ev_C,Qaj,Qap,E2,S6,Qaq,Option.map_some,eqN_int]
    .by_cases hz:(i:Int)=0
     .rw [Rz hz,if_pos hz];rfl
     .rw [Ry hz,if_neg hz];rfl
   rw [ev_Ix,y4,y5];by_cases hz:(i:Int)=0
   .rw [if_pos hz];exact⟨0,hFp,rfl⟩
   .rw [if_neg hz];refine⟨(n % (FS.length:Int)).toNat,by omega,?_⟩;rw [QbI y0];rfl
  obtain⟨f1,hf1,ef1⟩:=hget j1 hj1;have eu1:fIx (aA 4) (fIx (gE (aC (fI2 (fun _ j=>0 < j) (fun i j=>.int (i % j)) (aA 7) (fB1 bK (aC (aA 4) aH))) (aC (fC (.int 0)) aH))) (fB1 G7 (aC (hZ (fEq (aA 6) (fC (.int 0)))) aH))) E2=some (fX ins rows outs f1):=by
   rw [ev_Ix,hx1];exact ef1
  refine Z7G eu1 rfl ?_
  let T4:Slot:=some (false,.lst (FS.map (fX ins rows outs)))
  let S8:Slot:=some (false,f1.d)
  let S9:Slot:=some (false,LI (dB ins rows outs f1))
  refine (show Wp (aR _ _ [S0,S1,S2,S3,T4,S5,S6,S7,S8,S9,e,f,g,h]) R from ?_)
  refine jN (d:=LL (W.map (cN (aL ins rows f1) outs))) (aK (xs:=[LI (dB ins rows outs f1),LI W]) rfl (LN f1)) ?_
  let S10:Slot:=some (true,LL (W.map (cN (aL ins rows f1) outs)))
  refine (show Wp (aR _ _ [S0,S1,S2,S3,T4,S5,S6,S7,S8,S9,S10,f,g,h]) R from ?_)
  refine wNo (mS (xs:=[LL (W.map (cN (aL ins rows f1) outs)),LL (W.map (cN (aL ins rows f1) outs))]) (aQ (aK (xs:=[aX C ins rows outs,LI W,f1.d]) rfl (AN f1 (fo f1 hf1))) rfl) (LL1 f1)) ?_;have e11:bL [9] (cM (aA 4)) (un2 (fEq (aA 1) (aA 2))) (un2 (aY (aA 0))) [S0,S1,S2,S3,T4,S5,S6,S7,S8,S9,S10,f,g,h]=some (.lst ((F5 ins rows outs f1).map Flt.d)):=by
   rw [hdue];refine fV (fX ins rows outs) Flt.d (fun f=>decide (dB ins rows outs f=dB ins rows outs f1)) (by rfl) hFl ?_ ?_
   .intro f _;unfold fX;rw [rR];show fEq (aA 1) (aA 2) [some (false,f.d),some (false,LI (dB ins rows outs f)),S9]=_;simp only [ev_Eq,ev_var,Qaj,Qap,S9,Qaq,Option.map_some];exact rE (n:=6)
   .intro f _ _;have:=jK f;unfold fX;rw [rR];simp only [ev_Flat,ev_var,Qaj,Qaq,Option.map_some,this,RC]
  refine jN e11 ?_
  let S11:Slot:=some (true,.lst ((F5 ins rows outs f1).map Flt.d))
  refine (show Wp (aR _ _ [S0,S1,S2,S3,T4,S5,S6,S7,S8,S9,S10,S11,g,h]) R from ?_)
  have nm:=NM (W.map (cN (aL ins rows f1) outs));rw [ND f1 hf1] at nm;refine wNo (mS (xs:=[.lst ((F5 ins rows outs f1).map Flt.d),.lst ((F5 ins rows outs f1).map Flt.d)]) (aQ (aK (xs:=[aX C ins rows outs,LI W,LL (W.map (cN (aL ins rows f1) outs))]) rfl nm) rfl) (Z3Q (dul f1))) ?_;have w0:=QaL (n / 512) (show (FS.length:Int) ≠ 0 by omega);have w1:=QaC (n / 512) hFL;obtain⟨f2,hf2,ef2⟩:=hget (n / 512 % (FS.length:Int)).toNat (by omega);rw [QbI w0] at ef2
  let E3:En:=[S0,S1,S2,S3,T4,S5,S6,S7,S8,S9,S10,S11,g,h]
  have eu2:fIx (aA 4) (fI2 (fun _ j=>0 < j) (fun i j=>.int (i % j)) (fI2 dM (fun i j=>.int (i / j)) (aA 7) (fC (.int 512))) (fB1 bK (aC (aA 4) aH))) E3=some (fX ins rows outs f2):=by
   have y2:fB1 bK (aC (aA 4) aH) E3=some (.int (FS.length:Int)):=kD (xs:=[.lst (FS.map (fX ins rows outs))]) rfl (by simp only [bK,Qaa]);have d512:dM n 512:=⟨by decide,by decide⟩;have y3:fI2 dM (fun i j=>.int (i / j)) (aA 7) (fC (.int 512)) E3=some (.int (n / 512)):=oM (C:=dM) rfl rfl d512;have y4:fI2 (fun _ j=>0 < j) (fun i j=>.int (i % j)) (fI2 dM (fun i j=>.int (i / j)) (aA 7) (fC (.int 512))) (fB1 bK (aC (aA 4) aH)) E3=some (.int (n / 512 % (FS.length:Int))):=oM (C:=fun _ j=>0 < j) y3 y2 hFL;rw [ev_Ix,y4];exact ef2
  refine Z7G eu2 rfl ?_
  let S12:Slot:=some (false,f2.d)
  let S13:Slot:=some (false,LI (dB ins rows outs f2))
  refine (show Wp (rIf _ _ _ [S0,S1,S2,S3,T4,S5,S6,S7,S8,S9,S10,S11,S12,S13]) R from ?_)
  refine yJ (mS (xs:=[aX C ins rows outs,f1.d,f2.d,LI (dB ins rows outs f1),LI (dB ins rows outs f2)]) rfl (LP f1 f2 (fo f1 hf1) (fo f2 hf2))) ?_;exact hR _ ⟨false,_,_,_,_,_,_,_,_,rfl⟩
 .rintro env ⟨o,a,b,c,d,e,f,g,h,rfl⟩;exact Z7I (d:=.bl true) rfl rfl
theorem us0 {Z:Ab Ad->Prop}(h:Z []) (us:Ab Ad) (hl:us.length=0):Z us:=by rw [Qa9 hl];exact h
theorem usS {Z:Ab Ad->Prop}{n:Nat}(h:∀ (a:Ad) (t:Ab Ad),t.length=n->Z (a :: t)) (us:Ab Ad) (hl:us.length=n + 1):Z us:=by
 cases us with
 | nil=>exact absurd hl (by simp)
 | cons a t=>exact h a t (Nat.succ.inj hl)
theorem us1 {Z:Ab Ad->Prop}(h:∀ a0:Ad,Z [a0]) (us:Ab Ad) (hl:us.length=1):Z us:=usS (n:=0) (fun a=>us0 (Z:=fun t=>Z (a :: t)) (h a)) us hl
theorem us2 {Z:Ab Ad->Prop}(h:∀ a0 a1:Ad,Z [a0,a1]) (us:Ab Ad) (hl:us.length=2):Z us:=usS (n:=1) (fun a=>us1 (Z:=fun t=>Z (a :: t)) (h a)) us hl
theorem us3 {Z:Ab Ad->Prop}(h:∀ a0 a1 a2:Ad,Z [a0,a1,a2]) (us:Ab Ad) (hl:us.length=3):Z us:=usS (n:=2) (fun a=>us2 (Z:=fun t=>Z (a :: t)) (h a)) us hl
theorem us4 {Z:Ab Ad->Prop}(h:∀ a0 a1 a2 a3:Ad,Z [a0,a1,a2,a3]) (us:Ab Ad) (hl:us.length=4):Z us:=usS (n:=3) (fun a=>us3 (Z:=fun t=>Z (a :: t)) (h a)) us hl
theorem us5 {Z:Ab Ad->Prop}(h:∀ a0 a1 a2 a3 a4:Ad,Z [a0,a1,a2,a3,a4]) (us:Ab Ad) (hl:us.length=5):Z us:=usS (n:=4) (fun a=>us4 (Z:=fun t=>Z (a :: t)) (h a)) us hl
theorem us6 {Z:Ab Ad->Prop}(h:∀ a0 a1 a2 a3 a4 a5:Ad,Z [a0,a1,a2,a3,a4,a5]) (us:Ab Ad) (hl:us.length=6):Z us:=usS (n:=5) (fun a=>us5 (Z:=fun t=>Z (a :: t)) (h a)) us hl
theorem Z6O {K:Frag}{H:Hp}:Reps K false H [] [] []:=by simp only [Reps];exact⟨trivial,trivial⟩
theorem head_mk {l:PySem.W.OpenLaw}{w:Ak}{K:Frag}{h:Ah}{mg:Str->Aa Ad}{fa:Af}(X:K.In h) (G:h.Ns mainGlobals mg) (hfa:mg "law" = some (.ref fa))
  (aC_Circuit:nsIn K mainGlobals "Circuit" = some (some (.ref Ck)))
  (a0:PySem.W.findIn K (.ref Ck) "__init__" = some (some (.ref f0)))
  (l0:K.lookup f0=some ⟨oc0,od0,.func (fnOf "__init__" "Circuit.__init__" (cF cI) (bS cI) (aI cI) .none kV0 dc0 pm0 an0 cd0 ct0),sl0⟩)
  (c0:codeIn K cd0 "Circuit.__init__" = true)
  (k0:keepIn K (.ref f0)=true)
  (i0:PySem.W.isFn K (.ref f0)=true)
  (pg_Circuit:PySem.W.plainGet K Ck Str.empty=true)
  (hd_Circuit:PySem.W.hasDictIn K Ck=true)
  (po_Circuit:PySem.W.plainOver K Ck=true)
  (sa_Circuit:PySem.W.findIn K (.ref Ck) "__setattr__" = some (some (.builtin "object.__setattr__")))
  (mk_Circuit:PySem.W.makesIn K Ck=true)
  (kc_Circuit:keepIn K (.ref Ck)=true)
  (nA_ins:PySem.W.findIn K (.ref Ck) "ins" = some none)
  (nA_rows:PySem.W.findIn K (.ref Ck) "rows" = some none)
  (nA_outs:PySem.W.findIn K (.ref Ck) "outs" = some none)
  (h1:HD K "gate_value" lE f1)
  (h2:HD K "leg_wires" mI f2)
  (h3:HD K "leg_values" lD f3)
  (h4:HD K "on_wire" rV f4)
  (h5:HD K "borne" B7 f5)
  (h6:HD K "full_table" lF f6)
  (h7:HD K "input_tables" jD f7)
  (a8:nsIn K mainGlobals "tables" = some (some (.ref f8)))
  (l8:K.lookup f8=some ⟨oc8,od8,.func (fnOf "tables" "tables" (cF fI) (bS fI) (aI fI) (.ref T8) kV8 dc8 pm8 an8 cd8 ct8),sl8⟩)
  (c8:codeIn K cd8 "tables" = true)
  (k8:keepIn K (.ref f8)=true)
  (d8:K.lookup T8=some ⟨ocT8,odT8,.seq #[.none] nT8,slT8⟩)
  (h9:HD K "at_outs" sH f9)
  (a10:nsIn K mainGlobals "out_tables" = some (some (.ref f10)))
  (l10:K.lookup f10=some ⟨oc10,od10,.func (fnOf "out_tables" "out_tables" (cF cA) (bS cA) (aI cA) (.ref T10) kV10 dc10 pm10 an10 cd10 ct10),sl10⟩)
  (c10:codeIn K cd10 "out_tables" = true)
  (k10:keepIn K (.ref f10)=true)
  (d10:K.lookup T10=some ⟨ocT10,odT10,.seq #[.none] nT10,slT10⟩)
  (h11:HD K "sources_of" lC f11)
  (h12:HD K "needed" vP f12)
  (h13:HD K "bits_to_stick" iM f13)
  (h14:HD K "all_faults" lG f14)
  (h15:HD K "differing" mN f15)
  (h16:HD K "tellings" oU f16)
  (h17:HD K "least_given" jY f17)
  (h18:HD K "givens_in" mM f18)
  (h19:HD K "side_by_side" jB f19)
  (h20:HD K "parts_all" mH f20)
  (h21:HD K "thin" U8 f21)
  (h22:HD K "bits_at" sG f22)
  (a23:nsIn K mainGlobals "answers" = some (some (.ref f23)))
  (l23:K.lookup f23=some ⟨oc23,od23,.func (fnOf "answers" "answers" (cF dZ) (bS dZ) (aI dZ) (.ref T23) kV23 dc23 pm23 an23 cd23 ct23),sl23⟩)
  (c23:codeIn K cd23 "answers" = true)
  (k23:keepIn K (.ref f23)=true)
  (d23:K.lookup T23=some ⟨ocT23,odT23,.seq #[.none] nT23,slT23⟩)
  (h24:HD K "good_and_faults" gQ f24)
  (h25:HD K "named" B4 f25)
  (h26:HD K "parting" rT f26)
  (h27:HD K "pages_of" oV f27)
  (a28:nsIn K mainGlobals "widened" = some (some (.ref f28)))
  (l28:K.lookup f28=some ⟨oc28,od28,.func (fnOf "widened" "widened" (cF dN) (bS dN) (aI dN) .none kV28 dc28 pm28 an28 (.ref cA_lam) ct28),sl28⟩)
  (c28:codeIn K (.ref cA_lam) "widened" = true)
  (k28:keepIn K (.ref f28)=true)
  (T_lam:PySem.W.codeHdIn K cA_lam P0=true)
  (h29:HD K "idle" V0 f29)
  (h30:HD K "_law_whole" rX f30)
  (h31:HD K "_law_at" U9 f31)
  (h32:HD K "_law_mixed" rZ f32)
  (h33:HD K "_law_folds" sC f33)
  (h34:HD K "_law_rows" vS f34)
  (h35:HD K "_law_outs" vT f35)
  (h36:HD K "_law_input" sB f36)
  (h37:HD K "_law_drawn" sE f37)
  (h38:HD K "_law_leg" B6 f38)
  (h39:HD K "_law_row_table" jZ f39)
  (h40:HD K "_law_wires" rW f40)
  (h41:HD K "_law_out_tables" jC f41)
  (h42:HD K "_law_own" B5 f42)
  (h43:HD K "_law_bits_of" mK f43)
  (h44:HD K "_law_faults" oX f44)
  (h45:HD K "_law_answer" oY f45)
  (h46:HD K "_law_answers" mL f46)
  (h47:HD K "_law_list" vU f47)
  (h48:HD K "_law_lists" sA f48)
  (h49:HD K "_law_fault" sD f49)
  (h50:HD K "_law_same" vR f50)
  (h51:HD K "_law_rising" oW f51)
  (h52:HD K "_law_tests" rY f52)
  (h53:HD K "_law_parting" mJ f53)
  (a54:nsIn K mainGlobals "law" = some (some (.ref f54)))
  (l54:K.lookup f54=some ⟨oc54,od54,.func (fnOf "law" "law" (cF mB) (bS mB) (aI mB) .none kV54 dc54 pm54 an54 cd54 ct54),sl54⟩)
  (c54:codeIn K cd54 "law" = true)
  (k54:keepIn K (.ref f54)=true)
  (y_bool:nsIn K mainGlobals "bool" = some none)
  (y_enumerate:nsIn K mainGlobals "enumerate" = some none)
  (y_int:nsIn K mainGlobals "int" = some none)
  (y_isinstance:nsIn K mainGlobals "isinstance" = some none)
  (y_len:nsIn K mainGlobals "len" = some none)
  (y_list:nsIn K mainGlobals "list" = some none)
  (y_max:nsIn K mainGlobals "max" = some none)
  (y_min:nsIn K mainGlobals "min" = some none)
  (y_range:nsIn K mainGlobals "range" = some none)
  (y_reversed:nsIn K mainGlobals "reversed" = some none)
  (y_set:nsIn K mainGlobals "set" = some none)
  (y_sorted:nsIn K mainGlobals "sorted" = some none)
  (y_str:nsIn K mainGlobals "str" = some none)
  (y_tuple:nsIn K mainGlobals "tuple" = some none)
  (y_zip:nsIn K mainGlobals "zip" = some none) :
  ∃ (fd:FuncData) (m:Ab D->Aa D),(∀ (s:Ac) (u:Ad),BindsTo s fd ⟨[u],[]⟩ [("_law_script",u)]) /\ (∀ ns:Ab Int,ns.length <= 63->(∀ i ∈ ns,Builtin.Int.intBits i <= 1048576)->m [.lst (ns.map D.int)]=some (.bl true)) /\
   ∀ base:Ah,K.In base->base.Ns mainGlobals mg->base.BuiltinsAt mg P0->bR l.prog w K mg base CX0 8 fa fd ["_law_script"] (spT K P0 (lamPos l_lam,q_lam) 1 m):=by
 have e:=hfa.symm.trans (mg_of X G a54);cases e;have z_bool:=QaP X G y_bool;have z_enumerate:=QaP X G y_enumerate;have z_int:=QaP X G y_int;have z_isinstance:=QaP X G y_isinstance;have z_len:=QaP X G y_len;have z_list:=QaP X G y_list;have z_max:=QaP X G y_max;have z_min:=QaP X G y_min;have z_range:=QaP X G y_range;have z_reversed:=QaP X G y_reversed;have z_set:=QaP X G y_set;have z_sorted:=QaP X G y_sorted;have z_str:=QaP X G y_str;have z_tuple:=QaP X G y_tuple;have z_zip:=QaP X G y_zip;have hC_Circuit:Cls K Ck:=⟨pg_Circuit,hd_Circuit,po_Circuit,sa_Circuit⟩;have F0:=lV (st:=cI) l0 c0 k0;have b0:Binds K _ ["self","ins","rows","outs"] []:=.all (fd:=fnOf "__init__" "Circuit.__init__" (cF cI) (bS cI) (aI cI) .none kV0 dc0 pm0 an0 cd0 ct0) (us4 fun _ _ _ _=>rfl);have F8:=lV (st:=fI) l8 c8 k8;have b8:Binds K (fnOf "tables" "tables" (cF fI) (bS fI) (aI fI) (.ref T8) kV8 dc8 pm8 an8 cd8 ct8) ["circuit","fault"] []:=fun s us ks hl=>match us,hl with | [_,_],_=>.of_defaults rfl (ks _ _ d8) rfl rfl rfl
 have bd8:Binds K (fnOf "tables" "tables" (cF fI) (bS fI) (aI fI) (.ref T8) kV8 dc8 pm8 an8 cd8 ct8) ["circuit","fault"] [.none]:=fun s us ks hl=>(match us,(show us.length=1 by simpa using hl) with | [_],_=>.of_defaults rfl (ks _ _ d8) rfl rfl rfl)
 have F10:=lV (st:=cA) l10 c10 k10;have b10:Binds K (fnOf "out_tables" "out_tables" (cF cA) (bS cA) (aI cA) (.ref T10) kV10 dc10 pm10 an10 cd10 ct10) ["circuit","fault"] []:=fun s us ks hl=>match us,hl with | [_,_],_=>.of_defaults rfl (ks _ _ d10) rfl rfl rfl
 have bd10:Binds K (fnOf "out_tables" "out_tables" (cF cA) (bS cA) (aI cA) (.ref T10) kV10 dc10 pm10 an10 cd10 ct10) ["circuit","fault"] [.none]:=fun s us ks hl=>(match us,(show us.length=1 by simpa using hl) with | [_],_=>.of_defaults rfl (ks _ _ d10) rfl rfl rfl)
 have F23:=lV (st:=dZ) l23 c23 k23;have b23:Binds K (fnOf "answers" "answers" (cF dZ) (bS dZ) (aI dZ) (.ref T23) kV23 dc23 pm23 an23 cd23 ct23) ["circuit","tests","fault"] []:=fun s us ks hl=>match us,hl with | [_,_,_],_=>.of_defaults rfl (ks _ _ d23) rfl rfl rfl
 have bd23:Binds K (fnOf "answers" "answers" (cF dZ) (bS dZ) (aI dZ) (.ref T23) kV23 dc23 pm23 an23 cd23 ct23) ["circuit","tests","fault"] [.none]:=fun s us ks hl=>(match us,(show us.length=2 by simpa using hl) with | [_,_],_=>.of_defaults rfl (ks _ _ d23) rfl rfl rfl)
 have F28:=lV (st:=dN) l28 c28 k28;have b28:Binds K (fnOf "widened" "widened" (cF dN) (bS dN) (aI dN) .none kV28 dc28 pm28 an28 (.ref cA_lam) ct28) ["circuit","tests"] []:=.all (us2 fun _ _=>rfl);have F54:=lV (st:=mB) l54 c54 k54;have b54:Binds K (fnOf "law" "law" (cF mB) (bS mB) (aI mB) .none kV54 dc54 pm54 an54 cd54 ct54) ["_law_script"] []:=.all (us1 fun _=>rfl);refine⟨fnOf "law" "law" (cF mB) (bS mB) (aI mB) .none kV54 dc54 pm54 an54 cd54 ct54,Z3I Ck,fun s u=>.of_eq rfl,Z3N,fun base KB NB BB=>?_⟩;have Y:HX l.prog w K mg base:=⟨_,X,G⟩;have mk_Circuit:Z4y l.prog w K mg base "Circuit" Ck 1 3 (hG Ck):=⟨⟨f0,_,_,⟨mk_Circuit,a0,i0,kc_Circuit⟩,uP F0 z_list z_tuple hC_Circuit nA_ins nA_rows nA_outs,mg_of X G aC_Circuit,b0⟩⟩;have Cc1:=h1.c Y (fun _ F=>xX (C:=Ck) F) (fun _=>us3 fun _ _ _=>rfl);have Cc2:=h2.c Y (fun _ F=>C7 (C:=Ck) F z_list) (fun _=>us1 fun _=>rfl);have Cc3:=h3.c Y (fun _ F=>xW (C:=Ck) F Cc2) (fun _=>us5 fun _ _ _ _ _=>rfl);have Cc4:=h4.c Y (fun _ F=>W3 (C:=Ck) F) (fun _=>us4 fun _ _ _ _=>rfl);have Cc5:=h5.c Y (fun _ F=>Z3A (C:=Ck) F Cc1 Cc3 Cc4 z_len hC_Circuit nA_rows) (fun _=>us4 fun _ _ _ _=>rfl);have Cc6:=h6.c Y (fun _ F=>xY (C:=Ck) F) (fun _=>us1 fun _=>rfl);have Cc7:=h7.c Y (fun _ F=>uO (C:=Ck) F Cc6 z_range) (fun _=>us1 fun _=>rfl);have G8:bR l.prog w K mg base CX0 4 f8 _ _ (spD K 2 (jH Ck)):=Z1E (C:=Ck) F8 Cc5 Cc6 Cc7 hC_Circuit nA_ins;have Cc8:aM l.prog w K mg base "tables" [] 4 2 (jH Ck):=⟨⟨f8,_,_,[],[],G8,mg_of X G a8,k8,b8,.nil,fun _=>Z6O⟩⟩;have Cc_tables_d:aM l.prog w K mg base "tables" [.non] 4 2 (jH Ck):=⟨⟨f8,_,_,[.non],[.none],G8,mg_of X G a8,k8,bd8,.cons rfl .nil,fun H=>by simp only [Reps];exact⟨.non,[],[],[],rfl,rfl,pI,rfl,rfl⟩⟩⟩;have Cc9:=h9.c Y (fun _ F=>X4 (C:=Ck) F hC_Circuit nA_outs) (fun _=>us2 fun _ _=>rfl);have G10:bR l.prog w K mg base CX0 5 f10 _ _ (spD K 2 (bD Ck)):=xV (C:=Ck) F10 Cc9 Cc8;have Cc10:aM l.prog w K mg base "out_tables" [] 5 2 (bD Ck):=⟨⟨f10,_,_,[],[],G10,mg_of X G a10,k10,b10,.nil,fun _=>Z6O⟩⟩;have Cc_out_tables_d:aM l.prog w K mg base "out_tables" [.non] 5 2 (bD Ck):=⟨⟨f10,_,_,[.non],[.none],G10,mg_of X G a10,k10,bd10,.cons rfl .nil,fun H=>by simp only [Reps];exact⟨.non,[],[],[],rfl,rfl,pI,rfl,rfl⟩⟩⟩;have Cc11:=h11.c Y (fun _ F=>xU (C:=Ck) F Cc2 hC_Circuit nA_ins nA_rows) (fun _=>us2 fun _ _=>rfl);have Cc12:=h12.c Y (fun _ F=>Z1F (C:=Ck) F Cc11 z_len z_range z_sorted hC_Circuit nA_ins nA_outs nA_rows) (fun _=>us1 fun _=>rfl);have Cc13:=h13.c Y (fun _ F=>sO (C:=Ck) F hC_Circuit nA_ins nA_rows) (fun _=>us2 fun _ _=>rfl);have Cc14:=h14.c Y (fun _ F=>xZ (C:=Ck) F Cc13 Cc12 Cc11 z_enumerate) (fun _=>us1 fun _=>rfl);have Cc15:=h15.c Y (fun _ F=>D2 (C:=Ck) F z_zip) (fun _=>us2 fun _ _=>rfl);have Cc16:=h16.c Y (fun _ F=>L9 (C:=Ck) F Cc15 Cc_out_tables_d Cc10) (fun _=>us2 fun _ _=>rfl);have Cc17:=h17.c Y (fun _ F=>wG (C:=Ck) F) (fun _=>us1 fun _=>rfl);have Cc18:=h18.c Y (fun _ F=>D1 (C:=Ck) F z_range) (fun _=>us1 fun _=>rfl);have Cc19:=h19.c Y (fun _ F=>uM (C:=Ck) F hC_Circuit nA_ins) (fun _=>us2 fun _ _=>rfl);have Cc20:=h20.c Y (fun _ F=>C6 (C:=Ck) F Cc19 z_len z_set hC_Circuit nA_outs) (fun _=>us3 fun _ _ _=>rfl);have Cc21:=h21.l Y (fun _ F=>Z5p (C:=Ck) F Cc20) (fun _=>us3 fun _ _ _=>rfl) rfl;have Cc22:=h22.c Y (fun _ F=>X3 (C:=Ck) F) (fun _=>us2 fun _ _=>rfl);have G23:bR l.prog w K mg base CX0 6 f23 _ _ (spD K 3 (eU Ck)):=X5 (C:=Ck) F23 Cc22 Cc10;have Cc23:aM l.prog w K mg base "answers" [] 6 3 (eU Ck):=⟨⟨f23,_,_,[],[],G23,mg_of X G a23,k23,b23,.nil,fun _=>Z6O⟩⟩;have Cc_answers_d:aM l.prog w K mg base "answers" [.non] 6 3 (eU Ck):=⟨⟨f23,_,_,[.non],[.none],G23,mg_of X G a23,k23,bd23,.cons rfl .nil,fun H=>by simp only [Reps];exact⟨.non,[],[],[],rfl,rfl,pI,rfl,rfl⟩⟩⟩;have Cc24:=h24.c Y (fun _ F=>pG (C:=Ck) F Cc14) (fun _=>us1 fun _=>rfl);have Cc25:=h25.c Y (fun _ F=>Z3x (C:=Ck) F Cc23 Cc24) (fun _=>us3 fun _ _ _=>rfl);have Cc26:=h26.c Y (fun _ F=>W2 (C:=Ck) F Cc15 Cc17 Cc10) (fun _=>us3 fun _ _ _=>rfl);have Cc27:=h27.c Y (fun _ F=>M0 (C:=Ck) F Cc24 Cc10 Cc19 z_set z_sorted) (fun _=>us1 fun _=>rfl);have L_lam:LamIn (fnOf "widened" "widened" (cF dN) (bS dN) (aI dN) .none kV28 dc28 pm28 an28 (.ref cA_lam) ct28) base mg P0:=⟨⟨cA_lam,rfl,PySem.W.codeHd_of_K KB T_lam⟩,BB⟩;have Cc28:vA l.prog w K mg base "widened" P0 (lamPos l_lam,q_lam) 7 2 (kM Ck):=⟨⟨f28,_,_,W1 (C:=Ck) F28 Cc6 Cc18 Cc27 Cc21 L_lam hC_Circuit nA_ins,mg_of X G a28,k28,b28⟩⟩;have Cc29:=h29.c Y (fun _ F=>Z5r (C:=Ck) F Cc14 Cc16 z_zip) (fun _=>us1 fun _=>rfl);have Cc30:=h30.c Y (fun _ F=>W5 (C:=Ck) F z_bool z_int z_isinstance) (fun _=>us1 fun _=>rfl);have Cc31:=h31.c Y (fun _ F=>Z5q (C:=Ck) F z_len) (fun _=>us2 fun _ _=>rfl);have Cc32:=h32.c Y (fun _ F=>W7 (C:=Ck) F) (fun _=>us2 fun _ _=>rfl);have Cc33:=h33.c Y (fun _ F=>X0 (C:=Ck) F Cc32 z_len z_range) (fun _=>us2 fun _ _=>rfl);have Cc34:=h34.c Y (fun _ F=>Z1H (C:=Ck) F z_len z_max z_min) (fun _=>us2 fun _ _=>rfl);have Cc35:=h35.c Y (fun _ F=>Z1I (C:=Ck) F z_len z_range) (fun _=>us2 fun _ _=>rfl);have Cc36:=h36.c Y (fun _ F=>W9 (C:=Ck) F z_range) (fun _=>us2 fun _ _=>rfl);have Cc37:=h37.c Y (fun _ F=>X2 (C:=Ck) F Cc31 Cc33 Cc36 Cc35 Cc34 z_int z_len z_range) (fun _=>us1 fun _=>rfl);have Cc38:=h38.c Y (fun _ F=>Z3z (C:=Ck) F) (fun _=>us6 fun _ _ _ _ _ _=>rfl);have Cc39:=h39.c Y (fun _ F=>wH (C:=Ck) F Cc38) (fun _=>us5 fun _ _ _ _ _=>rfl);have Cc40:=h40.c Y (fun _ F=>W4 (C:=Ck) F Cc39 z_len z_range) (fun _=>us2 fun _ _=>rfl);have Cc41:=h41.c Y (fun _ F=>uN (C:=Ck) F Cc40) (fun _=>us2 fun _ _=>rfl);have Cc42:=h42.c Y (fun _ F=>Z3y (C:=Ck) F z_list) (fun _=>us2 fun _ _=>rfl);have Cc43:=h43.c Y (fun _ F=>C9 (C:=Ck) F) (fun _=>us2 fun _ _=>rfl);have Cc44:=h44.c Y (fun _ F=>M5 (C:=Ck) F Cc43 Cc42 z_len z_list z_range z_reversed) (fun _=>us1 fun _=>rfl);have Cc45:=h45.c Y (fun _ F=>M6 (C:=Ck) F) (fun _=>us2 fun _ _=>rfl);have Cc46:=h46.c Y (fun _ F=>D0 (C:=Ck) F Cc45) (fun _=>us2 fun _ _=>rfl);have Cc47:=h47.c Y (fun _ F=>Z1J (C:=Ck) F Cc30 z_isinstance z_len z_list z_range) (fun _=>us2 fun _ _=>rfl);have Cc48:=h48.c Y (fun _ F=>W8 (C:=Ck) F Cc47 z_isinstance z_len z_list z_range) (fun _=>us2 fun _ _=>rfl);have Cc49:=h49.c Y (fun _ F=>X1 (C:=Ck) F Cc30 z_isinstance z_len z_str z_tuple) (fun _=>us2 fun _ _=>rfl);have Cc50:=h50.c Y (fun _ F=>Z1G (C:=Ck) F Cc49 z_isinstance z_len z_list z_range) (fun _=>us2 fun _ _=>rfl);have Cc51:=h51.c Y (fun _ F=>M3 (C:=Ck) F Cc30 z_isinstance z_len z_list z_range) (fun _=>us2 fun _ _=>rfl);have Cc52:=h52.c Y (fun _ F=>W6 (C:=Ck) F Cc32 z_range) (fun _=>us2 fun _ _=>rfl);have Cc53:=h53.c Y (fun _ F=>C8 (C:=Ck) F Cc45 Cc30 Cc26) (fun _=>us5 fun _ _ _ _ _=>rfl);exact Z7e (C:=Ck) F54 Cc46 Cc31 Cc37 Cc44 Cc48 Cc32 Cc41 Cc53 Cc51 Cc50 Cc52 Cc23 Cc29 Cc25 Cc28 mk_Circuit z_int z_len z_list z_min z_range
end G
open PySem PySem.W PyProof.Rows
set_option maxRecDepth 100000 in
set_option maxHeartbeats 0 in
theorem PySem.Challenge.cw_stuckwire_k55_whole_book_holds : PySem.Challenge.rw_stuckwire_k55_whole_book.Holds := by
  w_on; o_law; k_head; (case hw => w_witness2)
  k_fill
  refine PD.walkT (c₀ := 192) (P₀ := 190) (pq := (PD.lamPos G.l_lam, G.q_lam)) (l := PySem.Challenge.rw_stuckwire_k55_whole_book) (n := 63) (k := 8) (x := "_law_script") rfl (by decide) rfl ⟨rfl, by decide, by decide⟩ (fun w h Y => PySem.W.km_in_of Y) (fun w h Y => (PySem.W.codeHd_of_K (PySem.W.km_in_of Y) (by kernel_rfl)).tab (PySem.W.km_tabs_of Y _ (by k_mem))) (fun w => by kernel_rfl) ?F
  case F =>
    intro w mg fa h KX GX hmg
    refine' G.head_mk KX GX hmg ?_ ?_ ?_ ?_ ?_ ?_ ?_ ?_ ?_ ?_ ?_ ?_ ?_ ?_ ?_ ?_ ?_ ?_ ?_ ?_ ?_ ?_ ?_ ?_ ?_ ?_ ?_ ?_ ?_ ?_ ?_ ?_ ?_ ?_ ?_ ?_ ?_ ?_ ?_ ?_ ?_ ?_ ?_ ?_ ?_ ?_ ?_ ?_ ?_ ?_ ?_ ?_ ?_ ?_ ?_ ?_ ?_ ?_ ?_ ?_ ?_ ?_ ?_ ?_ ?_ ?_ ?_ ?_ ?_ ?_ ?_ ?_ ?_ ?_ ?_ ?_ ?_ ?_ ?_ ?_ ?_ ?_ ?_ ?_ ?_ ?_ ?_ ?_ ?_ ?_ ?_ ?_ ?_ ?_ ?_ ?_ ?_ ?_ ?_ ?_ ?_ ?_ ?_
    any_goals k_is
    any_goals (apply PD.HD.mk <;> k_is)
    all_goals first | (kernel_rfl)
