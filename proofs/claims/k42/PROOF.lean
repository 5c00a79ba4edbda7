import PyProof.Rows.All
import Wide.All
import OpenK.AllK
import Wide.FinOn
import Lean
import PyProof.EqAt
import PyProof.EqKinds
import PyProof.TupleCall
import KE.KRevIter
import PyProof.ListRange
import PyProof.ZipIter
import PyProof.Rows.ZipGen
import KE.KDictSum
import KE.KRevSl
import PyProof.DictWalks
import PyProof.DictIter
import KE.KDictLaws
import PyProof.StrReplace2
import PyProof.CallStr
import KE.KNestM
import KE.KLam
import KE.KMinKey
import PyProof.RaisesMany
import PyProof.ExcClass3
import PyProof.RulesTry
import PyProof.StationsW
import PyProof.RulesAs
import KE.KIsAll
import PyProof.ExcBaseAll.ValueError
import PySem.Challenge.RW_stuckwire_k42_whole_shortest_rows
set_option maxHeartbeats 0
open PySem.W (Frag fnOf keepIn codeIn nsIn mg_of)
set_option Elab.async false
set_option linter.all false
set_option maxRecDepth 100000
set_option bootstrap.genMatcherCode false
set_option compiler.extract_closed false
set_option genSizeOfSpec false
theorem PySem.W.Fast.te8903061121083804796 : True := trivial
namespace PySem.W.Fast
theorem tw16804588099296801704:True:=trivial
theorem tw8627941517364383792:True:=trivial
theorem tw10119485958638794497:True:=trivial
theorem tw11991699794554552732:True:=trivial
theorem tw15969369865349896256:True:=trivial
theorem tw7675304060569762889:True:=trivial
theorem tw5463214682323470248:True:=trivial
theorem tw13558128715912234504:True:=trivial
theorem tw5610584794371263160:True:=trivial
theorem tw15355855998636358339:True:=trivial
theorem tw15494720077289667306:True:=trivial
theorem tw18267793070804122618:True:=trivial
theorem tw5136365708897761404:True:=trivial
theorem tw2171931162919823877:True:=trivial
theorem tw7704905583774299518:True:=trivial
theorem tw11824981449612061769:True:=trivial
theorem tw17772046693117194078:True:=trivial
theorem tw13977146437927010087:True:=trivial
theorem tw14754134325026526339:True:=trivial
theorem tw5636339447892175741:True:=trivial
theorem tw7438990341666174653:True:=trivial
theorem tw14064375071065759318:True:=trivial
theorem tw7237679537225592442:True:=trivial
theorem tw16715286429094655982:True:=trivial
theorem tw2050079514994967324:True:=trivial
theorem tw2040033462770282232:True:=trivial
theorem tw7423948824072354196:True:=trivial
theorem tw7113723430170833347:True:=trivial
theorem tw12453035718390307107:True:=trivial
theorem tw5032394619589782139:True:=trivial
theorem tw14809656638781380203:True:=trivial
theorem tw2147010021509625788:True:=trivial
theorem tw12499116690237070744:True:=trivial
theorem tw14711024128792850290:True:=trivial
theorem tw17679959777690695559:True:=trivial
theorem tw8831903496871230485:True:=trivial
theorem tw10722144018210491107:True:=trivial
theorem tw14502788345607361770:True:=trivial
theorem tw481467833251458935:True:=trivial
theorem tw6946299411429112448:True:=trivial
theorem tw2123029990899176641:True:=trivial
theorem tw9848020228648471287:True:=trivial
theorem tw86028546440450817:True:=trivial
theorem tw3675968308139590472:True:=trivial
theorem tw14063513581759308002:True:=trivial
theorem tw4034687676398683633:True:=trivial
theorem tw11909203772216637744:True:=trivial
theorem tw847835936470939023:True:=trivial
theorem tw7162669783942424039:True:=trivial
theorem tw9124301670437273080:True:=trivial
theorem tw3906986626480562957:True:=trivial
theorem tw4558748754826657049:True:=trivial
theorem tw9599204544096877349:True:=trivial
theorem tw3293149092712490951:True:=trivial
theorem tw1009909680109609647:True:=trivial
theorem tw5384976965095802348:True:=trivial
theorem tw3609952922746273457:True:=trivial
theorem tw7708352378573004785:True:=trivial
theorem tw3664677696836765148:True:=trivial
theorem tw6607967939874469312:True:=trivial
theorem tw7659199912414003616:True:=trivial
theorem tw4140638767097740707:True:=trivial
theorem tw5157938537323473554:True:=trivial
theorem tw447478245028831773:True:=trivial
theorem tw17437220839479973875:True:=trivial
theorem tw16283371924793518814:True:=trivial
theorem tw14612874487397915753:True:=trivial
theorem tw10419259294923252728:True:=trivial
theorem tw17301790595116766060:True:=trivial
theorem tw15779376565031610342:True:=trivial
theorem tw9614939259936519185:True:=trivial
theorem tw13194259019955248423:True:=trivial
theorem tw3402496655649262930:True:=trivial
theorem tw12745474003315186583:True:=trivial
theorem tw10150484901632314898:True:=trivial
theorem tw10532466992816152628:True:=trivial
theorem tw4774805006563932261:True:=trivial
theorem tw12216579800026023446:True:=trivial
theorem tw13822838802875583939:True:=trivial
theorem tw10788334340348383511:True:=trivial
theorem tw12865493001932424944:True:=trivial
theorem tw10490147359875048962:True:=trivial
theorem tw15323434984167750584:True:=trivial
theorem tw4997108799924669647:True:=trivial
theorem tw2936860193424553492:True:=trivial
theorem tw4064901667534177039:True:=trivial
theorem tw5961698403142073824:True:=trivial
theorem tw62230445800353629:True:=trivial
theorem tw13835719800037663633:True:=trivial
theorem tw15731485368220848561:True:=trivial
theorem tw32990100396808448:True:=trivial
theorem tw15527790556032853885:True:=trivial
theorem tw1319404693065633911:True:=trivial
theorem tw16687358469960599465:True:=trivial
theorem tw8666053132887955016:True:=trivial
theorem tw14977600510972693585:True:=trivial
end PySem.W.Fast
namespace L2
open PySem PySem.Spec PyProof.Rows
noncomputable abbrev Key:=Sum Int Str
noncomputable def rE:Key->Value->Bool
 | .inl k,v=>Value.isInt k v
 | .inr x,v=>Value.isStrOf x v
noncomputable def Z6q (w:World):Key->Int
 | .inl k=>hashInt k
 | .inr x=>hashStr w x
theorem cM:∀ {k:Key}{v:Value},rE k v=true->(∃ i t,k=Sum.inl i /\ v=Value.int i t) \/ (∃ x t,k=Sum.inr x /\ v=Value.str x t)
 | .inl i,v,h=>by
  obtain⟨t,e⟩:=Value.isInt_shape (k:=i) (v:=v) h;exact .inl ⟨i,t,rfl,e⟩
 | .inr x,v,h=>by
  obtain⟨t,e⟩:=Value.isStrOf_shape (x:=x) (v:=v) h;exact .inr ⟨x,t,rfl,e⟩
theorem Z0o (i:Int) (t:Tok):rE (.inl i) (.int i t)=true:=by simp [rE,Value.isInt]
theorem Z0n (x:Str) (t:Tok):rE (.inr x) (.str x t)=true:=by simp [rE,Value.isStrOf]
theorem Z4H (a b:Int):decide ((Sum.inl a:Key)=Sum.inl b)=(a == b):=by
 by_cases e:a=b
 .subst e;simp
 .have h:¬ (Sum.inl a:Key)=Sum.inl b:=fun q=>e (Sum.inl.inj q);rw [decide_eq_false h];exact (beq_eq_false_iff_ne.mpr e).symm
theorem Z4E (a b:Str):decide ((Sum.inr a:Key)=Sum.inr b)=decide (a=b):=by
 by_cases e:a=b
 .subst e;simp
 .have h:¬ (Sum.inr a:Key)=Sum.inr b:=fun q=>e (Sum.inr.inj q);rw [decide_eq_false h,decide_eq_false e]
theorem Z4G (a:Int) (b:Str):decide ((Sum.inl a:Key)=Sum.inr b)=false:=decide_eq_false (fun q=>nomatch q)
theorem Z4F (a:Str) (b:Int):decide ((Sum.inr a:Key)=Sum.inl b)=false:=decide_eq_false (fun q=>nomatch q)
noncomputable def dC (prog:Program) (w:World):PySem.KeyKind prog w Key where
 is:=rE
 hash:=Z6q w
 inj:=fun v a b ha hb=>by
  rcases cM ha with ⟨i,t,rfl,rfl⟩ | ⟨x,t,rfl,rfl⟩
  .rcases cM hb with ⟨j,u,rfl,e⟩ | ⟨y,u,rfl,e⟩
   .injection e with e1 _;rw [e1]
   .exact nomatch e
  .rcases cM hb with ⟨j,u,rfl,e⟩ | ⟨y,u,rfl,e⟩
   .exact nomatch e
   .injection e with e1 _;rw [e1]
 byValue := fun k v h => by
  rcases cM h with ⟨i,t,rfl,rfl⟩ | ⟨x,t,rfl,rfl⟩ <;> rfl
 pyHash:=fun hv h=>by
  rcases cM hv with ⟨i,t,rfl,rfl⟩ | ⟨x,t,rfl,rfl⟩
  .exact wpAny_pyHash_int h
  .exact wpAny_pyHash_str h
 eqBool:=fun hu hv h=>by
  rcases cM hu with ⟨i,t,rfl,rfl⟩ | ⟨x,t,rfl,rfl⟩
  .rcases cM hv with ⟨j,u,rfl,rfl⟩ | ⟨y,u,rfl,rfl⟩
   .rw [Z4H] at h;exact wpAny_eqBool_int h
   .rw [Z4G] at h;exact SeqAt.EqAt.int_str i t y u _ _ _ _ h
  .rcases cM hv with ⟨j,u,rfl,rfl⟩ | ⟨y,u,rfl,rfl⟩
   .rw [Z4F] at h;exact SeqAt.EqAt.str_int x t j u _ _ _ _ h
   .rw [Z4E] at h;exact wpAny_eqBool_str h
 «strs»:=fun k x t v h=>by
  rcases cM h with ⟨i,u,rfl,e⟩ | ⟨y,u,rfl,e⟩
  .exact nomatch e
  .injection e with e1 _;subst e1;cases v <;> rfl
theorem C8 (prog:Program) (w:World) (i:Int) (t:Tok):(dC prog w).is (.inl i) (.int i t)=true:=Z0o i t
theorem C7 (prog:Program) (w:World) (x:Str) (t:Tok):(dC prog w).is (.inr x) (.str x t)=true:=Z0n x t
inductive V where
 | non | bl (b:Bool) | int (i:Int) | str (x:Str) | byt (b:Array UInt8) | flt (b:UInt64) | ref (a:Addr) | ty (n:String)
 deriving DecidableEq
noncomputable def RelV:V->Value->Prop
 | .non,u=>u=Value.none
 | .bl b,u=>u=Value.bool b
 | .int i,u=>∃ t,u=Value.int i t
 | .str x,u=>∃ t,u=Value.str x t
 | .byt b,u=>∃ t,u=Value.bytes b t
 | .flt b,u=>∃ t,u=Value.float b t
 | .ref a,u=>u=Value.ref a
 | .ty n,u=>u=Value.type n
noncomputable abbrev Vals:List V->List Value->Prop:=Paired RelV
theorem Vals.length (r:Vals xs us):xs.length=us.length:=Paired.length r
theorem Vals.get:∀ {xs:List V}{us:List Value}{i:Nat}{x:V},Vals xs us->xs[i]? = some x->∃ u,us[i]? = some u /\ RelV x u
 | _,_,_,_,.nil,e=>by simp at e
 | _,_,0,_,.cons r _,e=>by simp at e;subst e;exact⟨_,rfl,r⟩
 | _,_,i + 1,x,.cons _ t,e=>by
  obtain⟨u,h1,h2⟩:=Vals.get (i:=i) (x:=x) t (by simpa using e);exact⟨u,by simpa using h1,h2⟩
theorem Vals.set (r:RelV x u):∀ {xs:List V}{us:List Value}(i:Nat),Vals xs us->Vals (xs.set i x) (us.set i u)
 | _,_,_,.nil=>.nil
 | _,_,0,.cons _ t=>.cons r t
 | _,_,i + 1,.cons q t=>.cons q (Vals.set r i t)
theorem Vals.append:∀ {xs ys:List V}{us ws:List Value},Vals xs us->Vals ys ws->Vals (xs ++ ys) (us ++ ws)
 | _,_,_,_,.nil,s=>s
 | _,_,_,_,.cons r t,s=>.cons r (Vals.append t s)
theorem Vals.take:∀ {xs:List V}{us:List Value}(n:Nat),Vals xs us->Vals (xs.take n) (us.take n)
 | _,_,0,_=>.nil
 | _,_,_ + 1,.nil=>.nil
 | _,_,n + 1,.cons r t=>.cons r (Vals.take n t)
theorem Vals.drop:∀ {xs:List V}{us:List Value}(n:Nat),Vals xs us->Vals (xs.drop n) (us.drop n)
 | _,_,0,r=>r
 | _,_,_ + 1,.nil=>.nil
 | _,_,n + 1,.cons _ t=>Vals.drop n t
noncomputable def RelO:Option V->Option Value->Prop
 | some v,some u=>RelV v u
 | none,none=>True
 | _,_=>False
noncomputable def KV {κ:Type}:List (κ × V)->List (κ × Value)->Prop:=Paired fun (p:κ × V) (q:κ × Value)=>p.1=q.1 /\ RelV p.2 q.2
noncomputable def kV:Key->V
 | .inl i=>.int i
 | .inr x=>.str x
inductive HO where
 /-- a list -/
 | lst (xs:List V)
 /-- a tuple (never changes) -/
 | tup (xs:List V)
 /-- a dict whose keys are ints and texts;one whose keys are tuples of ints and texts (the empty one is both) -/
 | dK (kvs:List (Key × V)) | dT (kvs:List (List Key × V))
 | dE (es:List (List Key × Addr × V)) (ep:Nat)
 | cod (q:Str)
 /-- a set of ints: its members,its size -/
 | set (S:Int->Bool) (n:Nat)
 /-- an instance of the class at C,its dict at dx,its attributes -/
 | ins (C dx:Addr) (fs:List (Str × V))
 /-- the dict of the instance at x -/
 | own (x:Addr)
 /-- the dict of an exception -/
 | xd (fs:List (Str × V))
 /-- a bound method,f of x -/
 | met (f x:Addr)
 /-- a range object lo,lo + 1,.. below hi -/
 | rng (lo hi:Int)
 /-- a thing that is known to the object (the script;a dict while a loop walks it): read,never written while it is so -/
 | frz (o:Obj) (u:HO)
 /-- a code object's table -/
 | tbl (ps:Array (Pos × Str))
 /-- any other thing,by what is true of its one object (a def of one's own: SetO a S n:=HO.ext fun h=>..) -/
 | ext (φ:Heap->Prop)
noncomputable abbrev Hp:=Addr->Option HO
noncomputable def upd (H:Hp) (a:Addr) (o:HO):Hp:=fun b=>if b=a then some o else H b
theorem aR:upd H a o a=some o:=by unfold upd;rw [if_pos rfl]
theorem aJ (h:b ≠ a):upd H a o b=H b:=by unfold upd;rw [if_neg h]
theorem Z5D {H:Hp}{a b:Addr}{o u:HO}(h:H a=some o) (h':H b=some u) (d:o ≠ u):a ≠ b:=by
 intro e;subst e;rw [h] at h';exact d (Option.some.inj h')
theorem aQ {H:Hp}{a b:Addr}{o:HO}(h:H a=some o) (h':H b=none):a ≠ b:=by
 intro e;subst e;rw [h] at h';cases h'
section
variable (P:Program) (w:World)
noncomputable def ObjOk (H:Hp) (h:Heap) (a:Addr):HO->Prop
 | .lst xs=>xs.length <= sizeLine /\ ∃ (its:List Value) (n:Nat),Vals xs its /\ h.get? a=some { cls:=.type "list",data:=.seq its.toArray n }
 | .tup xs=>xs.length <= sizeLine /\ ∃ its:List Value,Vals xs its /\ IsTup h a its.toArray
 | .dK kvs=>kvs.length <= sizeLine /\ (a == sysModules)=false /\ ∃ vs,KV kvs vs /\ h.DictOf (dC P w) a vs
 | .dT kvs=>kvs.length <= sizeLine /\ (a == sysModules)=false /\ ∃ xs:List (List Key × Addr × Value),
   Paired (fun (p:List Key × V) (q:List Key × Addr × Value)=>p.1=q.1 /\ H q.2.1=some (.tup (p.1.map kV)) /\ RelV p.2 q.2.2) kvs xs /\
   ∃ o es ep,h.get? a=some o /\ o.ExactDict /\ o.data=.dict es ep /\ es.toList=xs.map (entryOfKey (tupleKind (dC P w))) /\ (xs.map (·.1)).Nodup
 | .dE es ep=>es.length <= sizeLine /\ (a == sysModules)=false /\ ∃ xs:List (List Key × Addr × Value),Paired (fun (p:List Key × Addr × V) (q:List Key × Addr × Value)=>p.1=q.1 /\ p.2.1=q.2.1 /\ RelV p.2.2 q.2.2) es xs /\
   ∃ o es',h.get? a=some o /\ o.ExactDict /\ o.data=.dict es' ep /\ es'.toList=xs.map (entryOfKey (tupleKind (dC P w))) /\ (xs.map (·.1)).Nodup
 | .cod q=>h.CodeRec (.ref a) q
 | .set S n=>h.SetOf (intKind P w) a S n
 | .ins C dx fs=>H dx=some (.own a) /\ fs.length <= 1000 /\ dx ≠ a /\ h.get? a=some (PySem.W.instObj C dx) /\
   ∃ mA,h.Ns1 dx mA /\ (∀ f,RelO (fs.lookup f) (mA f)) /\ PySem.Within mA (fs.map (·.1))
 | .own _=>∃ o,h.get? a=some o
 | .xd fs=>∃ mA,h.Ns1 a mA /\ ∀ f,RelO (fs.lookup f) (mA f)
 | .rng lo hi=>∃ t u v,h.get? a=some { cls:=.type "range",data:=.fields #[.int lo t,.int hi u,.int 1 v] }
 | .frz o u=>h.get? a=some o /\ ObjOk H h a u
 | .tbl ps=>∃ pv:Array Value,h.get? a=some { cls:=.none,data:=.fields pv } /\ TriplesOk pv.toList /\ ∀ p,ps[0]? = some p->codeAmong p.1 pv.toList=none \/ ∃ c oc,codeAmong p.1 pv.toList=some (.ref c) /\ H c=some (.frz oc (.cod p.2))
 | .met f x=>h.get? a=some (PySem.W.methodObj (.ref f) (.ref x))
 | .ext φ=>φ h /\ (∃ o,h.get? a=some o) /\ ∀ h1 h2:Heap,φ h1->(∀ o,h1.get? a=some o->h2.get? a=some o)->φ h2
noncomputable def HOk (H:Hp) (h:Heap):Prop:=∀ a o,H a=some o->ObjOk P w H h a o
end
section
variable {P:Program}{w:World}{H H':Hp}{h h':Heap}{a:Addr}{o:HO}
theorem ObjOk.lt (x:ObjOk P w H h a o):a < h.objs.size:=by
 cases o with
 | lst xs=>obtain⟨_,_,_,_,e⟩:=x;exact Heap.lt_size e
 | tup xs=>obtain⟨_,_,_,p⟩:=x;exact p.lt
 | dK kvs=>obtain⟨_,_,_,_,o,_,_,e,_⟩:=x;exact Heap.lt_size e
 | dT kvs=>obtain⟨_,_,_,_,o,_,_,e,_⟩:=x;exact Heap.lt_size e
 | dE es ep=>obtain⟨_,_,_,_,o,_,e,_⟩:=x;exact Heap.lt_size e
 | cod q=>obtain⟨c,o,_,_,z,e,_⟩:=x;cases z;exact Heap.lt_size e
 | set S n=>obtain⟨o,_,_,_,e,_⟩:=x;exact Heap.lt_size e
 | ins C dx fs=>obtain⟨_,_,_,e,_⟩:=x;exact Heap.lt_size e
 | own y=>obtain⟨_,e⟩:=x;exact Heap.lt_size e
 | xd fs=>obtain⟨_,⟨_,_,_,e,_⟩,_⟩:=x;exact Heap.lt_size e
 | rng lo hi=>obtain⟨_,_,_,e⟩:=x;exact Heap.lt_size e
 | frz ob u=>obtain⟨e,_⟩:=x;exact Heap.lt_size e
 | tbl ps=>obtain⟨_,e,_⟩:=x;exact Heap.lt_size e
 | met f y=>exact Heap.lt_size (show h.get? a=some _ from x)
 | ext φ=>obtain⟨_,⟨_,e⟩,_⟩:=x;exact Heap.lt_size e
theorem Paired.mapP:∀ {l₁:List α}{l₂:List β},Paired F l₁ l₂->(∀ a b,F a b->G a b)->Paired G l₁ l₂
 | _,_,.nil,_=>.nil
 | _,_,.cons r t,f=>.cons (f _ _ r) (Paired.mapP t f)
theorem ObjOk.stay (x:ObjOk P w H h a o) (k:∀ b u,(b=a \/ H b=some (.own a))->h.get? b=some u->h'.get? b=some u)
  (ho:∀ b,H b=some (.own a)->H' b=some (.own a)) (ht:∀ b xs,H b=some (.tup xs)->H' b=some (.tup xs))
  (hcd:∀ b o q,H b=some (.frz o (.cod q))->H' b=some (.frz o (.cod q)):=by intro b o q r;first | exact r | (rw [aJ (aQ r (by assumption))];exact r) | (rw [aJ (fun z=>by subst z;simp_all [Mut])];exact r) | (rw [aJ (fun z=>by rw [z] at r;simp_all)];exact r)):ObjOk P w H' h' a o:=by
 induction o with
 | lst xs=>obtain⟨z,its,n,r,e⟩:=x;exact⟨z,its,n,r,k _ _ (.inl rfl) e⟩
 | tup xs=>obtain⟨z,its,r,ob,e,c⟩:=x;exact⟨z,its,r,ob,k _ _ (.inl rfl) e,c⟩
 | dK kvs=>obtain⟨z,y,vs,r,ob,es,ep,e,c⟩:=x;exact⟨z,y,vs,r,ob,es,ep,k _ _ (.inl rfl) e,c⟩
 | dT kvs =>
  obtain⟨z,y,xs,r,ob,es,ep,e,c⟩:=x;exact⟨z,y,xs,Paired.mapP r fun p q z=>⟨z.1,ht _ _ z.2.1,z.2.2⟩,ob,es,ep,k _ _ (.inl rfl) e,c⟩
 | dE es ep=>obtain⟨z,y,xs,r,ob,es,e,c⟩:=x;exact⟨z,y,xs,r,ob,es,k _ _ (.inl rfl) e,c⟩
 | cod q=>obtain⟨c,o,vs,t,z,e,r⟩:=x;cases z;exact⟨_,o,vs,t,rfl,k _ _ (.inl rfl) e,r⟩
 | set S n=>obtain⟨ob,es,ep,t,e,c⟩:=x;exact⟨ob,es,ep,t,k _ _ (.inl rfl) e,c⟩
 | ins C dx fs =>
  obtain⟨d,z,ne,e,mA,⟨od,es,ep,e2,c⟩,r⟩:=x;exact⟨ho _ d,z,ne,k _ _ (.inl rfl) e,mA,⟨od,es,ep,k _ _ (.inr d) e2,c⟩,r⟩
 | own y=>obtain⟨ob,e⟩:=x;exact⟨ob,k _ _ (.inl rfl) e⟩
 | xd fs=>obtain⟨mA,⟨od,es,ep,e,c⟩,r⟩:=x;exact⟨mA,⟨od,es,ep,k _ _ (.inl rfl) e,c⟩,r⟩
 | rng lo hi=>obtain⟨t,u,v,e⟩:=x;exact⟨t,u,v,k _ _ (.inl rfl) e⟩
 | frz ob u ih=>obtain⟨e,q⟩:=x;exact⟨k _ _ (.inl rfl) e,ih q⟩
 | tbl ps=>obtain⟨pv,e,t,c⟩:=x;exact⟨pv,k _ _ (.inl rfl) e,t,fun p hp=>(c p hp).imp id fun⟨c,oc,e1,e2⟩=>⟨c,oc,e1,hcd _ _ _ e2⟩⟩
 | met f y =>
  have e:h.get? a=some (PySem.W.methodObj (.ref f) (.ref y)):=x;show h'.get? a=some (PySem.W.methodObj (.ref f) (.ref y));exact k a _ (.inl rfl) e
 | ext φ=>obtain⟨p,⟨o,e⟩,st⟩:=x;exact⟨st _ _ p fun o q=>k _ _ (.inl rfl) q,⟨o,k _ _ (.inl rfl) e⟩,st⟩
theorem HOk.lt (x:HOk P w H h) (e:H a=some o):a < h.objs.size:=(x a o e).lt
theorem HOk.fresh (x:HOk P w H h) (e:h.objs.size <= a):H a=none:=by
 cases q:H a with
 | none=>rfl
 | some u=>exact absurd (Nat.lt_of_lt_of_le (x.lt q) e) (Nat.lt_irrefl _)
theorem HOk.kept (x:HOk P w H h) (k:∀ b u,h.get? b=some u->h'.get? b=some u):HOk P w H h':=fun a o e =>
 (x a o e).stay (fun b u _ q=>k b u q) (fun _ q=>q) fun _ _ q=>q
theorem HOk.laid (x:HOk P w H h) (k:∀ b u,h.get? b=some u->h'.get? b=some u) (hp:h.objs.size <= a) (new:ObjOk P w (upd H a o) h' a o):HOk P w (upd H a o) h':=fun b u e=>by
 have hn:=x.fresh hp;by_cases hb:b=a
 .subst hb;rw [aR] at e;cases e;exact new
 .rw [aJ hb] at e;exact (x b u e).stay (fun c v _ q=>k c v q) (fun c q=>by rw [aJ (aQ q hn)];exact q) fun c xs q=>by rw [aJ (aQ q hn)];exact q
end
noncomputable def Rd (H:Hp) (a:Addr) (u:HO):Prop:=H a=some u \/ ∃ o,H a=some (.frz o u)
theorem Rd.ok (r:Rd H a u) (x:HOk P w H h):ObjOk P w H h a u:=by
 rcases r with r | ⟨o,r⟩
 .exact x a u r
 .obtain⟨_,q⟩:=x a _ r;exact q
noncomputable def Mut:Option HO->Prop
 | some (.lst _)=>True
 | some (.dK _)=>True
 | some (.dT _)=>True
 | some (.dE _ _)=>True
 | some (.set _ _)=>True
 | some (.ins _ _ _)=>True
 | some (.ext _)=>True
 | _=>False
section
variable {P:Program}{w:World}{H:Hp}{h h':Heap}{x e:Addr}{o':HO}
theorem HOk.write (ok:HOk P w H h) (mu:Mut (H x)) (he:e=x \/ H e=some (.own x)) (k:∀ b u,b ≠ e->h.get? b=some u->h'.get? b=some u) (heo:∃ u,h'.get? e=some u)
  (new:ObjOk P w (upd H x o') h' x o'):HOk P w (upd H x o') h':=fun b u q=>by
 have nown:∀ c y,H c=some (.own y)->c ≠ x:=fun c y r z=>by subst z;rw [r] at mu;exact mu
 have ntup:∀ c xs,H c=some (.tup xs)->c ≠ x:=fun c xs r z=>by subst z;rw [r] at mu;exact mu
 by_cases hb:b=x
 .subst hb;rw [aR] at q;cases q;exact new
 .rw [aJ hb] at q;by_cases hbe:b=e
  .have q':H b=some (.own x):=by
    rcases he with z | z
    .exact absurd (hbe.trans z) hb
    .rw [hbe];exact z
   rw [q] at q';cases q';obtain⟨v,hv⟩:=heo;exact⟨v,by rw [hbe];exact hv⟩
  .refine (ok b u q).stay (fun c v hc r=>k c v ?_ r) (fun c r=>by rw [aJ (nown c b r)];exact r) fun c xs r=>by rw [aJ (ntup c xs r)];exact r
   rcases hc with rfl | hc
   .exact hbe
   .rintro rfl;rcases he with z | z
    .exact nown c b hc z
    .rw [hc] at z;cases z;exact hb rfl
end
structure Un (fs ex:List Addr) (H H':Hp) (h h':Heap):Prop where
 keep:∀ b o,h.get? b=some o->H b=none->b ∉ fs->b ∉ ex->h'.get? b=some o
 slot:∀ b o,h.get? b=some o->H b=none->b ∈ fs->b ∉ ex->∃ sl,h'.get? b=some { o with slots:=sl }
 free:∀ b o,h.get? b=some o->H b=none->b ∉ ex->H' b=none
 there:∀ b o,h.get? b=some o->b ∉ ex->∃ o',h'.get? b=some o'
 tups:∀ b xs,H b=some (.tup xs)->H' b=some (.tup xs)
 frzs:∀ b o u,H b=some (.frz o u)->H' b=some (.frz o u)
 tbls:∀ b ps,H b=some (.tbl ps)->∃ more,H' b=some (.tbl (ps ++ more))
section
variable {fs fs' ex ex':List Addr}{H H1 H2:Hp}{h h1 h2 h':Heap}{a x e:Addr}{o:HO}
theorem Un.any (u:Un fs ex H H1 h h1) {b:Addr}{ob:Obj}(q:h.get? b=some ob) (n:H b=none) (hx:b ∉ ex):∃ sl,h1.get? b=some { ob with slots:=sl }:=by
 by_cases hb:b ∈ fs
 .exact u.slot b ob q n hb hx
 .exact⟨ob.slots,u.keep b ob q n hb hx⟩
theorem Un.kept (k:∀ b u,h.get? b=some u->h'.get? b=some u):Un fs ex H H h h' :=
 ⟨fun b ob q _ _ _=>k b ob q,fun b ob q _ _ _=>⟨ob.slots,k b ob q⟩,fun _ _ _ n _=>n,fun b ob q _=>⟨ob,k b ob q⟩,fun _ _ q=>q,fun _ _ _ q=>q,fun _ ps q=>⟨#[],by rw [q];simp⟩⟩
theorem Un.refl:Un fs ex H H h h:=Un.kept fun _ _ q=>q
theorem Un.laid (k:∀ b u,h.get? b=some u->h'.get? b=some u) (hp:h.objs.size <= a) (hn:H a=none):Un fs ex H (upd H a o) h h' where
 keep:=fun b u q _ _ _=>k b u q
 slot:=fun b u q _ _ _=>⟨u.slots,k b u q⟩
 free:=fun b u q n _=>by rw [aJ (Nat.ne_of_lt (Nat.lt_of_lt_of_le (Heap.lt_size q) hp))];exact n
 there:=fun b u q _=>⟨u,k b u q⟩
 tups:=fun b xs q=>by rw [aJ (aQ q hn)];exact q
 frzs:=fun b u xs q=>by rw [aJ (aQ q hn)];exact q
 tbls:=fun b ps q=>⟨#[],by rw [aJ (aQ q hn),q];simp⟩
theorem Un.write (mu:Mut (H x)) (he:e=x \/ H e=some (.own x)) (k:∀ b u,b ≠ e->h.get? b=some u->h'.get? b=some u) (heo:∃ u,h'.get? e=some u):Un fs ex H (upd H x o) h h':=by
 have hx:∀ b,H b=none->b ≠ x:=fun b n z=>by subst z;rw [n] at mu;exact mu
 have hb:∀ b,H b=none->b ≠ e:=fun b n z=>by
  subst z;rcases he with r | r
  .exact hx b n r
  .rw [n] at r;cases r
 have hm:∀ b u,H b=some u -> ¬ Mut (some u)->b ≠ x:=fun b u q nm z=>by subst z;rw [q] at mu;exact nm mu
 refine⟨fun b u q n _ _=>k b u (hb b n) q,fun b u q n _ _=>⟨u.slots,k b u (hb b n) q⟩,fun b u q n _=>by rw [aJ (hx b n)];exact n,fun b u q _=>?_,
  fun b xs q=>by rw [aJ (hm b _ q fun z=>z)];exact q,fun b u xs q=>by rw [aJ (hm b _ q fun z=>z)];exact q,fun b ps q=>⟨#[],by rw [aJ (hm b _ q fun z=>z),q];simp⟩⟩
 by_cases hbe:b=e
 .subst hbe;exact heo
 .exact⟨u,k b u hbe q⟩
end
noncomputable def trk (h:Heap) (H:Hp):List Addr:=(List.range h.objs.size).filter fun a=>(H a).isSome
noncomputable def vG (h:Heap) (H:Hp):Heap:=PySem.W.hideAll h (trk h H)
theorem Z0r (h:Heap) (H:Hp):(vG h H).objs.size=h.objs.size:=PySem.W.hideAll_size _ _
theorem Z26 (e:h.get? b=some o) (n:H b=none):(vG h H).get? b=some o :=
 PySem.W.hideAll_get _ e fun hm=>by
  have q:(H b).isSome=true:=(List.mem_filter.mp hm).2;rw [n] at q;simp at q
theorem Z3f (e:(vG h H).get? b=some o):h.get? b=some o /\ H b=none:=by
 have e':h.get? b=some o:=PySem.W.of_hideAll (trk h H) e;refine⟨e',?_⟩;cases q:H b with
 | none=>rfl
 | some x =>
  have hm:b ∈ trk h H:=List.mem_filter.mpr ⟨List.mem_range.mpr (Heap.lt_size e'),by simp [q]⟩;have z:(vG h H).get? b=none:=PySem.W.hideAll_none (trk h H) hm;rw [z] at e;cases e
structure Mod (K:Frag) (mg:Str->Option Value) (base:Heap):Prop where
 kin:K.In base
 glob:base.Ns mainGlobals mg
 blt:∃ mb,base.Ns builtinsNs mb /\ ∀ x:Str,x ≠ "__name__" -> mb x=bootBuiltins x
 nolimit:base.NoLimit
structure Cx where
 prog:Program
 w:World
 K:Frag
 mg:Str->Option Value
 base:Heap
 A:Around
 N:List Str
 s₀:Shared
 H₀:Hp
 env:Env
 outer:List Env
 stack:List Env
 ex:List Addr
 fn:Str->Bool
 calm:Bool
 pn:List (Addr × Obj)
 xe:Value->Shared->Prop
noncomputable def frs (l:List Env):List Addr:=l.filterMap (·.frame)
noncomputable abbrev Cx.fs (X:Cx):List Addr:=frs X.outer
noncomputable def Vis (sc:Scope) (x:Str):Prop:=sc.names.lookup x=some .local \/ sc.names.lookup x=some .cell \/ sc.names.lookup x=some .free
noncomputable def Loc (sc:Scope) (x:Str):Prop:=sc.names.lookup x=some .local \/ sc.names.lookup x=some .cell
noncomputable def Z6y (env:Env) (h:Heap) (m:Str->Option Value) (x:Str) (u:Value):Prop :=
 (env.kindOf x=some .local /\ m x=some u) \/ ((env.kindOf x=some .cell \/ env.kindOf x=some .free) /\ ∃ c,env.cells.lookup x=some c /\ h.IsCell c (some u))
structure Cx.Ok (X:Cx):Prop where
 mod:Mod X.K X.mg X.base
 kind:X.env.scope.kind=.function
 glob:X.env.globals=mainGlobals
 blt:X.env.builtins=builtinsNs
 above:X.s₀.heap.objs.size <= X.env.locals
 inj:∀ x y c,X.env.cells.lookup x=some c->X.env.cells.lookup y=some c->x=y
 has:∀ x,(X.env.kindOf x=some .cell \/ X.env.kindOf x=some .free)->∃ c,X.env.cells.lookup x=some c
 cab:∀ x c,X.fn x=true->X.env.cells.lookup x=some c->X.s₀.heap.objs.size <= c
 hd:X.calm=true->X.A.handled=none
 frames:X.A.frames=some X.stack
 stk:X.stack=X.outer \/ (X.stack=X.env :: X.outer /\ X.env.frame=some X.env.locals)
 exf:∀ b ∈ X.ex,b ≠ X.env.locals /\ ∀ x c,X.env.cells.lookup x=some c->c ≠ b
 bs:∀ b o,X.base.get? b=some o->X.s₀.heap.get? b=some o /\ X.H₀ b=none
 bsz:X.base.objs.size <= X.s₀.heap.objs.size
 noex:∀ b o,X.base.get? b=some o->b ∉ X.ex
 exfs:∀ b ∈ X.ex,b ∉ X.fs
 funs:X.s₀.heap.FunFrames X.base X.outer
 frf:∀ b ∈ X.fs,X.H₀ b=none
structure Inv (X:Cx) (pins:List (Addr × Obj)) (σ:List (Option V)) (H:Hp) (s:Shared):Prop where
 ok:X.Ok
 os:s.os=X.s₀.os
 bare:AllBare s.gens
 base:Un X.fs X.ex X.H₀ H X.s₀.heap s.heap
 loc:∃ m,s.heap.Ns X.env.locals m /\ ∀ (i:Nat) (x:Str) (v:V),X.N[i]? = some x->σ[i]? = some (some v)->Vis X.env.scope x->∃ u,RelV v u /\ Z6y X.env s.heap m x u
 cell:∀ x c,X.env.cells.lookup x=some c->∃ v,s.heap.IsCell c v
 free:H X.env.locals=none
 freeC:∀ x c,X.env.cells.lookup x=some c->H c=none
 pin:∀ p ∈ X.pn ++ pins,s.heap.get? p.1=some p.2 /\ H p.1=none /\ p.1 ≠ X.env.locals /\ p.1 ∉ X.fs /\ ∀ v,p.2.data ≠ .cell v
 hok:HOk X.prog X.w H s.heap
 len:σ.length=X.N.length
section
variable {X:Cx}{pins:List (Addr × Obj)}{σ:List (Option V)}{H H':Hp}{s:Shared}{h':Heap}
theorem Cx.Ok.nofr (ok:X.Ok) {b:Addr}{o:Obj}(e:X.base.get? b=some o):b ∉ X.fs:=fun hb=>by
 have:=(ok.funs.mem hb).1;rw [e] at this;cases this
theorem Inv.bs (I:Inv X pins σ H s):∀ b o,X.base.get? b=some o->s.heap.get? b=some o /\ H b=none:=fun b o e =>
 ⟨I.base.keep b o (I.ok.bs b o e).1 (I.ok.bs b o e).2 (I.ok.nofr e) (I.ok.noex b o e),I.base.free b o (I.ok.bs b o e).1 (I.ok.bs b o e).2 (I.ok.noex b o e)⟩
theorem Inv.bk (I:Inv X pins σ H s):∀ b o,X.base.get? b=some o->s.heap.get? b=some o:=fun b o e=>(I.bs b o e).1
theorem Inv.mod (I:Inv X pins σ H s):Mod X.K X.mg X.base:=I.ok.mod
theorem Inv.kIn (I:Inv X pins σ H s):X.K.In s.heap:=I.ok.mod.kin.keeps I.bk
theorem Inv.lt (I:Inv X pins σ H s):X.env.locals < s.heap.objs.size:=let ⟨_,hn,_⟩:=I.loc;hn.lt
theorem Inv.sz (I:Inv X pins σ H s):X.s₀.heap.objs.size <= s.heap.objs.size:=Nat.le_trans I.ok.above (Nat.le_of_lt I.lt)
theorem Inv.nofs (I:Inv X pins σ H s) {a:Addr}(h:s.heap.objs.size <= a):a ∉ X.fs:=fun hb=>by
 obtain⟨_,o,ho,_⟩:=I.ok.funs.mem hb;exact absurd (Nat.lt_of_lt_of_le (Heap.lt_size ho) (Nat.le_trans I.sz h)) (Nat.lt_irrefl _)
theorem Inv.cne (I:Inv X pins σ H s):∀ x c,X.env.cells.lookup x=some c->c ≠ X.env.locals:=fun x c e z=>by
 obtain⟨v,o,ho,hd⟩:=I.cell x c e;obtain⟨m,⟨o',es,ep,ho',hd',_⟩,_⟩:=I.loc;rw [z,ho'] at ho;cases ho;rw [hd'] at hd;cases hd
theorem Inv.funs (I:Inv X pins σ H s):s.heap.FunFrames X.base X.outer:=by
 have all:∀ (l:List Env),(∀ b ∈ frs l,b ∈ X.fs)->X.s₀.heap.FunFrames X.base l->s.heap.FunFrames X.base l:=by
  intro l
  induction l with
  | nil=>intro _ _;trivial
  | cons env r ih =>
   intro hs hl;obtain⟨hk,⟨L,o,hf,hn,ho,hd⟩,hr⟩:=hl;have hL:L ∈ X.fs:=hs L (by unfold frs;rw [List.filterMap_cons,hf];exact List.mem_cons_self);obtain⟨sl,e⟩:=I.base.slot L o ho (I.ok.frf L hL) hL fun z=>I.ok.exfs L z hL;exact⟨hk,⟨L,_,hf,hn,e,hd⟩,ih (fun b hb=>hs b (by unfold frs;rw [List.filterMap_cons,hf];exact List.mem_cons_of_mem _ hb)) hr⟩
 exact all X.outer (fun _ hb=>hb) I.ok.funs
theorem Inv.stack (I:Inv X pins σ H s):s.heap.FunFrames X.base X.stack:=by
 rcases I.ok.stk with e | ⟨e,hf⟩
 .rw [e];exact I.funs
 .rw [e];obtain⟨m,hn,_⟩:=I.loc;refine .cons (by rw [I.ok.kind];decide) hf hn ?_ I.funs;exact Heap.get?_none_of_le (Nat.le_trans I.ok.bsz I.ok.above)
theorem Inv.stkSub (I:Inv X pins σ H s):∀ b ∈ frs X.stack,b ∈ X.env.locals :: X.fs:=fun b hb=>by
 rcases I.ok.stk with e | ⟨e,hf⟩
 .rw [e] at hb;exact List.mem_cons_of_mem _ hb
 .rw [e] at hb;unfold frs at hb;rw [List.filterMap_cons,hf] at hb;exact hb
theorem Inv.stkFree (I:Inv X pins σ H s):∀ b ∈ frs X.stack,H b=none:=fun b hb=>by
 rcases List.mem_cons.mp (I.stkSub b hb) with e | hb
 .rw [e];exact I.free
 .obtain⟨_,o,ho,_⟩:=I.ok.funs.mem hb;exact I.base.free b o ho (I.ok.frf b hb) fun z=>I.ok.exfs b z hb
theorem Inv.step {g':Array GenState}{t':Nat}{d':Drawn}{ch:List Addr}(I:Inv X pins σ H s)
  (hch:∀ b ∈ ch,(b ∈ X.ex \/ X.s₀.heap.objs.size <= b) /\ b ≠ X.env.locals /\ (∀ x c,X.env.cells.lookup x=some c->c ≠ b) /\ ∀ p ∈ X.pn ++ pins,p.1 ≠ b)
  (keep:∀ b o,b ≠ X.env.locals->b ∉ X.fs->b ∉ ch->s.heap.get? b=some o->H b=none->h'.get? b=some o)
  (slot:∀ b o,b ≠ X.env.locals->b ∈ X.fs->b ∉ ch->s.heap.get? b=some o->H b=none->∃ sl,h'.get? b=some { o with slots:=sl }) (free:∀ b o,b ∉ ch->s.heap.get? b=some o->H b=none->H' b=none)
  (there:∀ b o,b ∉ ch->s.heap.get? b=some o->∃ o',h'.get? b=some o')
  (tups:∀ b xs,H b=some (.tup xs)->H' b=some (.tup xs)) (frzs:∀ b o u,H b=some (.frz o u)->H' b=some (.frz o u)) (tbls:∀ b ps,H b=some (.tbl ps)->∃ more,H' b=some (.tbl (ps ++ more)))
  (ns:∀ m,s.heap.Ns X.env.locals m->h'.Ns X.env.locals m) (hok:HOk X.prog X.w H' h') (hg:AllBare g') :
  Inv X pins σ H' { s with heap:=h',gens:=g',drawn:=d',toks:=t' }:=by
 have neL:∀ b o,X.s₀.heap.get? b=some o->b ≠ X.env.locals:=fun b o e=>Nat.ne_of_lt (Nat.lt_of_lt_of_le (Heap.lt_size e) I.ok.above);have neC:∀ b o,X.s₀.heap.get? b=some o->b ∉ X.ex->b ∉ ch:=fun b o e hx hb=>by
  rcases (hch b hb).1 with z | z
  .exact hx z
  .exact absurd (Nat.lt_of_lt_of_le (Heap.lt_size e) z) (Nat.lt_irrefl _)
 have cellK:∀ x c,X.env.cells.lookup x=some c->∀ v,s.heap.IsCell c v->h'.IsCell c v:=fun x c e v ⟨o,ho,hd⟩=>by
  have nch:c ∉ ch:=fun z=>(hch c z).2.2.1 x c e rfl;by_cases hc:c ∈ X.fs
  .obtain⟨sl,q⟩:=slot c o (I.cne x c e) hc nch ho (I.freeC x c e);exact⟨_,q,hd⟩
  .exact⟨o,keep c o (I.cne x c e) hc nch ho (I.freeC x c e),hd⟩
 refine⟨I.ok,I.os,hg,⟨fun b o e n hb hx=>?_,fun b o e n hb hx=>?_,fun b o e n hx=>?_,fun b o e hx=>?_,fun b xs e=>tups b xs (I.base.tups b xs e),fun b o xs e=>frzs b o xs (I.base.frzs b o xs e),fun b ps e=>?_⟩,?_,fun x c e=>?_,?_,fun x c e=>?_,fun p hp=>?_,hok,I.len⟩
 .exact keep b o (neL b o e) hb (neC b o e hx) (I.base.keep b o e n hb hx) (I.base.free b o e n hx)
 .obtain⟨sl,e1⟩:=I.base.slot b o e n hb hx;obtain⟨sl',e2⟩:=slot b _ (neL b o e) hb (neC b o e hx) e1 (I.base.free b o e n hx);exact⟨sl',e2⟩
 .obtain⟨o',e1⟩:=I.base.there b o e hx;exact free b o' (neC b o e hx) e1 (I.base.free b o e n hx)
 .obtain⟨o',e1⟩:=I.base.there b o e hx;exact there b o' (neC b o e hx) e1
 .obtain⟨m1,e1⟩:=I.base.tbls b ps e;obtain⟨m2,e2⟩:=tbls b _ e1;exact⟨m1 ++ m2,by rw [e2,Array.append_assoc]⟩
 .obtain⟨m,hn,hl⟩:=I.loc;refine⟨m,ns m hn,fun i x v e1 e2 e3=>?_⟩;obtain⟨u,r,l⟩:=hl i x v e1 e2 e3;refine⟨u,r,?_⟩;rcases l with l | ⟨k,c,e,z⟩
  .exact .inl l
  .exact .inr ⟨k,c,e,cellK x c e _ z⟩
 .obtain⟨v,z⟩:=I.cell x c e;exact⟨v,cellK x c e v z⟩
 .obtain⟨m,⟨o,_,_,ho,_⟩,_⟩:=I.loc;exact free _ o (fun z=>(hch _ z).2.1 rfl) ho I.free
 .obtain⟨v,o,ho,hd⟩:=I.cell x c e;exact free c o (fun z=>(hch c z).2.2.1 x c e rfl) ho (I.freeC x c e)
 .obtain⟨e,n,ne,nf,d⟩:=I.pin p hp;have nch:p.1 ∉ ch:=fun z=>(hch p.1 z).2.2.2 p hp rfl;exact⟨keep p.1 p.2 ne nf nch e n,free p.1 p.2 nch e n,ne,nf,d⟩
theorem Inv.un {t':Nat}(I:Inv X pins σ H s) (u:Un X.fs [] H H' s.heap h') (hok:HOk X.prog X.w H' h'):Inv X pins σ H' { s with heap:=h',toks:=t' }:=by
 obtain⟨m,⟨o,es,ep,ho,r⟩,_⟩:=id I.loc;obtain⟨sl,hL⟩:=u.any ho I.free (by simp);exact I.step (g':=s.gens) (d':=s.drawn) (ch:=[]) (fun _ z=>nomatch z) (fun b o _ hb _ e n=>u.keep b o e n hb (by simp)) (fun b o _ hb _ e n=>u.slot b o e n hb (by simp)) (fun b o _ e n=>u.free b o e n (by simp)) (fun b o _ e=>u.there b o e (by simp)) u.tups u.frzs u.tbls (fun m' hm=>by
  obtain⟨o',es',ep',ho',r'⟩:=hm;rw [ho] at ho';cases ho';exact⟨_,es',ep',hL,r'⟩) hok I.bare
theorem Inv.call {g':Array GenState}{t':Nat}{d':Drawn}{ch:List Addr}(I:Inv X pins σ H s) (u:Un (frs X.stack) ch H H' s.heap h') (hok:HOk X.prog X.w H' h') (hg:AllBare g')
  (hch:∀ b ∈ ch,(b ∈ X.ex \/ X.s₀.heap.objs.size <= b) /\ b ≠ X.env.locals /\ (∀ x c,X.env.cells.lookup x=some c->c ≠ b) /\ ∀ p ∈ X.pn ++ pins,p.1 ≠ b) :
  Inv X pins σ H' { s with heap:=h',gens:=g',drawn:=d',toks:=t' }:=by
 obtain⟨m,⟨o,es,ep,ho,r⟩,_⟩:=id I.loc;obtain⟨sl,hL⟩:=u.any ho I.free fun z=>(hch _ z).2.1 rfl;exact I.step (ch:=ch) hch (fun b o hL hb hc e n=>u.keep b o e n (fun z=>(List.mem_cons.mp (I.stkSub b z)).elim hL hb) hc) (fun b o _ _ hc e n=>u.any e n hc) (fun b o hc e n=>u.free b o e n hc) (fun b o hc e=>u.there b o e hc) u.tups u.frzs u.tbls (fun m' hm=>by
  obtain⟨o',es',ep',ho',r'⟩:=hm;rw [ho] at ho';cases ho';exact⟨_,es',ep',hL,r'⟩) hok hg
theorem Inv.turned {t':Nat}{it:Addr}(I:Inv X pins σ H s) (k:∀ b o,b ≠ it->s.heap.get? b=some o->h'.get? b=some o) (hn:H it=none) (hL:it ≠ X.env.locals)
  (h1:it ∈ X.ex \/ X.s₀.heap.objs.size <= it) (h2:∀ x c,X.env.cells.lookup x=some c->c ≠ it) (h3:∀ p ∈ X.pn ++ pins,p.1 ≠ it):Inv X pins σ H { s with heap:=h',toks:=t' }:=by
 have nit:∀ b u,H b=some u->b ≠ it:=fun b u e z=>by rw [z,hn] at e;cases e
 refine I.step (g':=s.gens) (d':=s.drawn) (ch:=[it]) (fun b hb=>?_) (fun b o _ _ hc e _=>k b o (fun z=>hc (by simp [z])) e) (fun b o _ _ hc e _=>⟨o.slots,k b o (fun z=>hc (by simp [z])) e⟩) (fun _ _ _ _ n=>n)
  (fun b o hc e=>⟨o,k b o (fun z=>hc (by simp [z])) e⟩) (fun _ _ e=>e) (fun _ _ _ e=>e) (fun b ps e=>⟨#[],by rw [e];simp⟩) (fun m hm=>?_) (fun b u e=>?_) I.bare
 .have e:b=it:=by simpa using hb
  subst e;exact⟨h1,hL,h2,h3⟩
 .obtain⟨o,es,ep,ho,r⟩:=hm;exact⟨o,es,ep,k _ o (Ne.symm hL) ho,r⟩
 .refine (I.hok b u e).stay (fun c v hc q=>k c v ?_ q) (fun _ q=>q) fun _ _ q=>q;rcases hc with z | z
  .rw [z];exact nit b u e
  .exact nit c _ z
theorem Inv.tok (I:Inv X pins σ H s) (t:Nat):Inv X pins σ H { s with toks:=t }:=I.un (h':=s.heap) (t':=t) Un.refl I.hok
theorem Inv.kept (I:Inv X pins σ H s) (k:∀ b u,s.heap.get? b=some u->h'.get? b=some u):Inv X pins σ H { s with heap:=h',toks:=t' }:=I.un (Un.kept k) (I.hok.kept k)
theorem Inv.laid (I:Inv X pins σ H s) (k:∀ b u,s.heap.get? b=some u->h'.get? b=some u) (hp:s.heap.objs.size <= a) (new:ObjOk X.prog X.w (upd H a o) h' a o) :
  Inv X pins σ (upd H a o) { s with heap:=h',toks:=t' }:=I.un (Un.laid k hp (I.hok.fresh hp)) (I.hok.laid k hp new)
theorem Inv.write (I:Inv X pins σ H s) (mu:Mut (H x)) (he:e=x \/ H e=some (.own x)) (k:∀ b u,b ≠ e->s.heap.get? b=some u->h'.get? b=some u) (heo:∃ u,h'.get? e=some u)
  (new:ObjOk X.prog X.w (upd H x o) h' x o):Inv X pins σ (upd H x o) { s with heap:=h',toks:=t' }:=I.un (Un.write mu he k heo) (I.hok.write mu he k heo new)
theorem Inv.weak (I:Inv X pins σ H s) (hl:σ'.length=σ.length) (w:∀ (i:Nat) v,σ'[i]? = some (some v)->σ[i]? = some (some v)):Inv X pins σ' H s :=
 ⟨I.ok,I.os,I.bare,I.base,let ⟨m,hn,hl'⟩:=I.loc;⟨m,hn,fun i x v e1 e2 e3=>hl' i x v e1 (w i v e2) e3⟩,I.cell,I.free,I.freeC,I.pin,I.hok,hl.trans I.len⟩
theorem Inv.pins_of (I:Inv X pins σ H s) (h:∀ p ∈ pins',s.heap.get? p.1=some p.2 /\ H p.1=none /\ p.1 ≠ X.env.locals /\ p.1 ∉ X.fs /\ ∀ v,p.2.data ≠ .cell v):Inv X pins' σ H s :=
 ⟨I.ok,I.os,I.bare,I.base,I.loc,I.cell,I.free,I.freeC,fun p hp=>(List.mem_append.mp hp).elim (fun z=>I.pin p (List.mem_append_left _ z)) (h p),I.hok,I.len⟩
theorem tM {N:List Str}(hN:N.Nodup) {i j:Nat}{x:Str}(a:N[i]? = some x) (b:N[j]? = some x):i=j:=by
 obtain⟨h1,e1⟩:=List.getElem?_eq_some_iff.mp a;obtain⟨h2,e2⟩:=List.getElem?_eq_some_iff.mp b;exact (List.getElem_inj hN).mp (e1.trans e2.symm)
theorem vU (I:Inv X pins σ H s) (hN:X.N.Nodup) (hi:X.N[i]? = some x) (hx:Loc X.env.scope x) (r:RelV v u)
  (h:∀ s',Inv X pins (σ.set i (some v)) H s'->(∃ a,Heap.SameBut a s.heap s'.heap /\ (a=X.env.locals \/ X.env.cells.lookup x=some a))->Q () s') (hf:X.fn x=true \/ X.env.scope.names.lookup x=some .local:=by first | exact .inl rfl | exact .inr rfl | assumption):wpAny M A (storeName X.env x u) Q E s:=by
 obtain⟨m,hn,hl⟩:=id I.loc;have hcls:(X.env.scope.kind == .class || (X.env.scope.kind == .module && X.env.locals != X.env.globals))=false:=by rw [I.ok.kind];rfl
 have hiσ:i < σ.length:=by rw [I.len];exact (List.getElem?_eq_some_iff.mp hi).1
 have cne:=I.cne;have tracked:∀ {a:Addr}{h':Heap},(∃ o,s.heap.get? a=some o /\ H a=none)->Heap.SameBut a s.heap h'->HOk X.prog X.w H h':=fun {a h'} ha hs b ob e=>by
  obtain⟨_,_,hfree⟩:=ha;refine (I.hok b ob e).stay (fun c w' hc q=>(hs.2 c ?_).trans q) (fun _ q=>q) fun _ _ q=>q;rintro rfl;rcases hc with rfl | hc
  .rw [hfree] at e;cases e
  .rw [hfree] at hc;cases hc
 rcases hx with hk | hk
 .refine wpAny_storeName_local hk hn (fun h' hn' hs=>?_) hcls;obtain⟨oL,_,_,hoL,_⟩:=id hn;refine h _ ⟨I.ok,I.os,I.bare,⟨fun b o e n hb hx=>?_,fun b o e n hb hx=>?_,I.base.free,fun b o e hx=>?_,I.base.tups,I.base.frzs,I.base.tbls⟩,⟨_,hn',fun j y v' e1 e2 e3=>?_⟩,fun y c e=>?_,I.free,I.freeC,fun p hp=>?_,tracked ⟨oL,hoL,I.free⟩ hs,by simpa using I.len⟩ ⟨_,hs,.inl rfl⟩
  .exact (hs.2 b (Nat.ne_of_lt (Nat.lt_of_lt_of_le (Heap.lt_size e) I.ok.above))).trans (I.base.keep b o e n hb hx)
  .obtain⟨sl,e1⟩:=I.base.slot b o e n hb hx;exact⟨sl,(hs.2 b (Nat.ne_of_lt (Nat.lt_of_lt_of_le (Heap.lt_size e) I.ok.above))).trans e1⟩
  .obtain⟨o',e1⟩:=I.base.there b o e hx;exact⟨o',(hs.2 b (Nat.ne_of_lt (Nat.lt_of_lt_of_le (Heap.lt_size e) I.ok.above))).trans e1⟩
  .by_cases hj:j=i
   .subst hj;rw [hi] at e1;cases e1;rw [List.getElem?_set_self hiσ] at e2;cases e2;exact⟨u,r,.inl ⟨hk,by simp⟩⟩
   .rw [List.getElem?_set_ne (Ne.symm hj)] at e2;obtain⟨u',r',q⟩:=hl j y v' e1 e2 e3;refine⟨u',r',?_⟩;rcases q with ⟨k,e⟩ | ⟨k,c,e,z⟩
    .refine .inl ⟨k,?_⟩;have:y ≠ x:=fun e=>hj (tM hN e1 (e ▸ hi));simp [this,e]
    .exact .inr ⟨k,c,e,z.sameBut hs (cne y c e)⟩
  .obtain⟨w',z⟩:=I.cell y c e;exact⟨w',z.sameBut hs (cne y c e)⟩
  .obtain⟨e,n,ne,nf,d⟩:=I.pin p hp;exact⟨(hs.2 p.1 ne).trans e,n,ne,nf,d⟩
 .have hfn:X.fn x=true:=by
   rcases hf with z | z
   .exact z
   .rw [z] at hk;cases hk
  obtain⟨c,hc⟩:=I.ok.has x (.inl hk);obtain⟨w',z⟩:=I.cell x c hc;refine wpAny_storeName_cell I.ok.kind hk hc z (fun h' hc' hs=>?_);obtain⟨oc,hoc,hocd⟩:=id z;refine h { s with heap:=h' } ⟨I.ok,I.os,I.bare,⟨fun b o e n hb hx=>?_,fun b o e n hb hx=>?_,I.base.free,fun b o e hx=>?_,I.base.tups,I.base.frzs,I.base.tbls⟩,⟨m,hn.sameBut hs (Ne.symm (cne x c hc)),fun j y v' e1 e2 e3=>?_⟩,fun y c' e=>?_,I.free,I.freeC,fun p hp=>?_,tracked ⟨oc,hoc,I.freeC x c hc⟩ hs,by simpa using I.len⟩ ⟨c,hs,.inr hc⟩
  .exact (hs.2 b (Nat.ne_of_lt (Nat.lt_of_lt_of_le (Heap.lt_size e) (I.ok.cab x c hfn hc)))).trans (I.base.keep b o e n hb hx)
  .obtain⟨sl,e1⟩:=I.base.slot b o e n hb hx;exact⟨sl,(hs.2 b (Nat.ne_of_lt (Nat.lt_of_lt_of_le (Heap.lt_size e) (I.ok.cab x c hfn hc)))).trans e1⟩
  .obtain⟨o',e1⟩:=I.base.there b o e hx;exact⟨o',(hs.2 b (Nat.ne_of_lt (Nat.lt_of_lt_of_le (Heap.lt_size e) (I.ok.cab x c hfn hc)))).trans e1⟩
  .by_cases hj:j=i
   .subst hj;rw [hi] at e1;cases e1;rw [List.getElem?_set_self hiσ] at e2;cases e2;exact⟨u,r,.inr ⟨.inl hk,c,hc,hc'⟩⟩
   .rw [List.getElem?_set_ne (Ne.symm hj)] at e2;obtain⟨u',r',q⟩:=hl j y v' e1 e2 e3;refine⟨u',r',?_⟩;rcases q with q | ⟨k,c',e,z'⟩
    .exact .inl q
    .refine .inr ⟨k,c',e,z'.sameBut hs ?_⟩;rintro rfl;exact hj (tM hN e1 (I.ok.inj _ _ _ e hc ▸ hi))
  .by_cases hcc:c'=c
   .subst hcc;exact⟨_,hc'⟩
   .obtain⟨w2,z2⟩:=I.cell y c' e;exact⟨w2,z2.sameBut hs hcc⟩
  .obtain⟨e,n,ne,nf,d⟩:=I.pin p hp;refine⟨(hs.2 p.1 ?_).trans e,n,ne,nf,d⟩;intro q;rw [q,hoc] at e;have q':oc=p.2:=Option.some.inj e;exact d w' (by rw [<- q'];exact hocd)
theorem jU (I:Inv X pins σ H s) (hN:X.N.Nodup) (hi:X.N[i]? = some x) (hx:Loc X.env.scope x) (r:RelV v u)
  (h:∀ s',Inv X pins (σ.set i (some v)) H s'->Q () s') (hf:X.fn x=true \/ X.env.scope.names.lookup x=some .local:=by first | exact .inl rfl | exact .inr rfl | assumption):wpAny M A (storeName X.env x u) Q E s :=
 vU I hN hi hx r (fun s' I' _=>h s' I') hf
theorem Inv.call' (I:Inv X pins σ H s) (ho:s'.os=s.os) (u:Un (frs X.stack) ch H H' s.heap s'.heap) (hok:HOk X.prog X.w H' s'.heap) (hg:AllBare s'.gens)
  (hch:∀ b ∈ ch,(b ∈ X.ex \/ X.s₀.heap.objs.size <= b) /\ b ≠ X.env.locals /\ (∀ x c,X.env.cells.lookup x=some c->c ≠ b) /\ ∀ p ∈ X.pn ++ pins,p.1 ≠ b):Inv X pins σ H' s':=by
 obtain⟨h',g',d',t',o'⟩:=s';have e:o'=s.os:=ho;subst e;exact I.call (g':=g') (t':=t') (d':=d') u hok hg hch
end
noncomputable abbrev XK:=Value->Option Addr->Hp->Prop
noncomputable abbrev St:=List (Option V)
noncomputable abbrev VK:=V->Hp->Prop
noncomputable abbrev TE:=St->Hp->VK->Prop
noncomputable abbrev TT:=St->Hp->(Bool->Hp->Prop)->Prop
noncomputable abbrev TA:=St->Hp->(List V->Hp->Prop)->Prop
structure K5 where
 nx:St->Hp->Prop
 rt:VK
 bk:St->Hp->Prop:=fun _ _=>False
 ct:St->Hp->Prop:=fun _ _=>False
noncomputable abbrev TS:=K5->St->Hp->Prop
noncomputable def EP (X:Cx) (pins:List (Addr × Obj)) (σ:St) (Q:VK) (u:Value) (s':Shared):Prop:=∃ v H',Inv X pins σ H' s' /\ RelV v u /\ Q v H'
noncomputable def TP (X:Cx) (pins:List (Addr × Obj)) (σ:St) (Q:Bool->Hp->Prop) (b:Bool) (s':Shared):Prop:=∃ H',Inv X pins σ H' s' /\ Q b H'
noncomputable def AP (X:Cx) (pins:List (Addr × Obj)) (σ:St) (Q:List V->Hp->Prop) (us:List Value) (s':Shared):Prop:=∃ vs H',Inv X pins σ H' s' /\ Vals vs us /\ Q vs H'
noncomputable def SP (X:Cx) (pins:List (Addr × Obj)) (D:K5) (f:Flow) (s':Shared):Prop :=
 match f with
 | .next=>∃ σ' H',Inv X pins σ' H' s' /\ D.nx σ' H'
 | .brk=>∃ σ' H',Inv X pins σ' H' s' /\ D.bk σ' H'
 | .cont=>∃ σ' H',Inv X pins σ' H' s' /\ D.ct σ' H'
 | .ret u=>∃ v σ' H',Inv X pins σ' H' s' /\ RelV v u /\ D.rt v H'
noncomputable def PE (X:Cx) (e:Expr) (t:TE):Prop :=
 ∀ (pins:List (Addr × Obj)) (s:Shared) (σ:St) (H:Hp) (Q:VK),Inv X pins σ H s->t σ H Q->wpAny (model X.prog X.w) X.A (eval e X.env) (EP X pins σ Q) X.xe s
noncomputable def PT (X:Cx) (e:Expr) (t:TT):Prop :=
 ∀ (pins:List (Addr × Obj)) (s:Shared) (σ:St) (H:Hp) (Q:Bool->Hp->Prop),Inv X pins σ H s->t σ H Q->wpAny (model X.prog X.w) X.A (isTrue e X.env (eval e X.env)) (TP X pins σ Q) X.xe s
noncomputable def PW (X:Cx) (e:Expr) (t:TT):Prop :=
 ∀ (whole:Sem Value) (pins:List (Addr × Obj)) (s:Shared) (σ:St) (H:Hp) (Q:Bool->Hp->Prop),Inv X pins σ H s->t σ H Q->wpAny (model X.prog X.w) X.A (isTrue e X.env whole) (TP X pins σ Q) X.xe s
theorem PW.pt (h:PW X e t):PT X e t:=h _
noncomputable def PA (X:Cx) (es:List Expr) (t:TA):Prop :=
 ∀ (pos:Pos) (pins:List (Addr × Obj)) (s:Shared) (σ:St) (H:Hp) (Q:List V->Hp->Prop),Inv X pins σ H s->t σ H Q->wpAny (model X.prog X.w) X.A (spliced (backTo pos (starEach es X.env))) (AP X pins σ Q) X.xe s
noncomputable def PS (X:Cx) (st:Stmt) (t:TS):Prop :=
 ∀ (pins:List (Addr × Obj)) (s:Shared) (σ:St) (H:Hp) (D:K5),Inv X pins σ H s->t D σ H->wpAny (model X.prog X.w) X.A (exec st X.env) (SP X pins D) X.xe s
noncomputable def PSs (X:Cx) (st:List Stmt) (t:TS):Prop :=
 ∀ (pins:List (Addr × Obj)) (s:Shared) (σ:St) (H:Hp) (D:K5),Inv X pins σ H s->t D σ H->wpAny (model X.prog X.w) X.A (execs st X.env) (SP X pins D) X.xe s
theorem thn (h:wpAny M A t Q E s) (hQ:∀ a s,Q a s->Q' a s):wpAny M A t Q' E s:=wpAny_mono h hQ fun _ _ x=>x
section
variable {X:Cx}
theorem bin (ha:PE X a ta) (hb:PE X b tb) {pins:List (Addr × Obj)}{s:Shared}{σ:St}{H:Hp}{R:V->V->Hp->Prop}(I:Inv X pins σ H s) (h:ta σ H fun x H1=>tb σ H1 fun y H2=>R x y H2)
  {α:Type}{Q:α->Shared->Prop}{f:Value->Value->Sem α}
  (hf:∀ v u s2 x y H2,Inv X pins σ H2 s2->RelV x v->RelV y u->R x y H2->wpAny (model X.prog X.w) X.A (f v u) Q X.xe s2) :
  wpAny (model X.prog X.w) X.A (eval a X.env) (fun v s₁=>wpAny (model X.prog X.w) X.A (eval b X.env) (fun u s₂=>wpAny (model X.prog X.w) X.A (f v u) Q X.xe s₂) X.xe s₁) X.xe s:=by
 refine thn (ha pins s σ H _ I h) fun v s1 ⟨x,H1,I1,r1,q1⟩=>?_;refine thn (hb pins s1 σ H1 _ I1 q1) fun u s2 ⟨y,H2,I2,r2,q2⟩=>?_;exact hf v u s2 x y H2 I2 r1 r2 q2
noncomputable def zQ (i:Nat):TE:=fun σ H Q=>∃ v,σ[i]? = some (some v) /\ Q v H
noncomputable def tC (v:V):TE:=fun _ H Q=>Q v H
theorem gD (hN:X.N[i]? = some x) (hv:Vis X.env.scope x) (hd:(x == ("__debug__" : Str))=false:=by decide) (hcd:(x == ("__classdict__" : Str))=false:=by decide):PE X (.Name x pos) (zQ i):=by
 intro pins s σ H Q I h;obtain⟨v,e,h⟩:=h;obtain⟨m,hn,hl⟩:=I.loc;obtain⟨u,r,l⟩:=hl i x v hN e hv;have fin:EP X pins σ Q u s:=⟨v,H,I,r,h⟩;rcases l with ⟨hk,hm⟩ | ⟨hk,c,hc,hcell⟩
 .exact wpAny_Name (wpAny_loadName_local I.ok.kind hk hn hm fin) hd
 .rcases hk with hk | hk
  .exact wpAny_Name (wpAny_loadName_cell I.ok.kind hk hc hcell fin) hd
  .exact wpAny_Name (wpAny_loadName_free I.ok.kind hk hc hcell fin hcd) hd
theorem pe_int:PE X (.Constant (.int i) j pos) (tC (.int i)):=fun _ _ _ H _ I h=>wpAny_Constant_int ⟨.int i,H,I.tok _,⟨_,rfl⟩,h⟩
theorem Z5z:PE X (.Constant (.bool b) j pos) (tC (.bl b)):=fun _ _ _ H _ I h=>Constant_bool ⟨.bl b,H,I,rfl,h⟩
theorem Z4w:PE X (.Constant .none j pos) (tC .non):=fun _ _ _ H _ I h=>Constant_none ⟨.non,H,I,rfl,h⟩
theorem Z1u:PE X (.Constant (.str x) j pos) (tC (.str x)):=fun _ _ _ H _ I h=>Calls.Constant_str ⟨.str x,H,I.tok _,⟨_,rfl⟩,h⟩
noncomputable def Gl (X:Cx) (x:Str):Prop:=X.env.kindOf x=some .globalImplicit
theorem sB (I:Inv X pins σ H s) (hg:Gl X x) (hm:X.mg x=some u) (h:Q u s)
  (hd:(x == ("__debug__" : Str))=false:=by decide):wpAny (model X.prog X.w) X.A (eval (.Name x pos) X.env) Q E s :=
 Calls.Name_function_global I.ok.kind hg (Calls.loadGlobal_global (by rw [I.ok.glob];exact I.mod.glob.keeps I.bk) hm h) hd
theorem jO (I:Inv X pins σ H s) (hg:Gl X x) (hm:X.mg x=none) (hv:bootBuiltins x=some u) (h:Q u s)
  (hn:x ≠ "__name__":=by decide) (hd:(x == ("__debug__" : Str))=false:=by decide):wpAny (model X.prog X.w) X.A (eval (.Name x pos) X.env) Q E s:=by
 obtain⟨mb,h1,h2⟩:=I.mod.blt;exact Calls.Name_function_global I.ok.kind hg (Calls.loadGlobal_builtin (by rw [I.ok.glob];exact I.mod.glob.keeps I.bk) hm (by rw [I.ok.blt];exact h1.keeps I.bk) ((h2 x hn).trans hv) h) hd
theorem kR (hg:Gl X x) (hm:X.mg x=some u) (r:RelV v u) (hd:(x == ("__debug__" : Str))=false:=by decide):PE X (.Name x pos) (tC v) :=
 fun _ _ _ H _ I h=>sB I hg hm ⟨v,H,I,r,h⟩ hd
theorem Z3c (hg:Gl X x) (hm:X.mg x=none) (hv:bootBuiltins x=some u) (r:RelV v u) (hn:x ≠ "__name__":=by decide) (hd:(x == ("__debug__" : Str))=false:=by decide):PE X (.Name x pos) (tC v) :=
 fun _ _ _ H _ I h=>jO I hg hm hv ⟨v,H,I,r,h⟩ hn hd
variable {a b:Expr}{ta tb:TE}{pos:Pos}
noncomputable def PC (X:Cx) (op:CmpOp) (a b:Expr) (t:TE):Prop :=
 ∀ (pins:List (Addr × Obj)) (s:Shared) (σ:St) (H:Hp) (Q:VK),Inv X pins σ H s->t σ H Q ->
  wpAny (model X.prog X.w) X.A (eval a X.env) (fun v s₁=>wpAny (model X.prog X.w) X.A (eval b X.env) (fun u s₂=>wpAny (model X.prog X.w) X.A (compareOp op v u) (EP X pins σ Q) X.xe s₂) X.xe s₁) X.xe s
theorem Z1J (b:Expr) {op:CmpOp}(h:op ≠ .In) (h2:op ≠ .NotIn):behindInMarks op b=false:=by
 have e1:(op == CmpOp.In)=false:=by cases op <;> first | rfl | exact absurd rfl h
 have e2:(op == CmpOp.NotIn)=false:=by cases op <;> first | rfl | exact absurd rfl h2
 cases b <;> simp [behindInMarks,e1,e2]
noncomputable def tB (t:TE):TT:=fun σ H Q=>t σ H fun x H1=>∃ c,x=.bl c /\ Q c H1
theorem pt_cmp (h:PC X op a b t) (h1:behindInMarks op b=false:=by first | exact Z1J _ (by decide) (by decide) | rfl):PT X (.Compare a [op] [b] pos) (tB t):=by
 intro pins s σ H Q I hw;refine wpAny_isTrue_Compare1 (thn (h pins s σ H _ I hw) fun v s1 h1=>thn h1 fun u s2 h2=>thn h2 fun c s3 ⟨x,H1,I1,r1,q1⟩=>?_) h1;obtain⟨d,rfl,q⟩:=q1;cases r1;exact wpAny_truthy_bool ⟨H1,I1,q⟩
theorem Z4p (h:PE X e t) (he:∀ whole,isTrue e X.env whole=(do let v <- whole;standAt e.pos;holding [v] (truthy v)):=by intro _;rfl):PT X e (tB t):=by
 intro pins s σ H Q I hw;refine isTrue_plain (thn (h pins s σ H _ I hw) fun v s1 ⟨x,H1,I1,r1,q1⟩=>?_) (he _);obtain⟨d,rfl,q⟩:=q1;cases r1;exact wpAny_truthy_bool ⟨H1,I1,q⟩
variable {tA tB':TT}{rest:List Expr}
noncomputable def Z6f (t u:TT):TT:=fun σ H Q=>t σ H fun c H1=>if c=true then u σ H1 Q else Q false H1
noncomputable def tOr (t u:TT):TT:=fun σ H Q=>t σ H fun c H1=>if c=true then Q true H1 else u σ H1 Q
noncomputable def Z68 (t:TT):TT:=fun σ H Q=>t σ H fun c H1=>Q (!c) H1
theorem Z31 (ha:PT X a tA):PW X (.BoolOp .And [a] pos) tA:=by
 intro wh pins s σ H Q I h;refine isTrue_and (thn (ha pins s σ H Q I h) fun c s1 e=>?_);cases c with
 | true=>exact isTrue_and_nil e
 | false=>exact e
theorem Z4n (ha:PT X a tA):PW X (.BoolOp .Or [a] pos) tA:=by
 intro wh pins s σ H Q I h;refine isTrue_or (thn (ha pins s σ H Q I h) fun c s1 e=>?_);cases c with
 | false=>exact isTrue_or_nil e
 | true=>exact e
theorem Z4o (ha:PT X a tA) (hb:PW X (.BoolOp .And (b :: rest) pos) tB'):PW X (.BoolOp .And (a :: b :: rest) pos) (Z6f tA tB'):=by
 intro wh pins s σ H Q I h;refine isTrue_and (thn (ha pins s σ H _ I h) fun c s1 ⟨H1,I1,q1⟩=>?_);cases c with
 | true=>exact hb wh pins s1 σ H1 Q I1 q1
 | false=>exact⟨H1,I1,q1⟩
theorem Z5v (ha:PT X a tA) (hb:PW X (.BoolOp .Or (b :: rest) pos) tB'):PW X (.BoolOp .Or (a :: b :: rest) pos) (tOr tA tB'):=by
 intro wh pins s σ H Q I h;refine isTrue_or (thn (ha pins s σ H _ I h) fun c s1 ⟨H1,I1,q1⟩=>?_);cases c with
 | true=>exact⟨H1,I1,q1⟩
 | false=>exact hb wh pins s1 σ H1 Q I1 q1
theorem pt_not (ha:PT X a tA):PT X (.UnaryOp .Not a pos) (Z68 tA):=by
 intro pins s σ H Q I h;exact isTrue_not (ha pins s σ H (fun c H1=>Q (!c) H1) I h)
noncomputable def Z5c (ta tb:TE):TE:=fun σ H Q=>ta σ H fun x H1=>∃ c,x=.bl c /\ if c=true then tb σ H1 Q else Q (.bl false) H1
noncomputable def Z67 (ta tb:TE):TE:=fun σ H Q=>ta σ H fun x H1=>∃ c,x=.bl c /\ if c=true then Q (.bl true) H1 else tb σ H1 Q
noncomputable def Z55 (ta:TE):TE:=fun σ H Q=>ta σ H fun x H1=>∃ c,x=.bl c /\ Q (.bl (!c)) H1
theorem Z4v (h:PE X a t):PE X (.BoolOp op [a] pos) t:=fun pins s σ H Q I hw=>BoolOp_one (h pins s σ H Q I hw)
theorem pe_and (ha:PE X a ta) (hb:PE X (.BoolOp .And (b :: rest) pos) tb):PE X (.BoolOp .And (a :: b :: rest) pos) (Z5c ta tb):=by
 intro pins s σ H Q I h;refine BoolOp_and (thn (ha pins s σ H _ I h) fun v s1 ⟨x,H1,I1,r1,q1⟩=>?_);obtain⟨c,rfl,q1⟩:=q1;cases r1;refine wpAny_truthy_bool ?_;cases c with
 | true=>exact hb pins s1 σ H1 Q I1 q1
 | false=>exact⟨.bl false,H1,I1,rfl,q1⟩
theorem pe_or (ha:PE X a ta) (hb:PE X (.BoolOp .Or (b :: rest) pos) tb):PE X (.BoolOp .Or (a :: b :: rest) pos) (Z67 ta tb):=by
 intro pins s σ H Q I h;refine BoolOp_or (thn (ha pins s σ H _ I h) fun v s1 ⟨x,H1,I1,r1,q1⟩=>?_);obtain⟨c,rfl,q1⟩:=q1;cases r1;refine wpAny_truthy_bool ?_;cases c with
 | false=>exact hb pins s1 σ H1 Q I1 q1
 | true=>exact⟨.bl true,H1,I1,rfl,q1⟩
theorem pe_not (ha:PE X a ta):PE X (.UnaryOp .Not a pos) (Z55 ta):=by
 intro pins s σ H Q I h;refine UnaryOp_ (thn (ha pins s σ H _ I h) fun v s1 ⟨x,H1,I1,r1,q1⟩=>?_);obtain⟨c,rfl,q1⟩:=q1;cases r1;exact not_of (wpAny_truthy_bool ⟨.bl (!c),H1,I1,rfl,q1⟩)
end
noncomputable def SqL (K:Frag) (H:Hp) (a:Addr) (xs:List V):Prop :=
 Rd H a (.lst xs) \/
  ∃ (o:Obj) (its:Array Value) (n:Nat),K.lookup a=some o /\ o.cls=.type "list" /\ o.dict=none /\ o.data=.seq its n /\ its.size <= sizeLine /\ Vals xs its.toList
noncomputable def SqT (K:Frag) (H:Hp) (a:Addr) (xs:List V):Prop :=
 Rd H a (.tup xs) \/
  ∃ (o:Obj) (its:Array Value) (n:Nat),K.lookup a=some o /\ o.cls=.type "tuple" /\ o.data=.seq its n /\ its.size <= sizeLine /\ Vals xs its.toList
noncomputable def Z6w:Value->Option V
 | .none=>some .non
 | .bool b=>some (.bl b)
 | .int i _=>some (.int i)
 | .str x _=>some (.str x)
 | .bytes b _=>some (.byt b)
 | .float b _=>some (.flt b)
 | .ref a=>some (.ref a)
 | .type n=>some (.ty n)
 | _=>none
theorem RelV.abs (r:RelV x u):Z6w u=some x:=by
 cases x with
 | non=>cases r;rfl
 | bl _=>cases r;rfl
 | int _=>obtain⟨t,rfl⟩:=r;rfl
 | str _=>obtain⟨t,rfl⟩:=r;rfl
 | byt _=>obtain⟨t,rfl⟩:=r;rfl
 | flt _=>obtain⟨t,rfl⟩:=r;rfl
 | ref _=>cases r;rfl
 | ty _=>cases r;rfl
theorem RelV.inj (r:RelV x u) (q:RelV y u):x=y:=Option.some.inj (r.abs.symm.trans q.abs)
theorem Vals.inj:∀ {xs ys:List V}{us:List Value},Vals xs us->Vals ys us->xs=ys
 | _,_,_,.nil,.nil=>rfl
 | _,_,_,.cons r t,.cons r' t'=>by rw [r.inj r',Vals.inj t t']
section
variable {X:Cx}{pins:List (Addr × Obj)}{σ:St}{H:Hp}{s:Shared}{a:Addr}{xs ys:List V}
theorem SqL.of {K:Frag}(h:H a=some (.lst xs)):SqL K H a xs:=.inl (.inl h)
theorem SqT.of {K:Frag}(h:H a=some (.tup xs)):SqT K H a xs:=.inl (.inl h)
theorem Inv.list (I:Inv X pins σ H s) (h:SqL X.K H a xs):∃ its:List Value,Vals xs its /\ PlainL s.heap a its.toArray /\ xs.length <= sizeLine:=by
 rcases h with h | ⟨o,its,n,hk,hc,hd,hs,hz,r⟩
 .obtain⟨z,its,n,r,e⟩:=h.ok I.hok;exact⟨its,r,⟨_,n,e,rfl,rfl,rfl⟩,z⟩
 .refine⟨its.toList,r,⟨o,n,I.kIn a o hk,hc,hd,by simpa using hs⟩,?_⟩;have e:=r.length;simp only [Array.length_toList] at e;omega
theorem Inv.tuple (I:Inv X pins σ H s) (h:SqT X.K H a xs):∃ its:List Value,Vals xs its /\ IsTup s.heap a its.toArray /\ xs.length <= sizeLine:=by
 rcases h with h | ⟨o,its,n,hk,hc,hs,hz,r⟩
 .obtain⟨z,its,r,p⟩:=h.ok I.hok;exact⟨its,r,p,z⟩
 .refine⟨its.toList,r,⟨o,I.kIn a o hk,hc,n,by simpa using hs⟩,?_⟩;have e:=r.length;simp only [Array.length_toList] at e;omega
theorem Inv.list_inj (I:Inv X pins σ H s) (h:SqL X.K H a xs) (h':SqL X.K H a ys):xs=ys:=by
 obtain⟨its,r,⟨o,n,e,_,_,d⟩,_⟩:=I.list h;obtain⟨its',r',⟨o',n',e',_,_,d'⟩,_⟩:=I.list h';rw [e] at e';cases e';rw [d] at d';injection d' with d1 _;have:its=its':=by simpa using congrArg Array.toList d1
 subst this;exact r.inj r'
theorem Inv.tuple_inj (I:Inv X pins σ H s) (h:SqT X.K H a xs) (h':SqT X.K H a ys):xs=ys:=by
 obtain⟨its,r,⟨o,e,_,n,d⟩,_⟩:=I.tuple h;obtain⟨its',r',⟨o',e',_,n',d'⟩,_⟩:=I.tuple h';rw [e] at e';cases e';rw [d] at d';injection d' with d1 _;have:its=its':=by simpa using congrArg Array.toList d1
 subst this;exact r.inj r'
end
noncomputable abbrev Cx.wish (X:Cx) (E:Value->Shared->Prop):Cx:={ X with xe:=E }
noncomputable abbrev Cx.nox (X:Cx):Cx:=X.wish fun _ _=>False
theorem Cx.Ok.wish {X:Cx}(ok:X.Ok) (E:Value->Shared->Prop):(X.wish E).Ok :=
 ⟨ok.mod,ok.kind,ok.glob,ok.blt,ok.above,ok.inj,ok.has,ok.cab,ok.hd,ok.frames,ok.stk,ok.exf,ok.bs,ok.bsz,ok.noex,ok.exfs,ok.funs,ok.frf⟩
theorem Cx.Ok.unwish {X:Cx}{E:Value->Shared->Prop}(ok:(X.wish E).Ok):X.Ok :=
 ⟨ok.mod,ok.kind,ok.glob,ok.blt,ok.above,ok.inj,ok.has,ok.cab,ok.hd,ok.frames,ok.stk,ok.exf,ok.bs,ok.bsz,ok.noex,ok.exfs,ok.funs,ok.frf⟩
section
variable {X:Cx}{pins:List (Addr × Obj)}{σ:St}{H:Hp}{s:Shared}{E:Value->Shared->Prop}
theorem Inv.wish (I:Inv X pins σ H s) (E:Value->Shared->Prop):Inv (X.wish E) pins σ H s:=⟨I.ok.wish E,I.os,I.bare,I.base,I.loc,I.cell,I.free,I.freeC,I.pin,I.hok,I.len⟩
theorem Inv.unwish (I:Inv (X.wish E) pins σ H s):Inv X pins σ H s:=⟨I.ok.unwish,I.os,I.bare,I.base,I.loc,I.cell,I.free,I.freeC,I.pin,I.hok,I.len⟩
theorem SP.unwish (h:SP (X.wish E) pins D f s'):SP X pins D f s':=by
 cases f with
 | next=>obtain⟨σ',H',I,q⟩:=h;exact⟨σ',H',I.unwish,q⟩
 | brk=>obtain⟨σ',H',I,q⟩:=h;exact⟨σ',H',I.unwish,q⟩
 | cont=>obtain⟨σ',H',I,q⟩:=h;exact⟨σ',H',I.unwish,q⟩
 | ret u=>obtain⟨v,σ',H',I,r,q⟩:=h;exact⟨v,σ',H',I.unwish,r,q⟩
theorem PT.nox (h:PT X.nox e t):PT X e t:=fun pins s σ H Q I hw =>
 wpAny_mono (h pins s σ H Q (I.wish _) hw) (fun _ _ ⟨H',I',q⟩=>⟨H',I'.unwish,q⟩) fun _ _ z=>False.elim z
theorem PSs.nox {st:List Stmt}{t:TS}(h:PSs X.nox st t):PSs X st t:=fun pins s σ H D I hw =>
 wpAny_mono (h pins s σ H D (I.wish _) hw) (fun _ _ q=>q.unwish) fun _ _ z=>False.elim z
end
section
variable {X:Cx}{st:Stmt}{rest:List Stmt}{t u:TS}{e:Expr}{te:TE}{pos:Pos}
noncomputable def Z56:TS:=fun D σ H=>D.nx σ H
noncomputable def Z42 (t u:TS):TS:=fun D σ H=>t { D with nx:=u D } σ H
theorem U3:PSs X [] Z56:=fun _ _ σ H _ I h=>wpAny_execs_nil ⟨σ,H,I,h⟩
theorem pF (h1:PS X st t) (h2:PSs X rest u):PSs X (st :: rest) (Z42 t u):=by
 intro pins s σ H D I h;refine wpAny_execs_cons (thn (h1 pins s σ H { D with nx:=u D } I h) fun f s1 q=>?_);cases f with
 | next =>
  obtain⟨σ',H',I',q⟩:=q;exact h2 pins s1 σ' H' D I' q
 | ret v=>exact q
 | brk=>exact q
 | cont=>exact q
theorem xV (h1:PS X st t):PSs X [st] t:=by
 intro pins s σ H D I h;refine wpAny_execs_cons (thn (h1 pins s σ H D I h) fun f s1 q=>?_);cases f with
 | next=>exact wpAny_execs_nil q
 | ret v=>exact q
 | brk=>exact q
 | cont=>exact q
theorem Inv.quiet (I:Inv X pins σ H s):interactive X.env=false:=by simp [interactive,I.ok.kind]
noncomputable def Z58 (te:TE):TS:=fun D σ H=>te σ H fun _ H1=>D.nx σ H1
theorem U4 (he:PE X e te) (hs:swapsWith e none pos.line X.env=pure false:=by rfl):PS X (.Expr e pos) (Z58 te):=by
 intro pins s σ H D I h;exact wpAny_Expr_any (thn (he pins s σ H _ I h) fun v s1 ⟨x,H1,I1,r1,q1⟩=>⟨σ,H1,I1,q1⟩) I.quiet hs
noncomputable def Z66 (te:TE):TS:=fun D σ H=>te σ H D.rt
theorem tI (he:PE X e te):PS X (.Return (some e) pos) (Z66 te):=by
 intro pins s σ H D I h;exact wpAny_Return_some (thn (he pins s σ H _ I h) fun v s1 ⟨x,H1,I1,r1,q1⟩=>⟨x,σ,H1,I1,r1,q1⟩)
noncomputable def Z6a (c:TT) (t u:TS):TS:=fun D σ H=>c σ H fun b H1=>if b=true then t D σ H1 else u D σ H1
theorem Z3L (hc:PT X c tc) (ha:PSs X a t) (hb:PSs X b u):PS X (.If c a b pos) (Z6a tc t u):=by
 intro pins s σ H D I h;refine wpAny_If (thn (hc pins s σ H _ I h) fun d s1 ⟨H1,I1,q1⟩=>?_);cases d with
 | true=>exact ha pins s1 σ H1 D I1 q1
 | false=>exact hb pins s1 σ H1 D I1 q1
end
noncomputable abbrev TG:=V->St->Hp->(St->Hp->Prop)->Prop
noncomputable abbrev TGs:=List V->St->Hp->(St->Hp->Prop)->Prop
noncomputable def PG (X:Cx) (target:Expr) (t:TG):Prop :=
 ∀ (pins:List (Addr × Obj)) (s:Shared) (σ:St) (H:Hp) (v:V) (u:Value) (Q:St->Hp->Prop),Inv X pins σ H s->RelV v u->t v σ H Q ->
  wpAny (model X.prog X.w) X.A (assign target X.env u) (fun _ s'=>∃ σ' H',Inv X pins σ' H' s' /\ Q σ' H') X.xe s
noncomputable def PGs (X:Cx) (ts:List Expr) (t:TGs):Prop :=
 ∀ (pins:List (Addr × Obj)) (s:Shared) (σ:St) (H:Hp) (vs:List V) (us:List Value) (Q:St->Hp->Prop),Inv X pins σ H s->Vals vs us->t vs σ H Q ->
  wpAny (model X.prog X.w) X.A (assignInOrder ((assignEach ts X.env).map (·.2)) us) (fun _ s'=>∃ σ' H',Inv X pins σ' H' s' /\ Q σ' H') X.xe s
noncomputable abbrev Z5V:=V->V->V->Hp->(Hp->Prop)->Prop
noncomputable def Z5W (X:Cx) (t:Z5V):Prop :=
 ∀ (pins:List (Addr × Obj)) (s:Shared) (σ:St) (H:Hp) (o i v:V) (ov iv u:Value) (Q:Hp->Prop),Inv X pins σ H s->RelV o ov->RelV i iv->RelV v u->t o i v H Q ->
  wpAny (model X.prog X.w) X.A (setItem ov iv u) (fun _ s'=>∃ H',Inv X pins σ H' s' /\ Q H') X.xe s
section
variable {X:Cx}{pos:Pos}
noncomputable def uD (i:Nat):TG:=fun v σ H Q=>Q (σ.set i (some v)) H
theorem cI (hN:X.N.Nodup) (hi:X.N[i]? = some x) (hx:Loc X.env.scope x) (hf:X.fn x=true \/ X.env.scope.names.lookup x=some .local:=by first | exact .inl rfl | exact .inr rfl | assumption):PG X (.Name x pos) (uD i):=by
 intro pins s σ H v u Q I r h;exact wpAny_assign_Name (jU I hN hi hx r (fun s' I'=>⟨_,H,I',h⟩) hf)
noncomputable def Z5P:TGs:=fun vs σ H Q=>vs=[] /\ Q σ H
noncomputable def Z3Q (t:TG) (u:TGs):TGs:=fun vs σ H Q=>∃ v r,vs=v :: r /\ t v σ H fun σ' H'=>u r σ' H' Q
theorem jB:PGs X [] Z5P:=by
 intro pins s σ H vs us Q I r h;obtain⟨e,h⟩:=h;subst e;cases r;exact assignInOrder_nil ⟨σ,H,I,h⟩
theorem cS (h1:PG X e t) (h2:PGs X es u)
  (hs:(assignEach (e :: es) X.env).map (·.2)=assign e X.env :: (assignEach es X.env).map (·.2):=by rfl):PGs X (e :: es) (Z3Q t u):=by
 intro pins s σ H vs us Q I r h;obtain⟨v,vr,e1,h⟩:=h;subst e1;cases r with
 | cons r rr =>
  rw [hs];refine assignInOrder_cons (thn (h1 pins s σ H _ _ _ I r h) fun _ s1 ⟨σ1,H1,I1,q1⟩=>?_);exact h2 pins s1 σ1 H1 _ _ Q I1 rr q1
noncomputable def Z5N (K:Frag) (n:Nat) (t:TGs):TG:=fun v σ H Q=>∃ a xs,v=.ref a /\ SqT K H a xs /\ xs.length=n /\ t xs σ H Q
theorem Z1t (hc:X.calm=true) (h:PGs X es t)
  (hn:(assignEach es X.env).length=n:=by rfl) (hst:(assignEach es X.env).findIdx? (·.1)=none:=by rfl):PG X (.Tuple es k pos) (Z5N X.K n t):=by
 intro pins s σ H v u Q I r hw;obtain⟨a,xs,e1,hq,hl,hw⟩:=hw;subst e1;cases r;obtain⟨its,rv,ht,hz⟩:=I.tuple hq;refine assign_Tuple_tuple (I.ok.hd hc) ht (by simp [hn,<- hl,rv.length]) hst fun h' hx=>?_;have I1:Inv X pins σ H { s with heap:=h' }:=I.kept (t':=s.toks) fun b o e=>hx b o (Nat.ne_of_lt (Heap.lt_size e)) e;exact h pins _ σ H xs _ Q I1 (by simpa using rv) hw
noncomputable def Z5O (to ti:TE) (t:Z5V):TG:=fun v σ H Q=>to σ H fun o H1=>ti σ H1 fun i H2=>t o i v H2 fun H3=>Q σ H3
theorem Z4u (ho:PE X o to) (hi:PE X i ti) (hs:Z5W X t)
  (ha:∀ v,assign (.Subscript o i pos) X.env v=(do
   let ov <- holding [v] (eval o X.env)
   let iv <- holding [v,ov] (eval i X.env)
   standAt pos
   holding [v,ov,iv] (setItem ov iv v)
   release [v,ov,iv] []):=by intro _;rfl):PG X (.Subscript o i pos) (Z5O to ti t):=by
 intro pins s σ H v u Q I r h;rw [ha];refine wpAny_bind (wpAny_holding (thn (ho pins s σ H _ I h) fun ov s1 ⟨x,H1,I1,r1,q1⟩=>?_));refine wpAny_bind (wpAny_holding (thn (hi pins s1 σ H1 _ I1 q1) fun iv s2 ⟨y,H2,I2,r2,q2⟩=>?_));refine wpAny_bind (wpAny_standAt (wpAny_bind (wpAny_holding (thn (hs pins s2 σ H2 x y v ov iv u _ I2 r1 r2 r q2) fun _ s3 ⟨H3,I3,q3⟩=>?_))));exact wpAny_release ⟨σ,H3,I3,q3⟩
noncomputable def Y0 (te:TE) (g:TG):TS:=fun D σ H=>te σ H fun x H1=>g x σ H1 D.nx
theorem Z1r (he:PE X e te) (hg:PG X tg g) (hs:swapsWithSole [tg] e pos.line X.env=pure false:=by rfl) (hw:swappedStores [tg] e X.env=pure none:=by rfl)
  (h1:(assignEach [tg] X.env).map (·.2)=[assign tg X.env]:=by rfl):PS X (.Assign [tg] e pos) (Y0 te g):=by
 intro pins s σ H D I h;refine wpAny_Assign_stores (thn (he pins s σ H _ I h) fun v s1 ⟨x,H1,I1,r1,q1⟩=>?_) hs hw;rw [h1];exact thn (hg pins s1 σ H1 x v _ I1 r1 q1) fun _ s2 q=>q
theorem N1 (hN:X.N.Nodup) (hi:X.N[i]? = some x) (hx:Loc X.env.scope x) (he:PE X e te) (hs:swapsWith e (some (.Name x pos')) pos.line X.env=pure false:=by rfl) (hf:X.fn x=true \/ X.env.scope.names.lookup x=some .local:=by first | exact .inl rfl | exact .inr rfl | assumption) :
  PS X (.Assign [.Name x pos'] e pos) (Y0 te (uD i)):=by
 intro pins s σ H D I h;refine wpAny_Assign_Name (thn (he pins s σ H _ I h) fun v s1 ⟨y,H1,I1,r1,q1⟩=>?_) hs;exact jU I1 hN hi hx r1 (fun s2 I2=>⟨_,H1,I2,q1⟩) hf
end
section
variable {X:Cx}{pos:Pos}
noncomputable def Z41 (c:TT) (tb:TS):TS:=fun D σ H=>∃ W:Nat->St->Hp->Prop,(∃ m,W m σ H) /\ ∀ m σ H,W m σ H ->
 c σ H fun b H1=>if b=true then ∃ N:St->Hp->Prop,(∀ σ' H',N σ' H'->∃ m',m' < m /\ W m' σ' H') /\ tb { D with nx:=N,ct:=N,bk:=D.nx } σ H1 else D.nx σ H1
theorem Z1p (hp:PassesOwn (model X.prog X.w) X.A X.env X.xe) (hc:PT X c tc) (hb:PSs X body tb):PS X (.While c body [] pos) (Z41 tc tb):=by
 intro pins s σ H D I h;obtain⟨W,⟨m0,w0⟩,turn⟩:=h;refine wpAny_While (codeAny_whileLoop (fun n s'=>∃ σ' H',Inv X pins σ' H' s' /\ W n σ' H') ?_ m0 ⟨σ,H,I,w0⟩);rintro n s1 ⟨σ1,H1,I1,w1⟩;refine wpAny_passesOwn hp (thn (hc pins s1 σ1 H1 _ I1 (turn n σ1 H1 w1)) fun b s2 ⟨H2,I2,q2⟩=>?_);cases b with
 | true =>
  obtain⟨N,hN,q2⟩:=q2;rw [if_pos rfl];refine wpAny_passesOwn hp (thn (hb pins s2 σ1 H2 _ I2 q2) fun f s3 q3=>?_);cases f with
  | next =>
   obtain⟨σ3,H3,I3,n3⟩:=q3;obtain⟨m',hm,w3⟩:=hN σ3 H3 n3;exact⟨m',hm,σ3,H3,I3,w3⟩
  | cont =>
   obtain⟨σ3,H3,I3,n3⟩:=q3;obtain⟨m',hm,w3⟩:=hN σ3 H3 n3;exact⟨m',hm,σ3,H3,I3,w3⟩
  | brk=>exact q3
  | ret v=>exact q3
 | false =>
  rw [if_neg Bool.false_ne_true];exact wpAny_execs_nil ⟨σ1,H2,I2,q2⟩
end
structure It where
 go:Nat->Hp->Prop
 yld:Nat->Hp->V->Hp->Prop
 stop:Nat->Hp->Prop
noncomputable def vM (X:Cx) (pins:List (Addr × Obj)) (H:Hp) (b:Addr):Prop :=
 H b=none /\ b ≠ X.env.locals /\ b ∉ X.fs /\ (b ∈ X.ex \/ X.s₀.heap.objs.size <= b) /\ (∀ x c,X.env.cells.lookup x=some c->c ≠ b) /\ ∀ p ∈ X.pn ++ pins,p.1 ≠ b
theorem Inv.fpOk (I:Inv X pins σ H s) (hb:s.heap.objs.size <= b) (hn:H' b=none):vM X pins H' b:=by
 refine⟨hn,Nat.ne_of_gt (Nat.lt_of_lt_of_le I.lt hb),I.nofs hb,.inr (Nat.le_trans I.sz hb),fun x c e z=>?_,fun p hp z=>?_⟩
 .obtain⟨v,q⟩:=I.cell x c e;exact absurd (Nat.lt_of_lt_of_le q.lt (by rw [z];exact hb)) (Nat.lt_irrefl _)
 .exact absurd (Nat.lt_of_lt_of_le (Heap.lt_size (I.pin p hp).1) (by rw [z];exact hb)) (Nat.lt_irrefl _)
structure zC (P:Program) (w:World) (K:Frag) (tg:Expr) (J:It) (fp:List Addr) (it:Addr) (tn:Nat->Heap->Prop):Prop where
 mem:it ∈ fp
 obj:∀ i h,tn i h->∀ b ∈ fp,∃ o,h.get? b=some o /\ ∀ v,o.data ≠ .cell v
 keep:∀ i h h',tn i h->(∀ b ∈ fp,∀ o,h.get? b=some o->h'.get? b=some o)->tn i h'
 item:∀ (X:Cx),X.prog=P->X.w=w->X.K=K->X.calm=true->∀ (i:Nat) (pins:List (Addr × Obj)) (s:Shared) (σ:St) (H:Hp) (E:Value->Shared->Prop),Inv X pins σ H s->(∀ b ∈ fp,vM X pins H b)->tn i s.heap->J.go i H ->
  wpAny (model P w) X.A (pyNext (.ref it)) (fun r s1=>∃ u,r=some u /\
   wpAny (model P w) X.A (letOwnedTupleGo tg (.ref it) u) (fun _ s2=>∃ x H',Inv X pins σ H' s2 /\ RelV x u /\ J.yld i H x H' /\ tn (i + 1) s2.heap /\ ∀ b ∈ fp,H' b=none) E s1) E s
 done:∀ (X:Cx),X.prog=P->X.w=w->X.K=K->X.calm=true->∀ (i:Nat) (pins:List (Addr × Obj)) (s:Shared) (σ:St) (H:Hp) (E:Value->Shared->Prop),Inv X pins σ H s->(∀ b ∈ fp,vM X pins H b)->tn i s.heap->J.stop i H ->
  wpAny (model P w) X.A (pyNext (.ref it)) (fun r s1=>r=none /\ Inv X pins σ H s1) E s
 self:∀ (A:Around) (i:Nat) (s:Shared) (Q:Value->Shared->Prop) (E:Value->Shared->Prop),tn i s.heap->Q (.ref it) s->wpAny (model P w) A (pyIter (.ref it)) Q E s
noncomputable abbrev TI:=St->Hp->(It->Hp->Prop)->Prop
noncomputable def PIE (X:Cx) (pins:List (Addr × Obj)) (σ:St) (tg:Expr) (R:It->Hp->Prop) (itv:Value) (s2:Shared):Prop :=
 ∃ (it:Addr) (fp:List Addr) (tn:Nat->Heap->Prop) (J:It) (H':Hp),itv=.ref it /\ Inv X pins σ H' s2 /\ zC X.prog X.w X.K tg J fp it tn /\ tn 0 s2.heap /\ (∀ b ∈ fp,vM X pins H' b) /\ R J H'
noncomputable def PI (X:Cx) (tg iter:Expr) (wi:TI):Prop :=
 ∀ (pins:List (Addr × Obj)) (s:Shared) (σ:St) (H:Hp) (R:It->Hp->Prop),Inv X pins σ H s->wi σ H R ->
  wpAny (model X.prog X.w) X.A (eval iter X.env) (fun v s1=>wpAny (model X.prog X.w) X.A (pyIter v) (PIE X pins σ tg R) X.xe s1) X.xe s
theorem E4 (ho:s.heap.get? it=some o) (hc:o.cls=.type n) (hd:o.data=.fields vs)
  (hn:["enumerate","zip","dict_itemiterator","dict_reverseitemiterator","odict_iterator","itertools.zip_longest","itertools.pairwise"].contains n=false) (hQ:Q () s):wpAny M A (letOwnedTupleGo tg (.ref it) u) Q E s:=by
 unfold letOwnedTupleGo;cases tg <;> first
  | exact wpAny_pure hQ
  | (cases u <;> first
    | exact wpAny_pure hQ
    | (refine wpAny_bind (wpAny_load ho ?_)
       rw [hc,hd];show wpAny M A (if (["enumerate","zip","dict_itemiterator","dict_reverseitemiterator","odict_iterator","itertools.zip_longest","itertools.pairwise"].contains n && vs[0]? == some (rawInt _))=true then _ else _) Q E s;rw [if_neg (by intro h;rw [hn,Bool.false_and] at h;cases h)];exact wpAny_pure hQ))
noncomputable def Itl (K:Frag) (a:Addr):It :=
 ⟨fun i H=>∃ xs x,SqL K H a xs /\ xs[i]? = some x,fun i H x H'=>H'=H /\ ∀ xs,SqL K H a xs->xs[i]? = some x,fun i H=>∃ xs,SqL K H a xs /\ xs.length <= i⟩
noncomputable def Itt (K:Frag) (a:Addr):It :=
 ⟨fun i H=>∃ xs x,SqT K H a xs /\ xs[i]? = some x,fun i H x H'=>H'=H /\ ∀ xs,SqT K H a xs->xs[i]? = some x,fun i H=>∃ xs,SqT K H a xs /\ xs.length <= i⟩
noncomputable def Itr (lo:Int) (n:Nat):It:=⟨fun i _=>i < n,fun i H x H'=>H'=H /\ x=.int (lo + i),fun i _=>n <= i⟩
theorem X2 {P:Program}{w:World}{K:Frag}{tg:Expr}(a it:Addr):zC P w K tg (Itl K a) [it] it (fun i h=>h.IsListIter it a i) where
 mem:=by simp
 obj:=fun i h st b hb=>by
  have e:b=it:=by simpa using hb
  subst e;obtain⟨o,e,c,d⟩:=st;exact⟨o,e,fun v z=>by rw [d] at z;cases z⟩
 keep:=fun i h h' st k=>st.at fun o e=>k it (by simp) o e
 item:=by
  intro X hP hw hK hc i pins s σ H E I hf st hg;subst hP hw hK;obtain⟨xs,x,hq,hx⟩:=hg;obtain⟨its,rv,p,hz⟩:=I.list hq;obtain⟨u,hu,ru⟩:=rv.get hx;obtain⟨f0,f1,f2,f3,f4,f5⟩:=hf it (by simp);refine wpAny_pyNext_list_item st p.isList (x:=u) (by simpa using hu) fun h' st' sb=>?_;have I1:Inv X pins σ H { s with heap:=h' }:=I.turned (t':=s.toks) (fun b o hb e=>(sb.2 b hb).trans e) f0 f1 f3 f4 f5;obtain⟨o,e,c,d⟩:=id st';exact⟨u,rfl,E4 (s:={ s with heap:=h' }) e c d (by decide) ⟨x,H,I1,ru,⟨rfl,fun ys hy=>by rw [I.list_inj hy hq];exact hx⟩,st',fun b hb=>(hf b hb).1⟩⟩
 done:=by
  intro X hP hw hK hc i pins s σ H E I hf st hg;subst hP hw hK;obtain⟨xs,hq,hx⟩:=hg;obtain⟨its,rv,p,hz⟩:=I.list hq;obtain⟨f0,f1,f2,f3,f4,f5⟩:=hf it (by simp);have hl:=rv.length;exact wpAny_pyNext_list_end (I.ok.hd hc) st p.isList (by simp;omega) fun h' eb=>⟨rfl,I.turned (t':=s.toks) (fun b o hb e=>eb b o hb e) f0 f1 f3 f4 f5⟩
 self:=fun _ _ _ _ _ st h=>wpAny_pyIter_listiter st h
theorem K8 {P:Program}{w:World}{K:Frag}{tg:Expr}(a it:Addr):zC P w K tg (Itt K a) [it] it (fun i h=>h.IsTupleIter it a i) where
 mem:=by simp
 obj:=fun i h st b hb=>by
  have e:b=it:=by simpa using hb
  subst e;obtain⟨o,e,c,d⟩:=st;exact⟨o,e,fun v z=>by rw [d] at z;cases z⟩
 keep:=fun i h h' st k=>st.at fun o e=>k it (by simp) o e
 item:=by
  intro X hP hw hK hc i pins s σ H E I hf st hg;subst hP hw hK;obtain⟨xs,x,hq,hx⟩:=hg;obtain⟨its,rv,p,hz⟩:=I.tuple hq;obtain⟨u,hu,ru⟩:=rv.get hx;obtain⟨f0,f1,f2,f3,f4,f5⟩:=hf it (by simp);refine wpAny_pyNext_tuple_item st (show s.heap.IsTuple a its.toArray from p) (x:=u) (by simpa using hu) fun h' st' sb=>?_
  have I1:Inv X pins σ H { s with heap:=h' }:=I.turned (t':=s.toks) (fun b o hb e=>(sb.2 b hb).trans e) f0 f1 f3 f4 f5;obtain⟨o,e,c,d⟩:=id st';exact⟨u,rfl,E4 (s:={ s with heap:=h' }) e c d (by decide) ⟨x,H,I1,ru,⟨rfl,fun ys hy=>by rw [I.tuple_inj hy hq];exact hx⟩,st',fun b hb=>(hf b hb).1⟩⟩
 done:=by
  intro X hP hw hK hc i pins s σ H E I hf st hg;subst hP hw hK;obtain⟨xs,hq,hx⟩:=hg;obtain⟨its,rv,p,hz⟩:=I.tuple hq;obtain⟨f0,f1,f2,f3,f4,f5⟩:=hf it (by simp);have hl:=rv.length;exact wpAny_pyNext_tuple_end (I.ok.hd hc) st (show s.heap.IsTuple a its.toArray from p) (by simp;omega) fun h' eb=>⟨rfl,I.turned (t':=s.toks) (fun b o hb e=>eb b o hb e) f0 f1 f3 f4 f5⟩
 self:=fun _ _ _ _ _ st h=>wpAny_pyIter_tupleiter st h
theorem K9 {P:Program}{w:World}{K:Frag}{tg:Expr}(it:Addr) (lo:Int) (n:Nat):zC P w K tg (Itr lo n) [it] it (fun i h=>IsRangeIter h it (lo + (i:Nat) * 1) ((n:Int) - (i:Nat)) 1) where
 mem:=by simp
 obj:=fun i h st b hb=>by
  have e:b=it:=by simpa using hb
  subst e;exact⟨_,st,fun v z=>by
   have z':Data.fields _=Data.cell v:=z;cases z'⟩
 keep:=fun i h h' st k=>k it (by simp) _ st
 item:=by
  intro X hP hw hK hc i pins s σ H E I hf st hg;subst hP hw hK;obtain⟨f0,f1,f2,f3,f4,f5⟩:=hf it (by simp);have W:=Walks.range (prog:=X.prog) (w:=X.w) (I.ok.hd hc) it lo 1 n;refine W.item i s _ _ hg st fun v h' tk hv st' kk=>?_;obtain⟨t,rfl⟩:=hv;have I1:Inv X pins σ H { s with heap:=h',toks:=tk }:=I.turned (fun b o hb e=>kk b o (by simpa using hb) e) f0 f1 f3 f4 f5;refine⟨_,rfl,E4 (s:={ s with heap:=h',toks:=tk }) (n := "range_iterator") st' rfl rfl (by decide) ⟨.int (lo + i),H,I1,⟨t,?_⟩,⟨rfl,rfl⟩,st',fun b hb=>(hf b hb).1⟩⟩;rw [Int.mul_one]
 done:=by
  intro X hP hw hK hc i pins s σ H E I hf st hg;subst hP hw hK;obtain⟨f0,f1,f2,f3,f4,f5⟩:=hf it (by simp);exact wpAny_pyNext_range_end (I.ok.hd hc) st (by have:n <= i:=hg;omega) fun h' eb=>⟨rfl,I.turned (t':=s.toks) (fun b o hb e=>eb b o hb e) f0 f1 f3 f4 f5⟩
 self:=fun _ _ _ _ _ st h=>wpAny_pyIter_rangeiter st h
section
variable {X:Cx}{tg:Expr}
noncomputable def Z5K (K:Frag) (tl:TE):TI:=fun σ H R=>tl σ H fun x H1=>∃ a,x=.ref a /\ (∃ xs,SqL K H1 a xs) /\ R (Itl K a) H1
noncomputable def Z6s (K:Frag) (tl:TE):TI:=fun σ H R=>tl σ H fun x H1=>∃ a,x=.ref a /\ (∃ xs,SqT K H1 a xs) /\ R (Itt K a) H1
theorem Z3a {l:Expr}{tl:TE}(hl:PE X l tl):PI X tg l (Z5K X.K tl):=by
 intro pins s σ H R I h;refine thn (hl pins s σ H _ I h) fun v s1 ⟨x,H1,I1,r1,q1⟩=>?_;obtain⟨a,e,⟨xs,hq⟩,q⟩:=q1;subst e;cases r1;obtain⟨its,rv,p,hz⟩:=I1.list hq;refine wpAny_pyIter_list p.isList ?_;refine⟨s1.heap.objs.size,[s1.heap.objs.size],_,_,H1,rfl,I1.kept (t':=s1.toks) fun b o e=>Heap.get?_push_of_some _ e,X2 a _,⟨_,Heap.get?_push_size _ rfl,rfl,rfl⟩,fun b hb=>?_,q⟩;have e:b=s1.heap.objs.size:=by simpa using hb
 subst e;exact I1.fpOk (Nat.le_refl _) (I1.hok.fresh (Nat.le_refl _))
theorem Z4t {l:Expr}{tl:TE}(hl:PE X l tl):PI X tg l (Z6s X.K tl):=by
 intro pins s σ H R I h;refine thn (hl pins s σ H _ I h) fun v s1 ⟨x,H1,I1,r1,q1⟩=>?_;obtain⟨a,e,⟨xs,hq⟩,q⟩:=q1;subst e;cases r1;obtain⟨its,rv,p,hz⟩:=I1.tuple hq;refine wpAny_pyIter_tuple (show s1.heap.IsTuple a its.toArray from p) ?_
 refine⟨s1.heap.objs.size,[s1.heap.objs.size],_,_,H1,rfl,I1.kept (t':=s1.toks) fun b o e=>Heap.get?_push_of_some _ e,K8 a _,⟨_,Heap.get?_push_size _ rfl,rfl,rfl⟩,fun b hb=>?_,q⟩;have e:b=s1.heap.objs.size:=by simpa using hb
 subst e;exact I1.fpOk (Nat.le_refl _) (I1.hok.fresh (Nat.le_refl _))
theorem Z15 {pins:List (Addr × Obj)}{σ:St}{H:Hp}{s:Shared}{R:It->Hp->Prop}{E:Value->Shared->Prop}{lo hi:Int}{t u v:Tok}{tk:Nat}(I:Inv X pins σ H s) (h1:-(2 ^ 62) <= lo) (h2:lo < 2 ^ 62) (h3:-(2 ^ 62) <= hi) (h4:hi < 2 ^ 62)
  (q:R (Itr lo (hi - lo).toNat) H):wpAny (model X.prog X.w) X.A (pyIter (.ref s.heap.objs.size)) (PIE X pins σ tg R) E { s with heap:=s.heap.push { cls:=.type "range",data:=.fields #[.int lo t,.int hi u,.int 1 v] },toks:=tk }:=by
 refine wpAny_pyIter_range (IsRange.new ..) (small_one h1 h2 h3 h4) ?_;have I1:Inv X pins σ H { s with heap:=s.heap.push { cls:=.type "range",data:=.fields #[.int lo t,.int hi u,.int 1 v] },toks:=tk }:=I.kept fun b o e=>Heap.get?_push_of_some _ e;refine⟨(s.heap.push { cls:=.type "range",data:=.fields #[.int lo t,.int hi u,.int 1 v] }).objs.size,[(s.heap.push { cls:=.type "range",data:=.fields #[.int lo t,.int hi u,.int 1 v] }).objs.size],_,_,H,rfl,
  I1.kept (t':=tk) fun b o e=>Heap.get?_push_of_some _ e,K9 _ lo (hi - lo).toNat,?_,fun b hb=>?_,q⟩
 .have e1:lo + ((0:Nat):Int) * 1=lo:=by simp
  have e2:(((hi - lo).toNat:Nat):Int) - ((0:Nat):Int)=Builtin.Range.rangeSize lo hi 1:=by rw [rangeSize_one];split <;> omega
  show IsRangeIter _ _ (lo + ((0:Nat):Int) * 1) ((((hi - lo).toNat:Nat):Int) - ((0:Nat):Int)) 1;rw [e1,e2];exact Heap.get?_push_size _ rfl
 .have e:b=(s.heap.push { cls:=.type "range",data:=.fields #[.int lo t,.int hi u,.int 1 v] }).objs.size:=by simpa using hb
  subst e;exact I1.fpOk (Nat.le_refl _) (I1.hok.fresh (Nat.le_refl _))
noncomputable def Z5J (ta:TA):TI:=fun σ H R=>ta σ H fun vs H1=>∃ j:Int,vs=[.int j] /\ -(2 ^ 62) <= j /\ j < 2 ^ 62 /\ R (Itr 0 j.toNat) H1
theorem Z06 {a:Expr}{ta:TA}{p pos:Pos}(hg:Gl X "range") (hm:X.mg "range" = none) (ha:PA X [a] ta) (hs:starEach [a] X.env=[(false,eval a X.env)]:=by rfl):PI X tg (.Call (.Name "range" p) [a] [] pos) (Z5J ta):=by
 intro pins s σ H R I h;refine Call_ (jO I hg hm boot_range (PyProof.Rows.callWith_type1 (thn (ha pos pins s σ H _ I h) fun us s1 ⟨vs,H1,I1,r1,q1⟩=>?_) hs rfl));obtain⟨j,e,q1,q2,q⟩:=q1;subst e;cases r1 with
 | cons r rr =>
  cases rr;obtain⟨t,rfl⟩:=r;exact call_range_1 (Z15 I1 (by omega) (by omega) q1 q2 (by simpa using q))
noncomputable def Z6b (wi:TI) (g:TG) (tb:TS):TS:=fun D σ H=>wi σ H fun J H1=>∃ W:Nat->Nat->St->Hp->Prop,(∃ m,W 0 m σ H1) /\ ∀ i m σ H,W i m σ H ->
 (J.stop i H /\ D.nx σ H) \/ (J.go i H /\ ∃ N:St->Hp->Prop,(∀ σ' H',N σ' H'->∃ m',m' < m /\ W (i + 1) m' σ' H') /\ ∀ x H',J.yld i H x H'->g x σ H' fun σ2 H2=>tb { D with nx:=N,ct:=N,bk:=D.nx } σ2 H2)
noncomputable def tJ (fp:List Addr) (h:Heap):List (Addr × Obj):=fp.filterMap fun b=>(h.get? b).map fun o=>(b,o)
theorem kT (hb:b ∈ fp) (e:h.get? b=some o):(b,o) ∈ tJ fp h:=List.mem_filterMap.mpr ⟨b,hb,by rw [e];rfl⟩
theorem Z0f (hp:p ∈ tJ fp h):p.1 ∈ fp /\ h.get? p.1=some p.2:=by
 obtain⟨b,hb,e⟩:=List.mem_filterMap.mp hp;cases q:h.get? b with
 | none=>rw [q] at e;cases e
 | some o =>
  rw [q] at e;have e':(b,o)=p:=Option.some.inj e;subst e';exact⟨hb,q⟩
theorem Inv.pinned (I:Inv X pins σ H s) (hf:∀ b ∈ fp,vM X pins H b) (ho:∀ b ∈ fp,∃ o,s.heap.get? b=some o /\ ∀ v,o.data ≠ .cell v):Inv X (pins ++ tJ fp s.heap) σ H s :=
 I.pins_of fun p hp=>(List.mem_append.mp hp).elim (fun z=>I.pin p (List.mem_append_right _ z)) fun z=>by
  obtain⟨hb,e⟩:=Z0f z;obtain⟨f0,f1,f2,_⟩:=hf p.1 hb;obtain⟨o,e',d⟩:=ho p.1 hb;rw [e] at e';cases e';exact⟨e,f0,f1,f2,d⟩
theorem Inv.unpinned (I:Inv X (pins ++ pl) σ H s):Inv X pins σ H s:=I.pins_of fun p hp=>I.pin p (List.mem_append_right _ (List.mem_append_left _ hp))
theorem Z4r (hp:PassesOwn (model X.prog X.w) X.A X.env X.xe) (hc:X.calm=true) (hi:PI X tg iter wi) (hg:PG X tg g) (hb:PSs X body tb)
  (hs:∀ x,foldedSetIterable iter X.env x=pure x:=by intro _;rfl):PS X (.For tg iter body [] pos) (Z6b wi g tb):=by
 intro pins s σ H D I h;refine wpAny_For (thn (hi pins s σ H _ I h) fun v s1 h1=>thn h1 fun itv s2 h2=>?_) hs;obtain⟨it,fp,tn,J,H2,e,I2,T,st2,f2,W,⟨m0,w0⟩,turn⟩:=h2;subst e
 -- what stays true of the iterator's objects through the loop
 have stat:∀ {H':Hp},(∀ b ∈ fp,H' b=none)->∀ b ∈ fp,vM X pins H' b:=fun hn b hb=>⟨hn b hb,(f2 b hb).2⟩;refine codeAny_forLoop_any (fun n s'=>∃ i σ' H',Inv X pins σ' H' s' /\ tn i s'.heap /\ (∀ b ∈ fp,H' b=none) /\ W i n σ' H') ?_ m0 ⟨0,σ,H2,I2,st2,fun b hb=>(f2 b hb).1,w0⟩;rintro n s3 ⟨i,σ3,H3,I3,st3,fr3,w3⟩;rcases turn i n σ3 H3 w3 with ⟨stop,qn⟩ | ⟨go,N,hN,step⟩
 .refine wpAny_passesOwn hp (thn (T.done X rfl rfl rfl hc i pins s3 σ3 H3 X.xe I3 (stat fr3) st3 stop) fun r s4 ⟨hr,I4⟩=>?_);subst hr;exact wpAny_execs_nil ⟨σ3,H3,I4,qn⟩
 .refine wpAny_passesOwn hp (thn (T.item X rfl rfl rfl hc i pins s3 σ3 H3 X.xe I3 (stat fr3) st3 go) fun r s4 ⟨u,hr,h4⟩=>?_);subst hr;refine wpAny_passesOwn hp (thn h4 fun _ s5 ⟨x,H5,I5,r5,y5,st5,fr5⟩=>?_);have I5':=I5.pinned (stat fr5) (T.obj _ _ st5);refine wpAny_passesOwn hp (thn (hg _ s5 σ3 H5 x u _ I5' r5 (step x H5 y5)) fun _ s6 ⟨σ6,H6,I6,q6⟩=>?_);refine wpAny_passesOwn hp (thn (hb _ s6 σ6 H6 _ I6 q6) fun f s7 q7=>?_);have again:∀ {σ7:St}{H7:Hp},Inv X (pins ++ tJ fp s5.heap) σ7 H7 s7->N σ7 H7->∃ m,m < n /\ ∃ i σ' H',Inv X pins σ' H' s7 /\ tn i s7.heap /\ (∀ b ∈ fp,H' b=none) /\ W i m σ' H':=fun {σ7 H7} I7 n7=>by
   obtain⟨m',hm,w7⟩:=hN σ7 H7 n7;refine⟨m',hm,i + 1,σ7,H7,I7.unpinned,T.keep _ _ _ st5 fun b hb o e=>(I7.pin (b,o) (List.mem_append_right _ (List.mem_append_right _ (kT hb e)))).1,fun b hb=>?_,w7⟩;obtain⟨o,e,d⟩:=T.obj _ _ st5 b hb;exact (I7.pin (b,o) (List.mem_append_right _ (List.mem_append_right _ (kT hb e)))).2.1
  cases f with
  | next=>obtain⟨σ7,H7,I7,n7⟩:=q7;exact again I7 n7
  | cont=>obtain⟨σ7,H7,I7,n7⟩:=q7;exact again I7 n7
  | brk=>obtain⟨σ7,H7,I7,q7⟩:=q7;exact⟨σ7,H7,I7.unpinned,q7⟩
  | ret v=>obtain⟨x7,σ7,H7,I7,r7,q7⟩:=q7;exact⟨x7,σ7,H7,I7.unpinned,r7,q7⟩
end
noncomputable abbrev R2:=V->V->Hp->VK->Prop
noncomputable def OpR (X:Cx) (f:Value->Value->Sem Value) (r:R2):Prop :=
 ∀ (pins:List (Addr × Obj)) (s:Shared) (σ:St) (H:Hp) (x y:V) (v u:Value) (Q:VK),Inv X pins σ H s->RelV x v->RelV y u->r x y H Q ->
  wpAny (model X.prog X.w) X.A (f v u) (EP X pins σ Q) X.xe s
noncomputable def UnR (X:Cx) (f:Value->Sem Value) (r:V->Hp->VK->Prop):Prop :=
 ∀ (pins:List (Addr × Obj)) (s:Shared) (σ:St) (H:Hp) (x:V) (v:Value) (Q:VK),Inv X pins σ H s->RelV x v->r x H Q ->
  wpAny (model X.prog X.w) X.A (f v) (EP X pins σ Q) X.xe s
noncomputable def CallR (X:Cx) (f:Value) (r:List V->Hp->VK->Prop):Prop :=
 ∀ (pins:List (Addr × Obj)) (s:Shared) (σ:St) (H:Hp) (xs:List V) (us:List Value) (Q:VK),Inv X pins σ H s->Vals xs us->r xs H Q ->
  wpAny (model X.prog X.w) X.A (call f us) (EP X pins σ Q) X.xe s
noncomputable def tOp (r:R2) (ta tb:TE):TE:=fun σ H Q=>ta σ H fun x H1=>tb σ H1 fun y H2=>r x y H2 Q
noncomputable def tUn (r:V->Hp->VK->Prop) (ta:TE):TE:=fun σ H Q=>ta σ H fun x H1=>r x H1 Q
noncomputable def rI (C:Int->Int->Prop) (g:Int->Int->V):R2:=fun x y H Q=>∃ i j,x=.int i /\ y=.int j /\ C i j /\ Q (g i j) H
noncomputable def rI0 (g:Int->Int->V):R2:=fun x y H Q=>∃ i j,x=.int i /\ y=.int j /\ Q (g i j) H
noncomputable def rU (g:Int->V):V->Hp->VK->Prop:=fun x H Q=>∃ i,x=.int i /\ Q (g i) H
section
variable {X:Cx}{a b c:Expr}{ta tb tc:TE}{pos:Pos}
theorem Z4V (ha:PE X a ta) (hb:PE X b tb) {pins:List (Addr × Obj)}{s:Shared}{σ:St}{H:Hp}{R:V->V->Hp->Prop}(I:Inv X pins σ H s)
  (h:ta σ H fun x H1=>tb σ H1 fun y H2=>R x y H2) {Q:Value->Shared->Prop}{f:Value->Value->Sem Value}
  (hf:∀ v u s2 x y H2,Inv X pins σ H2 s2->RelV x v->RelV y u->R x y H2->wpAny (model X.prog X.w) X.A (f v u) Q X.xe s2) :
  wpAny (model X.prog X.w) X.A (eval a X.env) (fun v s₁=>wpAny (model X.prog X.w) X.A (eval b X.env) (fun u s₂=>wpAny (model X.prog X.w) X.A (f v u) Q X.xe s₂) X.xe s₁) X.xe s:=by
 refine thn (ha pins s σ H _ I h) fun v s1 ⟨x,H1,I1,r1,q1⟩=>?_;refine thn (hb pins s1 σ H1 _ I1 q1) fun u s2 ⟨y,H2,I2,r2,q2⟩=>?_;exact hf v u s2 x y H2 I2 r1 r2 q2
theorem pe_op (ho:OpR X (binaryOp op) r) (ha:PE X a ta) (hb:PE X b tb):PE X (.BinOp a op b pos) (tOp r ta tb):=by
 intro pins s σ H Q I h;exact wpAny_BinOp (Z4V ha hb I h fun v u s2 x y H2 I2 rx ry q=>ho pins s2 σ H2 x y v u Q I2 rx ry q)
theorem Z5x (ho:UnR X (unaryOp op) r) (ha:PE X a ta):PE X (.UnaryOp op a pos) (tUn r ta):=by
 intro pins s σ H Q I h;exact UnaryOp_ (thn (ha pins s σ H _ I h) fun v s1 ⟨x,H1,I1,r1,q1⟩=>ho pins s1 σ H1 x v Q I1 r1 q1)
theorem opI {f:Value->Value->Sem Value}{C:Int->Int->Prop}{g:Int->Int->Int}
  (rule:∀ (i j:Int) (t u:Tok) (s:Shared) (Q:Value->Shared->Prop) (E:Value->Shared->Prop),C i j->Q (.int (g i j) s.toks) { s with toks:=s.toks + 1 }->wpAny (model X.prog X.w) X.A (f (.int i t) (.int j u)) Q E s) :
  OpR X f (rI C fun i j=>.int (g i j)):=by
 intro pins s σ H x y v u Q I rx ry h;obtain⟨i,j,rfl,rfl,hc,q⟩:=h;obtain⟨t,rfl⟩:=rx;obtain⟨t',rfl⟩:=ry;exact rule i j t t' s _ _ hc ⟨.int (g i j),H,I.tok _,⟨_,rfl⟩,q⟩
theorem Z1E {f:Value->Value->Sem Value}{g:Int->Int->Int}
  (rule:∀ (i j:Int) (t u:Tok) (s:Shared) (Q:Value->Shared->Prop) (E:Value->Shared->Prop),Q (.int (g i j) s.toks) { s with toks:=s.toks + 1 }->wpAny (model X.prog X.w) X.A (f (.int i t) (.int j u)) Q E s) :
  OpR X f (rI0 fun i j=>.int (g i j)):=by
 intro pins s σ H x y v u Q I rx ry h;obtain⟨i,j,rfl,rfl,q⟩:=h;obtain⟨t,rfl⟩:=rx;obtain⟨t',rfl⟩:=ry;exact rule i j t t' s _ _ ⟨.int (g i j),H,I.tok _,⟨_,rfl⟩,q⟩
theorem Z3e {f:Value->Value->Sem Value}{g:Int->Int->Bool}
  (rule:∀ (i j:Int) (t u:Tok) (s:Shared) (Q:Value->Shared->Prop) (E:Value->Shared->Prop),Q (.bool (g i j)) s->wpAny (model X.prog X.w) X.A (f (.int i t) (.int j u)) Q E s) :
  OpR X f (rI0 fun i j=>.bl (g i j)):=by
 intro pins s σ H x y v u Q I rx ry h;obtain⟨i,j,rfl,rfl,q⟩:=h;obtain⟨t,rfl⟩:=rx;obtain⟨t',rfl⟩:=ry;exact rule i j t t' s _ _ ⟨.bl (g i j),H,I,rfl,q⟩
noncomputable def Z3E (i j:Int):Prop:=0 <= j /\ j <= 1000000 /\ i.natAbs < 2 ^ 64
theorem K7 (k:Nat):(0:Int) <= 2 ^ k:=by
 rw [two_pow_cast];exact Int.natCast_nonneg _
theorem eI:OpR X (binaryOp .Add) (rI0 fun i j=>.int (i + j)):=Z1E fun _ _ _ _ _ _ _ q=>add_int q
theorem cZ:OpR X (binaryOp .Sub) (rI0 fun i j=>.int (i - j)):=Z1E fun _ _ _ _ _ _ _ q=>sub_int q
theorem dP:OpR X (binaryOp .Mod) (rI (fun _ j=>0 < j) fun i j=>.int (i % j)):=opI fun i j _ _ _ _ _ hc q=>by
 have h1:(0:Int) < j:=hc;exact mod_int' (by omega) (by rw [Int.fmod_eq_emod_of_nonneg i (by omega)];exact q)
theorem Z1z:OpR X (binaryOp .Pow) (rI Z3E fun i j=>.int (i ^ j.toNat)):=opI fun _ _ _ _ _ _ _ hc q=>pow_int_small hc.1 hc.2.1 hc.2.2 q
theorem Z1y:OpR X (binaryOp .RShift) (rI (fun _ j=>0 <= j) fun i j=>.int (i / 2 ^ j.toNat)):=opI fun i j _ _ _ _ _ hc q =>
 rshift_int hc (by rw [Int.fdiv_eq_ediv_of_nonneg i (K7 _)];exact q)
theorem mF:OpR X (binaryOp .BitAnd) (rI0 fun i j=>.int (Builtin.bitAnd i j)):=Z1E fun _ _ _ _ _ _ _ q=>and_int q
theorem rA:OpR X (binaryOp .BitOr) (rI0 fun i j=>.int (Builtin.bitOr i j)):=Z1E fun _ _ _ _ _ _ _ q=>or_int q
theorem tK:OpR X (binaryOp .BitXor) (rI0 fun i j=>.int (Builtin.bitXor i j)):=Z1E fun _ _ _ _ _ _ _ q=>xor_int q
theorem unI {f:Value->Sem Value}{g:Int->Int}
  (rule:∀ (i:Int) (t:Tok) (s:Shared) (Q:Value->Shared->Prop) (E:Value->Shared->Prop),Q (.int (g i) s.toks) { s with toks:=s.toks + 1 }->wpAny (model X.prog X.w) X.A (f (.int i t)) Q E s) :
  UnR X f (rU fun i=>.int (g i)):=by
 intro pins s σ H x v Q I rx h;obtain⟨i,rfl,q⟩:=h;obtain⟨t,rfl⟩:=rx;exact rule i t s _ _ ⟨.int (g i),H,I.tok _,⟨_,rfl⟩,q⟩
theorem Z3W:UnR X (unaryOp .USub) (rU fun i=>.int (-i)):=unI fun _ _ _ _ _ q=>neg_int q
end
section
variable {X:Cx}{a b c:Expr}{ta tb tc:TE}{pos:Pos}
theorem Z2a (I:Inv X pins σ H s) (q:Q (.bl k) H) (e:k=k'):EP X pins σ Q (.bool k') s:=by
 subst e;exact⟨.bl k,H,I,rfl,q⟩
theorem Z5A:OpR X (compareOp .Lt) (rI0 fun i j=>.bl (decide (i < j))):=Z3e fun _ _ _ _ _ _ _ q=>lt_int q
theorem Z5B:OpR X (compareOp .LtE) (rI0 fun i j=>.bl (decide (i <= j))):=Z3e fun _ _ _ _ _ _ _ q=>le_int q
theorem Z1C:OpR X (compareOp .Gt) (rI0 fun i j=>.bl (decide (j < i))):=Z3e fun _ _ _ _ _ _ _ q=>gt_int q
theorem Z5C:OpR X (compareOp .GtE) (rI0 fun i j=>.bl (decide (j <= i))):=Z3e fun _ _ _ _ _ _ _ q=>ge_int q
theorem Z1B:OpR X (compareOp .Is) (fun x y H Q=>y=.non /\ Q (.bl (decide (x=.non))) H):=by
 intro pins s σ H x y v u Q I rx ry h;obtain⟨rfl,q⟩:=h;cases ry;refine is_none_gen (Z2a I q ?_);cases x <;> first
  | (cases rx;rfl)
  | (obtain⟨t,rfl⟩:=rx;rfl)
theorem Z3d:OpR X (compareOp .IsNot) (fun x y H Q=>y=.non /\ Q (.bl (!decide (x=.non))) H):=by
 intro pins s σ H x y v u Q I rx ry h;obtain⟨rfl,q⟩:=h;cases ry;refine isnot_none_gen (Z2a I q ?_);cases x <;> first
  | (cases rx;rfl)
  | (obtain⟨t,rfl⟩:=rx;rfl)
noncomputable def Z5G:HO->Bool
 | .lst _=>true
 | .ins _ _ _=>true
 | _=>false
theorem wD {pins:List (Addr × Obj)}{s:Shared}{σ:St}{H:Hp}{a:Addr}{o:HO}(I:Inv X pins σ H s) (h:H a=some o) (p:Z5G o=true):∃ ob,s.heap.get? a=some ob /\ ob.cls ≠ .type "tuple":=by
 cases o with
 | lst xs =>
  obtain⟨_,its,n,_,e⟩:xs.length <= sizeLine /\ ∃ (its:List Value) (n:Nat),Vals xs its /\ s.heap.get? a=some { cls:=.type "list",data:=.seq its.toArray n }:=I.hok a _ h;exact⟨_,e,(by show Value.type "list" ≠ .type "tuple";decide +kernel)⟩
 | ins C dx fs =>
  have x:=I.hok a _ h;obtain⟨_,_,_,e,_⟩:=x;exact⟨_,e,(by show Value.ref C ≠ .type "tuple";exact fun z=>by cases z)⟩
 | _=>exact absurd (show false=true from p) Bool.false_ne_true
theorem gE (b:Expr) {op:CmpOp}(h:op ≠ .In:=by decide) (h2:op ≠ .NotIn:=by decide):behindInMarks op b=false:=by
 have e1:(op == CmpOp.In)=false:=by cases op <;> first | rfl | exact absurd rfl h
 have e2:(op == CmpOp.NotIn)=false:=by cases op <;> first | rfl | exact absurd rfl h2
 cases b <;> simp [behindInMarks,e1,e2]
theorem rZ (ho:OpR X (compareOp op) r) (ha:PE X a ta) (hb:PE X b tb) (hm:behindInMarks op b=false):PE X (.Compare a [op] [b] pos) (tOp r ta tb):=by
 intro pins s σ H Q I h;exact wpAny_Compare1 (Z4V ha hb I h fun v u s2 x y H2 I2 rx ry q=>ho pins s2 σ H2 x y v u Q I2 rx ry q) hm
noncomputable def Z53 (t:TE):TT:=fun σ H Q=>t σ H fun x H'=>∃ k,x=.bl k /\ Q k H'
theorem Z34 (ho:OpR X (compareOp op) r) (ha:PE X a ta) (hb:PE X b tb) (hm:behindInMarks op b=false):PT X (.Compare a [op] [b] pos) (Z53 (tOp r ta tb)):=by
 intro pins s σ H Q I h;refine wpAny_isTrue_Compare1 (thn (ha pins s σ H _ I h) fun v s1 ⟨x,H1,I1,r1,q1⟩=>thn (hb pins s1 σ H1 _ I1 q1) fun u s2 ⟨y,H2,I2,r2,q2⟩ =>
  thn (ho pins s2 σ H2 x y v u _ I2 r1 r2 q2) fun c s3 ⟨z,H3,I3,r3,k,e,q3⟩=>?_) hm
 subst e;cases r3;exact wpAny_truthy_bool ⟨H3,I3,q3⟩
theorem qL:(sizeLine:Nat) < 2 ^ 63:=by rw [sizeLine_eq];decide
theorem nQ (r:Vals [x] us):∃ u,us=[u] /\ RelV x u:=by
 cases r with
 | cons r1 r2=>cases r2;exact⟨_,rfl,r1⟩
theorem R4 (r:Vals [x,y] us):∃ u w',us=[u,w'] /\ RelV x u /\ RelV y w':=by
 cases r with
 | cons r1 r2 =>
  cases r2 with
  | cons r3 r4=>cases r4;exact⟨_,_,rfl,r1,r3⟩
theorem Z0F (hc:X.calm=true):CallR X (.builtin "min") (fun xs H Q=>∃ i j,xs=[.int i,.int j] /\ Q (.int (if j < i then j else i)) H):=by
 intro pins s σ H xs us Q I r h;obtain⟨i,j,rfl,q⟩:=h;obtain⟨u,w',rfl,⟨t,rfl⟩,⟨t',rfl⟩⟩:=R4 r;refine min_two_ints (I.ok.hd hc) fun h' tk k=>⟨_,H,I.kept k,?_,q⟩;by_cases hj:j < i
 .rw [if_pos hj,if_pos hj];exact⟨_,rfl⟩
 .rw [if_neg hj,if_neg hj];exact⟨_,rfl⟩
theorem Z0G:CallR X (.type "int") (fun xs H Q=>(∃ i,xs=[.int i] /\ Q (.int i) H) \/ ∃ k,xs=[.bl k] /\ Q (.int (if k then 1 else 0)) H):=by
 intro pins s σ H xs us Q I r h;rcases h with ⟨i,rfl,q⟩ | ⟨k,rfl,q⟩
 .obtain⟨u,rfl,t,rfl⟩:=nQ r;exact call_int_int ⟨.int i,H,I,⟨_,rfl⟩,q⟩
 .obtain⟨u,rfl,r1⟩:=nQ r;cases r1;exact call_int_bool ⟨.int (if k then 1 else 0),H,I.tok _,⟨_,rfl⟩,q⟩
end
structure ObjM (h:Heap) (x dx C:Addr) (mA:Str->Option Value):Prop where
 obj:h.get? x=some (PySem.W.instObj C dx)
 ns:h.Ns1 dx mA
 ne:dx ≠ x
theorem Z0k {h:Heap}{dx:Addr}{mA:Str->Option Value}(n:h.Ns1 dx mA):∃ od,h.get? dx=some od /\ ∀ name,PySem.W.lookIn name od=some (mA name):=by
 obtain⟨o,es,ep,ho,hd,hk,_,hm⟩:=n;refine⟨o,ho,fun name=>?_⟩;have e:=hm name;unfold nsFind findBy at e;rw [<- Array.find?_toList] at e;unfold PySem.W.lookIn;rw [hd];dsimp only;split
 .rename_i y q;rw [q] at e;exact congrArg some e
 .rename_i q;rw [q] at e;have a:es.toList.any (·.refKey)=false:=by
   rw [List.any_eq_false];intro y hy;obtain⟨z,t,hkey⟩:=hk y (Array.mem_toList_iff.mp hy);simp [DictEntry.refKey,hkey]
  have a':¬ es.toList.any (·.refKey)=true:=by rw [a];exact Bool.false_ne_true
  rw [if_neg a'];exact congrArg some e
theorem ObjM.look (I:ObjM h x dx C mA):∃ od,PySem.W.InstAt h x (PySem.W.instObj C dx) C (some od) /\ ∀ name,PySem.W.lookIn name od=some (mA name) :=
 let ⟨od,ho,hl⟩:=Z0k I.ns
 ⟨od,⟨I.obj,rfl,rfl,ho⟩,hl⟩
section
variable {prog:Program}{w:World}{A:Around}{E:Value->Shared->Prop}{s:Shared}{K:Frag}{x dx C f:Addr}{mA:Str->Option Value}{name:Str}{v:Value}
theorem Z3p (X:K.In s.heap) (I:ObjM s.heap x dx C mA) (hg:PySem.W.plainGet K C name=true) (hh:PySem.W.hasDictIn K C=true)
  (ha:PySem.W.findIn K (.ref C) name=some none) (hv:mA name=some v) (hv':PySem.W.handedIn v=true) (h:Q v { s with toks:=s.toks + 1 }) :
  wpAny (model prog w) A (getAttr (.ref x) name expr) Q E s:=by
 obtain⟨od,J,hl⟩:=I.look;exact PySem.W.get_value X J (PySem.W.plainGet_of hg).1 (PySem.W.findObj_own hh ha rfl (by rw [hl,hv])) hv' h
theorem Z2D (X:K.In s.heap) (I:ObjM s.heap x dx C mA)
  (hs:PySem.W.findIn K (.ref C) "__setattr__" = some (some (.builtin "object.__setattr__"))) (hp:PySem.W.plainOver K C=true) (ht:PySem.W.takerIn K C name=some none) (hh:PySem.W.hasDictIn K C=true)
  (hw:PySem.Within mA ns) (hsz:ns.length <= sizeLine)
  (h:∀ h',ObjM h' x dx C (fun y=>if y=name then some v else mA y)->Heap.SameBut dx s.heap h'->Q () { s with heap:=h',toks:=s.toks + 2 }) :
  wpAny (model prog w) A (setAttr (.ref x) name v) Q E s:=by
 obtain⟨od,J,hl⟩:=I.look;refine PySem.W.set_plain X J hs (PySem.W.osa_open (s:={ s with toks:=s.toks + 1 }) (r:=none) X J hp ht fun b=>?_);obtain⟨cd,hc,hd'⟩:=PySem.W.any_some hh;have hx:s.heap.get? x=some ⟨.ref C,some dx,.plain,#[]⟩:=I.obj;refine wpAny_bind (wpAny_pure (wpAny_bind (wpAny_bind (wpAny_loadPart hx (wpAny_bind (PySem.W.Looks.here (s:={ s with toks:=s.toks + 1 }) (PySem.W.looks_clsIn X hc) ?_))))));rw [hd'];refine wpAny_pure (a:=some dx) (wpAny_bind (wpAny_pure (wpAny_bind ?_)));refine wpAny_nsSet1 (s:={ s with toks:=s.toks + 1 }) I.ns fun h' hn2 hs2=>?_;obtain⟨oD,esD,epD,hoD,hdD,hcD⟩:=hn2.count (PySem.Within.cons name v hw);refine wpAny_bind (wpAny_lookBehind hoD (by rw [hdD];exact pastItsLine_dict (Nat.le_trans hcD (by rw [List.length_cons];omega))) ?_);exact wpAny_pure (h _ ⟨(hs2.2 _ (Ne.symm I.ne)).trans I.obj,hn2,I.ne⟩ hs2)
theorem Z1N (X:K.In s.heap) (hm:PySem.W.makesIn K C=true)
  (hi:PySem.W.findIn K (.ref C) "__init__" = some (some (.ref f))) (hf:PySem.W.typeIn K (.ref f)=some (.type "function"))
  (h:codeAny (model prog w) (A.under (.builtin "type.__call__" ⟨.ref C :: vs,kw⟩)) (.call (.ref f) ⟨.ref (s.heap.objs.size + 1) :: vs,kw⟩) (PySem.W.InitBack (s.heap.objs.size + 1) R)
   { s with heap:=(s.heap.push PySem.W.emptyDict).push (PySem.W.instObj C s.heap.objs.size) }) :
  codeAny (model prog w) A (.call (.ref C) ⟨vs,kw⟩) R s:=by
 obtain⟨hh,g,d,t,os⟩:=s;exact PySem.W.make_core (PySem.W.makes_of X hm) (PySem.W.looks_findIn X hi) (fun self=>PySem.W.bind_fn X self hf) (.inl rfl) h
end
noncomputable def jN (f:Str) (v:V):List (Str × V)->List (Str × V)
 | []=>[(f,v)]
 | (g,x) :: r=>if g=f then (g,v) :: r else (g,x) :: jN f v r
theorem rC (f g:Str) (v:V):∀ fs:List (Str × V),(jN f v fs).lookup g=if g=f then some v else fs.lookup g
 | []=>by
  show List.lookup g [(f,v)]=_;by_cases h:g=f
  .have hb:(g == f)=true:=beq_iff_eq.mpr h;simp only [List.lookup,hb,if_pos h]
  .have hb:(g == f)=false:=beq_eq_false_iff_ne.mpr h;simp only [List.lookup,hb,if_neg h]
 | (k,x) :: r=>by
  have ih:=rC f g v r;rw [show jN f v ((k,x) :: r)=(if k=f then (k,v) :: r else (k,x) :: jN f v r) from rfl]
  by_cases hk:k=f
  .rw [if_pos hk];by_cases h:g=k
   .have hb:(g == k)=true:=beq_iff_eq.mpr h;simp only [List.lookup,hb,if_pos (h.trans hk)]
   .have hb:(g == k)=false:=beq_eq_false_iff_ne.mpr h;simp only [List.lookup,hb,if_neg (fun e:g=f=>h (e.trans hk.symm))]
  .rw [if_neg hk];by_cases h:g=k
   .have hb:(g == k)=true:=beq_iff_eq.mpr h;simp only [List.lookup,hb,if_neg (fun e:g=f=>hk (h.symm.trans e))]
   .have hb:(g == k)=false:=beq_eq_false_iff_ne.mpr h;simp only [List.lookup,hb];exact ih
theorem qP (f:Str) (v:V):∀ fs:List (Str × V),f ∈ (jN f v fs).map (·.1) /\ ∀ g,g ∈ fs.map (·.1)->g ∈ (jN f v fs).map (·.1)
 | []=>⟨by simp [jN],fun g h=>by simp at h⟩
 | (k,x) :: r=>by
  obtain⟨i1,i2⟩:=qP f v r;rw [show jN f v ((k,x) :: r)=(if k=f then (k,v) :: r else (k,x) :: jN f v r) from rfl]
  by_cases hk:k=f
  .rw [if_pos hk];subst hk;exact⟨by simp,fun g h=>by simpa using h⟩
  .rw [if_neg hk];refine⟨?_,fun g h=>?_⟩
   .rw [List.map_cons];exact List.mem_cons_of_mem _ i1
   .rw [List.map_cons] at h ⊢;rcases List.mem_cons.mp h with e | e
    .exact List.mem_cons.mpr (.inl e)
    .exact List.mem_cons_of_mem _ (i2 g e)
theorem rD (f:Str) (v:V):∀ fs:List (Str × V),(jN f v fs).length <= fs.length + 1
 | []=>by simp [jN]
 | (k,x) :: r=>by
  have ih:=rD f v r;rw [show jN f v ((k,x) :: r)=(if k=f then (k,v) :: r else (k,x) :: jN f v r) from rfl]
  by_cases hk:k=f
  .rw [if_pos hk,List.length_cons,List.length_cons];omega
  .rw [if_neg hk,List.length_cons,List.length_cons];omega
theorem RelO.some_of (r:RelO (some v) o):∃ u,o=some u /\ RelV v u:=by
 cases o with
 | none=>exact (show False from r).elim
 | some u=>exact⟨u,rfl,r⟩
theorem Z0s (r:RelV v u):PySem.W.handedIn u=true:=by
 cases v with
 | non=>cases (show u=Value.none from r);rfl
 | bl b=>cases (show u=Value.bool b from r);rfl
 | int i=>obtain⟨t,e⟩:=(show ∃ t,u=Value.int i t from r);cases e;rfl
 | str x=>obtain⟨t,e⟩:=(show ∃ t,u=Value.str x t from r);cases e;rfl
 | byt b=>obtain⟨t,e⟩:=(show ∃ t,u=Value.bytes b t from r);cases e;rfl
 | flt b=>obtain⟨t,e⟩:=(show ∃ t,u=Value.float b t from r);cases e;rfl
 | ref a=>cases (show u=Value.ref a from r);rfl
 | ty n=>cases (show u=Value.type n from r);rfl
section
variable {P:Program}{w:World}{H H':Hp}{h h':Heap}{a C dx:Addr}{fs fs':List (Str × V)}
theorem yL (hok:HOk P w H h) (e:H a=some (.ins C dx fs)):∃ mA,ObjM h a dx C mA /\ (∀ f,RelO (fs.lookup f) (mA f)) /\ PySem.Within mA (fs.map (·.1)) /\ fs.length <= 1000 /\ H dx=some (.own a):=by
 obtain⟨d,z,ne,ob,mA,n,r,q⟩:=(show ObjOk P w H h a (.ins C dx fs) from hok a _ e)
 exact⟨mA,⟨ob,n,ne⟩,r,q,z,d⟩
end
structure Cls (K:Frag) (C:Addr):Prop where
 pg:PySem.W.plainGet K C Str.empty=true
 hd:PySem.W.hasDictIn K C=true
 po:PySem.W.plainOver K C=true
 sa:PySem.W.findIn K (.ref C) "__setattr__" = some (some (.builtin "object.__setattr__"))
theorem Cls.get {K:Frag}{C:Addr}(c:Cls K C) (f:Str):PySem.W.plainGet K C f=true:=c.pg
noncomputable def NoAttr (K:Frag) (C:Addr) (f:Str):Prop:=PySem.W.findIn K (.ref C) f=some none
theorem NoAttr.taker {K:Frag}{C:Addr}{f:Str}(n:NoAttr K C f):PySem.W.takerIn K C f=some none:=by
 unfold PySem.W.takerIn;rw [show PySem.W.findIn K (.ref C) f=some none from n]
 rfl
structure Con (K:Frag) (C:Addr) (f:Str) (v:V) (u:Value):Prop where
 at_:PySem.W.findIn K (.ref C) f=some (some u)
 rel:RelV v u
 get:PySem.W.specialIn K u "__get__" = some none
 cp:PySem.W.copiedNames.contains f=false
structure Z6C (K:Frag) (C:Addr) (m:Str) (f:Addr):Prop where
 at_:PySem.W.findIn K (.ref C) m=some (some (.ref f))
 fn:PySem.W.isFn K (.ref f)=true
 kp:keepIn K (.ref f)=true
section
variable {X:Cx}{pins:List (Addr × Obj)}{σ:St}{H:Hp}{s:Shared}{a C dx:Addr}{fs:List (Str × V)}{f:Str}{v:V}{A:Around}{E:Value->Shared->Prop}
theorem P8 (I:Inv X pins σ H s) (e:H a=some (.ins C dx fs)) (c:Cls X.K C) (n:NoAttr X.K C f) (l:fs.lookup f=some v)
  (h:∀ u s',Inv X pins σ H s'->RelV v u->Q u s'):wpAny (model X.prog X.w) A (getAttr (.ref a) f b) Q E s:=by
 obtain⟨mA,O,r,_,_,_⟩:=yL I.hok e;obtain⟨u,hu,ru⟩:=RelO.some_of (v:=v) (o:=mA f) (by rw [<- l];exact r f);exact Z3p I.kIn O (c.get f) c.hd n hu (Z0s ru) (h u _ (I.tok _) ru)
theorem M3 (I:Inv X pins σ H s) (e:H a=some (.ins C dx fs)) (c:Cls X.K C) (n:NoAttr X.K C f) (hl:fs.length < 1000) (ry:RelV y u)
  (h:∀ s',Inv X pins σ (upd H a (.ins C dx (jN f y fs))) s'->Q () s'):wpAny (model X.prog X.w) A (setAttr (.ref a) f u) Q E s:=by
 obtain⟨mA,O,r,wi,_,ho⟩:=yL I.hok e;have hz:(fs.map (·.1)).length <= sizeLine:=by rw [List.length_map,sizeLine_eq];omega
 refine Z2D I.kIn O c.sa c.po n.taker c.hd wi hz fun h' O' sb=>h _ ?_;have hd:∃ o,h'.get? dx=some o:=let ⟨o,_,_,e',_⟩:=O'.ns;⟨o,e'⟩;refine I.write (x:=a) (e:=dx) (by rw [e];exact True.intro) (.inr ho) (fun b q hb z=>(sb.2 b hb).trans z) hd ?_;refine⟨by rw [aJ O.ne];exact ho,?_,O.ne,O'.obj,_,O'.ns,fun g=>?_,fun g hg=>?_⟩
 .have:=rD f y fs;omega
 .show RelO ((jN f y fs).lookup g) (if g=f then some u else mA g);rw [rC];by_cases q:g=f
  .rw [if_pos q,if_pos q];exact ry
  .rw [if_neg q,if_neg q];exact r g
 .by_cases q:g=f
  .rw [q];exact (qP f y fs).1
  .refine (qP f y fs).2 g (wi g fun z=>hg ?_);show (if g=f then some u else mA g)=none;rw [if_neg q];exact z
theorem Inv.made (I:Inv X pins σ H s):Inv X pins σ (upd (upd H s.heap.objs.size (.own (s.heap.objs.size + 1))) (s.heap.objs.size + 1) (.ins C s.heap.objs.size []))
  { s with heap:=(s.heap.push PySem.W.emptyDict).push (PySem.W.instObj C s.heap.objs.size) }:=by
 have e1:(s.heap.push PySem.W.emptyDict).get? s.heap.objs.size=some PySem.W.emptyDict:=Heap.get?_push_size s.heap rfl;have e2:((s.heap.push PySem.W.emptyDict).push (PySem.W.instObj C s.heap.objs.size)).get? (s.heap.objs.size + 1)=some (PySem.W.instObj C s.heap.objs.size):=by
  have:=Heap.get?_push_size (s.heap.push PySem.W.emptyDict) (o:=PySem.W.instObj C s.heap.objs.size) rfl
  rwa [Heap.size_push] at this
 have e3:(s.heap.push PySem.W.emptyDict).Ns s.heap.objs.size (fun _=>none):=⟨PySem.W.emptyDict,#[],_,e1,rfl,(fun e he=>absurd he (by simp)),fun _=>rfl⟩;have I1:=I.laid (a:=s.heap.objs.size) (o:=.own (s.heap.objs.size + 1)) (h':=s.heap.push PySem.W.emptyDict) (t':=s.toks) (fun b u q=>Heap.get?_push_of_some _ q) (Nat.le_refl _) ⟨_,e1⟩;refine I1.laid (a:=s.heap.objs.size + 1) (o:=.ins C s.heap.objs.size []) (t':=s.toks) (fun b u q=>Heap.get?_push_of_some _ q) (Nat.le_of_eq (Heap.size_push _ _)) ?_;have ne:s.heap.objs.size ≠ s.heap.objs.size + 1:=Nat.ne_of_lt (Nat.lt_succ_self _);refine⟨by rw [aJ ne,aR],Nat.zero_le _,ne,e2,fun _=>none,(Heap.Ns1.of_empty e3).at fun o q=>Heap.get?_push_of_some _ q,fun _=>True.intro,fun y hy=>absurd rfl hy⟩
theorem Z3z (hb:attributeBase e f env (eval e env)=eval e env)
  (h:wpAny (model prog w) A (eval e env) (fun o s₁=>wpAny (model prog w) A (getAttr o f true) Q E s₁) E s):wpAny (model prog w) A (eval (.Attribute e f pos) env) Q E s :=
 Attribute_any_ h (by rw [arm_eval_Attribute,hb])
end
noncomputable def Z6c (K:Frag) (ta:TE) (f:Str):TE:=fun σ H Q=>ta σ H fun x H1=>∃ a C dx fs v,x=.ref a /\ H1 a=some (.ins C dx fs) /\ Cls K C /\ NoAttr K C f /\ fs.lookup f=some v /\ Q v H1
noncomputable def Z2G (K:Frag) (ta tv:TE) (f:Str):TS:=fun D σ H=>tv σ H fun y H1=>ta σ H1 fun x H2=>∃ a C dx fs,x=.ref a /\ H2 a=some (.ins C dx fs) /\ Cls K C /\ NoAttr K C f /\ fs.length < 1000 /\
 D.nx σ (upd H2 a (.ins C dx (jN f y fs)))
section
variable {X:Cx}{o e value:Expr}{f:Str}{pos pos' tpos:Pos}{ta tv:TE}
theorem Z4y (he:PE X e ta) (hb:attributeBase e f X.env (eval e X.env)=eval e X.env):PE X (.Attribute e f pos) (Z6c X.K ta f):=by
 intro pins s σ H Q I h;refine Z3z hb (thn (he pins s σ H _ I h) fun u s1 ⟨x,H1,I1,rx,a,C,dx,fs,v,ex,ea,c,n,l,q⟩=>?_);subst ex;obtain rfl:u=Value.ref a:=rx;exact P8 I1 ea c n l fun u' s2 I2 ru=>⟨v,H1,I2,ru,q⟩
theorem N2 (ha:PE X o ta) (hv:PE X value tv) (hs:swapsWith value (some (.Attribute o f pos')) pos.line X.env=pure false):PS X (.Assign [.Attribute o f pos'] value pos) (Z2G X.K ta tv f):=by
 intro pins s σ H D I h;refine plainObj_wpAny_Assign_Attribute (thn (hv pins s σ H _ I h) fun u s1 ⟨y,H1,I1,ry,q⟩=>thn (ha pins s1 σ H1 _ I1 q) fun ov s2 ⟨x,H2,I2,rx,a,C,dx,fs,ex,ea,c,n,l,q2⟩=>?_) hs;subst ex;obtain rfl:ov=Value.ref a:=rx;exact M3 I2 ea c n l ry fun s3 I3=>⟨σ,_,I3,q2⟩
end
section
variable {X:Cx}{pins:List (Addr × Obj)}{σ:St}{H:Hp}{s:Shared}{A:Around}{E:Value->Shared->Prop}{Q:Value->Shared->Prop}{c:Value}{b:Bool}
inductive rV (K:Frag) (H:Hp):V->Value->Prop where
 | non:rV K H .non (.type "NoneType")
 | bl (x:Bool):rV K H (.bl x) (.type "bool")
 | int (i:Int):rV K H (.int i) (.type "int")
 | str (x:Str):rV K H (.str x) (.type "str")
 | flt (x:UInt64):rV K H (.flt x) (.type "float")
 | lst {a:Addr}{xs:List V}(e:H a=some (.lst xs)):rV K H (.ref a) (.type "list")
 | frz {a:Addr}{o:Obj}{xs:List V}(e:H a=some (.frz o (.lst xs))):rV K H (.ref a) (.type "list")
 | tup {a:Addr}{xs:List V}(e:H a=some (.tup xs)):rV K H (.ref a) (.type "tuple")
 | dK {a:Addr}{kvs:List (Key × V)}(e:H a=some (.dK kvs)):rV K H (.ref a) (.type "dict")
 | dT {a:Addr}{kvs:List (List Key × V)}(e:H a=some (.dT kvs)):rV K H (.ref a) (.type "dict")
 | ins {a C dx:Addr}{fs:List (Str × V)}(e:H a=some (.ins C dx fs)) (cl:Cls K C) (ha:PySem.W.findIn K (.ref C) "__class__" = some (some (.builtin "object.__class__")))
   (hn:PySem.W.specialIn K (.builtin "object.__class__") "__get__" = some (some (.builtin "getset_descriptor.__get__"))) (htk:PySem.W.takesIn K (.builtin "object.__class__")=some true)
   (hm:PySem.W.mroIn K C (.type "object")=some true):rV K H (.ref a) (.ref C)
theorem nE (I:Inv X pins σ H s) (rx:RelV x u) (ty:rV X.K H x t) (e:PySem.W.kitOne X.K t c=some b) (h:∀ tk,Q (.bool b) { s with toks:=tk }) :
  wpAny (model X.prog X.w) A (call (.builtin "isinstance") [u,c]) Q E s:=by
 cases ty with
 | non=>cases (show u=Value.none from rx);exact PySem.W.kia_one PySem.W.kitx_none I.kIn True.intro e (fun z=>nomatch z) h
 | bl y=>cases (show u=Value.bool y from rx);exact PySem.W.kia_one PySem.W.kitx_bool I.kIn True.intro e (fun z=>nomatch z) h
 | int i=>obtain⟨t,q⟩:=(show ∃ t,u=Value.int i t from rx);cases q;exact PySem.W.kia_one PySem.W.kitx_int I.kIn True.intro e (fun z=>nomatch z) h
 | str y=>obtain⟨t,q⟩:=(show ∃ t,u=Value.str y t from rx);cases q;exact PySem.W.kia_one PySem.W.kitx_str I.kIn True.intro e (fun z=>nomatch z) h
 | flt y=>obtain⟨t,q⟩:=(show ∃ t,u=Value.float y t from rx);cases q;exact PySem.W.kia_one PySem.W.kitx_float I.kIn True.intro e (fun z=>nomatch z) h
 | @lst a xs ea =>
  cases (show u=Value.ref a from rx)
  obtain⟨_,_,n,_,h1⟩:=(show ObjOk X.prog X.w H s.heap a (.lst xs) from I.hok a _ ea)
  exact PySem.W.kia_one PySem.W.kitx_list I.kIn ⟨_,h1,rfl⟩ e (fun z=>nomatch z) h
 | @frz a ob xs ea =>
  cases (show u=Value.ref a from rx)
  obtain⟨_,_,_,n,_,h1⟩:=(show ObjOk X.prog X.w H s.heap a (.frz ob (.lst xs)) from I.hok a _ ea)
  exact PySem.W.kia_one PySem.W.kitx_list I.kIn ⟨_,h1,rfl⟩ e (fun z=>nomatch z) h
 | @tup a xs ea =>
  cases (show u=Value.ref a from rx)
  obtain⟨_,_,_,p⟩:=(show ObjOk X.prog X.w H s.heap a (.tup xs) from I.hok a _ ea)
  obtain⟨o,h1,h2,_⟩:=p;exact PySem.W.kia_one PySem.W.kitx_tuple I.kIn ⟨o,h1,h2⟩ e (fun z=>nomatch z) h
 | @dK a kvs ea =>
  cases (show u=Value.ref a from rx)
  obtain⟨_,_,vs,_,p⟩:=(show ObjOk X.prog X.w H s.heap a (.dK kvs) from I.hok a _ ea)
  obtain⟨o,es,ep,h1,h2,_⟩:=p;exact PySem.W.kia_one PySem.W.kitx_dict I.kIn ⟨o,h1,h2.1⟩ e (fun z=>nomatch z) h
 | @dT a kvs ea =>
  cases (show u=Value.ref a from rx)
  obtain⟨_,_,xs,_,o,es,ep,h1,h2,_⟩:=(show ObjOk X.prog X.w H s.heap a (.dT kvs) from I.hok a _ ea)
  exact PySem.W.kia_one PySem.W.kitx_dict I.kIn ⟨o,h1,h2.1⟩ e (fun z=>nomatch z) h
 | @ins a C dx fs ea cl ha hn htk hm =>
  cases (show u=Value.ref a from rx)
  obtain⟨mA,O,_⟩:=yL I.hok ea;obtain⟨od,J,_⟩:=O.look;exact PySem.W.kia_one (PySem.W.kitx_own (cl.get _) cl.hd ha hn htk hm) I.kIn J e (fun z=>nomatch z) h
end
structure Room (k:Nat) (A:Around):Prop where
 hd:A.handled=none
 dp:A.depth + 3 * k + 5 < recursionLimit
 un:A.units + 16 * k + 200 < cLine
theorem Room.mono (r:Room k A) (h:j <= k):Room j A:=⟨r.hd,by have:=r.dp;omega,by have:=r.un;omega⟩
theorem Room.deeper (r:Room (k + 1) A) (env:Env):Room k (A.deeper env) :=
 ⟨r.hd,by have:=r.dp;show A.depth + 1 + 3 * k + 5 < _;omega,by have:=r.un;show A.units + 3 + 16 * k + 200 < _;omega⟩
theorem Room.in1 (r:Room (k + 1) A):Room k A.in1 :=
 ⟨r.hd,by have:=r.dp;show A.depth + 3 * k + 5 < _;omega,by have:=r.un;show A.units + 1 + 16 * k + 200 < _;omega⟩
theorem O8 {A:Around}{C:Addr}{us:List Value}{kw:List (Str × Value)}:(A.under (.builtin "type.__call__" ⟨.ref C :: us,kw⟩)).depth=A.depth + 1:=by
 first | rfl | simp [Around.under,Code.weight,Code.isCreation,Code.isGuard,Code.isCaller,Code.frames,Code.isFrame,guardIds]
theorem O7 {A:Around}{C:Addr}{us:List Value}{kw:List (Str × Value)}:(A.under (.builtin "type.__call__" ⟨.ref C :: us,kw⟩)).units=A.units + 1:=by
 first | rfl | simp [Around.under,Code.cUnits,Code.frames,Code.isFrame]
theorem Room.make (r:Room (k + 1) A) (C:Addr) (us:List Value) (kw:List (Str × Value)):Room k (A.under (.builtin "type.__call__" ⟨.ref C :: us,kw⟩)) :=
 ⟨r.hd,by have:=r.dp;rw [O8];omega,by have:=r.un;rw [O7];omega⟩
theorem Room.depth (r:Room k A):A.depth < recursionLimit:=by have:=r.dp;omega
theorem Room.units (r:Room k A):A.units + 64 < cLine:=by have:=r.un;omega
noncomputable def Z43:TA:=fun _ H Q=>Q [] H
noncomputable def S8 (ta:TE) (tr:TA):TA:=fun σ H Q=>ta σ H fun x H1=>tr σ H1 fun xs H2=>Q (x :: xs) H2
section
variable {X:Cx}{e:Expr}{es:List Expr}{te:TE}{t:TA}{pos:Pos}
theorem pa_nil:PA X [] Z43:=fun _ _ _ _ H Q I h=>Calls.spliced_nil ⟨[],H,I,.nil,h⟩
theorem pa_cons (ha:PE X e te) (hr:PA X es t) (hs:starEach (e :: es) X.env=(false,eval e X.env) :: starEach es X.env:=by rfl):PA X (e :: es) (S8 te t):=by
 intro pos pins s σ H Q I h;rw [hs];show wpAny _ _ (spliced ((false,eval e X.env) :: backTo pos (starEach es X.env))) _ _ s;refine Calls.spliced_cons (thn (ha pins s σ H _ I h) fun u s1 ⟨x,H1,I1,r1,q1⟩=>?_);exact thn (hr pos pins s1 σ H1 _ I1 q1) fun us s2 ⟨xs,H2,I2,r2,q2⟩=>⟨x :: xs,H2,I2,.cons r1 r2,q2⟩
noncomputable def Z65 (t:TA):TE:=fun σ H Q=>t σ H fun xs H1=>xs.length <= sizeLine /\ ∀ p,H1 p=none->Q (.ref p) (upd H1 p (.tup xs))
noncomputable def Z69 (t:TA):TE:=fun σ H Q=>t σ H fun xs H1=>xs.length <= sizeLine /\ ∀ p,H1 p=none->Q (.ref p) (upd H1 p (.lst xs))
theorem pe_tup (h:PA X es t):PE X (.Tuple es x1 pos) (Z65 t):=by
 intro pins s σ H Q I hq;refine wpAny_Tuple_spliced (thn (h pos pins s σ H _ I hq) fun us s1 ⟨xs,H1,I1,r,z,q⟩=>⟨by rw [<- r.length];exact z,?_⟩);have hf:H1 s1.heap.objs.size=none:=I1.hok.fresh (Nat.le_refl _);refine⟨.ref s1.heap.objs.size,upd H1 s1.heap.objs.size (.tup xs),I1.laid (t':=s1.toks) (fun b u e=>Heap.get?_push_of_some _ e) (Nat.le_refl _) ?_,rfl,q _ hf⟩;exact⟨z,us,r,⟨_,Heap.get?_push_size _ rfl,rfl,_,rfl⟩⟩
theorem pe_lst (h:PA X es t):PE X (.List es pos) (Z69 t):=by
 intro pins s σ H Q I hq;refine wpAny_List_spliced (thn (h pos pins s σ H _ I hq) fun us s1 ⟨xs,H1,I1,r,z,q⟩=>⟨by rw [<- r.length];exact z,?_⟩);have hf:H1 s1.heap.objs.size=none:=I1.hok.fresh (Nat.le_refl _);refine⟨.ref s1.heap.objs.size,upd H1 s1.heap.objs.size (.lst xs),I1.laid (t':=s1.toks) (fun b u e=>Heap.get?_push_of_some _ e) (Nat.le_refl _) ?_,rfl,q _ hf⟩;exact⟨z,us,0,r,Heap.get?_push_size _ rfl⟩
end
noncomputable abbrev Sp:=List V->Hp->VK->XK->Prop
noncomputable abbrev CXT:=List Env->Hp->Shared->XK->Value->Shared->Prop
structure Env0 (P:Program) (w:World) (K:Frag) (mg:Str->Option Value) (base:Heap) (A:Around) (outer:List Env) (s:Shared) (H:Hp):Prop where
 frames:A.frames=some outer
 mod:Mod K mg base
 bs:∀ b o,base.get? b=some o->s.heap.get? b=some o /\ H b=none
 bsz:base.objs.size <= s.heap.objs.size
 funs:s.heap.FunFrames base outer
 frf:∀ b ∈ frs outer,H b=none
 hok:HOk P w H s.heap
 bare:AllBare s.gens
noncomputable def CE (outer:List Env) (P:Program) (w:World) (H:Hp) (s:Shared) (Q:VK) (u:Value) (s':Shared):Prop :=
 ∃ v H',s'.os=s.os /\ AllBare s'.gens /\ Un (frs outer) [] H H' s.heap s'.heap /\ HOk P w H' s'.heap /\ RelV v u /\ Q v H'
noncomputable def CR (CX:CXT) (outer:List Env) (P:Program) (w:World) (H:Hp) (s:Shared) (Q:VK) (E:XK) (r:Result) (s':Shared):Prop :=
 match r with
 | .ok (.ret u)=>CE outer P w H s Q u s'
 | .ok _=>False
 | .error e=>CX outer H s E e s'
structure bR (P:Program) (w:World) (K:Frag) (mg:Str->Option Value) (base:Heap) (CX:CXT) (k:Nat) (f:Addr) (fd:FuncData) (ps:List Str) (sp:Sp):Prop where
 len:∀ vs H Q E,sp vs H Q E->vs.length=ps.length
 run:∀ (A:Around) (outer:List Env) (s:Shared) (H:Hp) (args:Args) (us:List Value) (vs:List V) (Q:VK) (E:XK),Room k A->Env0 P w K mg base A outer s H->BindsTo s fd args (ps.zip us)->Vals vs us->sp vs H Q E ->
  codeAny (model P w) A (.call (.ref f) args) (CR CX outer P w H s Q E) s
theorem Env0.make {P:Program}{w:World}{K:Frag}{mg:Str->Option Value}{base:Heap}{A:Around}{outer:List Env}{s:Shared}{H:Hp}(e:Env0 P w K mg base A outer s H) (C:Addr) (us:List Value) (kw:List (Str × Value)) :
  Env0 P w K mg base (A.under (.builtin "type.__call__" ⟨.ref C :: us,kw⟩)) outer s H:=⟨by first | exact e.frames | (simpa [Around.under,Code.envs,Code.isFrame,pushEnvs] using e.frames),e.mod,e.bs,e.bsz,e.funs,e.frf,e.hok,e.bare⟩
theorem Env0.in1 {P:Program}{w:World}{K:Frag}{mg:Str->Option Value}{base:Heap}{A:Around}{outer:List Env}{s:Shared}{H:Hp}(e:Env0 P w K mg base A outer s H) :
  Env0 P w K mg base A.in1 outer s H:=⟨e.frames,e.mod,e.bs,e.bsz,e.funs,e.frf,e.hok,e.bare⟩
section
variable {X:Cx}{pins:List (Addr × Obj)}{σ:St}{H:Hp}{s s':Shared}
theorem Inv.env0 (I:Inv X pins σ H s):Env0 X.prog X.w X.K X.mg X.base X.A X.stack s H :=
 ⟨I.ok.frames,I.ok.mod,I.bs,Nat.le_trans I.ok.bsz I.sz,I.stack,I.stkFree,I.hok,I.bare⟩
theorem Inv.after (I:Inv X pins σ H s) (h:CE X.stack X.prog X.w H s Q u s'):EP X pins σ Q u s':=by
 obtain⟨v,H',os,bare,un,hok,r,q⟩:=h;obtain⟨hh,g,d,t,os'⟩:=s';obtain rfl:os'=s.os:=os;exact⟨v,H',I.call (h':=hh) (g':=g) (d':=d) (t':=t) (ch:=[]) un hok bare (fun b z=>absurd z (by simp)),r,q⟩
end
noncomputable def Z5b (sp:Sp) (dvs:List V) (E:XK) (t:TA):TE:=fun σ H Q=>t σ H fun vs H1=>sp (vs ++ dvs) H1 Q E
noncomputable def Z57 (C:Addr) (sp:Sp) (dvs:List V) (E:XK) (t:TA):TE:=fun σ H Q=>t σ H fun vs H1=>∀ x dx,H1 x=none->H1 dx=none->dx ≠ x ->
 sp (.ref x :: (vs ++ dvs)) (upd (upd H1 dx (.own x)) x (.ins C dx [])) (fun v H2=>v=.non /\ Q (.ref x) H2) E
noncomputable def Binds (K:Frag) (fd:FuncData) (ps:List Str) (ds:List Value):Prop :=
 ∀ (s:Shared) (us:List Value),K.In s.heap->(us ++ ds).length=ps.length->BindsTo s fd ⟨us,[]⟩ (ps.zip (us ++ ds))
theorem Binds.all {K:Frag}{fd:FuncData}{ps:List Str}(h:∀ us:List Value,us.length=ps.length->bindArgs fd ⟨us,[]⟩=pure (ps.zip us)):Binds K fd ps []:=fun s us _ hl=>by
 rw [List.append_nil] at hl ⊢;exact .of_eq (h us hl)
noncomputable def uN (CX:CXT) (X:Cx) (E:XK):Prop:=∀ (pins:List (Addr × Obj)) (σ:St) (H:Hp) (s:Shared) (e:Value) (s':Shared),Inv X pins σ H s->CX X.stack H s E e s'->X.xe e s'
section
variable {X:Cx}{CX:CXT}{k:Nat}{f C:Addr}{fd:FuncData}{ps:List Str}{sp:Sp}{dvs:List V}{ds:List Value}{E:XK}{x m:Str}{p pos apos:Pos}{e o:Expr}{es:List Expr}{ta:TE}{t:TA}
theorem Z48 (F:bR X.prog X.w X.K X.mg X.base CX k f fd ps sp) (hr:Room k X.A) (hb:Binds X.K fd ps ds) (hd:Vals dvs ds) (hx:uN CX X E)
  (I:Inv X pins σ H s) (r:Vals vs us) (h:sp (vs ++ dvs) H Q E):wpAny (model X.prog X.w) X.A (call (.ref f) us) (EP X pins σ Q) X.xe s:=by
 have r2:Vals (vs ++ dvs) (us ++ ds):=r.append hd;have hl:(us ++ ds).length=ps.length:=by rw [<- r2.length];exact F.len _ _ _ _ h
 refine wpAny_call (codeAny_mono (F.run X.A X.stack s H ⟨us,[]⟩ (us ++ ds) (vs ++ dvs) Q E hr I.env0 (hb s us I.kIn hl) r2 h) fun r s' hq=>?_);cases r with
 | error e=>exact hx pins σ H s e s' I hq
 | ok fl =>
  cases fl with
  | ret u=>exact I.after hq
  | next=>exact False.elim hq
  | brk=>exact False.elim hq
  | cont=>exact False.elim hq
theorem pe_call (F:bR X.prog X.w X.K X.mg X.base CX k f fd ps sp) (hr:Room k X.A) (hg:Gl X x) (hm:X.mg x=some (.ref f)) (hk:keepIn X.K (.ref f)=true) (hb:Binds X.K fd ps ds) (hd:Vals dvs ds) (hx:uN CX X E)
  (ha:PA X (e :: es) t) (hdb:(x == ("__debug__" : Str))=false:=by decide) (he:starEach (e :: es) X.env=(false,eval e X.env) :: starEach es X.env:=by rfl) (hpl:(backTo pos (starEach es X.env)).any (·.1)=false:=by rfl) :
  PE X (.Call (.Name x p) (e :: es) [] pos) (Z5b sp dvs E t):=by
 intro pins s σ H Q I h;refine wpAny_Call_Name_kw (sB I hg hm ?_ hdb);refine PySem.W.callWith_K (h₀:=X.base) I.ok.mod.kin hk (thn (ha pos pins s σ H _ I h) fun us s1 ⟨vs,H1,I1,r,q⟩=>⟨I1.kIn,?_⟩) he hpl;exact Z48 F hr hb hd hx I1 r q
structure Mk (K:Frag) (C f:Addr):Prop where
 makes:PySem.W.makesIn K C=true
 init:PySem.W.findIn K (.ref C) "__init__" = some (some (.ref f))
 fn:PySem.W.isFn K (.ref f)=true
 kp:keepIn K (.ref C)=true
theorem Z12 (M:Mk X.K C f) (F:bR X.prog X.w X.K X.mg X.base CX k f fd ps sp) (hr:Room (k + 1) X.A) (hb:Binds X.K fd ps ds) (hd:Vals dvs ds)
  (hx:uN CX X E) (I:Inv X pins σ H s) (r:Vals vs us)
  (h:∀ x dx,H x=none->H dx=none->dx ≠ x->sp (.ref x :: (vs ++ dvs)) (upd (upd H dx (.own x)) x (.ins C dx [])) (fun v H2=>v=.non /\ Q (.ref x) H2) E) :
  wpAny (model X.prog X.w) X.A (call (.ref C) us) (EP X pins σ Q) X.xe s:=by
 have hq:=h (s.heap.objs.size + 1) s.heap.objs.size (I.hok.fresh (Nat.le_succ _)) (I.hok.fresh (Nat.le_refl _)) (Nat.ne_of_lt (Nat.lt_succ_self _));have I2:=Inv.made (C:=C) I;have r2:Vals (V.ref (s.heap.objs.size + 1) :: (vs ++ dvs)) (Value.ref (s.heap.objs.size + 1) :: (us ++ ds)):=.cons rfl (r.append hd);have hl:(Value.ref (s.heap.objs.size + 1) :: us ++ ds).length=ps.length:=by
  have e:=r2.length;rw [F.len _ _ _ _ hq] at e;exact e.symm
 refine wpAny_call (Z1N (f:=f) I.kIn M.makes M.init (beq_iff_eq.mp M.fn) (codeAny_mono (F.run _ X.stack _ _ ⟨Value.ref (s.heap.objs.size + 1) :: us,[]⟩ (Value.ref (s.heap.objs.size + 1) :: (us ++ ds)) _ _ E (hr.make C us [])
  (I2.env0.make C us []) (hb _ (Value.ref (s.heap.objs.size + 1) :: us) I2.kIn hl) r2 hq) fun r s' hq'=>?_))
 cases r with
 | error e=>exact hx pins σ _ _ e s' I2 hq'
 | ok fl =>
  cases fl with
  | ret u =>
   obtain⟨v,H',I3,rv,ev,q3⟩:=I2.after hq';subst ev;exact⟨rv,⟨V.ref (s.heap.objs.size + 1),H',I3,rfl,q3⟩⟩
  | next=>exact False.elim hq'
  | brk=>exact False.elim hq'
  | cont=>exact False.elim hq'
theorem pe_make (M:Mk X.K C f) (F:bR X.prog X.w X.K X.mg X.base CX k f fd ps sp) (hr:Room (k + 1) X.A) (hg:Gl X x) (hm:X.mg x=some (.ref C)) (hb:Binds X.K fd ps ds) (hd:Vals dvs ds) (hx:uN CX X E)
  (ha:PA X (e :: es) t) (hdb:(x == ("__debug__" : Str))=false:=by decide) (he:starEach (e :: es) X.env=(false,eval e X.env) :: starEach es X.env:=by rfl) (hpl:(backTo pos (starEach es X.env)).any (·.1)=false:=by rfl) :
  PE X (.Call (.Name x p) (e :: es) [] pos) (Z57 C sp dvs E t):=by
 intro pins s σ H Q I h;refine wpAny_Call_Name_kw (sB I hg hm ?_ hdb);refine PySem.W.callWith_K (h₀:=X.base) I.ok.mod.kin M.kp (thn (ha pos pins s σ H _ I h) fun us s1 ⟨vs,H1,I1,r,q⟩=>⟨I1.kIn,?_⟩) he hpl;exact Z12 M F hr hb hd hx I1 r q
end
section
variable {X:Cx}{CX:CXT}{k:Nat}{f C:Addr}{fd:FuncData}{ps ks:List Str}{sp:Sp}{E:XK}{x m:Str}{p pos apos kpos:Pos}{e o:Expr}{es:List Expr}{kws:List Keyword}{te ta:TE}{t tk:TA}{nm:Option Str}
structure Z6z (K:Frag) (fd:FuncData) (ps ks:List Str) (g:List Value->List Value->List Value) (gV:List V->List V->List V):Prop where
 to:∀ (s:Shared) (us ws:List Value),K.In s.heap->(g us ws).length=ps.length->BindsTo s fd ⟨us,ks.zip ws⟩ (ps.zip (g us ws))
 rel:∀ {vs:List V}{us:List Value}{zs:List V}{ws:List Value},Vals vs us->Vals zs ws->Vals (gV vs zs) (g us ws)
variable {g:List Value->List Value->List Value}{gV:List V->List V->List V}
end
structure aS (N P:List Str) (sc:Scope):Prop where
 kind:sc.kind=.function
 co:sc.isCoroutine=false
 gen:sc.isGenerator=false
 nd:N.Nodup
 pre:N.take P.length=P
 par:∀ x ∈ P,sc.names.lookup x=some .local \/ sc.names.lookup x=some .cell
 nofree:∀ y ∈ sc.names,y.2 ≠ .free
theorem wW {kindOf:Str->Option NameKind}{x:Str}:∀ {binds:List (Str × Value)}{m:Str->Option Value},(∀ v,(x,v) ∉ binds)->bindL kindOf binds m x=m x
 | [],_,_=>rfl
 | (n,v) :: r,m,h=>by
  unfold bindL;rw [wW fun w hw=>h w (List.mem_cons_of_mem _ hw)];split
  .have:x ≠ n:=by rintro rfl;exact h v List.mem_cons_self
   simp [this]
  .rfl
theorem wY {kindOf:Str->Option NameKind}{x:Str}:∀ {binds:List (Str × Value)}{m:Str->Option Value},(∀ v,(x,v) ∉ binds)->bindC kindOf binds m x=m x
 | [],_,_=>rfl
 | (n,v) :: r,m,h=>by
  unfold bindC;rw [wY fun w hw=>h w (List.mem_cons_of_mem _ hw)];split
  .rfl
  .have:x ≠ n:=by rintro rfl;exact h v List.mem_cons_self
   simp [this]
theorem wX {kindOf:Str->Option NameKind}{x:Str}{v:Value}:∀ {P:List Str}{vs:List Value}{i:Nat}{m:Str->Option Value},P.Nodup->P[i]? = some x->vs[i]? = some v->kindOf x=some .local ->
  bindL kindOf (P.zip vs) m x=some v
 | [],_,_,_,_,h,_,_=>by simp at h
 | _ :: _,[],_,_,_,_,h,_=>by simp at h
 | p :: P,w :: vs,0,m,nd,h1,h2,hk=>by
  simp at h1 h2;subst h1;subst h2;show bindL kindOf ((p,w) :: P.zip vs) m p=_;unfold bindL;rw [wW fun v hv=>(List.nodup_cons.mp nd).1 (List.of_mem_zip hv).1,if_pos hk];simp
 | p :: P,w :: vs,i + 1,m,nd,h1,h2,hk=>by
  show bindL kindOf ((p,w) :: P.zip vs) m x=_;unfold bindL;exact wX (i:=i) (List.nodup_cons.mp nd).2 (by simpa using h1) (by simpa using h2) hk
theorem wZ {kindOf:Str->Option NameKind}{x:Str}{v:Value}:∀ {P:List Str}{vs:List Value}{i:Nat}{m:Str->Option Value},P.Nodup->P[i]? = some x->vs[i]? = some v->kindOf x ≠ some .local ->
  bindC kindOf (P.zip vs) m x=some v
 | [],_,_,_,_,h,_,_=>by simp at h
 | _ :: _,[],_,_,_,_,h,_=>by simp at h
 | p :: P,w :: vs,0,m,nd,h1,h2,hk=>by
  simp at h1 h2;subst h1;subst h2;show bindC kindOf ((p,w) :: P.zip vs) m p=_;unfold bindC;rw [wY fun v hv=>(List.nodup_cons.mp nd).1 (List.of_mem_zip hv).1,if_neg hk];simp
 | p :: P,w :: vs,i + 1,m,nd,h1,h2,hk=>by
  show bindC kindOf ((p,w) :: P.zip vs) m x=_;unfold bindC;exact wZ (i:=i) (List.nodup_cons.mp nd).2 (by simpa using h1) (by simpa using h2) hk
noncomputable def start (N:List Str) (vs:List V):St:=vs.map some ++ List.replicate (N.length - vs.length) none
noncomputable def vI (CX:CXT) (P:Program) (w:World) (K:Frag) (mg:Str->Option Value) (base:Heap) (N:List Str) (qual:Str) (scope:Scope) (f:Addr) (cd:Value) (A:Around) (outer:List Env) (s:Shared) (H:Hp) (E:XK):Cx where
 prog:=P
 w:=w
 K:=K
 mg:=mg
 base:=base
 A:=A.deeper (envOfC qual scope s.heap.objs.size f cd)
 N:=N
 s₀:=s
 H₀:=H
 env:=envOfC qual scope s.heap.objs.size f cd
 outer:=outer
 stack:=envOfC qual scope s.heap.objs.size f cd :: outer
 ex:=[]
 calm:=true
 fn:=fun _=>true
 pn:=[]
 xe:=fun e s'=>wpAny (model P w) (A.deeper (envOfC qual scope s.heap.objs.size f cd)) (leaving (envOfC qual scope s.heap.objs.size f cd) e) (fun _ s''=>CX outer H s E e s'') (fun e' s''=>CX outer H s E e' s'') s'
theorem G6 {sc:Scope}{n:Nat}{x:Str}(h:sc.names.lookup x=some .cell):∃ c,(cellsFrom n sc.names []).lookup x=some c:=by
 have q:=PySem.W.cellsFrom_some sc.names n [] (.inl h);exact Option.isSome_iff_exists.mp q
theorem Z0q {CX:CXT}{P:Program}{w:World}{K:Frag}{mg:Str->Option Value}{base:Heap}{N ps:List Str}{qual:Str}{scope:Scope}{f:Addr}{cd:Value}{A:Around}{outer:List Env}{s s1:Shared}{H:Hp}{E:XK}{us:List Value}{vs:List V}
  (S:aS N ps scope) (hd:A.handled=none) (e0:Env0 P w K mg base A outer s H) (hl:vs.length=ps.length) (r:Vals vs us)
  (x:InCallC s s.heap.objs.size (bindL (envOfC qual scope s.heap.objs.size f cd).kindOf (ps.zip us) fun _=>none) (cellsFrom (s.heap.objs.size + 1) scope.names []) (bindC (envOfC qual scope s.heap.objs.size f cd).kindOf (ps.zip us) fun _=>none) s1) :
  Inv (vI CX P w K mg base N qual scope f cd A outer s H E) [] (start N vs) H s1:=by
 have hpl:ps.length <= N.length:=by have:=congrArg List.length S.pre;rw [List.length_take] at this;omega
 obtain⟨h1,tk,rfl,hk⟩:=x.done;have noA:∀ b:Addr,b ∉ (vI CX P w K mg base N qual scope f cd A outer s H E).ex:=fun b z=>absurd (show b ∈ ([]:List Addr) from z) (by simp)
 refine⟨⟨e0.mod,S.kind,rfl,rfl,Nat.le_refl _,fun y z c h1 h2=>?_,fun y hy=>?_,fun y c _ h=>?_,fun _=>hd,Around.frames_deeper e0.frames,.inr ⟨rfl,rfl⟩,fun b z=>absurd z (noA b),e0.bs,e0.bsz,fun b _ _=>noA b,fun b z=>absurd z (noA b),e0.funs,e0.frf⟩,
  rfl,e0.bare,Un.kept hk,⟨_,x.toInCall.ns,fun i y v h1 h2 h3=>?_⟩,fun y c h=>⟨_,x.cell y c h⟩,e0.hok.fresh (Nat.le_refl _),fun y c h=>?_,fun p hp=>absurd (show p ∈ ([]:List (Addr × Obj)) from hp) (by simp),e0.hok.kept hk,?_⟩
 .exact name_of_addr x.apart (PySem.mem_of_lookup h1) (PySem.mem_of_lookup h2)
 .have hy:scope.names.lookup y=some .cell \/ scope.names.lookup y=some .free:=hy;rcases hy with hy | hy
  .exact G6 hy
  .exact absurd rfl (S.nofree _ (PySem.mem_of_lookup hy))
 .exact Nat.le_of_lt (x.above y c (PySem.mem_of_lookup h))
 .have hi:i < vs.length:=by
   unfold start at h2;by_cases hi:i < vs.length
   .exact hi
   .rw [List.getElem?_append_right (by simpa using hi)] at h2;rw [List.getElem?_replicate] at h2;split at h2 <;> cases h2
  have ha:vs[i]? = some v:=by
   unfold start at h2;rw [List.getElem?_append_left (by simpa using hi),List.getElem?_map] at h2;cases e:vs[i]? with
   | none=>rw [e] at h2;cases h2
   | some a=>rw [e] at h2;cases h2;rfl
  obtain⟨u,hu,rv⟩:=r.get ha;have hp:ps[i]? = some y:=by
   rw [<- S.pre,List.getElem?_take_of_lt (by omega)];exact h1
  have ndP:ps.Nodup:=by rw [<- S.pre];exact S.nd.sublist (List.take_sublist _ _)
  refine⟨u,rv,?_⟩;rcases S.par y (List.mem_of_getElem? hp) with k | k
  .exact .inl ⟨k,wX ndP hp hu k⟩
  .obtain⟨c,e⟩:=G6 (n:=s.heap.objs.size + 1) k;refine .inr ⟨.inl k,c,e,?_⟩;have q:=x.cell y c e;rw [wZ ndP hp hu (by show scope.names.lookup y ≠ _;rw [k];decide)] at q;exact q
 .exact e0.hok.fresh (Nat.le_of_lt (x.above y c (PySem.mem_of_lookup h)))
 .unfold start;show _=N.length;rw [List.length_append,List.length_map,List.length_replicate];omega
theorem W0 {CX:CXT}{P:Program}{w:World}{K:Frag}{mg:Str->Option Value}{base:Heap}{k:Nat}{f:Addr}{name qual:Str}{params:Arguments}{body:List Stmt}{scope:Scope}{dV kV doc pm cdv ct oc:Value}{an od:Option Addr}
  {osl:Array (Option Value)}{N ps:List Str}{sp:Sp}(lk:K.lookup f=some ⟨oc,od,.func (fnOf name qual params body scope dV kV doc pm an cdv ct),osl⟩) (hcd:codeIn K cdv qual=true) (S:aS N ps scope)
  (len:∀ vs H Q E,sp vs H Q E->vs.length=ps.length)
  (hbody:∀ (A:Around) (outer:List Env) (s:Shared) (H:Hp) (vs:List V) (Q:VK) (E:XK),Room k (A.deeper (envOfC qual scope s.heap.objs.size f cdv))->sp vs H Q E ->
   ∃ t,PSs (vI CX P w K mg base N qual scope f cdv A outer s H E) body t /\ t { nx:=fun _ H'=>Q .non H',rt:=Q } (start N vs) H) :
  bR P w K mg base CX (k + 1) f (fnOf name qual params body scope dV kV doc pm an cdv ct) ps sp:=by
 refine⟨len,fun A outer s H args us vs Q E hr e0 hb r hsp=>?_⟩;have hl:=len _ _ _ _ hsp;have KX:K.In s.heap:=e0.mod.kin.keeps fun b o e=>(e0.bs b o e).1;have lim:s.heap.NoLimit:=e0.mod.nolimit.keeps fun b o e=>(e0.bs b o e).1;have hkind:∀ y ∈ ps.zip us,scope.names.lookup y.1=some .local \/ (scope.names.lookup y.1=some .cell /\ ((cellsFrom (s.heap.objs.size + 1) scope.names []).lookup y.1).isSome=true):=fun⟨n,v⟩ hy=>by
  rcases S.par n (List.of_mem_zip hy).1 with q | q
  .exact .inl q
  .exact .inr ⟨q,PySem.W.cellsFrom_some _ _ _ (.inl q)⟩
 refine codeAny_call_function hr.depth (KX _ _ lk) rfl S.co S.gen rfl (PySem.W.codeRec_of KX hcd) (hb _ _ _ _ ?_);refine wpAny_newFunctionEnv_cells S.kind hkind fun env he s1 x=>?_;subst he;refine⟨lim.keeps x.toInCall.keep,codeAny_func ?_⟩;obtain⟨t,ht,hq⟩:=hbody A outer s H vs Q E (hr.deeper _) hsp;have I:Inv (vI CX P w K mg base N qual scope f cdv A outer s H E) [] (start N vs) H s1:=Z0q S hr.hd e0 hl r x;refine wpAny_mono (ht [] s1 (start N vs) H _ I hq) (fun fl s' hs=>?_) fun e s' hs=>hs;have fin:∀ {σ':St}{H':Hp}{v:V}{u:Value},Inv (vI CX P w K mg base N qual scope f cdv A outer s H E) [] σ' H' s'->RelV v u->Q v H'->CE outer P w H s Q u s' :=
  fun {σ' H' v u} J rv q=>⟨v,H',J.os,J.bare,J.base,J.hok,rv,q⟩
 cases fl with
 | ret u =>
  obtain⟨v,σ',H',J,rv,q⟩:=hs;exact fin J rv q
 | next =>
  obtain⟨σ',H',J,q⟩:=hs;exact fin (v:=V.non) (u:=Value.none) J rfl q
 | brk =>
  obtain⟨_,_,_,q⟩:=hs;exact False.elim q
 | cont =>
  obtain⟨_,_,_,q⟩:=hs;exact False.elim q
section
variable {X:Cx}{x:Str}{p pos:Pos}{e:Expr}{es:List Expr}{t:TA}{id T:String}{r:List V->Hp->VK->Prop}
noncomputable def tCB (r:List V->Hp->VK->Prop) (t:TA):TE:=fun σ H Q=>t σ H fun vs H1=>r vs H1 Q
theorem pe_callB (hc:CallR X (.builtin id) r) (hg:Gl X x) (hm:X.mg x=none) (hv:bootBuiltins x=some (.builtin id)) (ha:PA X (e :: es) t) (hn:x ≠ "__name__":=by decide) (hdb:(x == ("__debug__" : Str))=false:=by decide)
  (he:starEach (e :: es) X.env=(false,eval e X.env) :: starEach es X.env:=by rfl) (hpl:(backTo pos (starEach es X.env)).any (·.1)=false:=by rfl):PE X (.Call (.Name x p) (e :: es) [] pos) (tCB r t):=by
 intro pins s σ H Q I h;refine wpAny_Call_Name_kw (jO I hg hm hv ?_ hn hdb);exact PyProof.Rows.callWith_builtin1 (thn (ha pos pins s σ H _ I h) fun us s1 ⟨vs,H1,I1,r1,q1⟩=>hc pins s1 σ H1 vs us Q I1 r1 q1) he hpl
theorem pe_callTy (hc:CallR X (.type T) r) (hg:Gl X x) (hm:X.mg x=none) (hv:bootBuiltins x=some (.type T)) (ha:PA X (e :: es) t) (hn:x ≠ "__name__":=by decide) (hdb:(x == ("__debug__" : Str))=false:=by decide)
  (he:starEach (e :: es) X.env=(false,eval e X.env) :: starEach es X.env:=by rfl) (hpl:(backTo pos (starEach es X.env)).any (·.1)=false:=by rfl):PE X (.Call (.Name x p) (e :: es) [] pos) (tCB r t):=by
 intro pins s σ H Q I h;refine wpAny_Call_Name_kw (jO I hg hm hv ?_ hn hdb);exact PyProof.Rows.callWith_type1 (thn (ha pos pins s σ H _ I h) fun us s1 ⟨vs,H1,I1,r1,q1⟩=>hc pins s1 σ H1 vs us Q I1 r1 q1) he hpl
end
end L2
namespace HT
open PySem PyProof.Rows
section
open PySem.SeqAt
open PySem.AutoSeq1 (wpAny_loadPart')
open PySem.MeetsSeq PySem.MeetsSeq2 PySem.MeetsSeq3
end
section
variable {prog:Program}{w:World}{A:Around}{E:Value->Shared->Prop}{s:Shared}
noncomputable def sIx (n d:Nat):Option Int->Nat
 | none=>d
 | some v=>if v < 0 then (v + (n:Int)).toNat else min v.toNat n
theorem sIx_none (n d:Nat):sIx n d none=d:=rfl
theorem sIx_nat (n d k:Nat):sIx n d (some (k:Int))=min k n:=by
 show (if (k:Int) < 0 then ((k:Int) + (n:Int)).toNat else min (k:Int).toNat n)=min k n;rw [if_neg (by omega),Int.toNat_natCast]
theorem Z47 (n d:Nat) (hd:d <= n) (o:Option Int):sIx n d o <= n:=by
 cases o with
 | none=>exact hd
 | some v =>
  show (if v < 0 then (v + (n:Int)).toNat else min v.toNat n) <= n;by_cases hv:v < 0
  .rw [if_pos hv];omega
  .rw [if_neg hv];exact Nat.min_le_right _ _
theorem W6 (v:Int) (n d:Nat):(if v < 0 then max (v + (n:Int)) 0 else min v (n:Int))=((sIx n d (some v):Nat):Int):=by
 show (if v < 0 then max (v + (n:Int)) 0 else min v (n:Int))=(((if v < 0 then (v + (n:Int)).toNat else min v.toNat n):Nat):Int);by_cases hv:v < 0
 .simp only [if_pos hv];omega
 .simp only [if_neg hv];omega
theorem Q8 (lo hi:Option Int) (n:Nat):Builtin.Slice.sliceAdjust lo hi 1 (n:Int)=(((sIx n 0 lo:Nat):Int),((sIx n n hi:Nat):Int)):=by
 have h1:¬ ((1:Int) < 0):=by omega
 unfold Builtin.Slice.sliceAdjust;simp only [h1,if_false];refine Prod.ext ?_ ?_
 .cases lo with
  | none=>rfl
  | some v=>exact W6 v n 0
 .cases hi with
  | none=>rfl
  | some v=>exact W6 v n n
theorem N3 (i j:Nat):Builtin.Slice.slicePlaces (i:Int) (j:Int) 1=j - i:=by
 unfold Builtin.Slice.slicePlaces;have h1:(1:Int) > 0:=by omega
 simp only [h1,if_true,Int.ediv_one];split <;> omega
theorem sO (p:IsPart v o) (h:Q o s):wpAny (model prog w) A (Builtin.Slice.slicePartIndex v) Q E s:=by
 cases p with
 | none=>exact slicePart_none h
 | int i t=>exact slicePart_int h
theorem pV {sl:Addr}{vl vu:Value}{lo hi:Option Int}{n:Nat}{Q:Int × Int × Nat->Shared->Prop}(hs:s.heap.IsSliceOf sl vl vu .none) (pl:IsPart vl lo) (pu:IsPart vu hi)
  (h:Q (((sIx n 0 lo:Nat):Int),1,sIx n n hi - sIx n 0 lo) s):wpAny (model prog w) A (Builtin.Slice.sliceApplied (.ref sl) (pure (n:Int))) Q E s:=by
 obtain⟨os,hos,hcs,hds⟩:=id hs;unfold Builtin.Slice.sliceApplied Builtin.Slice.sliceFields;refine wpAny_bind (wpAny_bind (wpAny_field hos hds (x:=vl) rfl (wpAny_bind (wpAny_field hos hds (x:=vu) rfl (wpAny_bind (wpAny_field hos hds (x:=.none) rfl (wpAny_pure ?_)))))));refine wpAny_bind (slicePart_none ?_);show wpAny _ _ (if ((1:Int) == 0)=true then _ else _) _ _ s;rw [if_neg (by decide)];refine wpAny_bind (sO pl (wpAny_bind (sO pu (wpAny_bind (wpAny_pure ?_)))));show wpAny _ _ (match Builtin.Slice.sliceAdjust lo hi 1 (n:Int) with | (lo,hi)=>pure (lo,(1:Int),Builtin.Slice.slicePlaces lo hi 1)) _ _ s
 rw [Q8 lo hi n];show wpAny _ _ (pure (((sIx n 0 lo:Nat):Int),(1:Int),Builtin.Slice.slicePlaces ((sIx n 0 lo:Nat):Int) ((sIx n n hi:Nat):Int) 1)) _ _ s;rw [N3];exact wpAny_pure h
theorem Z1s (xs:Array Value) (i k:Nat):((List.range k).filterMap fun (m:Nat)=>xs[((i:Int) + (m:Int) * 1).toNat]?).toArray=((xs.toList.drop i).take k).toArray:=by
 have e:(fun (m:Nat)=>xs[((i:Int) + (m:Int) * 1).toNat]?)=fun m=>xs[i + m]?:=by
  funext m;have:((i:Int) + (m:Int) * 1).toNat=i + m:=by omega
  rw [this]
 rw [e];have:=pick_run xs i k;rw [List.filterMap_map] at this;have e2:((fun x=>xs[x]?) ∘ fun x=>i + x)=fun m=>xs[i + m]?:=rfl;rw [e2] at this;rw [this]
theorem getItem_tuple_cut {t sl:Addr}{items:Array Value}{vl vu:Value}{lo hi:Option Int}{Q:Value->Shared->Prop}(ht:IsTup s.heap t items) (hs:s.heap.IsSliceOf sl vl vu .none) (pl:IsPart vl lo) (pu:IsPart vu hi)
  (hw:¬ (sIx items.size 0 lo=0 /\ sIx items.size items.size hi=items.size))
  (h:Q (.ref s.heap.objs.size) { s with heap:=s.heap.push { cls:=.type "tuple",data:=.seq ((items.toList.drop (sIx items.size 0 lo)).take (sIx items.size items.size hi - sIx items.size 0 lo)).toArray } })
  (hsz:items.size <= sizeLine):wpAny (model prog w) A (getItem (.ref t) (.ref sl)) Q E s:=by
 have htake:sizeOk (.seq ((items.toList.drop (sIx items.size 0 lo)).take (sIx items.size items.size hi - sIx items.size 0 lo)).toArray):=by
  show ((items.toList.drop (sIx items.size 0 lo)).take (sIx items.size items.size hi - sIx items.size 0 lo)).toArray.size <= sizeLine;rw [List.size_toArray,List.length_take,List.length_drop,Array.length_toList];omega
 have hj:sIx items.size items.size hi <= items.size:=Z47 _ _ (Nat.le_refl _) hi;obtain⟨os,hos,hcs,hds⟩:=id hs;have hTs:s.TypeIs (.ref sl) "slice":=⟨os,hos,hcs⟩;unfold getItem
 try with_reducible refine wpAny_holding ?_
 first | refine wpAny_bind (wpAny_pure ?_) | skip
 refine wpAny_bind (wpAny_sequenceKey ht.typeIs (by decide) ?_);refine wpAny_bind (wpAny_callSpecial?_slot (name:=Str.ofString "__getitem__") ht.typeIs PyProof.Rows.slot_tuple_getitem
  (wpAny_call_entry PyProof.Rows.slot_tuple_getitem ht.typeIs entry_tuple_getitem ?_ (args_tuple_getitem _ _)))
 show wpAny _ _ (Builtin.Tuple.tupleItemsOf (.ref t) >>= _) _ _ s;refine wpAny_bind (tupleItemsOf_ ht ?_);refine wpAny_bind (wpAny_typeOf hTs ?_);rw [if_pos (by decide)];refine wpAny_bind (pV hs pl pu ?_);have hno:¬ ((((sIx items.size 0 lo:Nat):Int) == 0 && (1:Int) == 1 && (sIx items.size items.size hi - sIx items.size 0 lo) == items.size)=true):=by
  intro q;rw [Bool.and_eq_true,Bool.and_eq_true] at q;have q1:((sIx items.size 0 lo:Nat):Int)=0:=eq_of_beq q.1.1;have q2:sIx items.size items.size hi - sIx items.size 0 lo=items.size:=eq_of_beq q.2;exact hw ⟨by omega,by omega⟩
 show wpAny _ _ (if (((sIx items.size 0 lo:Nat):Int) == 0 && (1:Int) == 1 && (sIx items.size items.size hi - sIx items.size 0 lo) == items.size)=true then _ else _) _ _ s;rw [if_neg hno,Z1s]
 first
  | exact wpAny_bind (m:=Builtin.Tuple.tupleExact _) (wpAny_newObj_type (wpAny_pure ⟨_,rfl,wpAny_pure h⟩) htake)
  | exact wpAny_bind (m:=Builtin.Tuple.tupleExact _) (wpAny_newObj_type (wpAny_bind (wpAny_pure (wpAny_pure ⟨_,rfl,wpAny_pure h⟩))) htake)
  | exact wpAny_bind (wpAny_bind (m:=Builtin.Tuple.tupleExact _) (wpAny_newObj_type (wpAny_pure (wpAny_pure ⟨_,rfl,wpAny_pure h⟩)) htake))
  | exact wpAny_bind (wpAny_bind (m:=Builtin.Tuple.tupleExact _) (wpAny_newObj_type (wpAny_pure ⟨_,rfl,wpAny_pure h⟩) htake))
end
end HT
namespace L2
open PySem PySem.Spec PyProof.Rows
noncomputable abbrev TO:=St->Hp->(Option Int->Hp->Prop)->Prop
noncomputable def PO (X:Cx) (e:Option Expr) (t:TO):Prop :=
 ∀ (pins:List (Addr × Obj)) (s:Shared) (σ:St) (H:Hp) (Q:Option Int->Hp->Prop),Inv X pins σ H s->t σ H Q ->
  wpAny (model X.prog X.w) X.A (evalPart e X.env) (fun u s'=>∃ o H',Inv X pins σ H' s' /\ IsPart u o /\ Q o H') X.xe s
noncomputable def Z2v:TO:=fun _ H Q=>Q none H
noncomputable def Z54 (t:TE):TO:=fun σ H Q=>t σ H fun x H1=>∃ i,x=.int i /\ Q (some i) H1
theorem oP:∀ {us:List Value},Vals (ns.map V.int) us->IntsAre us ns:=by
 induction ns with
 | nil=>intro us r;rw [List.map_nil] at r;cases r;exact .nil
 | cons n ns ih =>
  intro us r;rw [List.map_cons] at r;cases r with
  | cons r1 r2 =>
   obtain⟨t,e⟩:=r1;subst e;exact .cons n t (ih r2)
section
variable {X:Cx}{e:Expr}{te:TE}{lo hi:Option Expr}{tl th:TO}{pos p2:Pos}
theorem Z39:PO X none Z2v:=by
 intro pins s σ H Q I h;rw [evalPart_none];exact wpAny_pure ⟨none,H,I,.none,h⟩
theorem Z38 (h:PE X e te):PO X (some e) (Z54 te):=by
 intro pins s σ H Q I hw;rw [evalPart_some];refine thn (h pins s σ H _ I hw) fun u s1 ⟨x,H1,I1,r1,q1⟩=>?_;obtain⟨i,rfl,q⟩:=q1;obtain⟨t,rfl⟩:=r1;exact⟨some i,H1,I1,.int i t,q⟩
noncomputable def SlR (X:Cx) (r:V->Option Int->Option Int->Hp->VK->Prop):Prop :=
 ∀ (pins:List (Addr × Obj)) (s:Shared) (σ:St) (H:Hp) (x:V) (v vl vu:Value) (lo hi:Option Int) (sl:Addr) (Q:VK),Inv X pins σ H s->RelV x v->s.heap.IsSliceOf sl vl vu .none->IsPart vl lo->IsPart vu hi->r x lo hi H Q ->
  ∃ T id,typeLookup (.type T) "__getitem__" = pure (some (.builtin id)) /\ s.TypeIs v T /\ wpAny (model X.prog X.w) X.A (getItem v (.ref sl)) (EP X pins σ Q) X.xe s
theorem SlR.or (h:SlR X r) (h':SlR X r'):SlR X (fun x lo hi H Q=>r x lo hi H Q \/ r' x lo hi H Q):=by
 intro pins s σ H x v vl vu lo hi sl Q I rx hs pl pu q;rcases q with q | q
 .exact h pins s σ H x v vl vu lo hi sl Q I rx hs pl pu q
 .exact h' pins s σ H x v vl vu lo hi sl Q I rx hs pl pu q
noncomputable def tSl (r:V->Option Int->Option Int->Hp->VK->Prop) (te:TE) (tl th:TO):TE:=fun σ H Q=>te σ H fun x H1=>tl σ H1 fun l H2=>th σ H2 fun u H3=>r x l u H3 Q
theorem pe_slice (hr:SlR X r) (he:PE X e te) (hl:PO X lo tl) (hu:PO X hi th):PE X (.Subscript e (.Slice lo hi none p2) pos) (tSl r te tl th):=by
 intro pins s σ H Q I h;refine Subscript_ (thn (he pins s σ H _ I h) fun v s1 ⟨x,H1,I1,r1,q1⟩=>?_);refine wpAny_Slice (thn (hl pins s1 σ H1 _ I1 q1) fun vl s2 ⟨l,H2,I2,pl,q2⟩=>thn (hu pins s2 σ H2 _ I2 q2) fun vu s3 ⟨u,H3,I3,pu,q3⟩=>?_);rw [evalPart_none];refine wpAny_pure ?_;have I4:Inv X pins σ H3 { s3 with heap:=s3.heap.push { cls:=.type "slice",data:=.fields #[vl,vu,.none] } }:=I3.kept (t':=s3.toks) fun b ob q=>Heap.get?_push_of_some _ q;obtain⟨T,id,hT,ht,hg⟩:=hr pins { s3 with heap:=s3.heap.push { cls:=.type "slice",data:=.fields #[vl,vu,.none] } } σ H3 x v vl vu l u s3.heap.objs.size Q I4 r1 (Heap.IsSliceOf.new ..) pl pu q3;show wpAny (model X.prog X.w) X.A (subscriptTail e (.Slice lo hi none p2) v (.ref s3.heap.objs.size)) (EP X pins σ Q) X.xe { s3 with heap:=s3.heap.push { cls:=.type "slice",data:=.fields #[vl,vu,.none] } };exact tail_any (ops:=[.ref s3.heap.objs.size,v]) ht hT hg (by with_unfolding_all rfl)
noncomputable def G2 (xs:List V) (lo hi:Option Int):List V:=(xs.drop (HT.sIx xs.length 0 lo)).take (HT.sIx xs.length xs.length hi - HT.sIx xs.length 0 lo)
theorem rL (xs:List V) (lo hi:Option Int):(G2 xs lo hi).length <= xs.length:=by
 unfold G2;rw [List.length_take,List.length_drop];omega
noncomputable def Z6n (K:Frag):V->Option Int->Option Int->Hp->VK->Prop:=fun x lo hi H Q=>∃ a xs,x=.ref a /\ SqT K H a xs /\
 ¬ (HT.sIx xs.length 0 lo=0 /\ HT.sIx xs.length xs.length hi=xs.length) /\ ∀ p,H p=none->Q (.ref p) (upd H p (.tup (G2 xs lo hi)))
theorem Z46:SlR X (Z6n X.K):=by
 intro pins s σ H x v vl vu lo hi sl Q I rx hs pl pu h;obtain⟨a,xs,rfl,hx,hw,q⟩:=h;cases rx;obtain⟨its,r,ht,hz⟩:=I.tuple hx;have hlen:its.toArray.size=xs.length:=by rw [List.size_toArray];exact r.length.symm
 refine⟨"tuple",_,PyProof.Rows.slot_tuple_getitem.lookup,ht.typeIs,?_⟩;refine HT.getItem_tuple_cut ht hs pl pu (by rw [hlen];exact hw) ?_ (by rw [hlen];exact hz);rw [hlen];refine⟨.ref s.heap.objs.size,_,I.laid (t':=s.toks) (o:=.tup (G2 xs lo hi)) (fun b ob q=>Heap.get?_push_of_some _ q) (Nat.le_refl _) ?_,rfl,q _ (I.hok.fresh (Nat.le_refl _))⟩;exact⟨Nat.le_trans (rL xs lo hi) hz,_,(r.drop (HT.sIx xs.length 0 lo)).take (HT.sIx xs.length xs.length hi - HT.sIx xs.length 0 lo),IsTup.new _ _⟩
end
noncomputable def ixN (n:Nat) (i:Int):Option Nat:=if 0 <= i then (if i < n then some i.toNat else none) else if -(n:Int) <= i then some (i + n).toNat else none
noncomputable def atI {α:Type}(xs:List α) (i:Int):Option α:=(ixN xs.length i).bind fun j=>xs[j]?
theorem V1 (h:ixN n i=some j):seqIndex? i n=some j /\ j < n /\ -(n:Int) <= i /\ i < n:=by
 unfold ixN at h;by_cases h0:0 <= i
 .rw [if_pos h0] at h;by_cases h1:i < n
  .rw [if_pos h1] at h;have e:i.toNat=j:=Option.some.inj h;exact⟨by rw [seqIndex_of h0 h1,e],by omega,by omega,h1⟩
  .rw [if_neg h1] at h;cases h
 .rw [if_neg h0] at h;by_cases h1:-(n:Int) <= i
  .rw [if_pos h1] at h;have e:(i + n).toNat=j:=Option.some.inj h;exact⟨by rw [seqIndex_neg (by omega) h1,e],by omega,h1,by omega⟩
  .rw [if_neg h1] at h;cases h
theorem zB (h:atI xs i=some v):∃ j,seqIndex? i xs.length=some j /\ xs[j]? = some v /\ j < xs.length /\ -(xs.length:Int) <= i /\ i < xs.length:=by
 unfold atI at h;cases e:ixN xs.length i with
 | none=>rw [e] at h;cases h
 | some j =>
  rw [e] at h;obtain⟨h1,h2,h3,h4⟩:=V1 e;exact⟨j,h1,h,h2,h3,h4⟩
theorem iD {α:Type}{xs:List α}{j:Nat}{v:α}(h:xs[j]? = some v):atI xs (j:Int)=some v:=by
 have hj:j < xs.length:=(List.getElem?_eq_some_iff.mp h).1;have e:ixN xs.length (j:Int)=some j:=by
  unfold ixN;rw [if_pos (by omega),if_pos (by omega)];simp
 unfold atI;rw [e];exact h
noncomputable def X0 (b:Expr):Prop:=∀ o i,subscripted b false o i=operate [o,i] (getItem o i)
noncomputable def IxR (X:Cx) (r:R2):Prop :=
 ∀ (value slice:Expr) (pins:List (Addr × Obj)) (s:Shared) (σ:St) (H:Hp) (x y:V) (v u:Value) (Q:VK),Inv X pins σ H s->RelV x v->RelV y u->r x y H Q ->
  subscripted slice false v u=operate [v,u] (getItem v u)->wpAny (model X.prog X.w) X.A (subscriptTail value slice v u) (EP X pins σ Q) X.xe s
noncomputable def MtR (X:Cx) (id:String) (r:V->List V->Hp->VK->Prop):Prop :=
 ∀ (pins:List (Addr × Obj)) (s:Shared) (σ:St) (H:Hp) (x:V) (xs:List V) (v:Value) (us:List Value) (Q:VK),Inv X pins σ H s->RelV x v->Vals xs us->r x xs H Q ->
  wpAny (model X.prog X.w) X.A (call (.builtin id) (v :: us)) (EP X pins σ Q) X.xe s
section
variable {X:Cx}{a b:Expr}{ta tb:TE}{pos:Pos}
theorem IxR.or (h:IxR X r) (h':IxR X r'):IxR X (fun x y H Q=>r x y H Q \/ r' x y H Q):=by
 intro value slice pins s σ H x y v u Q I rx ry q hs;rcases q with q | q
 .exact h value slice pins s σ H x y v u Q I rx ry q hs
 .exact h' value slice pins s σ H x y v u Q I rx ry q hs
theorem Z5y (hr:IxR X r) (ha:PE X a ta) (hb:PE X b tb) (hs:X0 b):PE X (.Subscript a b pos) (tOp r ta tb):=by
 intro pins s σ H Q I h;exact Subscript_ (Z4V ha hb I h fun v u s2 x y H2 I2 rx ry q=>hr a b pins s2 σ H2 x y v u Q I2 rx ry q (hs _ _))
noncomputable def Z5n (K:Frag):R2:=fun x y H Q=>∃ p xs i v,x=.ref p /\ y=.int i /\ SqL K H p xs /\ atI xs i=some v /\ Q v H
noncomputable def Z5l (K:Frag):R2:=fun x y H Q=>∃ p xs i v,x=.ref p /\ y=.int i /\ SqT K H p xs /\ atI xs i=some v /\ Q v H
noncomputable def Z5m:R2:=fun x y H Q=>∃ z i c,x=.str z /\ y=.int i /\ z.length <= sizeLine /\ atI z.cps.toList i=some c /\ Q (.str ⟨#[c]⟩) H
theorem ix_list:IxR X (Z5n X.K):=by
 intro value slice pins s σ H x y v u Q I rx ry h hs;obtain⟨p,xs,i,z,rfl,rfl,hq,he,q⟩:=h;cases rx;obtain⟨t,rfl⟩:=ry;obtain⟨its,r,pl,hz⟩:=I.list hq;obtain⟨j,h1,h2,h3,h4,h5⟩:=zB he;obtain⟨w,ew,rw'⟩:=r.get h2;have hl:=r.length;have hn:=qL;have fin:EP X pins σ Q w s:=⟨z,H,I,rw',q⟩;by_cases h0:0 <= i
 .have hj:i.toNat=j:=by
   rw [seqIndex_of h0 h5] at h1;exact Option.some.inj h1
  exact item_listR pl.isList h0 (by omega) (by rw [hj];simpa using ew) fin hs
 .have hj:(i + (its.toArray.size:Int)).toNat=j:=by
   rw [seqIndex_neg (by omega) h4] at h1;rw [List.size_toArray,<- hl];exact Option.some.inj h1
  exact subscriptTail_builtinR (x:=w) pl.isList.typeIs slot_list_getitem.lookup
   (wpAny_getItem_list_neg (Q:=fun r s'=>r=w /\ EP X pins σ Q r s') pl.isList (by omega) (by rw [List.size_toArray] <;> omega) (by omega) (by rw [hj];simpa using ew) ⟨rfl,fin⟩) hs
theorem ix_tup:IxR X (Z5l X.K):=by
 intro value slice pins s σ H x y v u Q I rx ry h hs;obtain⟨p,xs,i,z,rfl,rfl,hq,he,q⟩:=h;cases rx;obtain⟨t,rfl⟩:=ry;obtain⟨its,r,pl,hz⟩:=I.tuple hq;obtain⟨j,h1,h2,h3,h4,h5⟩:=zB he;obtain⟨w,ew,rw'⟩:=r.get h2;have hl:=r.length;have hn:=qL;have fin:EP X pins σ Q w s:=⟨z,H,I,rw',q⟩;exact subscriptTail_builtinR (x:=w) pl.typeIs slot_tuple_getitem.lookup
  (getItem_tuple (j:=j) (Q:=fun r s'=>r=w /\ EP X pins σ Q r s') pl (by omega) (by omega) (by rw [List.size_toArray,<- hl];exact h1) (by simpa using ew) ⟨rfl,fin⟩) hs
theorem Z4I:IxR X Z5m:=by
 intro value slice pins s σ H x y v u Q I rx ry h hs;obtain⟨z,i,c,rfl,rfl,hz,he,q⟩:=h;obtain⟨t,rfl⟩:=rx;obtain⟨t',rfl⟩:=ry;obtain⟨j,h1,h2,h3,h4,h5⟩:=zB he;have hl:z.cps.toList.length=z.length:=by simp [Str.length]
 rw [hl] at h1 h4 h5;have hn:=qL;exact tail_any (typeIs_str s z t) slot_str_getitem.lookup (getItem_str (c:=c) (by
  have e1:decide (i < -(2 ^ 63:Int))=false:=decide_eq_false (by omega);have e2:decide (i ≥ 2 ^ 63)=false:=decide_eq_false (by omega);rw [e1,e2,Bool.or_false]) (by rw [h1];simpa using h2) ⟨.str ⟨#[c]⟩,H,I.tok _,⟨_,rfl⟩,q⟩) hs
noncomputable def rIx (K:Frag):R2:=fun x y H Q=>Z5n K x y H Q \/ Z5l K x y H Q \/ Z5m x y H Q
theorem Z4J:IxR X (rIx X.K):=ix_list.or (ix_tup.or Z4I)
theorem O6 (its:List Value) (n j:Nat) (u:Value):Obj.mapSeq (·.setIfInBounds j u) { cls:=.type "list",data:=.seq its.toArray n }={ cls:=.type "list",data:=.seq (its.set j u).toArray n }:=by
 simp [Obj.mapSeq]
theorem Inv.lst (I:Inv X pins σ H s) (h:H p=some (.lst xs)) :
  ∃ (its:List Value) (n:Nat),Vals xs its /\ s.heap.get? p=some { cls:=.type "list",data:=.seq its.toArray n } /\ xs.length <= sizeLine:=by
 obtain⟨z,its,n,r,e⟩:=I.hok p _ h;exact⟨its,n,r,e,z⟩
theorem Inv.lstUpd {pins:List (Addr × Obj)}{σ:St}{H:Hp}{s:Shared}{p:Addr}{xs ys:List V}{its its':List Value}{n n':Nat}{f:Obj->Obj}(I:Inv X pins σ H s) (h:H p=some (.lst xs))
  (ho:s.heap.get? p=some { cls:=.type "list",data:=.seq its.toArray n }) (hf:f { cls:=.type "list",data:=.seq its.toArray n }={ cls:=.type "list",data:=.seq its'.toArray n' }) (r:Vals ys its') (hz:ys.length <= sizeLine) (t:Nat) :
  Inv X pins σ (upd H p (.lst ys)) { s with heap:=s.heap.update p f,toks:=t }:=by
 have e:(s.heap.update p f).get? p=some { cls:=.type "list",data:=.seq its'.toArray n' }:=by
  rw [Heap.get?_update_self f ho (by rw [hf] <;> rfl),hf]
 refine I.write (x:=p) (e:=p) (by rw [h];trivial) (.inl rfl) (fun b u hb q=>(Heap.get?_update_other _ _ (Ne.symm hb)).trans q) ⟨_,e⟩ ?_;exact⟨hz,its',n',r,e⟩
noncomputable def Z3K:V->V->V->Hp->(Hp->Prop)->Prop:=fun o i v H Q=>∃ p xs k j,o=.ref p /\ i=.int k /\ H p=some (.lst xs) /\ ixN xs.length k=some j /\ Q (upd H p (.lst (xs.set j v)))
theorem Z0Y:Z5W X Z3K:=by
 intro pins s σ H o i v ov iv u Q I ro ri rv h;obtain⟨p,xs,k,j,rfl,rfl,hp,hj,q⟩:=h;cases ro;obtain⟨t,rfl⟩:=ri;obtain⟨its,n,r,ho,hz⟩:=I.lst hp;obtain⟨h1,h2,h3,h4⟩:=V1 hj;have hl:=r.length;have hn:=qL;have I':Inv X pins σ (upd H p (.lst (xs.set j v))) { s with heap:=s.heap.update p (Obj.mapSeq (·.setIfInBounds j u)) } :=
  I.lstUpd hp ho (O6 its n j u) (r.set rv j) (by rw [List.length_set];exact hz) s.toks
 by_cases h0:0 <= k
 .have hk:k.toNat=j:=by
   rw [seqIndex_of h0 h4] at h1;exact Option.some.inj h1
  exact PySem.W.ki_setAt ho h0 (by omega) (by rw [List.size_toArray,<- hl];exact h4) (by rw [hk];exact⟨_,I',q⟩)
 .have hk:(k + (its.toArray.size:Int)).toNat=j:=by
   rw [seqIndex_neg (by omega) h3] at h1;rw [List.size_toArray,<- hl];exact Option.some.inj h1
  exact PySem.W.ki_setBack ho (by omega) (by rw [List.size_toArray,<- hl];exact h3) (by omega) (by rw [hk];exact⟨_,I',q⟩)
theorem xC (lo hi:Option Int) (n:Nat):(sliceBounds lo hi none n).1=((HT.sIx n 0 lo:Nat):Int) /\ (sliceBounds lo hi none n).2.1=((HT.sIx n n hi:Nat):Int) /\ (sliceBounds lo hi none n).2.2=1:=by
 refine⟨?_,?_,rfl⟩
 .cases lo with
  | none=>simp [sliceBounds,HT.sIx]
  | some i =>
   simp only [sliceBounds,HT.sIx,Option.getD_none,show (1:Int) > 0 by decide,if_true];by_cases h:i < 0
   .simp only [h,if_true] <;> omega
   .simp only [h,if_false] <;> omega
 .cases hi with
  | none=>simp [sliceBounds,HT.sIx]
  | some i =>
   simp only [sliceBounds,HT.sIx,Option.getD_none,show (1:Int) > 0 by decide,if_true];by_cases h:i < 0
   .simp only [h,if_true] <;> omega
   .simp only [h,if_false] <;> omega
theorem uR (its:List Value) (lo hi:Option Int):slicePick its.toArray lo hi none=((its.drop (HT.sIx its.length 0 lo)).take (HT.sIx its.length its.length hi - HT.sIx its.length 0 lo)).toArray:=by
 obtain⟨h1,h2,h3⟩:=xC lo hi its.toArray.size;unfold slicePick;rw [h1,h2,h3];simp only [sliceRange_one,pick_run,List.size_toArray] <;> rfl
noncomputable def Z6o (K:Frag):V->Option Int->Option Int->Hp->VK->Prop:=fun x lo hi H Q=>∃ a xs,x=.ref a /\ SqL K H a xs /\ ∀ p,H p=none->Q (.ref p) (upd H p (.lst (G2 xs lo hi)))
theorem Z2B:SlR X (Z6o X.K):=by
 intro pins s σ H x v vl vu lo hi sl Q I rx hs pl pu h;obtain⟨a,xs,rfl,hx,q⟩:=h;cases rx;obtain⟨its,r,ht,hz⟩:=I.list hx;have hlen:=r.length;refine⟨"list",_,slot_list_getitem.lookup,ht.isList.typeIs,?_⟩;refine wpAny_getItem_list_slice ht.isList hs pl pu .none (by simp) ?_ (by rw [List.size_toArray] <;> omega);rw [uR,<- hlen];refine⟨.ref s.heap.objs.size,_,I.laid (t':=s.toks) (o:=.lst (G2 xs lo hi)) (fun b ob q=>Heap.get?_push_of_some _ q) (Nat.le_refl _) ?_,rfl,q _ (I.hok.fresh (Nat.le_refl _))⟩;exact⟨Nat.le_trans (rL xs lo hi) hz,_,0,(r.drop (HT.sIx xs.length 0 lo)).take (HT.sIx xs.length xs.length hi - HT.sIx xs.length 0 lo),Heap.get?_push_size _ rfl⟩
theorem xY:OpR X (compareOp .NotIn) (fun x y H Q=>∃ i j,x=.str i /\ y=.str j /\ Q (.bl (!(!(Builtin.Str.occurrences j i 0 j.length 1).isEmpty))) H):=by
 intro pins s σ H x y v u Q I rx ry h;obtain⟨i,j,rfl,rfl,q⟩:=h;obtain⟨t,rfl⟩:=rx;obtain⟨t',rfl⟩:=ry;exact notIn_str ⟨.bl _,H,I,rfl,q⟩
theorem call_len_seq:CallR X (.builtin "len") (fun xs H Q=>∃ p ys,xs=[.ref p] /\ (SqL X.K H p ys \/ SqT X.K H p ys) /\ Q (.int ys.length) H):=by
 intro pins s σ H xs us Q I r h;obtain⟨p,ys,rfl,hq,q⟩:=h;obtain⟨u,rfl,rx⟩:=nQ r;cases rx;have hn:=qL;rcases hq with hq | hq
 .obtain⟨its,r',pl,hz⟩:=I.list hq;have hlen:=r'.length;exact Calls.call_len_list pl.isList (by simp only [List.size_toArray] <;> omega) ⟨.int ys.length,H,I.tok _,⟨s.toks + 1,by rw [List.size_toArray,hlen]⟩,q⟩
 .obtain⟨its,r',pl,hz⟩:=I.tuple hq;have hlen:=r'.length;exact len_tuple pl (by simp only [List.size_toArray] <;> omega) ⟨.int ys.length,H,I.tok _,⟨s.toks + 1,by rw [List.size_toArray,hlen]⟩,q⟩
theorem zA:CallR X (.builtin "len") (fun xs H Q=>∃ z,xs=[.str z] /\ z.length <= sizeLine /\ Q (.int z.length) H):=by
 intro pins s σ H xs us Q I r h;obtain⟨z,rfl,hz,q⟩:=h;obtain⟨u,rfl,t,rfl⟩:=nQ r;have hn:=qL;exact len_str (by omega) ⟨.int z.length,H,I.tok _,⟨_,rfl⟩,q⟩
theorem CallR.or (h:CallR X f r) (h':CallR X f r'):CallR X f (fun xs H Q=>r xs H Q \/ r' xs H Q):=by
 intro pins s σ H xs us Q I rs q;rcases q with q | q
 .exact h pins s σ H xs us Q I rs q
 .exact h' pins s σ H xs us Q I rs q
theorem yZ:CallR X (.type "list") (fun xs H Q=>∃ p ys,xs=[.ref p] /\ (SqL X.K H p ys \/ SqT X.K H p ys) /\ ∀ l,H l=none->Q (.ref l) (upd H l (.lst ys))):=by
 intro pins s σ H xs us Q I r h;obtain⟨p,ys,rfl,hq,q⟩:=h;obtain⟨u,rfl,rx⟩:=nQ r;cases rx;have fin:∀ (its:List Value),Vals ys its->ys.length <= sizeLine->∀ (h':Heap) (c':Nat),(∀ b o',s.heap.get? b=some o'->h'.get? b=some o') ->
   h'.get? s.heap.objs.size=some { cls:=.type "list",dict:=none,data:=.seq its.toArray c',slots:=#[] }->EP X pins σ Q (.ref s.heap.objs.size) { s with heap:=h' }:=fun its r' hz h' c' kp e =>
  ⟨.ref s.heap.objs.size,_,I.laid (t':=s.toks) kp (Nat.le_refl _) (show ObjOk X.prog X.w _ h' _ (.lst ys) from ⟨hz,its,c',r',e⟩),rfl,q _ (I.hok.fresh (Nat.le_refl _))⟩
 rcases hq with hq | hq
 .obtain⟨its,r',pl,hz⟩:=I.list hq;have hlen:=r'.length;obtain⟨o,ho,hc,n,hd⟩:=pl.isList;exact call_list_seq p (.inl rfl) ho hc hd (fun h' c' kp e=>fin its r' hz h' c' kp e) (by simp only [List.size_toArray] <;> omega)
 .obtain⟨its,r',pl,hz⟩:=I.tuple hq;have hlen:=r'.length;obtain⟨o,ho,hc,n,hd⟩:=pl;exact call_list_seq p (.inr rfl) ho hc hd (fun h' c' kp e=>fin its r' hz h' c' kp e) (by simp only [List.size_toArray] <;> omega)
theorem vJ:CallR X (.type "tuple") (fun xs H Q=>∃ p ys,xs=[.ref p] /\ ((SqL X.K H p ys /\ ∀ l,H l=none->Q (.ref l) (upd H l (.tup ys))) \/ (SqT X.K H p ys /\ Q (.ref p) H))):=by
 intro pins s σ H xs us Q I r h;obtain⟨p,ys,rfl,h⟩:=h;obtain⟨u,rfl,rx⟩:=nQ r;cases rx;rcases h with ⟨hq,q⟩ | ⟨hq,q⟩
 .obtain⟨its,r',pl,hz⟩:=I.list hq;have hlen:=r'.length;refine call_tuple_list pl.isList (fun h' kp=>?_) (by simp only [List.size_toArray] <;> omega);have I1:Inv X pins σ H { s with heap:=h' }:=I.kept (t':=s.toks) kp;have I2:Inv X pins σ (upd H h'.objs.size (.tup ys)) { s with heap:=h'.push { cls:=.type "tuple",data:=.seq its.toArray } } :=
   I1.laid (t':=s.toks) (fun b o e=>Heap.get?_push_of_some _ e) (Nat.le_refl _) (show ObjOk X.prog X.w _ _ _ (.tup ys) from ⟨hz,its,r',IsTup.new _ _⟩)
  exact⟨.ref h'.objs.size,_,I2,rfl,q _ (I1.hok.fresh (Nat.le_refl _))⟩
 .obtain⟨its,r',pl,hz⟩:=I.tuple hq;exact call_tuple_same pl ⟨.ref p,H,I,rfl,q⟩
noncomputable def tyV (K:Frag) (T:String) (x:V) (H:Hp):Prop:=match x with
 | .str _=>T = "str"
 | .int _=>T = "int"
 | .ref p=>(T = "list" /\ ∃ xs,SqL K H p xs) \/ (T = "tuple" /\ ∃ o,K.lookup p=some o /\ o.cls=.type "tuple" /\ o.dict=none) \/
   (T = "dict" /\ ((∃ kvs,H p=some (.dK kvs)) \/ ∃ es ep,H p=some (.dE es ep))) \/ (T = "set" /\ ∃ S n,H p=some (.set S n))
 | _=>False
theorem Z0T (I:Inv X pins σ H s) (r:RelV x v) (ty:tyV X.K T x H) :
  s.TypeIs v T /\ ∀ a,v=.ref a->∃ ob,s.heap.get? a=some ob /\ ob.dict=none:=by
 cases x with
 | str z =>
  obtain⟨t,rfl⟩:=r;cases (show T = "str" from ty)
  exact⟨typeIs_str s z t,fun _ e=>nomatch e⟩
 | int i =>
  obtain⟨t,rfl⟩:=r;cases (show T = "int" from ty)
  exact⟨typeIs_int s i t,fun _ e=>nomatch e⟩
 | ref p =>
  cases r;rcases ty with ⟨rfl,xs,hq⟩ | ⟨rfl,o,hk,hc,hd⟩ | ⟨rfl,hk⟩ | ⟨rfl,S,n,hk⟩
  .obtain⟨its,_,pl,_⟩:=I.list hq;refine⟨pl.isList.typeIs,fun a e=>?_⟩;cases e;obtain⟨o,n,e,c,hd,_⟩:=pl;exact⟨o,e,hd⟩
  .refine⟨⟨o,I.kIn p o hk,hc⟩,fun a e=>?_⟩;cases e;exact⟨o,I.kIn _ o hk,hd⟩
  .have z:∃ o,s.heap.get? p=some o /\ o.ExactDict:=by
    rcases hk with ⟨kvs,hk⟩ | ⟨kvs,ep,hk⟩
    .obtain⟨_,_,_,_,o,_,_,e,ex,_⟩:=I.hok p _ hk;exact⟨o,e,ex⟩
    .obtain⟨_,_,_,_,o,_,e,ex,_⟩:=I.hok p _ hk;exact⟨o,e,ex⟩
   obtain⟨o,e,ex⟩:=z;refine⟨⟨o,e,ex.1⟩,fun a e2=>?_⟩;cases e2;exact⟨o,e,ex.2.1⟩
  .obtain⟨o,_,_,_,e,ex,_⟩:=I.hok p _ hk;refine⟨⟨o,e,ex.1⟩,fun a e2=>?_⟩;cases e2;exact⟨o,e,ex.2.1⟩
 | _=>exact False.elim ty
noncomputable def Z6e (K:Frag) (T:String) (r:V->List V->Hp->VK->Prop) (to:TE):TE:=fun σ H Q=>to σ H fun x H1=>tyV K T x H1 /\ r x [] H1 Q
noncomputable def tBM (K:Frag) (T:String) (r:V->List V->Hp->VK->Prop) (to:TE) (t:TA):TE:=fun σ H Q=>to σ H fun x H1=>tyV K T x H1 /\ t σ H1 fun xs H2=>r x xs H2 Q
variable {o e:Expr}{es:List Expr}{to:TE}{t:TA}{name:Str}{apos cpos:Pos}{T id:String}{r:V->List V->Hp->VK->Prop}
theorem Z4z (pa:PlainAttrs T) (slot:Slot T name id) (hty:typeOf (.builtin id)=pure (.type "method_descriptor")) (hm:MtR X id r) (ho:PE X o to)
  (hbase:attributeBase o name X.env (eval o X.env)=eval o X.env:=by rfl) (hline:(apos.endLine == cpos.line)=true:=by rfl):PE X (.Call (.Attribute o name apos) [] [] cpos) (Z6e X.K T r to):=by
 intro pins s σ H Q I h;refine wpAny_Call_method0_late hbase hline (thn (ho pins s σ H _ I h) fun v s1 ⟨x,H1,I1,r1,ty,q1⟩=>?_);obtain⟨h1,h2⟩:=Z0T I1 r1 ty;exact⟨T,id,pa,slot,hty,h1,h2,Calls.callWith_builtin rfl (PySem.evalArgs_none (hm pins s1 σ H1 x [] v [] Q I1 r1 .nil q1))⟩
theorem Z3M (pa:PlainAttrs T) (slot:Slot T name id) (hty:typeOf (.builtin id)=pure (.type "method_descriptor")) (hm:MtR X id r) (ho:PE X o to) (ha:PA X (e :: es) t)
  (hbase:attributeBase o name X.env (eval o X.env)=eval o X.env:=by rfl)
  (hfew:((backTo cpos (starEach (e :: es) X.env)).all (fun x=>!x.1) && (backToKw cpos (keywordEach [] X.env)).all (fun x=>x.1.isSome)
   && decide ((e :: es).length + ([]:List Keyword).length + (if ([]:List Keyword).isEmpty then 0 else 1) < 30))=true:=by rfl)
  (hline:(apos.endLine == cpos.line)=true:=by rfl) (hs:starEach (e :: es) X.env=(false,eval e X.env) :: starEach es X.env:=by rfl) (hplain:(backTo cpos (starEach es X.env)).any (·.1)=false:=by rfl) :
  PE X (.Call (.Attribute o name apos) (e :: es) [] cpos) (tBM X.K T r to t):=by
 intro pins s σ H Q I h;refine wpAny_Call_method_late hbase hfew hline rfl (thn (ho pins s σ H _ I h) fun v s1 ⟨x,H1,I1,r1,ty,q1⟩=>?_);obtain⟨h1,h2⟩:=Z0T I1 r1 ty;refine⟨T,id,pa,slot,hty,h1,h2,?_⟩;have hA:=ha cpos pins s1 σ H1 _ I1 q1;rw [hs] at hA ⊢;refine Calls.callWith_builtin (by show (false || (backTo cpos (starEach es X.env)).any (·.1))=false;rw [hplain] <;> rfl) (Calls.evalArgs_plain ?_);exact thn hA fun us s2 ⟨vs,H2,I2,r2,q2⟩=>hm pins s2 σ H2 x vs v us Q I2 r1 r2 q2
end
noncomputable def MtM (X:Cx) (id:String) (r:V->List V->Hp->VK->Prop):Prop :=
 ∀ (pins:List (Addr × Obj)) (s:Shared) (σ:St) (H:Hp) (x:V) (xs:List V) (v:Value) (us:List Value) (Q:VK),Inv X pins σ H s->RelV x v->Vals xs us->r x xs H Q ->
  wpAny (model X.prog X.w) X.A (call (.builtin id) (v :: us)) (EP X pins σ Q) X.xe s
theorem Vals.one:∀ {x:V}{us:List Value},Vals [x] us->∃ u,us=[u] /\ RelV x u
 | _,_,.cons r .nil=>⟨_,rfl,r⟩
section
variable {X:Cx}{pins:List (Addr × Obj)}{σ:St}{H:Hp}{s:Shared}{l b:Addr}{xs ys zs:List V}
theorem Inv.lset {its its':List Value}{n:Nat}{f:Array Value->Array Value}{t':Nat}(I:Inv X pins σ H s) (hH:H l=some (.lst xs))
  (e:s.heap.get? l=some { cls:=.type "list",data:=.seq its.toArray n }) (hf:f its.toArray=its'.toArray) (hv:Vals ys its') (hz:ys.length <= sizeLine) :
  Inv X pins σ (upd H l (.lst ys)) { s with heap:=s.heap.update l (Obj.mapSeq f),toks:=t' }:=by
 have q:=PySem.IsL.update e f;rw [hf] at q;refine I.write (x:=l) (e:=l) (by rw [hH];exact trivial) (.inl rfl) (fun b' u hb hu=>(Heap.get?_update_other s.heap (Obj.mapSeq f) (Ne.symm hb)).trans hu) ⟨_,q⟩ ?_;exact⟨hz,its',_,hv,q⟩
theorem Inv.lnew (I:Inv X pins σ H s) (hv:Vals ys its) (hz:ys.length <= sizeLine) :
  Inv X pins σ (upd H s.heap.objs.size (.lst ys)) { s with heap:=s.heap.push { cls:=.type "list",data:=.seq its.toArray },toks:=t' } :=
 I.laid (fun _ _ q=>Heap.get?_push_of_some _ q) (Nat.le_refl _) ⟨hz,its,0,hv,Heap.get?_push_size _ rfl⟩
theorem Inv.fresh (I:Inv X pins σ H s):H s.heap.objs.size=none:=I.hok.fresh (Nat.le_refl _)
theorem Inv.lstM (I:Inv X pins σ H s) (hH:H l=some (.lst xs)):xs.length <= sizeLine /\ ∃ (its:List Value) (n:Nat),Vals xs its /\ xs.length=its.length /\ s.heap.get? l=some { cls:=.type "list",data:=.seq its.toArray n }:=by
 obtain⟨z,its,n,r,e⟩:=I.hok l _ hH;exact⟨z,its,n,r,r.length,e⟩
end
section
variable {X:Cx}
noncomputable def T6:V->List V->Hp->VK->Prop:=fun x vs H Q=>∃ l xs y,x=.ref l /\ vs=[y] /\ H l=some (.lst xs) /\ xs.length < sizeLine /\ Q .non (upd H l (.lst (xs ++ [y])))
theorem wF:MtM X "list.append" T6:=by
 intro pins s σ H x vs v us Q I rx rv h;obtain⟨l,xs,y,rfl,rfl,hH,hz,q⟩:=h;cases rx;obtain⟨u,rfl,ru⟩:=rv.one;obtain⟨z,its,n,r,hl,e⟩:=I.lstM hH;refine call_meets F.slot_list_append ⟨_,e,rfl⟩ F.entry_list_append (F.args_list_append_2 _ _) (PySem.list_append l its.toArray n u (by rw [List.size_toArray];omega)) ⟨e,?_⟩;refine⟨.non,_,I.lset (its':=its ++ [u]) hH e (by simp) (r.append (.cons ru .nil)) ?_,rfl,q⟩;rw [List.length_append,List.length_singleton];omega
noncomputable def Z5q:R2:=fun x y H Q=>∃ l b xs zs,x=.ref l /\ y=.ref b /\ H l=some (.lst xs) /\ H b=some (.lst zs) /\ xs.length + zs.length <= sizeLine /\ ∀ p,H p=none->Q (.ref p) (upd H p (.lst (xs ++ zs)))
theorem Z4B:OpR X (binaryOp .Add) Z5q:=by
 intro pins s σ H x y v u Q I rx ry h;obtain⟨l,b,xs,zs,rfl,rfl,hH,hB,hz,q⟩:=h;cases rx;cases ry;obtain⟨z,its,n,r,hl,e⟩:=I.lstM hH;obtain⟨z2,its2,n2,r2,hl2,e2⟩:=I.lstM hB;refine PySem.P.add_list e e2 ?_ (by rw [List.size_toArray,List.size_toArray];omega);have ea:its.toArray ++ its2.toArray=(its ++ its2).toArray:=by simp
 rw [ea];exact⟨.ref _,_,I.lnew (t':=s.toks) (r.append r2) (by rw [List.length_append];omega),rfl,q _ I.fresh⟩
end
section
variable {prog:Program}{w:World}{A:Around}{E:Value->Shared->Prop}{s:Shared}
set_option maxRecDepth 100000 in
end
section
variable {X:Cx}
end
end L2
namespace Att
open PySem PySem.W PySem.Calls PyProof.Rows
theorem rT:∀ (ns:List Int) (vs:List Value),WellAll P h vs (ns.map WData.int)->IntsAre vs ns:=by
 intro ns
 induction ns with
 | nil =>
  intro vs w;rw [List.map_nil] at w;cases w;exact .nil
 | cons n ns ih =>
  intro vs w;rw [List.map_cons] at w;cases w with
  | cons a b =>
   cases a;exact .cons _ _ (ih _ b)
theorem Y3 {l:OpenLaw}{n:Nat}(hn:l.most=some n) {P:Params}{h:Heap}{args:List WData}{vals:List Value}
  (hpre:l.row.toRowW.claim.pre args=true) (hwl:WellAll P h vals args) :
  ∃ a vs ns,vals=[Value.ref a] /\ args=[WData.list (ns.map WData.int)] /\ h.get? a=some { cls:=.type "list",data:=.seq vs.toArray } /\ IntsAre vs ns /\ ns.length <= n:=by
 have hsh:WShape.hasAll [] args [.list .int]=true:=(pre_splitW hpre).1;have hc:l.pre.holds [] { args:=args }=true:=(pre_splitW hpre).2;obtain⟨d,r,rfl,h1,h2⟩:=hasAllW_cons hsh;obtain rfl:=hasAllW_nil h2;obtain⟨xs,rfl,h3⟩:=hasW_list h1;obtain⟨ns,rfl⟩:=items_int h3;have hlen:ns.length <= n:=by
  unfold OpenLaw.pre at hc;have h4:(WTm.not (.lt (.lit (.int (n:Int))) (.len (.arg 0)))).holds [] { args:=[.list (ns.map .int)] }=true:=by
   have h4:=(holds_andW hc).1;rw [hn] at h4;exact h4
  have h5:=condW_of h4 (w_not (w_lt w_lit (w_len_list (w_arg rfl))));rw [List.length_map] at h5;refine Nat.le_of_not_lt fun q=>?_;have q':(n:Int) < ((ns.length:Nat):Int):=by omega
  first
   | (rw [decide_eq_true q'] at h5;exact absurd h5 (by decide))
   | (simp at h5;omega)
 cases hwl with
 | cons w1 w2 =>
  cases w2;cases w1 with
  | list ho hall=>exact⟨_,_,ns,rfl,rfl,ho,rT ns _ hall,hlen⟩
theorem Z04 (l:OpenLaw) (args:List WData):l.row.toRowW.claim.post args (.bool true) args=true :=
 postW_of (r:=l.row.toRowW) (X:=(true == true))
  (show WShape.has [] (.bool true) .bool=true by first | rfl | decide | simp [WShape.has,WShape.arms,WShape.armsAll])
  (show (WTm.eq .res (.lit (.bool true))).value [] { args:=args,res:=some (.bool true),after:=args }=some (.bool (true == true)) from w_eq_bool (w_res rfl) w_lit) rfl
section
variable {prog:Program}{w:World}{A:Around}{E:Value->Shared->Prop}{s:Shared}{K:Frag}
end
end Att
namespace L2
open PySem PySem.Spec PyProof.Rows
theorem jS:∀ {vs:List Value}{ns:List Int},IntsAre vs ns->Vals (ns.map V.int) vs
 | _,_,.nil=>.nil
 | _,_,.cons n t h=>.cons ⟨t,rfl⟩ (jS h)
noncomputable def Z3o (s:Stmt) (j:Nat):Stmt:=match s with
 | .ClassDef _ _ _ body _ _ _ _ _ _ _=>body.getD j (.Pass ⟨0,0,0,0⟩)
 | _=>.Pass ⟨0,0,0,0⟩
noncomputable def cL (s:Stmt):Arguments:=match s with
 | .FunctionDef _ a _ _ _ _ _ _ _ _=>a
 | _=>{ posonlyargs:=[],args:=[],vararg:=none,kwonlyargs:=[],kw_defaults:=[],kwarg:=none,defaults:=[] }
noncomputable def bQ (s:Stmt):List Stmt:=match s with
 | .FunctionDef _ _ b _ _ _ _ _ _ _=>b
 | _=>[]
noncomputable def aI (s:Stmt):Scope:=match s with
 | .FunctionDef _ _ _ _ _ _ sc _ _ _=>sc
 | _=>{ kind:=.function,names:=[],isGenerator:=false,isCoroutine:=false }
noncomputable abbrev CX0:CXT:=fun _ _ _ _ _ _=>False
noncomputable abbrev E0:XK:=fun _ _ _=>False
theorem Z1v:uN CX0 X E0:=fun _ _ _ _ _ _ _ h=>h.elim
structure Fun (K:Frag) (x qual:Str) (st:Stmt) (f:Addr) (fd:FuncData):Prop where
 ex:∃ (oc:Value) (od:Option Addr) (kV doc pm:Value) (an:Option Addr) (cdv ct:Value) (osl:Array (Option Value)),
  fd=fnOf x qual (cL st) (bQ st) (aI st) .none kV doc pm an cdv ct /\ K.lookup f=some ⟨oc,od,.func fd,osl⟩ /\ codeIn K cdv qual=true
 kp:keepIn K (.ref f)=true
section
variable {P:Program}{w:World}{K:Frag}{mg:Str->Option Value}{base:Heap}
end
theorem V4 (hr:Room k A):A.units + 1 < cLine:=Nat.lt_of_le_of_lt (Nat.add_le_add_left (by decide:1 <= 64) _) hr.units
theorem gA (h:n <= 1000):n < sizeLine:=Nat.lt_of_le_of_lt h (by decide)
section
variable {X:Cx}
theorem pv (i:Nat) {x:Str}{pos:Pos}(hN:X.N[i]? = some x:=by rfl) (hv:Vis X.env.scope x:=by first | exact Or.inl rfl | exact Or.inr (Or.inl rfl) | exact Or.inr (Or.inr rfl)) (hd:(x == ("__debug__" : Str))=false:=by decide)
  (hcd:(x == ("__classdict__" : Str))=false:=by decide):PE X (.Name x pos) (zQ i):=gD hN hv hd hcd
end
theorem D7 {A B:Prop}(h:B):if false=true then A else B:=by
 rw [if_neg Bool.false_ne_true];exact h
theorem D6 {A B:Prop}(h:A):if true=true then A else B:=by
 rw [if_pos rfl];exact h
noncomputable def Same (H H':Hp):Prop:=∀ b o,H b=some o->H' b=some o
theorem Same.refl (H:Hp):Same H H:=fun _ _ h=>h
theorem Same.trans (a:Same H H1) (b:Same H1 H2):Same H H2:=fun c o h=>b c o (a c o h)
theorem Same.free (e:Same H H') {l:Addr}(h:H' l=Option.none):H l=Option.none:=by
 cases q:H l with
 | none=>rfl
 | some o =>
  rw [e l o q] at h;cases h
section
variable {κ:Type}[DecidableEq κ]
noncomputable def jL (kvs:List (κ × V)) (k:κ):Option V:=(kvs.find? fun kv=>decide (kv.1=k)).map (·.2)
noncomputable def lK (kvs:List (κ × V)) (k:κ) (v:V):List (κ × V) :=
 if (kvs.any fun kv=>decide (kv.1=k))=true then kvs.map (fun kv=>if kv.1=k then (kv.1,v) else kv) else kvs ++ [(k,v)]
theorem oW {k:κ}(e:p.1=k):jL (p :: r) k=some p.2:=by simp [jL,List.find?_cons,e]
theorem oX {k:κ}(e:¬ p.1=k):jL (p :: r) k=jL r k:=by simp [jL,List.find?_cons,e]
theorem sJ (k:κ):∀ kvs:List (κ × V),(kvs.any fun kv=>decide (kv.1=k))=(jL kvs k).isSome
 | []=>rfl
 | p :: r=>by
  rw [List.any_cons];by_cases e:p.1=k
  .simp only [oW e,decide_eq_true e,Bool.true_or,Option.isSome_some]
  .rw [oX e,decide_eq_false e,Bool.false_or];exact sJ k r
theorem mJ (kvs:List (κ × V)) (k:κ) (v:V):(lK kvs k v).length <= kvs.length + 1:=by
 unfold lK;split
 .rw [List.length_map];omega
 .rw [List.length_append,List.length_cons,List.length_nil];omega
theorem Z1n {k:κ}(v:V) (h:jL kvs k=none):lK kvs k v=kvs ++ [(k,v)]:=by
 unfold lK;rw [sJ,h];exact if_neg (by decide)
theorem RelO.isSome_eq (r:RelO o u):o.isSome=u.isSome:=by
 cases o with
 | none=>cases u with
  | none=>rfl
  | some _=>exact (show False from r).elim
 | some _=>cases u with
  | none=>exact (show False from r).elim
  | some _=>rfl
theorem KV.val (r:KV kvs vs) (k:κ):RelO (jL kvs k) (valueAt vs k):=by
 unfold KV at r
 induction r with
 | nil=>exact True.intro
 | @cons p q ps qs h t ih =>
  obtain⟨h1,h2⟩:=h;by_cases e:p.1=k
  .have e':q.1=k:=h1.symm.trans e;have b:valueAt (q :: qs) k=some q.2:=by simp [valueAt,List.find?_cons,e']
   rw [oW e,b];exact h2
  .have e':¬ q.1=k:=fun z=>e (h1.trans z);have b:valueAt (q :: qs) k=valueAt qs k:=by simp [valueAt,List.find?_cons,e']
   rw [oX e,b];exact ih
theorem KV.any (r:KV kvs vs) (k:κ):(kvs.any fun kv=>decide (kv.1=k))=vs.any fun kv=>decide (kv.1=k):=by
 unfold KV at r
 induction r with
 | nil=>rfl
 | cons h t ih=>rw [List.any_cons,List.any_cons,ih,h.1]
theorem KV.repl (r:KV kvs vs) (k:κ) {y:V}{u:Value}(ry:RelV y u) :
  KV (kvs.map fun kv=>if kv.1=k then (kv.1,y) else kv) (vs.map fun kv=>if kv.1=k then (kv.1,u) else kv):=by
 unfold KV at r ⊢
 induction r with
 | nil=>exact .nil
 | @cons p q ps qs h t ih =>
  rw [List.map_cons,List.map_cons];refine .cons ?_ ih;obtain⟨h1,h2⟩:=h;by_cases e:p.1=k
  .rw [if_pos e,if_pos (h1.symm.trans e)];exact⟨h1,ry⟩
  .rw [if_neg e,if_neg (fun z=>e (h1.trans z))];exact⟨h1,h2⟩
theorem KV.put (r:KV kvs vs) (k:κ) {y:V}{u:Value}(ry:RelV y u):KV (lK kvs k y) (stored vs k u):=by
 unfold lK stored;rw [r.any k];by_cases e:(vs.any fun kv=>decide (kv.1=k))=true
 .rw [if_pos e,if_pos e];exact r.repl k ry
 .rw [if_neg e,if_neg e];exact Paired.snoc r ⟨rfl,ry⟩
theorem KV.keys {vs:List (κ × Value)}(r:KV kvs vs):kvs.map (·.1)=vs.map (·.1):=by
 unfold KV at r
 induction r with
 | nil=>rfl
 | cons h t ih=>rw [List.map_cons,List.map_cons,ih,h.1]
theorem KV.length (r:KV kvs vs):kvs.length=vs.length:=Paired.length r
end
theorem D5 (r:RelV (kV k) u):(dC P w).is k u=true:=by
 cases k with
 | inl i=>obtain⟨t,e⟩:=(show ∃ t,u=Value.int i t from r);subst e;exact C8 P w i t
 | inr x=>obtain⟨t,e⟩:=(show ∃ t,u=Value.str x t from r);subst e;exact C7 P w x t
theorem wK:∀ {ks:List Key}{us:List Value},Vals (ks.map kV) us->ItemsAre (dC P w) ks us
 | [],_,r=>by rw [List.map_nil] at r;cases r;exact .nil
 | k :: ks,_,r=>by
  rw [List.map_cons] at r;cases r with
  | cons h t=>exact .cons (D5 h) (wK t)
noncomputable abbrev KT (H:Hp):List (List Key × V)->List (List Key × Addr × Value)->Prop:=Paired fun p q=>p.1=q.1 /\ H q.2.1=some (.tup (p.1.map kV)) /\ RelV p.2 q.2.2
theorem KT.val {xs:List (List Key × Addr × Value)}(r:KT H kvs xs) (k:List Key):RelO (jL kvs k) ((atKey xs k).map (·.2)):=by
 induction r with
 | nil=>exact True.intro
 | @cons p q ps qs h t ih =>
  obtain⟨h1,_,h2⟩:=h;by_cases e:p.1=k
  .have e':q.1=k:=h1.symm.trans e;have b:atKey (q :: qs) k=some q.2:=by simp [atKey,List.find?_cons,e']
   rw [oW e,b];exact h2
  .have e':¬ q.1=k:=fun z=>e (h1.trans z);have b:atKey (q :: qs) k=atKey qs k:=by simp [atKey,List.find?_cons,e']
   rw [oX e,b];exact ih
theorem KT.repl (r:KT H kvs xs) (k:List Key) {y:V}{u:Value}(ry:RelV y u) :
  KT H (kvs.map fun kv=>if kv.1=k then (kv.1,y) else kv) (xs.map (putAt k u)):=by
 induction r with
 | nil=>exact .nil
 | @cons p q ps qs h t ih =>
  rw [List.map_cons,List.map_cons];refine .cons ?_ ih;obtain⟨h1,h2,h3⟩:=h;unfold putAt;by_cases e:p.1=k
  .rw [if_pos e,if_pos (h1.symm.trans e)];exact⟨h1,h2,ry⟩
  .rw [if_neg e,if_neg (fun z=>e (h1.trans z))];exact⟨h1,h2,h3⟩
theorem KT.put (r:KT H kvs xs) (k:List Key) {b:Addr}{y:V}{u:Value}(hb:H b=some (.tup (k.map kV))) (ry:RelV y u) :
  KT H (lK kvs k y) (storedH xs k b u):=by
 have e:(kvs.any fun kv=>decide (kv.1=k))=(atKey xs k).isSome:=by
  rw [sJ,(r.val k).isSome_eq,Option.isSome_map]
 unfold lK storedH;rw [e];by_cases q:(atKey xs k).isSome=true
 .rw [if_pos q,if_pos q];exact r.repl k ry
 .rw [if_neg q,if_neg q];exact Paired.snoc r ⟨rfl,hb,ry⟩
theorem KT.keeps (r:KT H kvs xs) (ht:∀ b ys,H b=some (.tup ys)->H' b=some (.tup ys)):KT H' kvs xs :=
 Paired.mapP r fun _ _ z=>⟨z.1,ht _ _ z.2.1,z.2.2⟩
section
variable {P:Program}{w:World}{H:Hp}{h:Heap}{a:Addr}
theorem Z3J (ok:HOk P w H h) (e:Rd H a u):ObjOk P w H h a u:=e.ok ok
theorem W3 (ok:HOk P w H h) (e:Rd H a (.dK kvs)):kvs.length <= sizeLine /\ (a == sysModules)=false /\ ∃ vs,KV kvs vs /\ h.DictOf (dC P w) a vs :=
 show ObjOk P w H h a (.dK kvs) from Z3J ok e
theorem W4 (ok:HOk P w H h) (e:H a=some (.dK kvs)):kvs.length <= sizeLine /\ (a == sysModules)=false /\ ∃ vs,KV kvs vs /\ h.DictOf (dC P w) a vs:=W3 ok (.inl e)
theorem yJ (ok:HOk P w H h) (e:H a=some (.tup (ks.map kV))):(tupleKind (dC P w)).is h ks a:=by
 obtain⟨_,its,r,o,h1,h2,n,h3⟩:=(show ObjOk P w H h a (.tup (ks.map kV)) from ok a _ e)
 exact⟨o,its.toArray,n,h1,h2,h3,by simpa using wK r⟩
theorem W2 (ok:HOk P w H h) (e:Rd H a (.dT kvs)):kvs.length <= sizeLine /\ (a == sysModules)=false /\
  ∃ xs,KT H kvs xs /\ h.DictOfH (tupleKind (dC P w)) a xs:=by
 obtain⟨z,y,xs,r,o,es,ep,h1,h2,h3,h4,h5⟩:=(show ObjOk P w H h a (.dT kvs) from Z3J ok e)
 refine⟨z,y,xs,r,o,es,ep,h1,h2,h3,h4,fun x hx=>?_,h5⟩;have all:∀ {l:List (List Key × V)}{m:List (List Key × Addr × Value)},KT H l m->∀ x ∈ m,(tupleKind (dC P w)).is h x.1 x.2.1:=by
  intro l m q
  induction q with
  | nil=>intro x hx;exact nomatch hx
  | @cons p q ps qs hq t ih =>
   intro x hx;rcases List.mem_cons.mp hx with e | hx
   .subst e;exact yJ ok (by rw [<- hq.1];exact hq.2.1)
   .exact ih x hx
 exact all r x hx
theorem Z5R (ok:HOk P w H h) (e:H a=some (.dT kvs)):kvs.length <= sizeLine /\ (a == sysModules)=false /\
  ∃ xs,KT H kvs xs /\ h.DictOfH (tupleKind (dC P w)) a xs:=W2 ok (.inl e)
end
noncomputable def DGet (H:Hp) (a:Addr) (y:V) (r:Option V):Prop :=
 (∃ kvs k,Rd H a (.dK kvs) /\ y=kV k /\ r=jL kvs k) \/ ∃ kvs k b,Rd H a (.dT kvs) /\ y=.ref b /\ H b=some (.tup (k.map kV)) /\ r=jL kvs k
noncomputable def DPut (H:Hp) (a:Addr) (y v:V) (H':Hp):Prop :=
 (∃ kvs k,H a=some (.dK kvs) /\ y=kV k /\ kvs.length < sizeLine /\ H'=upd H a (.dK (lK kvs k v))) \/
 ∃ kvs k b,H a=some (.dT kvs) /\ y=.ref b /\ H b=some (.tup (k.map kV)) /\ kvs.length < sizeLine /\ H'=upd H a (.dT (lK kvs k v))
theorem DGet.k {k:Key}(e:H a=some (.dK kvs)):DGet H a (kV k) (jL kvs k):=.inl ⟨kvs,k,.inl e,rfl,rfl⟩
theorem DPut.k {k:Key}(e:H a=some (.dK kvs)) (hl:kvs.length < sizeLine):DPut H a (kV k) v (upd H a (.dK (lK kvs k v))):=.inl ⟨kvs,k,e,rfl,hl,rfl⟩
section
variable {X:Cx}{pins:List (Addr × Obj)}{σ:St}{H:Hp}{s:Shared}{a:Addr}{y v:V}{u r:Value}{o:Option V}{A:Around}{E:Value->Shared->Prop}
theorem Inv.big (I:Inv X pins σ H s):sysModules < s.heap.objs.size:=by
 have h:mainGlobals < s.heap.objs.size:=(I.mod.glob.keeps I.bk).lt;exact Nat.lt_trans (by decide) h
theorem Z0C (hu:A.units + 1 < cLine) (I:Inv X pins σ H s) (g:DGet H a y (some v)) (ry:RelV y u) (h:∀ w' s',Inv X pins σ H s'->RelV v w'->Q w' s') :
  wpAny (model X.prog X.w) A (getItem (.ref a) u) Q E s:=by
 rcases g with ⟨kvs,k,e,ey,l⟩ | ⟨kvs,k,b,e,ey,eb,l⟩
 .subst ey;obtain⟨z,hd,vs,rel,dd⟩:=W3 I.hok e;obtain⟨w',hw,rw'⟩:=RelO.some_of (v:=v) (o:=valueAt vs k) (by rw [l];exact rel.val k);exact wpAny_getItem_of (D5 ry) dd.mapOf hw (h w' _ (I.tok _) rw')
 .subst ey;cases (show u=Value.ref b from ry)
  obtain⟨z,hd,xs,rel,dd⟩:=W2 I.hok e;obtain⟨w',hw,rw'⟩:=RelO.some_of (v:=v) (o:=(atKey xs k).map (·.2)) (by rw [l];exact rel.val k);obtain⟨p,hp,hp2⟩:=Option.map_eq_some_iff.mp hw;refine wpAny_getItem_heap (tupleKind_room_in1 hu) (yJ I.hok eb) dd hp ?_;rw [hp2];exact h w' _ (I.tok _) rw'
theorem Z6u (hu:A.units + 1 < cLine) (I:Inv X pins σ H s) (g:DGet H a y o) (ry:RelV y u) (h:∀ s',Inv X pins σ H s'->Q (.bool o.isSome) s') :
  wpAny (model X.prog X.w) A (compareOp .In u (.ref a)) Q E s:=by
 rcases g with ⟨kvs,k,e,ey,l⟩ | ⟨kvs,k,b,e,ey,eb,l⟩
 .subst ey;obtain⟨z,hd,vs,rel,dd⟩:=W3 I.hok e;refine wpAny_in_of (D5 ry) hd dd.mapOf ?_;rw [<- (rel.val k).isSome_eq,<- l];exact h _ (I.tok _)
 .subst ey;cases (show u=Value.ref b from ry)
  obtain⟨z,hd,xs,rel,dd⟩:=W2 I.hok e;refine wpAny_in_heap (tupleKind_room_in1 hu) (yJ I.hok eb) hd dd ?_;have q:=(rel.val k).isSome_eq;rw [Option.isSome_map] at q;rw [<- q,<- l];exact h _ (I.tok _)
theorem yU (I:Inv X pins σ H s) (mu:Mut (H a)) (hs:Heap.SameBut a s.heap h') (he:∃ q,h'.get? a=some q) (new:ObjOk X.prog X.w (upd H a ob) h' a ob) :
  Inv X pins σ (upd H a ob) { s with heap:=h',toks:=t' } :=
 I.write (x:=a) (e:=a) mu (.inl rfl) (fun b q hb z=>(hs.2 b hb).trans z) he new
theorem Z2f (z:kvs.length <= sizeLine) (hd:(a == sysModules)=false) (rel:KV kvs vs) (dd:h'.DictOf (dC P w) a vs) :
  ObjOk P w H' h' a (.dK kvs):=⟨z,hd,vs,rel,dd⟩
theorem Z0B (hu:A.units + 1 < cLine) (I:Inv X pins σ H s) (g:DPut H a y v H') (ry:RelV y u) (rv:RelV v r) (h:∀ s',Inv X pins σ H' s'->Q () s') :
  wpAny (model X.prog X.w) A (setItem (.ref a) u r) Q E s:=by
 rcases g with ⟨kvs,k,e,ey,l,eH⟩ | ⟨kvs,k,b,e,ey,eb,l,eH⟩
 .subst ey eH;obtain⟨z,hd,vs,rel,dd⟩:=W4 I.hok e;have hz:vs.length <= sizeLine:=by rw [<- rel.length];exact z
  have hl:(lK kvs k v).length <= sizeLine:=by have:=mJ kvs k v;omega
  refine wpAny_setItem_pairs (hsz:=hz) (D5 ry) dd fun h' dd' hs=>h _ ?_;have he:∃ q,h'.get? a=some q:=let ⟨q,_,_,hq,_⟩:=dd';⟨q,hq⟩;exact yU I (by rw [e];exact True.intro) hs he (Z2f hl hd (rel.put k rv) dd')
 .subst ey eH;cases (show u=Value.ref b from ry)
  obtain⟨z,hd,xs,rel,dd⟩:=Z5R I.hok e;have hz:xs.length <= sizeLine:=by rw [<- Paired.length rel];exact z
  have hl:(lK kvs k v).length <= sizeLine:=by have:=mJ kvs k v;omega
  refine wpAny_setItem_heap (hsz:=hz) (tupleKind_room_in1 hu) (yJ I.hok eb) dd fun h' dd' hs=>h _ ?_;obtain⟨q,es,ep,hq,h2,h3,h4,_,h5⟩:=dd';refine yU I (by rw [e];exact True.intro) hs ⟨q,hq⟩ ⟨hl,hd,_,(rel.put k eb rv).keeps fun c ys ec=>?_,q,es,ep,hq,h2,h3,h4,h5⟩;rw [aJ (Z5D ec e (fun z=>nomatch z))];exact ec
end
section
variable {X:Cx}{pins:List (Addr × Obj)}{σ:St}{H:Hp}{s:Shared}{a:Addr}{kvs:List (Key × V)}{k:Key}{u:Value}{A:Around}{E:Value->Shared->Prop}
end
noncomputable def Z4W (i:Expr):Prop:=∀ ov iv,subscripted i false ov iv=operate [ov,iv] (getItem ov iv)
theorem Z2w {T id:String}
  (hl:typeLookup (.type T) "__getitem__" = pure (some (.builtin id))) (hs:Z4W slice)
  (h:wpAny (model prog w) A (eval value env) (fun o s₁=>wpAny (model prog w) A (eval slice env) (fun i s₂=>s₂.TypeIs o T /\ wpAny (model prog w) A (getItem o i) Q E s₂) E s₁) E s) :
  wpAny (model prog w) A (eval (.Subscript value slice pos) env) Q E s:=by
 refine Subscript_ (wpAny_mono h (fun o s₁ h₁=>wpAny_mono h₁ (fun i s₂ h₂=>?_) fun _ _ x=>x) fun _ _ x=>x);obtain⟨hT,h₂⟩:=h₂;unfold subscriptTail;refine wpAny_bind ?_;rw [getitemInPython_of_ne hT.not_modules];refine wpAny_bind (wpAny_specialOf hT hl ?_);have fin:wpAny (model prog w) A (subscripted slice false o i) (fun r s₃=>wpAny (model prog w) A (letTemporaryGo value o r >>= fun _=>pure r) Q E s₃) E s₂:=by
  rw [hs o i];exact wpAny_operating (wpAny_mono h₂ (fun r s₃ h₃=>wpAny_bind (wpAny_letTemporaryGo (wpAny_pure h₃))) fun _ _ x=>x)
 first
  | exact wpAny_pure (wpAny_bind fin)
  | exact wpAny_bind (wpAny_pure (wpAny_bind fin))
  | exact wpAny_bind fin
theorem G1 (I:Inv X pins σ H s) (g:DGet H a y o):s.TypeIs (.ref a) "dict":=by
 rcases g with ⟨kvs,k,e,_,_⟩ | ⟨kvs,k,b,e,_,_,_⟩
 .obtain⟨_,_,vs,_,dd⟩:=W3 I.hok e;exact dd.typeIs
 .obtain⟨_,_,xs,_,dd⟩:=W2 I.hok e;exact dd.typeIs
noncomputable def Z5a (td ty:TE):TE:=fun σ H Q=>td σ H fun x H1=>ty σ H1 fun y H2=>∃ a v,x=.ref a /\ DGet H2 a y (some v) /\ Q v H2
noncomputable def Z6d (ty td:TE):TE:=fun σ H Q=>ty σ H fun y H1=>td σ H1 fun x H2=>∃ a o,x=.ref a /\ DGet H2 a y o /\ Q (.bl o.isSome) H2
noncomputable def Z5i (td ty tv:TE):TS:=fun D σ H=>tv σ H fun v H1=>td σ H1 fun x H2=>ty σ H2 fun y H3=>∃ a H4,x=.ref a /\ DPut H3 a y v H4 /\ D.nx σ H4
section
variable {X:Cx}{o i e value:Expr}{pos pos' tpos:Pos}{td ty tv:TE}
theorem pe_dget (hu:X.A.units + 1 < cLine) (ho:PE X o td) (hi:PE X i ty) (hs:Z4W i):PE X (.Subscript o i pos) (Z5a td ty):=by
 intro pins s σ H Q I h;refine Z2w PySem.F.slot_dict_getitem.lookup hs (thn (ho pins s σ H _ I h) fun u s1 ⟨x,H1,I1,rx,q1⟩=>thn (hi pins s1 σ H1 _ I1 q1) fun iv s2 ⟨y,H2,I2,ry,a,v,ex,g,q2⟩=>?_);subst ex;obtain rfl:u=Value.ref a:=rx;exact⟨G1 I2 g,Z0C hu I2 g ry fun w' s3 I3 rw'=>⟨v,H2,I3,rw',q2⟩⟩
theorem Z4A (hu:X.A.units + 1 < cLine) (hi:PE X i ty) (ho:PE X o td):PC X .In i o (Z6d ty td):=by
 intro pins s σ H Q I h;refine thn (hi pins s σ H _ I h) fun iv s1 ⟨y,H1,I1,ry,q1⟩=>thn (ho pins s1 σ H1 _ I1 q1) fun u s2 ⟨x,H2,I2,rx,a,ov,ex,g,q2⟩=>?_;subst ex;obtain rfl:u=Value.ref a:=rx;exact Z6u hu I2 g ry fun s3 I3=>⟨.bl ov.isSome,H2,I3,rfl,q2⟩
theorem Z35 (hu:X.A.units + 1 < cLine) (ho:PE X o td) (hi:PE X i ty) (hv:PE X value tv) (hs:swapsWith value (some (.Subscript o i pos')) pos.line X.env=pure false) :
  PS X (.Assign [.Subscript o i pos'] value pos) (Z5i td ty tv):=by
 intro pins s σ H D I h;refine wpAny_Assign_Subscript (thn (hv pins s σ H _ I h) fun r s1 ⟨v,H1,I1,rv,q1⟩=>thn (ho pins s1 σ H1 _ I1 q1) fun u s2 ⟨x,H2,I2,rx,q2⟩=>thn (hi pins s2 σ H2 _ I2 q2) fun iv s3 ⟨y,H3,I3,ry,a,H4,ex,g,q3⟩=>?_) hs;subst ex;obtain rfl:u=Value.ref a:=rx;exact Z0B hu I3 g ry rv fun s4 I4=>⟨σ,H4,I4,q3⟩
end
theorem Z2g (h:Heap) (hb:sysModules < h.objs.size):ObjOk P w H (h.push { cls:=.type "dict",data:=.dict #[] }) h.objs.size (.dK []) :=
 ⟨Nat.zero_le _,beq_eq_false_iff_ne.mpr (Ne.symm (Nat.ne_of_lt hb)),[],.nil,Heap.DictOf.new h⟩
noncomputable def Z45:TE:=fun _ H Q=>∀ p,H p=none->Q (.ref p) (upd H p (.dK []))
section
variable {X:Cx}{pos:Pos}
theorem pe_dnewK:PE X (.Dict [] [] pos) Z45:=fun pins s σ H Q I h =>
 wpAny_Dict_empty ⟨.ref s.heap.objs.size,_,I.laid (a:=s.heap.objs.size) (o:=.dK []) (t':=s.toks) (fun _ _ q=>Heap.get?_push_of_some _ q) (Nat.le_refl _) (Z2g s.heap I.big),rfl,h _ (I.hok.fresh (Nat.le_refl _))⟩
end
structure M1 (X:Cx) (o:Expr) (m:Str) (apos:Pos) (e:Expr) (cpos:Pos):Prop where
 base:attributeBase o m X.env (eval o X.env)=eval o X.env
 few:((backTo cpos (starEach [e] X.env)).all (fun x=>!x.1) && (backToKw cpos (keywordEach [] X.env)).all (fun x=>x.1.isSome)
  && decide (([e]:List Expr).length + ([]:List Keyword).length + (if ([]:List Keyword).isEmpty then 0 else 1) < 30))=true
 line:(apos.endLine == cpos.line)=true
 trees:backTo cpos (starEach [e] X.env)=[(false,eval e X.env)]
structure M2 (X:Cx) (o:Expr) (m:Str) (apos:Pos) (e f:Expr) (cpos:Pos):Prop where
 base:attributeBase o m X.env (eval o X.env)=eval o X.env
 few:((backTo cpos (starEach [e,f] X.env)).all (fun x=>!x.1) && (backToKw cpos (keywordEach [] X.env)).all (fun x=>x.1.isSome)
  && decide (([e,f]:List Expr).length + ([]:List Keyword).length + (if ([]:List Keyword).isEmpty then 0 else 1) < 30))=true
 line:(apos.endLine == cpos.line)=true
 trees:backTo cpos (starEach [e,f] X.env)=[(false,eval e X.env),(false,eval f X.env)]
section
variable {X:Cx}{pins:List (Addr × Obj)}{σ:St}{H:Hp}{s:Shared}{a:Addr}{y d:V}{u r:Value}{o:Option V}{A:Around}{E:Value->Shared->Prop}
end
section
variable {X:Cx}{o e f:Expr}{apos cpos:Pos}{td ty tx:TE}
end
section
variable {X:Cx}{pins:List (Addr × Obj)}{σ:St}{H:Hp}{s:Shared}{a:Addr}{kvs:List (Key × V)}{A:Around}{E:Value->Shared->Prop}
end
section
variable {X:Cx}{pins:List (Addr × Obj)}{σ:St}{H:Hp}{s:Shared}{a:Addr}{y:V}{u:Value}{A:Around}{E:Value->Shared->Prop}
end
section
end
section
end
section
theorem yW (I:Nat->Shared->Prop)
  (turn:∀ n s,I n s->wpAny (model prog w) A (pyNext it) (fun r s₁=>match r with
   | none=>R (.ok .next) s₁
   | some v=>wpAny (model prog w) A (letOwnedTupleGo target it v) (fun _ s₀=>wpAny (model prog w) A (assign target env v) (fun _ s₂ =>
     wpAny (model prog w) A (forIn ifs true fun c r=>if r=true then do let ok <- isTrue c env (eval c env);pure (ForInStep.yield ok) else pure (ForInStep.yield r)) (fun ok s₃ =>
      if ok=true then wpAny (model prog w) A (eval elt env) (fun x s₄ =>
       wpAny (model prog w) A (call (.builtin "list.append") [acc,x]) (fun _ s₅=>∃ m,m < n /\ I m s₅) (notedBy (model prog w) A env fun e s'=>R (.error e) s') s₄) (notedBy (model prog w) A env fun e s'=>R (.error e) s') s₃
      else ∃ m,m < n /\ I m s₃) (notedBy (model prog w) A env fun e s'=>R (.error e) s') s₂) (notedBy (model prog w) A env fun e s'=>R (.error e) s') s₀)
     (notedBy (model prog w) A env fun e s'=>R (.error e) s') s₁) (notedBy (model prog w) A env fun e s'=>R (.error e) s') s)
  (n:Nat) (h:I n s) :
  codeAny (model prog w) A (.compLoop (.ListComp elt [⟨target,iter,ifs,0⟩] scope pos) 0 it acc env) R s:=by
 refine codeAny_loop rfl I (fun n s hI=>?_) n h;show wpAny _ A ((compTurn (.ListComp elt [⟨target,iter,ifs,0⟩] scope pos) 0 it acc env).onRaise (fun x=>do noteFrame x env;theTreesLotGoes x)) _ _ s
 refine wpAny_noted ?_;rw [compTurn_list];refine wpAny_bind (wpAny_standAt (wpAny_bind (wpAny_mono (turn n s hI) (fun r s₁ h₁=>?_) fun _ _ h'=>h')));cases r with
 | none=>exact wpAny_pure h₁
 | some v =>
  refine wpAny_bind (wpAny_mono h₁ (fun _ s₀ h₀=>?_) fun _ _ h'=>h');refine wpAny_bind (wpAny_mono h₀ (fun _ s₂ h₂=>wpAny_bind (wpAny_mono h₂ (fun ok s₃ h₃=>?_) fun _ _ h'=>h')) fun _ _ h'=>h');cases ok with
  | false=>exact wpAny_pure ⟨rfl,h₃⟩
  | true =>
   exact wpAny_bind (wpAny_bind (wpAny_mono h₃ (fun x s₄ h₄=>wpAny_bind (wpAny_mono h₄ (fun _ s₅ h₅=>wpAny_pure (wpAny_pure ⟨rfl,h₅⟩)) fun _ _ h'=>h')) fun _ _ h'=>h'))
end
theorem oS:∀ (names:List (Str × NameKind)) (acc:List (Str × Addr)),(∀ n,(n,NameKind.free) ∈ names->∃ c,env.cells.lookup n=some c) ->
  (∀ n c,acc.lookup n=some c->env.cells.lookup n=some c) ->
  ∃ cl,(forIn names acc fun (x:Str × NameKind) cs=>(if (x.2 == NameKind.free)=true then (cellOf env x.1 >>= fun a=>pure (ForInStep.yield ((x.1,a) :: cs))) else pure (ForInStep.yield cs):Sem (ForInStep (List (Str × Addr)))))=pure cl /\
   (∀ n c,cl.lookup n=some c->env.cells.lookup n=some c) /\ (∀ n,(n,NameKind.free) ∈ names->∃ c,cl.lookup n=some c) /\ (∀ n c,acc.lookup n=some c->∃ c',cl.lookup n=some c')
 | [],acc,_,h2=>⟨acc,rfl,h2,fun n h=>(nomatch h),fun n c h=>⟨c,h⟩⟩
 | (n,k) :: r,acc,h1,h2=>by
  by_cases hk:k=.free
  .subst hk;obtain⟨c,hc⟩:=h1 n List.mem_cons_self;have h2':∀ m c',((n,c) :: acc).lookup m=some c'->env.cells.lookup m=some c':=by
    intro m c' e;rw [List.lookup_cons] at e;cases q:m == n with
    | true =>
     rw [q] at e;have:=eq_of_beq q;subst this;cases e;exact hc
    | false =>
     rw [q] at e;exact h2 m c' e
   obtain⟨cl,e,g1,g2,g3⟩:=oS r ((n,c) :: acc) (fun m hm=>h1 m (List.mem_cons_of_mem _ hm)) h2';refine⟨cl,?_,g1,?_,?_⟩
   .rw [List.forIn_cons];have e1:cellOf env n=pure c:=by unfold cellOf;rw [hc]
    show ((if (NameKind.free == NameKind.free)=true then _ else _) >>= _)=_;rw [if_pos (by rfl),e1];exact e
   .intro m hm;rcases List.mem_cons.mp hm with z | z
    .cases z;exact g3 n c (by simp [List.lookup_cons])
    .exact g2 m z
   .intro m c' hm;cases q:m == n with
    | true=>exact g3 m c (by rw [List.lookup_cons,q])
    | false=>exact g3 m c' (by rw [List.lookup_cons,q];exact hm)
  .obtain⟨cl,e,g1,g2,g3⟩:=oS r acc (fun m hm=>h1 m (List.mem_cons_of_mem _ hm)) h2;refine⟨cl,?_,g1,?_,g3⟩
   .rw [List.forIn_cons];have:(k == NameKind.free)=false:=by simpa using hk
    show ((if (k == NameKind.free)=true then _ else _) >>= _)=_;rw [this,if_neg (by decide)];exact e
   .intro m hm;rcases List.mem_cons.mp hm with z | z
    .cases z;exact absurd rfl hk
    .exact g2 m z
theorem uI (h:∀ n,(n,NameKind.free) ∈ scope.names->∃ c,env.cells.lookup n=some c) :
  ∃ cl,closureFor scope env=pure cl /\ (∀ n c,cl.lookup n=some c->env.cells.lookup n=some c) /\ (∀ n,(n,NameKind.free) ∈ scope.names->∃ c,cl.lookup n=some c):=by
 obtain⟨cl,e,g1,g2,_⟩:=oS (env:=env) scope.names [] h (fun n c q=>(nomatch q));refine⟨cl,?_,g1,g2⟩;unfold closureFor
 first
  | (rw [show (forIn scope.names ([]:List (Str × Addr)) _:Sem (List (Str × Addr)))=pure cl from e];rfl)
  | (simp only [bind_pure];exact e)
  | exact e
noncomputable def dH (X:Cx) (N':List Str) (scope:Scope) (cl:List (Str × Addr)) (C:Addr) (s₀:Shared) (H₀:Hp) (ex:List Addr) (pins:List (Addr × Obj)):Cx :=
 { X with N:=N',s₀:=s₀,H₀:=H₀,env:=compEnvC scope cl C X.env,outer:=X.stack,stack:=X.stack,ex:=ex,fn:=fun _=>false,pn:=X.pn ++ pins,xe:=fun _ _=>False }
noncomputable def eN (osc:Scope) (N:List Str) (scope:Scope) (fr:List Nat):Bool :=
 scope.kind == .function && scope.names.all (fun y=>y.2 != .cell) && scope.names.all (fun y=>y.2 != .free || (osc.names.lookup y.1 == some .cell || osc.names.lookup y.1 == some .free)) &&
 fr.all (fun j=>match N[j]? with | some x=>scope.names.lookup x == some .free | none=>false) && scope.names.all (fun y=>y.2 != .local || scope.names.lookup y.1 == some .local)
theorem hX {env:Env}:∀ {names:List (Str × NameKind)}{x:Str},names.lookup x=some .free ->
  (names.map fun (n,k)=>if (k == NameKind.free && env.scope.kind == .function && env.kindOf n == some .cell) then (n,NameKind.cell) else (n,k)).lookup x=some .cell \/
  (names.map fun (n,k)=>if (k == NameKind.free && env.scope.kind == .function && env.kindOf n == some .cell) then (n,NameKind.cell) else (n,k)).lookup x=some .free
 | [],_,h=>by simp at h
 | (n,k) :: r,x,h=>by
  have ih:=@hX env r x;show List.lookup x ((if (k == NameKind.free && env.scope.kind == .function && env.kindOf n == some .cell)=true then (n,NameKind.cell) else (n,k)) :: _)=_ \/ List.lookup x ((if (k == NameKind.free && env.scope.kind == .function && env.kindOf n == some .cell)=true then (n,NameKind.cell) else (n,k)) :: _)=_;cases hx:x == n with
  | true =>
   simp only [List.lookup_cons,hx] at h;cases h;by_cases hc:(NameKind.free == NameKind.free && env.scope.kind == .function && env.kindOf n == some .cell)=true
   .rw [if_pos hc];left;simp only [List.lookup_cons,hx]
   .rw [if_neg hc];right;simp only [List.lookup_cons,hx]
  | false =>
   simp only [List.lookup_cons,hx] at h;by_cases hc:(k == NameKind.free && env.scope.kind == .function && env.kindOf n == some .cell)=true
   .rw [if_pos hc];simp only [List.lookup_cons,hx];exact ih h
   .rw [if_neg hc];simp only [List.lookup_cons,hx];exact ih h
theorem qZ {env:Env}{names:List (Str × NameKind)}(hc:∀ y ∈ names,y.2 ≠ .cell) {x:Str}{k':NameKind}(hk:k'=.cell \/ k'=.free)
  (h:(names.map fun (n,k)=>if (k == NameKind.free && env.scope.kind == .function && env.kindOf n == some .cell) then (n,NameKind.cell) else (n,k)).lookup x=some k'):(x,NameKind.free) ∈ names:=by
 have h1:=PySem.mem_of_lookup h;obtain⟨⟨n,k⟩,hm,e⟩:=List.mem_map.mp h1;by_cases q:(k == NameKind.free && env.scope.kind == .function && env.kindOf n == some .cell)=true
 .simp only [q] at e;simp at e;obtain⟨rfl,_⟩:=e;simp at q;obtain⟨⟨rfl,_⟩,_⟩:=q;exact hm
 .simp only [q] at e;simp at e;obtain⟨rfl,rfl⟩:=e;rcases hk with z | z
  .exact absurd z (hc _ hm)
  .subst z;exact hm
section
noncomputable def hZ (k:Nat) (fr:List Nat) (σ:St):St:=List.replicate k none ++ fr.map fun j=>(σ[j]?).join
noncomputable def dB (tgs:List Str) (fr:List Nat) (N:List Str):List Str:=tgs ++ fr.map fun j=>(N[j]?).getD Str.empty
theorem Z22 {scope:Scope}{tgs:List Str}{fr:List Nat}{cl:List (Str × Addr)}{h':Heap}{tk:Nat}{ex:List Addr}(I:Inv X pins σ H s)
  (chk:eN X.env.scope X.N scope fr=true)
  (hcl1:∀ n c,cl.lookup n=some c->X.env.cells.lookup n=some c) (hcl2:∀ n,(n,NameKind.free) ∈ scope.names->∃ c,cl.lookup n=some c)
  (hns:h'.Ns s.heap.objs.size (fun _=>none)) (hkeep:∀ b o,s.heap.get? b=some o->h'.get? b=some o)
  (hex:∀ b ∈ ex,vM X pins H b /\ b < s.heap.objs.size) :
  Inv (dH X (dB tgs fr X.N) scope cl s.heap.objs.size s H ex pins) [] (hZ tgs.length fr σ) H { s with heap:=h',toks:=tk }:=by
 simp only [eN,Bool.and_eq_true,List.all_eq_true] at chk;obtain⟨⟨⟨⟨c1,c2⟩,c3⟩,c4⟩,c5⟩:=chk;have hkind:scope.kind=.function:=by simpa using c1
 have hcell:∀ y ∈ scope.names,y.2 ≠ .cell:=fun y hy=>by simpa using c2 y hy
 have lt:∀ b o,s.heap.get? b=some o->b < s.heap.objs.size:=fun b o e=>Heap.lt_size e;have nofr:∀ b ∈ frs X.stack,b ∈ X.env.locals :: X.fs:=I.stkSub;refine⟨⟨I.ok.mod,hkind,I.ok.glob,I.ok.blt,Nat.le_refl _,fun x y c a b=>I.ok.inj x y c (hcl1 _ _ a) (hcl1 _ _ b),fun x hx=>?_,fun x c hf _=>?_,I.ok.hd,I.ok.frames,.inl rfl,fun b hb=>⟨?_,fun x c e=>(hex b hb).1.2.2.2.2.1 x c (hcl1 _ _ e)⟩,
   I.bs,Nat.le_trans I.ok.bsz I.sz,fun b o e hb=>?_,fun b hb hf=>?_,I.stack,I.stkFree⟩,
  rfl,I.bare,Un.kept hkeep,⟨fun _=>none,hns,fun i x v h1 h2 h3=>?_⟩,fun x c e=>?_,I.fresh,fun x c e=>I.freeC x c (hcl1 _ _ e),fun p hp=>?_,I.hok.kept hkeep,?_⟩
 .-- has
  have hx:(relabel scope X.env).names.lookup x=some .cell \/ (relabel scope X.env).names.lookup x=some .free:=hx;rcases hx with z | z
  .exact hcl2 x (qZ hcell (.inl rfl) z)
  .exact hcl2 x (qZ hcell (.inr rfl) z)
 .cases hf
 .show b ≠ s.heap.objs.size;exact Nat.ne_of_lt (hex b hb).2
 .-- noex
  obtain⟨⟨_,_,_,h4,_⟩,_⟩:=hex b hb;rcases h4 with z | z
  .exact I.ok.noex b o e z
  .exact absurd (Heap.lt_size (I.ok.bs b o e).1) (Nat.not_lt.mpr z)
 .-- exfs
  obtain⟨⟨_,h2,h3,_⟩,_⟩:=hex b hb;rcases List.mem_cons.mp (nofr b hf) with z | z
  .exact h2 z
  .exact h3 z
 .-- loc
  have h1:(dB tgs fr X.N)[i]? = some x:=h1;by_cases hi:i < tgs.length
  .unfold hZ at h2;rw [List.getElem?_append_left (by simpa using hi),List.getElem?_replicate,if_pos hi] at h2;cases h2
  .unfold hZ at h2;rw [List.getElem?_append_right (by simpa using hi),List.length_replicate,List.getElem?_map] at h2;unfold dB at h1;rw [List.getElem?_append_right (by simpa using hi),List.getElem?_map] at h1;cases ej:fr[i - tgs.length]? with
   | none=>rw [ej] at h2;cases h2
   | some j =>
    rw [ej] at h1 h2;have hj:=c4 j (List.mem_of_getElem? ej);cases en:X.N[j]? with
    | none=>rw [en] at hj;cases hj
    | some y =>
     rw [en] at hj;simp only [Option.map_some,en,Option.getD_some] at h1;cases h1;have hl:scope.names.lookup x=some .free:=by simpa using hj
     have hσ:σ[j]? = some (some v):=by
      simp only [Option.map_some] at h2;cases eσ:σ[j]? with
      | none=>rw [eσ] at h2;cases h2
      | some o=>rw [eσ] at h2;simp only [Option.join_some] at h2;injection h2 with h2;rw [h2]
     have hko:X.env.scope.names.lookup x=some .cell \/ X.env.scope.names.lookup x=some .free:=by
      have:=c3 _ (PySem.mem_of_lookup hl);simpa using this
     obtain⟨m,_,hloc⟩:=I.loc;obtain⟨u,r,q⟩:=hloc j x v en hσ (hko.elim (fun z=>.inr (.inl z)) fun z=>.inr (.inr z));refine⟨u,r,.inr ?_⟩;obtain⟨c,hc⟩:=hcl2 x (PySem.mem_of_lookup hl);have hin:=hX (env:=X.env) hl;refine⟨hin,c,hc,?_⟩;rcases q with ⟨k,_⟩ | ⟨_,c',e',z⟩
     .have k':X.env.scope.names.lookup x=some .local:=k;rcases hko with w | w <;> (rw [k'] at w;cases w)
     .have:c'=c:=by have:=hcl1 x c hc;rw [e'] at this;exact Option.some.inj this
      subst this;obtain⟨oc,hoc,hd⟩:=z;exact⟨oc,hkeep _ _ hoc,hd⟩
 .obtain⟨v,oc,hoc,hd⟩:=I.cell x c (hcl1 _ _ e);exact⟨v,oc,hkeep _ _ hoc,hd⟩
 .have hp':p ∈ X.pn ++ pins:=by
   have:p ∈ (X.pn ++ pins) ++ []:=hp;simpa using this
  obtain⟨a1,a2,a3,a4,a5⟩:=I.pin p hp';refine⟨hkeep _ _ a1,a2,?_,fun hf=>?_,a5⟩
  .show p.1 ≠ s.heap.objs.size;exact Nat.ne_of_lt (lt _ _ a1)
  .rcases List.mem_cons.mp (nofr _ hf) with z | z
   .exact a3 z
   .exact a4 z
 .show (hZ tgs.length fr σ).length=(dB tgs fr X.N).length;simp [hZ,dB]
end
noncomputable def PTs (X:Cx) (ifs:List Expr) (t:TT):Prop :=
 ∀ (pins:List (Addr × Obj)) (s:Shared) (σ:St) (H:Hp) (Q:Bool->Hp->Prop),Inv X pins σ H s->t σ H Q ->
  wpAny (model X.prog X.w) X.A (forIn ifs true fun c r=>if r=true then do let ok <- isTrue c X.env (eval c X.env);pure (ForInStep.yield ok) else pure (ForInStep.yield r)) (TP X pins σ Q) X.xe s
noncomputable def Z52:TT:=fun _ H Q=>Q true H
theorem Z33:PTs X [] Z52:=fun pins s σ H Q I h=>wpAny_tests_nil ⟨H,I,h⟩
theorem Z32 (h:PT X c t):PTs X [c] t:=fun pins s σ H Q I q=>wpAny_tests_one (h pins s σ H Q I q)
noncomputable def Z3T (J:It) (k:Nat) (fr:List Nat) (g:TG) (tt:TT) (te:TE) (σ:St) (H1:Hp) (Q:VK):Prop :=
 ∀ acc,H1 acc=none->∃ W:Nat->Nat->List V->Hp->Prop,(∃ m,W 0 m [] (upd H1 acc (.lst []))) /\ ∀ i m ys H,W i m ys H->H acc=some (.lst ys) /\
  ((J.stop i H /\ Q (.ref acc) H) \/ (J.go i H /\ ∀ x H', J.yld i H x H' -> g x (hZ k fr σ) H' fun σ2 H2 => (σ2.drop k = (hZ k fr σ).drop k /\ σ2.length = (hZ k fr σ).length) /\ tt σ2 H2 fun b H3 => if b = true then te σ2 H3 fun y H4 => ∃ ys', H4 acc = some (.lst ys') /\ ys'.length < sizeLine /\
   ∃ m',m' < m /\ W (i + 1) m' (ys' ++ [y]) (upd H4 acc (.lst (ys' ++ [y]))) else ∃ m' ys',m' < m /\ W (i + 1) m' ys' H3))
noncomputable def zR (wi:TI) (k:Nat) (fr:List Nat) (g:TG) (tt:TT) (te:TE):TE:=fun σ H Q=>wi σ H fun J H1=>Z3T J k fr g tt te σ H1 Q
section
theorem G3 {cl:List (Str × Addr)}{R:VK}{E:Value->Shared->Prop}{RR:Value->Addr->Result->Shared->Prop}(I2:Inv X pins σ H s) (T:zC X.prog X.w X.K tg J fp it tn) (st2:tn 0 s.heap) (f2:∀ b ∈ fp,vM X pins H b) (hc:X.calm=true)
  (chk:eN X.env.scope X.N scope fr=true)
  (hcl1:∀ n c,cl.lookup n=some c->X.env.cells.lookup n=some c) (hcl2:∀ n,(n,NameKind.free) ∈ scope.names->∃ c,cl.lookup n=some c)
  (hg:∀ cl C s0 H0 ex pins,PG (dH X (dB tgs fr X.N) scope cl C s0 H0 ex pins) tg g)
  (ht:∀ cl C s0 H0 ex pins,PTs (dH X (dB tgs fr X.N) scope cl C s0 H0 ex pins) ifs tt)
  (he:∀ cl C s0 H0 ex pins,PE (dH X (dB tgs fr X.N) scope cl C s0 H0 ex pins) elt te)
  (rd:Z3T J tgs.length fr g tt te σ H R)
  (fin:∀ D C s' Hend m,Inv X pins σ Hend s'->s'.heap.Ns C m->Hend C=none->C ≠ X.env.locals->X.s₀.heap.objs.size <= C->(∀ x c,X.env.cells.lookup x=some c->c ≠ C)->(∀ p ∈ X.pn ++ pins,p.1 ≠ C)->R (.ref D) Hend->RR (.ref D) C (.ok .next) s') :
  wpAny (model X.prog X.w) X.A (newList []) (fun acc s₃=>wpAny (model X.prog X.w) X.A (newFunctionEnv scope X.env.globals cl [] X.env.qual none .none (some X.env)) (fun cenv s₄ =>
   codeAny (model X.prog X.w) X.A (.compStart (.ListComp elt [⟨tg,iter,ifs,0⟩] scope pos) 0 (.ref it) acc { cenv with scope:=relabel scope X.env }) (RR acc cenv.locals) s₄) E s₃) E s:=by
 have chk':=chk;simp only [eN,Bool.and_eq_true,List.all_eq_true] at chk';obtain⟨⟨⟨⟨c1,c2⟩,c3⟩,c4⟩,c5⟩:=chk';have hkind:scope.kind=.function:=by simpa using c1
 have hcell:∀ y ∈ scope.names,y.2 ≠ .cell:=fun y hy=>by simpa using c2 y hy
 refine wpAny_newObj_type (wpAny_newFunctionEnv hcell (by intro y hy;simp at hy) (fun h₁ hns₁ hsb₁=>?_) hkind);have I3:Inv X pins σ (upd H s.heap.objs.size (.lst [])) { s with heap:=s.heap.push { cls:=.type "list",data:=.seq ([]:List Value).toArray } }:=I2.lnew (t':=s.toks) (its:=[]) .nil (Nat.zero_le _);generalize hs3:({ s with heap:=s.heap.push { cls:=.type "list",data:=.seq ([]:List Value).toArray } }:Shared)=s3 at I3 hns₁ hsb₁ ⊢;have heap3:s3.heap=s.heap.push { cls:=.type "list",data:=.seq ([]:List Value).toArray }:=by rw [<- hs3]
 have kept3:∀ b o,s.heap.get? b=some o->s3.heap.get? b=some o:=fun b o e=>by rw [heap3];exact Heap.get?_push_of_some _ e
 have size3:s3.heap.objs.size=s.heap.objs.size + 1:=by rw [heap3,Heap.size_push]
 have fpl:∀ b ∈ fp,b < s.heap.objs.size:=fun b hb=>by
  obtain⟨o,e,_⟩:=T.obj 0 _ st2 b hb;exact Heap.lt_size e
 have upn:∀ {b:Addr},b < s.heap.objs.size->upd H s.heap.objs.size (.lst []) b=H b:=fun hb=>aJ (Nat.ne_of_lt hb);have f3:∀ b ∈ fp,vM X pins (upd H s.heap.objs.size (.lst [])) b:=fun b hb=>⟨by rw [upn (fpl b hb)];exact (f2 b hb).1,(f2 b hb).2⟩;have keep4:∀ b o,s3.heap.get? b=some o->h₁.get? b=some o:=fun b o e=>hsb₁.extBut b o (Nat.ne_of_lt (Heap.lt_size e)) (Heap.get?_push_of_some _ e);have I4:=Z22 (tgs:=tgs) (h':=h₁) (tk:=s3.toks + ([]:List (Str × Value)).length) (ex:=fp) I3 chk hcl1 hcl2 (by simpa using hns₁) keep4 (fun b hb=>⟨f3 b hb,by rw [size3];exact Nat.lt_succ_of_lt (fpl b hb)⟩);obtain⟨W,⟨m0,w0⟩,turn⟩:=rd s.heap.objs.size I2.fresh;generalize hX':dH X (dB tgs fr X.N) scope cl s3.heap.objs.size s3 (upd H s.heap.objs.size (.lst [])) fp pins=X' at I4;have eA:X'.A=X.A:=by rw [<- hX'];rfl
 have eP:X'.prog=X.prog:=by rw [<- hX'];rfl
 have eW:X'.w=X.w:=by rw [<- hX'];rfl
 have eK:X'.K=X.K:=by rw [<- hX'];rfl
 have eC:X'.calm=true:=by rw [<- hX'];exact hc
 have eX:X'.xe=fun _ _=>False:=by rw [<- hX'];rfl
 have eEnv:X'.env=compEnvC scope cl s3.heap.objs.size X.env:=by rw [<- hX'];rfl
 have hg':PG X' tg g:=by rw [<- hX'];exact hg _ _ _ _ _ _
 have ht':PTs X' ifs tt:=by rw [<- hX'];exact ht _ _ _ _ _ _
 have he':PE X' elt te:=by rw [<- hX'];exact he _ _ _ _ _ _
 have fp4:∀ {H':Hp},(∀ b ∈ fp,H' b=none)->∀ b ∈ fp,vM X' [] H' b:=fun {H'} hn b hb=>by
  rw [<- hX'];obtain⟨_,z2,z3,z4,z5,z6⟩:=f3 b hb;refine⟨hn b hb,?_,fun hf=>?_,.inl hb,fun x c e=>z5 x c (hcl1 _ _ e),fun p hp=>z6 p (by have:p ∈ (X.pn ++ pins) ++ []:=hp;simpa using this)⟩
  .show b ≠ s3.heap.objs.size;rw [size3];exact Nat.ne_of_lt (Nat.lt_succ_of_lt (fpl b hb))
  .rcases List.mem_cons.mp (I3.stkSub b hf) with z | z
   .exact z2 z
   .exact z3 z
 have loop:codeAny (model X.prog X.w) X.A (.compLoop (.ListComp elt [⟨tg,iter,ifs,0⟩] scope pos) 0 (.ref it) (.ref s.heap.objs.size) (compEnvC scope cl s3.heap.objs.size X.env))
   (RR (.ref s.heap.objs.size) s3.heap.objs.size) { s3 with heap:=h₁,toks:=s3.toks + ([]:List (Str × Value)).length }:=by
  refine yW (fun n s'=>∃ i ys H',Inv X' [] (hZ tgs.length fr σ) H' s' /\ tn i s'.heap /\ (∀ b ∈ fp,H' b=none) /\ W i n ys H') ?_ m0
   ⟨0,[],upd H s.heap.objs.size (.lst []),I4,T.keep _ _ _ st2 fun b hb o e=>keep4 _ _ (kept3 _ _ e),fun b hb=>(f3 b hb).1,w0⟩
  rintro n s5 ⟨i,ys,H5,I5,st5,fr5,w5⟩;obtain⟨hacc,turn⟩:=turn i n ys H5 w5;rcases turn with ⟨stop,q⟩ | ⟨go,step⟩
  .have d:=T.done X' eP eW eK eC i [] s5 (hZ tgs.length fr σ) H5 (fun _ _=>False) I5 (fp4 fr5) st5 stop;rw [eA] at d;refine wpAny_mono d (fun r s6 ⟨hr,I6⟩=>?_) fun _ _ z=>z.elim;subst hr;have I6':=I6;rw [<- hX'] at I6';have un6:Un (frs X.stack) fp (upd H s.heap.objs.size (.lst [])) H5 s3.heap s6.heap:=I6'.base;have I7:Inv X pins σ H5 s6:=I3.call' I6'.os un6 (by have:=I6'.hok;exact this) I6'.bare fun b hb=>⟨(f3 b hb).2.2.2.1,(f3 b hb).2.1,(f3 b hb).2.2.2.2.1,(f3 b hb).2.2.2.2.2⟩;obtain⟨m,hm,_⟩:=I6'.loc;refine fin _ _ s6 H5 m I7 hm I6'.free ?_ ?_ ?_ ?_ q
   .exact fun z=>by have:=I3.lt;rw [<- z] at this;exact Nat.lt_irrefl _ this
   .exact I3.sz
   .intro x c e z;obtain⟨v,oc,hoc,_⟩:=I3.cell x c e;have:=Heap.lt_size hoc;rw [z] at this;exact Nat.lt_irrefl _ this
   .intro p hp z;have:=Heap.lt_size (I3.pin p hp).1;rw [z] at this;exact Nat.lt_irrefl _ this
  .have d:=T.item X' eP eW eK eC i [] s5 (hZ tgs.length fr σ) H5 (fun _ _=>False) I5 (fp4 fr5) st5 go;rw [eA] at d;refine wpAny_mono d (fun r s6 ⟨u,hr,h6⟩=>?_) fun _ _ z=>z.elim;subst hr;refine wpAny_mono h6 (fun _ s7 ⟨x,H7,I7,r7,y7,st7,fr7⟩=>?_) fun _ _ z=>z.elim;have I7':=I7.pinned (fp4 fr7) (T.obj _ _ st7);have a:=hg' _ s7 _ H7 x u _ I7' r7 (step x H7 y7);rw [eEnv,eA,eP,eW,eX] at a;refine wpAny_mono a (fun _ s8 ⟨σ8,H8,I8,⟨kp,kl⟩,q8⟩=>?_) fun _ _ z=>z.elim;have b:=ht' _ s8 σ8 H8 _ I8 q8;rw [eEnv,eA,eP,eW,eX] at b;refine wpAny_mono b (fun ok s9 ⟨H9,I9,q9⟩=>?_) fun _ _ z=>z.elim;have again:∀ {s10:Shared}{H10:Hp}{ys10:List V}{m':Nat},Inv X' ([] ++ tJ fp s7.heap) σ8 H10 s10->m' < n->W (i + 1) m' ys10 H10 ->
     ∃ m,m < n /\ ∃ i ys H',Inv X' [] (hZ tgs.length fr σ) H' s10 /\ tn i s10.heap /\ (∀ b ∈ fp,H' b=none) /\ W i m ys H':=fun {s10 H10 ys10 m'} I10 hm w10=>by
    refine⟨m',hm,i + 1,ys10,H10,I10.unpinned.weak kl.symm (fun j v e=>?_),T.keep _ _ _ st7 fun b hb o e=>(I10.pin (b,o) (List.mem_append_right _ (List.mem_append_right _ (kT hb e)))).1,fun b hb=>?_,w10⟩
    .by_cases hj:j < tgs.length
     .unfold hZ at e;rw [List.getElem?_append_left (by simpa using hj),List.getElem?_replicate,if_pos hj] at e;cases e
     .have e1:(σ8.drop tgs.length)[j - tgs.length]? = some (some v):=by
       rw [kp,List.getElem?_drop];rw [show tgs.length + (j - tgs.length)=j by omega];exact e
      rw [List.getElem?_drop,show tgs.length + (j - tgs.length)=j by omega] at e1;exact e1
    .obtain⟨o,e,d⟩:=T.obj _ _ st7 b hb;exact (I10.pin (b,o) (List.mem_append_right _ (List.mem_append_right _ (kT hb e)))).2.1
   cases ok with
   | false =>
    rw [if_neg (by decide)] at q9 ⊢;obtain⟨m',ys',hm,w9⟩:=q9;exact again I9 hm w9
   | true =>
    rw [if_pos rfl] at q9 ⊢;have c:=he' _ s9 σ8 H9 _ I9 q9;rw [eEnv,eA,eP,eW,eX] at c;refine wpAny_mono c (fun y s10 ⟨v10,H10,I10,r10,ys',ha10,hl10,m',hm,w10⟩=>?_) fun _ _ z=>z.elim;have d:=wF (X:=X') _ s10 σ8 H10 (.ref s.heap.objs.size) [v10] (.ref s.heap.objs.size) [y] (fun _ H11=>W (i + 1) m' (ys' ++ [v10]) H11) I10 rfl (.cons r10 .nil) ⟨_,ys',v10,rfl,rfl,ha10,hl10,w10⟩;rw [eA,eP,eW,eX] at d;refine wpAny_mono d (fun _ s11 ⟨_,H11,I11,_,w11⟩=>again I11 hm w11) fun _ _ z=>z.elim
 exact codeAny_compStart_list loop (T.self _ 0 _ _ _ (T.keep _ _ _ st2 fun b hb o e=>keep4 _ _ (kept3 _ _ e)) loop)
theorem xX (hc:X.calm=true) (chk:eN X.env.scope X.N scope fr=true) (hi:PI X tg iter wi)
  (hg:∀ cl C s0 H0 ex pins,PG (dH X (dB tgs fr X.N) scope cl C s0 H0 ex pins) tg g)
  (ht:∀ cl C s0 H0 ex pins,PTs (dH X (dB tgs fr X.N) scope cl C s0 H0 ex pins) ifs tt)
  (he:∀ cl C s0 H0 ex pins,PE (dH X (dB tgs fr X.N) scope cl C s0 H0 ex pins) elt te)
  (hs:∀ x,foldedSetIterable iter X.env x=pure x:=by intro _;rfl) :
  PE X (.ListComp elt [⟨tg,iter,ifs,0⟩] scope pos) (zR wi tgs.length fr g tt te):=by
 intro pins s σ H Q I h;have chk':=chk;simp only [eN,Bool.and_eq_true,List.all_eq_true] at chk';obtain⟨⟨⟨⟨c1,c2⟩,c3⟩,c4⟩,c5⟩:=chk';obtain⟨cl,ecl,hcl1,hcl2⟩:=uI (scope:=scope) (env:=X.env) fun n hn=>I.ok.has n (by have:=c3 _ hn;show X.env.scope.names.lookup n=_ \/ X.env.scope.names.lookup n=_;simpa using this);rw [eval_ListComp];refine wpAny_comprehension_free (use:=none) rfl hs ecl (by simpa using c1) (fun x hx hl=>by have:=c5 x hx;rw [hl] at this;simpa using this) (thn (hi pins s σ H _ I h) fun x s1 h1=>thn h1 fun itv s2 h2=>?_);obtain⟨it,fp,tn,J,H2,rfl,I2,T,st2,f2,rd⟩:=h2;refine G3 (R:=Q) (RR:=fun acc C=>compPost (model X.prog X.w) X.A X.xe none (EP X pins σ Q) acc C) I2 T st2 f2 hc chk hcl1 hcl2 hg ht he rd ?_;intro D C s' Hend m I' hn hf hL hsz hcs hps q;exact⟨m,hn,fun h' hs'=>⟨.ref D,Hend,I'.turned (t':=s'.toks) (fun b o hb e=>hs'.extBut b o hb e) hf hL (.inr hsz) hcs hps,rfl,q⟩⟩
theorem tH (hc:X.calm=true) (hN:X.N.Nodup) (hi':X.N[i]? = some x) (hx:Loc X.env.scope x) (chk:eN X.env.scope X.N scope fr=true) (hi:PI X tg iter wi)
  (hg:∀ cl C s0 H0 ex pins,PG (dH X (dB tgs fr X.N) scope cl C s0 H0 ex pins) tg g)
  (ht:∀ cl C s0 H0 ex pins,PTs (dH X (dB tgs fr X.N) scope cl C s0 H0 ex pins) ifs tt)
  (he:∀ cl C s0 H0 ex pins,PE (dH X (dB tgs fr X.N) scope cl C s0 H0 ex pins) elt te)
  (hsw:swapsWith (.ListComp elt [⟨tg,iter,ifs,0⟩] scope pos) (some (.Name x pos')) spos.line X.env=pure true)
  (hf:X.fn x=true \/ X.env.scope.names.lookup x=some .local:=by first | exact .inl rfl | exact .inr rfl | assumption)
  (hs:∀ x,foldedSetIterable iter X.env x=pure x:=by intro _;rfl) :
  PS X (.Assign [.Name x pos'] (.ListComp elt [⟨tg,iter,ifs,0⟩] scope pos) spos) (Y0 (zR wi tgs.length fr g tt te) (uD i)):=by
 intro pins s σ H D I h;have chk':=chk;simp only [eN,Bool.and_eq_true,List.all_eq_true] at chk';obtain⟨⟨⟨⟨c1,c2⟩,c3⟩,c4⟩,c5⟩:=chk';obtain⟨cl,ecl,hcl1,hcl2⟩:=uI (scope:=scope) (env:=X.env) fun n hn=>I.ok.has n (by have:=c3 _ hn;show X.env.scope.names.lookup n=_ \/ X.env.scope.names.lookup n=_;simpa using this);rw [exec_Assign_Name_used _ _ _ _ hsw];refine wpAny_bind (wpAny_standAt (wpAny_bind ?_));show wpAny _ X.A (do let _ <- comprehension (.ListComp elt [⟨tg,iter,ifs,0⟩] scope pos) scope X.env _ (newList []) false (eval iter X.env) (some (assign (.Name x pos') X.env))) _ _ s
 refine wpAny_bind (wpAny_mono (wpAny_comprehension_free (use:=some (assign (.Name x pos') X.env)) (Q:=fun _ s'=>SP X pins D .next s') rfl hs ecl (by simpa using c1) (fun x hx hl=>by have:=c5 x hx;rw [hl] at this;simpa using this)
  (thn (hi pins s σ H _ I h) fun x s1 h1=>thn h1 fun itv s2 h2=>?_)) (fun _ s' hq=>wpAny_pure (wpAny_pure hq)) fun _ _ e=>e)
 obtain⟨it,fp,tn,J,H2,rfl,I2,T,st2,f2,rd⟩:=h2;refine G3 (RR:=fun acc C=>compPost (model X.prog X.w) X.A X.xe (some (assign (.Name _ pos') X.env)) (fun _ s'=>SP X pins D .next s') acc C) I2 T st2 f2 hc chk hcl1 hcl2 hg ht he rd ?_;intro Da C s' Hend m I' hn hf' hL hsz hcs hps q;show wpAny _ X.A (assign (.Name _ pos') X.env (.ref Da)) _ _ s';refine wpAny_assign_Name (vU I' hN hi' hx (v:=.ref Da) (u:=.ref Da) rfl (fun s'' I'' ⟨a,hsa,ha⟩=>?_) hf);have hCa:C ≠ a:=by
  rcases ha with z | z
  .rw [z];exact hL
  .exact fun e=>hcs _ _ z e.symm
 exact⟨m,hn.sameBut hsa hCa,fun h' hs'=>⟨_,Hend,I''.turned (t':=s''.toks) (fun b o hb e=>hs'.extBut b o hb e) hf' hL (.inr hsz) hcs hps,q⟩⟩
end
noncomputable def Ite (K:Frag) (a:Addr):It :=
 ⟨fun i H=>∃ xs x,SqL K H a xs /\ xs[i]? = some x,fun i H x H'=>∃ p y,H p=none /\ x=.ref p /\ (∀ xs,SqL K H a xs->xs[i]? = some y) /\ H'=upd H p (.tup [.int (i:Int),y]),fun i H=>∃ xs,SqL K H a xs /\ xs.length <= i⟩
theorem X3 {P:Program}{w:World}{K:Frag}{elts:List Expr}{k1:Nat}{pos:Pos}(a e it:Addr) (hne:e ≠ it) :
  zC P w K (.Tuple elts k1 pos) (Ite K a) [e,it] e (fun i h=>(∃ old,IsEnum h e it i old) /\ h.IsListIter it a i) where
 mem:=by simp
 obj:=fun i h st b hb=>by
  obtain⟨⟨old,he⟩,o,e',c,d⟩:=st;rcases List.mem_cons.mp hb with z | z
  .subst z;exact⟨_,he,fun v q=>by cases q⟩
  .have z:b=it:=by simpa using z
   subst z;exact⟨o,e',fun v q=>by rw [d] at q;cases q⟩
 keep:=fun i h h' st k=>⟨let ⟨old,he⟩:=st.1;⟨old,k e (by simp) _ he⟩,st.2.at fun o q=>k it (by simp) o q⟩
 item:=by
  intro X hP hw hK hc i pins s σ H E I hf st hg;subst hP hw hK;obtain⟨xs,x,hq,hx⟩:=hg;obtain⟨its,rv,p,hz⟩:=I.list hq;obtain⟨u,hu,ru⟩:=rv.get hx;obtain⟨⟨old,he⟩,hit⟩:=st;have fe:=hf e (by simp);have fi:=hf it (by simp);refine wpAny_pyNext_enum_item he hit p.isList (x:=u) (by simpa using hu) hne fun h' ho hit' hT hsz hk=>?_;refine⟨_,rfl,wpAny_letOwnedTupleGo_enum (s:={ s with heap:=h',toks:=s.toks + 1 }) ho fun h'' he'' hs''=>?_⟩;have hfr:H s.heap.objs.size=none:=I.fresh;have lt:∀ b o,s.heap.get? b=some o->b ≠ s.heap.objs.size:=fun b o q=>Nat.ne_of_lt (Heap.lt_size q);have kp:∀ b o,b ≠ e->b ≠ it->s.heap.get? b=some o->h''.get? b=some o:=fun b o h1 h2 q=>(hs''.2 b h1).trans (hk b o h1 h2 q);have hee:e ≠ s.heap.objs.size:=lt _ _ he;have nch:∀ b u,H b=some u->b ≠ e /\ b ≠ it:=fun b u q=>⟨fun z=>(by rw [z,fe.1] at q;cases q),fun z=>(by rw [z,fi.1] at q;cases q)⟩;refine⟨.ref s.heap.objs.size,upd H s.heap.objs.size (.tup [.int (i:Int),x]),?_,rfl,⟨_,x,hfr,rfl,fun ys hy=>by rw [I.list_inj hy hq];exact hx,rfl⟩,⟨⟨_,by simpa using he''⟩,hit'.at fun o q=>(hs''.2 it (Ne.symm hne)).trans q⟩,fun b hb=>?_⟩
  .refine Inv.step (s:=s) (h':=h'') (t':=s.toks + 1) (H':=upd H s.heap.objs.size (.tup [.int (i:Int),x])) (g':=s.gens) (d':=s.drawn) (ch:=[e,it]) I (fun b hb=>?_) (fun b o _ _ hc q _=>kp b o (fun z=>hc (by simp [z])) (fun z=>hc (by simp [z])) q) (fun b o _ _ hc q _=>⟨o.slots,kp b o (fun z=>hc (by simp [z])) (fun z=>hc (by simp [z])) q⟩)
    (fun b o _ q n=>by rw [aJ (lt b o q)];exact n) (fun b o hc q=>⟨o,kp b o (fun z=>hc (by simp [z])) (fun z=>hc (by simp [z])) q⟩)
    (fun b ys q=>by rw [aJ (aQ q hfr)];exact q) (fun b o u q=>by rw [aJ (aQ q hfr)];exact q) (fun b ps q=>⟨#[],by rw [aJ (aQ q hfr),q];simp⟩) (fun m hm=>?_) (fun b u q=>?_) I.bare
   .rcases List.mem_cons.mp hb with z | z
    .subst z;exact⟨fe.2.2.2.1,fe.2.1,fe.2.2.2.2.1,fe.2.2.2.2.2⟩
    .have z:b=it:=by simpa using z
     subst z;exact⟨fi.2.2.2.1,fi.2.1,fi.2.2.2.2.1,fi.2.2.2.2.2⟩
   .obtain⟨o,es,ep,ho,r⟩:=hm;exact⟨o,es,ep,kp _ o (Ne.symm fe.2.1) (Ne.symm fi.2.1) ho,r⟩
   .by_cases hb:b=s.heap.objs.size
    .subst hb;rw [aR] at q;cases q;refine⟨by show 2 <= sizeLine;decide,[.int (i:Int) s.toks,u],.cons ⟨_,rfl⟩ (.cons ru .nil),_,(hs''.2 _ (Ne.symm hee)).trans hT,rfl,_,rfl⟩
    .rw [aJ hb] at q;refine (I.hok b u q).stay (fun c v hc z=>?_) (fun c z=>by rw [aJ (aQ z hfr)];exact z) fun c ys z=>by rw [aJ (aQ z hfr)];exact z
     rcases hc with y | y
     .rw [y] at z ⊢;exact kp _ _ (nch b u q).1 (nch b u q).2 z
     .exact kp _ _ (nch c _ y).1 (nch c _ y).2 z
  .have hb':b < s.heap.objs.size:=by
    rcases List.mem_cons.mp hb with z | z
    .subst z;exact Heap.lt_size he
    .have z:b=it:=by simpa using z
     subst z;obtain⟨o,q,_⟩:=hit;exact Heap.lt_size q
   rw [aJ (Nat.ne_of_lt hb')];exact (hf b hb).1
 done:=by
  intro X hP hw hK hc i pins s σ H E I hf st hg;subst hP hw hK;obtain⟨xs,hq,hx⟩:=hg;obtain⟨its,rv,p,hz⟩:=I.list hq;obtain⟨⟨old,he⟩,hit⟩:=st;obtain⟨f0,f1,f2,f3,f4,f5⟩:=hf it (by simp);have hl:=rv.length;exact wpAny_pyNext_enum_end (I.ok.hd hc) he hit p.isList (by simp;omega) fun h' eb=>⟨rfl,I.turned (t':=s.toks) (fun b o hb e=>eb b o hb e) f0 f1 f3 f4 f5⟩
 self:=fun _ _ _ _ _ st h=>wpAny_pyIter_enum st.1.choose_spec h
section
variable {X:Cx}{tg:Expr}{elts:List Expr}{k1:Nat}{tpos:Pos}
noncomputable def Z5L (K:Frag) (ta:TA):TI:=fun σ H R=>ta σ H fun vs H1=>∃ a,vs=[.ref a] /\ (∃ xs,SqL K H1 a xs) /\ R (Ite K a) H1
theorem Z3b {l:Expr}{ta:TA}{p pos:Pos}(hg:Gl X "enumerate") (hm:X.mg "enumerate" = none) (ha:PA X [l] ta) (hs:starEach [l] X.env=[(false,eval l X.env)]:=by rfl) :
  PI X (.Tuple elts k1 tpos) (.Call (.Name "enumerate" p) [l] [] pos) (Z5L X.K ta):=by
 intro pins s σ H R I h;refine Call_ (jO I hg hm PyProof.Rows.boot_enumerate (PyProof.Rows.callWith_type1 (thn (ha pos pins s σ H _ I h) fun us s1 ⟨vs,H1,I1,r1,q1⟩=>?_) hs rfl));obtain⟨a,rfl,⟨xs,hq⟩,q⟩:=q1;cases r1 with
 | cons r rr =>
  cases rr;cases r;obtain⟨its,rv,pl,hz⟩:=I1.list hq;refine call_enumerate_list pl.isList fun h' he hit hsz hk=>?_;refine wpAny_pyIter_enum (s:={ s1 with heap:=h' }) he ?_;have I2:Inv X pins σ H1 { s1 with heap:=h' }:=I1.kept (t':=s1.toks) hk;refine⟨s1.heap.objs.size + 1,[s1.heap.objs.size + 1,s1.heap.objs.size],_,_,H1,rfl,I2,X3 a _ _ (Nat.succ_ne_self _),⟨⟨_,he⟩,hit⟩,fun b hb=>?_,q⟩;have hb':s1.heap.objs.size <= b:=by
   rcases List.mem_cons.mp hb with z | z
   .rw [z];exact Nat.le_succ _
   .have z:b=s1.heap.objs.size:=by simpa using z
    rw [z];exact Nat.le_refl _
  exact I1.fpOk hb' (I1.hok.fresh hb')
end
end L2
namespace PD
open PySem PySem.Spec PyProof.Rows L2
inductive D where
 | non | bl (b:Bool) | int (i:Int) | str (x:Str) | tup (xs:List D) | lst (xs:List D) | obj (C:Addr) (ns:List Str) (xs:List D) | dk (ks:List Key) (xs:List D) | dt (ks:List (List Key)) (xs:List D) | exc (C:Addr) | fn (a:Addr) (vs:List V) (xs:List D)
noncomputable def kB (a:Addr) (cls:Value):Heap->Prop:=fun h=>∃ oe vs,h.get? a=some oe /\ oe.cls=cls /\ oe.data=.fields vs
mutual
noncomputable def flat:D->Bool
 | .non=>true
 | .bl _=>true
 | .int _=>true
 | .str _=>true
 | .tup xs=>flats xs
 | .lst _=>false
 | .obj _ _ _=>false
 | .dk _ _=>false
 | .dt _ _=>false
 | .exc _=>false
 | .fn _ _ _=>false
noncomputable def flats:List D->Bool
 | []=>true
 | x :: r=>flat x && flats r
end
noncomputable def FzL (K:Frag) (H:Hp) (a:Addr) (vs:List V):Prop:=(∃ o,H a=some (.frz o (.lst vs))) \/
  ∃ (o:Obj) (its:Array Value) (n:Nat),K.lookup a=some o /\ o.cls=.type "list" /\ o.dict=none /\ o.data=.seq its n /\ its.size <= sizeLine /\ Vals vs its.toList
theorem FzL.sq {K:Frag}{H:Hp}{a:Addr}{vs:List V}(h:FzL K H a vs):SqL K H a vs:=by
 rcases h with ⟨o,h⟩ | h
 .exact .inl (.inr ⟨o,h⟩)
 .exact .inr h
theorem Z0X {K:Frag}{H:Hp}{a:Addr}{vs:List V}(h:SqL K H a vs):H a=some (.lst vs) \/ FzL K H a vs:=by
 rcases h with (h | ⟨o,h⟩) | h
 .exact .inl h
 .exact .inr (.inl ⟨o,h⟩)
 .exact .inr (.inr h)
mutual
noncomputable def Rep (K:Frag) (st:Bool) (H:Hp):D->V->List Addr->Prop
 | .non,v,fp=>v=.non /\ fp=[]
 | .bl b,v,fp=>v=.bl b /\ fp=[]
 | .int i,v,fp=>v=.int i /\ fp=[]
 | .str x,v,fp=>v=.str x /\ fp=[]
 | .tup ds,v,fp=>∃ a vs,v=.ref a /\ SqT K H a vs /\ Reps K st H ds vs fp
 | .lst ds,v,fp=>∃ a vs fp',v=.ref a /\ Reps K st H ds vs fp' /\ ((fp=a :: fp' /\ H a=some (.lst vs)) \/ (st=false /\ fp=fp' /\ FzL K H a vs))
 | .obj C ns ds,v,fp=>∃ a dx vs fp',v=.ref a /\ fp=a :: fp' /\ H a=some (.ins C dx (ns.zip vs)) /\ ns.length=vs.length /\ Reps K st H ds vs fp'
 | .dk ks ds,v,fp=>∃ a vs fp',v=.ref a /\ fp=a :: fp' /\ H a=some (.dK (ks.zip vs)) /\ ks.length=vs.length /\ Reps K st H ds vs fp'
 | .dt ks ds,v,fp=>∃ a es ep vs fp',v=.ref a /\ es.map (·.1)=ks /\ es.map (·.2.2)=vs /\ (∀ e ∈ es,SqT K H e.2.1 (e.1.map kV)) /\ Reps K st H ds vs fp' /\ ((fp=a :: fp' /\ H a=some (.dE es ep)) \/ (st=false /\ fp=fp' /\ ∃ o,H a=some (.frz o (.dE es ep))))
 | .exc C,v,fp=>∃ a,v=.ref a /\ fp=[a] /\ H a=some (.ext (kB a (.ref C)))
 | .fn a vs ds,v,fp=>v=.ref a /\ Reps K st H ds vs fp
noncomputable def Reps (K:Frag) (st:Bool) (H:Hp):List D->List V->List Addr->Prop
 | [],vs,fp=>vs=[] /\ fp=[]
 | d :: ds,vs,fp=>∃ v r f1 f2,vs=v :: r /\ fp=f1 ++ f2 /\ Rep K st H d v f1 /\ Reps K st H ds r f2
end
section
variable {K:Frag}{st:Bool}{H H':Hp}
structure Kp (fp:List Addr) (H H':Hp):Prop where
 fps:∀ b ∈ fp,∀ o,H b=some o->H' b=some o
 tup:∀ b xs,H b=some (.tup xs)->H' b=some (.tup xs)
 frz:∀ b o u,H b=some (.frz o u)->H' b=some (.frz o u)
theorem Kp.same (e:Same H H') (fp:List Addr):Kp fp H H':=⟨fun b _ o h=>e b o h,fun b xs h=>e _ _ h,fun b o u h=>e _ _ h⟩
theorem Kp.sub (k:Kp fp H H') (h:∀ b ∈ fp',b ∈ fp):Kp fp' H H':=⟨fun b hb=>k.fps b (h b hb),k.tup,k.frz⟩
theorem Kp.upd (h:H a=some o) (hm:∀ xs,o ≠ .tup xs) (hf:∀ x u,o ≠ .frz x u) (hn:a ∉ fp):Kp fp H (L2.upd H a o') :=
 ⟨fun b hb u e => by have hba : b ≠ a := (fun z => hn (by rw [<- z]; exact hb)); rw [aJ hba]; exact e,
  fun b xs e=>by rw [aJ (fun z=>by rw [z,h] at e;exact hm xs (Option.some.inj e))];exact e,
  fun b x u e=>by rw [aJ (fun z=>by rw [z,h] at e;exact hf x u (Option.some.inj e))];exact e⟩
theorem M0 (k:Kp fp H H') {a:Addr}{xs:List V}(h:SqT K H a xs):SqT K H' a xs:=by
 rcases h with (h | ⟨o,h⟩) | h
 .exact .inl (.inl (k.tup _ _ h))
 .exact .inl (.inr ⟨o,k.frz _ _ _ h⟩)
 .exact .inr h
theorem Z4L (k:Kp fp H H') {a:Addr}{xs:List V}(h:FzL K H a xs):FzL K H' a xs:=by
 rcases h with ⟨o,h⟩ | h
 .exact .inl ⟨o,k.frz _ _ _ h⟩
 .exact .inr h
mutual
theorem Rep.keep:∀ (d:D) (v:V) (fp:List Addr),Kp fp H H'->Rep K st H d v fp->Rep K st H' d v fp
 | .non,v,fp,_,h=>by simpa only [Rep] using h
 | .bl b,v,fp,_,h=>by simpa only [Rep] using h
 | .int i,v,fp,_,h=>by simpa only [Rep] using h
 | .str x,v,fp,_,h=>by simpa only [Rep] using h
 | .tup ds,v,fp,k,h=>by
  simp only [Rep] at h ⊢;obtain⟨a,vs,e,hs,hr⟩:=h;exact⟨a,vs,e,M0 k hs,Reps.keep ds vs fp k hr⟩
 | .lst ds,v,fp,k,h=>by
  simp only [Rep] at h ⊢;obtain⟨a,vs,fp',e,hr,hs⟩:=h;rcases hs with ⟨rfl,hs⟩ | ⟨h1,rfl,hs⟩
  .exact⟨a,vs,fp',e,Reps.keep ds vs fp' (k.sub fun b hb=>List.mem_cons_of_mem _ hb) hr,.inl ⟨rfl,k.fps a List.mem_cons_self _ hs⟩⟩
  .exact⟨a,vs,fp,e,Reps.keep ds vs fp k hr,.inr ⟨h1,rfl,Z4L k hs⟩⟩
 | .obj C ns ds,v,fp,k,h=>by
  simp only [Rep] at h ⊢;obtain⟨a,dx,vs,fp',e,rfl,hs,hl,hr⟩:=h;exact⟨a,dx,vs,fp',e,rfl,k.fps a List.mem_cons_self _ hs,hl,Reps.keep ds vs fp' (k.sub fun b hb=>List.mem_cons_of_mem _ hb) hr⟩
 | .dk ks ds,v,fp,k,h=>by
  simp only [Rep] at h ⊢;obtain⟨a,vs,fp',e,rfl,hs,hl,hr⟩:=h;exact⟨a,vs,fp',e,rfl,k.fps a List.mem_cons_self _ hs,hl,Reps.keep ds vs fp' (k.sub fun b hb=>List.mem_cons_of_mem _ hb) hr⟩
 | .dt ks ds,v,fp,k,h=>by
  simp only [Rep] at h ⊢;obtain⟨a,es,ep,vs,fp',e,hk,hv,ht,hr,hs⟩:=h;rcases hs with ⟨rfl,hs⟩ | ⟨h1,rfl,o,hs⟩
  .exact⟨a,es,ep,vs,fp',e,hk,hv,fun e he=>M0 k (ht e he),Reps.keep ds vs fp' (k.sub fun b hb=>List.mem_cons_of_mem _ hb) hr,.inl ⟨rfl,k.fps a List.mem_cons_self _ hs⟩⟩
  .exact⟨a,es,ep,vs,fp,e,hk,hv,fun e he=>M0 k (ht e he),Reps.keep ds vs fp k hr,.inr ⟨h1,rfl,o,k.frz _ _ _ hs⟩⟩
 | .exc C,v,fp,k,h=>by
  simp only [Rep] at h ⊢;obtain⟨a,e,rfl,hs⟩:=h;exact⟨a,e,rfl,k.fps a List.mem_cons_self _ hs⟩
 | .fn a vs ds,v,fp,k,h=>by
  simp only [Rep] at h ⊢;exact⟨h.1,Reps.keep ds vs fp k h.2⟩
theorem Reps.keep:∀ (ds:List D) (vs:List V) (fp:List Addr),Kp fp H H'->Reps K st H ds vs fp->Reps K st H' ds vs fp
 | [],vs,fp,_,h=>by simpa only [Reps] using h
 | d :: ds,vs,fp,k,h=>by
  simp only [Reps] at h ⊢;obtain⟨v,r,f1,f2,e1,rfl,h1,h2⟩:=h;exact⟨v,r,f1,f2,e1,rfl,Rep.keep d v f1 (k.sub fun b hb=>List.mem_append_left _ hb) h1,Reps.keep ds r f2 (k.sub fun b hb=>List.mem_append_right _ hb) h2⟩
end
theorem Rep.same (e:Same H H') (h:Rep K st H d v fp):Rep K st H' d v fp:=Rep.keep d v fp (Kp.same e fp) h
theorem Reps.same (e:Same H H') (h:Reps K st H ds vs fp):Reps K st H' ds vs fp:=Reps.keep ds vs fp (Kp.same e fp) h
mutual
theorem Rep.dom:∀ (d:D) (v:V) (fp:List Addr),Rep K st H d v fp->∀ b ∈ fp,∃ o,H b=some o
 | .non,v,fp,h,b,hb=>by simp only [Rep] at h;rw [h.2] at hb;cases hb
 | .bl _,v,fp,h,b,hb=>by simp only [Rep] at h;rw [h.2] at hb;cases hb
 | .int _,v,fp,h,b,hb=>by simp only [Rep] at h;rw [h.2] at hb;cases hb
 | .str _,v,fp,h,b,hb=>by simp only [Rep] at h;rw [h.2] at hb;cases hb
 | .tup ds,v,fp,h,b,hb=>by
  simp only [Rep] at h;obtain⟨a,vs,e,hs,hr⟩:=h;exact Reps.dom ds vs fp hr b hb
 | .lst ds,v,fp,h,b,hb=>by
  simp only [Rep] at h;obtain⟨a,vs,fp',e,hr,hs⟩:=h;rcases hs with ⟨rfl,hs⟩ | ⟨_,rfl,hs⟩
  .rcases List.mem_cons.mp hb with z | z
   .exact⟨_,z ▸ hs⟩
   .exact Reps.dom ds vs fp' hr b z
  .exact Reps.dom ds vs fp hr b hb
 | .obj C ns ds,v,fp,h,b,hb=>by
  simp only [Rep] at h;obtain⟨a,dx,vs,fp',e,rfl,hs,hl,hr⟩:=h;rcases List.mem_cons.mp hb with z | z
  .exact⟨_,z ▸ hs⟩
  .exact Reps.dom ds vs fp' hr b z
 | .dk ks ds,v,fp,h,b,hb=>by
  simp only [Rep] at h;obtain⟨a,vs,fp',e,rfl,hs,hl,hr⟩:=h;rcases List.mem_cons.mp hb with z | z
  .exact⟨_,z ▸ hs⟩
  .exact Reps.dom ds vs fp' hr b z
 | .dt ks ds,v,fp,h,b,hb=>by
  simp only [Rep] at h;obtain⟨a,es,ep,vs,fp',e,hk,hv,ht,hr,hs⟩:=h;rcases hs with ⟨rfl,hs⟩ | ⟨_,rfl,o,hs⟩
  .rcases List.mem_cons.mp hb with z | z
   .exact⟨_,z ▸ hs⟩
   .exact Reps.dom ds vs fp' hr b z
  .exact Reps.dom ds vs fp hr b hb
 | .exc C,v,fp,h,b,hb=>by
  simp only [Rep] at h;obtain⟨a,e,rfl,hs⟩:=h;rw [List.mem_singleton.mp hb];exact⟨_,hs⟩
 | .fn a vs ds,v,fp,h,b,hb=>by
  simp only [Rep] at h;exact Reps.dom ds vs fp h.2 b hb
theorem Reps.dom:∀ (ds:List D) (vs:List V) (fp:List Addr),Reps K st H ds vs fp->∀ b ∈ fp,∃ o,H b=some o
 | [],vs,fp,h,b,hb=>by simp only [Reps] at h;rw [h.2] at hb;cases hb
 | d :: ds,vs,fp,h,b,hb=>by
  simp only [Reps] at h;obtain⟨v,r,f1,f2,e1,rfl,h1,h2⟩:=h;rcases List.mem_append.mp hb with z | z
  .exact Rep.dom d v f1 h1 b z
  .exact Reps.dom ds r f2 h2 b z
end
mutual
theorem Rep.flat:∀ (d:D) (v:V) (fp:List Addr),PD.flat d=true->Rep K st H d v fp->fp=[] /\ ∀ st',Rep K st' H d v []
 | .non,v,fp,_,h=>by simp only [Rep] at h ⊢;exact⟨h.2,fun _=>⟨h.1,trivial⟩⟩
 | .bl _,v,fp,_,h=>by simp only [Rep] at h ⊢;exact⟨h.2,fun _=>⟨h.1,trivial⟩⟩
 | .int _,v,fp,_,h=>by simp only [Rep] at h ⊢;exact⟨h.2,fun _=>⟨h.1,trivial⟩⟩
 | .str _,v,fp,_,h=>by simp only [Rep] at h ⊢;exact⟨h.2,fun _=>⟨h.1,trivial⟩⟩
 | .tup ds,v,fp,f,h=>by
  simp only [Rep] at h ⊢;obtain⟨a,vs,e,hs,hr⟩:=h;obtain⟨h1,h2⟩:=Reps.flat ds vs fp (by simpa only [PD.flat] using f) hr;exact⟨h1,fun st'=>⟨a,vs,e,hs,h2 st'⟩⟩
 | .lst ds,v,fp,f,h=>by simp only [PD.flat] at f;cases f
 | .obj C ns ds,v,fp,f,h=>by simp only [PD.flat] at f;cases f
 | .dk ks ds,v,fp,f,h=>by simp only [PD.flat] at f;cases f
 | .dt ks ds,v,fp,f,h=>by simp only [PD.flat] at f;cases f
 | .exc C,v,fp,f,h=>by simp only [PD.flat] at f;cases f
 | .fn a vs ds,v,fp,f,h=>by simp only [PD.flat] at f;cases f
theorem Reps.flat:∀ (ds:List D) (vs:List V) (fp:List Addr),flats ds=true->Reps K st H ds vs fp->fp=[] /\ ∀ st',Reps K st' H ds vs []
 | [],vs,fp,_,h=>by simp only [Reps] at h ⊢;exact⟨h.2,fun _=>⟨h.1,trivial⟩⟩
 | d :: ds,vs,fp,f,h=>by
  simp only [Reps] at h ⊢;simp only [flats,Bool.and_eq_true] at f;obtain⟨v,r,f1,f2,e1,rfl,h1,h2⟩:=h;obtain⟨a1,a2⟩:=Rep.flat d v f1 f.1 h1;obtain⟨b1,b2⟩:=Reps.flat ds r f2 f.2 h2;subst a1 b1;exact⟨rfl,fun st'=>⟨v,r,[],[],e1,rfl,a2 st',b2 st'⟩⟩
end
mutual
theorem Rep.weak:∀ (d:D) (v:V) (fp:List Addr),Rep K st H d v fp->Rep K false H d v fp
 | .non,v,fp,h=>by simpa only [Rep] using h
 | .bl _,v,fp,h=>by simpa only [Rep] using h
 | .int _,v,fp,h=>by simpa only [Rep] using h
 | .str _,v,fp,h=>by simpa only [Rep] using h
 | .tup ds,v,fp,h=>by
  simp only [Rep] at h ⊢;obtain⟨a,vs,e,hs,hr⟩:=h;exact⟨a,vs,e,hs,Reps.weak ds vs fp hr⟩
 | .lst ds,v,fp,h=>by
  simp only [Rep] at h ⊢;obtain⟨a,vs,fp',e,hr,hs⟩:=h;refine⟨a,vs,fp',e,Reps.weak ds vs fp' hr,?_⟩;rcases hs with hs | ⟨_,h1,h2⟩
  .exact .inl hs
  .exact .inr ⟨trivial,h1,h2⟩
 | .obj C ns ds,v,fp,h=>by
  simp only [Rep] at h ⊢;obtain⟨a,dx,vs,fp',e,h1,hs,hl,hr⟩:=h;exact⟨a,dx,vs,fp',e,h1,hs,hl,Reps.weak ds vs fp' hr⟩
 | .dk ks ds,v,fp,h=>by
  simp only [Rep] at h ⊢;obtain⟨a,vs,fp',e,h1,hs,hl,hr⟩:=h;exact⟨a,vs,fp',e,h1,hs,hl,Reps.weak ds vs fp' hr⟩
 | .dt ks ds,v,fp,h=>by
  simp only [Rep] at h ⊢;obtain⟨a,es,ep,vs,fp',e,hk,hv,ht,hr,hs⟩:=h;exact⟨a,es,ep,vs,fp',e,hk,hv,ht,Reps.weak ds vs fp' hr,hs.imp id fun⟨_,h2⟩=>⟨by trivial,h2⟩⟩
 | .exc C,v,fp,h=>by simpa only [Rep] using h
 | .fn a vs ds,v,fp,h=>by
  simp only [Rep] at h ⊢;exact⟨h.1,Reps.weak ds vs fp h.2⟩
theorem Reps.weak:∀ (ds:List D) (vs:List V) (fp:List Addr),Reps K st H ds vs fp->Reps K false H ds vs fp
 | [],vs,fp,h=>by simpa only [Reps] using h
 | d :: ds,vs,fp,h=>by
  simp only [Reps] at h ⊢;obtain⟨v,r,f1,f2,e1,e2,h1,h2⟩:=h;exact⟨v,r,f1,f2,e1,e2,Rep.weak d v f1 h1,Reps.weak ds r f2 h2⟩
end
theorem Reps.length:∀ {ds:List D}{vs:List V}{fp:List Addr},Reps K st H ds vs fp->vs.length=ds.length
 | [],vs,fp,h=>by simp only [Reps] at h;rw [h.1];rfl
 | d :: ds,vs,fp,h=>by
  simp only [Reps] at h;obtain⟨v,r,f1,f2,e1,e2,h1,h2⟩:=h;rw [e1,List.length_cons,List.length_cons,Reps.length h2]
theorem Reps.get:∀ {ds:List D}{vs:List V}{fp:List Addr}{i:Nat}{d:D},Reps K st H ds vs fp->ds[i]? = some d->∃ v f,vs[i]? = some v /\ Rep K st H d v f /\ (∀ b ∈ f,b ∈ fp) /\ (fp.Nodup->f.Nodup)
 | [],vs,fp,i,d,h,e=>by simp at e
 | d :: ds,vs,fp,i,d',h,e=>by
  simp only [Reps] at h;obtain⟨v,r,f1,f2,rfl,rfl,h1,h2⟩:=h;cases i with
  | zero =>
   simp at e;subst e;exact⟨v,f1,rfl,h1,fun b hb=>List.mem_append_left _ hb,fun nd=>(List.nodup_append.mp nd).1⟩
  | succ i =>
   obtain⟨w,f,e1,e2,e3,e4⟩:=Reps.get h2 (by simpa using e);exact⟨w,f,by simpa using e1,e2,fun b hb=>List.mem_append_right _ (e3 b hb),fun nd=>e4 (List.nodup_append.mp nd).2.1⟩
theorem Reps.snoc:∀ {ds:List D}{vs:List V}{fp fd:List Addr}{d:D}{v:V},Reps K st H ds vs fp->Rep K st H d v fd->Reps K st H (ds ++ [d]) (vs ++ [v]) (fp ++ fd)
 | [],vs,fp,fd,d,v,h,hd=>by
  simp only [Reps] at h;obtain⟨rfl,rfl⟩:=h;simp only [List.nil_append,Reps];exact⟨v,[],fd,[],rfl,(List.append_nil _).symm,hd,rfl,rfl⟩
 | d' :: ds,vs,fp,fd,d,v,h,hd=>by
  simp only [Reps] at h;obtain⟨w,r,f1,f2,rfl,rfl,h1,h2⟩:=h;simp only [List.cons_append,Reps];exact⟨w,r ++ [v],f1,f2 ++ fd,rfl,List.append_assoc ..,h1,Reps.snoc h2 hd⟩
theorem Reps.append:∀ {ds es:List D}{vs us:List V}{fp fd:List Addr},Reps K st H ds vs fp->Reps K st H es us fd->Reps K st H (ds ++ es) (vs ++ us) (fp ++ fd)
 | [],es,vs,us,fp,fd,h,hd=>by
  simp only [Reps] at h;obtain⟨rfl,rfl⟩:=h;exact hd
 | d' :: ds,es,vs,us,fp,fd,h,hd=>by
  simp only [Reps] at h;obtain⟨w,r,f1,f2,rfl,rfl,h1,h2⟩:=h;simp only [List.cons_append,Reps];exact⟨w,r ++ us,f1,f2 ++ fd,rfl,List.append_assoc ..,h1,Reps.append h2 hd⟩
theorem bK (h:Rep K st H (.lst ds) v fp):∃ a vs fp',v=.ref a /\ SqL K H a vs /\ Reps K st H ds vs fp' /\ (∀ b ∈ fp',b ∈ fp):=by
 simp only [Rep] at h;obtain⟨a,vs,fp',e,hr,hs⟩:=h;rcases hs with ⟨rfl,hs⟩ | ⟨_,rfl,hs⟩
 .exact⟨a,vs,fp',e,SqL.of hs,hr,fun b hb=>List.mem_cons_of_mem _ hb⟩
 .exact⟨a,vs,fp,e,hs.sq,hr,fun b hb=>hb⟩
theorem jW (h:Rep K true H (.lst ds) v fp):∃ a vs fp',v=.ref a /\ fp=a :: fp' /\ H a=some (.lst vs) /\ Reps K true H ds vs fp':=by
 simp only [Rep] at h;obtain⟨a,vs,fp',e,hr,hs⟩:=h;rcases hs with ⟨e1,hs⟩ | ⟨z,_⟩
 .exact⟨a,vs,fp',e,e1,hs,hr⟩
 .cases z
end
noncomputable abbrev Slot:=Option (Bool × D)
noncomputable abbrev En:=List Slot
noncomputable def EnvOk (K:Frag) (H:Hp) (σ:L2.St) (env:En) (F:Nat->List Addr):Prop :=
 ∀ i o d,env[i]? = some (some (o,d))->∃ v,σ[i]? = some (some v) /\ Rep K false H d v (F i)
theorem EnvOk.same {K:Frag}(h:EnvOk K H σ env F) (e:Same H H'):EnvOk K H' σ env F :=
 fun i o d q=>let ⟨v,h1,h2⟩:=h i o d q;⟨v,h1,h2.same e⟩
noncomputable def Cond (F:Nat->List Addr) (H:Hp) (m:Bool) (rs:List Nat) (fp:List Addr):Prop:=(∀ b ∈ fp,H b=none \/ ∃ r ∈ rs,b ∈ F r) /\ (m=true->fp.Nodup /\ ∀ b ∈ fp,H b=none)
theorem Cond.nil:Cond F H m rs []:=⟨fun b hb=>(by cases hb),fun _=>⟨List.nodup_nil,fun b hb=>(by cases hb)⟩⟩
theorem Cond.back (c:Cond F H' m rs fp) (e:Same H H'):Cond F H m rs fp :=
 ⟨fun b hb=>(c.1 b hb).imp (fun z=>e.free z) id,fun hm=>⟨(c.2 hm).1,fun b hb=>e.free ((c.2 hm).2 b hb)⟩⟩
noncomputable def tD (K:Frag) (m:Bool) (rs:List Nat) (f:En->Option D):TE:=fun σ H Q =>
 ∃ env F d,EnvOk K H σ env F /\ f env=some d /\ ∀ v H' fp,Same H H'->Rep K m H' d v fp->Cond F H m rs fp->Q v H'
noncomputable def tDT (K:Frag) (f:En->Option Bool):TT:=fun σ H Q =>
 ∃ env F b,EnvOk K H σ env F /\ f env=some b /\ ∀ H',Same H H'->Q b H'
noncomputable def tDA (K:Frag) (m:Bool) (rs:List Nat) (f:En->Option (List D)):TA:=fun σ H Q =>
 ∃ env F ds,EnvOk K H σ env F /\ f env=some ds /\ ∀ vs H' fp,Same H H'->Reps K m H' ds vs fp->Cond F H m rs fp->Q vs H'
noncomputable def QE (X:Cx) (m:Bool) (rs:List Nat) (e:Expr) (f:En->Option D):Prop:=PE X e (tD X.K m rs f)
noncomputable def QT (X:Cx) (e:Expr) (f:En->Option Bool):Prop:=PT X e (tDT X.K f)
noncomputable def QW (X:Cx) (e:Expr) (f:En->Option Bool):Prop:=PW X e (tDT X.K f)
noncomputable def QA (X:Cx) (m:Bool) (rs:List Nat) (es:List Expr) (f:En->Option (List D)):Prop:=PA X es (tDA X.K m rs f)
section
variable {X:Cx}{m m':Bool}{rs rs':List Nat}{e a b c:Expr}{es rest:List Expr}{f fa fb fc:En->Option D}{g ga gb:En->Option Bool}{pos:Pos}
theorem QE.mk (h:PE X e t) (hi:∀ σ H Q,tD X.K m rs f σ H Q->t σ H Q):QE X m rs e f:=fun pins s σ H Q I q=>h pins s σ H Q I (hi σ H Q q)
theorem QT.mk (h:PT X e t) (hi:∀ σ H Q,tDT X.K g σ H Q->t σ H Q):QT X e g:=fun pins s σ H Q I q=>h pins s σ H Q I (hi σ H Q q)
theorem QW.mk (h:PW X e t) (hi:∀ σ H Q,tDT X.K g σ H Q->t σ H Q):QW X e g:=fun whole pins s σ H Q I q=>h whole pins s σ H Q I (hi σ H Q q)
theorem QW.qt (h:QW X e g):QT X e g:=h.pt
noncomputable def aA (i:Nat):En->Option D:=fun env=>(env[i]?).join.map (·.2)
noncomputable def fC (d:D):En->Option D:=fun _=>some d
noncomputable def fI2 (C:Int->Int->Prop) (g:Int->Int->D) (fa fb:En->Option D):En->Option D:=fun env =>
 match fa env,fb env with
 | some (.int i),some (.int j)=>open Classical in if C i j then some (g i j) else none
 | _,_=>none
noncomputable def fI0 (g:Int->Int->D) (fa fb:En->Option D):En->Option D:=fun env =>
 match fa env,fb env with
 | some (.int i),some (.int j)=>some (g i j)
 | _,_=>none
noncomputable def aV (f:En->Option D):En->Option D:=fun env=>match f env with
 | some d=>if flat d=true then some d else none
 | none=>none
noncomputable def fB (f:En->Option D):En->Option Bool:=fun env=>match f env with
 | some (.bl b)=>some b
 | _=>none
noncomputable def hU (f:En->Option Bool):En->Option D:=fun env=>(f env).map .bl
noncomputable def iT (f g:En->Option Bool):En->Option Bool:=fun env=>match f env with
 | some true=>g env
 | some false=>some false
 | none=>none
noncomputable def fOr (f g:En->Option Bool):En->Option Bool:=fun env=>match f env with
 | some false=>g env
 | some true=>some true
 | none=>none
noncomputable def cR (f:En->Option Bool):En->Option Bool:=fun env=>(f env).map (!·)
noncomputable def aH:En->Option (List D):=fun _=>some []
noncomputable def aB (f:En->Option D) (g:En->Option (List D)):En->Option (List D):=fun env=>match f env,g env with
 | some d,some ds=>some (d :: ds)
 | _,_=>none
noncomputable def fJ (g:En->Option (List D)):En->Option D:=fun env=>match g env with
 | some ds=>if ds.length <= 1000 then some (.tup ds) else none
 | none=>none
noncomputable def fY (g:En->Option (List D)):En->Option D:=fun env=>match g env with
 | some ds=>if ds.length <= 1000 then some (.lst ds) else none
 | none=>none
theorem bE {K:Frag}(h:Rep K m H (.int i) v fp):v=.int i:=by simp only [Rep] at h;exact h.1
theorem eB {K:Frag}(h:Rep K m H (.bl i) v fp):v=.bl i:=by simp only [Rep] at h;exact h.1
theorem eF {K:Frag}(h:Rep K m H (.str i) v fp):v=.str i:=by simp only [Rep] at h;exact h.1
theorem dI {K:Frag}(h:Rep K m H .non v fp):v=.non:=by simp only [Rep] at h;exact h.1
theorem dW {K:Frag}:Rep K m H (.int i) (.int i) []:=by simp only [Rep];exact⟨trivial,trivial⟩
theorem jE {K:Frag}:Rep K m H (.bl i) (.bl i) []:=by simp only [Rep];exact⟨trivial,trivial⟩
theorem Z1K {K:Frag}:Rep K m H (.str i) (.str i) []:=by simp only [Rep];exact⟨trivial,trivial⟩
theorem qK {K:Frag}:Rep K m H .non .non []:=by simp only [Rep];exact⟨trivial,trivial⟩
theorem aC (i:Nat) {x:Str}(hN:X.N[i]? = some x:=by rfl) (hv:Vis X.env.scope x:=by first | exact Or.inl rfl | exact Or.inr (Or.inl rfl) | exact Or.inr (Or.inr rfl)) (hd:(x == ("__debug__" : Str))=false:=by decide) (hcd:(x == ("__classdict__" : Str))=false:=by decide) :
  QE X false [i] (.Name x pos) (aA i) :=
 .mk (gD hN hv hd hcd) fun σ H Q ⟨env,F,d,ok,e,q⟩=>by
  unfold aA at e;cases h1:env[i]? with
  | none=>rw [h1] at e;cases e
  | some o =>
   cases o with
   | none=>rw [h1] at e;cases e
   | some p =>
    rw [h1] at e;obtain⟨ow,d'⟩:=p;have e':d'=d:=Option.some.inj e;subst e';obtain⟨v,hv,hr⟩:=ok i ow d' h1;exact⟨v,hv,q v H _ (Same.refl H) hr ⟨fun b hb=>.inr ⟨i,by simp,hb⟩,fun z=>(by cases z)⟩⟩
theorem aF {i:Int}:QE X m rs (.Constant (.int i) j pos) (fC (.int i)):=.mk pe_int fun σ H Q ⟨env,F,d,ok,e,q⟩=>by cases e;exact q _ _ _ (Same.refl H) dW .nil
theorem mE {i:Bool}:QE X m rs (.Constant (.bool i) j pos) (fC (.bl i)):=.mk Z5z fun σ H Q ⟨env,F,d,ok,e,q⟩=>by cases e;exact q _ _ _ (Same.refl H) jE .nil
theorem bY {i:Str}:QE X m rs (.Constant (.str i) j pos) (fC (.str i)):=.mk Z1u fun σ H Q ⟨env,F,d,ok,e,q⟩=>by cases e;exact q _ _ _ (Same.refl H) Z1K .nil
theorem mD {j}:QE X m rs (.Constant .none j pos) (fC .non):=.mk Z4w fun σ H Q ⟨env,F,d,ok,e,q⟩=>by cases e;exact q _ _ _ (Same.refl H) qK .nil
theorem Z2X {x:Str}(hg:Gl X x) (hm:X.mg x=some (.int i t)) (hd:(x == ("__debug__" : Str))=false:=by decide):QE X m rs (.Name x pos) (fC (.int i)) :=
 .mk (kR (v:=.int i) hg hm ⟨t,rfl⟩ hd) fun σ H Q ⟨env,F,d,ok,e,q⟩=>by cases e;exact q _ _ _ (Same.refl H) dW .nil
theorem QE.weak (h:QE X true [] e f):QE X false rs e f:=.mk h fun σ H Q ⟨env,F,d,ok,e,q⟩ =>
 ⟨env,F,d,ok,e,fun v H' fp s r c=>q v H' fp s (Rep.weak _ _ _ r) ⟨fun b hb=>(c.1 b hb).imp id fun⟨r,hr,_⟩=>(by simp at hr),fun z=>(by cases z)⟩⟩
theorem QE.more (h:QE X false rs e f) (hs:∀ r ∈ rs,r ∈ rs'):QE X false rs' e f:=.mk h fun σ H Q ⟨env,F,d,ok,e,q⟩ =>
 ⟨env,F,d,ok,e,fun v H' fp s r c=>q v H' fp s r ⟨fun b hb=>(c.1 b hb).imp id fun⟨r,hr,z⟩=>⟨r,hs r hr,z⟩,c.2⟩⟩
theorem QE.flat (h:QE X m' rs e f):QE X m rs' e (aV f):=.mk h fun σ H Q ⟨env,F,d,ok,e,q⟩=>by
 unfold aV at e;cases h1:f env with
 | none=>rw [h1] at e;cases e
 | some d' =>
  rw [h1] at e;by_cases hf:PD.flat d'=true
  .simp only [hf,if_true] at e;cases e;refine⟨env,F,_,ok,h1,fun v H' fp s r c=>?_⟩;obtain⟨e1,e2⟩:=Rep.flat _ _ _ hf r;exact q v H' [] s (e2 _) .nil
  .simp only [hf] at e;cases e
theorem two {K:Frag}{R:V->V->Hp->Prop}(ok:EnvOk K H σ env F) (ea:fa env=some x) (eb:fb env=some y)
  (h:∀ v u H' f1 f2,Same H H'->Rep K m1 H' x v f1->Rep K m2 H' y u f2->Cond F H m1 rs1 f1->Cond F H m2 rs2 f2->R v u H'):tD K m1 rs1 fa σ H fun v H1=>tD K m2 rs2 fb σ H1 fun u H2=>R v u H2 :=
 ⟨env,F,x,ok,ea,fun v H1 f1 s1 r1 c1=>⟨env,F,y,ok.same s1,eb,fun u H2 f2 s2 r2 c2=>h v u H2 f1 f2 (s1.trans s2) (r1.same s2) r2 c1 (c2.back s1)⟩⟩
variable {m1 m2:Bool}{rs1 rs2:List Nat}
theorem aO {g:Int->Int->Int}(ho:OpR X (binaryOp op) (rI C fun i j=>.int (g i j))) (ha:QE X m1 rs1 a fa) (hb:QE X m2 rs2 b fb):QE X m rs (.BinOp a op b pos) (fI2 C (fun i j=>.int (g i j)) fa fb) :=
 .mk (pe_op ho ha hb) fun σ H Q ⟨env,F,d,ok,e,q⟩=>by
  unfold fI2 at e;split at e
  .rename_i i j ea eb;split at e
   .rename_i hc;cases e;refine two ok ea eb fun v u H' f1 f2 s r1 r2 _ _=>?_;rw [bE r1,bE r2];exact⟨i,j,rfl,rfl,hc,q _ _ _ s dW .nil⟩
   .cases e
  .cases e
theorem aP {g:Int->Int->Int}(ho:OpR X (binaryOp op) (rI0 fun i j=>.int (g i j))) (ha:QE X m1 rs1 a fa) (hb:QE X m2 rs2 b fb):QE X m rs (.BinOp a op b pos) (fI0 (fun i j=>.int (g i j)) fa fb) :=
 .mk (pe_op ho ha hb) fun σ H Q ⟨env,F,d,ok,e,q⟩=>by
  unfold fI0 at e;split at e
  .rename_i i j ea eb;cases e;refine two ok ea eb fun v u H' f1 f2 s r1 r2 _ _=>?_;rw [bE r1,bE r2];exact⟨i,j,rfl,rfl,q _ _ _ s dW .nil⟩
  .cases e
theorem U2 {g:Int->Int->Bool}(ho:OpR X (compareOp op) (rI0 fun i j=>.bl (g i j))) (ha:QE X m1 rs1 a fa) (hb:QE X m2 rs2 b fb) (hm:behindInMarks op b=false):QE X m rs (.Compare a [op] [b] pos) (fI0 (fun i j=>.bl (g i j)) fa fb) :=
 .mk (rZ ho ha hb hm) fun σ H Q ⟨env,F,d,ok,e,q⟩=>by
  unfold fI0 at e;split at e
  .rename_i i j ea eb;cases e;refine two ok ea eb fun v u H' f1 f2 s r1 r2 _ _=>?_;rw [bE r1,bE r2];exact⟨i,j,rfl,rfl,q _ _ _ s jE .nil⟩
  .cases e
theorem gB (h:QE X m rs e f) (he:∀ whole,isTrue e X.env whole=(do let v <- whole;standAt e.pos;holding [v] (truthy v)):=by intro _;rfl):QT X e (fB f) :=
 .mk (Z4p h he) fun σ H Q ⟨env,F,b,ok,e,q⟩=>by
  unfold fB at e;split at e
  .rename_i b' e1;cases e;refine⟨env,F,_,ok,e1,fun v H' fp s r _=>?_⟩;rw [eB r];exact⟨_,rfl,q H' s⟩
  .cases e
theorem qG {op:CmpOp}(ho:OpR X (compareOp op) r) (ha:QE X m1 rs1 a fa) (hb:QE X m2 rs2 b fb) (hm:behindInMarks op b=false)
  (hr:∀ env x y K H v u f1 f2 Q bb,g env=some bb->fa env=some x->fb env=some y->Rep K m1 H x v f1->Rep K m2 H y u f2->K=X.K->Q (V.bl bb) H->r v u H Q) (hn:∀ env bb,g env=some bb->∃ x y,fa env=some x /\ fb env=some y):QT X (.Compare a [op] [b] pos) g :=
 .mk (Z34 ho ha hb hm) fun σ H Q ⟨env,F,bb,ok,e,q⟩=>by
  obtain⟨x,y,ea,eb⟩:=hn env bb e;exact two ok ea eb fun v u H' f1 f2 s r1 r2 _ _=>hr env x y _ H' v u f1 f2 _ bb e ea eb r1 r2 rfl ⟨_,rfl,q H' s⟩
noncomputable def fBI (p:Int->Int->Bool) (fa fb:En->Option D):En->Option Bool:=fun env=>match fa env,fb env with
 | some (.int i),some (.int j)=>some (p i j)
 | _,_=>none
theorem rY {op:CmpOp}(ho:OpR X (compareOp op) (rI0 fun i j=>.bl (p i j))) (ha:QE X m1 rs1 a fa) (hb:QE X m2 rs2 b fb) (hm:behindInMarks op b=false):QT X (.Compare a [op] [b] pos) (fBI p fa fb) :=
 qG ho ha hb hm (fun env x y K H v u f1 f2 Q bb e ea eb r1 r2 _ q=>by
  unfold fBI at e;rw [ea,eb] at e;split at e
  .rename_i i j h1 h2;cases h1;cases h2;cases e;rw [bE r1,bE r2];exact⟨i,j,rfl,rfl,q⟩
  .cases e) fun env bb e=>by
  unfold fBI at e;split at e
  .rename_i i j h1 h2;exact⟨_,_,h1,h2⟩
  .cases e
theorem A9 (ha:QE X m1 rs1 a fa) (hb:QE X m2 rs2 b fb):QT X (.Compare a [.Lt] [b] pos) (fBI (fun i j=>decide (i < j)) fa fb):=rY Z5A ha hb (gE _)
theorem Z5r (ha:QE X m1 rs1 a fa) (hb:QE X m2 rs2 b fb):QT X (.Compare a [.LtE] [b] pos) (fBI (fun i j=>decide (i <= j)) fa fb):=rY Z5B ha hb (gE _)
theorem B0 (ha:QE X m1 rs1 a fa) (hb:QE X m2 rs2 b fb):QT X (.Compare a [.Gt] [b] pos) (fBI (fun i j=>decide (j < i)) fa fb):=rY Z1C ha hb (gE _)
theorem T7 (ha:QE X m1 rs1 a fa) (hb:QE X m2 rs2 b fb):QT X (.Compare a [.GtE] [b] pos) (fBI (fun i j=>decide (j <= i)) fa fb):=rY Z5C ha hb (gE _)
noncomputable def lM (neg:Bool) (fa:En->Option D):En->Option Bool:=fun env=>match fa env with
 | some .non=>some (!neg)
 | some _=>some neg
 | none=>none
theorem oH {K:Frag}(h:Rep K m H d v fp) (hd:d ≠ .non):v ≠ .non:=by
 cases d with
 | non=>exact absurd rfl hd
 | bl _=>simp only [Rep] at h;rw [h.1];simp
 | int _=>simp only [Rep] at h;rw [h.1];simp
 | str _=>simp only [Rep] at h;rw [h.1];simp
 | tup _=>simp only [Rep] at h;obtain⟨a,vs,e,_⟩:=h;rw [e];simp
 | lst _=>simp only [Rep] at h;obtain⟨a,vs,fp',e,_⟩:=h;rw [e];simp
 | obj _ _ _=>simp only [Rep] at h;obtain⟨a,dx,vs,fp',e,_⟩:=h;rw [e];simp
 | dk _ _=>simp only [Rep] at h;obtain⟨a,vs,fp',e,_⟩:=h;rw [e];simp
 | dt _ _=>simp only [Rep] at h;obtain⟨a,es,ep,vs,fp',e,_⟩:=h;rw [e];simp
 | exc _=>simp only [Rep] at h;obtain⟨a,e,_⟩:=h;rw [e];simp
 | fn _ _ _=>simp only [Rep] at h;rw [h.1];simp
theorem Z4a {j pos'} (ha:QE X m1 rs1 a fa):QT X (.Compare a [.Is] [.Constant .none j pos'] pos) (lM false fa) :=
 qG Z1B ha (m2:=false) (rs2:=[]) mD (gE _) (fun env x y K H v u f1 f2 Q bb e ea eb r1 r2 _ q=>by
  cases eb;refine⟨dI r2,?_⟩;unfold lM at e;rw [ea] at e;cases x with
  | non=>cases e;rw [dI r1];exact q
  | _=>cases e;rw [decide_eq_false (oH r1 (by intro z;cases z))];exact q) fun env bb e=>by
  unfold lM at e;cases h:fa env with
  | none=>rw [h] at e;cases e
  | some x=>exact⟨x,.non,rfl,rfl⟩
theorem rX {j pos'} (ha:QE X m1 rs1 a fa):QT X (.Compare a [.IsNot] [.Constant .none j pos'] pos) (lM true fa) :=
 qG Z3d ha (m2:=false) (rs2:=[]) mD (gE _) (fun env x y K H v u f1 f2 Q bb e ea eb r1 r2 _ q=>by
  cases eb;refine⟨dI r2,?_⟩;unfold lM at e;rw [ea] at e;cases x with
  | non=>cases e;rw [dI r1];exact q
  | _=>cases e;rw [decide_eq_false (oH r1 (by intro z;cases z))];exact q) fun env bb e=>by
  unfold lM at e;cases h:fa env with
  | none=>rw [h] at e;cases e
  | some x=>exact⟨x,.non,rfl,rfl⟩
theorem iZ (ha:QT X a ga):QW X (.BoolOp .And [a] pos) ga:=.mk (Z31 ha) fun σ H Q q=>q
theorem oJ (ha:QT X a ga):QW X (.BoolOp .Or [a] pos) ga:=.mk (Z4n ha) fun σ H Q q=>q
theorem iM (ha:QT X a ga) (hb:QW X (.BoolOp .And (b :: rest) pos) gb):QW X (.BoolOp .And (a :: b :: rest) pos) (iT ga gb) :=
 .mk (Z4o ha hb) fun σ H Q ⟨env,F,bb,ok,e,q⟩=>by
  unfold iT at e;split at e
  .rename_i h1;exact⟨env,F,true,ok,h1,fun H' s=>by refine D6 ?_;exact⟨env,F,bb,ok.same s,e,fun H2 s2=>q H2 (s.trans s2)⟩⟩
  .rename_i h1;cases e;exact⟨env,F,false,ok,h1,fun H' s=>by refine D7 ?_;exact q H' s⟩
  .cases e
theorem lG (ha:QT X a ga) (hb:QW X (.BoolOp .Or (b :: rest) pos) gb):QW X (.BoolOp .Or (a :: b :: rest) pos) (fOr ga gb) :=
 .mk (Z5v ha hb) fun σ H Q ⟨env,F,bb,ok,e,q⟩=>by
  unfold fOr at e;split at e
  .rename_i h1;exact⟨env,F,false,ok,h1,fun H' s=>by refine D7 ?_;exact⟨env,F,bb,ok.same s,e,fun H2 s2=>q H2 (s.trans s2)⟩⟩
  .rename_i h1;cases e;exact⟨env,F,true,ok,h1,fun H' s=>by refine D6 ?_;exact q H' s⟩
  .cases e
theorem jM (ha:QT X a ga):QT X (.UnaryOp .Not a pos) (cR ga):=.mk (L2.pt_not ha) fun σ H Q ⟨env,F,bb,ok,e,q⟩=>by
 unfold cR at e;cases h:ga env with
 | none=>rw [h] at e;cases e
 | some b1=>rw [h] at e;cases e;exact⟨env,F,b1,ok,h,fun H' s=>q H' s⟩
theorem Z1f (h:QE X m rs a f):QE X m rs (.BoolOp op [a] pos) f:=.mk (Z4v h) fun σ H Q q=>q
theorem Z4l (ha:QE X m1 rs1 a fa) (hb:QE X m2 rs2 (.BoolOp .And (b :: rest) pos) fb):QE X m rs (.BoolOp .And (a :: b :: rest) pos) (hU (iT (fB fa) (fB fb))) :=
 .mk (L2.pe_and ha hb) fun σ H Q ⟨env,F,d,ok,e,q⟩=>by
  unfold hU iT fB at e;cases h1:fa env with
  | none=>rw [h1] at e;cases e
  | some x =>
   rw [h1] at e;cases x with
   | bl c =>
    cases c with
    | true =>
     simp only at e;cases h2:fb env with
     | none=>rw [h2] at e;cases e
     | some y =>
      rw [h2] at e;cases y with
      | bl c2 =>
       cases e;refine⟨env,F,_,ok,h1,fun v H1 f1 s1 r1 _=>?_⟩;rw [eB r1];refine⟨true,rfl,?_⟩;refine D6 ?_;refine⟨env,F,_,ok.same s1,h2,fun u H2 f2 s2 r2 _=>?_⟩;rw [eB r2];exact q _ _ _ (s1.trans s2) jE .nil
      | _=>cases e
    | false =>
     cases e;refine⟨env,F,_,ok,h1,fun v H1 f1 s1 r1 _=>?_⟩;rw [eB r1];refine⟨false,rfl,?_⟩;refine D7 ?_;exact q _ _ _ s1 jE .nil
   | _=>cases e
theorem Z5s (ha:QE X m1 rs1 a fa) (hb:QE X m2 rs2 (.BoolOp .Or (b :: rest) pos) fb):QE X m rs (.BoolOp .Or (a :: b :: rest) pos) (hU (fOr (fB fa) (fB fb))) :=
 .mk (L2.pe_or ha hb) fun σ H Q ⟨env,F,d,ok,e,q⟩=>by
  unfold hU fOr fB at e;cases h1:fa env with
  | none=>rw [h1] at e;cases e
  | some x =>
   rw [h1] at e;cases x with
   | bl c =>
    cases c with
    | false =>
     simp only at e;cases h2:fb env with
     | none=>rw [h2] at e;cases e
     | some y =>
      rw [h2] at e;cases y with
      | bl c2 =>
       cases e;refine⟨env,F,_,ok,h1,fun v H1 f1 s1 r1 _=>?_⟩;rw [eB r1];refine⟨false,rfl,?_⟩;refine D7 ?_;refine⟨env,F,_,ok.same s1,h2,fun u H2 f2 s2 r2 _=>?_⟩;rw [eB r2];exact q _ _ _ (s1.trans s2) jE .nil
      | _=>cases e
    | true =>
     cases e;refine⟨env,F,_,ok,h1,fun v H1 f1 s1 r1 _=>?_⟩;rw [eB r1];refine⟨true,rfl,?_⟩;refine D6 ?_;exact q _ _ _ s1 jE .nil
   | _=>cases e
theorem Z4h (ha:QE X m1 rs1 a fa):QE X m rs (.UnaryOp .Not a pos) (hU (cR (fB fa))) :=
 .mk (L2.pe_not ha) fun σ H Q ⟨env,F,d,ok,e,q⟩=>by
  unfold hU cR fB at e;cases h1:fa env with
  | none=>rw [h1] at e;cases e
  | some x =>
   rw [h1] at e;cases x with
   | bl c =>
    cases e;refine⟨env,F,_,ok,h1,fun v H1 f1 s1 r1 _=>?_⟩;rw [eB r1];exact⟨c,rfl,q _ _ _ s1 jE .nil⟩
   | _=>cases e
theorem bG:QA X m rs [] aH:=fun pos pins s σ H Q I ⟨env,F,ds,ok,e,q⟩=>pa_nil pos pins s σ H Q I (by cases e;exact q [] H [] (Same.refl H) (by simp only [Reps];exact⟨trivial,trivial⟩) .nil)
theorem aD {ga:En->Option (List D)}(ha:QE X m rs e f) (hr:QA X m rs es ga) (hs:starEach (e :: es) X.env=(false,eval e X.env) :: starEach es X.env:=by rfl):QA X m rs (e :: es) (aB f ga) :=
 fun pos pins s σ H Q I ⟨env,F,ds,ok,e,q⟩=>pa_cons ha hr hs pos pins s σ H Q I (by
  unfold aB at e;split at e
  .rename_i d ds' h1 h2;cases e;refine⟨env,F,d,ok,h1,fun v H1 f1 s1 r1 c1=>⟨env,F,ds',ok.same s1,h2,fun vs H2 f2 s2 r2 c2=>q _ H2 (f1 ++ f2) (s1.trans s2) ?_ ?_⟩⟩
   .simp only [Reps];exact⟨v,vs,f1,f2,rfl,rfl,r1.same s2,r2⟩
   .refine⟨fun b hb=>(List.mem_append.mp hb).elim (c1.1 b) ((c2.back s1).1 b),fun hm=>⟨List.nodup_append.mpr ⟨(c1.2 hm).1,(c2.2 hm).1,fun x hx y hy z=>?_⟩,fun b hb=>(List.mem_append.mp hb).elim ((c1.2 hm).2 b) (((c2.back s1).2 hm).2 b)⟩⟩;obtain⟨o,ho⟩:=Rep.dom _ _ _ r1 x hx;rw [z,(c2.2 hm).2 y hy] at ho;cases ho
  .cases e)
end
theorem pC (h:n <= 1000):n <= sizeLine:=Nat.le_of_lt (gA h)
section
theorem oM {K:Frag}(hq:H q=none) (h:Reps K m H ds vs fp):Rep K m (upd H q (.tup vs)) (.tup ds) (.ref q) fp:=by
 have sm:Same H (upd H q (.tup vs)):=fun b o e=>by rw [aJ (aQ e hq)];exact e
 simp only [Rep];exact⟨q,vs,rfl,SqT.of aR,h.same sm⟩
theorem oN {K:Frag}(hq:H q=none) (h:Reps K m H ds vs fp):Rep K m (upd H q (.lst vs)) (.lst ds) (.ref q) (q :: fp):=by
 have sm:Same H (upd H q (.lst vs)):=fun b o e=>by rw [aJ (aQ e hq)];exact e
 simp only [Rep];exact⟨q,vs,fp,rfl,h.same sm,.inl ⟨rfl,aR⟩⟩
theorem bS (hq:H q=none):Same H (upd H q o):=fun b u e=>by rw [aJ (aQ e hq)];exact e
theorem uG {K:Frag}(s:Same H H') (hq:H' q=none) (r:Reps K m H' ds vs fp) (c:Cond F H m rs fp):Cond F H m rs (q :: fp) :=
 ⟨fun b hb => (List.mem_cons.mp hb).elim (fun z => .inl (by rw [z]; exact s.free hq)) (c.1 b),
  fun hm=>⟨List.nodup_cons.mpr ⟨fun z=>(by obtain⟨o,ho⟩:=Reps.dom _ _ _ r q z;rw [hq] at ho;cases ho),(c.2 hm).1⟩,fun b hb=>(List.mem_cons.mp hb).elim (fun z=>by rw [z];exact s.free hq) ((c.2 hm).2 b)⟩⟩
theorem hG (h:QA X m rs es fs):QE X m rs (.Tuple es x1 pos) (fJ fs) :=
 .mk (L2.pe_tup h) fun σ H Q ⟨env,F,d,ok,e,q⟩=>by
  unfold fJ at e;split at e
  .rename_i ds h1;split at e
   .rename_i hl;cases e;refine⟨env,F,ds,ok,h1,fun vs H' fp s r c=>⟨pC (by rw [r.length];exact hl),fun p hp=>q _ _ fp (s.trans (bS hp)) (oM hp r) c⟩⟩
   .cases e
  .cases e
theorem dU (h:QA X m rs es fs):QE X m rs (.List es pos) (fY fs) :=
 .mk (L2.pe_lst h) fun σ H Q ⟨env,F,d,ok,e,q⟩=>by
  unfold fY at e;split at e
  .rename_i ds h1;split at e
   .rename_i hl;cases e;refine⟨env,F,ds,ok,h1,fun vs H' fp s r c=>⟨pC (by rw [r.length];exact hl),fun p hp=>q _ _ (p :: fp) (s.trans (bS hp)) (oN hp r) (uG s hp r c)⟩⟩
   .cases e
  .cases e
noncomputable def fIx (fa fb:En->Option D):En->Option D:=fun env=>match fa env,fb env with
 | some (.lst ds),some (.int i)=>atI ds i
 | some (.tup ds),some (.int i)=>atI ds i
 | some (.str z),some (.int i)=>if z.length <= 1000 then (atI z.cps.toList i).map fun c=>.str ⟨#[c]⟩ else none
 | _,_=>none
theorem W9 {K:Frag}(r:Reps K m H ds vs fp) (h:atI ds i=some d):∃ v f,atI vs i=some v /\ Rep K m H d v f /\ (∀ b ∈ f,b ∈ fp) /\ (fp.Nodup->f.Nodup):=by
 unfold atI at h ⊢;rw [r.length];cases hj:ixN ds.length i with
 | none=>rw [hj] at h;cases h
 | some j =>
  rw [hj] at h;exact r.get h
theorem bA (ha:QE X m1 rs a fa) (hb:QE X m2 rs2 b fb) (hs:X0 b:=by exact fun _ _=>rfl):QE X false rs (.Subscript a b pos) (fIx fa fb) :=
 .mk (Z5y Z4J ha hb hs) fun σ H Q ⟨env,F,d,ok,e,q⟩=>by
  unfold fIx at e;split at e
  .rename_i ds i h1 h2;refine two ok h1 h2 fun v u H' f1 f2 s r1 r2 c1 c2=>?_;obtain⟨p,vs,fp',rfl,hsq,hr,hsub⟩:=bK r1;obtain⟨w,f,e1,e2,e3,_⟩:=W9 hr e;rw [bE r2];exact .inl ⟨p,vs,i,w,rfl,rfl,hsq,e1,q w H' f s (Rep.weak _ _ _ e2) ⟨fun b hb=>c1.1 b (hsub b (e3 b hb)),fun z=>(by cases z)⟩⟩
  .rename_i ds i h1 h2;refine two ok h1 h2 fun v u H' f1 f2 s r1 r2 c1 c2=>?_;simp only [Rep] at r1;obtain⟨p,vs,rfl,hsq,hr⟩:=r1;obtain⟨w,f,e1,e2,e3,_⟩:=W9 hr e;rw [bE r2];exact .inr (.inl ⟨p,vs,i,w,rfl,rfl,hsq,e1,q w H' f s (Rep.weak _ _ _ e2) ⟨fun b hb=>c1.1 b (e3 b hb),fun z=>(by cases z)⟩⟩)
  .rename_i z i h1 h2;split at e
   .rename_i hl;refine two ok h1 h2 fun v u H' f1 f2 s r1 r2 c1 c2=>?_;cases hc:atI z.cps.toList i with
    | none=>rw [hc] at e;cases e
    | some ch =>
     rw [hc] at e;cases e;rw [eF r1,bE r2];exact .inr (.inr ⟨z,i,ch,rfl,rfl,pC hl,hc,q _ H' [] s Z1K .nil⟩)
   .cases e
  .cases e
noncomputable def QO (X:Cx) (e:Option Expr) (f:En->Option (Option Int)):Prop:=PO X e (fun σ H Q=>∃ env F o,EnvOk X.K H σ env F /\ f env=some o /\ ∀ H',Same H H'->Q o H')
noncomputable def vH:En->Option (Option Int):=fun _=>some none
noncomputable def fP (f:En->Option D):En->Option (Option Int):=fun env=>match f env with
 | some (.int i)=>some (some i)
 | _=>none
theorem mZ:QO X none vH:=fun pins s σ H Q I ⟨env,F,o,ok,e,q⟩=>Z39 pins s σ H Q I (by cases e;exact q H (Same.refl H))
theorem mY (h:QE X m rs e f):QO X (some e) (fP f):=fun pins s σ H Q I ⟨env,F,o,ok,e,q⟩=>Z38 h pins s σ H Q I (by
 unfold fP at e;split at e
 .rename_i i h1;cases e;refine⟨env,F,_,ok,h1,fun v H' fp s r _=>?_⟩;rw [bE r];exact⟨i,rfl,q H' s⟩
 .cases e)
noncomputable def cutD (xs:List D) (lo hi:Option Int):List D:=(xs.drop (HT.sIx xs.length 0 lo)).take (HT.sIx xs.length xs.length hi - HT.sIx xs.length 0 lo)
theorem Reps.drop {K:Frag}:∀ (n:Nat) {ds:List D}{vs:List V}{fp:List Addr},Reps K m H ds vs fp->∃ f,Reps K m H (ds.drop n) (vs.drop n) f /\ (∀ b ∈ f,b ∈ fp)
 | 0,ds,vs,fp,h=>⟨fp,h,fun _ h=>h⟩
 | n + 1,[],vs,fp,h=>by simp only [Reps] at h;obtain⟨rfl,rfl⟩:=h;exact⟨[],by simp only [List.drop_nil,Reps];exact⟨trivial,trivial⟩,fun _ h=>h⟩
 | n + 1,d :: ds,vs,fp,h=>by
  simp only [Reps] at h;obtain⟨v,r,f1,f2,rfl,rfl,h1,h2⟩:=h;obtain⟨f,e1,e2⟩:=Reps.drop n h2;exact⟨f,e1,fun b hb=>List.mem_append_right _ (e2 b hb)⟩
theorem Reps.take {K:Frag}:∀ (n:Nat) {ds:List D}{vs:List V}{fp:List Addr},Reps K m H ds vs fp->∃ f,Reps K m H (ds.take n) (vs.take n) f /\ (∀ b ∈ f,b ∈ fp)
 | 0,ds,vs,fp,h=>⟨[],by simp only [List.take_zero,Reps];exact⟨trivial,trivial⟩,fun b hb=>(by cases hb)⟩
 | n + 1,[],vs,fp,h=>by simp only [Reps] at h;obtain⟨rfl,rfl⟩:=h;exact⟨[],by simp only [List.take_nil,Reps];exact⟨trivial,trivial⟩,fun _ h=>h⟩
 | n + 1,d :: ds,vs,fp,h=>by
  simp only [Reps] at h;obtain⟨v,r,f1,f2,rfl,rfl,h1,h2⟩:=h;obtain⟨f,e1,e2⟩:=Reps.take n h2;refine⟨f1 ++ f,by simp only [List.take_succ_cons,Reps];exact⟨v,_,f1,f,rfl,rfl,h1,e1⟩,fun b hb=>?_⟩;rcases List.mem_append.mp hb with z | z
  .exact List.mem_append_left _ z
  .exact List.mem_append_right _ (e2 b z)
theorem Reps.cut {K:Frag}(h:Reps K m H ds vs fp) (lo hi:Option Int):∃ f,Reps K m H (cutD ds lo hi) (G2 vs lo hi) f /\ (∀ b ∈ f,b ∈ fp):=by
 unfold cutD G2;rw [h.length];obtain⟨f,e1,e2⟩:=Reps.drop (HT.sIx ds.length 0 lo) h;obtain⟨f',e3,e4⟩:=Reps.take (HT.sIx ds.length ds.length hi - HT.sIx ds.length 0 lo) e1;exact⟨f',e3,fun b hb=>e2 b (e4 b hb)⟩
theorem iG:∀ {ds:List D},(∀ d ∈ ds,flat d=true)->flats ds=true
 | [],_=>rfl
 | d :: ds,h=>by simp only [flats,Bool.and_eq_true];exact⟨h d List.mem_cons_self,iG fun x hx=>h x (List.mem_cons_of_mem _ hx)⟩
noncomputable def fSl (fa:En->Option D) (fl fh:En->Option (Option Int)):En->Option D:=fun env=>match fa env,fl env,fh env with
 | some (.lst ds),some lo,some hi=>if flats ds=true then some (.lst (cutD ds lo hi)) else none
 | some (.tup ds),some lo,some hi=>if flats ds=true /\ ¬ (HT.sIx ds.length 0 lo=0 /\ HT.sIx ds.length ds.length hi=ds.length) then some (.tup (cutD ds lo hi)) else none
 | _,_,_=>none
theorem jY {lo hi:Option Expr}(ha:QE X m1 rs1 a fa) (hl:QO X lo fl) (hu:QO X hi fh):QE X m rs (.Subscript a (.Slice lo hi none p2) pos) (fSl fa fl fh) :=
 .mk (L2.pe_slice (SlR.or Z2B Z46) ha hl hu) fun σ H Q ⟨env,F,d,ok,e,q⟩=>by
  unfold fSl at e;split at e
  .rename_i ds l h h1 h2 h3;split at e
   .rename_i hf;cases e;refine⟨env,F,_,ok,h1,fun v H1 f1 s1 r1 c1=>⟨env,F,l,ok.same s1,h2,fun H2 s2=>⟨env,F,h,ok.same (s1.trans s2),h3,fun H3 s3=>.inl ?_⟩⟩⟩;obtain⟨p,vs,fp',rfl,hsq,hr,hsub⟩:=bK (r1.same (s2.trans s3));refine⟨p,vs,rfl,hsq,fun p' hp=>?_⟩;obtain⟨g1,g2⟩:=Reps.flat _ _ _ hf hr;obtain⟨f',e3,e4⟩:=Reps.cut (g2 m) l h;obtain rfl:f'=[]:=List.eq_nil_iff_forall_not_mem.mpr fun b hb=>(by cases e4 b hb);exact q _ _ [p'] (((s1.trans s2).trans s3).trans (bS hp)) (oN hp e3) (uG ((s1.trans s2).trans s3) hp e3 .nil)
   .cases e
  .rename_i ds l h h1 h2 h3;split at e
   .rename_i hf;cases e;refine⟨env,F,_,ok,h1,fun v H1 f1 s1 r1 c1=>⟨env,F,l,ok.same s1,h2,fun H2 s2=>⟨env,F,h,ok.same (s1.trans s2),h3,fun H3 s3=>.inr ?_⟩⟩⟩;have r1':=r1.same (s2.trans s3);simp only [Rep] at r1';obtain⟨p,vs,rfl,hsq,hr⟩:=r1';refine⟨p,vs,rfl,hsq,by rw [hr.length];exact hf.2,fun p' hp=>?_⟩;obtain⟨g1,g2⟩:=Reps.flat _ _ _ hf.1 hr;obtain⟨f',e3,e4⟩:=Reps.cut (g2 m) l h;obtain rfl:f'=[]:=List.eq_nil_iff_forall_not_mem.mpr fun b hb=>(by cases e4 b hb);exact q _ _ [] (((s1.trans s2).trans s3).trans (bS hp)) (oM hp e3) .nil
   .cases e
  .cases e
theorem jZ {id:String}(hc:CallR X (.builtin id) r) (hg:Gl X x) (hm:X.mg x=none) (hv:bootBuiltins x=some (.builtin id)) (ha:QA X m1 rs1 (e :: es) fs)
  (hr:∀ ds d vs H fp Q,F' ds=some d->Reps X.K m1 H ds vs fp->(∀ v H' f',Same H H'->Rep X.K m H' d v f'->(∀ b ∈ f',H b=none)->f'.Nodup->Q v H')->r vs H Q)
  (hn:x ≠ "__name__":=by decide) (hdb:(x == ("__debug__" : Str))=false:=by decide) (he:starEach (e :: es) X.env=(false,eval e X.env) :: starEach es X.env:=by rfl) (hpl:(backTo pos (starEach es X.env)).any (·.1)=false:=by rfl) :
  QE X m rs (.Call (.Name x p) (e :: es) [] pos) (fun env=>(fs env).bind F') :=
 .mk (L2.pe_callB hc hg hm hv ha hn hdb he hpl) fun σ H Q ⟨env,F,d,ok,e,q⟩=>by
  cases h1:fs env with
  | none=>simp only [h1] at e;cases e
  | some ds =>
   simp only [h1] at e;exact⟨env,F,ds,ok,h1,fun vs H' fp s r c=>hr ds d vs H' fp Q e r fun v H2 f' s2 r2 h2 nd=>q v H2 f' (s.trans s2) r2 ⟨fun b hb=>.inl (s.free (h2 b hb)),fun _=>⟨nd,fun b hb=>s.free (h2 b hb)⟩⟩⟩
theorem qH (hc:CallR X (.type T) r) (hg:Gl X x) (hm:X.mg x=none) (hv:bootBuiltins x=some (.type T)) (ha:QA X m1 rs1 (e :: es) fs)
  (hr:∀ ds d vs H fp Q,F' ds=some d->Reps X.K m1 H ds vs fp->(∀ v H' f',Same H H'->Rep X.K m H' d v f'->(∀ b ∈ f',H b=none)->f'.Nodup->Q v H')->r vs H Q)
  (hn:x ≠ "__name__":=by decide) (hdb:(x == ("__debug__" : Str))=false:=by decide) (he:starEach (e :: es) X.env=(false,eval e X.env) :: starEach es X.env:=by rfl) (hpl:(backTo pos (starEach es X.env)).any (·.1)=false:=by rfl) :
  QE X m rs (.Call (.Name x p) (e :: es) [] pos) (fun env=>(fs env).bind F') :=
 .mk (L2.pe_callTy hc hg hm hv ha hn hdb he hpl) fun σ H Q ⟨env,F,d,ok,e,q⟩=>by
  cases h1:fs env with
  | none=>simp only [h1] at e;cases e
  | some ds =>
   simp only [h1] at e;exact⟨env,F,ds,ok,h1,fun vs H' fp s r c=>hr ds d vs H' fp Q e r fun v H2 f' s2 r2 h2 nd=>q v H2 f' (s.trans s2) r2 ⟨fun b hb=>.inl (s.free (h2 b hb)),fun _=>⟨nd,fun b hb=>s.free (h2 b hb)⟩⟩⟩
theorem iL {K:Frag}(h:Reps K m H [d] vs fp):∃ v,vs=[v] /\ Rep K m H d v fp:=by
 simp only [Reps] at h;obtain⟨v,r,f1,f2,rfl,rfl,h1,rfl,rfl⟩:=h;exact⟨v,rfl,by simpa using h1⟩
theorem Z3G {K:Frag}(h:Reps K m H [d,d'] vs fp):∃ v v' f f',vs=[v,v'] /\ Rep K m H d v f /\ Rep K m H d' v' f' /\ fp=f ++ f':=by
 simp only [Reps] at h;obtain⟨v,r,f1,f2,rfl,rfl,h1,v',r',f3,f4,rfl,rfl,h2,rfl,rfl⟩:=h;exact⟨v,v',f1,f3,rfl,h1,h2,by simp⟩
noncomputable def cD:List D->Option D
 | [.lst ds]=>some (.int ds.length)
 | [.tup ds]=>some (.int ds.length)
 | [.str z]=>if z.length <= 1000 then some (.int z.length) else none
 | _=>none
theorem dG {p:Pos}(hg:Gl X "len") (hm:X.mg "len" = none) (ha:QE X m1 rs1 a fa) (he:starEach [a] X.env=(false,eval a X.env) :: starEach [] X.env:=by rfl) (hpl:(backTo pos (starEach [] X.env)).any (·.1)=false:=by rfl) :
  QE X m rs (.Call (.Name "len" p) [a] [] pos) (fun env=>(aB fa aH env).bind cD) :=
 jZ (call_len_seq.or zA) hg hm PySem.boot_len (aD ha bG he) (fun ds d vs H fp Q e r q=>by
  unfold cD at e;split at e
  .cases e;obtain⟨v,rfl,r1⟩:=iL r;obtain⟨p,ws,fp',rfl,hsq,hr,hsub⟩:=bK r1;exact .inl ⟨p,ws,rfl,.inl hsq,by rw [hr.length];exact q _ _ [] (Same.refl H) dW (fun b hb=>(by cases hb)) List.nodup_nil⟩
  .cases e;obtain⟨v,rfl,r1⟩:=iL r;simp only [Rep] at r1;obtain⟨p,ws,rfl,hsq,hr⟩:=r1;exact .inl ⟨p,ws,rfl,.inr hsq,by rw [hr.length];exact q _ _ [] (Same.refl H) dW (fun b hb=>(by cases hb)) List.nodup_nil⟩
  .split at e
   .rename_i hl;cases e;obtain⟨v,rfl,r1⟩:=iL r;rw [eF r1];exact .inr ⟨_,rfl,pC hl,q _ _ [] (Same.refl H) dW (fun b hb=>(by cases hb)) List.nodup_nil⟩
   .cases e
  .cases e) (he:=he) (hpl:=hpl)
noncomputable def fX:List D->Option D
 | [.lst ds]=>if flats ds=true then some (.lst ds) else none
 | [.tup ds]=>if flats ds=true then some (.lst ds) else none
 | _=>none
theorem boot_list:bootBuiltins "list" = some (.type "list"):=by decide +kernel
theorem boot_tuple:bootBuiltins "tuple" = some (.type "tuple"):=by decide +kernel
theorem boot_int:bootBuiltins "int" = some (.type "int"):=by decide +kernel
theorem uJ:bootBuiltins "min" = some (.builtin "min"):=by decide +kernel
theorem pE {p:Pos}(hg:Gl X "list") (hm:X.mg "list" = none) (ha:QE X m1 rs1 a fa) (he:starEach [a] X.env=(false,eval a X.env) :: starEach [] X.env:=by rfl) (hpl:(backTo pos (starEach [] X.env)).any (·.1)=false:=by rfl) :
  QE X m rs (.Call (.Name "list" p) [a] [] pos) (fun env=>(aB fa aH env).bind fX) :=
 qH yZ hg hm boot_list (aD ha bG he) (fun ds d vs H fp Q e r q=>by
  have fin:∀ {xs:List D}{ws:List V}{f:List Addr}{l:Addr},flats xs=true->Reps X.K m1 H xs ws f->H l=none->Q (.ref l) (upd H l (.lst ws))->True:=fun _ _ _ _=>trivial;unfold fX at e;split at e
  .split at e
   .rename_i hf;cases e;obtain⟨v,rfl,r1⟩:=iL r;obtain⟨p,ws,fp',rfl,hsq,hr,hsub⟩:=bK r1;refine⟨p,ws,rfl,.inl hsq,fun l hl=>?_⟩;obtain⟨g1,g2⟩:=Reps.flat _ _ _ hf hr;exact q _ _ [l] (bS hl) (oN hl (g2 m)) (fun b hb=>by simp at hb;rw [hb];exact hl) (by simp)
   .cases e
  .split at e
   .rename_i hf;cases e;obtain⟨v,rfl,r1⟩:=iL r;simp only [Rep] at r1;obtain⟨p,ws,rfl,hsq,hr⟩:=r1;refine⟨p,ws,rfl,.inr hsq,fun l hl=>?_⟩;obtain⟨g1,g2⟩:=Reps.flat _ _ _ hf hr;exact q _ _ [l] (bS hl) (oN hl (g2 m)) (fun b hb=>by simp at hb;rw [hb];exact hl) (by simp)
   .cases e
  .cases e) (he:=he) (hpl:=hpl)
noncomputable def zE:List D->Option D
 | [.lst ds]=>if flats ds=true then some (.tup ds) else none
 | [.tup ds]=>if flats ds=true then some (.tup ds) else none
 | _=>none
theorem Z1d {p:Pos}(hg:Gl X "tuple") (hm:X.mg "tuple" = none) (ha:QE X m1 rs1 a fa) (he:starEach [a] X.env=(false,eval a X.env) :: starEach [] X.env:=by rfl) (hpl:(backTo pos (starEach [] X.env)).any (·.1)=false:=by rfl) :
  QE X m rs (.Call (.Name "tuple" p) [a] [] pos) (fun env=>(aB fa aH env).bind zE) :=
 qH vJ hg hm boot_tuple (aD ha bG he) (fun ds d vs H fp Q e r q=>by
  unfold zE at e;split at e
  .split at e
   .rename_i hf;cases e;obtain⟨v,rfl,r1⟩:=iL r;obtain⟨p,ws,fp',rfl,hsq,hr,hsub⟩:=bK r1;refine⟨p,ws,rfl,.inl ⟨hsq,fun l hl=>?_⟩⟩;obtain⟨g1,g2⟩:=Reps.flat _ _ _ hf hr;exact q _ _ [] (bS hl) (oM hl (g2 m)) (fun b hb=>(by cases hb)) List.nodup_nil
   .cases e
  .split at e
   .rename_i hf;cases e;obtain⟨v,rfl,r1⟩:=iL r;have r2:=r1;simp only [Rep] at r1;obtain⟨p,ws,rfl,hsq,hr⟩:=r1;obtain⟨g1,g2⟩:=Rep.flat _ _ _ (by simpa only [PD.flat] using hf) r2;exact⟨p,ws,rfl,.inr ⟨hsq,q _ _ [] (Same.refl H) (g2 m) (fun b hb=>(by cases hb)) List.nodup_nil⟩⟩
   .cases e
  .cases e) (he:=he) (hpl:=hpl)
noncomputable def Z3C:List D->Option D
 | [.int i,.int j]=>some (.int (if j < i then j else i))
 | _=>none
theorem Z4i {p:Pos}(hcm:X.calm=true) (hg:Gl X "min") (hm:X.mg "min" = none) (ha:QA X m1 rs1 [a,b] fs) (he:starEach [a,b] X.env=(false,eval a X.env) :: starEach [b] X.env:=by rfl) (hpl:(backTo pos (starEach [b] X.env)).any (·.1)=false:=by rfl) :
  QE X m rs (.Call (.Name "min" p) [a,b] [] pos) (fun env=>(fs env).bind Z3C) :=
 jZ (Z0F hcm) hg hm uJ ha (fun ds d vs H fp Q e r q=>by
  unfold Z3C at e;split at e
  .rename_i i j;cases e;obtain⟨v,v',f,f',rfl,r1,r2,rfl⟩:=Z3G r;rw [bE r1,bE r2];exact⟨i,j,rfl,q _ _ [] (Same.refl H) dW (fun b hb=>(by cases hb)) List.nodup_nil⟩
  .cases e) (he:=he) (hpl:=hpl)
noncomputable def Q9:List D->Option D
 | [.int i]=>some (.int i)
 | [.bl k]=>some (.int (if k then 1 else 0))
 | _=>none
theorem Z2W {p:Pos}(hg:Gl X "int") (hm:X.mg "int" = none) (ha:QE X m1 rs1 a fa) (he:starEach [a] X.env=(false,eval a X.env) :: starEach [] X.env:=by rfl) (hpl:(backTo pos (starEach [] X.env)).any (·.1)=false:=by rfl) :
  QE X m rs (.Call (.Name "int" p) [a] [] pos) (fun env=>(aB fa aH env).bind Q9) :=
 qH Z0G hg hm boot_int (aD ha bG he) (fun ds d vs H fp Q e r q=>by
  unfold Q9 at e;split at e
  .cases e;obtain⟨v,rfl,r1⟩:=iL r;rw [bE r1];exact .inl ⟨_,rfl,q _ _ [] (Same.refl H) dW (fun b hb=>(by cases hb)) List.nodup_nil⟩
  .cases e;obtain⟨v,rfl,r1⟩:=iL r;rw [eB r1];exact .inr ⟨_,rfl,q _ _ [] (Same.refl H) dW (fun b hb=>(by cases hb)) List.nodup_nil⟩
  .cases e) (he:=he) (hpl:=hpl)
end
section
noncomputable def spD (K:Frag) (n:Nat) (f:List D->Option D):Sp:=fun vs H Q _=>∃ ds d fp,ds.length=n /\ Reps K false H ds vs fp /\ f ds=some d /\ ∀ v H' fp',Same H H'->Rep K true H' d v fp'->(∀ b ∈ fp',H b=none)->fp'.Nodup->Q v H'
theorem rW {K:Frag}(h:spD K n f vs H Q E):vs.length=n:=by
 obtain⟨ds,d,fp,h1,h2,_⟩:=h;rw [h2.length,h1]
theorem Z2Z (G:bR X.prog X.w X.K X.mg X.base CX0 k fA fd ps (spD X.K n F')) (hr:Room k X.A) (hg:Gl X x) (hm:X.mg x=some (.ref fA)) (hk:keepIn X.K (.ref fA)=true)
  (hb:Binds X.K fd ps ds) (hd:Vals dvs ds) (hdd:∀ H,Reps X.K false H dds dvs []) (ha:QA X m1 rs1 (e :: es) fs) (hn:∀ env xs,fs env=some xs->xs.length + dds.length=n)
  (hdb:(x == ("__debug__" : Str))=false:=by decide) (he:starEach (e :: es) X.env=(false,eval e X.env) :: starEach es X.env:=by rfl) (hpl:(backTo pos (starEach es X.env)).any (·.1)=false:=by rfl) :
  QE X true [] (.Call (.Name x p) (e :: es) [] pos) (fun env=>(fs env).bind fun xs=>F' (xs ++ dds)) :=
 .mk (L2.pe_call G hr hg hm hk hb hd Z1v ha hdb he hpl) fun σ H Q ⟨env,F,d,ok,e,q⟩=>by
  cases h1:fs env with
  | none=>simp only [h1] at e;cases e
  | some xs =>
   simp only [h1] at e;refine⟨env,F,xs,ok,h1,fun vs H' fp s r c=>⟨xs ++ dds,d,fp ++ [],by rw [List.length_append];exact hn env xs h1,(Reps.weak _ _ _ r).append (hdd H'),e,fun v H2 fp' s2 r2 h2 nd=>q v H2 fp' (s.trans s2) r2 ⟨fun b hb=>.inl (s.free (h2 b hb)),fun _=>⟨nd,fun b hb=>s.free (h2 b hb)⟩⟩⟩⟩
theorem sE {K:Frag}:∀ {ns:List Str}{ds:List D}{vs:List V}{fp:List Addr}{d:D},Reps K m H ds vs fp->(ns.zip ds).lookup nm=some d->∃ v f,(ns.zip vs).lookup nm=some v /\ Rep K m H d v f /\ ∀ b ∈ f,b ∈ fp
 | [],ds,vs,fp,d,r,e=>by cases e
 | n :: ns,[],vs,fp,d,r,e=>by cases e
 | n :: ns,d' :: ds,vs,fp,d,r,e=>by
  simp only [Reps] at r;obtain⟨v,vr,f1,f2,rfl,rfl,h1,h2⟩:=r;simp only [List.zip_cons_cons,List.lookup_cons] at e ⊢;cases hq:nm == n with
  | true =>
   rw [hq] at e;cases e;exact⟨v,f1,rfl,h1,fun b hb=>List.mem_append_left _ hb⟩
  | false =>
   rw [hq] at e;obtain⟨w,f,a1,a2,a3⟩:=sE h2 e;exact⟨w,f,a1,a2,fun b hb=>List.mem_append_right _ (a3 b hb)⟩
noncomputable def fK (C:Addr) (nm:Str) (fa:En->Option D):En->Option D:=fun env=>match fa env with
 | some (.obj C' ns ds)=>if C'=C then (ns.zip ds).lookup nm else none
 | _=>none
theorem eD (hc:Cls X.K C) (hn:NoAttr X.K C nm) (ha:QE X m1 rs a fa) (hb:attributeBase a nm X.env (eval a X.env)=eval a X.env:=by rfl):QE X false rs (.Attribute a nm pos) (fK C nm fa) :=
 .mk (Z4y ha hb) fun σ H Q ⟨env,F,d,ok,e,q⟩=>by
  unfold fK at e;split at e
  .rename_i C' ns ds h1;split at e
   .rename_i hC;subst hC;refine⟨env,F,_,ok,h1,fun v H' fp s r c=>?_⟩;simp only [Rep] at r;obtain⟨a',dx,vs,fp',rfl,rfl,h2,h3,h4⟩:=r;obtain⟨w,f,a1,a2,a3⟩:=sE h4 e;exact⟨a',C',dx,_,w,rfl,h2,hc,hn,a1,q w H' f s (Rep.weak _ _ _ a2) ⟨fun b hb=>c.1 b (List.mem_cons_of_mem _ (a3 b hb)),fun z=>(by cases z)⟩⟩
   .cases e
  .cases e
noncomputable def uO (K:Frag) (J:It) (H0:Hp) (ds:List D) (fp:List Addr):Prop:=∀ H,Kp fp H0 H->∀ i,
 (∀ d,ds[i]? = some d->J.go i H /\ ∀ x H',J.yld i H x H'->Same H H' /\ ∃ f,Rep K false H' d x f /\ ∀ b ∈ f,b ∈ fp) /\ (ds.length <= i->J.stop i H)
noncomputable def tDI (K:Frag) (rs:List Nat) (f:En->Option (List D)):TI:=fun σ H R=>∃ env F ds,EnvOk K H σ env F /\ f env=some ds /\ ∀ J H' fp,Same H H'->uO K J H' ds fp->(∀ b ∈ fp,∃ o,H' b=some o)->Cond F H false rs fp->R J H'
noncomputable def QI (X:Cx) (tg:Expr) (rs:List Nat) (iter:Expr) (f:En->Option (List D)):Prop:=PI X tg iter (tDI X.K rs f)
theorem QI.mk (h:PI X tg iter wi) (hi:∀ σ H R,tDI X.K rs f σ H R->wi σ H R):QI X tg rs iter f:=fun pins s σ H R I q=>h pins s σ H R I (hi σ H R q)
theorem PI.or (h1:PI X tg iter w1) (h2:PI X tg iter w2):PI X tg iter (fun σ H R=>w1 σ H R \/ w2 σ H R):=fun pins s σ H R I q=>q.elim (h1 pins s σ H R I) (h2 pins s σ H R I)
theorem P5 {K:Frag}(r:Rep K false H0 (.lst ds) (.ref a) fp):uO K (Itl K a) H0 ds fp:=fun H k i=>by
 have r':=Rep.keep _ _ _ k r;obtain⟨p,vs,fp',e,hsq,hr,hsub⟩:=bK r';cases e;refine⟨fun d hd=>?_,fun hl=>⟨vs,hsq,by rw [hr.length];exact hl⟩⟩;obtain⟨v,f,h1,h2,h3,_⟩:=hr.get hd;refine⟨⟨vs,v,hsq,h1⟩,fun x H' y=>?_⟩;obtain⟨rfl,y⟩:=y;have:=y vs hsq;rw [h1] at this;cases this;exact⟨Same.refl _,f,h2,fun b hb=>hsub b (h3 b hb)⟩
theorem Z0u {K:Frag}(r:Rep K false H0 (.tup ds) (.ref a) fp):uO K (Itt K a) H0 ds fp:=fun H k i=>by
 have r':=Rep.keep _ _ _ k r;simp only [Rep] at r';obtain⟨p,vs,e,hsq,hr⟩:=r';cases e;refine⟨fun d hd=>?_,fun hl=>⟨vs,hsq,by rw [hr.length];exact hl⟩⟩;obtain⟨v,f,h1,h2,h3,_⟩:=hr.get hd;refine⟨⟨vs,v,hsq,h1⟩,fun x H' y=>?_⟩;obtain⟨rfl,y⟩:=y;have:=y vs hsq;rw [h1] at this;cases this;exact⟨Same.refl _,f,h2,h3⟩
theorem P6 {K:Frag}(r:Rep K false H0 (.lst ds) (.ref a) fp):uO K (Ite K a) H0 (ds.mapIdx fun i d=>.tup [.int i,d]) fp:=fun H k i=>by
 have r':=Rep.keep _ _ _ k r;obtain⟨p,vs,fp',e,hsq,hr,hsub⟩:=bK r';cases e;refine⟨fun d hd=>?_,fun hl=>⟨vs,hsq,by rw [hr.length];simpa using hl⟩⟩;rw [List.getElem?_mapIdx] at hd;cases hdd:ds[i]? with
 | none=>rw [hdd] at hd;cases hd
 | some d' =>
  rw [hdd] at hd;cases hd;obtain⟨v,f,h1,h2,h3,_⟩:=hr.get hdd;refine⟨⟨vs,v,hsq,h1⟩,fun x H' y=>?_⟩;obtain⟨q,w,hq,rfl,y,rfl⟩:=y;have:=y vs hsq;rw [h1] at this;cases this;refine⟨bS hq,f,oM hq ?_,fun b hb=>hsub b (h3 b hb)⟩;simp only [Reps];exact⟨.int i,[v],[],f,rfl,rfl,dW,v,[],f,[],rfl,by simp,h2,rfl,rfl⟩
theorem E5 {K:Frag}(lo:Int) (n:Nat):uO K (Itr lo n) H0 ((List.range n).map fun (k:Nat)=>.int (lo + (k:Int))) []:=fun H k i=>by
 refine⟨fun d hd=>?_,fun hl=>(show n <= i by simpa using hl)⟩;rw [List.getElem?_map] at hd;cases hdd:(List.range n)[i]? with
 | none=>rw [hdd] at hd;cases hd
 | some j =>
  rw [hdd] at hd;cases hd;obtain⟨hlt,e⟩:=List.getElem?_eq_some_iff.mp hdd;rw [List.getElem_range] at e;subst e;refine⟨(show i < n by simpa using hlt),fun x H' y=>?_⟩;obtain⟨rfl,rfl⟩:=y;exact⟨Same.refl _,[],dW,fun b hb=>hb⟩
noncomputable def dM (fa:En->Option D):En->Option (List D):=fun env=>match fa env with
 | some (.lst ds)=>some ds
 | some (.tup ds)=>some ds
 | _=>none
theorem cY (ha:QE X m1 rs a fa):QI X tg rs a (dM fa) :=
 .mk (PI.or (Z3a ha) (Z4t ha)) fun σ H R ⟨env,F,ds,ok,e,q⟩=>by
  unfold dM at e;split at e
  .rename_i ds' h1;cases e;refine .inl ⟨env,F,_,ok,h1,fun v H' fp s r c=>?_⟩;have r0:=Rep.weak _ _ _ r;obtain⟨p,vs,fp',rfl,hsq,hr,hsub⟩:=bK r;exact⟨p,rfl,⟨vs,hsq⟩,q _ H' fp s (P5 r0) (Rep.dom _ _ _ r) ⟨c.1,fun z=>(by cases z)⟩⟩
  .rename_i ds' h1;cases e;refine .inr ⟨env,F,_,ok,h1,fun v H' fp s r c=>?_⟩;have r0:=Rep.weak _ _ _ r;have r1:=r;simp only [Rep] at r1;obtain⟨p,vs,rfl,hsq,hr⟩:=r1;exact⟨p,rfl,⟨vs,hsq⟩,q _ H' fp s (Z0u r0) (Rep.dom _ _ _ r) ⟨c.1,fun z=>(by cases z)⟩⟩
  .cases e
noncomputable def eQ:List D->Option (List D)
 | [.int j]=>if -(2 ^ 62) <= j /\ j < 2 ^ 62 then some ((List.range j.toNat).map fun (k:Nat)=>.int (0 + (k:Int))) else none
 | _=>none
theorem eY (hg:Gl X "range") (hm:X.mg "range" = none) (ha:QA X m1 rs1 [a] fs) (hs:starEach [a] X.env=[(false,eval a X.env)]:=by rfl):QI X tg rs (.Call (.Name "range" p) [a] [] pos) (fun env=>(fs env).bind eQ) :=
 .mk (Z06 hg hm ha hs) fun σ H R ⟨env,F,ds,ok,e,q⟩=>by
  cases h1:fs env with
  | none=>simp only [h1] at e;cases e
  | some xs =>
   simp only [h1,Option.bind_some] at e;unfold eQ at e;split at e
   .rename_i j;split at e
    .rename_i hj;cases e;refine⟨env,F,_,ok,h1,fun vs H' fp s r c=>?_⟩;obtain⟨v,rfl,r1⟩:=iL r;rw [bE r1];exact⟨j,rfl,hj.1,hj.2,q _ H' [] s (E5 0 _) (fun b hb=>(by cases hb)) .nil⟩
    .cases e
   .cases e
noncomputable def mU:List D->Option (List D)
 | [.lst ds]=>some (ds.mapIdx fun i d=>.tup [.int i,d])
 | _=>none
theorem xR (hg:Gl X "enumerate") (hm:X.mg "enumerate" = none) (ha:QA X m1 rs [a] fs) (hs:starEach [a] X.env=[(false,eval a X.env)]:=by rfl):QI X (.Tuple elts k1 tpos) rs (.Call (.Name "enumerate" p) [a] [] pos) (fun env=>(fs env).bind mU) :=
 .mk (Z3b hg hm ha hs) fun σ H R ⟨env,F,ds,ok,e,q⟩=>by
  cases h1:fs env with
  | none=>simp only [h1] at e;cases e
  | some xs =>
   simp only [h1,Option.bind_some] at e;unfold mU at e;split at e
   .cases e;refine⟨env,F,_,ok,h1,fun vs H' fp s r c=>?_⟩;obtain⟨v,rfl,r1⟩:=iL r;have r0:=Rep.weak _ _ _ r1;have dm:=Rep.dom _ _ _ r1;obtain⟨p,ws,fp',rfl,hsq,hr,hsub⟩:=bK r1;exact⟨p,rfl,⟨ws,hsq⟩,q _ H' fp s (P6 r0) dm ⟨c.1,fun z=>(by cases z)⟩⟩
   .cases e
noncomputable def cT (fc:En->Option Bool) (fe:En->Option D) (env:En):List D->Option (List D)
 | []=>some []
 | d :: r=>match fc (some (false,d) :: env) with
  | some true=>match fe (some (false,d) :: env),cT fc fe env r with
   | some y,some ys=>some (y :: ys)
   | _,_=>none
  | some false=>cT fc fe env r
  | none=>none
noncomputable def lO (fr:List Nat) (env:En):En:=fr.map fun j=>(env[j]?).join
noncomputable def cC (fr:List Nat) (src:En->Option (List D)) (fc:En->Option Bool) (fe:En->Option D):En->Option D:=fun env=>match src env with
 | some ds=>if ds.length <= 1000 then (cT fc fe (lO fr env) ds).map .lst else none
 | none=>none
noncomputable def fTT:En->Option Bool:=fun _=>some true
theorem lC:∀ {ds:List D}{ys:List D}{i:Nat}{d:D}{zs:List D},ds[i]? = some d->cT fc fe env ds=some ys->cT fc fe env (ds.take i)=some zs ->
  (fc (some (false,d) :: env)=some true /\ ∃ y,fe (some (false,d) :: env)=some y /\ cT fc fe env (ds.take (i + 1))=some (zs ++ [y])) \/ (fc (some (false,d) :: env)=some false /\ cT fc fe env (ds.take (i + 1))=some zs)
 | [],ys,i,d,zs,h,_,_=>by simp at h
 | d' :: ds,ys,0,d,zs,h,h1,h2=>by
  simp at h;subst h;simp only [List.take_zero,cT] at h2;cases h2;unfold cT at h1;simp only [Nat.zero_add,List.take_succ_cons,List.take_zero,cT];split at h1
  .rename_i hc;split at h1
   .rename_i y ys' e1 e2;exact .inl ⟨hc,y,e1,by simp [hc,e1]⟩
   .cases h1
  .rename_i hc;exact .inr ⟨hc,by simp [hc]⟩
  .cases h1
 | d' :: ds,ys,i + 1,d,zs,h,h1,h2=>by
  have h':ds[i]? = some d:=by simpa using h
  unfold cT at h1;simp only [List.take_succ_cons] at h2 ⊢;unfold cT at h2;split at h1
  .rename_i hc;split at h1
   .rename_i y ys' e1 e2;simp only [hc,e1] at h2;cases h3:cT fc fe env (ds.take i) with
    | none=>rw [h3] at h2;cases h2
    | some z' =>
     rw [h3] at h2;cases h2;rcases lC h' e2 h3 with ⟨a1,y',a2,a3⟩ | ⟨a1,a2⟩
     .exact .inl ⟨a1,y',a2,by unfold cT;simp [hc,e1,a3]⟩
     .exact .inr ⟨a1,by unfold cT;simp [hc,e1,a2]⟩
   .cases h1
  .rename_i hc;simp only [hc] at h2;rcases lC h' h1 h2 with ⟨a1,y',a2,a3⟩ | ⟨a1,a2⟩
   .exact .inl ⟨a1,y',a2,by unfold cT;simp [hc,a3]⟩
   .exact .inr ⟨a1,by unfold cT;simp [hc,a2]⟩
  .cases h1
theorem nL:∀ {ds ys:List D},cT fc fe env ds=some ys->ys.length <= ds.length
 | [],ys,h=>by simp only [cT] at h;cases h;exact Nat.le_refl _
 | d :: ds,ys,h=>by
  unfold cT at h;split at h
  .split at h
   .rename_i y ys' e1 e2;cases h;simp only [List.length_cons];exact Nat.succ_le_succ (nL e2)
   .cases h
  .exact Nat.le_succ_of_le (nL h)
  .cases h
end
theorem Z2e {K:Frag}{H:Hp}{σ:L2.St}{env:En}{F:Nat->List Addr}{fr:List Nat}{d:D}{v:V}{f:List Addr}(ok:EnvOk K H σ env F) (r:Rep K false H d v f) :
  ∃ F',EnvOk K H ((hZ 1 fr σ).set 0 (some v)) (some (false,d) :: lO fr env) F':=by
 refine⟨fun i=>match i with | 0=>f | i + 1=>F (fr.getD i 0),fun i o d' e=>?_⟩
 cases i with
 | zero =>
  simp at e;obtain⟨_,rfl⟩:=e;exact⟨v,by simp [hZ],r⟩
 | succ i =>
  simp only [List.getElem?_cons_succ,lO,List.getElem?_map] at e;cases hj:fr[i]? with
  | none=>rw [hj] at e;cases e
  | some j =>
   rw [hj] at e;simp only [Option.map_some,Option.some.injEq] at e;cases hq:env[j]? with
   | none=>rw [hq] at e;cases e
   | some s =>
    rw [hq] at e;simp only [Option.join_some] at e;subst e;obtain⟨w,h1,h2⟩:=ok j o d' hq;refine⟨w,?_,?_⟩
    .simp [hZ,hj,h1]
    .have:fr.getD i 0=j:=by simp [List.getD,hj]
     simp only [this];exact h2
section
noncomputable def QTs (X:Cx) (ifs:List Expr) (f:En->Option Bool):Prop:=PTs X ifs (tDT X.K f)
theorem iA:QTs X [] fTT:=fun pins s σ H Q I ⟨env,F,b,ok,e,q⟩=>Z33 pins s σ H Q I (by cases e;exact q H (Same.refl H))
theorem mX (h:QT X c g):QTs X [c] g:=fun pins s σ H Q I q=>Z32 h pins s σ H Q I q
theorem qW {K:Frag}{σ:L2.St}{H:Hp}{Q:VK}(h:tD K true [] (cC fr src fc fe) σ H Q) :
  zR (tDI K rs src) 1 fr (uD 0) (tDT K fc) (tD K true [] fe) σ H Q:=by
 obtain⟨env,F,d,ok,e,q⟩:=h;unfold cC at e;cases h1:src env with
 | none=>rw [h1] at e;cases e
 | some ds =>
  rw [h1] at e;simp only at e;split at e
  .rename_i hlen;cases h2:cT fc fe (lO fr env) ds with
   | none=>rw [h2] at e;cases e
   | some ys =>
    rw [h2] at e;cases e;refine⟨env,F,ds,ok,h1,fun J H1 fp s1 gv dm cd=>?_⟩;intro acc hacc;refine⟨fun i k vs H2=>i <= ds.length /\ k=ds.length - i /\ H2 acc=some (.lst vs) /\ Same H1 H2 /\ ∃ zs f,cT fc fe (lO fr env) (ds.take i)=some zs /\ Reps K true H2 zs vs f /\ f.Nodup /\ (∀ b ∈ f,H1 b=none) /\ acc ∉ f,
     ⟨ds.length,Nat.zero_le _,rfl,aR,bS hacc,[],[],by simp [cT],by simp only [Reps];exact⟨trivial,trivial⟩,List.nodup_nil,fun b hb=>(by cases hb),by simp⟩,?_⟩
    rintro i k vs H2 ⟨hi,hk,ha,sm,zs,f,hz,hr,nd,hfr,hna⟩;refine⟨ha,?_⟩;have gi:=gv H2 (Kp.same sm fp) i;by_cases hlt:i < ds.length
    .right;have hd:ds[i]? = some ds[i]:=List.getElem?_eq_getElem hlt;obtain⟨go,hy⟩:=gi.1 _ hd;refine⟨go,fun x H3 y3=>?_⟩;obtain⟨sm3,f3,r3,_⟩:=hy x H3 y3;refine⟨⟨by simp [hZ],by simp [hZ]⟩,?_⟩;have ok3:EnvOk K H3 σ env F:=ok.same ((s1.trans sm).trans sm3);obtain⟨F',okin⟩:=Z2e (fr:=fr) ok3 r3;rcases lC hd h2 hz with ⟨c1,y',c2,c3⟩ | ⟨c1,c2⟩
     .refine⟨_,F',true,okin,c1,fun H4 s4=>D6 ⟨_,F',y',okin.same s4,c2,fun v H5 fp5 s5 r5 c5=>?_⟩⟩;have s25:Same H2 H5:=(sm3.trans s4).trans s5;have s35:Same H4 H5:=s5;have ha5:H5 acc=some (.lst vs):=s25 _ _ ha;have hna5:acc ∉ fp5:=fun z=>by
       have:=(c5.2 rfl).2 acc z;rw [(sm3.trans s4) _ _ ha] at this;cases this
      have lv:vs.length < 1000:=by
       have:=nL hz;have h4:=hr.length;rw [List.length_take] at this;omega
      refine⟨vs,ha5,gA (Nat.le_of_lt lv),ds.length - (i + 1),by omega,hlt,rfl,aR,?_,zs ++ [y'],f ++ fp5,c3,?_,?_,?_,?_⟩
      .intro b o hb;have hba:b ≠ acc:=aQ hb hacc;rw [aJ hba];exact s25 _ _ (sm _ _ hb)
      .have e1:=Reps.keep _ _ _ (Kp.upd (o':=.lst (vs ++ [v])) ha5 (by intro xs z;cases z) (by intro a b z;cases z) hna) (hr.same s25);have e2:=Rep.keep _ _ _ (Kp.upd (o':=.lst (vs ++ [v])) ha5 (by intro xs z;cases z) (by intro a b z;cases z) hna5) r5;exact e1.snoc e2
      .refine List.nodup_append.mpr ⟨nd,(c5.2 rfl).1,fun a ha' b hb z=>?_⟩;obtain⟨o,ho⟩:=Reps.dom _ _ _ hr a ha';have:=(c5.2 rfl).2 b hb;rw [<- z,(sm3.trans s4) _ _ ho] at this;cases this
      .intro b hb;rcases List.mem_append.mp hb with z | z
       .exact hfr b z
       .exact ((sm.trans sm3).trans s4).free ((c5.2 rfl).2 b z)
      .intro z;rcases List.mem_append.mp z with z | z
       .exact hna z
       .exact hna5 z
     .refine⟨_,F',false,okin,c1,fun H4 s4=>D7 ⟨ds.length - (i + 1),vs,by omega,hlt,rfl,(sm3.trans s4) _ _ ha,(sm.trans sm3).trans s4,zs,f,c2,hr.same (sm3.trans s4),nd,hfr,hna⟩⟩
    .left;have hi':i=ds.length:=by omega
     refine⟨gi.2 (by omega),?_⟩;have hz':cT fc fe (lO fr env) ds=some zs:=by rw [hi',List.take_length] at hz;exact hz
     rw [h2] at hz';cases hz';refine q _ H2 (acc :: f) (s1.trans sm) ?_ ⟨fun b hb=>?_,fun _=>⟨List.nodup_cons.mpr ⟨hna,nd⟩,fun b hb=>?_⟩⟩
     .simp only [Rep];exact⟨acc,vs,f,rfl,hr,.inl ⟨rfl,ha⟩⟩
     .rcases List.mem_cons.mp hb with z | z
      .exact .inl (by rw [z];exact s1.free hacc)
      .exact .inl (s1.free (hfr b z))
     .rcases List.mem_cons.mp hb with z | z
      .rw [z];exact s1.free hacc
      .exact s1.free (hfr b z)
  .cases e
theorem kQ (hc:X.calm=true) (chk:eN X.env.scope X.N scope fr=true) (hi:QI X (.Name x px) rs iter src)
  (hnd:(dB [x] fr X.N).Nodup) (hx:scope.names.lookup x=some .local)
  (ht:∀ cl C s0 H0 ex pins,QTs (dH X (dB [x] fr X.N) scope cl C s0 H0 ex pins) ifs fc)
  (he:∀ cl C s0 H0 ex pins,QE (dH X (dB [x] fr X.N) scope cl C s0 H0 ex pins) true [] elt fe)
  (hs:∀ x,foldedSetIterable iter X.env x=pure x:=by intro _;rfl) :
  QE X true [] (.ListComp elt [⟨.Name x px,iter,ifs,0⟩] scope pos) (cC fr src fc fe) :=
 .mk (xX (tgs:=[x]) (tt:=tDT X.K fc) (te:=tD X.K true [] fe) hc chk hi (fun cl C s0 H0 ex pins=>cI (i:=0) hnd rfl (.inl (lookup_relabel_local hx)) (.inr (lookup_relabel_local hx))) ht he hs) fun σ H Q h=>qW h
end
structure EnvS (K:Frag) (P H:Hp) (σ:L2.St) (env:En) (F:Nat->List Addr):Prop where
 ok:EnvOk K H σ env F
 own:∀ i d,env[i]? = some (some (true,d))->(F i).Nodup /\ (∀ b ∈ F i,P b=none) /\ (∀ v,σ[i]? = some (some v)->Rep K true H d v (F i)) /\ ∀ j s,j ≠ i->env[j]? = some (some s)->∀ b ∈ F i,b ∉ F j
structure SInv (K:Frag) (P H:Hp) (σ:L2.St) (env:En):Prop where
 same:Same P H
 len:σ.length=env.length
 ex:∃ F,EnvS K P H σ env F
theorem EnvS.dom {K:Frag}(h:EnvS K P H σ env F) {i:Nat}{s:Bool × D}(e:env[i]? = some (some s)):∀ b ∈ F i,∃ o,H b=some o:=by
 obtain⟨o,d⟩:=s;obtain⟨v,_,r⟩:=h.ok i o d e;exact Rep.dom _ _ _ r
theorem EnvS.grow {K:Frag}(h:EnvS K P H σ env F) (s:Same H H'):EnvS K P H' σ env F :=
 ⟨h.ok.same s,fun i d e=>let ⟨a,b,c,q⟩:=h.own i d e;⟨a,b,fun v hv=>(c v hv).same s,q⟩⟩
theorem SInv.grow {K:Frag}(h:SInv K P H σ env) (s:Same H H'):SInv K P H' σ env :=
 ⟨h.same.trans s,h.len,let ⟨F,hF⟩:=h.ex;⟨F,hF.grow s⟩⟩
inductive Res where
 | next (env:En) | ret (d:D) | brk (env:En) | cont (env:En) | bad
noncomputable def K3 (K:Frag) (P:Hp) (E:K5):Res->Prop
 | .next env=>∀ σ H,SInv K P H σ env->E.nx σ H
 | .ret d=>∀ v H fp,Same P H->Rep K true H d v fp->(∀ b ∈ fp,P b=none)->fp.Nodup->E.rt v H
 | .brk env=>∀ σ H,SInv K P H σ env->E.bk σ H
 | .cont env=>∀ σ H,SInv K P H σ env->E.ct σ H
 | .bad=>False
noncomputable def tDS (K:Frag) (g:En->Res):TS:=fun E σ H=>∃ P env,SInv K P H σ env /\ K3 K P E (g env)
noncomputable def QS (X:Cx) (st:Stmt) (g:En->Res):Prop:=PS X st (tDS X.K g)
noncomputable def QSs (X:Cx) (st:List Stmt) (g:En->Res):Prop:=PSs X st (tDS X.K g)
theorem QS.mk {st:Stmt}(h:PS X st t) (hi:∀ E σ H,tDS X.K g E σ H->t E σ H):QS X st g:=fun pins s σ H E I q=>h pins s σ H E I (hi E σ H q)
theorem QSs.mk {st:List Stmt}(h:PSs X st t) (hi:∀ E σ H,tDS X.K g E σ H->t E σ H):QSs X st g:=fun pins s σ H E I q=>h pins s σ H E I (hi E σ H q)
noncomputable def Q0 (F:Nat->List Addr) (i:Nat) (f:List Addr):Nat->List Addr:=fun j=>if j=i then f else F j
theorem bJ:Q0 F i f i=f:=if_pos rfl
theorem aX (h:j ≠ i):Q0 F i f j=F j:=if_neg h
theorem dD {l:List α}(h:i < l.length):(l.set i x)[j]? = if j=i then some x else l[j]?:=by
 by_cases e:j=i
 .subst e;rw [if_pos rfl,List.getElem?_set_self h]
 .rw [if_neg e,List.getElem?_set_ne (Ne.symm e)]
theorem mW {K:Frag}{P H H':Hp}(i:Nat) (sm:Same P H) (hl:σ.length=env.length) (h:EnvS K P H σ env F) (s:Same H H') (r:Rep K true H' d v fp) (nd:fp.Nodup) (fr:∀ b ∈ fp,H b=none) :
  SInv K P H' (σ.set i (some v)) (env.set i (some (true,d))):=by
 refine⟨sm.trans s,by simp [hl],Q0 F i fp,?_,?_⟩
 .intro j o d' e;by_cases hi:i < env.length
  .rw [dD hi] at e;by_cases hj:j=i
   .subst hj;rw [if_pos rfl] at e;cases e;exact⟨v,List.getElem?_set_self (by omega),by rw [bJ];exact Rep.weak _ _ _ r⟩
   .rw [if_neg hj] at e;obtain⟨w,h1,h2⟩:=h.ok j o d' e;exact⟨w,by rw [List.getElem?_set_ne (Ne.symm hj)];exact h1,by rw [aX hj];exact h2.same s⟩
  .rw [List.set_eq_of_length_le (by omega)] at e;have hj:j ≠ i:=fun z=>by rw [z,List.getElem?_eq_none (by omega)] at e;cases e
   obtain⟨w,h1,h2⟩:=h.ok j o d' e;exact⟨w,by rw [List.getElem?_set_ne (Ne.symm hj)];exact h1,by rw [aX hj];exact h2.same s⟩
 .intro j d' e;by_cases hi:i < env.length
  .rw [dD hi] at e;by_cases hj:j=i
   .subst hj;rw [if_pos rfl] at e;cases e;refine⟨by rw [bJ];exact nd,fun b hb=>?_,fun w hw=>?_,fun k s' hk ek b hb=>?_⟩
    .rw [bJ] at hb;cases hP:P b with
     | none=>rfl
     | some o=>have:=sm _ _ hP;rw [fr b hb] at this;cases this
    .rw [List.getElem?_set_self (by omega)] at hw;cases hw;rw [bJ];exact r
    .rw [bJ] at hb;rw [aX hk];rw [dD hi,if_neg hk] at ek;intro z;obtain⟨o,ho⟩:=h.dom ek b z;rw [fr b hb] at ho;cases ho
   .rw [if_neg hj] at e;obtain⟨a1,a2,a3,a4⟩:=h.own j d' e;refine⟨by rw [aX hj];exact a1,fun b hb=>a2 b (by rw [aX hj] at hb;exact hb),fun w hw=>?_,fun k s' hk ek b hb=>?_⟩
    .rw [List.getElem?_set_ne (Ne.symm hj)] at hw;rw [aX hj];exact (a3 w hw).same s
    .rw [aX hj] at hb;rw [dD hi] at ek;by_cases hki:k=i
     .subst hki;rw [bJ];intro z;obtain⟨o,ho⟩:=h.dom e b hb;rw [fr b z] at ho;cases ho
     .rw [if_neg hki] at ek;rw [aX hki];exact a4 k s' hk ek b hb
  .rw [List.set_eq_of_length_le (by omega)] at e;have hj:j ≠ i:=fun z=>by rw [z,List.getElem?_eq_none (by omega)] at e;cases e
   obtain⟨a1,a2,a3,a4⟩:=h.own j d' e;refine⟨by rw [aX hj];exact a1,fun b hb=>a2 b (by rw [aX hj] at hb;exact hb),fun w hw=>?_,fun k s' hk ek b hb=>?_⟩
   .rw [List.getElem?_set_ne (Ne.symm hj)] at hw;rw [aX hj];exact (a3 w hw).same s
   .rw [aX hj] at hb;rw [List.set_eq_of_length_le (by omega)] at ek;have hki:k ≠ i:=fun z=>by rw [z,List.getElem?_eq_none (by omega)] at ek;cases ek
    rw [aX hki];exact a4 k s' hk ek b hb
theorem zS {K:Frag}{P H H':Hp}(i:Nat) (sm:Same P H) (hl:σ.length=env.length) (h:EnvS K P H σ env F) (s:Same H H') (r:Rep K false H' d v fp)
  (fr:∀ j d',env[j]? = some (some (true,d'))->∀ b ∈ F j,b ∉ fp):SInv K P H' (σ.set i (some v)) (env.set i (some (false,d))):=by
 refine⟨sm.trans s,by simp [hl],Q0 F i fp,?_,?_⟩
 .intro j o d' e;by_cases hi:i < env.length
  .rw [dD hi] at e;by_cases hj:j=i
   .subst hj;rw [if_pos rfl] at e;cases e;exact⟨v,List.getElem?_set_self (by omega),by rw [bJ];exact r⟩
   .rw [if_neg hj] at e;obtain⟨w,h1,h2⟩:=h.ok j o d' e;exact⟨w,by rw [List.getElem?_set_ne (Ne.symm hj)];exact h1,by rw [aX hj];exact h2.same s⟩
  .rw [List.set_eq_of_length_le (by omega)] at e;have hj:j ≠ i:=fun z=>by rw [z,List.getElem?_eq_none (by omega)] at e;cases e
   obtain⟨w,h1,h2⟩:=h.ok j o d' e;exact⟨w,by rw [List.getElem?_set_ne (Ne.symm hj)];exact h1,by rw [aX hj];exact h2.same s⟩
 .intro j d' e;have hji:j ≠ i:=by
   rintro rfl;by_cases hi:j < env.length
   .rw [dD hi,if_pos rfl] at e;cases e
   .rw [List.set_eq_of_length_le (by omega),List.getElem?_eq_none (by omega)] at e;cases e
  rw [List.getElem?_set_ne (Ne.symm hji)] at e;obtain⟨a1,a2,a3,a4⟩:=h.own j d' e;refine⟨by rw [aX hji];exact a1,fun b hb=>a2 b (by rw [aX hji] at hb;exact hb),fun w hw=>?_,fun k s' hk ek b hb=>?_⟩
  .rw [List.getElem?_set_ne (Ne.symm hji)] at hw;rw [aX hji];exact (a3 w hw).same s
  .rw [aX hji] at hb;by_cases hki:k=i
   .subst hki;rw [bJ];exact fr j d' e b hb
   .rw [List.getElem?_set_ne (Ne.symm hki)] at ek;rw [aX hki];exact a4 k s' hk ek b hb
noncomputable def fz1 (r:Nat) (env:En):En:=match env[r]? with
 | some (some (_,d))=>env.set r (some (false,d))
 | _=>env
noncomputable def fz:List Nat->En->En
 | [],env=>env
 | r :: rs,env=>fz rs (fz1 r env)
theorem Z3r:(fz1 r env).length=env.length:=by
 unfold fz1;split <;> simp
theorem V7:(fz1 r env)[j]? = if j=r then (env[j]?).map (Option.map fun p=>(false,p.2)) else env[j]?:=by
 unfold fz1;split
 .rename_i o d h;have hr:r < env.length:=(List.getElem?_eq_some_iff.mp h).1;rw [dD hr];by_cases hj:j=r
  .subst hj;simp [h]
  .simp [hj]
 .rename_i h;by_cases hj:j=r
  .subst hj;rw [if_pos rfl];cases h1:env[j]? with
   | none=>rfl
   | some o =>
    cases o with
    | none=>rfl
    | some p=>exact absurd h1 (h p.1 p.2)
  .rw [if_neg hj]
theorem EnvS.fz1 {K:Frag}(r:Nat) (h:EnvS K P H σ env F):EnvS K P H σ (PD.fz1 r env) F:=by
 have back:∀ {j:Nat}{o:Bool}{d:D},(PD.fz1 r env)[j]? = some (some (o,d))->∃ o',env[j]? = some (some (o',d)) /\ (j=r->o=false) /\ (j ≠ r->o'=o):=by
  intro j o d e;rw [V7] at e;by_cases hj:j=r
  .rw [if_pos hj] at e;cases h1:env[j]? with
   | none=>rw [h1] at e;cases e
   | some s =>
    cases s with
    | none=>rw [h1] at e;cases e
    | some p =>
     rw [h1] at e;cases e;exact⟨p.1,rfl,fun _=>rfl,fun z=>absurd hj z⟩
  .rw [if_neg hj] at e;exact⟨o,e,fun z=>absurd z hj,fun _=>rfl⟩
 refine⟨fun j o d e=>?_,fun j d e=>?_⟩
 .obtain⟨o',h1,_⟩:=back e;exact h.ok j o' d h1
 .obtain⟨o',h1,h2,h3⟩:=back e;have hj:j ≠ r:=fun z=>by cases h2 z
  have:=h3 hj;subst this;obtain⟨a1,a2,a3,a4⟩:=h.own j d h1;refine⟨a1,a2,a3,fun k s hk ek b hb=>?_⟩;obtain⟨o2,d2⟩:=s;obtain⟨o3,h4,_⟩:=back ek;exact a4 k _ hk h4 b hb
theorem EnvS.fz {K:Frag}:∀ (rs:List Nat) {env:En},EnvS K P H σ env F->EnvS K P H σ (PD.fz rs env) F
 | [],_,h=>h
 | r :: rs,_,h=>EnvS.fz rs (h.fz1 r)
theorem yP:∀ (rs:List Nat) {env:En},(fz rs env).length=env.length
 | [],_=>rfl
 | r :: rs,env=>by show (fz rs (fz1 r env)).length=_;rw [yP rs,Z3r]
theorem Z29:∀ (rs:List Nat) {env:En}{j:Nat}{d:D},(fz rs env)[j]? = some (some (true,d))->j ∉ rs /\ env[j]? = some (some (true,d))
 | [],env,j,d,e=>⟨by simp,e⟩
 | r :: rs,env,j,d,e=>by
  obtain⟨h1,h2⟩:=Z29 rs (env:=fz1 r env) e;rw [V7] at h2;by_cases hj:j=r
  .rw [if_pos hj] at h2;cases h3:env[j]? with
   | none=>rw [h3] at h2;cases h2
   | some s =>
    cases s with
    | none=>rw [h3] at h2;cases h2
    | some p=>rw [h3] at h2;cases h2
  .rw [if_neg hj] at h2;exact⟨by simp [hj,h1],h2⟩
noncomputable def nrm (env:En) (F:Nat->List Addr):Nat->List Addr:=fun i=>match env[i]? with | some (some _)=>F i | _=>[]
theorem tL (h:env[i]? = some (some s)):nrm env F i=F i:=by unfold nrm;rw [h]
theorem Z3h (h:b ∈ nrm env F i):∃ s,env[i]? = some (some s):=by
 unfold nrm at h;split at h
 .rename_i s e;exact⟨s,e⟩
 .cases h
theorem EnvS.nrm {K:Frag}(h:EnvS K P H σ env F):EnvS K P H σ env (PD.nrm env F):=by
 refine⟨fun i o d e=>by rw [tL e];exact h.ok i o d e,fun i d e=>?_⟩;obtain⟨a1,a2,a3,a4⟩:=h.own i d e;rw [tL e];exact⟨a1,a2,a3,fun j s hj ej=>by rw [tL ej];exact a4 j s hj ej⟩
section
variable {X:Cx}{m m' m1 m2:Bool}{rs rs' rs1 rs2:List Nat}{e a b c:Expr}{es rest:List Expr}{f fa fb fc:En->Option D}{c':En->Option Bool}{pos p pos':Pos}{st:Stmt}{sts:List Stmt}{g h:En->Res}{i:Nat}{x:Str}
noncomputable def aK (g h:En->Res):En->Res:=fun env=>match g env with
 | .next env'=>h env'
 | r=>r
noncomputable def bD:En->Res:=.next
theorem aW:QSs X [] bD:=.mk U3 fun E σ H ⟨P,env,I,q⟩=>q σ H I
theorem aE (h1:QS X st g) (h2:QSs X sts h):QSs X (st :: sts) (aK g h):=.mk (pF h1 h2) fun E σ H ⟨P,env,I,q⟩=>by
 refine⟨P,env,I,?_⟩;unfold aK at q;cases hg:g env with
 | next env'=>rw [hg] at q;exact fun σ' H' I'=>⟨P,env',I',q⟩
 | ret d=>rw [hg] at q;exact q
 | brk _=>rw [hg] at q;exact q
 | cont _=>rw [hg] at q;exact q
 | bad=>rw [hg] at q;exact q
theorem aG (h1:QS X st g):QSs X [st] g:=.mk (xV h1) fun E σ H q=>q
noncomputable def rIf (c:En->Option Bool) (g h:En->Res):En->Res:=fun env=>match c env with
 | some true=>g env
 | some false=>h env
 | none=>.bad
theorem bP (hc:QT X c c') (ha:QSs X sa g) (hb:QSs X sb h):QS X (.If c sa sb pos) (rIf c' g h):=.mk (Z3L hc ha hb) fun E σ H ⟨P,env,I,q⟩=>by
 obtain⟨F,hF⟩:=I.ex;unfold rIf at q;split at q
 .rename_i h1;exact⟨env,F,true,hF.ok,h1,fun H' s=>D6 ⟨P,env,I.grow s,q⟩⟩
 .rename_i h1;exact⟨env,F,false,hF.ok,h1,fun H' s=>D7 ⟨P,env,I.grow s,q⟩⟩
 .exact q.elim
noncomputable def bM (f:En->Option D):En->Res:=fun env=>match f env with
 | some d=>.ret d
 | none=>.bad
theorem aU (he:QE X true [] e f):QS X (.Return (some e) pos) (bM f):=.mk (tI he) fun E σ H ⟨P,env,I,q⟩=>by
 obtain⟨F,hF⟩:=I.ex;unfold bM at q;split at q
 .rename_i d h1;refine⟨env,F,d,hF.ok,h1,fun v H' fp s r c=>q v H' fp (I.same.trans s) r (fun b hb=>?_) (c.2 rfl).1⟩;cases hP:P b with
  | none=>rfl
  | some o=>have:=I.same _ _ hP;rw [(c.2 rfl).2 b hb] at this;cases this
 .exact q.elim
theorem jA (hN:X.N[i]? = some x:=by rfl) (hv:Vis X.env.scope x:=by first | exact Or.inl rfl | exact Or.inr (Or.inl rfl) | exact Or.inr (Or.inr rfl)) (hd:(x == ("__debug__" : Str))=false:=by decide) (hcd:(x == ("__classdict__" : Str))=false:=by decide) :
  QS X (.Return (some (.Name x p)) pos) (fun env=>match env[i]? with | some (some (true,d))=>.ret d | _=>.bad):=.mk (tI (gD hN hv hd hcd)) fun E σ H ⟨P,env,I,q⟩=>by
 obtain⟨F,hF⟩:=I.ex;simp only at q;split at q
 .rename_i d h1;obtain⟨v,h2,_⟩:=hF.ok i true d h1;obtain⟨a1,a2,a3,_⟩:=hF.own i d h1;exact⟨v,h2,q v H _ I.same (a3 v h2) a2 a1⟩
 .exact q.elim
noncomputable def bI (i:Nat) (f:En->Option D):En->Res:=fun env=>match f env with
 | some d=>.next (env.set i (some (true,d)))
 | none=>.bad
theorem qD {K:Frag}(h:tDS K (bI i f) E σ H):Y0 (tD K true [] f) (uD i) E σ H:=by
 obtain⟨P,env,I,q⟩:=h;obtain⟨F,hF⟩:=I.ex;unfold bI at q;split at q
 .rename_i d h1;exact⟨env,F,d,hF.ok,h1,fun v H' fp s r c=>q _ H' (mW i I.same I.len hF s r (c.2 rfl).1 (c.2 rfl).2)⟩
 .exact q.elim
theorem Z4e (hN:X.N.Nodup) (hi:X.N[i]? = some x) (hx:Loc X.env.scope x) (he:QE X true [] e f) (hs:swapsWith e (some (.Name x pos')) pos.line X.env=pure false:=by rfl) (hf:X.fn x=true \/ X.env.scope.names.lookup x=some .local:=by first | exact .inl rfl | exact .inr rfl | assumption) :
  QS X (.Assign [.Name x pos'] e pos) (bI i f):=.mk (N1 hN hi hx he hs hf) fun E σ H q=>qD q
theorem iN {fc:En->Option Bool}
  (hc:X.calm=true) (hN:X.N.Nodup) (hi':X.N[i]? = some x) (hx':Loc X.env.scope x) (chk:eN X.env.scope X.N scope fr=true) (hi:QI X (.Name y px) rs iter src)
  (hnd:(dB [y] fr X.N).Nodup) (hx:scope.names.lookup y=some .local)
  (ht:∀ cl C s0 H0 ex pins,QTs (dH X (dB [y] fr X.N) scope cl C s0 H0 ex pins) ifs fc)
  (he:∀ cl C s0 H0 ex pins,QE (dH X (dB [y] fr X.N) scope cl C s0 H0 ex pins) true [] elt fe)
  (hsw:swapsWith (.ListComp elt [⟨.Name y px,iter,ifs,0⟩] scope pos) (some (.Name x pos')) spos.line X.env=pure true:=by rfl)
  (hf:X.fn x=true \/ X.env.scope.names.lookup x=some .local:=by first | exact .inl rfl | exact .inr rfl | assumption)
  (hs:∀ x,foldedSetIterable iter X.env x=pure x:=by intro _;rfl) :
  QS X (.Assign [.Name x pos'] (.ListComp elt [⟨.Name y px,iter,ifs,0⟩] scope pos) spos) (bI i (cC fr src fc fe)) :=
 .mk (tH (tgs:=[y]) (tt:=tDT X.K fc) (te:=tD X.K true [] fe) hc hN hi' hx' chk hi (fun cl C s0 H0 ex pins=>cI (i:=0) hnd rfl (.inl (lookup_relabel_local hx)) (.inr (lookup_relabel_local hx))) ht he hsw hf hs)
  fun E σ H q=>qW (qD q)
noncomputable def A3 (i:Nat) (rs:List Nat) (f:En->Option D):En->Res:=fun env=>match f env with
 | some d=>.next ((fz rs env).set i (some (false,d)))
 | none=>.bad
theorem sQ {K:Frag}(hF:EnvS K P H σ env F) (c:Cond (nrm env F) H m rs fp):∀ j d',(fz rs env)[j]? = some (some (true,d'))->∀ b ∈ nrm env F j,b ∉ fp:=by
 intro j d' e b hb z;obtain⟨h1,h2⟩:=Z29 rs e;rcases c.1 b z with y | ⟨r,hr,y⟩
 .obtain⟨o,ho⟩:=hF.nrm.dom h2 b hb;rw [y] at ho;cases ho
 .obtain⟨s,hs⟩:=Z3h y;exact (hF.nrm.own j d' h2).2.2.2 r s (fun z=>h1 (z ▸ hr)) hs b hb y
theorem Z2Q (hN:X.N.Nodup) (hi:X.N[i]? = some x) (hx:Loc X.env.scope x) (he:QE X m rs e f) (hs:swapsWith e (some (.Name x pos')) pos.line X.env=pure false:=by rfl) (hf:X.fn x=true \/ X.env.scope.names.lookup x=some .local:=by first | exact .inl rfl | exact .inr rfl | assumption) :
  QS X (.Assign [.Name x pos'] e pos) (A3 i rs f):=.mk (N1 hN hi hx he hs hf) fun E σ H ⟨P,env,I,q⟩=>by
 obtain⟨F,hF⟩:=I.ex;unfold A3 at q;split at q
 .rename_i d h1;refine⟨env,nrm env F,d,hF.nrm.ok,h1,fun v H' fp s r c=>q _ H' (zS i I.same (by rw [yP];exact I.len) (hF.nrm.fz rs) s (Rep.weak _ _ _ r) (sQ hF c))⟩
 .exact q.elim
noncomputable def fI (i:Nat) (f:En->Option D):En->Res:=fun env=>match f env,env[i]? with
 | some d,some (some (true,.lst ds))=>if ds.length <= 1000 then .next (env.set i (some (true,.lst (ds ++ [d])))) else .bad
 | _,_=>.bad
theorem vO {K:Frag}{a:Addr}(sm:Same P H) (hl:σ.length=env.length) (h:EnvS K P H σ env F) (ei:env[i]? = some (some (true,.lst ds)))
  (hv:σ[i]? = some (some (.ref a))) (hF:F i=a :: fp') (ha:H a=some (.lst vs)) (r:Reps K true H ds' vs' fp2) (nd:(a :: fp2).Nodup) (hn:∀ b ∈ fp2,b ∈ fp' \/ (P b=none /\ ∀ j s,env[j]? = some (some s)->b ∉ F j)) :
  SInv K P (upd H a (.lst vs')) σ (env.set i (some (true,.lst ds'))):=by
 have hi:i < env.length:=(List.getElem?_eq_some_iff.mp ei).1;obtain⟨o1,o2,o3,o4⟩:=h.own i _ ei;have ha0:a ∈ F i:=by rw [hF];exact List.mem_cons_self
 have kp:∀ {fp:List Addr},a ∉ fp->Kp fp H (upd H a (.lst vs')):=fun hn=>Kp.upd ha (by intro xs z;cases z) (by intro x u z;cases z) hn;have na:a ∉ fp2:=(List.nodup_cons.mp nd).1;have new:∀ st,Rep K st (upd H a (.lst vs')) (.lst ds') (.ref a) (a :: fp2):=fun st=>by
  have r':=Reps.keep _ _ _ (kp na) r;cases st with
  | true=>simp only [Rep];exact⟨a,vs',fp2,rfl,r',.inl ⟨rfl,aR⟩⟩
  | false=>simp only [Rep];exact⟨a,vs',fp2,rfl,Reps.weak _ _ _ r',.inl ⟨rfl,aR⟩⟩
 refine⟨fun b o e=>?_,by simp [hl],Q0 F i (a :: fp2),fun j o d e=>?_,fun j d e=>?_⟩
 .have:b ≠ a:=fun z=>by have:=o2 a ha0;rw [z,this] at e;cases e
  rw [aJ this];exact sm _ _ e
 .rw [dD hi] at e;by_cases hj:j=i
  .subst hj;rw [if_pos rfl] at e;cases e;exact⟨_,hv,by rw [bJ];exact new false⟩
  .rw [if_neg hj] at e;obtain⟨w,h1,h2⟩:=h.ok j o d e;exact⟨w,h1,by rw [aX hj];exact Rep.keep _ _ _ (kp (o4 j _ hj e a ha0)) h2⟩
 .rw [dD hi] at e;by_cases hj:j=i
  .subst hj;rw [if_pos rfl] at e;cases e;refine⟨by rw [bJ];exact nd,fun b hb=>?_,fun w hw=>?_,fun k s hk ek b hb=>?_⟩
   .rw [bJ] at hb;rcases List.mem_cons.mp hb with z | z
    .rw [z];exact o2 a ha0
    .rcases hn b z with y | y
     .exact o2 b (by rw [hF];exact List.mem_cons_of_mem _ y)
     .exact y.1
   .rw [hv] at hw;cases hw;rw [bJ];exact new true
   .rw [bJ] at hb;rw [aX hk];rw [dD hi,if_neg hk] at ek;rcases List.mem_cons.mp hb with z | z
    .rw [z];exact o4 k s hk ek a ha0
    .rcases hn b z with y | y
     .exact o4 k s hk ek b (by rw [hF];exact List.mem_cons_of_mem _ y)
     .exact y.2 k s ek
  .rw [if_neg hj] at e;obtain⟨a1,a2,a3,a4⟩:=h.own j d e;refine⟨by rw [aX hj];exact a1,fun b hb=>a2 b (by rw [aX hj] at hb;exact hb),fun w hw=>by rw [aX hj];exact Rep.keep _ _ _ (kp (o4 j _ hj e a ha0)) (a3 w hw),fun k s hk ek b hb=>?_⟩;rw [aX hj] at hb;rw [dD hi] at ek;by_cases hki:k=i
   .subst hki;rw [bJ];intro z;rcases List.mem_cons.mp z with z | z
    .exact a4 k _ hk ei b hb (by rw [z];exact ha0)
    .rcases hn b z with y | y
     .exact a4 k _ hk ei b hb (by rw [hF];exact List.mem_cons_of_mem _ y)
     .exact y.2 j _ e hb
   .rw [if_neg hki] at ek;rw [aX hki];exact a4 k s hk ek b hb
theorem Z9 (hN:X.N[i]? = some x) (hv:Vis X.env.scope x) (he:QE X true [] e f) (hd:(x == ("__debug__" : Str))=false:=by decide) (hcd:(x == ("__classdict__" : Str))=false:=by decide)
  (hst:starEach [e] X.env=(false,eval e X.env) :: starEach [] X.env:=by rfl)
  (hpe:PE X (.Call (.Attribute (.Name x p) "append" apos) [e] [] cpos) (tBM X.K "list" T6 (zQ i) (S8 (tD X.K true [] f) Z43)))
  (hs:swapsWith (.Call (.Attribute (.Name x p) "append" apos) [e] [] cpos) none pos.line X.env=pure false:=by rfl) :
  QS X (.Expr (.Call (.Attribute (.Name x p) "append" apos) [e] [] cpos) pos) (fI i f):=.mk (U4 hpe hs) fun E σ H ⟨P,env,I,q⟩=>by
 obtain⟨F,hF⟩:=I.ex;unfold fI at q;split at q
 .rename_i d ds h1 h2;split at q
  .rename_i hl;obtain⟨v,hv1,_⟩:=hF.ok i true _ h2;obtain⟨o1,o2,o3,o4⟩:=hF.own i _ h2;obtain⟨a,vs,fp',rfl,hFi,ha,hr⟩:=jW (o3 v hv1);refine⟨.ref a,hv1,.inl ⟨rfl,vs,SqL.of ha⟩,env,F,d,hF.ok,h1,fun v' H' fp s r c=>?_⟩;have ha':=s _ _ ha;refine⟨a,vs,v',rfl,rfl,ha',gA (by rw [hr.length];exact hl),q _ _ ?_⟩;refine vO (fp2:=fp' ++ fp) (I.same.trans s) I.len (hF.grow s) h2 hv1 hFi ha' ((hr.same s).snoc r) ?_ ?_
   .rw [hFi] at o1;obtain⟨n1,n2⟩:=List.nodup_cons.mp o1;refine List.nodup_cons.mpr ⟨fun z=>?_,List.nodup_append.mpr ⟨n2,(c.2 rfl).1,fun b hb b' hb' z=>?_⟩⟩
    .rcases List.mem_append.mp z with z | z
     .exact n1 z
     .have:=(c.2 rfl).2 a z;rw [ha] at this;cases this
    .obtain⟨o,ho⟩:=Reps.dom _ _ _ hr b hb;have:=(c.2 rfl).2 b' hb';rw [<- z,ho] at this;cases this
   .intro b hb;rcases List.mem_append.mp hb with z | z
    .exact .inl z
    .refine .inr ⟨I.same.free ((c.2 rfl).2 b z),fun j s' ej hz=>?_⟩;obtain⟨o,ho⟩:=hF.dom ej b hz;rw [(c.2 rfl).2 b z] at ho;cases ho
  .exact q.elim
 .exact q.elim
noncomputable def A6 (i:Nat) (fk f:En->Option D):En->Res:=fun env=>match f env,fk env,env[i]? with
 | some d,some (.int k),some (some (true,.lst ds))=>match ixN ds.length k with
  | some j=>if flats ds=true /\ flat d=true then .next (env.set i (some (true,.lst (ds.set j d)))) else .bad
  | none=>.bad
 | _,_,_=>.bad
theorem Reps.set {K:Frag}:∀ {ds:List D}{vs:List V}{d:D}{v:V}(j:Nat),Reps K true H ds vs []->Rep K true H d v []->Reps K true H (ds.set j d) (vs.set j v) []
 | [],vs,d,v,j,r,_=>by simp only [Reps] at r;obtain⟨rfl,_⟩:=r;simp only [List.set_nil,Reps];exact⟨trivial,trivial⟩
 | d' :: ds,vs,d,v,0,r,r'=>by
  simp only [Reps] at r;obtain⟨w,us,f1,f2,rfl,e,h1,h2⟩:=r;obtain⟨rfl,rfl⟩:=List.append_eq_nil_iff.mp e.symm;simp only [List.set_cons_zero,Reps];exact⟨v,us,[],[],rfl,rfl,r',h2⟩
 | d' :: ds,vs,d,v,j + 1,r,r'=>by
  simp only [Reps] at r;obtain⟨w,us,f1,f2,rfl,e,h1,h2⟩:=r;obtain⟨rfl,rfl⟩:=List.append_eq_nil_iff.mp e.symm;simp only [List.set_cons_succ,Reps];exact⟨w,us.set j v,[],[],rfl,rfl,h1,Reps.set j h2 r'⟩
theorem Z4g (hN:X.N[i]? = some x) (hv:Vis X.env.scope x) (he:QE X m1 rs1 e f) (hk:QE X m2 rs2 k fk) (hd:(x == ("__debug__" : Str))=false:=by decide) (hcd:(x == ("__classdict__" : Str))=false:=by decide)
  (hps:PS X (.Assign [.Subscript (.Name x p) k spos] e pos) (Y0 (tD X.K m1 rs1 f) (Z5O (zQ i) (tD X.K m2 rs2 fk) Z3K))) :
  QS X (.Assign [.Subscript (.Name x p) k spos] e pos) (A6 i fk f):=.mk hps fun E σ H ⟨P,env,I,q⟩=>by
 obtain⟨F,hF⟩:=I.ex;unfold A6 at q;split at q
 .rename_i d kk ds h1 h2 h3;split at q
  .rename_i j hj;split at q
   .rename_i hfl;obtain⟨v,hv1,_⟩:=hF.ok i true _ h3;obtain⟨o1,o2,o3,o4⟩:=hF.own i _ h3;obtain⟨a,vs,fp',rfl,hFi,ha,hr⟩:=jW (o3 v hv1);refine⟨env,F,d,hF.ok,h1,fun v' H1 fp s1 r1 c1=>⟨.ref a,hv1,env,F,_,hF.ok.same s1,h2,fun w H2 f2 s2 r2 c2=>?_⟩⟩;rw [bE r2];have ha':=(s1.trans s2) _ _ ha;refine⟨a,vs,kk,j,rfl,rfl,ha',by rw [hr.length];exact hj,q _ _ ?_⟩;obtain⟨g1,g2⟩:=Reps.flat _ _ _ hfl.1 hr;obtain⟨g3,g4⟩:=Rep.flat _ _ _ hfl.2 (r1.same s2);subst g1;refine vO (fp2:=[]) (I.same.trans (s1.trans s2)) I.len (hF.grow (s1.trans s2)) h3 hv1 hFi ha' (Reps.set j ((g2 true).same (s1.trans s2)) (g4 true)) (by simp) (fun b hb=>(by cases hb))
   .exact q.elim
  .exact q.elim
 .exact q.elim
end
mutual
theorem Rep.kind {K:Frag}{st:Bool}:∀ (d:D) (v:V) (fp:List Addr),Rep K st H d v fp->∀ b ∈ fp,(∀ xs,H b ≠ some (.tup xs)) /\ ∀ o u,H b ≠ some (.frz o u)
 | .non,v,fp,h,b,hb=>by simp only [Rep] at h;rw [h.2] at hb;cases hb
 | .bl _,v,fp,h,b,hb=>by simp only [Rep] at h;rw [h.2] at hb;cases hb
 | .int _,v,fp,h,b,hb=>by simp only [Rep] at h;rw [h.2] at hb;cases hb
 | .str _,v,fp,h,b,hb=>by simp only [Rep] at h;rw [h.2] at hb;cases hb
 | .tup ds,v,fp,h,b,hb=>by
  simp only [Rep] at h;obtain⟨a,vs,e,hs,hr⟩:=h;exact Reps.kind ds vs fp hr b hb
 | .lst ds,v,fp,h,b,hb=>by
  simp only [Rep] at h;obtain⟨a,vs,fp',e,hr,hs⟩:=h;rcases hs with ⟨rfl,hs⟩ | ⟨_,rfl,hs⟩
  .rcases List.mem_cons.mp hb with z | z
   .exact⟨fun xs q=>(by rw [z,hs] at q;cases q),fun o u q=>(by rw [z,hs] at q;cases q)⟩
   .exact Reps.kind ds vs fp' hr b z
  .exact Reps.kind ds vs fp hr b hb
 | .obj C ns ds,v,fp,h,b,hb=>by
  simp only [Rep] at h;obtain⟨a,dx,vs,fp',e,rfl,hs,hl,hr⟩:=h;rcases List.mem_cons.mp hb with z | z
  .exact⟨fun xs q=>(by rw [z,hs] at q;cases q),fun o u q=>(by rw [z,hs] at q;cases q)⟩
  .exact Reps.kind ds vs fp' hr b z
 | .dk ks ds,v,fp,h,b,hb=>by
  simp only [Rep] at h;obtain⟨a,vs,fp',e,rfl,hs,hl,hr⟩:=h;rcases List.mem_cons.mp hb with z | z
  .exact⟨fun xs q=>(by rw [z,hs] at q;cases q),fun o u q=>(by rw [z,hs] at q;cases q)⟩
  .exact Reps.kind ds vs fp' hr b z
 | .dt ks ds,v,fp,h,b,hb=>by
  simp only [Rep] at h;obtain⟨a,es,ep,vs,fp',e,hk,hv,ht,hr,hs⟩:=h;rcases hs with ⟨rfl,hs⟩ | ⟨_,rfl,o,hs⟩
  .rcases List.mem_cons.mp hb with z | z
   .exact⟨fun xs q=>(by rw [z,hs] at q;cases q),fun o u q=>(by rw [z,hs] at q;cases q)⟩
   .exact Reps.kind ds vs fp' hr b z
  .exact Reps.kind ds vs fp hr b hb
 | .exc C,v,fp,h,b,hb=>by
  simp only [Rep] at h;obtain⟨a,e,rfl,hs⟩:=h;rw [List.mem_singleton.mp hb];exact⟨fun xs q=>(by rw [hs] at q;cases q),fun o u q=>(by rw [hs] at q;cases q)⟩
 | .fn a vs ds,v,fp,h,b,hb=>by
  simp only [Rep] at h;exact Reps.kind ds vs fp h.2 b hb
theorem Reps.kind {K:Frag}{st:Bool}:∀ (ds:List D) (vs:List V) (fp:List Addr),Reps K st H ds vs fp->∀ b ∈ fp,(∀ xs,H b ≠ some (.tup xs)) /\ ∀ o u,H b ≠ some (.frz o u)
 | [],vs,fp,h,b,hb=>by simp only [Reps] at h;rw [h.2] at hb;cases hb
 | d :: ds,vs,fp,h,b,hb=>by
  simp only [Reps] at h;obtain⟨v,r,f1,f2,e1,rfl,h1,h2⟩:=h;rcases List.mem_append.mp hb with z | z
  .exact Rep.kind d v f1 h1 b z
  .exact Reps.kind ds r f2 h2 b z
end
theorem SInv.lower {K:Frag}(s:Same P P') (h:SInv K P' H σ env):SInv K P H σ env :=
 ⟨s.trans h.same,h.len,let ⟨F,hF⟩:=h.ex;⟨F,hF.ok,fun i d e=>let ⟨a,b,c,q⟩:=hF.own i d e;⟨a,fun x hx=>s.free (b x hx),c,q⟩⟩⟩
theorem Y1 {K:Frag}(i:Nat) (hl:σ.length=env.length) (h:EnvS K P H σ env F) (r:Rep K false H d v fp)
  (fr:∀ j d',env[j]? = some (some (true,d'))->∀ b ∈ F j,b ∉ fp):EnvS K P H (σ.set i (some v)) (env.set i (some (false,d))) (Q0 F i fp):=by
 refine⟨?_,?_⟩
 .intro j o d' e;by_cases hi:i < env.length
  .rw [dD hi] at e;by_cases hj:j=i
   .subst hj;rw [if_pos rfl] at e;cases e;exact⟨v,List.getElem?_set_self (by omega),by rw [bJ];exact r⟩
   .rw [if_neg hj] at e;obtain⟨w,h1,h2⟩:=h.ok j o d' e;exact⟨w,by rw [List.getElem?_set_ne (Ne.symm hj)];exact h1,by rw [aX hj];exact h2⟩
  .rw [List.set_eq_of_length_le (by omega)] at e;have hj:j ≠ i:=fun z=>by rw [z,List.getElem?_eq_none (by omega)] at e;cases e
   obtain⟨w,h1,h2⟩:=h.ok j o d' e;exact⟨w,by rw [List.getElem?_set_ne (Ne.symm hj)];exact h1,by rw [aX hj];exact h2⟩
 .intro j d' e;have hji:j ≠ i:=by
   rintro rfl;by_cases hi:j < env.length
   .rw [dD hi,if_pos rfl] at e;cases e
   .rw [List.set_eq_of_length_le (by omega),List.getElem?_eq_none (by omega)] at e;cases e
  rw [List.getElem?_set_ne (Ne.symm hji)] at e;obtain⟨a1,a2,a3,a4⟩:=h.own j d' e;refine⟨by rw [aX hji];exact a1,fun b hb=>a2 b (by rw [aX hji] at hb;exact hb),fun w hw=>?_,fun k s' hk ek b hb=>?_⟩
  .rw [List.getElem?_set_ne (Ne.symm hji)] at hw;rw [aX hji];exact a3 w hw
  .rw [aX hji] at hb;by_cases hki:k=i
   .subst hki;rw [bJ];exact fr j d' e b hb
   .rw [List.getElem?_set_ne (Ne.symm hki)] at ek;rw [aX hki];exact a4 k s' hk ek b hb
noncomputable def tDG (K:Frag) (t:D->En->Option En):TG:=fun v σ H Q=>∃ P env F d fp env',Same P H /\ σ.length=env.length /\ EnvS K P H σ env F /\ Rep K false H d v fp /\ (∀ j d',env[j]? = some (some (true,d'))->∀ b ∈ F j,b ∉ fp) /\ t d env=some env' /\
 ∀ σ',SInv K P H σ' env'->Q σ' H
noncomputable def QG (X:Cx) (tg:Expr) (t:D->En->Option En):Prop:=PG X tg (tDG X.K t)
theorem QG.mk (h:PG X tg g) (hi:∀ v σ H Q,tDG X.K t v σ H Q->g v σ H Q):QG X tg t:=fun pins s σ H v u Q I r q=>h pins s σ H v u Q I r (hi v σ H Q q)
noncomputable def gtN (i:Nat):D->En->Option En:=fun d env=>some (env.set i (some (false,d)))
noncomputable def gY:List Nat->List D->En->Option En
 | [],[],env=>some env
 | i :: is,d :: ds,env=>gY is ds (env.set i (some (false,d)))
 | _,_,_=>none
noncomputable def gtT (is:List Nat):D->En->Option En:=fun d env=>match d with
 | .tup ds=>gY is ds env
 | _=>none
noncomputable def yO:List Nat->TGs
 | []=>Z5P
 | i :: is=>Z3Q (uD i) (yO is)
theorem sR:∀ {is:List Nat}{ds:List D}{env env':En},gY is ds env=some env'->is.length=ds.length
 | [],[],_,_,_=>rfl
 | i :: is,d :: ds,env,env',h=>by simp only [gY] at h;simp [sR h]
 | [],_ :: _,_,_,h=>by simp [gY] at h
 | _ :: _,[],_,_,h=>by simp [gY] at h
theorem tO {K:Frag}:∀ {is:List Nat}{ds:List D}{vs:List V}{fp:List Addr}{σ:L2.St}{env env':En}{F:Nat->List Addr},Same P H->σ.length=env.length->EnvS K P H σ env F->Reps K false H ds vs fp ->
  (∀ j d',env[j]? = some (some (true,d'))->∀ b ∈ F j,b ∉ fp)->gY is ds env=some env'->(∀ σ',SInv K P H σ' env'->Q σ' H)->yO is vs σ H Q
 | [],[],vs,fp,σ,env,env',F,sm,hl,h,r,fr,e,q=>by
  simp only [Reps] at r;simp only [gY] at e;cases e;exact⟨r.1,q σ ⟨sm,hl,F,h⟩⟩
 | i :: is,d :: ds,vs,fp,σ,env,env',F,sm,hl,h,r,fr,e,q=>by
  simp only [Reps] at r;obtain⟨v,us,f1,f2,rfl,rfl,r1,r2⟩:=r;simp only [gY] at e;refine⟨v,us,rfl,?_⟩;have h':=Y1 i hl h r1 fun j d' ej b hb z=>fr j d' ej b hb (List.mem_append_left _ z);refine tO (is:=is) (ds:=ds) sm (by simp [hl]) h' r2 (fun j d' ej b hb z=>?_) e q;have hji:j ≠ i:=by
   rintro rfl;by_cases hi:j < env.length
   .rw [dD hi,if_pos rfl] at ej;cases ej
   .rw [List.set_eq_of_length_le (by omega),List.getElem?_eq_none (by omega)] at ej;cases ej
  rw [List.getElem?_set_ne (Ne.symm hji)] at ej;rw [aX hji] at hb;exact fr j d' ej b hb (List.mem_append_right _ z)
 | [],_ :: _,_,_,_,_,_,_,_,_,_,_,_,h,_=>by simp [gY] at h
 | _ :: _,[],_,_,_,_,_,_,_,_,_,_,_,h,_=>by simp [gY] at h
section
theorem Z2S (hN:X.N.Nodup) (hi:X.N[i]? = some x) (hx:Loc X.env.scope x) (hf:X.fn x=true \/ X.env.scope.names.lookup x=some .local:=by first | exact .inl rfl | exact .inr rfl | assumption):QG X (.Name x pos) (gtN i) :=
 .mk (cI hN hi hx hf) fun v σ H Q ⟨P,env,F,d,fp,env',sm,hl,hF,r,fr,e,q⟩=>by
  cases e;exact q _ (zS i sm hl hF (Same.refl H) r fr)
theorem oK (hc:X.calm=true) (h:PGs X es (yO is)) (hnl:is.length=n) (hn:(assignEach es X.env).length=n:=by rfl) (hst:(assignEach es X.env).findIdx? (·.1)=none:=by rfl):QG X (.Tuple es k pos) (gtT is) :=
 .mk (Z1t hc h hn hst) fun v σ H Q ⟨P,env,F,d,fp,env',sm,hl,hF,r,fr,e,q⟩=>by
  cases d with
  | tup ds =>
   simp only [Rep] at r;obtain⟨a,vs,rfl,hsq,hr⟩:=r;have e':gY is ds env=some env':=e;exact⟨a,vs,rfl,hsq,by rw [hr.length,<- sR e',hnl],tO sm hl hF hr fr e' q⟩
  | _=>cases e
noncomputable def Z4 (rs:List Nat) (t:D->En->Option En) (f:En->Option D):En->Res:=fun env=>match f env with
 | some d=>match t d (fz rs env) with
  | some env'=>.next env'
  | none=>.bad
 | none=>.bad
theorem Z4d (he:QE X m rs e f) (hg:QG X tg t) (hs:swapsWithSole [tg] e pos.line X.env=pure false:=by rfl) (hw:swappedStores [tg] e X.env=pure none:=by rfl)
  (hps:PS X (.Assign [tg] e pos) (Y0 (tD X.K m rs f) (tDG X.K t))):QS X (.Assign [tg] e pos) (Z4 rs t f):=.mk hps fun E σ H ⟨P,env,I,q⟩=>by
 obtain⟨F,hF⟩:=I.ex;unfold Z4 at q;split at q
 .rename_i d h1;split at q
  .rename_i env' h2;refine⟨env,nrm env F,d,hF.nrm.ok,h1,fun v H' fp s r c=>⟨P,fz rs env,nrm env F,d,fp,env',I.same.trans s,by rw [yP];exact I.len,(hF.nrm.fz rs).grow s,Rep.weak _ _ _ r,sQ hF c,h2,fun σ' I'=>q σ' H' I'⟩⟩
  .exact q.elim
 .exact q.elim
noncomputable def mQ (t:D->En->Option En) (g:En->Res):List D->En->Res
 | [],env=>.next env
 | d :: r,env=>match t d env with
  | none=>.bad
  | some env1=>match g env1 with
   | .next e=>mQ t g r e
   | .cont e=>mQ t g r e
   | .brk e=>.next e
   | .ret d=>.ret d
   | .bad=>.bad
noncomputable def dR (rs:List Nat) (src:En->Option (List D)) (t:D->En->Option En) (g:En->Res):En->Res:=fun env=>match src env with
 | some ds=>mQ t g ds (fz rs env)
 | none=>.bad
open Classical in
theorem cU (hc:X.calm=true) (hp:PassesOwn (model X.prog X.w) X.A X.env X.xe) (hi:QI X tg rs iter src) (hg:QG X tg t) (hb:QSs X body g) (hs:∀ x,foldedSetIterable iter X.env x=pure x:=by intro _;rfl) :
  QS X (.For tg iter body [] pos) (dR rs src t g):=.mk (Z4r hp hc hi hg hb hs) fun E σ H ⟨P,env,I,q⟩=>by
 obtain⟨F,hF⟩:=I.ex;unfold dR at q;split at q
 .rename_i ds h1;refine⟨env,nrm env F,ds,hF.nrm.ok,h1,fun J H1 fp s1 gv dm cd=>?_⟩;have ap:=sQ hF cd
  let O:Addr->Prop:=fun b=>∃ j d,(fz rs env)[j]? = some (some (true,d)) /\ b ∈ nrm env F j
  let P':Hp:=fun b=>if O b then none else H1 b
  have hS0:EnvS X.K P H1 σ (fz rs env) (nrm env F):=(hF.nrm.fz rs).grow s1;have okind:∀ b,O b->(∀ xs,H1 b ≠ some (.tup xs)) /\ ∀ o u,H1 b ≠ some (.frz o u):=fun b ⟨j,d,e,hb⟩=>by
   obtain⟨v,hv,r⟩:=hS0.ok j true d e;exact Rep.kind _ _ _ r b hb
  have pn:∀ {b:Addr},¬ O b->P' b=H1 b:=fun hn=>if_neg hn;have po:∀ {b:Addr},O b->P' b=none:=fun hO=>if_pos hO;have sP1:Same P' H1:=fun b o e=>by
   by_cases hO:O b
   .rw [po hO] at e;cases e
   .rw [pn hO] at e;exact e
  have sP:Same P P':=fun b o e=>by
   have hO:¬ O b:=fun⟨j,d,ej,hb⟩=>by
    have:=(hS0.own j d ej).2.1 b hb;rw [this] at e;cases e
   rw [pn hO];exact s1 _ _ (I.same _ _ e)
  have fpP:∀ b ∈ fp,¬ O b:=fun b hb ⟨j,d,ej,hb'⟩=>ap j d ej b hb' hb;have kp:∀ {H2:Hp},Same P' H2->Kp fp H1 H2:=fun s2=>⟨fun b hb o e=>s2 _ _ (by rw [pn (fpP b hb)];exact e),
   fun b xs e=>s2 _ _ (by rw [pn (fun hO=>(okind b hO).1 _ e)];exact e),
   fun b o u e=>s2 _ _ (by rw [pn (fun hO=>(okind b hO).2 _ _ e)];exact e)⟩
  refine⟨fun i k σ' H'=>i <= ds.length /\ k=ds.length - i /\ ∃ env',SInv X.K P' H' σ' env' /\ K3 X.K P E (mQ t g (ds.drop i) env'),
   ⟨ds.length,Nat.zero_le _,rfl,fz rs env,⟨sP1,by rw [yP];exact I.len,nrm env F,hS0.ok,fun j d e=>?_⟩,by simpa using q⟩,?_⟩
  .obtain⟨a1,a2,a3,a4⟩:=hS0.own j d e;exact⟨a1,fun b hb=>po ⟨j,d,e,hb⟩,a3,a4⟩
  .rintro i k σ' H' ⟨hi,hk,env',I',q'⟩;have gi:=gv H' (kp I'.same) i;by_cases hlt:i < ds.length
   .right;have hd:ds[i]? = some ds[i]:=List.getElem?_eq_getElem hlt;obtain⟨go,hy⟩:=gi.1 _ hd;have edrop:ds.drop i=ds[i] :: ds.drop (i + 1):=List.drop_eq_getElem_cons hlt;rw [edrop] at q';refine⟨go,fun σ2 H2=>∃ env2,SInv X.K P' H2 σ2 env2 /\ K3 X.K P E (mQ t g (ds.drop (i + 1)) env2),fun σ2 H2 ⟨env2,I2,q2⟩=>⟨ds.length - (i + 1),by omega,hlt,rfl,env2,I2,q2⟩,fun x H2 y2=>?_⟩;obtain⟨sm2,f2,r2,sub2⟩:=hy x H2 y2;unfold mQ at q';cases ht:t ds[i] env' with
    | none=>rw [ht] at q';exact q'.elim
    | some env1 =>
     rw [ht] at q';simp only at q';have I2:=I'.grow sm2;obtain⟨F2,hF2⟩:=I2.ex;refine⟨P',env',F2,_,f2,env1,I2.same,I2.len,hF2,r2,fun j d' ej b hb z=>?_,ht,fun σ3 I3=>⟨P',env1,I3,?_⟩⟩
     .have h5:=(hF2.own j d' ej).2.1 b hb;rw [pn (fpP b (sub2 b z))] at h5;obtain⟨o,ho⟩:=dm b (sub2 b z);rw [h5] at ho;cases ho
     .cases hg:g env1 with
      | next e2=>rw [hg] at q';exact fun σ4 H4 I4=>⟨e2,I4,q'⟩
      | cont e2=>rw [hg] at q';exact fun σ4 H4 I4=>⟨e2,I4,q'⟩
      | brk e2=>rw [hg] at q';exact fun σ4 H4 I4=>q' σ4 H4 (I4.lower sP)
      | ret d=>rw [hg] at q';exact fun v H4 fp4 s4 r4 n4 nd4=>q' v H4 fp4 (sP.trans s4) r4 (fun b hb=>sP.free (n4 b hb)) nd4
      | bad=>rw [hg] at q';exact q'.elim
   .left;have hi':i=ds.length:=by omega
    rw [hi',List.drop_length] at q';exact⟨gi.2 (by omega),q' σ' H' (I'.lower sP)⟩
 .exact q.elim
end
noncomputable def enStart (L:Nat) (ds:List D):En:=ds.map (fun d=>some (false,d)) ++ List.replicate (L - ds.length) none
noncomputable def runF (L:Nat) (g:En->Res):List D->Option D:=fun ds=>match g (enStart L ds) with
 | .ret d=>some d
 | .next _=>some .non
 | _=>none
theorem xL {K:Frag}{st:Bool}:∀ {ds:List D}{vs:List V}{fp:List Addr},Reps K st H ds vs fp->∃ F:Nat->List Addr,∀ i d,ds[i]? = some d->∃ v,vs[i]? = some v /\ Rep K st H d v (F i)
 | [],vs,fp,_=>⟨fun _=>[],fun i d e=>by simp at e⟩
 | d :: ds,vs,fp,r=>by
  simp only [Reps] at r;obtain⟨v,us,f1,f2,rfl,rfl,r1,r2⟩:=r;obtain⟨F,hF⟩:=xL r2;refine⟨fun i=>match i with | 0=>f1 | i + 1=>F i,fun i d' e=>?_⟩
  cases i with
  | zero=>simp at e;subst e;exact⟨v,rfl,r1⟩
  | succ i =>
   obtain⟨w,h1,h2⟩:=hF i d' (by simpa using e);exact⟨w,by simpa using h1,h2⟩
theorem nW {K:Frag}(r:Reps K false H ds vs fp):SInv K H H (L2.start N vs) (enStart N.length ds):=by
 obtain⟨F,hF⟩:=xL r;refine⟨Same.refl H,by simp [L2.start,enStart,r.length],F,fun i o d e=>?_,fun i d e=>?_⟩
 .unfold enStart at e;by_cases hi:i < ds.length
  .rw [List.getElem?_append_left (by simpa using hi),List.getElem?_map] at e;cases hd:ds[i]? with
   | none=>rw [hd] at e;cases e
   | some d' =>
    rw [hd] at e;cases e;obtain⟨v,h1,h2⟩:=hF i d hd;refine⟨v,?_,h2⟩;unfold L2.start;rw [List.getElem?_append_left (by rw [List.length_map,r.length];exact hi),List.getElem?_map,h1];rfl
  .rw [List.getElem?_append_right (by simpa using hi),List.getElem?_replicate] at e;split at e <;> cases e
 .unfold enStart at e;by_cases hi:i < ds.length
  .rw [List.getElem?_append_left (by simpa using hi),List.getElem?_map] at e;cases hd:ds[i]? with
   | none=>rw [hd] at e;cases e
   | some d'=>rw [hd] at e;cases e
  .rw [List.getElem?_append_right (by simpa using hi),List.getElem?_replicate] at e;split at e <;> cases e
structure FunD (K:Frag) (x qual:Str) (st:Stmt) (f:Addr) (fd:FuncData):Prop where
 ex:∃ (oc:Value) (od:Option Addr) (dV kV doc pm:Value) (an:Option Addr) (cdv ct:Value) (osl:Array (Option Value)),
  fd=fnOf x qual (cL st) (bQ st) (aI st) dV kV doc pm an cdv ct /\ K.lookup f=some ⟨oc,od,.func fd,osl⟩ /\ codeIn K cdv qual=true
 kp:keepIn K (.ref f)=true
theorem nK {K:Frag}{st:Stmt}{dV kV doc pm cdv ct:Value}(l:K.lookup f=some ⟨oc,od,.func (fnOf x qual (cL st) (bQ st) (aI st) dV kV doc pm an cdv ct),osl⟩)
  (c:codeIn K cdv qual=true) (k:keepIn K (.ref f)=true):FunD K x qual st f (fnOf x qual (cL st) (bQ st) (aI st) dV kV doc pm an cdv ct) :=
 ⟨⟨oc,od,dV,kV,doc,pm,an,cdv,ct,osl,rfl,l,c⟩,k⟩
theorem FunD.ok {K:Frag}{st:Stmt}(F:FunD K x qual st f fd) (S:aS N ps (aI st)) (hn:ps.length=n) (hL:N.length=L)
  (hb:∀ (cdv:Value) (A:Around) (outer:List Env) (s:Shared) (H:Hp) (E:XK),Room k (A.deeper (envOfC qual (aI st) s.heap.objs.size f cdv))->QSs (vI CX0 P w K mg base N qual (aI st) f cdv A outer s H E).nox (bQ st) g) :
  bR P w K mg base CX0 (k + 1) f fd ps (spD K n (runF L g)):=by
 subst hn hL;obtain⟨oc,od,dV,kV,doc,pm,an,cdv,ct,osl,rfl,lk,hcd⟩:=F.ex;refine W0 lk hcd S (fun vs H Q E h=>rW h) fun A outer s H vs Q E hr hsp=>?_;obtain⟨ds,d,fp,h1,h2,h3,q⟩:=hsp;have hq:=hb cdv A outer s H E hr;refine⟨_,PSs.nox hq,H,enStart N.length ds,nW h2,?_⟩;unfold runF at h3;cases hg:g (enStart N.length ds) with
 | ret d' =>
  rw [hg] at h3;cases h3;exact fun v H' fp' s r fr nd=>q v H' fp' s r fr nd
 | next env' =>
  rw [hg] at h3;cases h3;exact fun σ' H' I'=>q .non H' [] I'.same qK (fun b hb=>(by cases hb)) List.nodup_nil
 | brk _=>rw [hg] at h3;cases h3
 | cont _=>rw [hg] at h3;cases h3
 | bad=>rw [hg] at h3;cases h3
open PySem PySem.Spec PyProof.Rows L2 PySem.SeqAt
noncomputable def eqL (f:D->D->Option Bool):List D->List D->Option Bool
 | x :: xs,y :: ys=>match f x y,eqL f xs ys with
  | some a,some b=>some (a && b)
  | _,_=>none
 | _,_=>some true
noncomputable def eqN:Nat->D->D->Option Bool
 | 0,_,_=>none
 | _ + 1,.non,.non=>some true
 | _ + 1,.bl a,.bl b=>some (a == b)
 | _ + 1,.int a,.int b=>some (a == b)
 | _ + 1,.str a,.str b=>some (a == b)
 | _ + 1,.non,.int _=>some false
 | _ + 1,.non,.str _=>some false
 | _ + 1,.int _,.non=>some false
 | _ + 1,.str _,.non=>some false
 | _ + 1,.int _,.str _=>some false
 | _ + 1,.str _,.int _=>some false
 | n + 1,.tup xs,.tup ys=>(eqL (eqN n) xs ys).map (· && xs.length == ys.length)
 | _ + 1,.tup _,.non=>some false
 | _ + 1,.non,.tup _=>some false
 | n + 1,.lst xs,.lst ys=>if xs.length=ys.length then eqL (eqN n) xs ys else some false
 | _ + 1,.lst _,.non=>some false
 | _ + 1,.non,.lst _=>some false
 | _,_,_=>none
theorem uF:∀ {xs ys:List D}{k:Bool},eqL f xs ys=some k->∃ e:Nat->Bool,(∀ j x y,xs[j]? = some x->ys[j]? = some y->f x y=some (e j)) /\ (List.range (min xs.length ys.length)).all e=k
 | [],ys,k,h=>by simp only [eqL] at h;cases h;exact⟨fun _=>true,fun j x y h=>by simp at h,by simp⟩
 | x :: xs,[],k,h=>by simp only [eqL] at h;cases h;exact⟨fun _=>true,fun j x y _ h=>by simp at h,by simp⟩
 | x :: xs,y :: ys,k,h=>by
  simp only [eqL] at h;split at h
  .rename_i a b h1 h2;cases h;obtain⟨e,g1,g2⟩:=uF h2;refine⟨fun j=>match j with | 0=>a | j + 1=>e j,fun j x' y' e1 e2=>?_,?_⟩
   .cases j with
    | zero=>simp at e1 e2;subst e1 e2;exact h1
    | succ j=>exact g1 j x' y' (by simpa using e1) (by simpa using e2)
   .simp only [List.length_cons,Nat.succ_min_succ,List.range_succ_eq_map,List.all_cons,List.all_map];rw [<- g2];congr 1
  .cases h
section
theorem T5 (I:Inv X pins σ H s):∀ (n:Nat) (a b:D) (v:V) (f1 f2:List Addr) (k:Bool),Rep X.K st1 H a v f1->Rep X.K st2 H b v f2->eqN n a b=some k->k=true:=by
 intro n
 induction n with
 | zero=>intro a b v f1 f2 k _ _ e;simp [eqN] at e
 | succ n ih =>
  have seq:∀ (xs ys:List D) (vs:List V) (f1 f2:List Addr) (k:Bool),Reps X.K st1 H xs vs f1->Reps X.K st2 H ys vs f2->eqL (eqN n) xs ys=some k->k=true:=by
   intro xs
   induction xs with
   | nil=>intro ys vs f1 f2 k _ _ e;simp only [eqL] at e;cases e;rfl
   | cons x xs ihx =>
    intro ys vs f1 f2 k r1 r2 e;cases ys with
    | nil=>simp only [eqL] at e;cases e;rfl
    | cons y ys =>
     simp only [Reps] at r1 r2;obtain⟨v,us,g1,g2,rfl,_,a1,a2⟩:=r1;obtain⟨v',us',g3,g4,e',_,b1,b2⟩:=r2;cases e';simp only [eqL] at e;split at e
     .rename_i c d h1 h2;cases e;rw [ih _ _ _ _ _ _ a1 b1 h1,ihx _ _ _ _ _ a2 b2 h2];rfl
     .cases e
  intro a b v f1 f2 k ra rb e;cases a <;> cases b <;> simp only [eqN,Rep] at ra rb e <;> try (cases e;done)
  all_goals first
   | (cases e;rfl)
   | (obtain⟨rfl,_⟩:=ra;obtain⟨h,_⟩:=rb;cases h;cases e;simp;done)
   | (obtain⟨rfl,_⟩:=ra;obtain⟨h,_⟩:=rb;cases h;done)
   | (obtain⟨rfl,_⟩:=ra;obtain⟨_,_,h,_⟩:=rb;cases h;done)
   | (obtain⟨rfl,_⟩:=ra;obtain⟨_,_,_,h,_⟩:=rb;cases h;done)
   | (obtain⟨rfl,_⟩:=rb;obtain⟨_,_,h,_⟩:=ra;cases h;done)
   | (obtain⟨rfl,_⟩:=rb;obtain⟨_,_,_,h,_⟩:=ra;cases h;done)
   | skip
  .-- tuples
   rename_i xs ys;obtain⟨a,vs,rfl,hs,hr⟩:=ra;obtain⟨a',vs',e',hs',hr'⟩:=rb;cases e';obtain rfl:=I.tuple_inj hs hs';cases hq:eqL (eqN n) xs ys with
   | none=>rw [hq] at e;cases e
   | some c =>
    rw [hq] at e;cases e;have:=seq _ _ _ _ _ _ hr hr' hq;subst this;have l1:=hr.length;have l2:=hr'.length;simp [<- l1,<- l2]
  .rename_i xs ys;have hra:Rep X.K st1 H (.lst xs) v f1:=by simp only [Rep];exact ra
   have hrb:Rep X.K st2 H (.lst ys) v f2:=by simp only [Rep];exact rb
   obtain⟨a,vs,fp',rfl,hs,hr,_⟩:=bK hra;obtain⟨a',vs',fp2,e',hs',hr',_⟩:=bK hrb;cases e';obtain rfl:=I.list_inj hs hs';have l1:=hr.length;have l2:=hr'.length;rw [if_pos (by rw [<- l1,<- l2])] at e;exact seq _ _ _ _ _ _ hr hr' e
end
section
theorem qR (A:Around):A.in1.units=A.units + 1:=rfl
theorem Z2c (I:Inv X pins σ H s):∀ (n:Nat) (A:Around) (a b:D) (v u:V) (vv uu:Value) (f1 f2:List Addr) (k:Bool),A.units + n <= cLine->Rep X.K st1 H a v f1->Rep X.K st2 H b u f2->RelV v vv->RelV u uu->eqN n a b=some k ->
  EqAt A s vv uu k /\ RcAt A s vv uu k /\ RcNeAt A s vv uu (!k):=by
 intro n
 induction n with
 | zero=>intro A a b v u vv uu f1 f2 k _ _ _ _ _ e;simp [eqN] at e
 | succ n ih =>
  intro A a b v u vv uu f1 f2 k hu ra rb rv ru e;have hu0:A.units < cLine:=by omega
  have seqs:∀ {xs ys:List D}{vs us:List V}{its its2:List Value}{g1 g2:List Addr}{ee:Nat->Bool},Reps X.K st1 H xs vs g1->Reps X.K st2 H ys us g2->Vals vs its->Vals us its2->(∀ j x y,xs[j]? = some x->ys[j]? = some y->eqN n x y=some (ee j)) ->
    ∀ j (h1:j < its.toArray.size) (h2:j < its2.toArray.size),EqAt A.in1 s its.toArray[j] its2.toArray[j] (ee j):=by
   intro xs ys vs us its its2 g1 g2 ee r1 r2 w1 w2 he j h1 h2;have l1:=r1.length;have l2:=r2.length;have l3:=w1.length;have l4:=w2.length;have j1:j < xs.length:=by simp at h1;omega
   have j2:j < ys.length:=by simp at h2;omega
   obtain⟨v1,_,a1,a2,_⟩:=r1.get (List.getElem?_eq_getElem j1);obtain⟨v2,_,b1,b2,_⟩:=r2.get (List.getElem?_eq_getElem j2);obtain⟨u1,c1,c2⟩:=w1.get a1;obtain⟨u2,d1,d2⟩:=w2.get b1;have e1:its.toArray[j]=u1:=by have:=List.getElem?_eq_some_iff.mp c1;obtain⟨_,z⟩:=this;simpa using z
   have e2:its2.toArray[j]=u2:=by have:=List.getElem?_eq_some_iff.mp d1;obtain⟨_,z⟩:=this;simpa using z
   rw [e1,e2];exact (ih A.in1 _ _ _ _ _ _ _ _ _ (by rw [qR];omega) a2 b2 c2 d2 (he j _ _ (List.getElem?_eq_getElem j1) (List.getElem?_eq_getElem j2))).1
  cases a with
  | non =>
   have hv:v=.non:=dI ra;subst hv;cases (show vv=Value.none from rv)
   cases b with
   | non =>
    cases dI rb;cases (show uu=Value.none from ru)
    simp only [eqN] at e;cases e;exact⟨EqAt.same _,RcAt.none_none,RcNeAt.none_none⟩
   | int i =>
    cases bE rb;obtain⟨t,rfl⟩:=(show ∃ t,uu=Value.int i t from ru)
    simp only [eqN] at e;cases e;exact⟨EqAt.none_int _ _,RcAt.none_int _ _,RcNeAt.none_int _ _⟩
   | str i =>
    cases eF rb;obtain⟨t,rfl⟩:=(show ∃ t,uu=Value.str i t from ru)
    simp only [eqN] at e;cases e;exact⟨EqAt.none_str _ _,RcAt.none_str _ _,RcNeAt.none_str _ _⟩
   | tup ys =>
    simp only [Rep] at rb;obtain⟨p,us,rfl,hs,hr⟩:=rb;cases (show uu=Value.ref p from ru)
    obtain⟨its,w1,pl,_⟩:=I.tuple hs;simp only [eqN] at e;cases e;exact⟨EqAt.none_tuple pl hu0,RcAt.none_tuple pl hu0,RcNeAt.none_tuple pl hu0⟩
   | lst ys =>
    obtain⟨p,us,_,rfl,hs,hr,_⟩:=bK rb;cases (show uu=Value.ref p from ru)
    obtain⟨its,w1,pl,_⟩:=I.list hs;simp only [eqN] at e;cases e;exact⟨EqAt.none_list pl.isList hu0,RcAt.none_list pl.isList hu0,RcNeAt.none_list pl.isList hu0⟩
   | _=>simp only [eqN] at e;cases e
  | bl x =>
   cases eB ra;cases (show vv=Value.bool x from rv)
   cases b with
   | bl y =>
    cases eB rb;cases (show uu=Value.bool y from ru)
    simp only [eqN] at e;cases e;exact⟨EqAt.bool_bool _ _,RcAt.bool_bool _ _,RcNeAt.bool_bool _ _⟩
   | _=>simp only [eqN] at e;cases e
  | int x =>
   cases bE ra;obtain⟨t,rfl⟩:=(show ∃ t,vv=Value.int x t from rv)
   cases b with
   | int y =>
    cases bE rb;obtain⟨t',rfl⟩:=(show ∃ t,uu=Value.int y t from ru)
    simp only [eqN] at e;cases e;exact⟨EqAt.int_int _ _ _ _,RcAt.int_int _ _ _ _,RcNeAt.int_int _ _ _ _⟩
   | non =>
    cases dI rb;cases (show uu=Value.none from ru)
    simp only [eqN] at e;cases e;exact⟨EqAt.int_none _ _,RcAt.int_none _ _,RcNeAt.int_none _ _⟩
   | str y =>
    cases eF rb;obtain⟨t',rfl⟩:=(show ∃ t,uu=Value.str y t from ru)
    simp only [eqN] at e;cases e;exact⟨EqAt.int_str _ _ _ _,RcAt.int_str _ _ _ _,RcNeAt.int_str _ _ _ _⟩
   | _=>simp only [eqN] at e;cases e
  | str x =>
   cases eF ra;obtain⟨t,rfl⟩:=(show ∃ t,vv=Value.str x t from rv)
   cases b with
   | int y =>
    cases bE rb;obtain⟨t',rfl⟩:=(show ∃ t,uu=Value.int y t from ru)
    simp only [eqN] at e;cases e;exact⟨EqAt.str_int _ _ _ _,RcAt.str_int _ _ _ _,RcNeAt.str_int _ _ _ _⟩
   | non =>
    cases dI rb;cases (show uu=Value.none from ru)
    simp only [eqN] at e;cases e;exact⟨EqAt.str_none _ _,RcAt.str_none _ _,RcNeAt.str_none _ _⟩
   | str y =>
    cases eF rb;obtain⟨t',rfl⟩:=(show ∃ t,uu=Value.str y t from ru)
    simp only [eqN] at e;cases e;exact⟨EqAt.str_str _ _ _ _,RcAt.str_str _ _ _ _,RcNeAt.str_str _ _ _ _⟩
   | _=>simp only [eqN] at e;cases e
  | tup xs =>
   have ra':=ra;simp only [Rep] at ra;obtain⟨p,vs,rfl,hs,hr⟩:=ra;cases (show vv=Value.ref p from rv)
   obtain⟨its,w1,pl,_⟩:=I.tuple hs;cases b with
   | non =>
    cases dI rb;cases (show uu=Value.none from ru)
    simp only [eqN] at e;cases e;exact⟨EqAt.tuple_none pl hu0,RcAt.tuple_none pl hu0,RcNeAt.tuple_none pl hu0⟩
   | tup ys =>
    have rb':=rb;simp only [Rep] at rb;obtain⟨p',us,rfl,hs',hr'⟩:=rb;cases (show uu=Value.ref p' from ru)
    obtain⟨its2,w2,pl2,_⟩:=I.tuple hs';have e0:=e;simp only [eqN] at e;cases hq:eqL (eqN n) xs ys with
    | none=>rw [hq] at e;cases e
    | some c =>
     rw [hq] at e;cases e;obtain⟨ee,g1,g2⟩:=uF hq;have l1:=hr.length;have l2:=hr'.length;have l3:=w1.length;have l4:=w2.length;have es:(its.toArray.size == its2.toArray.size)=(xs.length == ys.length):=by simp [<- l1,<- l2,l3,l4]
     have em:min its.toArray.size its2.toArray.size=min xs.length ys.length:=by simp [<- l1,<- l2,l3,l4]
     have rc:=RcAt.tuples pl pl2 hu0 (seqs hr hr' w1 w2 g1);have rn:=RcNeAt.tuples pl pl2 hu0 (seqs hr hr' w1 w2 g1);rw [es,em,g2] at rc rn;refine⟨?_,rc,rn⟩;by_cases hp:p=p'
     .subst hp;have:=T5 I _ _ _ _ _ _ _ ra' rb' e0;rw [this];exact EqAt.same _
     .exact EqAt.of_refs hp rc
   | _=>simp only [eqN] at e;cases e
  | lst xs =>
   obtain⟨p,vs,_,rfl,hs,hr,_⟩:=bK ra;cases (show vv=Value.ref p from rv)
   obtain⟨its,w1,pl,_⟩:=I.list hs;cases b with
   | non =>
    cases dI rb;cases (show uu=Value.none from ru)
    simp only [eqN] at e;cases e;exact⟨EqAt.list_none pl.isList hu0,RcAt.list_none pl.isList hu0,RcNeAt.list_none pl.isList hu0⟩
   | lst ys =>
    obtain⟨p',us,_,rfl,hs',hr',_⟩:=bK rb;cases (show uu=Value.ref p' from ru)
    obtain⟨its2,w2,pl2,_⟩:=I.list hs';have e0:=e;simp only [eqN] at e;have l1:=hr.length;have l2:=hr'.length;have l3:=w1.length;have l4:=w2.length;have key:RcAt A s (.ref p) (.ref p') k /\ RcNeAt A s (.ref p) (.ref p') (!k):=by
     by_cases hl:xs.length=ys.length
     .rw [if_pos hl] at e;obtain⟨ee,g1,g2⟩:=uF e;have hsz:its.toArray.size=its2.toArray.size:=by simp;omega
      have em:its.toArray.size=min xs.length ys.length:=by simp;omega
      have rc:=RcAt.lists pl.isList pl2.isList hsz hu0 (seqs hr hr' w1 w2 g1);have rn:=RcNeAt.lists pl.isList pl2.isList hsz hu0 (seqs hr hr' w1 w2 g1);rw [em,g2] at rc rn;exact⟨rc,rn⟩
     .rw [if_neg hl] at e;cases e;have hsz:(its.toArray.size != its2.toArray.size)=true:=by simp;omega
      exact⟨RcAt.lists_lengths pl.isList pl2.isList hsz hu0,RcNeAt.lists_lengths pl.isList pl2.isList hsz hu0⟩
    refine⟨?_,key.1,key.2⟩;by_cases hp:p=p'
    .subst hp;have:=T5 I _ _ _ _ _ _ _ ra rb e0;rw [this];exact EqAt.same _
    .exact EqAt.of_refs hp key.1
   | _=>simp only [eqN] at e;cases e
  | obj _ _ _=>simp only [eqN] at e;cases e
  | dk _ _=>simp only [eqN] at e;cases e
  | dt _ _=>simp only [eqN] at e;cases e
  | exc _=>simp only [eqN] at e;cases e
  | fn _ _ _=>simp only [eqN] at e;cases e
end
section
noncomputable def fEq (fa fb:En->Option D):En->Option Bool:=fun env=>match fa env,fb env with
 | some x,some y=>eqN 8 x y
 | _,_=>none
noncomputable def Z5p (neg:Bool) (K:Frag):R2:=fun v u H Q=>∃ a b f1 f2 k st1 st2,Rep K st1 H a v f1 /\ Rep K st2 H b u f2 /\ eqN 8 a b=some k /\ Q (.bl (if neg then !k else k)) H
theorem Z1D (hu:X.A.units + 8 <= cLine):OpR X (compareOp .Eq) (Z5p false X.K):=fun pins s σ H x y v u Q I rx ry ⟨a,b,f1,f2,k,st1,st2,r1,r2,e,q⟩ =>
 (Z2c I 8 X.A a b x y v u f1 f2 k hu r1 r2 rx ry e).2.1 _ _ _ _ ⟨.bl k,H,I,rfl,q⟩
theorem Z1A (hu:X.A.units + 8 <= cLine):OpR X (compareOp .NotEq) (Z5p true X.K):=fun pins s σ H x y v u Q I rx ry ⟨a,b,f1,f2,k,st1,st2,r1,r2,e,q⟩ =>
 (Z2c I 8 X.A a b x y v u f1 f2 k hu r1 r2 rx ry e).2.2 _ _ _ _ ⟨.bl (!k),H,I,rfl,q⟩
theorem kF (e:fEq fa fb env=some bb):∃ x y,fa env=some x /\ fb env=some y /\ eqN 8 x y=some bb:=by
 unfold fEq at e;split at e
 .rename_i x y h1 h2;exact⟨x,y,h1,h2,e⟩
 .cases e
theorem cP (hu:X.A.units + 8 <= cLine) (ha:QE X m1 rs1 a fa) (hb:QE X m2 rs2 b fb):QT X (.Compare a [.Eq] [b] pos) (fEq fa fb) :=
 qG (Z1D hu) ha hb (gE _) (fun env x y K H v u f1 f2 Q bb e ea eb r1 r2 hK q=>by
  subst hK;obtain⟨x',y',h1,h2,h3⟩:=kF e;rw [ea] at h1;rw [eb] at h2;cases h1;cases h2;exact⟨x,y,f1,f2,bb,_,_,r1,r2,h3,q⟩) fun env bb e=>let ⟨x,y,h1,h2,_⟩:=kF e;⟨x,y,h1,h2⟩
theorem tF (hu:X.A.units + 8 <= cLine) (ha:QE X m1 rs1 a fa) (hb:QE X m2 rs2 b fb):QT X (.Compare a [.NotEq] [b] pos) (cR (fEq fa fb)) :=
 qG (Z1A hu) ha hb (gE _) (fun env x y K H v u f1 f2 Q bb e ea eb r1 r2 hK q=>by
  subst hK;unfold cR at e;cases h:fEq fa fb env with
  | none=>rw [h] at e;cases e
  | some k =>
   rw [h] at e;cases e;obtain⟨x',y',h1,h2,h3⟩:=kF h;rw [ea] at h1;rw [eb] at h2;cases h1;cases h2;exact⟨x,y,f1,f2,k,_,_,r1,r2,h3,q⟩) fun env bb e=>by
  unfold cR at e;cases h:fEq fa fb env with
  | none=>rw [h] at e;cases e
  | some k=>obtain⟨x,y,h1,h2,_⟩:=kF h;exact⟨x,y,h1,h2⟩
theorem U1 (hu:X.A.units + 8 <= cLine) (ha:QE X m1 rs1 a fa) (hb:QE X m2 rs2 b fb):QE X m rs (.Compare a [.Eq] [b] pos) (hU (fEq fa fb)) :=
 .mk (rZ (Z1D hu) ha hb (gE _)) fun σ H Q ⟨env,F,d,ok,e,q⟩=>by
  unfold hU at e;cases h:fEq fa fb env with
  | none=>rw [h] at e;cases e
  | some k =>
   rw [h] at e;cases e;obtain⟨x,y,h1,h2,h3⟩:=kF h;exact two ok h1 h2 fun v u H' f1 f2 s r1 r2 _ _=>⟨x,y,f1,f2,k,_,_,r1,r2,h3,q _ _ _ s jE .nil⟩
theorem Z5t (hu:X.A.units + 8 <= cLine) (ha:QE X m1 rs1 a fa) (hb:QE X m2 rs2 b fb):QE X m rs (.Compare a [.NotEq] [b] pos) (hU (cR (fEq fa fb))) :=
 .mk (rZ (Z1A hu) ha hb (gE _)) fun σ H Q ⟨env,F,d,ok,e,q⟩=>by
  unfold hU cR at e;cases h:fEq fa fb env with
  | none=>rw [h] at e;cases e
  | some k =>
   rw [h] at e;cases e;obtain⟨x,y,h1,h2,h3⟩:=kF h;exact two ok h1 h2 fun v u H' f1 f2 s r1 r2 _ _=>⟨x,y,f1,f2,k,_,_,r1,r2,h3,q _ _ _ s jE .nil⟩
end
section
noncomputable def tyN:D->Option String
 | .non=>some "NoneType"
 | .bl _=>some "bool"
 | .int _=>some "int"
 | .str _=>some "str"
 | .tup _=>some "tuple"
 | .lst _=>some "list"
 | .obj _ _ _=>none
 | .dk _ _=>none
 | .dt _ _=>none
 | .exc _=>none
 | .fn _ _ _=>none
noncomputable def lL (c:String) (d:D):Option Bool:=(tyN d).map fun T=>T == c || (T == "bool" && c == "int")
theorem Z2I {st:Bool}(I:Inv X pins σ H s) (r:Rep X.K st H d v fp) (rv:RelV v u) (hT:tyN d=some T)
  (e:PySem.W.kitOne X.K (.type T) cc=some k) (h:∀ tk,Q (.bool k) { s with toks:=tk }):wpAny (model X.prog X.w) X.A (call (.builtin "isinstance") [u,cc]) Q E s:=by
 cases d with
 | non=>cases hT;exact nE I rv (by rw [dI r];exact .non) e h
 | bl x=>cases hT;exact nE I rv (by rw [eB r];exact .bl x) e h
 | int x=>cases hT;exact nE I rv (by rw [bE r];exact .int x) e h
 | str x=>cases hT;exact nE I rv (by rw [eF r];exact .str x) e h
 | tup xs =>
  cases hT;simp only [Rep] at r;obtain⟨q,vs,rfl,hs,hr⟩:=r;cases (show u=Value.ref q from rv)
  obtain⟨its,w1,pl,_⟩:=I.tuple hs;obtain⟨o,h1,h2,_⟩:=pl;exact PySem.W.kia_one PySem.W.kitx_tuple I.kIn ⟨o,h1,h2⟩ e (fun z=>nomatch z) h
 | lst xs =>
  cases hT;obtain⟨q,vs,_,rfl,hs,hr,_⟩:=bK r;cases (show u=Value.ref q from rv)
  obtain⟨its,w1,pl,_⟩:=I.list hs;obtain⟨o,h1,h2,_⟩:=pl.isList;exact PySem.W.kia_one PySem.W.kitx_list I.kIn ⟨o,h1,h2⟩ e (fun z=>nomatch z) h
 | obj _ _ _=>cases hT
 | dk _ _=>cases hT
 | dt _ _=>cases hT
 | exc _=>cases hT
 | fn _ _ _=>cases hT
theorem hV:bootBuiltins "isinstance" = some (.builtin "isinstance"):=by decide +kernel
theorem gC (hg:Gl X "isinstance") (hm:X.mg "isinstance" = none) (ha:QE X m1 rs1 a fa) (hgc:Gl X cn) (hmc:X.mg cn=none) (hvc:bootBuiltins cn=some (.type c))
  (hk:∀ d T k,tyN d=some T->lL c d=some k->PySem.W.kitOne X.K (.type T) (.type c)=some k) (hnc:cn ≠ "__name__":=by decide) (hdc:(cn == ("__debug__" : Str))=false:=by decide)
  (he:starEach [a,.Name cn p2] X.env=(false,eval a X.env) :: starEach [.Name cn p2] X.env:=by rfl) (he2:starEach [.Name cn p2] X.env=(false,eval (.Name cn p2) X.env) :: starEach [] X.env:=by rfl) (hpl:(backTo pos (starEach [.Name cn p2] X.env)).any (·.1)=false:=by rfl) :
  QE X m rs (.Call (.Name "isinstance" p) [a,.Name cn p2] [] pos) (fun env=>(fa env).bind fun d=>(lL c d).map .bl) :=
 .mk (L2.pe_callB (r:=fun vs H Q=>∃ d v fp k st,vs=[v,.ty c] /\ Rep X.K st H d v fp /\ lL c d=some k /\ Q (.bl k) H)
   (fun pins s σ H xs us Q I w h=>by
    obtain⟨d,v,fp,k,st,rfl,r,hi,q⟩:=h;obtain⟨u,w',rfl,r1,r2⟩:=R4 w;cases (show w'=Value.type c from r2)
    unfold lL at hi;cases hT:tyN d with
    | none=>rw [hT] at hi;cases hi
    | some T=>exact Z2I I r r1 hT (hk d T k hT (by unfold lL;exact hi)) fun tk=>⟨.bl k,H,I.tok tk,rfl,q⟩)
   hg hm hV (pa_cons ha (pa_cons (Z3c (v:=.ty c) hgc hmc hvc rfl hnc hdc) pa_nil he2) he) (by decide) (by decide) he hpl) fun σ H Q ⟨env,F,d,ok,e,q⟩=>by
  cases h1:fa env with
  | none=>simp only [h1] at e;cases e
  | some d' =>
   simp only [h1,Option.bind_some] at e;cases h2:lL c d' with
   | none=>rw [h2] at e;cases e
   | some k =>
    rw [h2] at e;cases e;exact⟨env,F,d',ok,h1,fun v H' fp s r c=>⟨d',v,fp,k,m1,rfl,r,h2,q _ _ _ s jE .nil⟩⟩
theorem D2 (K:Frag):∀ d T k,tyN d=some T->lL "list" d=some k->PySem.W.kitOne K (.type T) (.type "list")=some k:=by
 intro d T k h1 h2;unfold lL at h2;rw [h1] at h2;cases d <;> simp only [tyN,Option.some.injEq] at h1 <;> first | (subst h1;cases h2;rfl) | (cases h1)
theorem Z3l (K:Frag):∀ d T k,tyN d=some T->lL "int" d=some k->PySem.W.kitOne K (.type T) (.type "int")=some k:=by
 intro d T k h1 h2;unfold lL at h2;rw [h1] at h2;cases d <;> simp only [tyN,Option.some.injEq] at h1 <;> first | (subst h1;cases h2;rfl) | (cases h1)
theorem Z1Z (K:Frag):∀ d T k,tyN d=some T->lL "bool" d=some k->PySem.W.kitOne K (.type T) (.type "bool")=some k:=by
 intro d T k h1 h2;unfold lL at h2;rw [h1] at h2;cases d <;> simp only [tyN,Option.some.injEq] at h1 <;> first | (subst h1;cases h2;rfl) | (cases h1)
theorem qO (K:Frag):∀ d T k,tyN d=some T->lL "tuple" d=some k->PySem.W.kitOne K (.type T) (.type "tuple")=some k:=by
 intro d T k h1 h2;unfold lL at h2;rw [h1] at h2;cases d <;> simp only [tyN,Option.some.injEq] at h1 <;> first | (subst h1;cases h2;rfl) | (cases h1)
theorem boot_bool:bootBuiltins "bool" = some (.type "bool"):=by decide +kernel
theorem eS:OpR X (binaryOp .Mult) (rI IntMulOk fun i j=>.int (i * j)):=opI fun _ _ _ _ _ _ _ hc q=>PyProof.Rows.mul_int q hc
noncomputable def cG (i j:Int):Prop:=0 < j /\ j.natAbs.log2 < 9000
theorem eG:OpR X (binaryOp .FloorDiv) (rI cG fun i j=>.int (i / j)):=opI fun i j _ _ _ _ _ hc q=>by
 have h1:(0:Int) < j:=hc.1;exact floordiv_int (by omega) (by rw [Int.fdiv_eq_ediv_of_nonneg i (by omega)];exact q) (.inl (PyProof.noPylong_of_log2 hc.2))
noncomputable def kC:List D->Option (List Int)
 | []=>some []
 | .int i :: r=>(kC r).map (i :: ·)
 | _ :: _=>none
theorem nF {K:Frag}{st:Bool}:∀ {ds:List D}{ns:List Int}{vs:List V}{fp:List Addr},kC ds=some ns->Reps K st H ds vs fp->vs=ns.map V.int
 | [],ns,vs,fp,h,r=>by simp only [kC] at h;cases h;simp only [Reps] at r;exact r.1
 | d :: ds,ns,vs,fp,h,r=>by
  simp only [Reps] at r;obtain⟨v,us,f1,f2,rfl,rfl,r1,r2⟩:=r;cases d with
  | int i =>
   simp only [kC] at h;cases hq:kC ds with
   | none=>rw [hq] at h;cases h
   | some ms =>
    rw [hq] at h;cases h;rw [bE r1,nF hq r2];rfl
  | _=>simp only [kC] at h;cases h
noncomputable def zF:List D->Option D
 | [.lst ds]=>(kC ds).map fun ns=>.int ns.sum
 | _=>none
theorem Z0E (hc:X.calm=true):CallR X (.builtin "sum") (fun vs H Q=>∃ (a:Addr) (ns:List Int),vs=[.ref a] /\ SqL X.K H a (ns.map V.int) /\ Q (.int ns.sum) H):=fun pins s σ H xs us Q I w h=>by
 obtain⟨a,ns,rfl,hs,q⟩:=h;obtain⟨u,rfl,r⟩:=nQ w;cases (show u=Value.ref a from r)
 obtain⟨its,w1,pl,_⟩:=I.list hs;have hi:=oP w1;obtain⟨xs,ex⟩:=hi.allInts.items;have hl:s.heap.IsList a (intItems xs):=by
  have:=pl.isList;rw [ex] at this;exact this
 refine sum_intListG (I.ok.hd hc) hl fun h' tk t' hk=>?_;refine⟨.int ns.sum,H,I.kept hk,⟨t',?_⟩,q⟩;have e1:=hi.numsOf;have e2:(numsOf its.toArray.toList).sum=ns.sum:=by rw [show its.toArray.toList=its from rfl,e1]
 rw [ex,nums_intItems] at e2;rw [preSum_eq,List.take_of_length_le (by simp),e2]
theorem M9 (hcm:X.calm=true) (hg:Gl X "sum") (hm:X.mg "sum" = none) (ha:QE X m1 rs1 a fa) (he:starEach [a] X.env=(false,eval a X.env) :: starEach [] X.env:=by rfl) (hpl:(backTo pos (starEach [] X.env)).any (·.1)=false:=by rfl) :
  QE X m rs (.Call (.Name "sum" p) [a] [] pos) (fun env=>(aB fa aH env).bind zF) :=
 jZ (Z0E hcm) hg hm PyProof.Rows.boot_sum (aD ha bG he) (fun ds d vs H fp Q e r q=>by
  unfold zF at e;split at e
  .rename_i ds';cases hq:kC ds' with
   | none=>rw [hq] at e;cases e
   | some ns =>
    rw [hq] at e;cases e;obtain⟨v,rfl,r1⟩:=iL r;obtain⟨p,ws,fp',rfl,hsq,hr,hsub⟩:=bK r1;rw [nF hq hr] at hsq;exact⟨p,ns,rfl,hsq,q _ _ [] (Same.refl H) dW (fun b hb=>(by cases hb)) List.nodup_nil⟩
  .cases e) (he:=he) (hpl:=hpl)
end
section
end
noncomputable def spI (K:Frag) (C:Addr) (n:Nat) (f:List D->Option D):Sp:=fun vs H Q _=>∃ x dx H0 us ds d fp,vs=.ref x :: us /\ H0 x=none /\ H0 dx=none /\ dx ≠ x /\ H=upd (upd H0 dx (.own x)) x (.ins C dx []) /\ ds.length=n /\ Reps K false H0 ds us fp /\ f ds=some d /\
 ∀ H' fp',Same H0 H'->Rep K true H' d (.ref x) fp'->(∀ b ∈ fp',H0 b=none)->fp'.Nodup->Q .non H'
theorem Z2z {K:Frag}{C:Addr}{n:Nat}{f:List D->Option D}{vs:List V}{H:Hp}{Q:VK}{E:XK}(h:spI K C n f vs H Q E):vs.length=n + 1:=by
 obtain⟨x,dx,H0,us,ds,d,fp,rfl,_,_,_,_,h1,h2,_⟩:=h;rw [List.length_cons,h2.length,h1]
section
theorem Z2U (M:Mk X.K C fA) (G:bR X.prog X.w X.K X.mg X.base CX0 k fA fd ps (spI X.K C n F')) (hr:Room (k + 1) X.A) (hg:Gl X x) (hm:X.mg x=some (.ref C)) (hb:Binds X.K fd ps []) (ha:QA X m1 rs1 (e :: es) fs) (hn:∀ env xs,fs env=some xs->xs.length=n)
  (hdb:(x == ("__debug__" : Str))=false:=by decide) (he:starEach (e :: es) X.env=(false,eval e X.env) :: starEach es X.env:=by rfl) (hpl:(backTo pos (starEach es X.env)).any (·.1)=false:=by rfl) :
  QE X true [] (.Call (.Name x p) (e :: es) [] pos) (fun env=>(fs env).bind F') :=
 .mk (L2.pe_make M G hr hg hm hb .nil Z1v ha hdb he hpl) fun σ H Q ⟨env,F,d,ok,e,q⟩=>by
  cases h1:fs env with
  | none=>simp only [h1] at e;cases e
  | some xs =>
   simp only [h1,Option.bind_some] at e;refine⟨env,F,xs,ok,h1,fun vs H1 fp s r c x dx hx hdx hne=>⟨x,dx,H1,vs ++ [],xs,d,fp,rfl,hx,hdx,hne,rfl,hn env xs h1,by rw [List.append_nil];exact Reps.weak _ _ _ r,e,fun H' fp' s' r' fr nd=>⟨rfl,q _ H' fp' (s.trans s') r' ⟨fun b hb=>.inl (s.free (fr b hb)),fun _=>⟨nd,fun b hb=>s.free (fr b hb)⟩⟩⟩⟩⟩
end
theorem M8 {K:Frag}{st:Bool}{H:Hp}{a:Addr}{vs:List V}{ds:List D}{fp:List Addr}(ha:H a=some (.lst vs)) (r:Reps K true H ds vs fp):Rep K st H (.lst ds) (.ref a) (a :: fp):=by
 cases st with
 | true=>simp only [Rep];exact⟨a,vs,fp,rfl,r,.inl ⟨rfl,ha⟩⟩
 | false=>simp only [Rep];exact⟨a,vs,fp,rfl,Reps.weak _ _ _ r,.inl ⟨rfl,ha⟩⟩
section
end
structure aY (P:Program) (w:World) (K:Frag) (mg:Str->Option Value) (base:Heap) (x:Str) (dds:List D) (k n:Nat) (F':List D->Option D):Prop where
 ex:∃ fA fd ps dvs ds,bR P w K mg base CX0 k fA fd ps (spD K n F') /\ mg x=some (.ref fA) /\ keepIn K (.ref fA)=true /\ Binds K fd ps ds /\ Vals dvs ds /\ ∀ H,Reps K false H dds dvs []
noncomputable def aM (F':List D->Option D) (dds:List D) (fs:En->Option (List D)):En->Option D:=fun env=>(fs env).bind fun xs=>F' (xs ++ dds)
noncomputable def fB1 (F':List D->Option D) (fs:En->Option (List D)):En->Option D:=fun env=>(fs env).bind F'
noncomputable def sB1 (F':List D->Option (List D)) (fs:En->Option (List D)):En->Option (List D):=fun env=>(fs env).bind F'
noncomputable def qU (c:String) (fa:En->Option D):En->Option D:=fun env=>(fa env).bind fun d=>(lL c d).map .bl
inductive NArgs:Nat->(En->Option (List D))->Prop
 | nil:NArgs 0 aH
 | cons {n:Nat}{f:En->Option D}{fs:En->Option (List D)}:NArgs n fs->NArgs (n + 1) (aB f fs)
theorem NArgs.len (h:NArgs n fs):∀ env xs,fs env=some xs->xs.length=n:=by
 induction h with
 | nil=>intro env xs e;cases e;rfl
 | cons h ih =>
  intro env xs e;unfold aB at e;split at e
  .rename_i d ds h1 h2;cases e;rw [List.length_cons,ih env _ h2]
  .cases e
section
theorem Z1i (c:aY X.prog X.w X.K X.mg X.base x dds k n F') (hr:Room k X.A) (hna:NArgs na fs) (hn:na + dds.length=n) (ha:QA X m1 rs1 (e :: es) fs) (hg:Gl X x:=by rfl)
  (hdb:(x == ("__debug__" : Str))=false:=by decide) (he:starEach (e :: es) X.env=(false,eval e X.env) :: starEach es X.env:=by rfl) (hpl:(backTo pos (starEach es X.env)).any (·.1)=false:=by rfl) :
  QE X true [] (.Call (.Name x p) (e :: es) [] pos) (aM F' dds fs):=by
 obtain⟨fA,fd,ps,dvs,ds,G,hm,hk,hb,hd,hdd⟩:=c.ex;exact Z2Z G hr hg hm hk hb hd hdd ha (fun env xs h=>by rw [hna.len env xs h];exact hn) hdb he hpl
structure Z2p (P:Program) (w:World) (K:Frag) (mg:Str->Option Value) (base:Heap) (x:Str) (C:Addr) (k n:Nat) (F':List D->Option D):Prop where
 ex:∃ fA fd ps,Mk K C fA /\ bR P w K mg base CX0 k fA fd ps (spI K C n F') /\ mg x=some (.ref C) /\ Binds K fd ps []
theorem Z5u (c:Z2p X.prog X.w X.K X.mg X.base x C k n F') (hr:Room (k + 1) X.A) (hna:NArgs n fs) (ha:QA X m1 rs1 (e :: es) fs) (hg:Gl X x:=by rfl)
  (hdb:(x == ("__debug__" : Str))=false:=by decide) (he:starEach (e :: es) X.env=(false,eval e X.env) :: starEach es X.env:=by rfl) (hpl:(backTo pos (starEach es X.env)).any (·.1)=false:=by rfl) :
  QE X true [] (.Call (.Name x p) (e :: es) [] pos) (fB1 F' fs):=by
 obtain⟨fA,fd,ps,M,G,hm,hb⟩:=c.ex;exact Z2U M G hr hg hm hb ha (fun env xs h=>hna.len env xs h) hdb he hpl
theorem bO (r:Room k A):A.units + 8 <= cLine:=by have:=r.un;omega
theorem fM (i:Nat) (he:QE X true [] e f) (hN:X.N[i]? = some x:=by rfl) (hv:Vis X.env.scope x:=by first | exact Or.inl rfl | exact Or.inr (Or.inl rfl) | exact Or.inr (Or.inr rfl)) (hd:(x == ("__debug__" : Str))=false:=by decide) (hcd:(x == ("__classdict__" : Str))=false:=by decide)
  (hbase:attributeBase (.Name x p) "append" X.env (eval (.Name x p) X.env)=eval (.Name x p) X.env:=by rfl)
  (hfew:((backTo cpos (starEach [e] X.env)).all (fun x=>!x.1) && (backToKw cpos (keywordEach [] X.env)).all (fun x=>x.1.isSome)
   && decide (([e]:List Expr).length + ([]:List Keyword).length + (if ([]:List Keyword).isEmpty then 0 else 1) < 30))=true:=by rfl)
  (hline:(apos.endLine == cpos.line)=true:=by rfl) (hst:starEach [e] X.env=(false,eval e X.env) :: starEach [] X.env:=by rfl) (hplain:(backTo cpos (starEach [] X.env)).any (·.1)=false:=by rfl)
  (hs:swapsWith (.Call (.Attribute (.Name x p) "append" apos) [e] [] cpos) none pos.line X.env=pure false:=by rfl) :
  QS X (.Expr (.Call (.Attribute (.Name x p) "append" apos) [e] [] cpos) pos) (fI i f) :=
 Z9 hN hv he hd hcd hst (hpe:=Z3M PySem.F.plainAttrs_list PySem.F.slot_list_append PySem.F.type_list_append wF (gD hN hv hd hcd) (pa_cons he pa_nil hst) hbase hfew hline hst hplain) (hs:=hs)
theorem T9 (i:Nat) (hk:QE X m2 rs2 k fk) (he:QE X m1 rs1 e f) (hN:X.N[i]? = some x:=by rfl) (hv:Vis X.env.scope x:=by first | exact Or.inl rfl | exact Or.inr (Or.inl rfl) | exact Or.inr (Or.inr rfl)) (hd:(x == ("__debug__" : Str))=false:=by decide) (hcd:(x == ("__classdict__" : Str))=false:=by decide)
  (ha:∀ v,assign (.Subscript (.Name x p) k spos) X.env v=(do
   let ov <- holding [v] (eval (.Name x p) X.env)
   let iv <- holding [v,ov] (eval k X.env)
   standAt spos
   holding [v,ov,iv] (setItem ov iv v)
   release [v,ov,iv] []):=by intro _;rfl)
  (hs:swapsWithSole [.Subscript (.Name x p) k spos] e pos.line X.env=pure false:=by rfl) (hw:swappedStores [.Subscript (.Name x p) k spos] e X.env=pure none:=by rfl) :
  QS X (.Assign [.Subscript (.Name x p) k spos] e pos) (A6 i fk f) :=
 Z4g hN hv he hk hd hcd (hps:=Z1r he (Z4u (gD hN hv hd hcd) hk Z0Y ha) hs hw)
theorem Z2O (he:QE X m rs e f) (hg:QG X tg t) (hs:swapsWithSole [tg] e pos.line X.env=pure false:=by rfl) (hw:swappedStores [tg] e X.env=pure none:=by rfl) (h1:(assignEach [tg] X.env).map (·.2)=[assign tg X.env]:=by rfl):QS X (.Assign [tg] e pos) (Z4 rs t f) :=
 Z4d he hg hs hw (hps:=Z1r he hg hs hw h1)
end
noncomputable def lF (i:Nat):En->Res:=fun env=>match env[i]? with | some (some (true,d))=>.ret d | _=>.bad
noncomputable def A5 (i j:Nat):En->Res:=fun env=>match env[i]?,env[j]? with
 | some (some (true,d)),some (some (true,d'))=>.ret (.tup [d,d'])
 | _,_=>.bad
section
theorem Z2R (hij:i ≠ j) (hN:X.N[i]? = some x:=by rfl) (hv:Vis X.env.scope x:=by first | exact Or.inl rfl | exact Or.inr (Or.inl rfl) | exact Or.inr (Or.inr rfl)) (hN2:X.N[j]? = some y:=by rfl) (hv2:Vis X.env.scope y:=by first | exact Or.inl rfl | exact Or.inr (Or.inl rfl) | exact Or.inr (Or.inr rfl))
  (hd:(x == ("__debug__" : Str))=false:=by decide) (hcd:(x == ("__classdict__" : Str))=false:=by decide) (hd2:(y == ("__debug__" : Str))=false:=by decide) (hcd2:(y == ("__classdict__" : Str))=false:=by decide)
  (h1:starEach [.Name x p,.Name y p2] X.env=(false,eval (.Name x p) X.env) :: starEach [.Name y p2] X.env:=by rfl) (h2:starEach [.Name y p2] X.env=(false,eval (.Name y p2) X.env) :: starEach [] X.env:=by rfl) :
  QS X (.Return (some (.Tuple [.Name x p,.Name y p2] k1 p3)) pos) (A5 i j):=.mk (tI (L2.pe_tup (pa_cons (gD hN hv hd hcd) (pa_cons (gD hN2 hv2 hd2 hcd2) pa_nil h2) h1))) fun E σ H ⟨P,env,I,q⟩=>by
 obtain⟨F,hF⟩:=I.ex;unfold A5 at q;split at q
 .rename_i d d' e1 e2;obtain⟨v,hv1,_⟩:=hF.ok i true d e1;obtain⟨a1,a2,a3,a4⟩:=hF.own i d e1;obtain⟨v',hv1',_⟩:=hF.ok j true d' e2;obtain⟨b1,b2,b3,b4⟩:=hF.own j d' e2;refine⟨v,hv1,v',hv1',by show 2 <= sizeLine;decide,fun q' hq=>?_⟩;refine q _ _ (F i ++ F j) (I.same.trans (bS hq)) (oM hq ?_) (fun b hb=>(List.mem_append.mp hb).elim (a2 b) (b2 b)) (List.nodup_append.mpr ⟨a1,b1,fun s hs t ht z=>a4 j _ (Ne.symm hij) e2 s hs (z ▸ ht)⟩);simp only [Reps];exact⟨v,[v'],F i,F j,rfl,rfl,a3 v hv1,v',[],F j,[],rfl,by simp,b3 v' hv1',rfl,rfl⟩
 .exact q.elim
theorem xS:QE X m rs (.UnaryOp .USub (.Constant (.int i) k pp) pos) (fC (.int (-i))) :=
 .mk (Z5x Z3W L2.pe_int) fun σ H Q ⟨env,F,d,ok,e,q⟩=>by cases e;exact⟨i,rfl,q _ _ _ (Same.refl H) dW .nil⟩
end
theorem FunD.raw {P:Program}{w:World}{K:Frag}{mg:Str->Option Value}{base:Heap}{x qual:Str}{st:Stmt}{f:Addr}{fd:FuncData}{N ps:List Str}{k:Nat}{sp:Sp}(F:FunD K x qual st f fd) (S:aS N ps (aI st)) (len:∀ vs H Q E,sp vs H Q E->vs.length=ps.length)
  (hbody:∀ (cdv:Value) (A:Around) (outer:List Env) (s:Shared) (H:Hp) (vs:List V) (Q:VK) (E:XK),Room k (A.deeper (envOfC qual (aI st) s.heap.objs.size f cdv))->sp vs H Q E ->
   ∃ t,PSs (vI CX0 P w K mg base N qual (aI st) f cdv A outer s H E).nox (bQ st) t /\ t { nx:=fun _ H'=>Q .non H',rt:=Q } (L2.start N vs) H):bR P w K mg base CX0 (k + 1) f fd ps sp:=by
 obtain⟨oc,od,dV,kV,doc,pm,an,cdv,ct,osl,rfl,lk,hcd⟩:=F.ex;refine W0 lk hcd S len fun A outer s H vs Q E hr hsp=>?_;obtain⟨t,h,q⟩:=hbody cdv A outer s H vs Q E hr hsp;exact⟨t,h.nox,q⟩
theorem Z5H {K:Frag}{C x dx:Addr}{H0:Hp}{σ:L2.St}{us:List V}{ds:List D}{fp:List Addr}{n1 n2 n3:Str}{f1 f2 f3:En->Option D}{env:En}{d1 d2 d3:D}{E:K5}{F:Nat->List Addr}
  (hx:H0 x=none) (hdx:H0 dx=none) (hne:dx ≠ x) (ok:EnvOk K H0 σ env F) (h0:σ[0]? = some (some (.ref x))) (e1:f1 env=some d1) (e2:f2 env=some d2) (e3:f3 env=some d3)
  (hC:Cls K C) (a1:NoAttr K C n1) (a2:NoAttr K C n2) (a3:NoAttr K C n3) (k12:¬ n1=n2) (k13:¬ n1=n3) (k23:¬ n2=n3)
  (q:∀ H' fp',Same H0 H'->Rep K true H' (.obj C [n1,n2,n3] [d1,d2,d3]) (.ref x) fp'->(∀ b ∈ fp',H0 b=none)->fp'.Nodup->E.nx σ H') :
  Z42 (Z2G K (zQ 0) (tD K true [] f1) n1) (Z42 (Z2G K (zQ 0) (tD K true [] f2) n2) (Z2G K (zQ 0) (tD K true [] f3) n3)) E σ (upd (upd H0 dx (.own x)) x (.ins C dx [])):=by
 have hx':upd H0 dx (.own x) x=none:=by rw [aJ (Ne.symm hne)];exact hx
 have s0:Same H0 (upd (upd H0 dx (.own x)) x (.ins C dx [])):=(bS hdx).trans (bS hx');have stp:∀ {Ha Hb:Hp}{o:HO},Same H0 Ha->Same Ha Hb->Same H0 (upd Hb x o):=fun {Ha Hb o} sa sb b u e=>by
  rw [aJ (aQ e hx)];exact sb _ _ (sa _ _ e)
 have p1:∀ y1:V,jN n1 y1 []=[(n1,y1)]:=fun _=>rfl;have p2:∀ y1 y2:V,jN n2 y2 [(n1,y1)]=[(n1,y1),(n2,y2)]:=fun y1 y2=>by simp [jN,k12]
 have p3:∀ y1 y2 y3:V,jN n3 y3 [(n1,y1),(n2,y2)]=[(n1,y1),(n2,y2),(n3,y3)]:=fun y1 y2 y3=>by simp [jN,k13,k23]
 refine⟨env,F,d1,ok.same s0,e1,fun y1 H1 g1 s1 r1 c1=>⟨.ref x,h0,x,C,dx,[],rfl,s1 _ _ aR,hC,a1,by show 0 < 1000;decide,?_⟩⟩;rw [p1];have S1:Same H0 (upd H1 x (.ins C dx [(n1,y1)])):=stp s0 s1;refine⟨env,F,d2,ok.same S1,e2,fun y2 H2 g2 s2 r2 c2=>⟨.ref x,h0,x,C,dx,[(n1,y1)],rfl,s2 _ _ aR,hC,a2,by show 1 < 1000;decide,?_⟩⟩;rw [p2];have S2:Same H0 (upd H2 x (.ins C dx [(n1,y1),(n2,y2)])):=stp S1 s2;refine⟨env,F,d3,ok.same S2,e3,fun y3 H3 g3 s3 r3 c3=>⟨.ref x,h0,x,C,dx,[(n1,y1),(n2,y2)],rfl,s3 _ _ aR,hC,a3,by show 2 < 1000;decide,?_⟩⟩;rw [p3];have S3:Same H0 (upd H3 x (.ins C dx [(n1,y1),(n2,y2),(n3,y3)])):=stp S2 s3;have x1:H1 x=some (.ins C dx []):=s1 _ _ aR;have x2:H2 x=some (.ins C dx [(n1,y1)]):=s2 _ _ aR;have x3:H3 x=some (.ins C dx [(n1,y1),(n2,y2)]):=s3 _ _ aR;have hc1:=c1.2 rfl;have hc2:=c2.2 rfl;have hc3:=c3.2 rfl;have nx1:x ∉ g1:=fun z=>by have:=hc1.2 x z;rw [aR] at this;cases this
 have nx2:x ∉ g2:=fun z=>by have:=hc2.2 x z;rw [aR] at this;cases this
 have nx3:x ∉ g3:=fun z=>by have:=hc3.2 x z;rw [aR] at this;cases this
 have ku:∀ {Ha:Hp}{o o':HO}{fp:List Addr},Ha x=some o->(∀ xs,o ≠ .tup xs)->(∀ a b,o ≠ .frz a b)->x ∉ fp->Kp fp Ha (upd Ha x o'):=fun h m f n=>Kp.upd h m f n;have R1:=Rep.keep _ _ _ (ku (o':=.ins C dx [(n1,y1)]) x1 (by intro xs z;cases z) (by intro a b z;cases z) nx1) r1;have R1':=Rep.keep _ _ _ (ku (o':=.ins C dx [(n1,y1),(n2,y2)]) x2 (by intro xs z;cases z) (by intro a b z;cases z) nx1) (R1.same s2);have R1'':=Rep.keep _ _ _ (ku (o':=.ins C dx [(n1,y1),(n2,y2),(n3,y3)]) x3 (by intro xs z;cases z) (by intro a b z;cases z) nx1) (R1'.same s3);have R2:=Rep.keep _ _ _ (ku (o':=.ins C dx [(n1,y1),(n2,y2)]) x2 (by intro xs z;cases z) (by intro a b z;cases z) nx2) r2;have R2':=Rep.keep _ _ _ (ku (o':=.ins C dx [(n1,y1),(n2,y2),(n3,y3)]) x3 (by intro xs z;cases z) (by intro a b z;cases z) nx2) (R2.same s3);have R3:=Rep.keep _ _ _ (ku (o':=.ins C dx [(n1,y1),(n2,y2),(n3,y3)]) x3 (by intro xs z;cases z) (by intro a b z;cases z) nx3) r3;have d12:∀ a ∈ g1,∀ b ∈ g2,a ≠ b:=fun a ha b hb z=>by
  obtain⟨o,ho⟩:=Rep.dom _ _ _ R1 a ha;rw [z,hc2.2 b hb] at ho;cases ho
 have d13:∀ a ∈ g1,∀ b ∈ g3,a ≠ b:=fun a ha b hb z=>by
  obtain⟨o,ho⟩:=Rep.dom _ _ _ R1' a ha;rw [z,hc3.2 b hb] at ho;cases ho
 have d23:∀ a ∈ g2,∀ b ∈ g3,a ≠ b:=fun a ha b hb z=>by
  obtain⟨o,ho⟩:=Rep.dom _ _ _ R2 a ha;rw [z,hc3.2 b hb] at ho;cases ho
 refine q _ (x :: (g1 ++ (g2 ++ (g3 ++ [])))) S3 ?_ (fun b hb=>?_) ?_
 .simp only [Rep,Reps];exact⟨x,dx,[y1,y2,y3],g1 ++ (g2 ++ (g3 ++ [])),rfl,rfl,aR,rfl,y1,[y2,y3],g1,_,rfl,rfl,R1'',y2,[y3],g2,_,rfl,rfl,R2',y3,[],g3,[],rfl,rfl,R3,rfl,rfl⟩
 .rcases List.mem_cons.mp hb with z | z
  .rw [z];exact hx
  .rw [List.append_nil] at z;rcases List.mem_append.mp z with z | z
   .exact s0.free (hc1.2 b z)
   .rcases List.mem_append.mp z with z | z
    .exact S1.free (hc2.2 b z)
    .exact S2.free (hc3.2 b z)
 .rw [List.append_nil];refine List.nodup_cons.mpr ⟨fun z=>?_,List.nodup_append.mpr ⟨hc1.1,List.nodup_append.mpr ⟨hc2.1,hc3.1,d23⟩,fun a ha b hb=>?_⟩⟩
  .rcases List.mem_append.mp z with z | z
   .exact nx1 z
   .rcases List.mem_append.mp z with z | z
    .exact nx2 z
    .exact nx3 z
  .rcases List.mem_append.mp hb with z | z
   .exact d12 a ha b z
   .exact d13 a ha b z
end PD
namespace Att
open PySem PySem.W PySem.Calls PyProof.Rows
theorem lP:∀ {ns:List Int}{i:Int},i ∈ ns->WData.weight (.int i) <= WData.weightAll (ns.map WData.int)
 | [],i,h=>nomatch h
 | n :: ns,i,h=>by
  simp only [List.map_cons,WData.weightAll];rcases List.mem_cons.mp h with z | z
  .subst z;omega
  .have:=lP z;omega
theorem J5 {ns:List Int}(h:WData.layableAll [WData.list (ns.map WData.int)]=true):∀ i ∈ ns,Builtin.Int.intBits i <= 1048576:=fun i hi=>by
 simp only [WData.layableAll,List.all_cons,List.all_nil,Bool.and_true,WData.layable,Bool.and_eq_true,decide_eq_true_eq,WData.weight] at h;have h1:=lP hi;have h2:WData.weight (.int i)=Builtin.Int.intBits i:=by simp only [WData.weight,Builtin.Int.intBits]
 rw [h2] at h1;have h3:WData.weightAll (List.map WData.int ns) <= 2 ^ 20:=of_decide_eq_true h.2;exact Nat.le_trans h1 h3
theorem attach_callB {l:OpenLaw}
  (hn:l.most=some n) (hdf:d.params.defaults=[])
  (call:∀ (w:World) (s₀ s₁:Shared) (mg mb:Str->Option Value) (fa:Addr) (o:Obj) (pm cd doc:Value) (a:Addr) (vs:List Value) (ns:List Int),
   (∀ i ∈ ns,Builtin.Int.intBits i <= 1048576)->Ground q loose [] XP w s₀ mg mb s₁.heap->YP w s₁.heap ->
   s₁.heap.get? fa=some o->o.data=.func (docDef d.name d.params d.body d.scope pm cd doc)->s₁.heap.CodeRec cd d.name->mg d.name=some (.ref fa) ->
   s₁.heap.get? a=some { cls:=.type "list",data:=.seq vs.toArray }->IntsAre vs ns->ns.length <= n->s₁.gens = #[] ->
   codeAny (model l.prog w) callerA (.call (.ref fa) ⟨[.ref a],[]⟩) (fun r s'=>r=.ok (.ret (.bool true)) /\ OldK s₁.heap s'.heap /\ s'.os=s₁.os /\ AllBare s'.gens) s₁) :
  WalkO q loose XP YP l.row.toRowW d [] (fun f vs=>PySem.call f vs):=by
 intro w s₀ s₁ mg mb G Y fa o pm cd doc dV kV ho hd hcd hD hmg hg args vals as hpre hlay hrd hwl hlo;obtain rfl:dV=.none:=Dflts.none hD hdf;obtain rfl:kV=.none:=Dflts.noKw hD;obtain⟨a,vs,ns,rfl,rfl,hobj,hints,hlen⟩:=Y3 hn hpre hwl;refine enter_call (codeAny_mono (call w s₀ s₁ mg mb fa o pm cd doc a vs ns (J5 hlay) G Y ho (fd_plain hd) hcd hmg hobj hints hlen hg) fun r s' hq=>?_);obtain⟨rfl,h2,h3,h4⟩:=hq;exact⟨.inl ⟨.bool true,.bool true,[],rfl,fun _=>rfl,.bool true,Z04 l _,fun _=>⟨List.Pairwise.nil,fun _ hm=>(nomatch hm)⟩⟩,h2,h3,h4⟩
end Att
namespace PD
open PySem PySem.Spec PyProof.Rows L2
theorem jV {K:Frag}{st:Bool}:∀ (ns:List Int),Reps K st H (ns.map D.int) (ns.map V.int) []
 | []=>by simp only [List.map_nil,Reps];exact⟨trivial,trivial⟩
 | n :: ns=>by simp only [List.map_cons,Reps];exact⟨.int n,ns.map V.int,[],[],rfl,rfl,dW,jV ns⟩
noncomputable def cO (i j:Int):Prop:=0 <= j /\ (Builtin.Int.intBits i:Int) + j <= 2 ^ 27
theorem dO:OpR X (binaryOp .LShift) (rI cO fun i j=>.int (i * 2 ^ j.toNat)):=opI fun _ _ _ _ _ _ _ hc q=>PyProof.Rows.lshift_int hc.1 hc.2 q
theorem yV (h:Builtin.Int.intBits i <= n) (h0:0 <= j) (h1:(n:Int) + j <= 100000000):cO i j:=by
 have e:(2:Int) ^ 27=134217728:=by decide
 refine⟨h0,?_⟩;rw [e];omega
theorem kG (h0:0 <= j) (h1:j <= 1000000):cO 1 j:=yV (n:=64) (PySem.intBits_le_64 (by decide) (by decide)) h0 (by omega)
theorem qp (h:QE X true [] e f):QE X true [] e f:=h
open PySem PySem.Spec PyProof.Rows L2 PySem.SeqAt
section
variable {X:Cx}{pins:List (Addr × Obj)}{σ:L2.St}{H:Hp}{s:Shared}
theorem Z1I (h1:s.heap.IsTuple p xs) (h2:s.heap.IsList p ys):False:=by
 obtain⟨o,a1,a2,_⟩:=h1;obtain⟨o',b1,b2,_⟩:=h2;rw [a1] at b1;cases b1;rw [a2] at b2;exact absurd b2 (by simp)
noncomputable def zD:D->Prop
 | .obj _ _ _=>False
 | .dk _ _=>False
 | .dt _ _=>False
 | .exc _=>False
 | .fn _ _ _=>False
 | _=>True
theorem Z3s:eqN n (.obj C ns xs) x=none:=by cases n <;> cases x <;> simp only [eqN]
theorem Z4Q:eqN n (.dk ns xs) x=none:=by cases n <;> cases x <;> simp only [eqN]
theorem Z4P:eqN n (.dt ns xs) x=none:=by cases n <;> cases x <;> simp only [eqN]
theorem Z3u:eqN n (.exc C) x=none:=by cases n <;> cases x <;> simp only [eqN]
theorem Z4O:eqN n (.fn a vs ds) x=none:=by cases n <;> cases x <;> simp only [eqN]
theorem vY (e:eqN n a x=some k):zD a:=by
 cases a with
 | obj C ns xs=>rw [Z3s] at e;cases e
 | dk ns xs=>rw [Z4Q] at e;cases e
 | dt ns xs=>rw [Z4P] at e;cases e
 | exc C=>rw [Z3u] at e;cases e
 | fn _ _ _=>rw [Z4O] at e;cases e
 | _=>trivial
theorem Z14 (I:Inv X pins σ H s) {a b:D}{v:V}{f1 f2:List Addr}(ra:Rep X.K st1 H a v f1) (rb:Rep X.K st2 H b v f2) (ha:zD a) (hb:zD b) :
  a=b \/ (∃ xs ys vs g1 g2,a=.tup xs /\ b=.tup ys /\ Reps X.K st1 H xs vs g1 /\ Reps X.K st2 H ys vs g2) \/ (∃ xs ys vs g1 g2,a=.lst xs /\ b=.lst ys /\ Reps X.K st1 H xs vs g1 /\ Reps X.K st2 H ys vs g2):=by
 have tl:∀ {xs ys:List D}{st st':Bool}{v:V}{g g':List Addr},Rep X.K st H (.tup xs) v g->Rep X.K st' H (.lst ys) v g'->False:=by
  intro xs ys st st' v g g' r1 r2;simp only [Rep] at r1;obtain⟨p,vs,rfl,hs,_⟩:=r1;obtain⟨p',us,_,e,hs',_,_⟩:=bK r2;cases e;obtain⟨_,_,pl,_⟩:=I.tuple hs;obtain⟨_,_,pl2,_⟩:=I.list hs';exact Z1I pl pl2.isList
 have sc:∀ {d:D}{st:Bool}{v:V}{g:List Addr},Rep X.K st H d v g->zD d->(∀ p,v ≠ .ref p)->(d=.non /\ v=.non) \/ (∃ b,d=.bl b /\ v=.bl b) \/ (∃ i,d=.int i /\ v=.int i) \/ (∃ z,d=.str z /\ v=.str z):=by
  intro d st v g r ho hv;cases d with
  | non=>exact .inl ⟨rfl,dI r⟩
  | bl b=>exact .inr (.inl ⟨b,rfl,eB r⟩)
  | int b=>exact .inr (.inr (.inl ⟨b,rfl,bE r⟩))
  | str b=>exact .inr (.inr (.inr ⟨b,rfl,eF r⟩))
  | tup xs=>simp only [Rep] at r;obtain⟨p,_,e,_⟩:=r;exact absurd e (hv p)
  | lst xs=>obtain⟨p,_,_,e,_⟩:=bK r;exact absurd e (hv p)
  | obj _ _ _=>exact ho.elim
  | dk _ _=>exact ho.elim
  | dt _ _=>exact ho.elim
  | exc _=>exact ho.elim
  | fn _ _ _=>exact ho.elim
 by_cases hv:∃ p,v=.ref p
 .obtain⟨p,rfl⟩:=hv;cases a with
  | non=>have:=dI ra;cases this
  | bl b=>have:=eB ra;cases this
  | int b=>have:=bE ra;cases this
  | str b=>have:=eF ra;cases this
  | obj _ _ _=>exact ha.elim
  | dk _ _=>exact ha.elim
  | dt _ _=>exact ha.elim
  | exc _=>exact ha.elim
  | fn _ _ _=>exact ha.elim
  | tup xs =>
   cases b with
   | non=>have:=dI rb;cases this
   | bl b=>have:=eB rb;cases this
   | int b=>have:=bE rb;cases this
   | str b=>have:=eF rb;cases this
   | obj _ _ _=>exact hb.elim
   | dk _ _=>exact hb.elim
   | dt _ _=>exact hb.elim
   | exc _=>exact hb.elim
   | fn _ _ _=>exact hb.elim
   | lst ys=>exact (tl ra rb).elim
   | tup ys =>
    simp only [Rep] at ra rb;obtain⟨q,vs,e,hs,hr⟩:=ra;obtain⟨q',us,e',hs',hr'⟩:=rb;cases e;cases e';obtain rfl:=I.tuple_inj hs hs';exact .inr (.inl ⟨xs,ys,_,_,_,rfl,rfl,hr,hr'⟩)
  | lst xs =>
   cases b with
   | non=>have:=dI rb;cases this
   | bl b=>have:=eB rb;cases this
   | int b=>have:=bE rb;cases this
   | str b=>have:=eF rb;cases this
   | obj _ _ _=>exact hb.elim
   | dk _ _=>exact hb.elim
   | dt _ _=>exact hb.elim
   | exc _=>exact hb.elim
   | fn _ _ _=>exact hb.elim
   | tup ys=>exact (tl rb ra).elim
   | lst ys =>
    obtain⟨q,vs,_,e,hs,hr,_⟩:=bK ra;obtain⟨q',us,_,e',hs',hr',_⟩:=bK rb;cases e;cases e';obtain rfl:=I.list_inj hs hs';exact .inr (.inr ⟨xs,ys,_,_,_,rfl,rfl,hr,hr'⟩)
 .have hv':∀ p,v ≠ .ref p:=fun p e=>hv ⟨p,e⟩;left;rcases sc ra ha hv' with ⟨rfl,h⟩ | ⟨b',rfl,h⟩ | ⟨i,rfl,h⟩ | ⟨z,rfl,h⟩ <;> rcases sc rb hb hv' with ⟨rfl,k⟩ | ⟨b'',rfl,k⟩ | ⟨j,rfl,k⟩ | ⟨y,rfl,k⟩ <;> first | rfl | (have z:=h.symm.trans k;cases z;rfl) | (have z:=h.symm.trans k;cases z;done)
theorem Z2d (I:Inv X pins σ H s):∀ (n:Nat) (a b x:D) (v:V) (f1 f2:List Addr) (k k':Bool),Rep X.K st1 H a v f1->Rep X.K st2 H b v f2->eqN n a x=some k->eqN n b x=some k'->k=k':=by
 intro n
 induction n with
 | zero=>intro a b x v f1 f2 k k' _ _ e;simp [eqN] at e
 | succ n ih =>
  have seq:∀ (xs ys zs:List D) (vs:List V) (f1 f2:List Addr) (k k':Bool),Reps X.K st1 H xs vs f1->Reps X.K st2 H ys vs f2->eqL (eqN n) xs zs=some k->eqL (eqN n) ys zs=some k'->k=k':=by
   intro xs
   induction xs with
   | nil =>
    intro ys zs vs f1 f2 k k' r1 r2 e e';have l1:=r1.length;have l2:=r2.length;have:ys=[]:=by rw [<- List.length_eq_zero_iff,<- l2,l1];rfl
    subst this;rw [e] at e';cases e';rfl
   | cons x xs ihx =>
    intro ys zs vs f1 f2 k k' r1 r2 e e';cases ys with
    | nil =>
     have l1:=r1.length;have l2:=r2.length;rw [l1] at l2;simp at l2
    | cons y ys =>
     cases zs with
     | nil=>simp only [eqL] at e e';cases e;cases e';rfl
     | cons z zs =>
      simp only [Reps] at r1 r2;obtain⟨v,us,g1,g2,rfl,_,a1,a2⟩:=r1;obtain⟨v',us',g3,g4,e0,_,b1,b2⟩:=r2;cases e0;simp only [eqL] at e e';split at e
      .rename_i c d h1 h2;cases e;split at e'
       .rename_i c' d' h1' h2';cases e';rw [ih _ _ _ _ _ _ _ _ a1 b1 h1 h1',ihx _ _ _ _ _ _ _ a2 b2 h2 h2']
       .cases e'
      .cases e
  intro a b x v f1 f2 k k' ra rb e e';have ha:=vY e;have hb:=vY e';rcases Z14 I ra rb ha hb with rfl | ⟨xs,ys,vs,g1,g2,rfl,rfl,r1,r2⟩ | ⟨xs,ys,vs,g1,g2,rfl,rfl,r1,r2⟩
  .rw [e] at e';cases e';rfl
  .have l1:=r1.length;have l2:=r2.length;cases x with
   | tup zs =>
    simp only [eqN] at e e';cases h1:eqL (eqN n) xs zs with
    | none=>rw [h1] at e;cases e
    | some c =>
     cases h2:eqL (eqN n) ys zs with
     | none=>rw [h2] at e';cases e'
     | some c' =>
      rw [h1] at e;rw [h2] at e';cases e;cases e';rw [seq _ _ _ _ _ _ _ _ r1 r2 h1 h2,<- l1,<- l2]
   | non=>simp only [eqN] at e e';cases e;cases e';rfl
   | _=>simp only [eqN] at e;cases e
  .have l1:=r1.length;have l2:=r2.length;cases x with
   | lst zs =>
    simp only [eqN] at e e';by_cases hl:vs.length=zs.length
    .rw [if_pos (by omega)] at e e';exact seq _ _ _ _ _ _ _ _ r1 r2 e e'
    .rw [if_neg (by omega)] at e e';cases e;cases e';rfl
   | non=>simp only [eqN] at e e';cases e;cases e';rfl
   | _=>simp only [eqN] at e;cases e
end
noncomputable def inD (x:D):List D->Option Bool
 | []=>some false
 | y :: ys=>match eqN 8 y x,inD x ys with
  | some a,some b=>some (a || b)
  | _,_=>none
theorem V3:∀ {ys:List D}{k:Bool},inD x ys=some k->(∀ (i:Nat) (y:D),ys[i]? = some y->∃ c,eqN 8 y x=some c) /\ (k=true ↔ ∃ (i:Nat) (y:D),ys[i]? = some y /\ eqN 8 y x=some true)
 | [],k,h=>by simp only [inD] at h;cases h;exact⟨fun i y e=>by simp at e,by simp⟩
 | y :: ys,k,h=>by
  simp only [inD] at h;split at h
  .rename_i a b h1 h2;cases h;obtain⟨g1,g2⟩:=V3 h2;refine⟨fun i z e=>?_,?_⟩
   .cases i with
    | zero=>simp at e;subst e;exact⟨a,h1⟩
    | succ i=>exact g1 i z (by simpa using e)
   .rw [Bool.or_eq_true,g2];constructor
    .rintro (z | ⟨i,z,e1,e2⟩)
     .exact⟨0,y,rfl,by rw [h1,z]⟩
     .exact⟨i + 1,z,by simpa using e1,e2⟩
    .rintro⟨i,z,e1,e2⟩;cases i with
     | zero=>simp at e1;subst e1;rw [h1] at e2;cases e2;exact .inl rfl
     | succ i=>exact .inr ⟨i,z,by simpa using e1,e2⟩
  .cases h
section
theorem Z24 (I:Inv X pins σ H s) {A:Around}{x:D}{ys:List D}{v:V}{vs:List V}{u:Value}{its:List Value}{f g:List Addr}{k:Bool}(hu:A.units + 8 <= cLine) (rx:Rep X.K st1 H x v f) (rv:RelV v u) (r:Reps X.K st2 H ys vs g) (w:Vals vs its) (h:inD x ys=some k) :
  ∃ e:Value->Bool,(∀ y ∈ its,EqAt A s y u (e y)) /\ its.any e=k:=by
 obtain⟨h1,h2⟩:=V3 h
 classical
 have at_:∀ (i:Nat) (y:Value),its[i]? = some y->∃ (z:D) (vz:V) (fz:List Addr),ys[i]? = some z /\ Rep X.K st2 H z vz fz /\ RelV vz y:=by
  intro i y e;have hi:i < its.length:=(List.getElem?_eq_some_iff.mp e).1;have l1:=r.length;have l2:=w.length;have hy:i < ys.length:=by omega
  obtain⟨vz,fz,a1,a2,_⟩:=r.get (List.getElem?_eq_getElem hy);obtain⟨y',c1,c2⟩:=w.get a1;rw [e] at c1;cases c1;exact⟨_,vz,fz,List.getElem?_eq_getElem hy,a2,c2⟩
 let e:Value->Bool:=fun y=>decide (∃ (i:Nat) (z:D),its[i]? = some y /\ ys[i]? = some z /\ eqN 8 z x=some true)
 have key:∀ (i:Nat) (y:Value) (z:D) (c:Bool),its[i]? = some y->ys[i]? = some z->eqN 8 z x=some c->e y=c:=by
  intro i y z c a1 a2 a3;by_cases hh:∃ (i:Nat) (z:D),its[i]? = some y /\ ys[i]? = some z /\ eqN 8 z x=some true
  .have:e y=true:=decide_eq_true hh;rw [this];obtain⟨j,z',b1,b2,b3⟩:=hh;obtain⟨z1,v1,g1,c1,c2,c3⟩:=at_ i y a1;obtain⟨z2,v2,g2,d1,d2,d3⟩:=at_ j y b1;rw [a2] at c1;cases c1;rw [b2] at d1;cases d1;have hvv:v1=v2:=RelV.inj c3 d3;subst hvv;exact (Z2d I 8 _ _ _ _ _ _ _ _ d2 c2 b3 a3)
  .have:e y=false:=decide_eq_false hh;rw [this];cases c with
   | false=>rfl
   | true=>exact absurd ⟨i,z,a1,a2,a3⟩ hh
 refine⟨e,fun y hy=>?_,?_⟩
 .obtain⟨i,hi⟩:=List.getElem?_of_mem hy;obtain⟨z,vz,g,c1,c2,c3⟩:=at_ i y hi;obtain⟨c,hc⟩:=h1 i z c1;rw [key i y z c hi c1 hc];exact (Z2c I 8 A z x vz v y u g f c hu c2 rx c3 rv hc).1
 .rw [Bool.eq_iff_iff,List.any_eq_true,h2];constructor
  .rintro⟨y,hy,he⟩;have:=of_decide_eq_true he;obtain⟨i,z,_,a2,a3⟩:=this;exact⟨i,z,a2,a3⟩
  .rintro⟨i,z,a2,a3⟩;have l1:=r.length;have l2:=w.length;have hi:i < its.length:=by have:=(List.getElem?_eq_some_iff.mp a2).1;omega
   exact⟨its[i],List.getElem_mem hi,by rw [key i _ z true (List.getElem?_eq_getElem hi) a2 a3]⟩
end
section
noncomputable def inF:D->D->Option Bool
 | x,.lst ys=>inD x ys
 | x,.tup ys=>inD x ys
 | .str i,.str j=>some (!(Builtin.Str.occurrences j i 0 j.length 1).isEmpty)
 | _,_=>none
noncomputable def fIn (fa fb:En->Option D):En->Option Bool:=fun env=>match fa env,fb env with
 | some x,some y=>inF x y
 | _,_=>none
noncomputable def Z6p (neg:Bool) (K:Frag):R2:=fun v u H Q=>∃ a b f1 f2 k st1 st2,Rep K st1 H a v f1 /\ Rep K st2 H b u f2 /\ inF a b=some k /\ Q (.bl (if neg then !k else k)) H
theorem Z08 (hu:X.A.units + 9 <= cLine):OpR X (compareOp .NotIn) (Z6p true X.K):=by
 rintro pins s σ H x y v u Q I rx ry ⟨a,b,f1,f2,k,st1,st2,r1,r2,e,q⟩;cases b with
 | lst ys =>
  obtain⟨p,vs,_,rfl,hs,hr,_⟩:=bK r2;cases ry;obtain⟨its,w,pl,hz⟩:=I.list hs;obtain⟨ee,h1,h2⟩:=Z24 (A:=X.A.in1) I (by rw [qR];omega) r1 rx hr w (show inD a ys=some k from e)
  refine SeqAt.notIn_listAt ee pl.isList (fun y hy=>h1 y (by simpa using hy)) ⟨.bl _,H,I,rfl,?_⟩;rw [show its.toArray.any ee=its.any ee by simp,h2];exact q
 | tup ys =>
  simp only [Rep] at r2;obtain⟨p,vs,rfl,hs,hr⟩:=r2;cases ry;obtain⟨its,w,pl,hz⟩:=I.tuple hs;obtain⟨ee,h1,h2⟩:=Z24 (A:=X.A.in1) I (by rw [qR];omega) r1 rx hr w (show inD a ys=some k from e)
  refine SeqAt.notIn_tupleAt ee pl (fun y hy=>h1 y (by simpa using hy)) ⟨.bl _,H,I,rfl,?_⟩;rw [show its.toArray.any ee=its.any ee by simp,h2];exact q
 | str j =>
  cases a with
  | str i =>
   have e1:=eF r1;have e2:=eF r2;subst e1 e2;have e3:k=_:=(Option.some.inj e).symm;subst e3;exact xY pins s σ H _ _ v u Q I rx ry ⟨i,j,rfl,rfl,q⟩
  | _=>simp only [inF] at e;cases e
 | _=>cases a <;> (simp only [inF] at e;cases e)
theorem F9 (e:fIn fa fb env=some bb):∃ x y,fa env=some x /\ fb env=some y /\ inF x y=some bb:=by
 unfold fIn at e;split at e
 .rename_i x y h1 h2;exact⟨x,y,h1,h2,e⟩
 .cases e
theorem A8 (hu:X.A.units + 9 <= cLine) (ha:QE X m1 rs1 a fa) (hb:QE X m2 rs2 b fb) (hm:behindInMarks .NotIn b=false:=by with_unfolding_all rfl):QT X (.Compare a [.NotIn] [b] pos) (cR (fIn fa fb)) :=
 qG (Z08 hu) ha hb hm (fun env x y K H v u f1 f2 Q bb e ea eb r1 r2 hK q=>by
  subst hK;unfold cR at e;cases h:fIn fa fb env with
  | none=>rw [h] at e;cases e
  | some k =>
   rw [h] at e;cases e;obtain⟨x',y',h1,h2,h3⟩:=F9 h;rw [ea] at h1;rw [eb] at h2;cases h1;cases h2;exact⟨x,y,f1,f2,k,_,_,r1,r2,h3,q⟩) fun env bb e=>by
  unfold cR at e;cases h:fIn fa fb env with
  | none=>rw [h] at e;cases e
  | some k=>obtain⟨x,y,h1,h2,_⟩:=F9 h;exact⟨x,y,h1,h2⟩
theorem Z3F (r:Room k A):A.units + 9 <= cLine:=by have:=r.un;omega
theorem Z4k (ha:QE X m1 rs1 a fa):QE X m rs (.Compare a [.Is] [.Constant .none j pos'] pos) (hU (lM false fa)) :=
 .mk (rZ Z1B ha (mD (m:=false) (rs:=[])) (gE _)) fun σ H Q ⟨env,F,d,ok,e,q⟩=>by
  unfold hU lM at e;cases h:fa env with
  | none=>rw [h] at e;cases e
  | some x =>
   rw [h] at e;refine two (fb:=fC .non) ok h rfl fun v u H' f1 f2 s r1 r2 _ _=>⟨dI r2,?_⟩;cases x with
   | non=>cases e;rw [dI r1];exact q _ _ _ s jE .nil
   | _=>cases e;rw [decide_eq_false (oH r1 (by intro z;cases z))];exact q _ _ _ s jE .nil
end
noncomputable def whD (c:En->Option Bool) (g:En->Res):Nat->En->Res
 | 0,_=>.bad
 | n + 1,env=>match c env with
  | some false=>.next env
  | some true=>match g env with
   | .next e=>whD c g n e
   | .cont e=>whD c g n e
   | .brk e=>.next e
   | .ret d=>.ret d
   | .bad=>.bad
  | none=>.bad
theorem sH:∀ {n:Nat}{env:En},whD c g n env ≠ .bad->whD c g (n + 1) env=whD c g n env
 | 0,env,h=>absurd rfl h
 | n + 1,env,h=>by
  unfold whD at h ⊢;cases hc:c env with
  | none=>rfl
  | some b =>
   cases b with
   | false=>rfl
   | true =>
    rw [hc] at h;simp only at h ⊢;cases hg:g env with
    | next e=>rw [hg] at h;exact sH h
    | cont e=>rw [hg] at h;exact sH h
    | brk e=>rfl
    | ret d=>rfl
    | bad=>rfl
theorem K6 (h:whD c g n env ≠ .bad):∀ k,whD c g (n + k) env=whD c g n env
 | 0=>rfl
 | k + 1=>by
  have ih:=K6 h k;rw [show n + (k + 1)=n + k + 1 by omega,sH (by rw [ih];exact h),ih]
theorem Z2r (h:whD c g n env ≠ .bad) (h':whD c g m env ≠ .bad):whD c g n env=whD c g m env:=by
 by_cases hl:n <= m
 .have:=K6 h (m - n);rw [show n + (m - n)=m by omega] at this;exact this.symm
 .have:=K6 h' (n - m);rw [show m + (n - m)=n by omega] at this;exact this
open Classical in
noncomputable def rWh (c:En->Option Bool) (g:En->Res):En->Res:=fun env=>if h:∃ n,whD c g n env ≠ .bad then whD c g (Classical.choose h) env else .bad
theorem Z16 (h:whD c g n env ≠ .bad):rWh c g env=whD c g n env:=by
 unfold rWh;have hh:∃ n,whD c g n env ≠ .bad:=⟨n,h⟩;rw [dif_pos hh];exact Z2r (Classical.choose_spec hh) h
section
theorem Z1b (hp:PassesOwn (model X.prog X.w) X.A X.env X.xe) (hc:QT X c c') (hb:QSs X body g):QS X (.While c body [] pos) (rWh c' g) :=
 .mk (Z1p hp hc hb) fun E σ H ⟨P,env,I,q⟩=>by
  by_cases hh:∃ n,whD c' g n env ≠ .bad
  .obtain⟨n,hn⟩:=hh;rw [Z16 hn] at q;refine⟨fun m σ' H'=>∃ env',SInv X.K P H' σ' env' /\ K3 X.K P E (whD c' g m env'),⟨n,env,I,q⟩,?_⟩;rintro m σ' H' ⟨env',I',q'⟩;cases m with
   | zero=>exact q'.elim
   | succ m =>
    obtain⟨F,hF⟩:=I'.ex;unfold whD at q';cases hc':c' env' with
    | none=>rw [hc'] at q';exact q'.elim
    | some b =>
     rw [hc'] at q';refine⟨env',F,b,hF.ok,hc',fun H1 s1=>?_⟩;cases b with
     | false=>exact q' σ' H1 (I'.grow s1)
     | true =>
      simp only at q';refine⟨fun σ2 H2=>∃ env2,SInv X.K P H2 σ2 env2 /\ K3 X.K P E (whD c' g m env2),fun σ2 H2 ⟨env2,I2,q2⟩=>⟨m,Nat.lt_succ_self _,env2,I2,q2⟩,P,env',I'.grow s1,?_⟩;cases hg:g env' with
      | next e2=>rw [hg] at q';exact fun σ4 H4 I4=>⟨e2,I4,q'⟩
      | cont e2=>rw [hg] at q';exact fun σ4 H4 I4=>⟨e2,I4,q'⟩
      | brk e2=>rw [hg] at q';exact fun σ4 H4 I4=>q' σ4 H4 I4
      | ret d=>rw [hg] at q';exact q'
      | bad=>rw [hg] at q';exact q'.elim
  .unfold rWh at q;rw [dif_neg hh] at q;exact q.elim
end
section
noncomputable def jQ:List D->Option (List Bool)
 | []=>some []
 | .bl x :: r=>(jQ r).map (x :: ·)
 | _ :: _=>none
theorem uK {K:Frag}{st:Bool}{H:Hp}:∀ {ds:List D}{ys:List Bool}{vs:List V}{fp:List Addr},jQ ds=some ys->Reps K st H ds vs fp->vs=ys.map V.bl
 | [],ys,vs,fp,e,r=>by simp only [jQ] at e;cases e;simp only [Reps] at r;rw [r.1];rfl
 | d :: ds,ys,vs,fp,e,r=>by
  simp only [Reps] at r;obtain⟨v,us,f1,f2,rfl,rfl,r1,r2⟩:=r;cases d with
  | bl x =>
   simp only [jQ] at e;cases h:jQ ds with
   | none=>rw [h] at e;cases e
   | some zs =>
    rw [h] at e;cases e;rw [eB r1,uK h r2];rfl
  | _=>simp only [jQ] at e;cases e
theorem G9:∀ {ys:List Bool}{us:List Value},Vals (ys.map V.bl) us->us=ys.map Value.bool
 | [],_,.nil=>rfl
 | y :: ys,_,.cons r w=>by cases r;rw [G9 w];rfl
theorem Z3 (ys:List Bool):((List.range ys.length).all fun i=>ys.getD i true)=ys.all id:=by
 rw [Bool.eq_iff_iff,List.all_eq_true,List.all_eq_true];constructor
 .intro h y hy;obtain⟨i,hi⟩:=List.getElem?_of_mem hy;have:=h i (by simpa using (List.getElem?_eq_some_iff.mp hi).1);simpa [List.getD,hi] using this
 .intro h i hi;have hi':i < ys.length:=by simpa using hi
  have:=h ys[i] (List.getElem_mem hi');simpa [List.getD,hi'] using this
theorem Z0H (hc:X.calm=true):CallR X (.builtin "all") (fun vs H Q=>∃ (a:Addr) (ys:List Bool),vs=[.ref a] /\ SqL X.K H a (ys.map V.bl) /\ Q (.bl (ys.all id)) H):=fun pins s σ H xs us Q I w h=>by
 obtain⟨a,ys,rfl,hs,q⟩:=h;obtain⟨u,rfl,r⟩:=nQ w;cases (show u=Value.ref a from r)
 obtain⟨its,w1,pl,_⟩:=I.list hs;have hb:=G9 w1;subst hb;have hl:=pl.isList;obtain⟨o,ho,_⟩:=id hl;have hlt:a ≠ s.heap.objs.size:=Nat.ne_of_lt (Heap.lt_size ho);refine call_all_walk (wpAny_pyIter_list hl ?_);refine⟨s.heap.objs.size,_,_,_,_,_,fun i=>ys.getD i true,rfl,Walks.list (A:=X.A.in1) (I.ok.hd hc) s.heap.objs.size a hlt (ys.map Value.bool).toArray,⟨⟨_,Heap.get?_push_size _ rfl,rfl,rfl⟩,hl.at fun o e=>Heap.get?_push_of_some _ e⟩,?_,fun h' tk hk=>?_⟩
 .intro i v s' Q' E' hv hq;have hv':(ys.map Value.bool)[i]? = some v:=by simpa using hv
  rw [List.getElem?_map] at hv';cases hy:ys[i]? with
  | none=>rw [hy] at hv';cases hv'
  | some y =>
   rw [hy] at hv';cases hv';have hq':Q' y s':=by simpa [List.getD,hy] using hq
   exact wpAny_truthy_bool hq'
 .have hk':∀ b o,s.heap.get? b=some o->h'.get? b=some o:=fun b o e=>hk b o (fun hm=>by
   have:b=s.heap.objs.size:=by simpa using hm
   exact absurd (Heap.lt_size e) (by rw [this];exact Nat.lt_irrefl _)) (Heap.get?_push_of_some _ e)
  refine⟨.bl (ys.all id),H,I.kept hk',?_,q⟩;have e1:=Z3 ys;show Value.bool _=Value.bool _;rw [<- e1];simp
noncomputable def Z3D:List D->Option D
 | [.lst ds]=>(jQ ds).map fun ys=>.bl (ys.all id)
 | _=>none
theorem Z4m (hcm:X.calm=true) (hg:Gl X "all") (hm:X.mg "all" = none) (ha:QE X m1 rs1 a fa) (he:starEach [a] X.env=(false,eval a X.env) :: starEach [] X.env:=by rfl) (hpl:(backTo pos (starEach [] X.env)).any (·.1)=false:=by rfl) :
  QE X m rs (.Call (.Name "all" p) [a] [] pos) (fun env=>(aB fa aH env).bind Z3D) :=
 jZ (Z0H hcm) hg hm PyProof.Rows.boot_all (aD ha bG he) (fun ds d vs H fp Q e r q=>by
  unfold Z3D at e;split at e
  .rename_i ds';cases hq:jQ ds' with
   | none=>rw [hq] at e;cases e
   | some ns =>
    rw [hq] at e;cases e;obtain⟨v,rfl,r1⟩:=iL r;obtain⟨p,ws,fp',rfl,hsq,hr,hsub⟩:=bK r1;rw [uK hq hr] at hsq;exact⟨p,ns,rfl,hsq,q _ _ [] (Same.refl H) jE (fun b hb=>(by cases hb)) List.nodup_nil⟩
  .cases e) (he:=he) (hpl:=hpl)
end
section
end
noncomputable def esK:List (Str × Int)->List DictEntry->Prop
 | [],[]=>True
 | p :: kvs,e :: es=>((∃ t,e.key=.str p.1 t) /\ ∃ t,e.val=.int p.2 t) /\ esK kvs es
 | _,_=>False
structure Z6B (K:Frag) (P:Params) (mg:Str->Option Value) (name:Str) (kvs:List (Str × Int)):Prop where
 ex:∃ a es n,mg name=some (.ref a) /\ K.lookup a=some ⟨.type "dict",none,.dict es n,#[]⟩ /\ PySem.W.KeysLit P es.toList /\ (a == sysModules)=false /\ esK kvs es.toList
section
end
structure Z6D (K:Frag) (C:Addr):Prop where
 cl:Cls K C
 ha:PySem.W.findIn K (.ref C) "__class__" = some (some (.builtin "object.__class__"))
 hn:PySem.W.specialIn K (.builtin "object.__class__") "__get__" = some (some (.builtin "getset_descriptor.__get__"))
 htk:PySem.W.takesIn K (.builtin "object.__class__")=some true
 hm:PySem.W.mroIn K C (.type "object")=some true
open Classical in
section
end
section
variable {X:Cx}{m m1:Bool}{rs rs1:List Nat}{e:Expr}{f:En->Option D}{p pos pos' bpos:Pos}{x y:Str}{i j:Nat}
noncomputable def kP (j i:Nat) (f:En->Option D):En->Res:=fun env=>match env[i]?,f env with
 | some (some (true,.lst xs)),some (.lst ys)=>if flats xs=true /\ xs.length + ys.length <= 1000 then .next (env.set j (some (true,.lst (xs ++ ys)))) else .bad
 | _,_=>.bad
theorem Z2h {K:Frag}{P H:Hp}{σ:L2.St}{env:En}{F:Nat->List Addr}{xs ys:List D}{Q:VK}(hF:EnvS K P H σ env F) (ei:env[i]? = some (some (true,.lst xs))) (ef:f env=some (.lst ys)) (hx:flats xs=true) (hl:xs.length + ys.length <= 1000)
  (q:∀ v H' fp,Same H H'->Rep K true H' (.lst (xs ++ ys)) v fp->fp.Nodup->(∀ b ∈ fp,H b=none)->Q v H'):∃ v,σ[i]? = some (some v) /\ tD K true [] f σ H fun u H2=>Z5q v u H2 Q:=by
 obtain⟨v,hv1,_⟩:=hF.ok i true _ ei;obtain⟨a1,a2,a3,a4⟩:=hF.own i _ ei;obtain⟨a,vs,g1,rfl,eg,ha,hr⟩:=jW (a3 v hv1);obtain⟨rfl,hr0⟩:=Reps.flat _ _ _ hx hr;refine⟨.ref a,hv1,env,F,.lst ys,hF.ok,ef,fun u H2 f2 s2 r2 c2=>?_⟩;obtain⟨b,us,g2,rfl,rfl,hb,hr2⟩:=jW r2;have hc2:=c2.2 rfl;refine⟨a,b,vs,us,rfl,rfl,s2 _ _ ha,hb,pC (by rw [hr.length,hr2.length];exact hl),fun p hp=>?_⟩;have hr3:Reps K true H2 (xs ++ ys) (vs ++ us) ([] ++ g2):=((hr0 true).same s2).append hr2;rw [List.nil_append] at hr3;refine q _ _ (p :: g2) (s2.trans (bS hp)) (oN hp hr3) ?_ fun c hc=>?_
 .refine List.nodup_cons.mpr ⟨fun z=>?_,(List.nodup_cons.mp hc2.1).2⟩;obtain⟨o,ho⟩:=Reps.dom _ _ _ hr2 p z;rw [hp] at ho;cases ho
 .rcases List.mem_cons.mp hc with z | z
  .rw [z];exact s2.free hp
  .exact hc2.2 c (List.mem_cons_of_mem _ z)
theorem vX (j i:Nat) (hNd:X.N.Nodup) (hj:X.N[j]? = some y) (hy:Loc X.env.scope y) (he:QE X true [] e f) (hN:X.N[i]? = some x:=by rfl) (hv:Vis X.env.scope x:=by first | exact Or.inl rfl | exact Or.inr (Or.inl rfl) | exact Or.inr (Or.inr rfl)) (hd:(x == ("__debug__" : Str))=false:=by decide) (hcd:(x == ("__classdict__" : Str))=false:=by decide)
  (hs:swapsWith (.BinOp (.Name x p) .Add e bpos) (some (.Name y pos')) pos.line X.env=pure false:=by rfl) (hf:X.fn y=true \/ X.env.scope.names.lookup y=some .local:=by first | exact .inl rfl | exact .inr rfl | assumption) :
  QS X (.Assign [.Name y pos'] (.BinOp (.Name x p) .Add e bpos) pos) (kP j i f):=.mk (N1 hNd hj hy (L2.pe_op Z4B (gD hN hv hd hcd) he) hs hf) fun E σ H ⟨P,env,I,q⟩=>by
 obtain⟨F,hF⟩:=I.ex;unfold kP at q;split at q
 .rename_i xs ys ei ef;split at q
  .rename_i h;exact Z2h hF.nrm ei ef h.1 h.2 fun v H' fp s r nd fr=>q _ _ (mW j I.same I.len hF.nrm s r nd fr)
  .exact q.elim
 .exact q.elim
end
section
end
noncomputable def Itd (lo:Int) (n:Nat):It:=⟨fun i _=>i < n,fun i H x H'=>H'=H /\ x=.int (lo - i),fun i _=>n <= i⟩
theorem X4 {K:Frag}(it:Addr) (lo:Int) (n:Nat):zC P w K tg (Itd lo n) [it] it (fun i h=>IsRangeIter h it (lo + (i:Nat) * (-1)) ((n:Int) - (i:Nat)) (-1)) where
 mem:=by simp
 obj:=fun i h st b hb=>by
  have e:b=it:=by simpa using hb
  subst e;exact⟨_,st,fun v z=>by
   have z':Data.fields _=Data.cell v:=z;cases z'⟩
 keep:=fun i h h' st k=>k it (by simp) _ st
 item:=by
  intro X hP hw hK hc i pins s σ H E I hf st hg;subst hP hw hK;obtain⟨f0,f1,f2,f3,f4,f5⟩:=hf it (by simp);have W:=Walks.range (prog:=X.prog) (w:=X.w) (I.ok.hd hc) it lo (-1) n;refine W.item i s _ _ hg st fun v h' tk hv st' kk=>?_;obtain⟨t,rfl⟩:=hv;have I1:Inv X pins σ H { s with heap:=h',toks:=tk }:=I.turned (fun b o hb e=>kk b o (by simpa using hb) e) f0 f1 f3 f4 f5;refine⟨_,rfl,E4 (s:={ s with heap:=h',toks:=tk }) (n := "range_iterator") st' rfl rfl (by decide) ⟨.int (lo - i),H,I1,⟨t,?_⟩,⟨rfl,rfl⟩,st',fun b hb=>(hf b hb).1⟩⟩;rw [show lo + (i:Int) * -1=lo - i by omega]
 done:=by
  intro X hP hw hK hc i pins s σ H E I hf st hg;subst hP hw hK;obtain⟨f0,f1,f2,f3,f4,f5⟩:=hf it (by simp);exact wpAny_pyNext_range_end (I.ok.hd hc) st (by have:n <= i:=hg;omega) fun h' eb=>⟨rfl,I.turned (t':=s.toks) (fun b o hb e=>eb b o hb e) f0 f1 f3 f4 f5⟩
 self:=fun _ _ _ _ _ st h=>wpAny_pyIter_rangeiter st h
section
end
theorem P7 {K:Frag}(lo:Int) (n:Nat):uO K (Itd lo n) H0 ((List.range n).map fun (k:Nat)=>.int (lo - (k:Int))) []:=fun H k i=>by
 refine⟨fun d hd=>?_,fun hl=>(show n <= i by simpa using hl)⟩;rw [List.getElem?_map] at hd;cases hdd:(List.range n)[i]? with
 | none=>rw [hdd] at hd;cases hd
 | some j =>
  rw [hdd] at hd;cases hd;obtain⟨hlt,e⟩:=List.getElem?_eq_some_iff.mp hdd;rw [List.getElem_range] at e;subst e;refine⟨(show i < n by simpa using hlt),fun x H' y=>?_⟩;obtain⟨rfl,rfl⟩:=y;exact⟨Same.refl _,[],dW,fun b hb=>hb⟩
section
end
theorem fN:∀ {a b:List Int},a.Perm b->a.Pairwise (· <= ·)->b.Pairwise (· <= ·)->a=b
 | [],b,p,_,_=>(List.nil_perm.mp p).symm
 | x :: a,[],p,_,_=>by have:=p.length_eq;simp at this
 | x :: a,y :: b,p,h1,h2=>by
  have hx:x ∈ y :: b:=p.mem_iff.mp List.mem_cons_self;have hy:y ∈ x :: a:=p.mem_iff.mpr List.mem_cons_self;have e1:y <= x:=by
   rcases List.mem_cons.mp hx with z | z
   .omega
   .exact (List.pairwise_cons.mp h2).1 x z
  have e2:x <= y:=by
   rcases List.mem_cons.mp hy with z | z
   .omega
   .exact (List.pairwise_cons.mp h1).1 y z
  have e:x=y:=by omega
  subst e;rw [fN (List.Perm.cons_inv p) (List.pairwise_cons.mp h1).2 (List.pairwise_cons.mp h2).2]
noncomputable def P4 (x:Int):List Int->List Int
 | []=>[x]
 | y :: r=>if x <= y then x :: y :: r else y :: P4 x r
noncomputable def lJ:List Int->List Int
 | []=>[]
 | x :: r=>P4 x (lJ r)
theorem qQ (x:Int):∀ r:List Int,(P4 x r).Perm (x :: r)
 | []=>.refl _
 | y :: r=>by
  unfold P4;split
  .exact .refl _
  .exact ((qQ x r).cons y).trans (.swap x y r)
theorem rG (x:Int):∀ r:List Int,r.Pairwise (· <= ·)->(P4 x r).Pairwise (· <= ·)
 | [],_=>by simp [P4]
 | y :: r,h=>by
  obtain⟨h1,h2⟩:=List.pairwise_cons.mp h;unfold P4;split
  .rename_i hxy;refine List.pairwise_cons.mpr ⟨fun z hz=>?_,h⟩;rcases List.mem_cons.mp hz with e | e
   .omega
   .have:=h1 z e;omega
  .rename_i hxy;refine List.pairwise_cons.mpr ⟨fun z hz=>?_,rG x r h2⟩;have hz':=(qQ x r).mem_iff.mp hz;rcases List.mem_cons.mp hz' with e | e
   .omega
   .exact h1 z e
theorem fZ:∀ r:List Int,(lJ r).Perm r
 | []=>.refl _
 | x :: r=>(qQ x (lJ r)).trans ((fZ r).cons x)
theorem gU:∀ r:List Int,(lJ r).Pairwise (· <= ·)
 | []=>.nil
 | x :: r=>rG x _ (gU r)
noncomputable def sD:List D->Option D
 | [.lst ds]=>match kC ds with
  | some ns=>if ns.length < 64 then some (.lst ((lJ ns).map .int)) else none
  | none=>none
 | _=>none
section
theorem jS (h:IntsAre its ns):Vals (ns.map V.int) its:=by
 induction h with
 | nil=>exact .nil
 | cons n t h ih=>exact .cons ⟨t,rfl⟩ ih
theorem yY:CallR X (.builtin "sorted") (fun vs H Q=>∃ (a:Addr) (ns:List Int),vs=[.ref a] /\ SqL X.K H a (ns.map V.int) /\ ns.length < 64 /\ ∀ l,H l=none->Q (.ref l) (upd H l (.lst ((lJ ns).map V.int)))):=fun pins s σ H xs us Q I w h=>by
 obtain⟨a,ns,rfl,hs,h64,q⟩:=h;obtain⟨u,rfl,r⟩:=nQ w;cases (show u=Value.ref a from r)
 obtain⟨its,w1,pl,hz⟩:=I.list hs;have hi:=oP w1;have hlen:=w1.length;have hlen2:=IntsAre.length hi;refine sorted_ints pl.isList hi (by omega) fun out ns' a1 a2 a3=>?_;obtain⟨e,he⟩:=sortedAll_at s.heap its out;have hns:ns'=lJ ns:=fN (a2.trans (fZ ns).symm) a3 (gU ns);subst hns;refine⟨.ref (s.heap.objs.size + 1),_,I.laid (t':=s.toks) (fun b u e=>sortedAll_old e) (Nat.le_succ _) (show ObjOk X.prog X.w _ _ _ (.lst ((lJ ns).map V.int)) from ⟨?_,out.toList,e,jS a1,?_⟩),rfl,q _ (I.hok.fresh (Nat.le_succ _))⟩
 .have:=a2.length_eq;rw [List.length_map,this];rw [List.length_map] at hz;exact hz
 .rw [Array.toArray_toList];exact he
theorem rM:bootBuiltins "sorted" = some (.builtin "sorted"):=by decide +kernel
theorem Z01 (hg:Gl X "sorted") (hm:X.mg "sorted" = none) (ha:QE X m1 rs1 a fa) (he:starEach [a] X.env=(false,eval a X.env) :: starEach [] X.env:=by rfl) (hpl:(backTo pos (starEach [] X.env)).any (·.1)=false:=by rfl) :
  QE X m rs (.Call (.Name "sorted" p) [a] [] pos) (fB1 sD (aB fa aH)) :=
 jZ yY hg hm rM (aD ha bG he) (fun ds d vs H fp Q e r q=>by
  unfold sD at e;split at e
  .rename_i ds';cases hq:kC ds' with
   | none=>rw [hq] at e;cases e
   | some ns =>
    rw [hq] at e;simp only at e;split at e
    .rename_i h64;cases e;obtain⟨v,rfl,r1⟩:=iL r;obtain⟨p,ws,fp',rfl,hsq,hr,hsub⟩:=bK r1;rw [nF hq hr] at hsq;refine⟨p,ns,rfl,hsq,h64,fun l hl=>?_⟩;exact q _ _ [l] (bS hl) (oN hl (jV (lJ ns))) (fun b hb=>by simp at hb;rw [hb];exact hl) (by simp)
    .cases e
  .cases e) (he:=he) (hpl:=hpl)
end
noncomputable def un2 {α:Type}(f:En->Option α):En->Option α
 | some (_,.tup [a,b]) :: r=>f (some (false,a) :: some (false,b) :: r)
 | _=>none
theorem X1 (h:un2 f (some (b,d) :: env) ≠ none):∃ d1 d2,d=.tup [d1,d2]:=by
 unfold un2 at h;split at h
 .rename_i e;cases e;exact⟨_,_,rfl⟩
 .exact absurd rfl h
theorem Z3X:un2 f (some (b,.tup [d1,d2]) :: env)=f (some (false,d1) :: some (false,d2) :: env):=rfl
theorem Z49 {K:Frag}{st:Bool}(h:Reps K st H [d1,d2] vs fp):∃ v1 v2,vs=[v1,v2] /\ (∃ f,Rep K st H d1 v1 f) /\ ∃ f,Rep K st H d2 v2 f:=by
 simp only [Reps] at h;obtain⟨v,us,f1,f2,rfl,rfl,r1,v',us',f1',f2',rfl,rfl,r2,rfl,rfl⟩:=h;exact⟨_,_,rfl,⟨_,r1⟩,⟨_,r2⟩⟩
theorem Z0A {K:Frag}(ok:EnvOk K H σ env F) (r1:Rep K false H d1 v1 f1) (r2:Rep K false H d2 v2 f2) :
  ∃ F',EnvOk K H (((hZ 2 fr σ).set 0 (some v1)).set 1 (some v2)) (some (false,d1) :: some (false,d2) :: lO fr env) F':=by
 refine⟨fun i=>match i with | 0=>f1 | 1=>f2 | i + 2=>F (fr.getD i 0),fun i o d' e=>?_⟩
 match i,e with
 | 0,e =>
  simp at e;obtain⟨_,rfl⟩:=e;exact⟨v1,by simp [hZ],r1⟩
 | 1,e =>
  simp at e;obtain⟨_,rfl⟩:=e;exact⟨v2,by simp [hZ],r2⟩
 | i + 2,e =>
  simp only [List.getElem?_cons_succ,lO,List.getElem?_map] at e;cases hj:fr[i]? with
  | none=>rw [hj] at e;cases e
  | some j =>
   rw [hj] at e;simp only [Option.map_some,Option.some.injEq] at e;cases hq:env[j]? with
   | none=>rw [hq] at e;cases e
   | some s =>
    rw [hq] at e;simp only [Option.join_some] at e;subst e;obtain⟨w,h1,h2⟩:=ok j o d' hq;refine⟨w,?_,?_⟩
    .simp [hZ,hj,h1]
    .have:fr.getD i 0=j:=by simp [List.getD,hj]
     simp only [this];exact h2
section
theorem Q5 {K:Frag}(h:tD K true [] (cC fr src (un2 fc) (un2 fe)) σ H Q) :
  zR (tDI K rs src) 2 fr (Z5N K 2 (yO [0,1])) (tDT K fc) (tD K true [] fe) σ H Q:=by
 obtain⟨env,F,d,ok,e,q⟩:=h;unfold cC at e;cases h1:src env with
 | none=>rw [h1] at e;cases e
 | some ds =>
  rw [h1] at e;simp only at e;split at e
  .rename_i hlen;cases h2:cT (un2 fc) (un2 fe) (lO fr env) ds with
   | none=>rw [h2] at e;cases e
   | some ys =>
    rw [h2] at e;cases e;refine⟨env,F,ds,ok,h1,fun J H1 fp s1 gv dm cd=>?_⟩;intro acc hacc;refine⟨fun i k vs H2=>i <= ds.length /\ k=ds.length - i /\ H2 acc=some (.lst vs) /\ Same H1 H2 /\ ∃ zs f,cT (un2 fc) (un2 fe) (lO fr env) (ds.take i)=some zs /\ Reps K true H2 zs vs f /\ f.Nodup /\ (∀ b ∈ f,H1 b=none) /\ acc ∉ f,
     ⟨ds.length,Nat.zero_le _,rfl,aR,bS hacc,[],[],by simp [cT],by simp only [Reps];exact⟨trivial,trivial⟩,List.nodup_nil,fun b hb=>(by cases hb),by simp⟩,?_⟩
    rintro i k vs H2 ⟨hi,hk,ha,sm,zs,f,hz,hr,nd,hfr,hna⟩;refine⟨ha,?_⟩;have gi:=gv H2 (Kp.same sm fp) i;by_cases hlt:i < ds.length
    .right;have hd:ds[i]? = some ds[i]:=List.getElem?_eq_getElem hlt;obtain⟨go,hy⟩:=gi.1 _ hd;refine⟨go,fun x H3 y3=>?_⟩;obtain⟨sm3,f3,r3,_⟩:=hy x H3 y3;have ok3:EnvOk K H3 σ env F:=ok.same ((s1.trans sm).trans sm3);have hst:=lC hd h2 hz;have hne:un2 fc (some (false,ds[i]) :: lO fr env) ≠ none:=by
      rcases hst with ⟨c1,_⟩ | ⟨c1,_⟩ <;> (rw [c1];intro z;cases z)
     obtain⟨d1,d2,hdd⟩:=X1 hne;rw [hdd] at r3 hst;simp only [Rep] at r3;obtain⟨pt,wt,rfl,hsq,hrt⟩:=r3;obtain⟨v1,v2,rfl,⟨f1,r31⟩,⟨f2,r32⟩⟩:=Z49 hrt;refine⟨pt,[v1,v2],rfl,hsq,rfl,v1,[v2],rfl,v2,[],rfl,rfl,⟨by simp [hZ],by simp [hZ]⟩,?_⟩;obtain⟨F',okin⟩:=Z0A (fr:=fr) ok3 r31 r32;rcases hst with ⟨c1,y',c2,c3⟩ | ⟨c1,c2⟩
     .refine⟨_,F',true,okin,c1,fun H4 s4=>D6 ⟨_,F',y',okin.same s4,c2,fun v H5 fp5 s5 r5 c5=>?_⟩⟩;have s25:Same H2 H5:=(sm3.trans s4).trans s5;have s35:Same H4 H5:=s5;have ha5:H5 acc=some (.lst vs):=s25 _ _ ha;have hna5:acc ∉ fp5:=fun z=>by
       have:=(c5.2 rfl).2 acc z;rw [(sm3.trans s4) _ _ ha] at this;cases this
      have lv:vs.length < 1000:=by
       have:=nL hz;have h4:=hr.length;rw [List.length_take] at this;omega
      refine⟨vs,ha5,gA (Nat.le_of_lt lv),ds.length - (i + 1),by omega,hlt,rfl,aR,?_,zs ++ [y'],f ++ fp5,c3,?_,?_,?_,?_⟩
      .intro b o hb;have hba:b ≠ acc:=aQ hb hacc;rw [aJ hba];exact s25 _ _ (sm _ _ hb)
      .have e1:=Reps.keep _ _ _ (Kp.upd (o':=.lst (vs ++ [v])) ha5 (by intro xs z;cases z) (by intro a b z;cases z) hna) (hr.same s25);have e2:=Rep.keep _ _ _ (Kp.upd (o':=.lst (vs ++ [v])) ha5 (by intro xs z;cases z) (by intro a b z;cases z) hna5) r5;exact e1.snoc e2
      .refine List.nodup_append.mpr ⟨nd,(c5.2 rfl).1,fun a ha' b hb z=>?_⟩;obtain⟨o,ho⟩:=Reps.dom _ _ _ hr a ha';have:=(c5.2 rfl).2 b hb;rw [<- z,(sm3.trans s4) _ _ ho] at this;cases this
      .intro b hb;rcases List.mem_append.mp hb with z | z
       .exact hfr b z
       .exact ((sm.trans sm3).trans s4).free ((c5.2 rfl).2 b z)
      .intro z;rcases List.mem_append.mp z with z | z
       .exact hna z
       .exact hna5 z
     .refine⟨_,F',false,okin,c1,fun H4 s4=>D7 ⟨ds.length - (i + 1),vs,by omega,hlt,rfl,(sm3.trans s4) _ _ ha,(sm.trans sm3).trans s4,zs,f,c2,hr.same (sm3.trans s4),nd,hfr,hna⟩⟩
    .left;have hi':i=ds.length:=by omega
     refine⟨gi.2 (by omega),?_⟩;have hz':cT (un2 fc) (un2 fe) (lO fr env) ds=some zs:=by rw [hi',List.take_length] at hz;exact hz
     rw [h2] at hz';cases hz';refine q _ H2 (acc :: f) (s1.trans sm) ?_ ⟨fun b hb=>?_,fun _=>⟨List.nodup_cons.mpr ⟨hna,nd⟩,fun b hb=>?_⟩⟩
     .simp only [Rep];exact⟨acc,vs,f,rfl,hr,.inl ⟨rfl,ha⟩⟩
     .rcases List.mem_cons.mp hb with z | z
      .exact .inl (by rw [z];exact s1.free hacc)
      .exact .inl (s1.free (hfr b z))
     .rcases List.mem_cons.mp hb with z | z
      .rw [z];exact s1.free hacc
      .exact s1.free (hfr b z)
  .cases e
theorem Z1h {y:Str}(hc:X.calm=true) (chk:eN X.env.scope X.N scope fr=true) (hi:QI X (.Tuple [.Name x px,.Name y py] k pt) rs iter src)
  (hnd:(dB [x,y] fr X.N).Nodup) (hx:scope.names.lookup x=some .local) (hy:scope.names.lookup y=some .local)
  (ht:∀ cl C s0 H0 ex pins,QTs (dH X (dB [x,y] fr X.N) scope cl C s0 H0 ex pins) ifs fc)
  (he:∀ cl C s0 H0 ex pins,QE (dH X (dB [x,y] fr X.N) scope cl C s0 H0 ex pins) true [] elt fe)
  (hs:∀ x,foldedSetIterable iter X.env x=pure x:=by intro _;rfl) :
  QE X true [] (.ListComp elt [⟨.Tuple [.Name x px,.Name y py] k pt,iter,ifs,0⟩] scope pos) (cC fr src (un2 fc) (un2 fe)) :=
 .mk (xX (tgs:=[x,y]) (tt:=tDT X.K fc) (te:=tD X.K true [] fe) hc chk hi (fun cl C s0 H0 ex pins=>Z1t (X:=dH X (dB [x,y] fr X.N) scope cl C s0 H0 ex pins) hc (cS (cI (i:=0) hnd rfl (.inl (lookup_relabel_local hx)) (.inr (lookup_relabel_local hx))) (cS (cI (i:=1) hnd rfl (.inl (lookup_relabel_local hy)) (.inr (lookup_relabel_local hy))) jB))) ht he hs) fun σ H Q h=>Q5 h
end
section
end
section
noncomputable def Z2N:V->List V->Hp->VK->Prop:=fun x vs H Q=>∃ i:Int,x=.int i /\ vs=[] /\ Q (.int ((Builtin.Int.intBits i:Nat):Int)) H
theorem Z0i:MtR X "int.bit_length" Z2N:=by
 intro pins s σ H x vs v us Q I rx rv h;obtain⟨i,rfl,rfl,q⟩:=h;obtain⟨t,rfl⟩:=rx;cases rv;exact call_int_bit_length ⟨.int ((Builtin.Int.intBits i:Nat):Int),H,I.tok _,⟨_,rfl⟩,q⟩
noncomputable def uE (fa:En->Option D):En->Option D:=fun env=>match fa env with
 | some (.int i)=>some (.int ((Builtin.Int.intBits i:Nat):Int))
 | _=>none
theorem Z30 (ha:QE X m1 rs1 a fa) (hbase:attributeBase a "bit_length" X.env (eval a X.env)=eval a X.env:=by rfl) (hline:(apos.endLine == cpos.line)=true:=by rfl) :
  QE X m rs (.Call (.Attribute a "bit_length" apos) [] [] cpos) (uE fa) :=
 .mk (Z4z PySem.F.plainAttrs_int slot_int_bit_length type_int_bit_length Z0i ha hbase hline) fun σ H Q ⟨env,F,d,ok,e,q⟩=>by
  unfold uE at e;split at e
  .rename_i i h1;cases e;refine⟨env,F,_,ok,h1,fun v H' fp s r c=>?_⟩;rw [bE r];exact⟨rfl,i,rfl,rfl,q _ H' [] s dW .nil⟩
  .cases e
end
section
end
section
end
section
end
section
end
section
end
section
end
end PD
namespace L2
open PySem PySem.Spec PyProof.Rows
noncomputable def Itz (K:Frag) (a b:Addr):It :=
 ⟨fun i H => ∃ xs ys x y, SqL K H a xs /\ SqL K H b ys /\ xs[i]? = some x /\ ys[i]? = some y,
  fun i H v H'=>∃ p x y,H p=none /\ v=.ref p /\ (∀ xs,SqL K H a xs->xs[i]? = some x) /\ (∀ ys,SqL K H b ys->ys[i]? = some y) /\ H'=upd H p (.tup [x,y]),
  fun i H=>∃ xs ys,SqL K H a xs /\ SqL K H b ys /\ (xs.length <= i \/ ys.length <= i)⟩
theorem Z0U {K:Frag}(a b z TI TO i1 i2:Addr) (D:ZipApart z TI TO i1 i2 a b) :
  zC P w K (.Tuple elts k1 pos) (Itz K a b) [z,TI,TO,i1,i2] z (fun i h=>IsZip h z TI TO .none /\ IsPair h TI (.ref i1) (.ref i2) /\ (∃ u v,IsPair h TO u v) /\ h.IsListIter i1 a i /\ h.IsListIter i2 b i) where
 mem:=by simp
 obj:=fun i h st c hc=>by
  obtain⟨hz,hT,⟨u,v,hO⟩,h1,h2⟩:=st;simp only [List.mem_cons,List.not_mem_nil,or_false] at hc;rcases hc with hc | hc | hc | hc | hc
  .rw [hc];exact⟨_,hz,fun v q=>by cases q⟩
  .rw [hc];exact⟨_,hT,fun v q=>by cases q⟩
  .rw [hc];exact⟨_,hO,fun v q=>by cases q⟩
  .rw [hc];obtain⟨o,e,c,d⟩:=h1;exact⟨o,e,fun v q=>by rw [d] at q;cases q⟩
  .rw [hc];obtain⟨o,e,c,d⟩:=h2;exact⟨o,e,fun v q=>by rw [d] at q;cases q⟩
 keep:=fun i h h' ⟨hz,hT,⟨u,v,hO⟩,h1,h2⟩ k=>⟨k z (by simp) _ hz,k TI (by simp) _ hT,⟨u,v,k TO (by simp) _ hO⟩,h1.at fun o q=>k i1 (by simp) o q,h2.at fun o q=>k i2 (by simp) o q⟩
 item:=by
  intro X hP hw hK hc i pins s σ H E I hf st hg;subst hP hw hK;obtain⟨xs,ys,x,y,hqa,hqb,hx,hy⟩:=hg;obtain⟨its,rv,p,hsz⟩:=I.list hqa;obtain⟨its2,rv2,p2,hsz2⟩:=I.list hqb;obtain⟨u,hu,ru⟩:=rv.get hx;obtain⟨u2,hu2,ru2⟩:=rv2.get hy;obtain⟨hz,hT,⟨ua,va,hO⟩,h1,h2⟩:=st;have fz:=hf z (by simp);have fO:=hf TO (by simp);have f1:=hf i1 (by simp);have f2:=hf i2 (by simp);refine wpAny_pyNext_zip_item D hz hT hO h1 h2 p.isList p2.isList (x:=u) (y:=u2) (by simpa using hu) (by simpa using hu2) fun h' a1 a2 a3 a4 a5 a6 hk=>?_;refine⟨_,rfl,wpAny_letOwnedTupleGo_zip (s:={ s with heap:=h' }) a1 fun h'' hz'' hs''=>?_⟩;have hfr:H s.heap.objs.size=none:=I.fresh;have lt:∀ b o,s.heap.get? b=some o->b ≠ s.heap.objs.size:=fun b o q=>Nat.ne_of_lt (Heap.lt_size q);have kp:∀ b o,b ≠ z->b ≠ TO->b ≠ i1->b ≠ i2->s.heap.get? b=some o->h''.get? b=some o:=fun b o c1 c2 c3 c4 q=>(hs''.2 b c1).trans (hk b o c1 c2 c3 c4 q);have hzz:z ≠ s.heap.objs.size:=lt _ _ hz;have nch:∀ b u,H b=some u->b ≠ z /\ b ≠ TO /\ b ≠ i1 /\ b ≠ i2:=fun b u q=>⟨fun w=>(by rw [w,fz.1] at q;cases q),fun w=>(by rw [w,fO.1] at q;cases q),fun w=>(by rw [w,f1.1] at q;cases q),fun w=>(by rw [w,f2.1] at q;cases q)⟩;have hin:∀ c,c ∉ [z,TO,i1,i2]->c ≠ z /\ c ≠ TO /\ c ≠ i1 /\ c ≠ i2:=fun c hc=>by simpa using hc
  refine⟨.ref s.heap.objs.size,upd H s.heap.objs.size (.tup [x,y]),?_,rfl,⟨_,x,y,hfr,rfl,fun zs hzs=>by rw [I.list_inj hzs hqa];exact hx,fun zs hzs=>by rw [I.list_inj hzs hqb];exact hy,rfl⟩,
   ⟨hz'',(hs''.2 _ D.TIz).trans (hk _ _ D.TIz D.TITO D.TIi1 D.TIi2 hT),⟨_,_,(hs''.2 _ D.TOz).trans a2⟩,a3.at fun o q=>(hs''.2 i1 D.i1z).trans q,a4.at fun o q=>(hs''.2 i2 D.i2z).trans q⟩,fun c hc=>?_⟩
  .refine Inv.step (s:=s) (h':=h'') (t':=s.toks) (H':=upd H s.heap.objs.size (.tup [x,y])) (g':=s.gens) (d':=s.drawn) (ch:=[z,TO,i1,i2]) I (fun c hc=>?_)
    (fun c o _ _ hc q _=>let ⟨c1,c2,c3,c4⟩:=hin c hc;kp c o c1 c2 c3 c4 q) (fun c o _ _ hc q _=>let ⟨c1,c2,c3,c4⟩:=hin c hc;⟨o.slots,kp c o c1 c2 c3 c4 q⟩)
    (fun c o _ q n=>by rw [aJ (lt c o q)];exact n) (fun c o hc q=>let ⟨c1,c2,c3,c4⟩:=hin c hc;⟨o,kp c o c1 c2 c3 c4 q⟩)
    (fun c ys q=>by rw [aJ (aQ q hfr)];exact q) (fun c o u q=>by rw [aJ (aQ q hfr)];exact q) (fun c ps q=>⟨#[],by rw [aJ (aQ q hfr),q];simp⟩) (fun m hm=>?_) (fun c u q=>?_) I.bare
   .simp only [List.mem_cons,List.not_mem_nil,or_false] at hc;rcases hc with hc | hc | hc | hc
    .rw [hc];exact⟨fz.2.2.2.1,fz.2.1,fz.2.2.2.2.1,fz.2.2.2.2.2⟩
    .rw [hc];exact⟨fO.2.2.2.1,fO.2.1,fO.2.2.2.2.1,fO.2.2.2.2.2⟩
    .rw [hc];exact⟨f1.2.2.2.1,f1.2.1,f1.2.2.2.2.1,f1.2.2.2.2.2⟩
    .rw [hc];exact⟨f2.2.2.2.1,f2.2.1,f2.2.2.2.2.1,f2.2.2.2.2.2⟩
   .obtain⟨o,es,ep,ho,r⟩:=hm;exact⟨o,es,ep,kp _ o (Ne.symm fz.2.1) (Ne.symm fO.2.1) (Ne.symm f1.2.1) (Ne.symm f2.2.1) ho,r⟩
   .by_cases hb:c=s.heap.objs.size
    .subst hb;rw [aR] at q;cases q;refine⟨by show 2 <= sizeLine;decide,[u,u2],.cons ru (.cons ru2 .nil),_,(hs''.2 _ (Ne.symm hzz)).trans a5,rfl,_,rfl⟩
    .rw [aJ hb] at q;refine (I.hok c u q).stay (fun d v hc z=>?_) (fun c z=>by rw [aJ (aQ z hfr)];exact z) fun c ys z=>by rw [aJ (aQ z hfr)];exact z
     rcases hc with y | y
     .rw [y] at z ⊢;obtain⟨c1,c2,c3,c4⟩:=nch c u q;exact kp _ _ c1 c2 c3 c4 z
     .obtain⟨c1,c2,c3,c4⟩:=nch d _ y;exact kp _ _ c1 c2 c3 c4 z
  .have hb':c < s.heap.objs.size:=by
    simp only [List.mem_cons,List.not_mem_nil,or_false] at hc;rcases hc with hc | hc | hc | hc | hc
    .rw [hc];exact Heap.lt_size hz
    .rw [hc];exact Heap.lt_size hT
    .rw [hc];exact Heap.lt_size hO
    .rw [hc];obtain⟨o,q,_⟩:=h1;exact Heap.lt_size q
    .rw [hc];obtain⟨o,q,_⟩:=h2;exact Heap.lt_size q
   rw [aJ (Nat.ne_of_lt hb')];exact (hf c hc).1
 done:=by
  intro X hP hw hK hc i pins s σ H E I hf st hg;subst hP hw hK;obtain⟨xs,ys,hqa,hqb,hx⟩:=hg;obtain⟨its,rv,p,hsz⟩:=I.list hqa;obtain⟨its2,rv2,p2,hsz2⟩:=I.list hqb;obtain⟨hz,hT,⟨ua,va,hO⟩,h1,h2⟩:=st;have hl:=rv.length;have hl2:=rv2.length;have fz:=hf z (by simp);have fO:=hf TO (by simp);have f1:=hf i1 (by simp);have f2:=hf i2 (by simp);have hend:its.toArray[i]? = none \/ its2.toArray[i]? = none:=by
   rcases hx with z | z
   .left;simp;omega
   .right;simp;omega
  have hin:∀ c,c ∉ [z,TO,i1,i2]->c ≠ z /\ c ≠ TO /\ c ≠ i1 /\ c ≠ i2:=fun c hc=>by simpa using hc
  have nch:∀ b u,H b=some u->b ≠ z /\ b ≠ TO /\ b ≠ i1 /\ b ≠ i2:=fun b u q=>⟨fun w=>(by rw [w,fz.1] at q;cases q),fun w=>(by rw [w,fO.1] at q;cases q),fun w=>(by rw [w,f1.1] at q;cases q),fun w=>(by rw [w,f2.1] at q;cases q)⟩;refine wpAny_pyNext_zip_end (I.ok.hd hc) D hz hT hO h1 h2 p.isList p2.isList hend fun h' hk=>⟨rfl,?_⟩;refine Inv.step (s:=s) (h':=h') (t':=s.toks) (H':=H) (g':=s.gens) (d':=s.drawn) (ch:=[z,TO,i1,i2]) I (fun c hc=>?_)
   (fun c o _ _ hc q _=>let ⟨c1,c2,c3,c4⟩:=hin c hc;hk c o c1 c2 c3 c4 q) (fun c o _ _ hc q _=>let ⟨c1,c2,c3,c4⟩:=hin c hc;⟨o.slots,hk c o c1 c2 c3 c4 q⟩)
   (fun c o _ q n=>n) (fun c o hc q=>let ⟨c1,c2,c3,c4⟩:=hin c hc;⟨o,hk c o c1 c2 c3 c4 q⟩)
   (fun c ys q=>q) (fun c o u q=>q) (fun c ps q=>⟨#[],by rw [q];simp⟩) (fun m hm=>?_) (fun c u q=>?_) I.bare
  .simp only [List.mem_cons,List.not_mem_nil,or_false] at hc;rcases hc with hc | hc | hc | hc
   .rw [hc];exact⟨fz.2.2.2.1,fz.2.1,fz.2.2.2.2.1,fz.2.2.2.2.2⟩
   .rw [hc];exact⟨fO.2.2.2.1,fO.2.1,fO.2.2.2.2.1,fO.2.2.2.2.2⟩
   .rw [hc];exact⟨f1.2.2.2.1,f1.2.1,f1.2.2.2.2.1,f1.2.2.2.2.2⟩
   .rw [hc];exact⟨f2.2.2.2.1,f2.2.1,f2.2.2.2.2.1,f2.2.2.2.2.2⟩
  .obtain⟨o,es,ep,ho,r⟩:=hm;exact⟨o,es,ep,hk _ o (Ne.symm fz.2.1) (Ne.symm fO.2.1) (Ne.symm f1.2.1) (Ne.symm f2.2.1) ho,r⟩
  .refine (I.hok c u q).stay (fun d v hc z=>?_) (fun c z=>z) fun c ys z=>z;rcases hc with y | y
   .rw [y] at z ⊢;obtain⟨c1,c2,c3,c4⟩:=nch c u q;exact hk _ _ c1 c2 c3 c4 z
   .obtain⟨c1,c2,c3,c4⟩:=nch d _ y;exact hk _ _ c1 c2 c3 c4 z
 self:=fun _ _ _ _ _ st h=>wpAny_pyIter_zip st.1 h
theorem Z2j:bootBuiltins "zip" = some (.type "zip"):=by decide +kernel
section
noncomputable def Z6r (K:Frag) (ta:TA):TI:=fun σ H R=>ta σ H fun vs H1=>∃ a b,vs=[.ref a,.ref b] /\ (∃ xs,SqL K H1 a xs) /\ (∃ ys,SqL K H1 b ys) /\ R (Itz K a b) H1
theorem Z4s {p pos:Pos}(hg:Gl X "zip") (hm:X.mg "zip" = none) (ha:PA X [l,l2] ta) (hs:starEach [l,l2] X.env=[(false,eval l X.env),(false,eval l2 X.env)]:=by rfl) (hs2:starEach [l2] X.env=[(false,eval l2 X.env)]:=by rfl) :
  PI X (.Tuple elts k1 tpos) (.Call (.Name "zip" p) [l,l2] [] pos) (Z6r X.K ta):=by
 intro pins s σ H R I h;refine Call_ (jO I hg hm Z2j (PyProof.Rows.callWith_type1 (thn (ha pos pins s σ H _ I h) fun us s1 ⟨vs,H1,I1,r1,q1⟩=>?_) (by rw [hs,hs2]) (by rw [hs2];rfl)));obtain⟨a,b,rfl,⟨xs,hqa⟩,⟨ys,hqb⟩,q⟩:=q1;cases r1 with
 | cons r rr =>
  cases rr with
  | cons r' rr =>
   cases rr;cases r;cases r';obtain⟨its,rv,pl,hz⟩:=I1.list hqa;obtain⟨its2,rv2,pl2,hz2⟩:=I1.list hqb;have la:a < s1.heap.objs.size:=by obtain⟨o,e,_⟩:=pl.isList;exact Heap.lt_size e
   have lb:b < s1.heap.objs.size:=by obtain⟨o,e,_⟩:=pl2.isList;exact Heap.lt_size e
   refine call_zip_2 pl.isList pl2.isList fun h' hzp hTI hTO hi1 hi2 hsz hk=>?_;refine wpAny_pyIter_zip (s:={ s1 with heap:=h' }) hzp ?_;have I2:Inv X pins σ H1 { s1 with heap:=h' }:=I1.kept (t':=s1.toks) hk;refine⟨s1.heap.objs.size + 4,[s1.heap.objs.size + 4,s1.heap.objs.size + 2,s1.heap.objs.size + 3,s1.heap.objs.size,s1.heap.objs.size + 1],_,_,H1,rfl,I2,Z0U a b _ _ _ _ _ (zipApart_new la lb),⟨hzp,hTI,⟨_,_,hTO⟩,hi1,hi2⟩,fun c hc=>?_,q⟩;have hb':s1.heap.objs.size <= c:=by
    simp only [List.mem_cons,List.not_mem_nil,or_false] at hc;rcases hc with hc | hc | hc | hc | hc <;> (rw [hc];first | exact Nat.le_refl _ | exact Nat.le_add_right _ _)
   exact I1.fpOk hb' (I1.hok.fresh hb')
end
theorem nT:Builtin.Range.rangeSize i j (-1)=if j < i then i - j else 0:=by
 unfold Builtin.Range.rangeSize;split <;> split <;> simp_all <;> omega
theorem Y2 (h1:-(2 ^ 62) <= i) (h2:i < 2 ^ 62) (h3:-(2 ^ 62) <= j) (h4:j < 2 ^ 62):Builtin.Range.small i j (-1)=true:=by
 have e:=@nT i j;unfold Builtin.Range.small;rw [e];clear e;simp only [Builtin.Range.rangeFitsLong,Bool.and_eq_true,decide_eq_true_eq];split <;> (refine⟨?_,?_⟩ <;> simp <;> omega)
end L2
namespace PD
open PySem PySem.Spec PyProof.Rows L2
section
noncomputable def Z5I (ta:TA):TI:=fun σ H R=>ta σ H fun vs H1=>∃ i j:Int,vs=[.int i,.int j,.int (-1)] /\ (-(2 ^ 62) <= i /\ i < 2 ^ 62 /\ -(2 ^ 62) <= j /\ j < 2 ^ 62) /\ R (Itd i (i - j).toNat) H1
theorem Z3w {lo hi:Int}(I:Inv X pins σ H s) (h1:-(2 ^ 62) <= lo) (h2:lo < 2 ^ 62) (h3:-(2 ^ 62) <= hi) (h4:hi < 2 ^ 62)
  (q:R (Itd lo (lo - hi).toNat) H):wpAny (model X.prog X.w) X.A (pyIter (.ref s.heap.objs.size)) (PIE X pins σ tg R) E { s with heap:=s.heap.push { cls:=.type "range",data:=.fields #[.int lo t,.int hi u,.int (-1) v] },toks:=tk }:=by
 refine wpAny_pyIter_range (IsRange.new ..) (Y2 h1 h2 h3 h4) ?_;have I1:Inv X pins σ H { s with heap:=s.heap.push { cls:=.type "range",data:=.fields #[.int lo t,.int hi u,.int (-1) v] },toks:=tk }:=I.kept fun b o e=>Heap.get?_push_of_some _ e;refine⟨(s.heap.push { cls:=.type "range",data:=.fields #[.int lo t,.int hi u,.int (-1) v] }).objs.size,[(s.heap.push { cls:=.type "range",data:=.fields #[.int lo t,.int hi u,.int (-1) v] }).objs.size],_,_,H,rfl,
  I1.kept (t':=tk) fun b o e=>Heap.get?_push_of_some _ e,X4 _ lo (lo - hi).toNat,?_,fun b hb=>?_,q⟩
 .have e1:lo + ((0:Nat):Int) * (-1)=lo:=by simp
  have e2:(((lo - hi).toNat:Nat):Int) - ((0:Nat):Int)=Builtin.Range.rangeSize lo hi (-1):=by rw [nT];split <;> omega
  show IsRangeIter _ _ (lo + ((0:Nat):Int) * (-1)) ((((lo - hi).toNat:Nat):Int) - ((0:Nat):Int)) (-1);rw [e1,e2];exact Heap.get?_push_size _ rfl
 .have e:b=(s.heap.push { cls:=.type "range",data:=.fields #[.int lo t,.int hi u,.int (-1) v] }).objs.size:=by simpa using hb
  subst e;exact I1.fpOk (Nat.le_refl _) (I1.hok.fresh (Nat.le_refl _))
theorem Z05 (hg:Gl X "range") (hm:X.mg "range" = none) (ha:PA X [a,b,c] ta) (hs:starEach [a,b,c] X.env=(false,eval a X.env) :: starEach [b,c] X.env:=by rfl) (hs2:(backTo pos (starEach [b,c] X.env)).any (·.1)=false:=by rfl) :
  PI X tg (.Call (.Name "range" p) [a,b,c] [] pos) (Z5I ta):=by
 intro pins s σ H R I h;refine Call_ (jO I hg hm boot_range (PyProof.Rows.callWith_type1 (thn (ha pos pins s σ H _ I h) fun us s1 ⟨vs,H1,I1,r1,q1⟩=>?_) hs hs2));obtain⟨i,j,e,⟨q1,q2,q3,q4⟩,q⟩:=q1;subst e;cases r1 with
 | cons r rr =>
  cases rr with
  | cons r' rr =>
   cases rr with
   | cons r'' rr =>
    cases rr;obtain⟨t,rfl⟩:=r;obtain⟨t',rfl⟩:=r';obtain⟨t'',rfl⟩:=r'';exact call_range_3 (by decide) (Z3w I1 q1 q2 q3 q4 q) (Or.inl (PyProof.noPylong_small (by omega)))
end
noncomputable def K4:List D->Option (List D)
 | [.int i,.int j,.int k]=>if (-(2 ^ 62) <= i /\ i < 2 ^ 62 /\ -(2 ^ 62) <= j /\ j < 2 ^ 62) /\ k = -1 then some ((List.range (i - j).toNat).map fun (k:Nat)=>.int (i - (k:Int))) else none
 | _=>none
section
theorem Z5k {K:Frag}(h:Reps K m H [d,d',d''] vs fp):∃ v v' v'' f f' f'',vs=[v,v',v''] /\ Rep K m H d v f /\ Rep K m H d' v' f' /\ Rep K m H d'' v'' f'' /\ fp=f ++ (f' ++ f''):=by
 simp only [Reps] at h;obtain⟨v,r,f1,f2,rfl,rfl,h1,v',r',f3,f4,rfl,rfl,h2,v'',r'',f5,f6,rfl,rfl,h3,rfl,rfl⟩:=h;exact⟨v,v',v'',f1,f3,f5,rfl,h1,h2,h3,by simp⟩
theorem Z00 {tg:Expr}(hg:Gl X "range") (hm:X.mg "range" = none) (ha:QA X m1 rs1 [a,b,c] fs) (hs:starEach [a,b,c] X.env=(false,eval a X.env) :: starEach [b,c] X.env:=by rfl) (hs2:(backTo pos (starEach [b,c] X.env)).any (·.1)=false:=by rfl) :
  QI X tg rs (.Call (.Name "range" p) [a,b,c] [] pos) (sB1 K4 fs) :=
 .mk (Z05 hg hm ha hs hs2) fun σ H R ⟨env,F,ds,ok,e,q⟩=>by
  unfold sB1 at e;cases h1:fs env with
  | none=>simp only [h1] at e;cases e
  | some xs =>
   simp only [h1,Option.bind_some] at e;unfold K4 at e;split at e
   .rename_i i j k;split at e
    .rename_i hj;cases e;refine⟨env,F,_,ok,h1,fun vs H' fp s r c=>?_⟩;obtain⟨v,v',v'',f,f',f'',rfl,r1,r2,r3,rfl⟩:=Z5k r;rw [bE r1,bE r2,bE r3,hj.2];exact⟨i,j,rfl,hj.1,q _ H' [] s (P7 _ _) (fun b hb=>(by cases hb)) .nil⟩
    .cases e
   .cases e
noncomputable def nN:List D->List D->List D
 | x :: xs,y :: ys=>.tup [x,y] :: nN xs ys
 | _,_=>[]
theorem zJ:∀ (xs ys:List D) (i:Nat),(nN xs ys)[i]? = match xs[i]?,ys[i]? with | some x,some y=>some (.tup [x,y]) | _,_=>none
 | [],ys,i=>by simp [nN]
 | x :: xs,[],i=>by
  simp only [nN,List.getElem?_nil];split <;> simp_all
 | x :: xs,y :: ys,0=>by simp [nN]
 | x :: xs,y :: ys,i + 1=>by simp only [nN,List.getElem?_cons_succ];exact zJ xs ys i
theorem zI:∀ (xs ys:List D),(nN xs ys).length=min xs.length ys.length
 | [],ys=>by simp [nN]
 | x :: xs,[]=>by simp [nN]
 | x :: xs,y :: ys=>by simp only [nN,List.length_cons,zI xs ys];omega
theorem Z0t {K:Frag}(r1:Rep K false H0 (.lst xs) (.ref a) f1) (r2:Rep K false H0 (.lst ys) (.ref b) f2):uO K (Itz K a b) H0 (nN xs ys) (f1 ++ f2):=fun H k i=>by
 have q1:=Rep.keep _ _ _ (k.sub fun b hb=>List.mem_append_left _ hb) r1;have q2:=Rep.keep _ _ _ (k.sub fun b hb=>List.mem_append_right _ hb) r2;obtain⟨p,vs,fp',e,hsq,hr,hsub⟩:=bK q1;cases e;obtain⟨p',vs',fp'',e,hsq',hr',hsub'⟩:=bK q2;cases e;refine⟨fun d hd=>?_,fun hl=>⟨vs,vs',hsq,hsq',by rw [hr.length,hr'.length];rw [zI] at hl;omega⟩⟩;rw [zJ] at hd;split at hd
 .rename_i x y hx hy;cases hd;obtain⟨v,f,h1,h2,h3,_⟩:=hr.get hx;obtain⟨v',f',h1',h2',h3',_⟩:=hr'.get hy;refine⟨⟨vs,vs',v,v',hsq,hsq',h1,h1'⟩,fun x H' y=>?_⟩;obtain⟨q,w,w',hq,rfl,ya,yb,rfl⟩:=y;have e1:=ya vs hsq;rw [h1] at e1;cases e1;have e2:=yb vs' hsq';rw [h1'] at e2;cases e2;refine⟨bS hq,f ++ f',oM hq ?_,fun c hc=>?_⟩
  .simp only [Reps];exact⟨v,[v'],f,f',rfl,rfl,h2,v',[],f',[],rfl,by simp,h2',rfl,rfl⟩
  .rcases List.mem_append.mp hc with z | z
   .exact List.mem_append_left _ (hsub c (h3 c z))
   .exact List.mem_append_right _ (hsub' c (h3' c z))
 .cases hd
noncomputable def Z0P:List D->Option (List D)
 | [.lst xs,.lst ys]=>some (nN xs ys)
 | _=>none
theorem Z1c (hg:Gl X "zip") (hm:X.mg "zip" = none) (ha:QA X m1 rs [a,b] fs) (hs:starEach [a,b] X.env=[(false,eval a X.env),(false,eval b X.env)]:=by rfl) (hs2:starEach [b] X.env=[(false,eval b X.env)]:=by rfl) :
  QI X (.Tuple elts k1 tpos) rs (.Call (.Name "zip" p) [a,b] [] pos) (sB1 Z0P fs) :=
 .mk (Z4s hg hm ha hs hs2) fun σ H R ⟨env,F,ds,ok,e,q⟩=>by
  unfold sB1 at e;cases h1:fs env with
  | none=>simp only [h1] at e;cases e
  | some xs =>
   simp only [h1,Option.bind_some] at e;unfold Z0P at e;split at e
   .cases e;refine⟨env,F,_,ok,h1,fun vs H' fp s r c=>?_⟩;obtain⟨v,v',f,f',rfl,r1,r2,rfl⟩:=Z3G r;have r1':=Rep.weak _ _ _ r1;have r2':=Rep.weak _ _ _ r2;obtain⟨p,ws,fp',rfl,hsq,hr,hsub⟩:=bK r1;obtain⟨p',ws',fp'',rfl,hsq',hr',hsub'⟩:=bK r2;refine⟨p,p',rfl,⟨ws,hsq⟩,⟨ws',hsq'⟩,q _ H' (f ++ f') s (Z0t r1' r2') (fun c hc=>?_) ⟨c.1,fun z=>(by cases z)⟩⟩;rcases List.mem_append.mp hc with z | z
    .exact Rep.dom _ _ _ r1' c z
    .exact Rep.dom _ _ _ r2' c z
   .cases e
end
noncomputable def keyOf:D->Option Key
 | .int i=>some (.inl i)
 | .str x=>some (.inr x)
 | _=>none
theorem nD {K:Frag}{st:Bool}(e:keyOf d=some k) (r:Rep K st H d v fp):v=kV k:=by
 cases d with
 | int i=>cases e;exact bE r
 | str x=>cases e;exact eF r
 | _=>cases e
section
variable {κ:Type}[DecidableEq κ]
noncomputable def fU {α:Type}:List κ->List α->κ->Option α
 | k' :: ks,d :: ds,k=>if k'=k then some d else fU ks ds k
 | _,_,_=>none
noncomputable def tQ (k:κ) (ks:List κ):Bool:=decide (k ∈ ks)
theorem memK_iff {ks:List κ}:tQ k ks=true ↔ k ∈ ks:=by unfold tQ;simp
noncomputable def N0 (ks:List κ) (k:κ):List κ:=if k ∈ ks then ks else ks ++ [k]
noncomputable def tG {α:Type}(ks:List κ) (xs:List α) (k:κ) (x:α):List α:=if k ∈ ks then List.zipWith (fun k' y=>if k'=k then x else y) ks xs else xs ++ [x]
theorem oV {k:κ}:jL (ks.zip vs) k=fU ks vs k:=by
 induction ks generalizing vs with
 | nil=>simp [fU,jL]
 | cons k' ks ih =>
  cases vs with
  | nil=>simp [fU,jL]
  | cons v vs =>
   rw [List.zip_cons_cons];unfold fU;by_cases h:k'=k
   .rw [if_pos h,oW (by exact h)]
   .rw [if_neg h,oX (by exact h)];exact ih
theorem Z3B {ks:List κ}(hl:ks.length=vs.length):((ks.zip vs).any fun kv=>decide (kv.1=k))=decide (k ∈ ks):=by
 induction ks generalizing vs with
 | nil=>simp
 | cons k' ks ih =>
  cases vs with
  | nil=>cases hl
  | cons v vs =>
   rw [List.zip_cons_cons,List.any_cons,ih (by simpa using hl)];by_cases h:k'=k
   .subst h;simp
   .have h':¬ k=k':=fun z=>h z.symm;simp [h,h']
theorem Z3j {ks:List κ}{v:V}:(ks.zip vs).map (fun kv=>if kv.1=k then (kv.1,v) else kv)=ks.zip (List.zipWith (fun k' y=>if k'=k then v else y) ks vs):=by
 induction ks generalizing vs with
 | nil=>simp
 | cons k' ks ih =>
  cases vs with
  | nil=>simp
  | cons v' vs =>
   simp only [List.zip_cons_cons,List.map_cons,List.zipWith_cons_cons,ih];split <;> rfl
theorem Z1m {ks:List κ}{v:V}(hl:ks.length=vs.length):lK (ks.zip vs) k v=(N0 ks k).zip (tG ks vs k v):=by
 unfold lK N0 tG;rw [Z3B hl];by_cases h:k ∈ ks
 .simp only [h,decide_true,if_true];exact Z3j
 .simp only [h,decide_false,Bool.false_eq_true,if_false];rw [List.zip_append hl];rfl
theorem Z1k {k:κ}(hl:ks.length=xs.length):(N0 ks k).length=(tG ks xs k x).length:=by
 unfold N0 tG;split
 .simp [hl]
 .simp [hl]
theorem wN {K:Frag}{st:Bool}:∀ {ks:List κ}{ds:List D}{vs:List V}{fp:List Addr}{d:D},Reps K st H ds vs fp->fU ks ds k=some d->∃ v f,fU ks vs k=some v /\ Rep K st H d v f /\ (∀ b ∈ f,b ∈ fp)
 | [],ds,vs,fp,d,r,e=>by simp [fU] at e
 | k' :: ks,[],vs,fp,d,r,e=>by simp [fU] at e
 | k' :: ks,x :: ds,vs,fp,d,r,e=>by
  simp only [Reps] at r;obtain⟨v,us,f1,f2,rfl,rfl,r1,r2⟩:=r;unfold fU at e ⊢;by_cases h:k'=k
  .rw [if_pos h] at e ⊢;cases e;exact⟨v,f1,rfl,r1,fun b hb=>List.mem_append_left _ hb⟩
  .rw [if_neg h] at e ⊢;obtain⟨v',f,h1,h2,h3⟩:=wN r2 e;exact⟨v',f,h1,h2,fun b hb=>List.mem_append_right _ (h3 b hb)⟩
theorem nH:∀ {ks:List κ}{xs:List α},ks.length=xs.length->(fU ks xs k).isSome=tQ k ks
 | [],xs,h=>by simp [fU,tQ]
 | k' :: ks,[],h=>by cases h
 | k' :: ks,x :: xs,h=>by
  unfold fU;by_cases hk:k'=k
  .subst hk;simp [tQ]
  .rw [if_neg hk,nH (by simpa using h)];have h':¬ k=k':=fun z=>hk z.symm;simp [tQ,h']
theorem qY {K:Frag}{st:Bool}(rd:Rep K st H d v []):∀ {ks:List κ}{ds:List D}{vs:List V},Reps K st H ds vs []->Reps K st H (List.zipWith (fun k' y=>if k'=k then d else y) ks ds) (List.zipWith (fun k' y=>if k'=k then v else y) ks vs) []
 | [],ds,vs,r=>by simp only [List.zipWith_nil_left,Reps];exact⟨trivial,trivial⟩
 | k' :: ks,[],vs,r=>by
  simp only [Reps] at r;obtain⟨rfl,_⟩:=r;simp only [List.zipWith_nil_right,Reps];exact⟨trivial,trivial⟩
 | k' :: ks,x :: ds,vs,r=>by
  simp only [Reps] at r;obtain⟨w,us,f1,f2,rfl,e,r1,r2⟩:=r;obtain⟨rfl,rfl⟩:=List.append_eq_nil_iff.mp e.symm;have ih:=qY (k:=k) rd (ks:=ks) r2;simp only [List.zipWith_cons_cons,Reps];refine⟨_,_,[],[],rfl,rfl,?_,ih⟩;split
  .exact rd
  .exact r1
theorem Z1j {K:Frag}{st:Bool}{ks:List κ}(rd:Rep K st H d v []) (r:Reps K st H ds vs []):Reps K st H (tG ks ds k d) (tG ks vs k v) []:=by
 unfold tG;split
 .exact qY rd r
 .have:=Reps.snoc r rd;simpa using this
end
theorem T1 {K:Frag}(hd:H d=some o) (h1:∀ xs,o ≠ .tup xs) (h2:∀ q xs,o ≠ .frz q (.tup xs)):∀ a xs,SqT K H a xs->SqT K (upd H d u) a xs:=by
 intro a xs h;rcases h with (h | ⟨q,h⟩) | h
 .exact .inl (.inl (by rw [aJ (fun z=>by rw [z,hd] at h;exact h1 _ (Option.some.inj h))];exact h))
 .exact .inl (.inr ⟨q,by rw [aJ (fun z=>by rw [z,hd] at h;exact h2 _ _ (Option.some.inj h))];exact h⟩)
 .exact .inr h
section
theorem Z5E {K:Frag}(hq:H q=none) (hl:ks.length=vs.length) (h:Reps K m H ds vs fp):Rep K m (upd H q (.dK (ks.zip vs))) (.dk ks ds) (.ref q) (q :: fp):=by
 simp only [Rep];exact⟨q,vs,fp,rfl,rfl,aR,hl,h.same (bS hq)⟩
theorem A2 {K:Frag}:Reps K m H [] [] []:=by simp only [Reps];exact⟨trivial,trivial⟩
theorem B4:QE X true [] (.Dict [] [] pos) (fC (.dk [] [])):=.mk L2.pe_dnewK fun σ H Q ⟨env,F,d,ok,e,q⟩=>by
 cases e;intro p hp;exact q _ _ [p] (bS hp) (Z5E (ks:=[]) (vs:=[]) hp rfl A2) (uG (m:=true) (K:=X.K) (Same.refl H) hp (A2 (m:=true)) .nil)
noncomputable def Q3 (fa fb:En->Option D):En->Option Bool:=fun env=>match fa env,fb env with
 | some x,some (.dk ks ds)=>match keyOf x with
  | some k=>some (tQ k ks)
  | none=>none
 | _,_=>none
theorem X9 {K:Frag}{H:Hp}{Q:VK}(neg:Bool) {env:En}{F:Nat->List Addr}{bb:Bool}(ok:EnvOk K H σ env F) (e:Q3 fa fb env=some bb) (q:∀ H',Same H H'->Q (.bl (if neg then !bb else bb)) H') :
  tD K m1 rs1 fa σ H fun y H1=>tD K m2 rs2 fb σ H1 fun x H2=>∃ a o,x=.ref a /\ DGet H2 a y o /\ Q (.bl (if neg then !o.isSome else o.isSome)) H2:=by
 unfold Q3 at e;split at e
 .rename_i x ks ds h1 h2;cases hk:keyOf x with
  | none=>rw [hk] at e;cases e
  | some k =>
   rw [hk] at e;cases e;refine two ok h1 h2 fun v u H' f1 f2 s r1 r2 _ _=>?_;rw [nD hk r1];simp only [Rep] at r2;obtain⟨a,vs,fp',rfl,rfl,hs,hl,hr⟩:=r2;refine⟨a,_,rfl,DGet.k hs,?_⟩;rw [oV,nH hl];exact q H' s
 .cases e
theorem Z4b (hu:X.A.units + 1 < cLine) (ha:QE X m1 rs1 a fa) (hb:QE X m2 rs2 b fb) (hm:behindInMarks .In b=false:=by with_unfolding_all rfl):QT X (.Compare a [.In] [b] pos) (Q3 fa fb) :=
 .mk (L2.pt_cmp (Z4A hu ha hb) hm) fun σ H Q ⟨env,F,bb,ok,e,q⟩=>X9 (Q:=fun v H'=>∃ k,v=.bl k /\ Q k H') false ok e fun H' s=>⟨bb,rfl,q H' s⟩
noncomputable def wS (fa fb:En->Option D):En->Option D:=fun env=>match fa env,fb env with
 | some (.dk ks ds),some x=>match keyOf x with
  | some k=>match fU ks ds k with
   | some d=>if flat d=true then some d else none
   | none=>none
  | none=>none
 | _,_=>none
theorem Z2Y (hu:X.A.units + 1 < cLine) (ha:QE X m1 rs1 a fa) (hb:QE X m2 rs2 b fb) (hs:Z4W b:=by intro _ _;rfl):QE X m rs (.Subscript a b pos) (wS fa fb) :=
 .mk (L2.pe_dget hu ha hb hs) fun σ H Q ⟨env,F,d,ok,e,q⟩=>by
  unfold wS at e;split at e
  .rename_i ks ds x h1 h2;cases hk:keyOf x with
   | none=>rw [hk] at e;cases e
   | some k =>
    rw [hk] at e;simp only at e;cases hg:fU ks ds k with
    | none=>rw [hg] at e;cases e
    | some d' =>
     rw [hg] at e;simp only at e;split at e
     .rename_i hf;cases e;refine two ok h1 h2 fun v u H' f1 f2 s r1 r2 _ _=>?_;rw [nD hk r2];simp only [Rep] at r1;obtain⟨a,vs,fp',rfl,rfl,hsx,hl,hr⟩:=r1;obtain⟨w,g,g1,g2,g3⟩:=wN hr hg;refine⟨a,w,rfl,?_,q w H' [] s ((Rep.flat _ _ _ hf g2).2 m) .nil⟩;have:=DGet.k (k:=k) hsx;rw [oV,g1] at this;exact this
     .cases e
  .cases e
theorem sF {K:Frag}(sm:Same P H) (hl:σ.length=env.length) (h:EnvS K P H σ env F) (ei:env[i]? = some (some (true,d0)))
  (hv:σ[i]? = some (some (.ref a))) (hF:F i=a :: fp') (ha:H a=some o) (nt:∀ xs,o ≠ .tup xs) (nf:∀ x u,o ≠ .frz x u) (new:∀ st,Rep K st (upd H a o') d1 (.ref a) (a :: fp2)) (nd:(a :: fp2).Nodup) (hn:∀ b ∈ fp2,b ∈ fp' \/ (P b=none /\ ∀ j s,env[j]? = some (some s)->b ∉ F j)) :
  SInv K P (upd H a o') σ (env.set i (some (true,d1))):=by
 have hi:i < env.length:=(List.getElem?_eq_some_iff.mp ei).1;obtain⟨o1,o2,o3,o4⟩:=h.own i _ ei;have ha0:a ∈ F i:=by rw [hF];exact List.mem_cons_self
 have kp:∀ {fp:List Addr},a ∉ fp->Kp fp H (upd H a o'):=fun hn=>Kp.upd ha nt nf hn;refine⟨fun b o e=>?_,by simp [hl],Q0 F i (a :: fp2),fun j o d e=>?_,fun j d e=>?_⟩
 .have:b ≠ a:=fun z=>by have:=o2 a ha0;rw [z,this] at e;cases e
  rw [aJ this];exact sm _ _ e
 .rw [dD hi] at e;by_cases hj:j=i
  .subst hj;rw [if_pos rfl] at e;cases e;exact⟨_,hv,by rw [bJ];exact new false⟩
  .rw [if_neg hj] at e;obtain⟨w,h1,h2⟩:=h.ok j o d e;exact⟨w,h1,by rw [aX hj];exact Rep.keep _ _ _ (kp (o4 j _ hj e a ha0)) h2⟩
 .rw [dD hi] at e;by_cases hj:j=i
  .subst hj;rw [if_pos rfl] at e;cases e;refine⟨by rw [bJ];exact nd,fun b hb=>?_,fun w hw=>?_,fun k s hk ek b hb=>?_⟩
   .rw [bJ] at hb;rcases List.mem_cons.mp hb with z | z
    .rw [z];exact o2 a ha0
    .rcases hn b z with y | y
     .exact o2 b (by rw [hF];exact List.mem_cons_of_mem _ y)
     .exact y.1
   .rw [hv] at hw;cases hw;rw [bJ];exact new true
   .rw [bJ] at hb;rw [aX hk];rw [dD hi,if_neg hk] at ek;rcases List.mem_cons.mp hb with z | z
    .rw [z];exact o4 k s hk ek a ha0
    .rcases hn b z with y | y
     .exact o4 k s hk ek b (by rw [hF];exact List.mem_cons_of_mem _ y)
     .exact y.2 k s ek
  .rw [if_neg hj] at e;obtain⟨a1,a2,a3,a4⟩:=h.own j d e;refine⟨by rw [aX hj];exact a1,fun b hb=>a2 b (by rw [aX hj] at hb;exact hb),fun w hw=>by rw [aX hj];exact Rep.keep _ _ _ (kp (o4 j _ hj e a ha0)) (a3 w hw),fun k s hk ek b hb=>?_⟩;rw [aX hj] at hb;rw [dD hi] at ek;by_cases hki:k=i
   .subst hki;rw [bJ];intro z;rcases List.mem_cons.mp z with z | z
    .exact a4 k _ hk ei b hb (by rw [z];exact ha0)
    .rcases hn b z with y | y
     .exact a4 k _ hk ei b hb (by rw [hF];exact List.mem_cons_of_mem _ y)
     .exact y.2 j _ e hb
   .rw [if_neg hki] at ek;rw [aX hki];exact a4 k s hk ek b hb
noncomputable def tE (i:Nat) (fk fv:En->Option D):En->Res:=fun env=>match fv env,env[i]?,fk env with
 | some d,some (some (true,.dk ks ds)),some kd=>match keyOf kd with
  | some k=>if flats ds=true /\ flat d=true /\ ks.length < 1000 then .next (env.set i (some (true,.dk (N0 ks k) (tG ks ds k d)))) else .bad
  | none=>.bad
 | _,_,_=>.bad
theorem U0 (hu:X.A.units + 1 < cLine) (i:Nat) (hk:QE X m2 rs2 key fk) (hv:QE X m1 rs1 value fv) (hN:X.N[i]? = some x:=by rfl) (hvis:Vis X.env.scope x:=by first | exact Or.inl rfl | exact Or.inr (Or.inl rfl) | exact Or.inr (Or.inr rfl)) (hd:(x == ("__debug__" : Str))=false:=by decide) (hcd:(x == ("__classdict__" : Str))=false:=by decide)
  (hs:swapsWith value (some (.Subscript (.Name x p) key pos')) pos.line X.env=pure false:=by rfl) :
  QS X (.Assign [.Subscript (.Name x p) key pos'] value pos) (tE i fk fv):=.mk (Z35 hu (gD hN hvis hd hcd) hk hv hs) fun E σ H ⟨P,env,I,q⟩=>by
 obtain⟨F,hF⟩:=I.ex;unfold tE at q;split at q
 .rename_i d ks ds kd h1 h2 h3;cases hkk:keyOf kd with
  | none=>rw [hkk] at q;exact q.elim
  | some k =>
   rw [hkk] at q;simp only at q;split at q
   .rename_i hfl;obtain⟨w,hv1,_⟩:=hF.ok i true _ h2;obtain⟨o1,o2,o3,o4⟩:=hF.own i _ h2;have r0:=o3 w hv1;simp only [Rep] at r0;obtain⟨a,vs,fp',rfl,hFi,ha,hl,hr⟩:=r0;obtain⟨e1,e2⟩:=Reps.flat _ _ _ hfl.1 hr;subst e1;refine⟨env,F,d,hF.ok,h1,fun v H1 fp s r c=>⟨.ref a,hv1,env,F,kd,hF.ok.same s,h3,fun kv H2 fp2 s2 r2 c2=>?_⟩⟩;obtain⟨_,rf⟩:=Rep.flat _ _ _ hfl.2.1 r;rw [nD hkk r2];have ha':=(s.trans s2) _ _ ha;have hlk:(ks.zip vs).length < sizeLine:=by
     rw [List.length_zip];have:=gA (n:=ks.length) (by omega);omega
    refine⟨a,_,rfl,DPut.k ha' hlk,q _ _ ?_⟩;refine sF (fp2:=[]) (fp':=[]) (I.same.trans (s.trans s2)) I.len (hF.grow (s.trans s2)) h2 hv1 hFi ha' (by intro xs z;cases z) (by intro x u z;cases z) (fun st=>?_) (by simp) (fun b hb=>(by cases hb));rw [Z1m hl];simp only [Rep];refine⟨a,tG ks vs k v,[],rfl,rfl,aR,Z1k hl,?_⟩;refine Reps.keep _ _ _ (Kp.upd (fp:=[]) ha' (by intro xs z;cases z) (by intro x u z;cases z) (by simp)) ?_;exact Z1j ((rf st).same s2) ((e2 st).same (s.trans s2))
   .exact q.elim
 .exact q.elim
end
section
theorem G4 (S:PySem.W.KdlSrc prog w T r d n PP OK) (h0:A.handled=none) (hS:OK s.heap) (hz:n <= sizeLine)
  (fin:∀ (hp:Heap) (tk:Nat) (vs:Array Value),(∀ c o,s.heap.get? c=some o->hp.get? c=some o)->s.heap.objs.size < hp.objs.size->PySem.ItemsOf PP vs n->Z vs.toList { s with heap:=hp,toks:=tk }) :
  wpAny (model prog w) A (collect (.ref r)) Z E s:=by
 obtain⟨l1,l2⟩:=S.there _ hS;unfold collect;refine wpAny_bind (wpAny_runValue (codeAny_builtin PyProof.Rows.entry_proto_collect' ?_));rw [Around.under_plainId PySem.F.plain_proto_collect _];show wpAny _ A.in1 (newList [] >>= fun nl=>again (.builtin "list.__iadd__" ⟨[nl,.ref r],[]⟩)) _ _ s;refine wpAny_bind (wpAny_newObj_type (wpAny_pure ⟨plainId_quiet PySem.F.plain_list_iadd _,codeAny_builtin PyProof.Rows.entry_list_iadd' ?_⟩));rw [Around.under_plainId PySem.F.plain_list_iadd _];have hN:(s.heap.push { cls:=.type "list",data:=.seq ([]:List Value).toArray }).get? s.heap.objs.size=some { cls:=.type "list",data:=.seq #[] }:=Heap.get?_push_size _ rfl;have ext:=PySem.W.kdl_extend (A:=A) (s:={ s with heap:=s.heap.push { cls:=.type "list",data:=.seq ([]:List Value).toArray } })
  (R:=fun (q:Result) (t:Shared)=>q=.ok (.ret (.ref s.heap.objs.size)) /\ ∃ (hp:Heap) (tk:Nat) (vs:Array Value) (k:Nat),t={ s with heap:=hp,toks:=tk } /\ (∀ c o,s.heap.get? c=some o->hp.get? c=some o) /\
   hp.get? s.heap.objs.size=some { cls:=.type "list",dict:=none,data:=.seq vs k,slots:=#[] } /\ PySem.ItemsOf PP vs n)
  S h0 (S.keep _ _ hS fun c _ o e=>Heap.get?_push_of_some _ e) s.heap.objs.size (Nat.ne_of_gt l1) (Nat.ne_of_gt l2) (.ref s.heap.objs.size) 0 hN
  (fun hp tk vs k kept at' its=>⟨rfl,hp,tk,vs,k,rfl,fun c o e=>kept c o (Nat.ne_of_lt (Heap.lt_size e)) (Heap.get?_push_of_some _ e),at',its⟩) hz
 show wpAny _ A.in1 (Builtin.List.listExtendWith (.ref s.heap.objs.size) (.ref r) (.ref s.heap.objs.size)) _ _ _;refine wpAny_mono ext (fun out t hq=>?_) fun x t hq=>(by cases hq.1);cases out with
 | done fl =>
  obtain⟨e,hp,tk,vs,k,rfl,kept,at',its⟩:=hq;cases e;show wpAny _ A (load s.heap.objs.size >>= _) _ _ _;exact wpAny_bind (wpAny_load at' (wpAny_pure (fin hp tk vs kept (Heap.lt_size at') its)))
 | again code =>
  refine⟨hq.1,codeAny_mono hq.2 fun res t2 hr=>?_⟩;obtain⟨rfl,hp,tk,vs,k,rfl,kept,at',its⟩:=hr;show wpAny _ A (load s.heap.objs.size >>= _) _ _ _;exact wpAny_bind (wpAny_load at' (wpAny_pure (fin hp tk vs kept (Heap.lt_size at') its)))
end
theorem tU:∀ {l:List Value}{ns:List Int},l.length=ns.length->(∀ (j:Nat) (v:Value),l[j]? = some v->∃ n t,ns[j]? = some n /\ v=.int n t)->IntsAre l ns
 | [],[],_,_=>.nil
 | [],_ :: _,h,_=>by cases h
 | _ :: _,[],h,_=>by cases h
 | v :: l,n :: ns,h,hv=>by
  obtain⟨n',t,e,rfl⟩:=hv 0 v rfl;cases e;exact .cons n t (tU (by simpa using h) fun j u hu=>hv (j + 1) u hu)
section
theorem vK (hc:X.calm=true):CallR X (.builtin "sorted") (fun vs H Q=>∃ (a:Addr) (kvs:List (Key × V)) (ns:List Int),vs=[.ref a] /\ H a=some (.dK kvs) /\ kvs.map (·.1)=ns.map Sum.inl /\ ns.length < 64 /\ ∀ l,H l=none->Q (.ref l) (upd H l (.lst ((lJ ns).map V.int)))):=fun pins s σ H xs us Q I w h=>by
 obtain⟨a,kvs,ns,rfl,ha,hk,h64,q⟩:=h;obtain⟨u,rfl,r⟩:=nQ w;cases (show u=Value.ref a from r)
 obtain⟨z,hd,vs,rel,dd⟩:=W4 I.hok ha;obtain⟨ep,hat⟩:=dd.dictAt;have hkeys:=rel.keys;have hlen:=rel.length;have hn:vs.length=ns.length:=by
  have:=congrArg List.length hk;simp only [List.length_map] at this;omega
 have hz:vs.length <= sizeLine:=by omega
 refine Calls.call_function_entry kind_sorted plain_sorted entry_sorted (args_sorted1 _) ?_;unfold Builtin.«sorted»;refine wpAny_bind (m:=checkCount "sorted" 1 1 _) (wpAny_pure ?_);refine wpAny_bind (G4 (A:=X.A.in1) (PySem.W.kdl_dict (knd:=dC X.prog X.w) (kvs:=vs) (ep:=ep) hd) (I.ok.hd hc) hat hz fun hp tk acc kept hlt its=>?_);have hI:IntsAre acc.toList ns:=by
  refine tU (by rw [Array.length_toList,its.1,hn]) fun j v hv=>?_;rw [Array.getElem?_toList] at hv;obtain⟨k,x,hx,hkv⟩:=its.2 j v hv;have e1:(vs.map (·.1))[j]? = some k:=by rw [List.getElem?_map,hx];rfl
  rw [<- hkeys,hk,List.getElem?_map] at e1;cases hns:ns[j]? with
  | none=>rw [hns] at e1;cases e1
  | some n =>
   rw [hns] at e1;simp only [Option.map_some,Option.some.injEq] at e1;subst e1;rcases cM (show rE (Sum.inl n) v=true from hkv) with ⟨i,t,e,rfl⟩ | ⟨x,t,e,_⟩
   .cases e;exact⟨n,t,rfl,rfl⟩
   .cases e
 have hal:acc.toList.length < 64:=by rw [Array.length_toList,its.1,hn];exact h64
 refine wpAny_bind (wpAny_newList ?_ (by rw [Array.length_toList,its.1];exact hz));have hoL:(hp.push { cls:=.type "list",data:=.seq acc.toList.toArray }).get? hp.objs.size=some (seqObj "list" acc.toList.toArray 0):=Heap.get?_push_size _ rfl;refine wpAny_bind (wpAny_holding (wpAny_call_entry slot_list_sort ⟨_,hoL,rfl⟩ entry_list_sort (list_sort_tree hoL hI hal fun out ns' a1 a2 a3=>⟨_,rfl,?_⟩) (args_list_sort _)));refine wpAny_pure ⟨_,rfl,?_⟩;obtain⟨ee,he⟩:=sortedHeap_at (out:=out) hoL;have hns:ns'=lJ ns:=fN (a2.trans (fZ ns).symm) a3 (gU ns);subst hns;refine⟨.ref hp.objs.size,_,I.laid (t':=tk) (fun c u e=>?_) (Nat.le_of_lt hlt) (show ObjOk X.prog X.w _ _ _ (.lst ((lJ ns).map V.int)) from ⟨?_,out.toList,ee,jS a1,?_⟩),rfl,q _ (I.hok.fresh (Nat.le_of_lt hlt))⟩
 .have e':=kept c u e;have h2:=Heap.lt_size e';rw [sortedHeap_old (Nat.ne_of_lt h2) (by rw [size_push'];exact Nat.lt_succ_of_lt h2)];exact Heap.get?_push_of_some _ e'
 .have:=a2.length_eq;rw [List.length_map,this];omega
 .rw [Array.toArray_toList];exact he
noncomputable def jG:List Key->Option (List Int)
 | []=>some []
 | .inl i :: r=>(jG r).map (i :: ·)
 | .inr _ :: _=>none
theorem rF:∀ {ks:List Key}{ns:List Int},jG ks=some ns->ks=ns.map Sum.inl
 | [],ns,h=>by cases h;rfl
 | .inl i :: r,ns,h=>by
  unfold jG at h;cases hr:jG r with
  | none=>rw [hr] at h;cases h
  | some m=>rw [hr] at h;cases h;rw [List.map_cons,<- rF hr]
 | .inr _ :: _,ns,h=>by cases h
theorem P3 (ns:List Int):jG (ns.map Sum.inl)=some ns:=by
 induction ns with
 | nil=>rfl
 | cons n ns ih=>rw [List.map_cons];unfold jG;rw [ih];rfl
noncomputable def zG:List D->Option D
 | [.dk ks _]=>match jG ks with
  | some ns=>if ns.length < 64 then some (.lst ((lJ ns).map .int)) else none
  | none=>none
 | _=>none
theorem Z1e (hc:X.calm=true) (hg:Gl X "sorted") (hm:X.mg "sorted" = none) (ha:QE X m1 rs1 a fa) (he:starEach [a] X.env=(false,eval a X.env) :: starEach [] X.env:=by rfl) (hpl:(backTo pos (starEach [] X.env)).any (·.1)=false:=by rfl) :
  QE X m rs (.Call (.Name "sorted" p) [a] [] pos) (fB1 zG (aB fa aH)) :=
 jZ (vK hc) hg hm rM (aD ha bG he) (fun ds d vs H fp Q e r q=>by
  unfold zG at e;split at e
  .rename_i ks xs;cases hq:jG ks with
   | none=>rw [hq] at e;cases e
   | some ns =>
    rw [hq] at e;simp only at e;split at e
    .rename_i h64;cases e;obtain⟨v,rfl,r1⟩:=iL r;simp only [Rep] at r1;obtain⟨p,ws,fp',rfl,rfl,hs,hl,hr⟩:=r1;refine⟨p,_,ns,rfl,hs,?_,h64,fun l hl=>?_⟩
     .rw [<- rF hq,List.map_fst_zip (by omega)]
     .exact q _ _ [l] (bS hl) (oN hl (jV (lJ ns))) (fun b hb=>by simp at hb;rw [hb];exact hl) (by simp)
    .cases e
  .cases e) (he:=he) (hpl:=hpl)
end
noncomputable abbrev Itm:=Sum Nat (En->Option D)
noncomputable def gO:List Itm->En->Option (List D)
 | [],_=>some []
 | .inl i :: r,env=>match env[i]?,gO r env with
  | some (some (true,d)),some ds=>some (d :: ds)
  | _,_=>none
 | .inr f :: r,env=>match f env,gO r env with
  | some d,some ds=>some (d :: ds)
  | _,_=>none
noncomputable def ownOf:List Itm->List Nat
 | []=>[]
 | .inl i :: r=>i :: ownOf r
 | .inr _ :: r=>ownOf r
noncomputable def Z44 (K:Frag) (is:List Itm):TA:=fun σ H Q=>∃ P env F ds,Same P H /\ EnvS K P H σ env F /\ gO is env=some ds /\
 ∀ vs H' fp,Same H H'->Reps K true H' ds vs fp->fp.Nodup->(∀ b ∈ fp,P b=none /\ (H b=none \/ ∃ i ∈ ownOf is,∃ d,env[i]? = some (some (true,d)) /\ b ∈ F i))->Q vs H'
noncomputable def QIt (X:Cx) (es:List Expr) (is:List Itm):Prop:=PA X es (Z44 X.K is)
section
theorem xP:QIt X [] []:=fun pos pins s σ H Q I ⟨P,env,F,ds,sm,hF,e,q⟩=>L2.pa_nil pos pins s σ H Q I (by
 cases e;exact q [] H [] (Same.refl H) (by simp only [Reps];exact⟨trivial,trivial⟩) List.nodup_nil (fun b hb=>(by cases hb)))
theorem xO (i:Nat) (hr:QIt X es is) (hni:i ∉ ownOf is:=by simp [PD.ownOf]) (hN:X.N[i]? = some x:=by rfl) (hv:Vis X.env.scope x:=by first | exact Or.inl rfl | exact Or.inr (Or.inl rfl) | exact Or.inr (Or.inr rfl)) (hd:(x == ("__debug__" : Str))=false:=by decide) (hcd:(x == ("__classdict__" : Str))=false:=by decide)
  (h1:starEach (.Name x p :: es) X.env=(false,eval (.Name x p) X.env) :: starEach es X.env:=by rfl):QIt X (.Name x p :: es) (.inl i :: is) :=
 fun pos pins s σ H Q I ⟨P,env,F,ds,sm,hF,e,q⟩=>L2.pa_cons (gD hN hv hd hcd) hr h1 pos pins s σ H Q I (by
  unfold gO at e;split at e
  .rename_i d ds' e1 e2;cases e;obtain⟨v,hv1,_⟩:=hF.ok i true d e1;obtain⟨a1,a2,a3,a4⟩:=hF.own i d e1;refine⟨v,hv1,P,env,F,ds',sm,hF,e2,fun vs H' fp s r nd hb=>?_⟩;refine q (v :: vs) H' (F i ++ fp) s ?_ (List.nodup_append.mpr ⟨a1,nd,fun b hb1 b' hb2 z=>?_⟩) (fun b hb'=>?_)
   .simp only [Reps];exact⟨v,vs,F i,fp,rfl,rfl,(a3 v hv1).same s,r⟩
   .rw [<- z] at hb2;rcases (hb b hb2).2 with y | ⟨k,hk,d',ek,hbk⟩
    .obtain⟨o,ho⟩:=hF.dom e1 b hb1;rw [y] at ho;cases ho
    .exact a4 k _ (fun z=>hni (z ▸ hk)) ek b hb1 hbk
   .rcases List.mem_append.mp hb' with z | z
    .exact⟨a2 b z,.inr ⟨i,by simp [ownOf],d,e1,z⟩⟩
    .obtain⟨y1,y2⟩:=hb b z;exact⟨y1,y2.imp id fun⟨k,hk,d',ek,hbk⟩=>⟨k,by simp [ownOf,hk],d',ek,hbk⟩⟩
  .cases e)
theorem xQ (he:QE X true [] e f) (hr:QIt X es is) (h1:starEach (e :: es) X.env=(false,eval e X.env) :: starEach es X.env:=by rfl):QIt X (e :: es) (.inr f :: is) :=
 fun pos pins s σ H Q I ⟨P,env,F,ds,sm,hF,e',q⟩=>L2.pa_cons he hr h1 pos pins s σ H Q I (by
  unfold gO at e';split at e'
  .rename_i d ds' e1 e2;cases e';refine⟨env,F,d,hF.ok,e1,fun v H1 fp1 s1 r1 c1=>⟨P,env,F,ds',sm.trans s1,hF.grow s1,e2,fun vs H' fp s r nd hb=>?_⟩⟩;obtain⟨n1,n2⟩:=c1.2 rfl;refine q (v :: vs) H' (fp1 ++ fp) (s1.trans s) ?_ (List.nodup_append.mpr ⟨n1,nd,fun b hb1 b' hb2 z=>?_⟩) (fun b hb'=>?_)
   .simp only [Reps];exact⟨v,vs,fp1,fp,rfl,rfl,r1.same s,r⟩
   .rw [<- z] at hb2;rcases (hb b hb2).2 with y | ⟨k,hk,d',ek,hbk⟩
    .obtain⟨o,ho⟩:=Rep.dom _ _ _ r1 b hb1;rw [y] at ho;cases ho
    .obtain⟨o,ho⟩:=hF.dom ek b hbk;rw [n2 b hb1] at ho;cases ho
   .rcases List.mem_append.mp hb' with z | z
    .exact⟨sm.free (n2 b z),.inl (n2 b z)⟩
    .obtain⟨y1,y2⟩:=hb b z;refine⟨y1,?_⟩;rcases y2 with y | y
     .exact .inl (s1.free y)
     .obtain⟨k,hk,d',ek,hbk⟩:=y;exact .inr ⟨k,by simpa [ownOf] using hk,d',ek,hbk⟩
  .cases e')
noncomputable def lE (is:List Itm):En->Res:=fun env=>match gO is env with
 | some ds=>if ds.length <= 1000 then .ret (.tup ds) else .bad
 | none=>.bad
theorem xN (h:QIt X es is):QS X (.Return (some (.Tuple es k1 p3)) pos) (lE is):=.mk (tI (L2.pe_tup h)) fun E σ H ⟨P,env,I,q⟩=>by
 obtain⟨F,hF⟩:=I.ex;unfold lE at q;split at q
 .rename_i ds e1;split at q
  .rename_i hl;refine⟨P,env,F,ds,I.same,hF,e1,fun vs H' fp s r nd hb=>⟨by rw [r.length];exact Nat.le_of_lt (gA hl),fun q' hq=>?_⟩⟩;exact q _ _ fp ((I.same.trans s).trans (bS hq)) (oM hq r) (fun b hb'=>(hb b hb').1) nd
  .exact q.elim
 .exact q.elim
end
end PD
namespace HT
open PySem PyProof.Rows
section
end
end HT
namespace PD
open PySem PySem.Spec PyProof.Rows L2
section
end
section
end
section
@[simp] theorem ev_var:aA i env=(env[i]?).join.map (·.2):=(rfl)
@[simp] theorem ev_C:fC d env=some d:=(rfl)
theorem mT {C:Int->Int->Prop}{g:Int->Int->D}{i j:Int}(ha:fa env=some (.int i)) (hb:fb env=some (.int j)) (hc:C i j):fI2 C g fa fb env=some (g i j):=by simp [fI2,ha,hb,hc]
theorem lI {g:Int->Int->D}{i j:Int}(ha:fa env=some (.int i)) (hb:fb env=some (.int j)):fI0 g fa fb env=some (g i j):=by simp [fI0,ha,hb]
@[simp] theorem ev_Flat:aV f env=match f env with | some d=>if flat d=true then some d else none | none=>none:=(rfl)
@[simp] theorem ev_B:fB f env=match f env with | some (.bl b)=>some b | _=>none:=(rfl)
@[simp] theorem ev_OfB:hU b env=(b env).map .bl:=(rfl)
@[simp] theorem ev_And:iT b c env=match b env with | some true=>c env | some false=>some false | none=>none:=(rfl)
@[simp] theorem ev_Or:fOr b c env=match b env with | some false=>c env | some true=>some true | none=>none:=(rfl)
@[simp] theorem ev_Not:cR b env=(b env).map (!·):=(rfl)
@[simp] theorem ev_Nil:aH env=some []:=(rfl)
@[simp] theorem ev_Cons:aB f fs env=match f env,fs env with | some d,some ds=>some (d :: ds) | _,_=>none:=(rfl)
@[simp] theorem ev_Tup:fJ fs env=match fs env with | some ds=>if ds.length <= 1000 then some (.tup ds) else none | none=>none:=(rfl)
@[simp] theorem ev_Lst:fY fs env=match fs env with | some ds=>if ds.length <= 1000 then some (.lst ds) else none | none=>none:=(rfl)
@[simp] theorem ev_BI:fBI p fa fb env=match fa env,fb env with | some (.int i),some (.int j)=>some (p i j) | _,_=>none:=(rfl)
@[simp] theorem ev_IsN:lM neg fa env=match fa env with | some .non=>some (!neg) | some _=>some neg | none=>none:=(rfl)
@[simp] theorem ev_Eq:fEq fa fb env=match fa env,fb env with | some x,some y=>eqN 8 x y | _,_=>none:=(rfl)
@[simp] theorem ev_Ix : fIx fa fb env = match fa env, fb env with
 | some (.lst ds),some (.int i)=>atI ds i
 | some (.tup ds),some (.int i)=>atI ds i
 | some (.str z),some (.int i)=>if z.length <= 1000 then (atI z.cps.toList i).map fun c=>.str ⟨#[c]⟩ else none
 | _,_=>none:=(rfl)
@[simp] theorem ev_I2' {C : Int -> Int -> Prop} {g : Int -> Int -> D} : fI2 C g fa fb env = match fa env, fb env with
 | some (.int i),some (.int j)=>open Classical in if C i j then some (g i j) else none
 | _,_=>none:=(rfl)
@[simp] theorem ev_I0' {g : Int -> Int -> D} : fI0 g fa fb env = match fa env, fb env with
 | some (.int i),some (.int j)=>some (g i j)
 | _,_=>none:=(rfl)
@[simp] theorem ev_Call:aM F' dds fs env=match fs env with | some xs=>F' (xs ++ dds) | none=>none:=by unfold aM;cases fs env <;> rfl
@[simp] theorem ev_B1:fB1 F' fs env=match fs env with | some xs=>F' xs | none=>none:=by unfold fB1;cases fs env <;> rfl
@[simp] theorem ev_IsT {c:String}:qU c fa env=match fa env with | some d=>(lL c d).map .bl | none=>none:=by unfold qU;cases fa env <;> rfl
@[simp] theorem ev_NoP:vH env=some none:=(rfl)
@[simp] theorem ev_P:fP f env=match f env with | some (.int i)=>some (some i) | _=>none:=(rfl)
@[simp] theorem ev_seq:dM fa env=match fa env with | some (.lst ds)=>some ds | some (.tup ds)=>some ds | _=>none:=(rfl)
@[simp] theorem ev_TT:fTT env=some true:=(rfl)
theorem ev_Sl:fSl fa fl fh env=match fa env,fl env,fh env with
 | some (.lst ds),some lo,some hi=>if flats ds=true then some (.lst (cutD ds lo hi)) else none
 | some (.tup ds),some lo,some hi=>if flats ds=true /\ ¬ (HT.sIx ds.length 0 lo=0 /\ HT.sIx ds.length ds.length hi=ds.length) then some (.tup (cutD ds lo hi)) else none
 | _,_,_=>none:=(rfl)
theorem ev_In:fIn fa fb env=match fa env,fb env with | some x,some y=>inF x y | _,_=>none:=(rfl)
theorem ev_InK:Q3 fa fb env=match fa env,fb env with
 | some x,some (.dk ks ds)=>match keyOf x with
  | some k=>some (tQ k ks)
  | none=>none
 | _,_=>none:=(rfl)
theorem ev_DGet:wS fa fb env=match fa env,fb env with
 | some (.dk ks ds),some x=>match keyOf x with
  | some k=>match fU ks ds k with
   | some d=>if flat d=true then some d else none
   | none=>none
  | none=>none
 | _,_=>none:=(rfl)
theorem ev_Bits:uE fa env=match fa env with | some (.int i)=>some (.int ((Builtin.Int.intBits i:Nat):Int)) | _=>none:=(rfl)
@[simp] theorem ev_rNext:bD env=.next env:=(rfl)
@[simp] theorem ev_rIf:rIf c g h env=match c env with | some true=>g env | some false=>h env | none=>.bad:=(rfl)
@[simp] theorem ev_rRet:bM f env=match f env with | some d=>.ret d | none=>.bad:=(rfl)
@[simp] theorem ev_rSet:bI i f env=match f env with | some d=>.next (env.set i (some (true,d))) | none=>.bad:=(rfl)
@[simp] theorem ev_rSeq:aK g h env=match g env with | .next env'=>h env' | r=>r:=(rfl)
end
noncomputable def LI (xs:List Int):D:=.lst (xs.map .int)
theorem eqN_int (n:Nat) (a b:Int):eqN (n + 1) (.int a) (.int b)=some (decide (a=b)):=by simp only [eqN];congr
theorem eqN_str (n:Nat) (a b:Str):eqN (n + 1) (.str a) (.str b)=some (a == b):=by simp only [eqN]
theorem eqN_bl (n:Nat) (a b:Bool):eqN (n + 1) (.bl a) (.bl b)=some (a == b):=by simp only [eqN]
theorem eqN_non:eqN (n + 1) .non .non=some true:=by simp only [eqN]
theorem eqN_tnon:eqN (n + 1) (.tup xs) .non=some false:=by simp only [eqN]
theorem eqN_tup (n:Nat) (xs ys:List D):eqN (n + 1) (.tup xs) (.tup ys)=(eqL (eqN n) xs ys).map (· && xs.length == ys.length):=by simp only [eqN]
theorem W1 (n:Nat) (xs ys:List D):eqN (n + 1) (.lst xs) (.lst ys)=if xs.length=ys.length then eqL (eqN n) xs ys else some false:=by simp only [eqN]
theorem eqL_cons:eqL f (x :: xs) (y :: ys)=match f x y,eqL f xs ys with | some a,some b=>some (a && b) | _,_=>none:=by rw [eqL];try (cases f x y <;> cases eqL f xs ys <;> rfl)
theorem eqL_nil:eqL f [] ys=some true:=by simp only [eqL]
theorem eqL_nilL:eqL f xs []=some true:=by cases xs <;> simp only [eqL]
theorem atI_m3 (x y z:α):atI [x,y,z] (-1)=some z:=rfl
theorem atI_m4 (x y z w:α):atI [x,y,z,w] (-1)=some w:=rfl
theorem atI_0 (x:α) (xs:List α):atI (x :: xs) 0=some x:=iD (j:=0) rfl
theorem atI_1 (x y:α) (xs:List α):atI (x :: y :: xs) 1=some y:=iD (j:=1) rfl
theorem atI_2 (x y z:α) (xs:List α):atI (x :: y :: z :: xs) 2=some z:=iD (j:=2) rfl
theorem atI_3 (x y z w:α) (xs:List α):atI (x :: y :: z :: w :: xs) 3=some w:=iD (j:=3) rfl
theorem jD (h:-(2 ^ 64) < a) (h2:a < 2 ^ 64):IntMulOk a b:=.of_left (PySem.intBits_le_64 h h2)
theorem yH (h:-(2 ^ 64) < b) (h2:b < 2 ^ 64):IntMulOk a b:=.of_right (PySem.intBits_le_64 h h2)
theorem Z11 (n:Nat):HT.sIx (n + 1) 0 (some 1)=1:=by
 have:=HT.sIx_nat (n + 1) 0 1;simpa using this
theorem Z3x (x:D) (xs:List D):PD.cutD (x :: xs) (some 1) none=xs:=by
 unfold PD.cutD;rw [List.length_cons,Z11,HT.sIx_none];simp
theorem pQ (xs:List D) (n:Nat):PD.cutD xs none (some (n:Int))=xs.take n:=by
 unfold PD.cutD;rw [HT.sIx_nat,HT.sIx_none];simp only [List.drop_zero,Nat.sub_zero];by_cases h:n <= xs.length
 .rw [Nat.min_eq_left h]
 .rw [Nat.min_eq_right (by omega),List.take_length,List.take_of_length_le (by omega)]
noncomputable def nth (vs:List Int) (a:Int):Int:=vs.getD a.toNat 0
theorem iU {vs:List Int}{a:Int}(h0:0 <= a) (h1:a < vs.length):atI (vs.map D.int) a=some (.int (nth vs a)):=by
 have e:atI (vs.map D.int) ((a.toNat:Nat):Int)=some (.int (nth vs a)):=by
  refine iD ?_;have hl:a.toNat < vs.length:=by omega
  simp [nth,List.getD,hl]
 rwa [Int.toNat_of_nonneg h0] at e
theorem fF (xs:List Int):flats (xs.map D.int)=true:=iG fun d hd=>by
 obtain⟨i,_,rfl⟩:=List.mem_map.mp hd;rfl
theorem Z21 {n:Nat}{l:Int}(h0:0 <= l) (h1:l < n):ixN n l=some l.toNat:=by simp [ixN,h0,h1]
theorem nG:∀ (xs:List Int),kC (xs.map D.int)=some xs
 | []=>rfl
 | x :: xs=>by simp only [List.map_cons,kC,nG xs,Option.map_some]
theorem L9 (xs:List Int):zF [.lst (xs.map D.int)]=some (.int xs.sum):=by simp only [zF,nG,Option.map_some]
theorem F1 (I:Nat->En->Prop):∀ (ds:List D) (k:Nat) (env:En),(∀ i d env,ds[i]? = some d->I (k + i) env->∃ env1 env2,t d env=some env1 /\ (g env1=.next env2 \/ g env1=.cont env2) /\ I (k + i + 1) env2)->I k env ->
  ∃ env',mQ t g ds env=.next env' /\ I (k + ds.length) env'
 | [],k,env,_,h=>⟨env,rfl,h⟩
 | d :: ds,k,env,st,h=>by
  obtain⟨env1,env2,h1,h2,h3⟩:=st 0 d env rfl h;obtain⟨env',h4,h5⟩:=F1 I ds (k + 1) env2 (fun i d' e hd hI=>by
   have:=st (i + 1) d' e (by simpa using hd) (by rwa [show k + (i + 1)=k + 1 + i by omega])
   rwa [show k + (i + 1) + 1=k + 1 + i + 1 by omega] at this) h3
  refine⟨env',?_,by rwa [List.length_cons,show k + (ds.length + 1)=k + 1 + ds.length by omega]⟩;unfold mQ;rw [h1];simp only;rcases h2 with h2 | h2 <;> (rw [h2];exact h4)
theorem cB (h:g (enStart L ds)=.ret d):runF L g ds=some d:=by unfold runF;rw [h]
theorem Z2E (e:g env=.next env') (q:h env'=r):aK g h env=r:=by unfold aK;rw [e];exact q
theorem Z5 (e:src env=some ds) (h:mQ t g ds (fz rs env)=.next env'):dR rs src t g env=.next env':=by unfold dR;rw [e];exact h
theorem dQ (h:f env=some (.lst ds)):dM f env=some ds:=by unfold dM;rw [h]
theorem Z0x (I:Nat->En->Prop) {ds:List D}{env:En}(st:∀ i d env,ds[i]? = some d->I i env->∃ env1 env2,t d env=some env1 /\ (g env1=.next env2 \/ g env1=.cont env2) /\ I (i + 1) env2) (h:I 0 env) :
  ∃ env',mQ t g ds env=.next env' /\ I ds.length env':=by
 have:=F1 I ds 0 env (fun i d e hd hI=>by rw [Nat.zero_add] at *;exact st i d e hd hI) h
 rwa [Nat.zero_add] at this
theorem mB (h:f env=some d) (q:k (env.set i (some (true,d)))=r):aK (bI i f) k env=r:=by unfold aK bI;rw [h];exact q
theorem Z1 (e:c env=some true) (q:aK g k env=r):aK (rIf c g h) k env=r:=by
 unfold aK rIf at *;rw [e];exact q
theorem sNo (e:c env=some false) (q:k env=r):aK (rIf c g bD) k env=r:=by
 unfold aK rIf;rw [e];exact q
theorem vW (h:f env=some d):aK (bM f) k env=.ret d:=by unfold aK bM;rw [h]
theorem eR (h:f env=some d):bM f env=.ret d:=by unfold bM;rw [h]
theorem Z2J (h:f env=some d):bI i f env=.next (env.set i (some (true,d))):=by unfold bI;rw [h]
theorem Z17 (e:c env=some true) (q:g env=r):rIf c g h env=r:=by unfold rIf;rw [e];exact q
theorem Z2M (e:c env=some false) (q:h env=r):rIf c g h env=r:=by unfold rIf;rw [e];exact q
theorem iY (h:f env=some d) (e:env[i]? = some (some (true,.lst ds))) (hl:ds.length <= 1000):fI i f env=.next (env.set i (some (true,.lst (ds ++ [d])))):=by unfold fI;rw [h,e];simp [hl]
theorem F3 {g k:En->Res}(I:Nat->En->Prop):∀ (ds:List D) (n:Nat) (env:En),(∀ i d env,ds[i]? = some d->I (n + i) env->∃ env1,t d env=some env1 /\ ((∃ env2,(g env1=.next env2 \/ g env1=.cont env2) /\ I (n + i + 1) env2) \/ (∃ d',g env1=.ret d' /\ r=.ret d') \/ (∃ env2,g env1=.brk env2 /\ k env2=r)))->I n env ->
  (∀ env',I (n + ds.length) env'->k env'=r)->(match mQ t g ds env with | .next e=>k e | r=>r)=r
 | [],n,env,_,h,q=>by simpa [mQ] using q env (by simpa using h)
 | d :: ds,n,env,st,h,q=>by
  obtain⟨env1,h1,h2⟩:=st 0 d env rfl h;unfold mQ;rw [h1];rcases h2 with ⟨env2,h3,h4⟩ | ⟨d',h3,rfl⟩ | ⟨env2,h3,h4⟩
  .have ih:=F3 (k:=k) (r:=r) I ds (n + 1) env2 (fun i d' e hd hI=>by
    have:=st (i + 1) d' e (by simpa using hd) (by rwa [show n + (i + 1)=n + 1 + i by omega])
    rwa [show n + (i + 1) + 1=n + 1 + i + 1 by omega] at this) h4 (fun e he=>q e (by rwa [List.length_cons,show n + (ds.length + 1)=n + 1 + ds.length by omega]))
   rcases h3 with h3 | h3 <;> (simp only [h3];exact ih)
  .simp only [h3]
  .simp only [h3];exact h4
theorem Z6j (hs:src env=some ds) (I:Nat->En->Prop) (h0:I 0 (fz rs env))
  (st:∀ i d env,ds[i]? = some d->I i env->∃ env1,t d env=some env1 /\ ((∃ env2,(g env1=.next env2 \/ g env1=.cont env2) /\ I (i + 1) env2) \/ (∃ d',g env1=.ret d' /\ r=.ret d') \/ (∃ env2,g env1=.brk env2 /\ k env2=r)))
  (hend:∀ env',I ds.length env'->k env'=r):aK (dR rs src t g) k env=r:=by
 unfold aK dR;rw [hs];exact F3 I ds 0 _ (fun i d e hd hI=>by rw [Nat.zero_add] at *;exact st i d e hd hI) h0 (fun e he=>hend e (by rwa [Nat.zero_add] at he))
theorem mC (hs:src env=some ds) (I:Nat->En->Prop) (h0:I 0 (fz rs env))
  (st:∀ i d env,ds[i]? = some d->I i env->∃ env1 env2,t d env=some env1 /\ g env1=.next env2 /\ I (i + 1) env2)
  (hend:∀ env',I ds.length env'->k env'=r):aK (dR rs src t g) k env=r :=
 Z6j hs I h0 (fun i d e hd hI=>let ⟨e1,e2,a,b,c⟩:=st i d e hd hI;⟨e1,a,.inl ⟨e2,.inl b,c⟩⟩) hend
theorem qX (φ:α->D) (ψ:α->D):∀ (xs:List α),(∀ x ∈ xs,fe (some (false,φ x) :: env)=some (ψ x))->cT fTT fe env (xs.map φ)=some (xs.map ψ)
 | [],_=>rfl
 | x :: xs,h=>by
  have h1:=h x List.mem_cons_self;have ih:=qX φ ψ xs fun y hy=>h y (List.mem_cons_of_mem _ hy);simp only [List.map_cons,cT,fTT,h1];rw [ih]
theorem fG (φ:α->D) (ψ:α->D) {xs:List α}(hs:src env=some (xs.map φ)) (hl:xs.length <= 1000) (h:∀ x ∈ xs,fe (some (false,φ x) :: lO fr env)=some (ψ x)) :
  cC fr src fTT fe env=some (.lst (xs.map ψ)):=by
 unfold cC;rw [hs];simp only [List.length_map,hl,if_true];rw [qX φ ψ xs h];rfl
theorem pR (φ:α->D) (ψ:α->D) (p:α->Bool):∀ (xs:List α),(∀ x ∈ xs,fc (some (false,φ x) :: env)=some (p x))->(∀ x ∈ xs,p x=true->fe (some (false,φ x) :: env)=some (ψ x))->cT fc fe env (xs.map φ)=some ((xs.filter p).map ψ)
 | [],_,_=>rfl
 | x :: xs,hc,h=>by
  have h1:=hc x List.mem_cons_self;have ih:=pR φ ψ p xs (fun y hy=>hc y (List.mem_cons_of_mem _ hy)) fun y hy=>h y (List.mem_cons_of_mem _ hy);simp only [List.map_cons,cT,h1];cases hp:p x with
  | true =>
   have h2:=h x List.mem_cons_self hp;simp only [h2,ih,List.filter_cons,hp,if_true,List.map_cons]
  | false=>simp only [ih,List.filter_cons,hp];simp
theorem eM (φ:α->D) (ψ:α->D) (p:α->Bool) {xs:List α}(hs:src env=some (xs.map φ)) (hl:xs.length <= 1000) (hc:∀ x ∈ xs,fc (some (false,φ x) :: lO fr env)=some (p x)) (h:∀ x ∈ xs,p x=true->fe (some (false,φ x) :: lO fr env)=some (ψ x)) :
  cC fr src fc fe env=some (.lst ((xs.filter p).map ψ)):=by
 unfold cC;rw [hs];simp only [List.length_map,hl,if_true];rw [pR φ ψ p xs hc h];rfl
theorem aN (h:fs env=some xs) (q:F' (xs ++ dds)=r):aM F' dds fs env=r:=by unfold aM;rw [h];exact q
theorem fL (h:fs env=some xs) (q:F' xs=r):sB1 F' fs env=r:=by unfold sB1;rw [h];exact q
theorem fW (h:fs env=some xs) (q:F' xs=r):fB1 F' fs env=r:=by unfold fB1;rw [h];exact q
theorem aL (h:f env=some d) (q:fs env=some ds):aB f fs env=some (d :: ds):=by unfold aB;rw [h,q]
theorem Z6m (h0:0 <= j) (h1:j <= 1000):eQ [.int j]=some ((List.range j.toNat).map fun (k:Nat)=>.int (0 + (k:Int))):=by
 simp only [eQ];rw [if_pos (by omega)]
theorem T4 {n:Nat}(h1:n <= 1000):eQ [.int (n:Int)]=some ((List.range n).map fun (k:Nat)=>.int (k:Int)):=by
 rw [Z6m (by omega) (by omega),Int.toNat_natCast];congr 1;apply List.map_congr_left;intro a _;congr 1;omega
theorem Z2H {j:Int}{n:Nat}(e:j=(n:Int)) (h:n <= 1000):eQ [.int j]=some ((List.range n).map fun (k:Nat)=>.int (k:Int)):=by
 rw [e];exact T4 h
theorem bT {l:List α}(h:l[i]? = some x):l.take (i + 1)=l.take i ++ [x]:=by
 obtain⟨hi,e⟩:=List.getElem?_eq_some_iff.mp h;rw [List.take_succ,h];rfl
theorem cQ {l:List α}{i:Nat}(h:(l.map f)[i]? = some y):∃ x,l[i]? = some x /\ y=f x:=by
 rw [List.getElem?_map] at h;cases e:l[i]? with
 | none=>rw [e] at h;cases h
 | some x=>rw [e] at h;cases h;exact⟨x,rfl,rfl⟩
theorem oO {l:List α}(h:(l.mapIdx f)[i]? = some y):∃ x,l[i]? = some x /\ y=f i x:=by
 rw [List.getElem?_mapIdx] at h;cases e:l[i]? with
 | none=>rw [e] at h;cases h
 | some x=>rw [e] at h;cases h;exact⟨x,rfl,rfl⟩
theorem jX {y:D}(h:((List.range n).map f)[i]? = some y):i < n /\ y=f i:=by
 obtain⟨x,h1,rfl⟩:=cQ h;rw [List.getElem?_range] at h1
 .cases h1;have hi:i < n:=by
   by_cases z:i < n
   .exact z
   .rw [List.getElem?_eq_none (by simp;omega)] at h;cases h
  exact⟨hi,rfl⟩
 .by_cases z:i < n
  .exact z
  .rw [List.getElem?_eq_none (by simp;omega)] at h;cases h
theorem Z2C (n:Nat):(0:Int) < 1 * 2 ^ n:=by rw [Int.one_mul];exact Int.pow_pos (by decide)
theorem yI (n:Nat):(2 ^ n).log2=n:=by
 rw [Nat.log2_eq_iff (Nat.ne_of_gt (Nat.two_pow_pos n))];exact⟨Nat.le_refl _,Nat.pow_lt_pow_right (by decide) (Nat.lt_succ_self n)⟩
theorem G7 (h:n < 9000):cG i (1 * 2 ^ n):=by
 refine⟨Z2C n,?_⟩;rw [Int.one_mul,Int.natAbs_pow];show (2 ^ n).log2 < 9000;rw [yI];exact h
noncomputable def Wp (r:Res) (Q:Res->Prop):Prop:=Q r
noncomputable def Rt (P:D->Prop):Res->Prop:=fun r=>∃ d,r=.ret d /\ P d
section
variable {Q:Res->Prop}{env:En}{k g h:En->Res}{f:En->Option D}{c:En->Option Bool}{i:Nat}{d:D}{P:D->Prop}
theorem Z6k (w:Wp (g (enStart L ds)) (Rt P)):∃ d,runF L g ds=some d /\ P d:=by
 obtain⟨d,e,p⟩:=w;exact⟨d,cB e,p⟩
theorem fH (e:f env=some d) (q:Wp (k (env.set i (some (true,d)))) Q):Wp (aK (bI i f) k env) Q:=by unfold aK bI;rw [e];exact q
theorem zK (e:f env=some d) (q:Q (.next (env.set i (some (true,d))))):Wp (bI i f env) Q:=by unfold bI;rw [e];exact q
theorem zL (e:c env=some true) (q:Wp (aK g k env) Q):Wp (aK (rIf c g h) k env) Q:=by unfold aK rIf at *;rw [e];exact q
theorem R0 (e:c env=some true) (q:Wp (g env) Q):Wp (rIf c g h env) Q:=by unfold rIf at *;rw [e];exact q
theorem zM (e:c env=some false) (q:Wp (h env) Q):Wp (rIf c g h env) Q:=by unfold rIf at *;rw [e];exact q
theorem wNo (e:c env=some false) (q:Wp (k env) Q):Wp (aK (rIf c g bD) k env) Q:=by unfold aK rIf;rw [e];exact q
theorem Z0S (e:f env=some d) (q:Q (.ret d)):Wp (bM f env) Q:=by unfold bM;rw [e];exact q
theorem Z0R (e:f env=some d) (q:Q (.ret d)):Wp (aK (bM f) k env) Q:=by unfold aK bM;rw [e];exact q
theorem Z64 (h:f env=some d) (e:env[i]? = some (some (true,.lst ds))) (hl:ds.length <= 1000) (q:Wp (k (env.set i (some (true,.lst (ds ++ [d]))))) Q):Wp (aK (fI i f) k env) Q:=by
 unfold aK;rw [iY h e hl];exact q
theorem vQ (h:f env=some d) (e:env[i]? = some (some (true,.lst ds))) (hl:ds.length <= 1000) (q:Q (.next (env.set i (some (true,.lst (ds ++ [d])))))):Wp (fI i f env) Q:=by
 rw [iY h e hl];exact q
theorem Z50 (M:En->Prop) (h1:Wp (g env) (fun r=>∃ e,r=.next e /\ M e)) (h2:∀ e,M e->Wp (k e) Q):Wp (aK g k env) Q:=by
 obtain⟨e,h3,h4⟩:=h1;unfold aK;rw [h3];exact h2 e h4
theorem Z62 (e:f env=some d) (e2:t d (fz rs env)=some env') (q:Wp (k env') Q):Wp (aK (Z4 rs t f) k env) Q:=by
 unfold aK Z4;rw [e];simp only [e2];exact q
theorem uY (w:Wp (g (enStart L ds)) (fun r=>r=.ret d)):runF L g ds=some d:=cB w
theorem wEq (e:g env=r) (q:Q r):Wp (g env) Q:=by rw [e];exact q
noncomputable def Tn (I:En->Prop) (k:En->Res) (Q:Res->Prop):Res->Prop
 | .next e=>I e
 | .cont e=>I e
 | .brk e=>Wp (k e) Q
 | .ret d=>Q (.ret d)
 | .bad=>False
theorem V9 (I:Nat->En->Prop):∀ (ds:List D) (n:Nat) (env:En),(∀ i d env,ds[i]? = some d->I (n + i) env->∃ env1,t d env=some env1 /\ Wp (g env1) (Tn (I (n + i + 1)) k Q))->I n env ->
  (∀ env',I (n + ds.length) env'->Wp (k env') Q)->Wp (match mQ t g ds env with | .next e=>k e | r=>r) Q
 | [],n,env,_,h,q=>by simpa [mQ] using q env (by simpa using h)
 | d :: ds,n,env,st,h,q=>by
  obtain⟨env1,h1,h2⟩:=st 0 d env rfl h;unfold mQ;rw [h1];have ih:∀ env2,I (n + 0 + 1) env2->Wp (match mQ t g ds env2 with | .next e=>k e | r=>r) Q:=fun env2 h4=>V9 I ds (n + 1) env2 (fun i d' e hd hI=>by
    have:=st (i + 1) d' e (by simpa using hd) (by rwa [show n + (i + 1)=n + 1 + i by omega])
    rwa [show n + (i + 1) + 1=n + 1 + i + 1 by omega] at this) h4 (fun e he=>q e (by rwa [List.length_cons,show n + (ds.length + 1)=n + 1 + ds.length by omega]))
  unfold Wp at h2;cases e1:g env1 with
  | next e=>rw [e1] at h2;simp only [e1];exact ih e h2
  | cont e=>rw [e1] at h2;simp only [e1];exact ih e h2
  | brk e=>rw [e1] at h2;simp only [e1];exact h2
  | ret d'=>rw [e1] at h2;simp only [e1];exact h2
  | bad=>rw [e1] at h2;exact h2.elim
theorem Z3V (hs:src env=some ds) (I:Nat->En->Prop) (h0:I 0 (fz rs env))
  (st:∀ i d env,ds[i]? = some d->I i env->∃ env1,t d env=some env1 /\ Wp (g env1) (Tn (I (i + 1)) k Q))
  (hend:∀ env',I ds.length env'->Wp (k env') Q):Wp (aK (dR rs src t g) k env) Q:=by
 unfold aK dR;rw [hs];exact V9 I ds 0 _ (fun i d e hd hI=>by rw [Nat.zero_add] at *;exact st i d e hd hI) h0 (fun e he=>hend e (by rwa [Nat.zero_add] at he))
theorem vP (hs:src env=some ds) (I:Nat->En->Prop) (h0:I 0 (fz rs env))
  (st:∀ i d env (R:Res->Prop),ds[i]? = some d->I i env->(∀ e,I (i + 1) e->R (.next e))->∃ env1,t d env=some env1 /\ Wp (g env1) R)
  (hend:∀ env',I ds.length env'->Wp (k env') Q):Wp (aK (dR rs src t g) k env) Q :=
 Z3V hs I h0 (fun i d e hd hI=>st i d e _ hd hI fun _ z=>z) hend
theorem Z3U (I:Nat->En->Prop) {m:Nat}(h0:I m env)
  (st:∀ m env,I m env->(c env=some false /\ Wp (k env) Q) \/ (c env=some true /\ Wp (g env) (Tn (fun e=>∃ m',m' < m /\ I m' e) k Q))):Wp (aK (rWh c g) k env) Q:=by
 have key:∀ (n m:Nat) (env:En),m <= n->I m env->∃ r,whD c g (n + 1) env=r /\ ((∃ e,r=.next e /\ Wp (k e) Q) \/ (∃ d,r=.ret d /\ Q (.ret d))):=by
  intro n
  induction n with
  | zero =>
   intro m env hm hI;rcases st m env hI with ⟨h1,h2⟩ | ⟨h1,h2⟩
   .exact⟨_,rfl,.inl ⟨env,by simp only [whD,h1],h2⟩⟩
   .unfold Wp at h2;cases hg:g env with
    | next e=>rw [hg] at h2;obtain⟨m',l,_⟩:=h2;omega
    | cont e=>rw [hg] at h2;obtain⟨m',l,_⟩:=h2;omega
    | brk e=>rw [hg] at h2;exact⟨_,rfl,.inl ⟨e,by simp only [whD,h1,hg],h2⟩⟩
    | ret d=>rw [hg] at h2;exact⟨_,rfl,.inr ⟨d,by simp only [whD,h1,hg],h2⟩⟩
    | bad=>rw [hg] at h2;exact h2.elim
  | succ n ih =>
   intro m env hm hI;rcases st m env hI with ⟨h1,h2⟩ | ⟨h1,h2⟩
   .exact⟨_,rfl,.inl ⟨env,by simp only [whD,h1],h2⟩⟩
   .unfold Wp at h2;cases hg:g env with
    | next e =>
     rw [hg] at h2;obtain⟨m',l,h3⟩:=h2;obtain⟨r,e1,e2⟩:=ih m' e (by omega) h3;exact⟨r,by rw [<- e1];(conv=>lhs;unfold whD);simp only [h1,hg],e2⟩
    | cont e =>
     rw [hg] at h2;obtain⟨m',l,h3⟩:=h2;obtain⟨r,e1,e2⟩:=ih m' e (by omega) h3;exact⟨r,by rw [<- e1];(conv=>lhs;unfold whD);simp only [h1,hg],e2⟩
    | brk e=>rw [hg] at h2;exact⟨_,rfl,.inl ⟨e,by simp only [whD,h1,hg],h2⟩⟩
    | ret d=>rw [hg] at h2;exact⟨_,rfl,.inr ⟨d,by simp only [whD,h1,hg],h2⟩⟩
    | bad=>rw [hg] at h2;exact h2.elim
 obtain⟨r,e1,e2⟩:=key m m env (Nat.le_refl _) h0;have hne:whD c g (m + 1) env ≠ .bad:=by rw [e1];rcases e2 with ⟨e,rfl,_⟩ | ⟨d,rfl,_⟩ <;> (intro z;cases z)
 unfold aK;rw [Z16 hne,e1];rcases e2 with ⟨e,rfl,h⟩ | ⟨d,rfl,h⟩
 .exact h
 .exact h
end
end PD
namespace G
open PySem PySem.Spec PyProof.Rows L2 PD
inductive Kd where | and | or | xor deriving DecidableEq
noncomputable def Kd.s:Kd->Str | .and => "and" | .or => "or" | .xor => "xor"
inductive Row where | fix (b:Int) | not (a:Int) | bin (k:Kd) (a b:Int)
noncomputable def Row.d:Row->D
 | .fix b=>.tup [.str "fix",.int b]
 | .not a=>.tup [.str "not",.int a]
 | .bin k a b=>.tup [.str k.s,.int a,.int b]
inductive Flt where | none | wire (w b:Int) | leg (w l b:Int)
noncomputable def Flt.d:Flt->D
 | .none=>.non
 | .wire w b=>.tup [.str "wire",.int w,.int b]
 | .leg w l b=>.tup [.str "leg",.int w,.int l,.int b]
theorem Z5d:((Str.ofString "wire") == (Str.ofString "leg"))=false:=by decide +kernel
theorem Z5e:((Str.ofString "leg") == (Str.ofString "wire"))=false:=by decide +kernel
theorem Z6g:((Str.ofString "wire") == (Str.ofString "wire"))=true:=by decide +kernel
theorem Z2F:((Str.ofString "fix") == (Str.ofString "fix"))=true:=by decide +kernel
theorem Y9:((Str.ofString "not") == (Str.ofString "fix"))=false:=by decide +kernel
theorem Z0 (k:Kd):(k.s == (Str.ofString "fix"))=false:=by cases k <;> decide +kernel
theorem Z5g (k:Kd):(k.s == (Str.ofString "not"))=false:=by cases k <;> decide +kernel
theorem Z6h:((Str.ofString "not") == (Str.ofString "not"))=true:=by decide +kernel
theorem Z5h (k:Kd):(k.s == (Str.ofString "and"))=decide (k=.and):=by cases k <;> decide +kernel
theorem Z5f (k:Kd):(k.s == (Str.ofString "or"))=decide (k=.or):=by cases k <;> decide +kernel
theorem Z6i:((Str.ofString "leg") == (Str.ofString "leg"))=true:=by decide +kernel
theorem Z13 (r:Row):flat r.d=true:=by cases r <;> rfl
theorem mR (f:Flt):flat f.d=true:=by cases f <;> rfl
theorem Z2 (rows:List Row):flats (rows.map Row.d)=true:=iG fun d hd=>by
 obtain⟨r,_,rfl⟩:=List.mem_map.mp hd;exact Z13 r
noncomputable def bH (v w o:Int):Flt->Int
 | .wire w' b=>if w'=w then o * b else v
 | _=>v
noncomputable def Row.ws:Row->List Int
 | .fix _=>[]
 | .not a=>[a]
 | .bin _ a b=>[a,b]
noncomputable def legs (r:Row) (w:Int) (vs:List Int) (o:Int) (f:Flt):List Int:=match f with
 | .leg w' l b=>if w'=w then (r.ws.map (nth vs)).set l.toNat (o * b) else r.ws.map (nth vs)
 | _=>r.ws.map (nth vs)
noncomputable def gN (r:Row) (ls:List Int) (o:Int):Int:=match r with
 | .fix b=>o * b
 | .not _=>Builtin.bitXor o (nth ls 0)
 | .bin .and _ _=>Builtin.bitAnd (nth ls 0) (nth ls 1)
 | .bin .or _ _=>Builtin.bitOr (nth ls 0) (nth ls 1)
 | .bin .xor _ _=>Builtin.bitXor (nth ls 0) (nth ls 1)
noncomputable def bC (C:Addr) (ins:Int) (rows:List Row) (outs:List Int):D:=.obj C ["ins","rows","outs"] [.int ins,.lst (rows.map Row.d),LI outs]
theorem pO (h:fa env=some (bC C ins rows outs)):fK C "rows" fa env=some (.lst (rows.map Row.d)):=by
 have h1:(Str.ofString "rows" == Str.ofString "ins")=false:=by decide +kernel
 simp [fK,h,bC,List.lookup_cons,h1]
theorem jJ (h:fa env=some (bC C ins rows outs)):fK C "ins" fa env=some (.int ins):=by
 simp [fK,h,bC,List.lookup_cons]
theorem F4 (h:fa env=some (bC C ins rows outs)):fK C "outs" fa env=some (LI outs):=by
 have h1:(Str.ofString "outs" == Str.ofString "ins")=false:=by decide +kernel
 have h2:(Str.ofString "outs" == Str.ofString "rows")=false:=by decide +kernel
 simp [fK,h,bC,List.lookup_cons,h1,h2]
noncomputable def bL (o:Int) (f:Flt):List Int->List Int->List Int
 | vs,[]=>vs
 | vs,s :: r=>bL o f (vs ++ [bH s vs.length o f]) r
noncomputable def dN (o:Int) (f:Flt):List Int->List Row->List Int
 | vs,[]=>vs
 | vs,r :: rs=>dN o f (vs ++ [bH (gN r (legs r vs.length vs o f) o) vs.length o f]) rs
theorem eV (o:Int) (f:Flt):∀ (ss vs:List Int),(bL o f vs ss).length=vs.length + ss.length
 | [],vs=>by simp [bL]
 | s :: r,vs=>by simp only [bL];rw [eV o f r];simp;omega
theorem qE (o:Int) (f:Flt):∀ (rs:List Row) (vs:List Int),(dN o f vs rs).length=vs.length + rs.length
 | [],vs=>by simp [dN]
 | r :: rs,vs=>by simp only [dN];rw [qE o f rs];simp;omega
theorem kJ (o:Int) (f:Flt):∀ (ss vs:List Int) (s:Int),bL o f vs (ss ++ [s])=bL o f vs ss ++ [bH s (bL o f vs ss).length o f]
 | [],vs,s=>by simp [bL]
 | a :: ss,vs,s=>by simp only [List.cons_append,bL];rw [kJ o f ss]
theorem oG (o:Int) (f:Flt):∀ (rs:List Row) (vs:List Int) (r:Row),dN o f vs (rs ++ [r])=dN o f vs rs ++ [bH (gN r (legs r (dN o f vs rs).length (dN o f vs rs) o f) o) (dN o f vs rs).length o f]
 | [],vs,s=>by simp [dN]
 | a :: ss,vs,s=>by simp only [List.cons_append,dN];rw [oG o f ss]
noncomputable def RowOk (n:Int):Row->Prop
 | .fix b=>b=0 \/ b=1
 | .not a=>0 <= a /\ a < n
 | .bin _ a b=>(0 <= a /\ a < n) /\ 0 <= b /\ b < n
theorem RowOk.ws (h:RowOk n r):∀ a ∈ r.ws,0 <= a /\ a < n:=by
 cases r with
 | fix b=>intro a ha;cases ha
 | not a=>intro b hb;simp [Row.ws] at hb;subst hb;exact h
 | bin k a b=>intro c hc;simp [Row.ws] at hc;exact hc.elim (fun z=>z ▸ h.1) (fun z=>z ▸ h.2)
noncomputable def RowsOk (ins:Nat) (rows:List Row):Prop:=∀ k r,rows[k]? = some r->RowOk ((ins + k:Nat):Int) r
structure FltOk (ins:Nat) (rows:List Row) (f:Flt):Prop where
 w:∀ w b,f=.wire w b->b=0 \/ b=1
 l:∀ w l b,f=.leg w l b->b=0 \/ b=1
 leg:∀ w l b k r,f=.leg w l b->rows[k]? = some r->w=((ins + k:Nat):Int)->0 <= l /\ l < r.ws.length
theorem FltOk.no:FltOk ins rows .none:=⟨fun _ _ z=>(by cases z),fun _ _ _ z=>(by cases z),fun _ _ _ _ _ z=>(by cases z)⟩
theorem Z1P (r:Row) (w:Int) (vs:List Int) (o:Int) (f:Flt):(legs r w vs o f).length=r.ws.length:=by
 unfold legs;split
 .split <;> simp
 .simp
theorem W7 (h:b=0 \/ b=1):IntMulOk o b:=by rcases h with z | z <;> (subst z;exact yH (by decide) (by decide))
noncomputable def gM (n:Nat) (g:Int):List Int:=(List.range n).map fun k=>(g / 2 ^ k) % 2
noncomputable def uL (ins:Nat) (rows:List Row) (g:Int) (f:Flt):List Int:=dN 1 f (bL 1 f [] (gM ins g)) rows
noncomputable def gR (o:Int) (f:Flt) (ss:List Int) (rows:List Row):List Int:=dN o f (bL o f [] ss) rows
theorem mV (o:Int) (f:Flt) (ss:List Int) (rows:List Row):(gR o f ss rows).length=ss.length + rows.length:=by
 unfold gR;rw [qE,eV];simp
theorem oF (o:Int) (f:Flt):∀ (rs:List Row) (vs:List Int) (k:Nat),k <= rs.length->(dN o f vs rs).take (vs.length + k)=dN o f vs (rs.take k)
 | [],vs,k,h=>by
  have:k=0:=by simpa using h
  subst this;simp [dN]
 | r :: rs,vs,0,h=>by
  have ih:=oF o f rs (vs ++ [bH (gN r (legs r vs.length vs o f) o) vs.length o f]) 0 (Nat.zero_le _);simp only [dN,List.take_zero,Nat.add_zero] at ih ⊢;have e:(dN o f (vs ++ [bH (gN r (legs r vs.length vs o f) o) vs.length o f]) rs).take vs.length=((dN o f (vs ++ [bH (gN r (legs r vs.length vs o f) o) vs.length o f]) rs).take (vs ++ [bH (gN r (legs r vs.length vs o f) o) vs.length o f]).length).take vs.length:=by
   rw [List.take_take];congr 1;simp
  rw [e,ih];simp
 | r :: rs,vs,k + 1,h=>by
  have ih:=oF o f rs (vs ++ [bH (gN r (legs r vs.length vs o f) o) vs.length o f]) k (by simpa using h);simp only [dN,List.take_succ_cons];rw [<- ih];congr 1;simp;omega
theorem kI (o:Int) (f:Flt):∀ (ss vs:List Int) (k:Nat),k <= ss.length->(bL o f vs ss).take (vs.length + k)=bL o f vs (ss.take k)
 | [],vs,k,h=>by
  have:k=0:=by simpa using h
  subst this;simp [bL]
 | s :: ss,vs,0,h=>by
  have ih:=kI o f ss (vs ++ [bH s vs.length o f]) 0 (Nat.zero_le _);simp only [bL,List.take_zero,Nat.add_zero] at ih ⊢;have e:(bL o f (vs ++ [bH s vs.length o f]) ss).take vs.length=((bL o f (vs ++ [bH s vs.length o f]) ss).take (vs ++ [bH s vs.length o f]).length).take vs.length:=by
   rw [List.take_take];congr 1;simp
  rw [e,ih];simp
 | s :: ss,vs,k + 1,h=>by
  have ih:=kI o f ss (vs ++ [bH s vs.length o f]) k (by simpa using h);simp only [bL,List.take_succ_cons];rw [<- ih];congr 1;simp;omega
theorem iH (h:k <= rows.length):(gR o f ss rows).take (ss.length + k)=gR o f ss (rows.take k):=by
 have:=oF o f rows (bL o f [] ss) k h;rw [eV] at this;simpa [gR] using this
theorem uQ (h:k <= ss.length):(gR o f ss rows).take k=bL o f [] (ss.take k):=by
 have h1:=iH (o:=o) (f:=f) (ss:=ss) (rows:=rows) (k:=0) (Nat.zero_le _);have e:(gR o f ss rows).take k=((gR o f ss rows).take (ss.length + 0)).take k:=by rw [List.take_take];congr 1;omega
 have h2:=kI o f ss [] k h;rw [e,h1];simpa [gR,dN] using h2
theorem vV {l a:List α}(h:l.take (i + 1)=a ++ [x]) (hl:i < l.length):l.take i=a /\ l[i]? = some x:=by
 have h1:l.take (i + 1)=l.take i ++ [l[i]]:=by rw [List.take_succ,List.getElem?_eq_getElem hl];rfl
 rw [h1] at h;obtain⟨h2,h3⟩:=List.append_inj' h rfl;refine⟨h2,?_⟩;rw [List.getElem?_eq_getElem hl];simpa using h3
theorem sI {f:Flt}{i:Nat}(h:ss[i]? = some s):(gR o f ss rows)[i]? = some (bH s i o f):=by
 have hi:i < ss.length:=(List.getElem?_eq_some_iff.mp h).1;have h1:=uQ (o:=o) (f:=f) (rows:=rows) (show i + 1 <= ss.length from hi)
 rw [bT h,kJ,eV] at h1;have h2:=(vV h1 (by rw [mV];omega)).2;rw [h2];congr 2;simp;omega
theorem pU {f:Flt}(h:rows[k]? = some r) :
  (gR o f ss rows)[ss.length + k]? = some (bH (gN r (legs r ((ss.length + k:Nat):Int) ((gR o f ss rows).take (ss.length + k)) o f) o) ((ss.length + k:Nat):Int) o f):=by
 have hk:k < rows.length:=(List.getElem?_eq_some_iff.mp h).1;have h1:=iH (o:=o) (f:=f) (ss:=ss) (show k + 1 <= rows.length from hk)
 have h0:=iH (o:=o) (f:=f) (ss:=ss) (show k <= rows.length from Nat.le_of_lt hk)
 have hl:(gR o f ss (rows.take k)).length=ss.length + k:=by rw [mV];simp;omega
 rw [bT h] at h1;unfold gR at h1 h0 hl;rw [oG,hl] at h1;have h2:=(vV (l:=gR o f ss rows) (i:=ss.length + k) (by rw [<- h1];rfl) (by rw [mV];omega)).2;rw [h2];show _=some (bH (gN r (legs r _ ((dN o f (bL o f [] ss) rows).take (ss.length + k)) o f) o) _ o f);rw [h0]
noncomputable def Bt (x:Int):Prop:=x=0 \/ x=1
instance (x:Int):Decidable (Bt x):=inferInstanceAs (Decidable (x=0 \/ x=1))
theorem Z3y (h:Bt x):Builtin.bitXor 1 x=1 - x:=by rcases h with z | z <;> (subst z;decide)
theorem Q7 (h:Bt x):Bt (Builtin.bitXor 1 x):=by rw [Z3y h];rcases h with z | z <;> (subst z;decide)
theorem Z0J (h:Bt x) (k:Bt y):Bt (Builtin.bitAnd x y):=by rcases h with z | z <;> rcases k with w | w <;> (subst z;subst w;decide)
theorem Z2i (h:Bt x) (k:Bt y):Bt (Builtin.bitOr x y):=by rcases h with z | z <;> rcases k with w | w <;> (subst z;subst w;decide)
theorem Z0I (h:Bt x) (k:Bt y):Bt (Builtin.bitXor x y):=by rcases h with z | z <;> rcases k with w | w <;> (subst z;subst w;decide)
theorem gP {i:Nat}(h:vs[i]? = some x) (e:a=(i:Int)):nth vs a=x:=by
 subst e;simp [nth,List.getD,h]
theorem kS (h:∀ x ∈ vs,Bt x) (a:Int):Bt (nth vs a):=by
 unfold nth;cases e:vs[a.toNat]? with
 | none=>left;simp [List.getD,e]
 | some x=>rw [List.getD,e];exact h x (List.mem_of_getElem? e)
theorem U7 (h:∀ x ∈ vs,Bt x) (hf:∀ w l b,f=.leg w l b->b=0 \/ b=1):∀ x ∈ legs r w vs 1 f,Bt x:=by
 have h0:∀ x ∈ r.ws.map (nth vs),Bt x:=fun x hx=>by
  obtain⟨a,_,rfl⟩:=List.mem_map.mp hx;exact kS h a
 intro x hx;unfold legs at hx;split at hx
 .rename_i w' l b;split at hx
  .rcases List.mem_or_eq_of_mem_set hx with z | z
   .exact h0 x z
   .rw [z,Int.one_mul];exact hf _ _ _ rfl
  .exact h0 x hx
 .exact h0 x hx
theorem Z3q (h:∀ x ∈ ls,Bt x) (hr:RowOk n r):Bt (gN r ls 1):=by
 cases r with
 | fix b=>show Bt (1 * b);rw [Int.one_mul];exact hr
 | not a=>exact Q7 (kS h 0)
 | bin k a b=>cases k with
  | and=>exact Z0J (kS h 0) (kS h 1)
  | or=>exact Z2i (kS h 0) (kS h 1)
  | xor=>exact Z0I (kS h 0) (kS h 1)
theorem wB (h:Bt v) (hf:∀ w b,f=.wire w b->b=0 \/ b=1):Bt (bH v w 1 f):=by
 unfold bH;split
 .split
  .rw [Int.one_mul];exact hf _ _ rfl
  .exact h
 .exact h
theorem sN (hf:∀ w b,f=.wire w b->b=0 \/ b=1):∀ (ss vs:List Int),(∀ x ∈ vs,Bt x)->(∀ x ∈ ss,Bt x)->∀ x ∈ bL 1 f vs ss,Bt x
 | [],vs,h,_=>h
 | s :: ss,vs,h,hs=>by
  simp only [bL];refine sN hf ss _ (fun x hx=>?_) fun x hx=>hs x (List.mem_cons_of_mem _ hx);rcases List.mem_append.mp hx with z | z
  .exact h x z
  .have:x=bH s vs.length 1 f:=by simpa using z
   rw [this];exact wB (hs s List.mem_cons_self) hf
theorem A1 (hf:∀ w b,f=.wire w b->b=0 \/ b=1) (hl:∀ w l b,f=.leg w l b->b=0 \/ b=1):∀ (rs:List Row) (vs:List Int),(∀ x ∈ vs,Bt x)->(∀ r ∈ rs,∃ n,RowOk n r)->∀ x ∈ dN 1 f vs rs,Bt x
 | [],vs,h,_=>h
 | r :: rs,vs,h,hs=>by
  simp only [dN];refine A1 hf hl rs _ (fun x hx=>?_) fun x hx=>hs x (List.mem_cons_of_mem _ hx);rcases List.mem_append.mp hx with z | z
  .exact h x z
  .have:x=bH (gN r (legs r vs.length vs 1 f) 1) vs.length 1 f:=by simpa using z
   obtain⟨n,hn⟩:=hs r List.mem_cons_self;rw [this];exact wB (Z3q (U7 h hl) hn) hf
theorem yM (n:Nat) (g:Int):∀ x ∈ gM n g,Bt x:=fun x hx=>by
 obtain⟨k,_,rfl⟩:=List.mem_map.mp hx;have h0:=Int.emod_nonneg (g / 2 ^ k) (show (2:Int) ≠ 0 by decide);have h1:=Int.emod_lt_of_pos (g / 2 ^ k) (show (0:Int) < 2 by decide);show _ \/ _;omega
theorem Z2l (hr:RowsOk ins rows) (hf:FltOk ins rows f):∀ x ∈ uL ins rows g f,Bt x:=by
 refine A1 hf.w hf.l rows _ (sN hf.w _ _ (fun x hx=>(by cases hx)) (yM ins g)) fun r hr'=>?_;obtain⟨k,hk⟩:=List.getElem?_of_mem hr';exact⟨_,hr k r hk⟩
theorem Z2k (h:i < ins):(uL ins rows g f)[i]? = some (bH (g / 2 ^ i % 2) i 1 f) :=
 sI (ss:=gM ins g) (by simp [gM,h])
theorem Z0M (h:rows[k]? = some r) :
  (uL ins rows g f)[ins + k]? = some (bH (gN r (legs r ((ins + k:Nat):Int) ((uL ins rows g f).take (ins + k)) 1 f) 1) ((ins + k:Nat):Int) 1 f):=by
 have:=pU (o:=1) (f:=f) (ss:=gM ins g) h;have gl:(gM ins g).length=ins:=by simp [gM]
 rw [gl] at this;exact this
end G
namespace PD
open PySem PySem.Spec PyProof.Rows L2
section
end
section
end
section
variable {prog:Program}{w:World}{K:Type}[DecidableEq K] {knd:HeapKind prog w K}{A:Around}{E:Value->Shared->Prop}{s:Shared}
end
section
end
section
variable {X:Cx}{m2:Bool}{rs2:List Nat}{fk:En->Option D}{pos:Pos}{i j:Nat}{call:Expr}
end
section
variable {prog:Program}{w:World}{A:Around}{E:Value->Shared->Prop}{s:Shared}{d v I:Addr}{es:Array DictEntry}{ep:Nat}
end
section
variable {X:Cx}{o:Expr}{to:TE}{pos cpos apos p p2:Pos}
end
section
variable {X:Cx}{m2:Bool}{rs2:List Nat}{fk:En->Option D}{a:Expr}{x y:Str}{pos p py pt pl apos cpos apos2 cpos2 cpt:Pos}
end
theorem EnvS.drop {K:Frag}{P H:Hp}{σ:L2.St}{env:En}{F:Nat->List Addr}(j:Nat) (hF:EnvS K P H σ env F):EnvS K P H σ (env.set j none) F:=by
 have key:∀ {k:Nat}{s:Bool × D},(env.set j none)[k]? = some (some s)->env[k]? = some (some s):=fun {k s} e=>by
  by_cases hk:j=k
  .subst hk;by_cases hj:j < env.length
   .rw [List.getElem?_set_self hj] at e;cases e
   .rw [List.getElem?_eq_none (by simp;omega)] at e;cases e
  .rwa [List.getElem?_set_ne hk] at e
 refine⟨fun k o d e=>hF.ok k o d (key e),fun k d e=>?_⟩;obtain⟨a1,a2,a3,a4⟩:=hF.own k d (key e);exact⟨a1,a2,a3,fun l s hl es=>a4 l s hl (key es)⟩
theorem SInv.drop {K:Frag}{P H:Hp}{σ:L2.St}{env:En}(j:Nat) (h:SInv K P H σ env):SInv K P H σ (env.set j none) :=
 ⟨h.same,by rw [List.length_set];exact h.len,h.ex.imp fun _ hF=>hF.drop j⟩
theorem SInv.put {K:Frag}{P H:Hp}{σ:L2.St}{env:En}(j:Nat) (x:Option V) (h:SInv K P H σ env) (hj:env[j]? = some none):SInv K P H (σ.set j x) env:=by
 obtain⟨F,hF⟩:=h.ex;have key:∀ {k:Nat}{s:Bool × D},env[k]? = some (some s)->j ≠ k:=fun e z=>by rw [z,e] at hj;cases hj
 refine⟨h.same,by rw [List.length_set];exact h.len,F,fun k o d e=>?_,fun k d e=>?_⟩
 .obtain⟨v,hv,r⟩:=hF.ok k o d e;exact⟨v,by rw [List.getElem?_set_ne (key e)];exact hv,r⟩
 .obtain⟨a1,a2,a3,a4⟩:=hF.own k d e;exact⟨a1,a2,fun v hv=>a3 v (by rwa [List.getElem?_set_ne (key e)] at hv),a4⟩
open Classical in
section
variable {X:Cx}{i j:Nat}{x y:Str}{d:D}{v0:V}{e:Expr}{pos py p px apos cpos epos:Pos}
end
section
end
section
variable {X:Cx}{s g t f:Nat}{sts:List Stmt}
end
section
end
section
variable {X:Cx}
noncomputable def A4:V->List V->Hp->VK->Prop:=fun x vs H Q=>∃ d kvs k y,x=.ref d /\ vs=[kV k,y] /\ H d=some (.dK kvs) /\ kvs.length < sizeLine /\
 ((∀ v,jL kvs k=some v->Q v H) /\ (jL kvs k=none->Q y (upd H d (.dK (lK kvs k y)))))
theorem O4:MtR X "dict.setdefault" A4:=by
 intro pins s σ H x xs v us Q I r rs h;obtain⟨d,kvs,k,y,rfl,rfl,hd,hl,q1,q2⟩:=h;cases r;cases rs with
 | cons r1 rs =>
  cases rs with
  | cons r2 rs =>
   cases rs;rename_i key dflt;obtain⟨z,hs,vs,rel,dd⟩:=W4 I.hok hd;have hz:vs.length <= sizeLine:=by rw [<- rel.length];exact z
   refine wpAny_call_entry PySem.F.slot_dict_setdefault dd.typeIs PySem.F.entry_dict_setdefault ?_ (PySem.F.args_dict_setdefault_3 _ _ _);unfold Builtin.«dict.setdefault»;refine wpAny_bind ?_;unfold Builtin.Dict.keyAndDefault;refine wpAny_bind (wpAny_notOrdered_dict dd.typeIs ?_);show wpAny _ _ (pure (d,key,some dflt)) _ _ s;refine wpAny_pure ?_;show wpAny _ _ (if (d == sysModules)=true then _ else (dictSetDefault d key dflt >>= _)) _ _ s;rw [if_neg (by rw [hs];decide)];refine wpAny_bind (kt_dictSetDefault_pairs (hsz:=hz) (D5 r1) dd (fun p hp=>?_) fun no hp' dd' same=>?_)
   .have rv:=rel.val k;rw [hp] at rv;obtain⟨y',hy,ry⟩:∃ y',jL kvs k=some y' /\ RelV y' p:=by
     cases hv:jL kvs k with
     | none=>rw [hv] at rv;exact (by cases rv)
     | some y'=>rw [hv] at rv;exact⟨y',rfl,rv⟩
    exact wpAny_pure ⟨_,rfl,y',H,I.tok _,ry,q1 y' hy⟩
   .have rv:=rel.val k;rw [no] at rv;have hv:jL kvs k=none:=by
     cases hv:jL kvs k with
     | none=>rfl
     | some y'=>rw [hv] at rv;cases rv
    have hlen:(lK kvs k y).length <= sizeLine:=by have:=mJ kvs k y;omega
    have he:∃ q,hp'.get? d=some q:=let ⟨q,_,_,hq,_⟩:=dd';⟨q,hq⟩;exact wpAny_pure ⟨_,rfl,y,_,yU I (by rw [hd];exact True.intro) same he (Z2f hlen hs (rel.put k r2) dd'),r2,q2 hv⟩
noncomputable def Z2K (i:Nat) (fk fv:En->Option D):En->Res:=fun env=>match env[i]?,fk env,fv env with
 | some (some (true,.dk ks ds)),some kd,some vd=>match keyOf kd with
  | some k=>if ks.length < 1000 /\ flats ds=true /\ flat vd=true then
    if tQ k ks=true then .next env else .next (env.set i (some (true,.dk (ks ++ [k]) (ds ++ [vd]))))
   else .bad
  | none=>.bad
 | _,_,_=>.bad
variable {m1 m2:Bool}{rs1 rs2:List Nat}{fk fv:En->Option D}{call:Expr}{pos:Pos}{i:Nat}
theorem Z4f (hpe:PE X call (tBM X.K "dict" A4 (zQ i) (S8 (tD X.K m2 rs2 fk) (S8 (tD X.K m1 rs1 fv) Z43))))
  (hs:swapsWith call none pos.line X.env=pure false:=by rfl):QS X (.Expr call pos) (Z2K i fk fv):=.mk (U4 hpe hs) fun E σ H ⟨P,env,I,q⟩=>by
 obtain⟨F,hF⟩:=I.ex;unfold Z2K at q;split at q
 .rename_i ks ds kd vd h1 h2 h3;split at q
  .rename_i k hk;split at q
   .rename_i hc;obtain⟨v,hv1,_⟩:=hF.ok i true _ h1;obtain⟨o1,o2,o3,o4⟩:=hF.own i _ h1;have r0:=o3 v hv1;simp only [Rep] at r0;obtain⟨a,vs,fp',rfl,hFi,ha,hlen,hr⟩:=r0;refine⟨.ref a,hv1,.inr (.inr (.inl ⟨rfl,.inl ⟨_,ha⟩⟩)),env,F,_,hF.ok,h2,fun vk H1 fp1 s1 r1 c1=>⟨env,F,_,hF.ok.same s1,h3,fun vv H2 fp2 s2 r2 c2=>?_⟩⟩;have s:=s1.trans s2;have ek:=nD hk r1;subst ek;obtain⟨fe,gf⟩:=Rep.flat _ _ _ hc.2.2 r2;obtain⟨ff,gs⟩:=Reps.flat _ _ _ hc.2.1 hr;subst ff;refine⟨a,ks.zip vs,k,vv,rfl,rfl,s _ _ ha,gA (by rw [List.length_zip];omega),fun v' hv'=>?_,fun hn=>?_⟩
    .split at q
     .exact q _ _ (I.grow s)
     .rename_i hni;exfalso;rw [oV] at hv';have:=nH (k:=k) (ks:=ks) (xs:=vs) hlen;rw [hv'] at this;exact hni this.symm
    .have hni:¬ tQ k ks=true:=fun z=>by
      rw [oV] at hn;have:=nH (k:=k) (ks:=ks) (xs:=vs) hlen;rw [hn,z] at this;cases this
     rw [if_neg hni] at q;refine q _ _ ?_;have hz:lK (ks.zip vs) k vv=(ks ++ [k]).zip (vs ++ [vv]):=by rw [Z1n _ hn,List.zip_append hlen];rfl
     rw [hz];have ra:Reps X.K true H2 (ds ++ [vd]) (vs ++ [vv]) []:=by
      have:=((gs true).same s).snoc (gf true);simpa using this
     refine sF (fp2:=[]) (I.same.trans s) I.len (hF.grow s) h1 hv1 hFi (s _ _ ha) (by intro xs z;cases z) (by intro x u z;cases z) (fun st=>?_) (by simp) (fun b hb=>(by cases hb));simp only [Rep];have kp:Kp [] H2 (upd H2 a (.dK ((ks ++ [k]).zip (vs ++ [vv])))):=Kp.upd (s _ _ ha) (by intro xs z;cases z) (by intro x u z;cases z) (by simp);refine⟨a,vs ++ [vv],[],rfl,rfl,aR,by simp [hlen],?_⟩;cases st
     .exact Reps.weak _ _ _ (Reps.keep _ _ _ kp ra)
     .exact Reps.keep _ _ _ kp ra
   .exact q.elim
  .exact q.elim
 .exact q.elim
end
section
variable {X:Cx}{pins:List (Addr × Obj)}{σ:L2.St}{H:Hp}{s:Shared}{d:Addr}{kvs:List (Key × V)}{o:Obj}
theorem V2 (I:Inv X pins σ H s) (hd:H d=some (.dK kvs)):∃ o,s.heap.get? d=some o /\ Inv X pins σ (upd H d (.frz o (.dK kvs))) s:=by
 have hok:=I.hok d _ hd;obtain⟨z,hs,vs,rel,dd⟩:=W4 I.hok hd;obtain⟨o,es,ep,ho,_⟩:=id dd;have ne:∀ {b:Addr},H b=none->b ≠ d:=fun h z=>by rw [z,hd] at h;cases h
 refine⟨o,ho,I.ok,I.os,I.bare,⟨I.base.keep,I.base.slot,fun b q h1 h2 h3=>?_,I.base.there,fun b xs e=>?_,fun b q u e=>?_,fun b ps e=>?_⟩,I.loc,I.cell,?_,fun x c e=>?_,fun p hp=>?_,fun b u e=>?_,I.len⟩
 .have:=I.base.free b q h1 h2 h3;rw [aJ (ne this)];exact this
 .have:=I.base.tups b xs e;rw [aJ (fun z=>by rw [z,hd] at this;cases this)];exact this
 .have:=I.base.frzs b q u e;rw [aJ (fun z=>by rw [z,hd] at this;cases this)];exact this
 .obtain⟨m,e1⟩:=I.base.tbls b ps e;exact⟨m,by rw [aJ (fun z=>by rw [z,hd] at e1;cases e1)];exact e1⟩
 .rw [aJ (ne I.free)];exact I.free
 .rw [aJ (ne (I.freeC x c e))];exact I.freeC x c e
 .obtain⟨a1,a2,a3⟩:=I.pin p hp;exact⟨a1,by rw [aJ (ne a2)];exact a2,a3⟩
 .by_cases hb:b=d
  .subst hb;rw [aR] at e;cases e;exact⟨ho,z,hs,vs,rel,dd⟩
  .rw [aJ hb] at e;exact (I.hok b u e).stay (fun c q _ r=>r) (fun c qc=>by rw [aJ (fun z=>by rw [z,hd] at qc;cases qc)];exact qc) fun c xs qc=>by rw [aJ (fun z=>by rw [z,hd] at qc;cases qc)];exact qc
theorem wL (I:Inv X pins σ H s) (hd:H d=some (.frz o (.dK kvs))) (h0:∀ o u,X.H₀ d ≠ some (.frz o u)):Inv X pins σ (upd H d (.dK kvs)) s:=by
 have ne:∀ {b:Addr},H b=none->b ≠ d:=fun h z=>by rw [z,hd] at h;cases h
 obtain⟨ho,hok⟩:s.heap.get? d=some o /\ ObjOk X.prog X.w H s.heap d (.dK kvs):=I.hok d _ hd;refine⟨I.ok,I.os,I.bare,⟨I.base.keep,I.base.slot,fun b q h1 h2 h3=>?_,I.base.there,fun b xs e=>?_,fun b q u e=>?_,fun b ps e=>?_⟩,I.loc,I.cell,?_,fun x c e=>?_,fun p hp=>?_,fun b u e=>?_,I.len⟩
 .have:=I.base.free b q h1 h2 h3;rw [aJ (ne this)];exact this
 .have:=I.base.tups b xs e;rw [aJ (fun z=>by rw [z,hd] at this;cases this)];exact this
 .have:=I.base.frzs b q u e;rw [aJ (fun z=>by rw [z] at e;exact h0 _ _ e)];exact this
 .obtain⟨m,e1⟩:=I.base.tbls b ps e;exact⟨m,by rw [aJ (fun z=>by rw [z,hd] at e1;cases e1)];exact e1⟩
 .rw [aJ (ne I.free)];exact I.free
 .rw [aJ (ne (I.freeC x c e))];exact I.freeC x c e
 .obtain⟨a1,a2,a3⟩:=I.pin p hp;exact⟨a1,by rw [aJ (ne a2)];exact a2,a3⟩
 .by_cases hb:b=d
  .subst hb;rw [aR] at e;cases e;exact hok
  .rw [aJ hb] at e;exact (I.hok b u e).stay (fun c q _ r=>r) (fun c qc=>by rw [aJ (fun z=>by rw [z,hd] at qc;cases qc)];exact qc) fun c xs qc=>by rw [aJ (fun z=>by rw [z,hd] at qc;cases qc)];exact qc
theorem Z4x {e:Expr}{t:TE}(h:PE X e t):PE X e (fun σ H Q=>∃ d kvs,H d=some (.dK kvs) /\ ∀ o,t σ (upd H d (.frz o (.dK kvs))) fun v H2=>H2 d=some (.frz o (.dK kvs)) /\ Q v (upd H2 d (.dK kvs))):=by
 intro pins s σ H Q I ⟨d,kvs,hd,q⟩;obtain⟨o,ho,I1⟩:=V2 I hd;have h0:∀ o u,X.H₀ d ≠ some (.frz o u):=fun o u e=>by
  have:=I.base.frzs d o u e;rw [hd] at this;cases this
 exact thn (h pins s σ _ _ I1 (q o)) fun v s1 ⟨x,H2,I2,r,h2,q2⟩=>⟨x,_,wL I2 h2 h0,r,q2⟩
noncomputable def Itk (d:Addr) (o:Obj) (kvs:List (Key × V)):It :=
 ⟨fun i H=>H d=some (.frz o (.dK kvs)) /\ i < kvs.length,fun i H x H'=>H'=H /\ ∃ k v,kvs[i]? = some (k,v) /\ x=kV k,fun i H=>H d=some (.frz o (.dK kvs)) /\ kvs.length <= i⟩
theorem qV {knd:PySem.KeyKind X.prog X.w Key}{h:Heap}{vs:List (Key × Value)}{es:Array DictEntry}{ep:Nat}(ho:h.get? d=some o) (hd:o.data=.dict es ep) (dd:h.DictOf knd d vs):h.DictAt knd d vs ep:=by
 obtain⟨o',es',ep',ho',hc,hd',r⟩:=dd;rw [ho] at ho';cases ho';rw [hd] at hd';cases hd';exact⟨o,es,ho,hc,hd,r⟩
theorem L4 {P:Program}{w:World}{K:Frag}{tg:Expr}(it:Addr) {es:Array DictEntry}{ep:Nat}(hd:o.data=.dict es ep) (hne:d ≠ it):zC P w K tg (Itk d o kvs) [it] it (fun i h=>h.IsKeyIter it d i kvs.length ep) where
 mem:=by simp
 obj:=fun i h st b hb=>by
  have e:b=it:=by simpa using hb
  subst e;obtain⟨o,e,c,d⟩:=st;exact⟨o,e,fun v z=>by rw [d] at z;cases z⟩
 keep:=fun i h h' st k=>st.at fun o e=>k it (by simp) o e
 item:=by
  intro X hP hw hK hc i pins s σ H E I hf st hg;subst hP hw hK;obtain⟨hH,hi⟩:=hg;obtain⟨ho,z,hs,vs,rel,dd⟩:s.heap.get? d=some o /\ kvs.length <= sizeLine /\ (d == sysModules)=false /\ ∃ vs,KV kvs vs /\ s.heap.DictOf (dC X.prog X.w) d vs:=I.hok d _ hH;have dA:=qV (X:=X) ho hd dd;have hl:=rel.length;rw [hl] at st ⊢;obtain⟨f0,f1,f2,f3,f4,f5⟩:=hf it (by simp);have hx:=List.getElem?_eq_getElem (show i < vs.length by omega);refine wpAny_pyNext_dict_item st dA (k:=vs[i].1) (v:=vs[i].2) hx fun key h' hkey st' sb=>?_;have I1:Inv X pins σ H { s with heap:=h' }:=I.turned (t':=s.toks) (fun b o hb e=>(sb.2 b hb).trans e) f0 f1 f3 f4 f5;obtain⟨o2,e2,c2,d2⟩:=id st';have hkk:(kvs.map (·.1))[i]? = some vs[i].1:=by rw [rel.keys,List.getElem?_map,hx];rfl
  obtain⟨kv,hkv,ekv⟩:∃ kv,kvs[i]? = some kv /\ kv.1=vs[i].1:=by
   rw [List.getElem?_map] at hkk;cases hq:kvs[i]? with
   | none=>rw [hq] at hkk;cases hkk
   | some kv=>rw [hq] at hkk;exact⟨kv,rfl,Option.some.inj hkk⟩
  have rk:RelV (kV vs[i].1) key:=by
   rcases cM (show rE vs[i].1 key=true from hkey) with ⟨j,t,e,rfl⟩ | ⟨x,t,e,rfl⟩
   .rw [e];exact⟨t,rfl⟩
   .rw [e];exact⟨t,rfl⟩
  exact⟨key,rfl,E4 (s:={ s with heap:=h' }) e2 c2 d2 (by decide) ⟨kV vs[i].1,H,I1,rk,⟨rfl,kv.1,kv.2,hkv,by rw [ekv]⟩,st',fun b hb=>(hf b hb).1⟩⟩
 done:=by
  intro X hP hw hK hc i pins s σ H E I hf st hg;subst hP hw hK;obtain⟨hH,hi⟩:=hg;obtain⟨ho,z,hs,vs,rel,dd⟩:s.heap.get? d=some o /\ kvs.length <= sizeLine /\ (d == sysModules)=false /\ ∃ vs,KV kvs vs /\ s.heap.DictOf (dC X.prog X.w) d vs:=I.hok d _ hH;have dA:=qV (X:=X) ho hd dd;have hl:=rel.length;rw [hl] at st;obtain⟨f0,f1,f2,f3,f4,f5⟩:=hf it (by simp);exact wpAny_pyNext_dict_end (I.ok.hd hc) st dA (List.getElem?_eq_none (by omega)) fun h' eb=>⟨rfl,I.turned (t':=s.toks) (fun b o hb e=>eb b o hb e) f0 f1 f3 f4 f5⟩
 self:=fun _ _ _ _ _ st h=>wpAny_pyIter_keyiter st h
theorem B7 {tg:Expr}{i:Nat}{x:Str}{p:Pos}(hN:X.N[i]? = some x) (hv:Vis X.env.scope x) (hdb:(x == ("__debug__" : Str))=false:=by decide) (hcd:(x == ("__classdict__" : Str))=false:=by decide) :
  PI X tg (.Name x p) (fun σ H R=>∃ d o kvs,σ[i]? = some (some (.ref d)) /\ H d=some (.frz o (.dK kvs)) /\ R (Itk d o kvs) H):=by
 intro pins s σ H R I ⟨d,o,kvs,e,hd,q⟩;refine thn (gD hN hv hdb hcd pins s σ H (fun v H1=>v=.ref d /\ H1=H) I ⟨.ref d,e,rfl,rfl⟩) fun v s1 ⟨x,H1,I1,r1,ex,eH⟩=>?_;subst ex eH;cases r1;obtain⟨ho,z,hs,vs,rel,dd⟩:s1.heap.get? d=some o /\ kvs.length <= sizeLine /\ (d == sysModules)=false /\ ∃ vs,KV kvs vs /\ s1.heap.DictOf (dC X.prog X.w) d vs:=I1.hok d _ hd;obtain⟨o',es,ep,ho',hc,hdat,hrest⟩:=id dd;rw [ho] at ho';cases ho';have dA:=qV (X:=X) ho hdat dd;have hlt:=Heap.lt_size ho;refine wpAny_pyIter_dict hs dA ?_;refine⟨s1.heap.objs.size,[s1.heap.objs.size],_,_,H1,rfl,I1.kept (t':=s1.toks) fun b o e=>Heap.get?_push_of_some _ e,L4 (kvs:=kvs) s1.heap.objs.size hdat (Nat.ne_of_lt hlt),⟨_,Heap.get?_push_size _ rfl,rfl,by rw [rel.length];rfl⟩,fun b hb=>?_,q⟩;have e:b=s1.heap.objs.size:=by simpa using hb
 subst e;exact I1.fpOk (Nat.le_refl _) (I1.hok.fresh (Nat.le_refl _))
end
noncomputable def yK:Key->D
 | .inl i=>.int i
 | .inr x=>.str x
theorem Z20 {K:Frag}{H:Hp}{st:Bool}(k:Key):Rep K st H (yK k) (kV k) []:=by
 cases k <;> (simp only [yK,Rep];exact⟨rfl,trivial⟩)
mutual
theorem Rep.keepF {K:Frag}{st:Bool}{H H':Hp}(ht:∀ a xs,SqT K H a xs->SqT K H' a xs):∀ (d:D) (v:V) (fp:List Addr),flat d=true->Rep K st H d v fp->Rep K st H' d v fp
 | .non,v,fp,_,h=>by simpa only [Rep] using h
 | .bl _,v,fp,_,h=>by simpa only [Rep] using h
 | .int _,v,fp,_,h=>by simpa only [Rep] using h
 | .str _,v,fp,_,h=>by simpa only [Rep] using h
 | .tup ds,v,fp,f,h=>by
  simp only [Rep] at h ⊢;obtain⟨a,vs,e,hs,hr⟩:=h;exact⟨a,vs,e,ht _ _ hs,Reps.keepF ht ds vs fp (by simpa only [PD.flat] using f) hr⟩
 | .lst _,v,fp,f,h=>by simp only [PD.flat] at f;cases f
 | .obj _ _ _,v,fp,f,h=>by simp only [PD.flat] at f;cases f
 | .dk _ _,v,fp,f,h=>by simp only [PD.flat] at f;cases f
 | .dt _ _,v,fp,f,h=>by simp only [PD.flat] at f;cases f
 | .exc _,v,fp,f,h=>by simp only [PD.flat] at f;cases f
 | .fn _ _ _,v,fp,f,h=>by simp only [PD.flat] at f;cases f
theorem Reps.keepF {K:Frag}{st:Bool}{H H':Hp}(ht:∀ a xs,SqT K H a xs->SqT K H' a xs):∀ (ds:List D) (vs:List V) (fp:List Addr),flats ds=true->Reps K st H ds vs fp->Reps K st H' ds vs fp
 | [],vs,fp,_,h=>by simpa only [Reps] using h
 | d :: ds,vs,fp,f,h=>by
  simp only [Reps] at h ⊢;simp only [flats,Bool.and_eq_true] at f;obtain⟨v,r,f1,f2,e1,e2,h1,h2⟩:=h;exact⟨v,r,f1,f2,e1,e2,Rep.keepF ht d v f1 f.1 h1,Reps.keepF ht ds r f2 f.2 h2⟩
end
noncomputable def yQ (env:En) (j:Nat):Bool:=match env[j]? with
 | some (some (_,d))=>flat d
 | _=>true
noncomputable def wA (fr:List Nat) (env:En):En:=env.mapIdx fun j s=>if fr.contains j then s else none
noncomputable def jP (fr:List Nat) (i:Nat) (fc:En->Option Bool) (fe:En->Option D):En->Option D:=fun env=>match env[i]? with
 | some (some (_,.dk ks _))=>if fr.all (yQ env)=true then
   match cC fr (fun _=>some (ks.map yK)) fc fe (wA fr env) with
   | some (.lst ys)=>if flats ys=true then some (.lst ys) else none
   | _=>none
  else none
 | _=>none
section
variable {X:Cx}{rs:List Nat}{elt:Expr}{ifs:List Expr}{scope:Scope}{fr:List Nat}{fc:En->Option Bool}{fe:En->Option D}{pos px p:Pos}{i:Nat}{x y:Str}
theorem uH {σ:L2.St}{H:Hp}{Q:VK}(h:tD X.K true [] (jP fr i fc fe) σ H Q) :
  ∃ d kvs,H d=some (.dK kvs) /\ ∀ o,zR (fun σ H R=>∃ d o kvs,σ[i]? = some (some (.ref d)) /\ H d=some (.frz o (.dK kvs)) /\ R (Itk d o kvs) H) 1 fr (uD 0) (tDT X.K fc) (tD X.K true [] fe) σ (upd H d (.frz o (.dK kvs))) fun v H2=>H2 d=some (.frz o (.dK kvs)) /\ Q v (upd H2 d (.dK kvs)):=by
 obtain⟨env,F,d,ok,e,q⟩:=h;unfold jP at e;split at e
 .rename_i ow ks ds h1;split at e
  .rename_i hfl;split at e
   .rename_i ys hcomp;split at e
    .rename_i hys;cases e;obtain⟨v,hv1,hv2⟩:=ok i ow _ h1;simp only [Rep] at hv2;obtain⟨a,vs,fp',rfl,hFi,ha,hlen,hr⟩:=hv2;refine⟨a,ks.zip vs,ha,fun o=>?_⟩;have st1:∀ b xs,SqT X.K H b xs->SqT X.K (upd H a (.frz o (.dK (ks.zip vs)))) b xs:=T1 ha (by intro xs z;cases z) (by intro q xs z;cases z);have oke:EnvOk X.K (upd H a (.frz o (.dK (ks.zip vs)))) σ (wA fr env) (fun _=>[]):=fun j o' d' ej=>by
      unfold wA at ej;rw [List.getElem?_mapIdx] at ej;cases hj:env[j]? with
      | none=>rw [hj] at ej;cases ej
      | some sl =>
       rw [hj] at ej;simp only [Option.map_some,Option.some.injEq] at ej;split at ej
       .rename_i hin;subst ej;obtain⟨u,hu1,hu2⟩:=ok j o' d' hj;have hfj:flat d'=true:=by
         have:=(List.all_eq_true.mp hfl) j (by simpa using hin);unfold yQ at this;rw [hj] at this;exact this
        obtain⟨_,g⟩:=Rep.flat _ _ _ hfj hu2;exact⟨u,hu1,Rep.keepF st1 _ _ _ hfj (g false)⟩
       .cases ej
     have hr0:=qW (K:=X.K) (rs:=[]) (fr:=fr) (src:=fun _=>some (ks.map yK)) (fc:=fc) (fe:=fe) (σ:=σ) (H:=upd H a (.frz o (.dK (ks.zip vs))))
      (Q:=fun v H2=>H2 a=some (.frz o (.dK (ks.zip vs))) /\ Q v (upd H2 a (.dK (ks.zip vs)))) ⟨wA fr env,fun _=>[],_,oke,hcomp,fun v H2 fp s r c=>?_⟩
     .obtain⟨_,_,ds',_,eds,k⟩:=hr0;cases eds;refine⟨a,o,ks.zip vs,hv1,aR,k (Itk a o (ks.zip vs)) _ [] (Same.refl _) (fun H2 kp j=>?_) (fun b hb=>(by cases hb)) .nil⟩;have hz:(ks.zip vs).length=ks.length:=by rw [List.length_zip];omega
      have hd2:=kp.frz _ _ _ (aR (H:=H) (a:=a) (o:=.frz o (.dK (ks.zip vs))));refine⟨fun d' ed=>?_,fun hl=>⟨hd2,by rw [List.length_map] at hl;omega⟩⟩;obtain⟨kk,hkk,rfl⟩:∃ kk,ks[j]? = some kk /\ d'=yK kk:=by
       rw [List.getElem?_map] at ed;cases hq:ks[j]? with
       | none=>rw [hq] at ed;cases ed
       | some kk=>rw [hq] at ed;exact⟨kk,rfl,(Option.some.inj ed).symm⟩
      have hjl:j < ks.length:=(List.getElem?_eq_some_iff.mp hkk).1;refine⟨⟨hd2,by omega⟩,fun x' H3 ⟨eH,k',v',hkv,ex⟩=>?_⟩;subst eH ex;have:k'=kk:=by
       rw [List.getElem?_zip_eq_some] at hkv;rw [hkv.1] at hkk;exact Option.some.inj hkk
      subst this;exact⟨Same.refl _,[],Z20 k',fun b hb=>(by cases hb)⟩
     .have h2:H2 a=some (.frz o (.dK (ks.zip vs))):=s _ _ aR;refine⟨h2,?_⟩;obtain⟨p',us,fp2,ep,hs2,hr2,hsub⟩:=bK r;obtain⟨a',us',fpx,ep',hfp,ha',hr'⟩:=jW r;subst ep';have hna:a' ≠ a:=fun z=>by
       have:=(c.2 rfl).2 a' (by rw [hfp];exact List.mem_cons_self);rw [z,aR] at this;cases this
      have st2:∀ b xs,SqT X.K H2 b xs->SqT X.K (upd H2 a (.dK (ks.zip vs))) b xs:=T1 h2 (by intro xs z;cases z) (by intro q xs z;cases z);obtain⟨e0,gys⟩:=Reps.flat _ _ _ hys hr';subst e0;refine q _ _ [a'] ?_ (M8 (by rw [aJ hna];exact ha') (Reps.keepF st2 _ _ _ hys (gys true))) ?_
      .intro b ob eb;by_cases hb:b=a
       .subst hb;rw [aR];rw [ha] at eb;exact eb
       .rw [aJ hb];exact s _ _ (by rw [aJ hb];exact eb)
      .have hn:H a'=none:=by
        have:=(c.2 rfl).2 a' (by rw [hfp];exact List.mem_cons_self)
        rwa [aJ hna] at this
       refine⟨fun b hb=>.inl ?_,fun _=>⟨by simp,fun b hb=>?_⟩⟩
       .rw [List.mem_singleton.mp hb];exact hn
       .rw [List.mem_singleton.mp hb];exact hn
    .cases e
   .cases e
  .cases e
 .cases e
theorem Z1g (i:Nat) (hc:X.calm=true) (chk:eN X.env.scope X.N scope fr=true) (hN:X.N[i]? = some y) (hv:Vis X.env.scope y)
  (hnd:(dB [x] fr X.N).Nodup) (hx:scope.names.lookup x=some .local)
  (ht:∀ cl C s0 H0 ex pins,QTs (dH X (dB [x] fr X.N) scope cl C s0 H0 ex pins) ifs fc)
  (he:∀ cl C s0 H0 ex pins,QE (dH X (dB [x] fr X.N) scope cl C s0 H0 ex pins) true [] elt fe)
  (hdb:(y == ("__debug__" : Str))=false:=by decide) (hcd:(y == ("__classdict__" : Str))=false:=by decide)
  (hs:∀ z,foldedSetIterable (.Name y p) X.env z=pure z:=by intro _;rfl) :
  QE X true [] (.ListComp elt [⟨.Name x px,.Name y p,ifs,0⟩] scope pos) (jP fr i fc fe) :=
 .mk (Z4x (xX (tgs:=[x]) (tt:=tDT X.K fc) (te:=tD X.K true [] fe) hc chk (B7 hN hv hdb hcd) (fun cl C s0 H0 ex pins=>cI (i:=0) hnd rfl (.inl (lookup_relabel_local hx)) (.inr (lookup_relabel_local hx))) ht he hs)) fun σ H Q h=>uH h
theorem Z4q {st:Stmt}{t:TS}(h:PS X st t):PS X st (fun D σ H=>∃ d kvs,H d=some (.dK kvs) /\ ∀ o,t { nx:=fun σ' H2=>H2 d=some (.frz o (.dK kvs)) /\ D.nx σ' (upd H2 d (.dK kvs)),rt:=fun _ _=>False } σ (upd H d (.frz o (.dK kvs)))):=by
 intro pins s σ H D I ⟨d,kvs,hd,q⟩;obtain⟨o,ho,I1⟩:=V2 I hd;have h0:∀ o u,X.H₀ d ≠ some (.frz o u):=fun o u e=>by
  have:=I.base.frzs d o u e;rw [hd] at this;cases this
 refine thn (h pins s σ _ _ I1 (q o)) fun f s1 hf=>?_;cases f with
 | next=>obtain⟨σ',H2,I2,h2,q2⟩:=hf;exact⟨σ',_,wL I2 h2 h0,q2⟩
 | brk=>obtain⟨σ',H2,I2,z⟩:=hf;exact z.elim
 | cont=>obtain⟨σ',H2,I2,z⟩:=hf;exact z.elim
 | ret u=>obtain⟨v,σ',H2,I2,r,z⟩:=hf;exact z.elim
theorem B1 {i':Nat}{z:Str}{pos' spos:Pos}(i:Nat) (hc:X.calm=true) (hNd:X.N.Nodup) (hi':X.N[i']? = some z) (hx':Loc X.env.scope z) (chk:eN X.env.scope X.N scope fr=true) (hN:X.N[i]? = some y) (hv:Vis X.env.scope y)
  (hnd:(dB [x] fr X.N).Nodup) (hx:scope.names.lookup x=some .local)
  (ht:∀ cl C s0 H0 ex pins,QTs (dH X (dB [x] fr X.N) scope cl C s0 H0 ex pins) ifs fc)
  (he:∀ cl C s0 H0 ex pins,QE (dH X (dB [x] fr X.N) scope cl C s0 H0 ex pins) true [] elt fe)
  (hsw:swapsWith (.ListComp elt [⟨.Name x px,.Name y p,ifs,0⟩] scope pos) (some (.Name z pos')) spos.line X.env=pure true:=by rfl)
  (hdb:(y == ("__debug__" : Str))=false:=by decide) (hcd:(y == ("__classdict__" : Str))=false:=by decide)
  (hf:X.fn z=true \/ X.env.scope.names.lookup z=some .local:=by first | exact .inl rfl | exact .inr rfl | assumption)
  (hs:∀ z,foldedSetIterable (.Name y p) X.env z=pure z:=by intro _;rfl) :
  QS X (.Assign [.Name z pos'] (.ListComp elt [⟨.Name x px,.Name y p,ifs,0⟩] scope pos) spos) (bI i' (jP fr i fc fe)) :=
 .mk (Z4q (tH (tgs:=[x]) (tt:=tDT X.K fc) (te:=tD X.K true [] fe) hc hNd hi' hx' chk (B7 hN hv hdb hcd) (fun cl C s0 H0 ex pins=>cI (i:=0) hnd rfl (.inl (lookup_relabel_local hx)) (.inr (lookup_relabel_local hx))) ht he hsw hf hs)) fun E σ H q=>uH (qD q)
end
section
variable {X:Cx}{m m1 m2:Bool}{rs rs1 rs2:List Nat}{o e:Expr}{fo fe:En->Option D}{apos cpos:Pos}
end
section
variable {X:Cx}{m m1 m2:Bool}{rs rs1 rs2:List Nat}{k v:Expr}{fk fv:En->Option D}{pos:Pos}{ks:List (Option Expr)}{vs:List Expr}{fp fr:En->Option (List (Key × Int))}
end
section
variable {X:Cx}{m m1:Bool}{rs rs1:List Nat}{a:Expr}{fa:En->Option D}{pos:Pos}
end
end PD
namespace L2
open PySem PySem.Spec PyProof.Rows
theorem Z0l {K:Frag}
  (KX:K.In s₁.heap) (hns:s₁.heap.Ns mainGlobals mg) (hb:s₁.heap.Ns builtinsNs mb) (hbb:∀ x:Str,x ≠ "__name__" -> mb x=bootBuiltins x) (hlim:s₁.heap.NoLimit) (hg:s₁.gens = #[])
  (ha:s₁.heap.get? a=some { cls:=.type "list",data:=.seq vs.toArray }) (hi:IntsAre vs ns) (hl:ns.length <= sizeLine) (hr:Room k callerA)
  (hT:s₁.heap.TableAt c₀ P₀ #[]) (hKP:K.lookup P₀=none) (hBm:s₁.heap.BuiltinsAt mg P₀)
  (F:∀ base:Heap,K.In base->base.Ns mainGlobals mg->base.BuiltinsAt mg P₀->bR P w K mg base CX k fa fd [x] sp) (hbind:∀ (s:Shared) (u:Value),BindsTo s fd ⟨[u],[]⟩ [(x,u)])
  (hsp:∀ H:Hp,H P₀=some (.tbl #[(pos,q₀)])->SqL K H a (ns.map V.int)->sp [.ref a] H (fun v H'=>v=.bl true /\ H' P₀=some (.tbl #[(pos,q₀)])) fun _ _ _=>False)
  (hCX:∀ H e s',CX [] H s₁ (fun _ _ _=>False) e s'->False) :
  codeAny (model P w) callerA (.call (.ref fa) ⟨[.ref a],[]⟩) (fun r s'=>r=.ok (.ret (.bool true)) /\ OldK s₁.heap s'.heap /\ s'.os=s₁.os /\ AllBare s'.gens) s₁:=by
 have rv:=jS hi;have lenV:=hi.length;have hP:=hT.2;have hPa:P₀ ≠ a:=fun z=>by rw [z,ha] at hP;cases hP
 have core:∀ H:Hp,H P₀=some (.tbl #[(pos,q₀)])->(H a=none \/ ∃ o xs,H a=some (.frz o (.lst xs)))->SqL K H a (ns.map V.int)->HOk P w H s₁.heap->(∀ b,H b ≠ none->b=a \/ b=P₀)->(H a ≠ none->K.lookup a=none) ->
   codeAny (model P w) callerA (.call (.ref fa) ⟨[.ref a],[]⟩) (fun r s'=>r=.ok (.ret (.bool true)) /\ OldK s₁.heap s'.heap /\ s'.os=s₁.os /\ AllBare s'.gens) s₁:=by
  intro H hHP hO hS hok hA hK;have base_of:∀ {b:Addr}{o:Obj},s₁.heap.get? b=some o->H b=none->(vG s₁.heap H).get? b=some o:=fun e n=>Z26 e n;have noA:∀ {b:Addr}{o:Obj}{es:Array DictEntry}{ep:Nat},s₁.heap.get? b=some o->o.data=.dict es ep->H b=none:=fun {b o es ep} e d=>by
   cases q:H b with
   | none=>rfl
   | some u =>
    rcases hA b (by rw [q];simp) with e' | e'
    .subst e';rw [ha] at e;cases e;cases d
    .subst e';rw [hP] at e;cases e;cases d
  have nsK:∀ {b:Addr}{m:Str->Option Value},s₁.heap.Ns b m->(vG s₁.heap H).Ns b m:=fun {b m} ⟨o,es,ep,e,d,r⟩=>⟨o,es,ep,base_of e (noA e d),d,r⟩;have hKb:K.In (vG s₁.heap H):=fun b o e=>base_of (KX b o e) (by
   cases q:H b with
   | none=>rfl
   | some u =>
    rcases hA b (by rw [q];simp) with e' | e'
    .subst e';rw [hK (by rw [q];simp)] at e;cases e
    .subst e';rw [hKP] at e;cases e)
  have hBb:(vG s₁.heap H).BuiltinsAt mg P₀:=by
   obtain⟨bm,ob,b1,b2,b3,b4,b5,b6,b7⟩:=hBm;refine⟨bm,ob,b1,b2,b3,b4,base_of b5 ?_,b6,b7⟩;cases q:H bm with
   | none=>rfl
   | some u =>
    rcases hA bm (by rw [q];simp) with e' | e'
    .rw [e',ha] at b5;cases b5;exact absurd (show Value.type "list" = Value.type "module" from b6) (by decide)
    .exact absurd e' b4
  have hM:Mod K mg (vG s₁.heap H):=⟨hKb,nsK hns,⟨mb,nsK hb,hbb⟩,let ⟨mc,h1,h2⟩:=hlim;⟨mc,nsK h1,h2⟩⟩;have e0:Env0 P w K mg (vG s₁.heap H) callerA [] s₁ H:=⟨rfl,hM,fun b o e=>Z3f e,Nat.le_of_eq (Z0r _ _),trivial,fun b hb=>absurd (show b ∈ ([]:List Addr) from hb) (by simp),hok,.of_eq hg⟩
  refine codeAny_mono ((F _ hKb (nsK hns) hBb).run callerA [] s₁ H ⟨[.ref a],[]⟩ [.ref a] [.ref a] _ _ hr e0 (hbind s₁ (.ref a)) (.cons rfl .nil) (hsp H hHP hS)) fun r s' h=>?_;cases r with
  | error e=>exact (hCX H e s' h).elim
  | ok fl =>
   cases fl with
   | next=>exact False.elim h
   | brk=>exact False.elim h
   | cont=>exact False.elim h
   | ret u =>
    obtain⟨v,H',os,bare,un,hok',r',q1,q2⟩:=h;subst q1;obtain rfl:u=Value.bool true:=r';have old:∀ b o,s₁.heap.get? b=some o->b ≠ P₀->s'.heap.get? b=some o:=fun b o e hbP=>by
     cases q:H b with
     | none=>exact un.keep b o e q (by intro z;exact absurd (show b ∈ ([]:List Addr) from z) (by simp)) (by simp)
     | some u =>
      rcases hA b (by rw [q];simp) with e' | e'
      .subst e';rcases hO with z | ⟨ob,xs,z⟩
       .rw [q] at z;cases z
       .have z2:=un.frzs b ob _ z;obtain⟨e1,_⟩:=hok b _ z;obtain⟨e2,_⟩:=hok' b _ z2;rw [e] at e1;cases e1;exact e2
      .exact absurd e' hbP
    obtain⟨ps,hps,_⟩:=(show ObjOk P w H' s'.heap P₀ (.tbl #[(pos,q₀)]) from hok' P₀ _ q2)
    refine⟨rfl,⟨fun b o e=>?_,fun b o e=>?_⟩,os,bare⟩
    .by_cases hbP:b=P₀
     .subst hbP;rw [hP] at e;cases e;exact .inr (.inl ⟨hT.isCodeTable,rfl,#[],ps,rfl,by rw [hps];simp⟩)
     .exact .inl (old b o e hbP)
    .by_cases hbP:b=P₀
     .subst hbP;exact⟨_,hps⟩
     .exact⟨o,old b o e hbP⟩
 have tx:∀ H:Hp,ObjOk P w H s₁.heap P₀ (.tbl #[(pos,q₀)]):=fun H=>⟨#[],hP,True.intro,fun p _=>.inl rfl⟩;cases hk:K.lookup a with
 | some o =>
  have e:=KX a o hk;rw [ha] at e;cases e;refine core (fun b=>if b=P₀ then some (.tbl #[(pos,q₀)]) else none) (if_pos rfl) (.inl (if_neg (Ne.symm hPa))) (.inr ⟨_,vs.toArray,_,hk,rfl,rfl,rfl,by rw [List.size_toArray,lenV];exact hl,by simpa using rv⟩) (fun b u z=>?_) (fun b z=>?_) fun z=>absurd (if_neg (Ne.symm hPa)) z
  .by_cases hb:b=P₀
   .have z':=(if_pos hb).symm.trans z;cases z';subst hb;exact tx _
   .have z':=(if_neg hb).symm.trans z;cases z'
  .by_cases hb:b=P₀
   .exact .inr hb
   .exact absurd (if_neg hb) z
 | none =>
  refine core (fun b=>if b=P₀ then some (.tbl #[(pos,q₀)]) else if b=a then some (.frz { cls:=.type "list",data:=.seq vs.toArray } (.lst (ns.map V.int))) else none) (if_pos rfl) (.inr ⟨{ cls:=.type "list",data:=.seq vs.toArray },ns.map V.int,(if_neg (Ne.symm hPa)).trans (if_pos rfl)⟩) (.inl (.inr ⟨{ cls:=.type "list",data:=.seq vs.toArray },(if_neg (Ne.symm hPa)).trans (if_pos rfl)⟩)) (fun b u z=>?_) (fun b z=>?_) fun _=>hk
  .by_cases hbP:b=P₀
   .have z':=(if_pos hbP).symm.trans z;cases z';subst hbP;exact tx _
   .by_cases hb:b=a
    .have z':=((if_neg hbP).trans (if_pos hb)).symm.trans z;cases z';subst hb;exact⟨ha,by rw [List.length_map];exact hl,vs,_,rv,ha⟩
    .have z':=((if_neg hbP).trans (if_neg hb)).symm.trans z;cases z'
  .by_cases hbP:b=P₀
   .exact .inr hbP
   .by_cases hb:b=a
    .exact .inl hb
    .exact absurd ((if_neg hbP).trans (if_neg hb)) z
noncomputable def TabIn (H:Hp) (P:Addr) (pq:Pos × Str):Prop:=∃ ps:Array (Pos × Str),H P=some (.tbl ps) /\ ps[0]? = some pq
theorem TabIn.un (t:TabIn H P pq) (u:Un fs ex H H' h h'):TabIn H' P pq:=by
 obtain⟨ps,e,e0⟩:=t;obtain⟨more,e'⟩:=u.tbls P ps e;refine⟨_,e',?_⟩;have hlt:0 < ps.size:=by
  by_cases hz:0 < ps.size
  .exact hz
  .rw [Array.getElem?_eq_none (by omega)] at e0;cases e0
 rw [Array.getElem?_append_left hlt];exact e0
section
theorem Z1T (I:Inv X pins σ H s) (hc:X.env.code=.ref c) (C:PySem.W.CodeHd X.base c P) (hB:X.base.BuiltinsAt X.mg P)
  (hT:TabIn H P (pos,q)) (hq:X.env.qual ++ "<lambda>" = q) (hdef:defaultsOf params X.env=([],[])) (hcl:closureFor scope X.env=pure cl)
  (h:∀ a c' pm ctv oc s' H',Inv X pins σ H' s'->Same H H'->H' a=none->s.heap.objs.size <= a->s'.heap.get? a=some (PySem.W.kla_obj "<lambda>" q params body scope cl pm c' ctv)->H' c'=some (.frz oc (.cod q))->Q (.ref a) s') :
  wpAny (model X.prog X.w) X.A (eval (.Lambda params body scope pos) X.env) Q E s:=by
 obtain⟨ps,hP,h0⟩:=hT;obtain⟨pv,hpv,ht,hcs⟩:=(show ObjOk X.prog X.w H s.heap P (.tbl ps) from I.hok P _ hP)
 have hg:s.heap.Ns mainGlobals X.mg:=I.mod.glob.keeps I.bk;have hgP:mainGlobals ≠ P:=fun z=>by
  obtain⟨o,es,ep,e,hd,_⟩:=hg;rw [z,hpv] at e;cases e;cases hd
 have C':PySem.W.CodeHd s.heap c P:=C.keeps I.bk;have hB':s.heap.BuiltinsAt X.mg P:=hB.keeps I.bk;have hLP:X.env.locals ≠ P:=fun z=>by have:=I.free;rw [z,hP] at this;cases this
 refine PySem.W.kla_eval hdef ?_;rw [hq];rcases hcs _ h0 with hn | ⟨c',oc,hf,hc'⟩
 .refine PySem.W.kla_makeFunction hcl I.ok.glob hg hc C' hpv ht hn hgP hB' fun c' ctv h' tk hx hge hlt hrec htb=>?_;obtain⟨c2,oc,vs,t,e2,hoc,hdc,hv⟩:=hrec;cases e2;have hHc:H c'=none:=I.hok.fresh hge;have kp:∀ b o,b ≠ P->s.heap.get? b=some o->(h'.push (PySem.W.kla_obj "<lambda>" q params body scope cl ((X.mg "__name__").getD .none) c' ctv)).get? b=some o:=fun b o hb e=>Heap.get?_push_of_some _ (hx b o hb e);have nP:∀ b,H b=none->b ≠ P:=fun b hb z=>by rw [z,hP] at hb;cases hb
  have szh:s.heap.objs.size <= h'.objs.size:=Nat.le_trans hge (Nat.le_of_lt hlt);refine h h'.objs.size c' _ ctv oc _ (upd H c' (.frz oc (.cod q))) ?_ (fun b o e=>by rw [aJ (aQ e hHc)];exact e) ?_ szh (Heap.get?_push_size _ rfl) aR
  .refine Inv.step (s:=s) (t':=tk) (g':=s.gens) (d':=s.drawn) (ch:=[]) I (fun _ z=>nomatch z) (fun b o _ _ _ e n=>kp b o (nP b n) e) (fun b o _ _ _ e n=>⟨o.slots,kp b o (nP b n) e⟩)
    (fun b o _ e n=>by rw [aJ (Nat.ne_of_lt (Nat.lt_of_lt_of_le (Heap.lt_size e) hge))];exact n) (fun b o _ e=>?_)
    (fun b xs e=>by rw [aJ (aQ e hHc)];exact e) (fun b o u e=>by rw [aJ (aQ e hHc)];exact e) (fun b ps e=>⟨#[],by rw [aJ (aQ e hHc),e];simp⟩) (fun m hm=>?_) (fun b u e=>?_) I.bare
   .by_cases hb:b=P
    .subst hb;exact⟨_,Heap.get?_push_of_some _ htb⟩
    .exact⟨o,kp b o hb e⟩
   .obtain⟨o,es,ep,ho,r⟩:=hm;exact⟨o,es,ep,kp _ o hLP ho,r⟩
   .by_cases hb:b=c'
    .subst hb;rw [aR] at e;cases e;exact⟨Heap.get?_push_of_some _ hoc,_,oc,vs,t,rfl,Heap.get?_push_of_some _ hoc,hdc,hv⟩
    .rw [aJ hb] at e;by_cases hbP:b=P
     .subst hbP;rw [hP] at e;cases e;refine⟨_,Heap.get?_push_of_some _ htb,?_,fun p hp=>.inr ⟨c',oc,?_,?_⟩⟩
      .rw [Array.toList_append];exact TriplesOk_snoc _ _ _ _ ht
      .rw [h0] at hp;cases hp;rw [Array.toList_append];exact codeAmong_snoc _ ht hn
      .rw [h0] at hp;cases hp;exact aR
     .refine (I.hok b u e).stay (fun d v hd r=>kp d v ?_ r) (fun d r=>by rw [aJ (aQ r hHc)];exact r) (fun d xs r=>by rw [aJ (aQ r hHc)];exact r) (fun d o q r=>by rw [aJ (aQ r hHc)];exact r);rcases hd with z | z
      .rw [z];exact hbP
      .rintro rfl;rw [hP] at z;cases z
  .rw [aJ (Nat.ne_of_gt hlt)];exact I.hok.fresh szh
 .refine PySem.W.kla_makeFunctionHit hcl I.ok.glob hg hc C' hpv ht hf hB' fun ctv h' tk hk hsz=>?_;exact h h'.objs.size c' _ ctv oc _ H (I.kept (t':=tk) fun b o e=>Heap.get?_push_of_some _ (hk b o e)) (fun _ _ e=>e) (I.hok.fresh hsz) hsz (Heap.get?_push_size _ rfl) hc'
end
noncomputable def W5 (P:Program) (w:World) (K:Frag) (mg:Str->Option Value) (base:Heap) (N:List Str) (q:Str) (scope:Scope) (a c':Addr) (cl:List (Str × Addr)) (A:Around) (outer:List Env) (s:Shared) (H:Hp):Cx where
 prog:=P
 w:=w
 K:=K
 mg:=mg
 base:=base
 A:=A.deeper (PySem.W.envX q scope s.heap.objs.size a (.ref c') cl)
 N:=N
 s₀:=s
 H₀:=H
 env:=PySem.W.envX q scope s.heap.objs.size a (.ref c') cl
 outer:=outer
 stack:=PySem.W.envX q scope s.heap.objs.size a (.ref c') cl :: outer
 ex:=[]
 calm:=true
 fn:=fun _=>false
 pn:=[]
 xe:=fun _ _=>False
structure Z4X (q:Str) (params:Arguments) (body:Expr) (scope:Scope) (ns:List Str) (a:Addr) (dvs:List V) (s:Shared) (H:Hp) (fs:List Addr) (cl:List (Str × Addr)) (pm:Value) (c':Addr) (ctv:Value) (oc:Obj):Prop where
 fn:s.heap.get? a=some (PySem.W.kla_obj "<lambda>" q params body scope cl pm c' ctv)
 free:H a=none
 nfs:a ∉ fs
 code:H c'=some (.frz oc (.cod q))
 inj:∀ x y c,cl.lookup x=some c->cl.lookup y=some c->x=y
 has:∀ x,(x,NameKind.free) ∈ scope.names->∃ c,cl.lookup x=some c
 cell:∀ x c,cl.lookup x=some c->(∃ v,s.heap.IsCell c v) /\ H c=none /\ c ∉ fs
 len:dvs.length=ns.length
 vals:∀ (i:Nat) n dv,ns[i]? = some n->dvs[i]? = some dv->∃ c u,cl.lookup n=some c /\ s.heap.IsCell c (some u) /\ RelV dv u
theorem Z1U {K:Frag}
  (F:Z4X q params body scope ns a dvs s H fs cl pm c' ctv oc) (e0:Env0 P w K mg base A outer s H) (hr:Room (k + 1) A) (r:RelV v u)
  (hbind:bindArgs (PySem.W.kla_fn "<lambda>" q params body scope cl pm (.ref c') ctv) ⟨[u],[]⟩=pure [(x,u)]) (hx:scope.names.lookup x=some .local) (hns:∀ n ∈ ns,scope.names.lookup n=some .free) (hnc:∀ y ∈ scope.names,y.2 ≠ .cell)
  (hco:scope.isCoroutine=false) (hgen:scope.isGenerator=false) (hk:scope.kind=.function)
  (ht:Room k (A.deeper (PySem.W.envX q scope s.heap.objs.size a (.ref c') cl))->PE (W5 P w K mg base (x :: ns) q scope a c' cl A outer s H) body t) (hq:t (some v :: dvs.map some) H Q) :
  codeAny (model P w) A (.call (.ref a) ⟨[u],[]⟩) (CR CX outer P w H s Q E) s:=by
 have hd0:A.depth < recursionLimit:=by have:=hr.dp;omega
 have lim:s.heap.NoLimit:=e0.mod.nolimit.keeps fun b o e=>(e0.bs b o e).1;obtain⟨_,hcd⟩:=(show ObjOk P w H s.heap c' (.frz oc (.cod q)) from e0.hok c' _ F.code)
 refine PySem.W.kla_callFunE hd0 F.fn rfl hco hgen rfl hcd ?_;rw [hbind];refine wpAny_pure (wpAny_newFunctionEnv hnc (fun y hy=>?_) (fun h₁ hns₁ hsb=>⟨lim.fresh _ hsb,?_⟩) hk)
 .have:y=(x,u):=by simpa using hy
  subst this;exact hx
 show codeAny _ _ (.expr body (PySem.W.envX q scope s.heap.objs.size a (.ref c') cl)) _ _;have hk₁:∀ b o,s.heap.get? b=some o->h₁.get? b=some o:=fun b o e=>hsb.extBut b o (Nat.ne_of_lt (Heap.lt_size e)) (Heap.get?_push_of_some _ e);have noA:∀ b:Addr,b ∉ (W5 P w K mg base (x :: ns) q scope a c' cl A outer s H).ex:=fun b z=>absurd (show b ∈ ([]:List Addr) from z) (by simp)
 have I:Inv (W5 P w K mg base (x :: ns) q scope a c' cl A outer s H) [] (some v :: dvs.map some) H { s with heap:=h₁,toks:=s.toks + [(x,u)].length }:=by
  refine⟨⟨e0.mod,hk,rfl,rfl,Nat.le_refl _,F.inj,fun y hy=>?_,fun y c hf _=>(by cases hf),fun _=>hr.hd,Around.frames_deeper e0.frames,.inr ⟨rfl,rfl⟩,fun b z=>absurd z (noA b),e0.bs,e0.bsz,fun b _ _=>noA b,fun b z=>absurd z (noA b),e0.funs,e0.frf⟩,
   rfl,e0.bare,Un.kept hk₁,⟨_,hns₁,fun i y v' h1 h2 h3=>?_⟩,fun y c e=>?_,e0.hok.fresh (Nat.le_refl _),fun y c e=>(F.cell y c e).2.1,fun p hp=>absurd (show p ∈ ([]:List (Addr × Obj)) from hp) (by simp),e0.hok.kept hk₁,?_⟩
  .have hy:scope.names.lookup y=some .cell \/ scope.names.lookup y=some .free:=hy;rcases hy with hy | hy
   .exact absurd rfl (hnc _ (PySem.mem_of_lookup hy))
   .exact F.has y (PySem.mem_of_lookup hy)
  .cases i with
   | zero =>
    have h1:some x=some y:=h1;have h2:some (some v)=some (some v'):=h2;cases h1;cases h2;exact⟨u,r,.inl ⟨hx,by simp⟩⟩
   | succ i =>
    have h1:ns[i]? = some y:=h1;have h2:(dvs.map some)[i]? = some (some v'):=h2;rw [List.getElem?_map] at h2;cases hv:dvs[i]? with
    | none=>rw [hv] at h2;cases h2
    | some dv =>
     rw [hv] at h2;cases h2;obtain⟨c,u',e1,e2,e3⟩:=F.vals i y _ h1 hv;exact⟨u',e3,.inr ⟨.inr (hns y (List.mem_of_getElem? h1)),c,e1,e2.keeps hk₁⟩⟩
  .obtain⟨⟨v',z⟩,_⟩:=F.cell y c e;exact⟨v',z.keeps hk₁⟩
  .show (some v :: dvs.map some).length=(x :: ns).length;simp [F.len]
 refine PySem.W.kla_codeExpr (wpAny_mono (ht (hr.deeper _) [] _ _ H Q I hq) (fun u' s' hs=>?_) fun e s' z=>z.elim);obtain⟨v',H',J,rv,qq⟩:=hs;exact⟨v',H',J.os,J.bare,J.base,J.hok,rv,qq⟩
end L2
namespace PD
open PySem PySem.Spec PyProof.Rows L2
theorem TabIn.same (t:TabIn H P pq) (s:Same H H'):TabIn H' P pq:=let ⟨ps,e,e0⟩:=t;⟨ps,s _ _ e,e0⟩
theorem Reps.fam {K:Frag}{st:Bool}:∀ {ds:List D}{vs:List V}{fp:List Addr},Reps K st H ds vs fp->∃ F:Nat->List Addr,∀ (j:Nat) d,ds[j]? = some d->∃ v,vs[j]? = some v /\ Rep K st H d v (F j)
 | [],vs,fp,h=>⟨fun _=>[],fun j d e=>by simp at e⟩
 | d :: ds,vs,fp,h=>by
  simp only [Reps] at h;obtain⟨v,r,f1,f2,rfl,rfl,h1,h2⟩:=h;obtain⟨F,hF⟩:=Reps.fam h2;refine⟨fun j=>match j with | 0=>f1 | j + 1=>F j,fun j d' e=>?_⟩
  cases j with
  | zero=>simp at e;subst e;exact⟨v,rfl,h1⟩
  | succ j=>exact hF j d' (by simpa using e)
noncomputable def wT (d:D) (ds:List D):En:=some (false,d) :: ds.map fun x=>some (false,x)
theorem Z0z {K:Frag}(r:Rep K false H d v f) (rs:Reps K false H ds dvs fp):∃ F,EnvOk K H (some v :: dvs.map some) (wT d ds) F:=by
 obtain⟨F,hF⟩:=rs.fam;refine⟨fun i=>match i with | 0=>f | i + 1=>F i,fun i o d' e=>?_⟩
 cases i with
 | zero =>
  simp [wT] at e;obtain⟨_,rfl⟩:=e;exact⟨v,rfl,r⟩
 | succ i =>
  simp only [wT,List.getElem?_cons_succ,List.getElem?_map] at e;cases hd:ds[i]? with
  | none=>rw [hd] at e;cases e
  | some d2 =>
   rw [hd] at e;simp only [Option.map_some,Option.some.injEq,Prod.mk.injEq] at e;obtain⟨_,rfl⟩:=e;obtain⟨w,h1,h2⟩:=hF i d2 hd;exact⟨w,by simp [h1],h2⟩
noncomputable def St (q:Str) (params:Arguments) (body:Expr) (scope:Scope) (ns:List Str) (a:Addr) (dvs:List V) (s:Shared) (H:Hp) (fs:List Addr):Prop:=∃ cl pm c' ctv oc,Z4X q params body scope ns a dvs s H fs cl pm c' ctv oc
section
structure Z5Z (P:Program) (w:World) (K:Frag) (mg:Str->Option Value) (base:Heap) (k:Nat) (f:Addr) (fd:FuncData) (ps:List Str) (n:Nat) (S:Addr->List V->Shared->Hp->List Addr->Prop) (mm:Addr->List V->List D->Option D):Prop where
 run:∀ (A:Around) (outer:List Env) (s:Shared) (H:Hp) (args:Args) (us:List Value) (vs:List V) (Q:VK) (a:Addr) (dvs:List V),Room k A->Env0 P w K mg base A outer s H->S a dvs s H (frs outer)->BindsTo s fd args (ps.zip us)->Vals vs us->spD K n (mm a dvs) vs H Q E0 ->
  codeAny (model P w) A (.call (.ref f) args) (CR CX0 outer P w H s Q E0) s
end
noncomputable def lamPos (e:Expr):Pos:=match e with
 | .Lambda _ _ _ p=>p
 | _=>⟨0,0,0,0⟩
open Classical in
structure Z60 (P:Program) (w:World) (K:Frag) (mg:Str->Option Value) (base:Heap) (x:Str) (k n:Nat) (S:Addr->List V->Shared->Hp->List Addr->Prop) (mm:Addr->List V->List D->Option D):Prop where
 ex:∃ fA fd ps,Z5Z P w K mg base k fA fd ps n S mm /\ mg x=some (.ref fA) /\ keepIn K (.ref fA)=true /\ Binds K fd ps [] /\ ps.length=n
structure LamIn (fd:FuncData) (base:Heap) (mg:Str->Option Value) (P:Addr):Prop where
 ex:∃ c,fd.code=.ref c /\ PySem.W.CodeHd base c P
 blt:base.BuiltinsAt mg P
structure Z3S (X:Cx) (P:Addr) (lpos:Pos) (q:Str):Prop where
 ex:∃ c,X.env.code=.ref c /\ PySem.W.CodeHd X.base c P
 blt:X.base.BuiltinsAt X.mg P
 tab:TabIn X.H₀ P (lpos,q)
 qual:X.env.qual ++ "<lambda>" = q
theorem LamIn.at (L:LamIn fd X.base X.mg P) (hc:X.env.code=fd.code) (hT:TabIn X.H₀ P (lpos,q)) (hq:X.env.qual ++ "<lambda>" = q):Z3S X P lpos q :=
 ⟨let ⟨c,e,h⟩:=L.ex;⟨c,hc.trans e,h⟩,L.blt,hT,hq⟩
section
noncomputable def spT (K:Frag) (P:Addr) (pq:Pos × Str) (n:Nat) (f:List D->Option D):Sp:=fun vs H Q E=>TabIn H P pq /\ spD K n f vs H Q E
theorem FunD.okT {K:Frag}{st:Stmt}(F:FunD K x qual st f fd) (S:aS N ps (aI st)) (hn:ps.length=n) (hL:N.length=L)
  (hb:∀ (cdv:Value) (A:Around) (outer:List Env) (s:Shared) (H:Hp) (E:XK),Room k (A.deeper (envOfC qual (aI st) s.heap.objs.size f cdv))->cdv=fd.code->TabIn H P₀ pq->QSs (vI CX0 P w K mg base N qual (aI st) f cdv A outer s H E).nox (bQ st) g) :
  bR P w K mg base CX0 (k + 1) f fd ps (spT K P₀ pq n (runF L g)):=by
 subst hn hL;obtain⟨oc,od,dV,kV,doc,pm,an,cdv,ct,osl,rfl,lk,hcd⟩:=F.ex;refine W0 lk hcd S (fun vs H Q E h=>rW h.2) fun A outer s H vs Q E hr hsp=>?_;obtain⟨hT,ds,d,fp,h1,h2,h3,q⟩:=hsp;have hq:=hb cdv A outer s H E hr rfl hT;refine⟨_,PSs.nox hq,H,enStart N.length ds,nW h2,?_⟩;unfold runF at h3;cases hg:g (enStart N.length ds) with
 | ret d' =>
  rw [hg] at h3;cases h3;exact fun v H' fp' s r fr nd=>q v H' fp' s r fr nd
 | next env' =>
  rw [hg] at h3;cases h3;exact fun σ' H' I'=>q .non H' [] I'.same qK (fun b hb=>(by cases hb)) List.nodup_nil
 | brk _=>rw [hg] at h3;cases h3
 | cont _=>rw [hg] at h3;cases h3
 | bad=>rw [hg] at h3;cases h3
structure nM (P:Program) (w:World) (K:Frag) (mg:Str->Option Value) (base:Heap) (x:Str) (P₀:Addr) (pq:Pos × Str) (k n:Nat) (F':List D->Option D):Prop where
 ex:∃ fA fd ps,bR P w K mg base CX0 k fA fd ps (spT K P₀ pq n F') /\ mg x=some (.ref fA) /\ keepIn K (.ref fA)=true /\ Binds K fd ps []
theorem xU (c:nM X.prog X.w X.K X.mg X.base x P₀ pq k n F') (hT:TabIn X.H₀ P₀ pq) (hr:Room k X.A) (hna:NArgs n fs) (ha:QA X m1 rs1 (e :: es) fs) (hg:Gl X x:=by rfl)
  (hdb:(x == ("__debug__" : Str))=false:=by decide) (he:starEach (e :: es) X.env=(false,eval e X.env) :: starEach es X.env:=by rfl) (hpl:(backTo pos (starEach es X.env)).any (·.1)=false:=by rfl) :
  QE X true [] (.Call (.Name x p) (e :: es) [] pos) (aM F' [] fs):=by
 obtain⟨fA,fd,ps,G,hm,hk,hb⟩:=c.ex;intro pins s σ H Q I ⟨env,F,d,ok,e,q⟩;refine L2.pe_call (dvs:=[]) (ds:=[]) G hr hg hm hk hb .nil Z1v ha hdb he hpl pins s σ H Q I ?_;unfold aM at e;cases h1:fs env with
 | none=>simp only [h1] at e;cases e
 | some xs =>
  simp only [h1,Option.bind_some] at e;refine⟨env,F,xs,ok,h1,fun vs H' fp s2 r c=>⟨TabIn.same (hT.un I.base) s2,xs ++ [],d,fp,by rw [List.append_nil];exact hna.len env xs h1,?_,e,fun v H2 fp' s3 r2 h2 nd=>q v H2 fp' (s2.trans s3) r2 ⟨fun b hb=>.inl (s2.free (h2 b hb)),fun _=>⟨nd,fun b hb=>s2.free (h2 b hb)⟩⟩⟩⟩;rw [List.append_nil,List.append_nil];exact Reps.weak _ _ _ r
theorem walkT {l:PySem.W.OpenLaw}{K:Params->Frag}
  (hn:l.most=some n) (hn2:n <= sizeLine) (hdf:d.params.defaults=[]) (hr:Room k callerA)
  (hY:∀ (w:World) (h:Heap),YP w h->(K w.params).In h) (hC:∀ (w:World) (h:Heap),YP w h->h.TableAt c₀ P₀ #[]) (hKP:∀ w:World,(K w.params).lookup P₀=none)
  (F:∀ (w:World) (mg:Str->Option Value) (fa:Addr) (h:Heap),(K w.params).In h->h.Ns mainGlobals mg->mg d.name=some (.ref fa) ->
   ∃ (fd:FuncData) (m:List D->Option D),(∀ (s:Shared) (u:Value),BindsTo s fd ⟨[u],[]⟩ [(x,u)]) /\ (∀ ns:List Int,ns.length <= n->(∀ i ∈ ns,Builtin.Int.intBits i <= 1048576)->m [.lst (ns.map D.int)]=some (.bl true)) /\
    ∀ base:Heap,(K w.params).In base->base.Ns mainGlobals mg->base.BuiltinsAt mg P₀->bR l.prog w (K w.params) mg base CX0 k fa fd [x] (spT (K w.params) P₀ pq 1 m)) :
  PySem.W.WalkO q loose XP YP l.row.toRowW d [] (fun f vs=>PySem.call f vs):=by
 refine Att.attach_callB hn hdf fun w s₀ s₁ mg mb fa o pm cd doc a vs ns hbits G Y ho hd hcd hmg hobj hints hlen hg=>?_;have KX:=hY w _ Y;obtain⟨fd,m,hb,hm,hF⟩:=F w mg fa _ KX G.T.g hmg;obtain⟨bm,ob,b1,b2,b3,b4,b5,b6⟩:=G.T.bmain;have hT:=hC w _ Y;have hBm:s₁.heap.BuiltinsAt mg P₀:=by
  refine⟨bm,ob,b1,b2,fun z=>?_,fun z=>?_,b3,b4,b5,b6⟩
  .obtain⟨o',es,ep,e,hd',_⟩:=G.T.g;rw [z,e] at b3;cases b3;rw [hd'] at b6;cases b6
  .rw [z,hT.2] at b3;cases b3;cases b4
 refine Z0l (pos:=pq.1) (q₀:=pq.2) KX G.T.g G.T.b G.T.builtins G.T.nolimit hg hobj hints (Nat.le_trans hlen hn2) hr hT (hKP w) hBm hF hb (fun H hP hS=>?_) fun H e s' z=>z;have hrep:∃ fp,Reps (K w.params) false H [.lst (ns.map D.int)] [.ref a] fp:=by
  rcases Z0X hS with z | z
  .refine⟨[a],?_⟩;simp only [Reps,Rep];exact⟨.ref a,[],[a],[],rfl,rfl,⟨a,_,[],rfl,jV ns,.inl ⟨rfl,z⟩⟩,rfl,rfl⟩
  .refine⟨[],?_⟩;simp only [Reps,Rep];exact⟨.ref a,[],[],[],rfl,rfl,⟨a,_,[],rfl,jV ns,.inr ⟨trivial,rfl,z⟩⟩,rfl,rfl⟩
 obtain⟨fp,hrep⟩:=hrep;exact⟨⟨_,hP,rfl⟩,_,_,fp,rfl,hrep,hm ns hlen hbits,fun v H' fp' sm r _ _=>⟨eB r,sm _ _ hP⟩⟩
end
structure Mine (X:Cx) (pins:List (Addr × Obj)) (a:Addr):Prop where
 loc:a ≠ X.env.locals
 new:X.s₀.heap.objs.size <= a
 cell:∀ x c,X.env.cells.lookup x=some c->c ≠ a
 fs:a ∉ X.fs
 pin:∀ p ∈ X.pn ++ pins,p.1 ≠ a
section
variable {X:Cx}{pins:List (Addr × Obj)}{σ:L2.St}{H:Hp}{s:Shared}
theorem tP (I:Inv X pins σ H s) {a:Addr}(h:s.heap.objs.size <= a):Mine X pins a:=by
 have hL:=I.lt;refine⟨Nat.ne_of_gt (Nat.lt_of_lt_of_le hL h),Nat.le_trans I.sz h,fun x c e=>?_,I.nofs h,fun p hp=>Nat.ne_of_lt (Nat.lt_of_lt_of_le (Heap.lt_size (I.pin p hp).1) h)⟩;obtain⟨v,o,ho,_⟩:=I.cell x c e;exact Nat.ne_of_lt (Nat.lt_of_lt_of_le (Heap.lt_size ho) h)
theorem Mine.more {a b:Addr}{o:Obj}(M:Mine X pins a) (h:b ≠ a):Mine X (pins ++ [(b,o)]) a :=
 ⟨M.loc,M.new,M.cell,M.fs,fun p hp=>by
  rcases List.mem_append.mp hp with z | z
  .exact M.pin p (List.mem_append_left _ z)
  .rcases List.mem_append.mp z with z | z
   .exact M.pin p (List.mem_append_right _ z)
   .rw [List.mem_singleton.mp z];exact h⟩
theorem Mine.turned {a:Addr}{h':Heap}{t':Nat}(M:Mine X pins a) (I:Inv X pins σ H s) (hn:H a=none) (k:∀ b o,b ≠ a->s.heap.get? b=some o->h'.get? b=some o):Inv X pins σ H { s with heap:=h',toks:=t' } :=
 I.turned k hn M.loc (.inr M.new) M.cell M.pin
theorem B6 {a:Addr}{o:Obj}(M:Mine X pins a) (I:Inv X pins σ H s) (hn:H a=none) (e:s.heap.get? a=some o) (hd:∀ v,o.data ≠ .cell v):Inv X (pins ++ [(a,o)]) σ H s :=
 I.pins_of fun p hp=>by
  rcases List.mem_append.mp hp with z | z
  .exact I.pin p (List.mem_append_right _ z)
  .rw [List.mem_singleton.mp z];exact⟨e,hn,M.loc,M.fs,hd⟩
theorem lQ {a:Addr}{o:Obj}(I:Inv X (pins ++ [(a,o)]) σ H s):Inv X pins σ H s /\ s.heap.get? a=some o /\ H a=none :=
 ⟨I.unpinned,let h:=I.pin (a,o) (by simp);⟨h.1,h.2.1⟩⟩
variable {kv:Value}{l I₀ S:Addr}{n:Nat}{Rv:Nat->Value->Prop}{H0:Hp}{R:Result->Shared->Prop}{Q:Value->Shared->Prop}{E:Value->Shared->Prop}
theorem Z1L (kf:Nat->Int) (hh:X.A.handled=none) (hl:∀ pins' H s,Inv X pins' σ H s->Same H0 H->∃ its:List Value,s.heap.IsList l its.toArray /\ its.length=n /\ ∀ i v,its[i]? = some v->Rv i v) (hlI:l ≠ I₀) (hSI:S ≠ I₀) (MI:Mine X pins I₀) (MS:Mine X pins S) (hkv:(∃ q,kv=.ref q) \/ ∃ q,kv=.builtin q)
  (turn:∀ (i:Nat) (v:Value),Rv i v->i < n->∀ pins' H s,(∀ p ∈ pins,p ∈ pins')->Inv X pins' σ H s->Same H0 H->wpAny (model X.prog X.w) X.A.in1 (call kv [v]) (fun u s'=>∃ t H',u=.int (kf i) t /\ Inv X pins' σ H' s' /\ Same H H') (fun _ _=>False) s)
  (hR:∀ i v H s,Rv i v->i < n->(∀ j,j < n->kf i <= kf j /\ (j < i->kf i < kf j))->Inv X pins σ H s->Same H0 H->R (.ok (.ret v)) s) :
  ∀ (r j i:Nat) (H:Hp) (s:Shared) (vb:Value) (tb:Tok) (c:Nat) (oI:Obj),n - (j + 1)=r->j + 1 <= n->Inv X (pins ++ [(S,seqObj "list" #[vb,.int (kf i) tb] c)] ++ [(I₀,oI)]) σ H s->Same H0 H ->
   s.heap.IsListIter I₀ l (j + 1)->Rv i vb->i <= j->(∀ j',j' <= j->kf i <= kf j' /\ (j' < i->kf i < kf j')) ->
   codeAny (model X.prog X.w) X.A (.builtin "min.loop" ⟨[.ref I₀,kv,.ref S],[]⟩) R s:=by
 have hname:(toString "min" ++ toString ".loop" : String) = "min.loop":=by decide
 intro r
 induction r with
 | zero =>
  intro j i H s vb tb c oI hr hj I sm hit hvb hij hbest;obtain⟨its,hls,hsz,hRv⟩:=hl _ _ _ I sm;have W:=Walks.list (prog:=X.prog) (w:=X.w) (A:=X.A.in1) hh I₀ l hlI its.toArray;have hin:j + 1=n:=by omega
  obtain⟨I1,gI,nI⟩:=lQ I;obtain⟨I2,gS,nS⟩:=lQ I1;refine codeAny_builtin PySem.F.entry_min_loop ?_;rw [Around.under_plainId PySem.F.plain_min_loop _];show wpAny _ X.A.in1 (seqItems? (.ref S) >>= _) _ _ _;refine wpAny_bind (wpAny_seqItems gS rfl ?_);show wpAny _ X.A.in1 (tryCatch (pyNext (.ref I₀)) _ >>= _) _ _ _;refine wpAny_bind (wpAny_tryCatch (W.done _ _ _ ⟨by rw [List.size_toArray,hsz,<- hin];exact hit,hls⟩ fun h' tk' hk'=>?_));have hS':=hk' S _ (by simpa using hSI) gS;have s1:=Heap.SameBut.update h' S (Obj.mapSeq fun _=>(#[]:Array Value));show wpAny _ X.A.in1 (updateSeq S (fun _=>#[]) >>= _) _ _ _;refine wpAny_bind ?_;refine wpAny_updateSeq hS' rfl (wpAny_bind (wpAny_letGo (wpAny_pure ?_)));have J1:=MI.turned (h':=h') (t':=tk') I2 nI fun b o hb e=>hk' b o (by simpa using hb) e;have J2:=MS.turned (h':=h'.update S (Obj.mapSeq fun _=>(#[]:Array Value))) (t':=tk') J1 nS fun b o hb e=>(s1.2 b hb).trans e;exact hR i vb H _ hvb (by omega) (fun j' hj'=>hbest j' (by omega)) J2 sm
 | succ r ih =>
  intro j i H s vb tb c oI hr hj I sm hit hvb hij hbest;obtain⟨its,hls,hsz,hRv⟩:=hl _ _ _ I sm;have W:=Walks.list (prog:=X.prog) (w:=X.w) (A:=X.A.in1) hh I₀ l hlI its.toArray;have hlt:j + 1 < n:=by omega
  obtain⟨I1,gI,nI⟩:=lQ I;obtain⟨I2,gS,nS⟩:=lQ I1;refine codeAny_builtin PySem.F.entry_min_loop ?_;rw [Around.under_plainId PySem.F.plain_min_loop _];show wpAny _ X.A.in1 (seqItems? (.ref S) >>= _) _ _ _;refine wpAny_bind (wpAny_seqItems gS rfl ?_);show wpAny _ X.A.in1 (tryCatch (pyNext (.ref I₀)) _ >>= _) _ _ _;refine wpAny_bind (wpAny_tryCatch (W.item (j + 1) _ _ _ (by rw [List.size_toArray,hsz];exact hlt) ⟨hit,hls⟩ fun v h' tk' hP hst' hk'=>?_));have hv:Rv (j + 1) v:=hRv _ _ (by simpa using hP);obtain⟨oI',hoI',hoc,hod⟩:=id hst'.1;have J1:=(MI.more hSI).turned (h':=h') (t':=tk') I1 nI fun b o hb e=>hk' b o (by simpa using hb) e;have J2:=B6 (MI.more hSI) J1 nI hoI' (by intro v';rw [hod];simp);rcases hkv with ⟨q,rfl⟩ | ⟨q,rfl⟩ <;> (
   show wpAny _ X.A.in1 (tryCatch (holding [v] (call _ [v])) _ >>= _) _ _ _;refine wpAny_bind (wpAny_tryCatch (wpAny_holding (wpAny_mono (turn (j + 1) v hv hlt _ H _ (fun p hp=>by simp [hp]) J2 sm) (fun x s'' he=>?_) fun _ _ hF=>hF.elim)));obtain⟨t2,H2,rfl,K,sm2⟩:=he;obtain⟨K1,gI2,nI2⟩:=lQ K;obtain⟨K2,gS2,nS2⟩:=lQ K1;have hit2:s''.heap.IsListIter I₀ l (j + 1 + 1):=⟨oI',gI2,hoc,hod⟩;show wpAny _ X.A.in1 (tryCatch (holding [v,.int (kf (j + 1)) t2] (richCompare .Lt (.int (kf (j + 1)) t2) (.int (kf i) tb) >>= _)) _ >>= _) _ _ _;refine wpAny_bind (wpAny_tryCatch (wpAny_holding (wpAny_bind (CmpOf.ints_lt (prog:=X.prog) (w:=X.w) (A:=X.A.in1) (P:=fun i v=>∃ t,v=.int (kf i) t) kf (fun i v h=>h) (j + 1) i _ _ _ _ _ ⟨t2,rfl⟩ ⟨tb,rfl⟩ ?_))));refine wpAny_bind (wpAny_holding (wpAny_truthy_bool ?_));refine wpAny_bind (wpAny_letGo (wpAny_pure ?_));by_cases hb':kf (j + 1) < kf i
   .have s1:=Heap.SameBut.update s''.heap S (Obj.mapSeq fun _=>#[v,.int (kf (j + 1)) t2]);obtain⟨c2,hc2⟩:∃ c2,(s''.heap.update S (Obj.mapSeq fun _=>#[v,.int (kf (j + 1)) t2])).get? S=some (seqObj "list" #[v,.int (kf (j + 1)) t2] c2):=⟨_,get?_update_seq gS2 fun _=>#[v,.int (kf (j + 1)) t2]⟩;simp only [hb',decide_true,if_true];refine wpAny_bind ?_;refine wpAny_updateSeq gS2 rfl (wpAny_bind (wpAny_letGo ?_));rw [hname];have L1:=MS.turned (h':=s''.heap.update S (Obj.mapSeq fun _=>#[v,.int (kf (j + 1)) t2])) (t':=s''.toks) K2 nS2 fun b o hb e=>(s1.2 b hb).trans e;have L2:=B6 MS L1 nS2 hc2 (by intro v';simp [seqObj]);have L3:=B6 (MI.more hSI) L2 nI2 ((s1.2 I₀ hSI.symm).trans gI2) (by intro v';rw [hod];simp);refine wpAny_pure ⟨plainId_quiet PySem.F.plain_min_loop _,ih (j + 1) (j + 1) H2 _ v t2 c2 oI' (by omega) hlt L3 (sm.trans sm2) ⟨oI',(s1.2 I₀ hSI.symm).trans gI2,hoc,hod⟩ hv (Nat.le_refl _) fun j' hj'=>?_⟩;by_cases e:j'=j + 1
    .subst e;exact⟨by omega,fun _=>by omega⟩
    .have hb1:=hbest j' (by omega);have hb2:=hb1.1;exact⟨by omega,fun _=>by omega⟩
   .simp only [hb',decide_false,Bool.false_eq_true,if_false];refine wpAny_bind (wpAny_letGo ?_);rw [hname];refine wpAny_pure ⟨plainId_quiet PySem.F.plain_min_loop _,ih (j + 1) i H2 _ vb tb c oI' (by omega) hlt K (sm.trans sm2) hit2 hvb (by omega) fun j' hj'=>?_⟩;by_cases e:j'=j + 1
    .subst e;exact⟨by omega,fun _=>by omega⟩
    .exact hbest j' (by omega))
theorem C9 (kf:Nat->Int) (hh:X.A.handled=none) (I:Inv X pins σ H s) (sm:Same H0 H) (hl:∀ pins' H s,Inv X pins' σ H s->Same H0 H->∃ its:List Value,s.heap.IsList l its.toArray /\ its.length=n /\ ∀ i v,its[i]? = some v->Rv i v) (hne:0 < n)
  (turn:∀ (i:Nat) (v:Value),Rv i v->i < n->∀ pins' H s,(∀ p ∈ pins,p ∈ pins')->Inv X pins' σ H s->Same H0 H->wpAny (model X.prog X.w) X.A.in1 (call kv [v]) (fun u s'=>∃ t H',u=.int (kf i) t /\ Inv X pins' σ H' s' /\ Same H H') (fun _ _=>False) s)
  (hQ:∀ i v H s,Rv i v->i < n->(∀ j,j < n->kf i <= kf j /\ (j < i->kf i < kf j))->Inv X pins σ H s->Same H0 H->Q v s) (hkv:(∃ q,kv=.ref q) \/ ∃ q,kv=.builtin q) :
  wpAny (model X.prog X.w) X.A (call (.builtin "min") [.ref l] [(Str.ofString "key",kv)]) Q E s:=by
 have hname:(toString "min" ++ toString ".loop" : String) = "min.loop":=by decide
 obtain⟨its0,hls,_,_⟩:=hl _ _ _ I sm;obtain⟨ol,hol,_⟩:=id hls;have hll:l < s.heap.objs.size:=Heap.lt_size hol;refine kmk_tree PySem.F.kind_min PySem.F.plain_min PySem.F.entry_min (kmk_min_key _ _) ?_;show wpAny _ X.A.in1 (Builtin.Builtins.bindParams "min" ["key","default"] 0 ⟨[],[(Str.ofString "key",kv)]⟩ >>= _) _ _ s;refine wpAny_bind (wpAny_of_eq (show Builtin.Builtins.bindParams "min" ["key","default"] 0 ⟨[],[(Str.ofString "key",kv)]⟩=pure [some kv,none] from rfl) ?_)
 refine wpAny_bind (wpAny_pure ?_);refine wpAny_bind (wpAny_pyIter_list hls ?_);refine wpAny_bind (wpAny_newList ?_ (Nat.zero_le _));rw [hname];have hS:(s.heap.push { cls:=.type "list_iterator",data:=.fields #[.ref l,.int 0 0] }).objs.size=s.heap.objs.size + 1:=size_push' ..;have hlI:l ≠ s.heap.objs.size:=Nat.ne_of_lt hll;have hSI:(s.heap.push { cls:=.type "list_iterator",data:=.fields #[.ref l,.int 0 0] }).objs.size ≠ s.heap.objs.size:=by rw [hS];exact Nat.ne_of_gt (Nat.lt_succ_self _)
 have MI:=tP I (Nat.le_refl s.heap.objs.size);have MS:=tP I (show s.heap.objs.size <= (s.heap.push { cls:=.type "list_iterator",data:=.fields #[.ref l,.int 0 0] }).objs.size by rw [hS];omega);refine wpAny_pure ⟨plainId_quiet PySem.F.plain_min_loop _,?_⟩;have gI:((s.heap.push { cls:=.type "list_iterator",data:=.fields #[.ref l,.int 0 0] }).push (seqObj "list" #[] 0)).get? s.heap.objs.size=some { cls:=.type "list_iterator",data:=.fields #[.ref l,.int 0 0] } :=
  Heap.get?_push_of_some _ (Heap.get?_push_size _ rfl)
 have gS:((s.heap.push { cls:=.type "list_iterator",data:=.fields #[.ref l,.int 0 0] }).push (seqObj "list" #[] 0)).get? (s.heap.push { cls:=.type "list_iterator",data:=.fields #[.ref l,.int 0 0] }).objs.size=some (seqObj "list" #[] 0):=Heap.get?_push_size _ rfl;have nI:H s.heap.objs.size=none:=I.hok.fresh (Nat.le_refl _);have nS:H (s.heap.push { cls:=.type "list_iterator",data:=.fields #[.ref l,.int 0 0] }).objs.size=none:=I.hok.fresh (by rw [hS];omega);have J0:=I.kept (h':=(s.heap.push { cls:=.type "list_iterator",data:=.fields #[.ref l,.int 0 0] }).push (seqObj "list" #[] 0)) (t':=s.toks) fun b u e=>Heap.get?_push_of_some _ (Heap.get?_push_of_some _ e);have J1:=B6 MS J0 nS gS (by intro v';simp [seqObj]);generalize (s.heap.push { cls:=.type "list_iterator",data:=.fields #[.ref l,.int 0 0] }).objs.size=S at *
 generalize hI:s.heap.objs.size=I₀ at *
 obtain⟨its,hls1,hsz,hRv⟩:=hl _ _ _ J0 sm;have W:=Walks.list (prog:=X.prog) (w:=X.w) (A:=X.A.in1) hh I₀ l hlI its.toArray;refine codeAny_builtin PySem.F.entry_min_loop ?_;rw [Around.under_plainId PySem.F.plain_min_loop _];show wpAny _ X.A.in1 (seqItems? (.ref _) >>= _) _ _ _;refine wpAny_bind (wpAny_seqItems gS rfl ?_);show wpAny _ X.A.in1 (tryCatch (pyNext (.ref I₀)) _ >>= _) _ _ _;refine wpAny_bind (wpAny_tryCatch (W.item 0 _ _ _ (by rw [List.size_toArray,hsz];exact hne) ⟨⟨_,gI,rfl,rfl⟩,hls1⟩ fun v h' tk' hP hst' hk'=>?_));have hv:Rv 0 v:=hRv _ _ (by simpa using hP);obtain⟨oI',hoI',hoc,hod⟩:=id hst'.1;have J2:=(MI.more hSI).turned (h':=h') (t':=tk') J1 nI fun b o hb e=>hk' b o (by simpa using hb) e;have J3:=B6 (MI.more hSI) J2 nI hoI' (by intro v';rw [hod];simp);rcases hkv with ⟨q,rfl⟩ | ⟨q,rfl⟩ <;> (
  show wpAny _ X.A.in1 (tryCatch (holding [v] (call _ [v])) _ >>= _) _ _ _;refine wpAny_bind (wpAny_tryCatch (wpAny_holding (wpAny_mono (turn 0 v hv hne _ H _ (fun p hp=>by simp [hp]) J3 sm) (fun x s'' he=>?_) fun _ _ hF=>hF.elim)));obtain⟨t2,H2,rfl,K,sm2⟩:=he;obtain⟨K1,gI2,nI2⟩:=lQ K;obtain⟨K2,gS2,nS2⟩:=lQ K1;have s1:=Heap.SameBut.update s''.heap S (Obj.mapSeq fun _=>#[v,.int (kf 0) t2]);obtain⟨c2,hc2⟩:∃ c2,(s''.heap.update S (Obj.mapSeq fun _=>#[v,.int (kf 0) t2])).get? S=some (seqObj "list" #[v,.int (kf 0) t2] c2):=⟨_,get?_update_seq gS2 fun _=>#[v,.int (kf 0) t2]⟩;show wpAny _ X.A.in1 (updateSeq S (fun _=>#[v,.int (kf 0) t2]) >>= _) _ _ _;refine wpAny_bind ?_;refine wpAny_updateSeq gS2 rfl ?_;rw [hname];have L1:=MS.turned (h':=s''.heap.update S (Obj.mapSeq fun _=>#[v,.int (kf 0) t2])) (t':=s''.toks) K2 nS2 fun b o hb e=>(s1.2 b hb).trans e;have L2:=B6 MS L1 nS2 hc2 (by intro v';simp [seqObj]);have L3:=B6 (MI.more hSI) L2 nI2 ((s1.2 I₀ hSI.symm).trans gI2) (by intro v';rw [hod];simp);refine wpAny_pure ⟨plainId_quiet PySem.F.plain_min_loop _,Z1L kf hh hl hlI hSI MI MS (by simp) turn hQ _ 0 0 H2 _ v t2 c2 oI' rfl hne L3 (sm.trans sm2) ⟨oI',(s1.2 _ hSI.symm).trans gI2,hoc,hod⟩ hv (Nat.le_refl _) fun j' hj'=>?_⟩;have e:j'=0:=by omega
  subst e;exact⟨by omega,fun h=>absurd h (Nat.lt_irrefl _)⟩)
end
noncomputable def Z6v (s:Stmt):Expr:=match s with
 | .Assign _ e _=>e
 | _=>.Name "" ⟨0,0,0,0⟩
noncomputable def kwE (e:Expr):Expr:=match e with
 | .Call _ _ (k :: _) _=>k.value
 | e=>e
noncomputable def IsMin (ks:List Int) (i:Nat):Prop:=i < ks.length /\ ∀ j,j < ks.length->ks.getD i 0 <= ks.getD j 0 /\ (j < i->ks.getD i 0 < ks.getD j 0)
theorem IsMin.eq {ks:List Int}{i j:Nat}(h:IsMin ks i) (k:IsMin ks j):i=j:=by
 have h1:=h.2 j k.1;have h2:=k.2 i h.1;by_cases e:i=j
 .exact e
 .rcases Nat.lt_or_gt_of_ne e with z | z
  .have:=h2.2 z;omega
  .have:=h1.2 z;omega
theorem D9:∀ (ks:List Int),0 < ks.length->∃ i,IsMin ks i
 | [k],_=>⟨0,by simp,fun j hj=>by
  have:j=0:=by simp at hj;omega
  subst this;exact⟨by omega,fun z=>absurd z (by omega)⟩⟩
 | k :: k' :: ks,_=>by
  obtain⟨i,h1,h2⟩:=D9 (k' :: ks) (by simp);by_cases hk:k <= (k' :: ks).getD i 0
  .refine⟨0,by simp,fun j hj=>⟨?_,fun z=>absurd z (by omega)⟩⟩;cases j with
   | zero=>exact Int.le_refl _
   | succ j=>exact Int.le_trans hk (h2 j (by simpa using hj)).1
  .refine⟨i + 1,by simpa using h1,fun j hj=>?_⟩;cases j with
   | zero=>exact⟨by have e:(k :: k' :: ks).getD (i + 1) 0=(k' :: ks).getD i 0:=rfl;rw [e];show _ <= k;omega,fun _=>by have e:(k :: k' :: ks).getD (i + 1) 0=(k' :: ks).getD i 0:=rfl;rw [e];show _ < k;omega⟩
   | succ j=>exact⟨(h2 j (by simpa using hj)).1,fun z=>(h2 j (by simpa using hj)).2 (by omega)⟩
open Classical in
noncomputable def pG (ks:List Int):Nat:=if h:∃ i,IsMin ks i then h.choose else 0
theorem mG {ks:List Int}(h:0 < ks.length):IsMin ks (pG ks):=by
 have e:=D9 ks h;unfold pG;rw [dif_pos e];exact e.choose_spec
noncomputable def Z0p (g:D->Option D):List Int->Option (List Int)
 | []=>some []
 | n :: ns=>match g (.int n),Z0p g ns with
  | some (.int k),some ks=>some (k :: ks)
  | _,_=>none
theorem D4 {g:D->Option D}:∀ {ns ks:List Int},Z0p g ns=some ks->ks.length=ns.length /\ ∀ i n,ns[i]? = some n->g (.int n)=some (.int (ks.getD i 0))
 | [],ks,h=>by cases h;exact⟨rfl,fun i n e=>by simp at e⟩
 | n :: ns,ks,h=>by
  unfold Z0p at h;split at h
  .rename_i k ks' h1 h2;cases h;obtain⟨a,b⟩:=D4 h2;refine⟨by simp [a],fun i m e=>?_⟩;cases i with
   | zero=>simp at e;subst e;exact h1
   | succ i=>exact b i m (by simpa using e)
  .cases h
noncomputable def F6 (fa:En->Option D) (g:En->Option D):En->Option D:=fun env=>match fa env with
 | some (.lst ds)=>match kC ds with
  | some ns=>match Z0p (fun d=>g (wT d [])) ns with
   | some ks=>(ns[pG ks]?).map .int
   | none=>none
  | none=>none
 | _=>none
theorem pB {K:Frag}{H H':Hp}{a:Addr}{xs:List V}(h:SqL K H a xs) (s:Same H H'):SqL K H' a xs:=h.imp (fun r=>r.imp (s _ _) fun⟨o,e⟩=>⟨o,s _ _ e⟩) id
section
variable {X:Cx}{m m1:Bool}{rs rs1:List Nat}{e:Expr}{fa g:En->Option D}{pos p lpos kp:Pos}{k:Nat}{x q:Str}{params:Arguments}{body:Expr}{scope:Scope}
theorem Z2T {P:Addr}(T:Z3S X P lpos q) (hr:Room (k + 2) X.A) (ha:QE X m1 rs1 e fa) (hc:X.calm=true) (hg:Gl X "min") (hm:X.mg "min" = none) (hdef:defaultsOf params X.env=([],[])) (hcl:closureFor scope X.env=pure []) (hfr:∀ y ∈ scope.names,y.2 ≠ NameKind.free)
  (hbind:∀ pm cd ctv u,bindArgs (PySem.W.kla_fn "<lambda>" q params body scope [] pm cd ctv) ⟨[u],[]⟩=pure [(x,u)]) (hx:scope.names.lookup x=some .local) (hnc:∀ y ∈ scope.names,y.2 ≠ .cell) (hco:scope.isCoroutine=false) (hgen:scope.isGenerator=false) (hk:scope.kind=.function)
  (hb:∀ a c' A outer s H,Room k (A.deeper (PySem.W.envX q scope s.heap.objs.size a (.ref c') []))->QE (W5 X.prog X.w X.K X.mg X.base [x] q scope a c' [] A outer s H) true [] body g)
  (he:starEach [e] X.env=(false,eval e X.env) :: starEach [] X.env:=by rfl) (hpl:(backTo pos (starEach [e] X.env)).any (·.1)=false:=by rfl) (hpl2:backTo pos (starEach [e] X.env)=(false,eval e X.env) :: backTo pos (starEach [] X.env):=by rfl) :
  QE X m rs (.Call (.Name "min" p) [e] [⟨some "key",.Lambda params body scope lpos,kp⟩] pos) (F6 fa g):=by
 obtain⟨cc,hcc,hCH⟩:=T.ex;intro pins s σ H Q I ⟨env,Fp,d,ok,e,qq⟩;unfold F6 at e;split at e
 .rename_i ds h1;split at e
  .rename_i ns h2;split at e
   .rename_i ks h3;obtain⟨hkl,hkg⟩:=D4 h3;refine wpAny_Call_Name_kw (jO I hg hm uJ ?_);refine callWith_kw ?_ hpl2 hpl;rw [hpl2];refine Calls.spliced_cons (thn (ha pins s σ H (fun v1 H1=>∃ f1,Same H H1 /\ Rep X.K m1 H1 (.lst ds) v1 f1) I ⟨env,Fp,_,ok,h1,fun v1 H1 f1 s1 r1 _=>⟨f1,s1,r1⟩⟩) fun u1 s1 ⟨v1,H1,I1,rv1,f1,sm1,r1⟩=>?_);obtain⟨l,ws,f2,rfl,hsq,hrs,_⟩:=bK r1;rw [nF h2 hrs] at hsq;cases (show u1=Value.ref l from rv1)
    refine Calls.spliced_nil ?_;refine kws_cons (Z1T I1 hcc hCH T.blt (T.tab.un I1.base) T.qual hdef hcl fun a c' pm ctv oc s3 H3 I3 sm3 hHa hge hfa hcd=>?_);refine kws_nil ?_;have hna:a ∉ frs X.stack:=fun z=>by
     obtain⟨_,o,ho,_⟩:=I1.stack.mem z;exact absurd (Nat.lt_of_lt_of_le (Heap.lt_size ho) hge) (Nat.lt_irrefl _)
    have Ip:=B6 (tP I1 hge) I3 hHa hfa (by intro v;simp [PySem.W.kla_obj]);have hne:0 < ns.length:=by
     cases ns with
     | nil=>simp at e
     | cons a b=>simp
    refine C9 (kv:=.ref a) (n:=ns.length) (Rv:=fun i v=>∃ n t,ns[i]? = some n /\ v=.int n t) (H0:=H3) (fun i=>ks.getD i 0) (I.ok.hd hc) Ip (Same.refl H3) (fun pins' H s J sm=>?_) hne (fun i v hv hi pins' H s hsub J sm=>?_) (fun i v H s hv hi hmin J sm=>?_) (.inl ⟨a,rfl⟩)
    .obtain⟨its,w,pl,_⟩:=J.list (pB (pB hsq sm3) sm);refine⟨its,pl.isList,by rw [<- w.length,List.length_map],fun i v hv=>?_⟩;have hi:=oP w;have:i < ns.length:=by rw [<- IntsAre.length hi];exact (List.getElem?_eq_some_iff.mp hv).1
     obtain⟨n,hn⟩:∃ n,ns[i]? = some n:=⟨_,List.getElem?_eq_getElem this⟩;obtain⟨t,ht⟩:=hi.get i n hn;rw [ht] at hv;cases hv;exact⟨n,t,hn,rfl⟩
    .obtain⟨n,t,hn,rfl⟩:=hv;have hpin:=J.pin (a,_) (List.mem_append_right _ (hsub _ (List.mem_append_right _ (.head _))));have FS:Z4X q params body scope [] a [] s H (frs X.stack) [] pm c' ctv oc:=⟨hpin.1,hpin.2.1,hna,sm _ _ hcd,fun _ _ _ z=>(by cases z),fun y hy=>absurd rfl (hfr _ hy),fun _ _ z=>(by cases z),rfl,fun i n dv z=>(by simp at z)⟩;refine wpAny_call (codeAny_mono (Z1U (CX:=CX0) (E:=E0) (t:=tD X.K true [] g) (v:=.int n) (Q:=fun v H'=>Same H H' /\ v=.int (ks.getD i 0)) FS J.env0.in1 hr.in1 ⟨t,rfl⟩ (hbind _ _ _ _) hx (fun n z=>by cases z) hnc hco hgen hk (fun hr'=>hb a c' X.A.in1 X.stack s H hr') ?_) fun r s' hq=>?_)
     .obtain⟨F',okL⟩:=Z0z (K:=X.K) (H:=H) (d:=.int n) (ds:=[]) (v:=.int n) (dvs:=[]) (f:=[]) (fp:=[]) dW (by simp only [Reps];exact⟨trivial,trivial⟩);exact⟨_,F',_,okL,hkg i n hn,fun v' H' fp' s3 r3 c3=>⟨s3,bE r3⟩⟩
     .cases r with
      | error e=>exact False.elim hq
      | ok fl =>
       cases fl with
       | ret u =>
        obtain⟨v',H',J',rv',sm',rfl⟩:=J.after hq;obtain⟨t',rfl⟩:=(show ∃ t,u=Value.int (ks.getD i 0) t from rv')
        exact⟨t',H',rfl,J',sm'⟩
       | next=>exact False.elim hq
       | brk=>exact False.elim hq
       | cont=>exact False.elim hq
    .obtain⟨n,t,hn,rfl⟩:=hv;have hM:IsMin ks i:=⟨by omega,fun j hj=>hmin j (by omega)⟩;have hix:pG ks=i:=(mG (by omega)).eq hM;rw [hix,hn] at e;cases e;exact⟨.int n,H,J.unpinned,⟨t,rfl⟩,qq _ _ [] ((sm1.trans sm3).trans sm) dW .nil⟩
   .cases e
  .cases e
 .cases e
noncomputable def tR:List D->Option (List Int)
 | []=>some []
 | .lst es :: ds=>(tR ds).map fun ks=>(es.length:Int) :: ks
 | _=>none
theorem wI:∀ {ds:List D}{ks:List Int},tR ds=some ks->ks.length=ds.length /\ ∀ i d,ds[i]? = some d->∃ es,d=.lst es /\ ks.getD i 0=(es.length:Int)
 | [],ks,h=>by cases h;exact⟨rfl,fun i n e=>by simp at e⟩
 | d :: ds,ks,h=>by
  unfold tR at h;split at h
  .cases ‹_ :: _=[]›
  .rename_i es ds' e0;cases e0;cases h1:tR ds with
   | none=>rw [h1] at h;cases h
   | some ks' =>
    rw [h1] at h;cases h;obtain⟨a,b⟩:=wI h1;refine⟨by simp [a],fun i m e=>?_⟩;cases i with
    | zero=>simp at e;subst e;exact⟨es,rfl,rfl⟩
    | succ i=>exact b i m (by simpa using e)
  .cases h
noncomputable def pD (i:Nat):En->Res:=fun env=>match env[i]? with
 | some (some (true,.lst ds))=>match tR ds with
  | some ks=>match ds[pG ks]? with
   | some d=>.ret d
   | none=>.bad
  | none=>.bad
 | _=>.bad
theorem Z07 {y:Str}{t:TE}{p3:Pos}(hc:X.calm=true) (hg:Gl X "min") (hm:X.mg "min" = none) (hg2:Gl X "len") (hm2:X.mg "len" = none) (ha:PE X e t)
  (hpl:(backTo pos (starEach [e] X.env)).any (·.1)=false:=by rfl) (hpl2:backTo pos (starEach [e] X.env)=(false,eval e X.env) :: backTo pos (starEach [] X.env):=by rfl) :
  PE X (.Call (.Name "min" p) [e] [⟨some "key",.Name "len" p3,kp⟩] pos) (fun σ H Q=>t σ H fun v H1=>∃ a xs ks,v=.ref a /\ SqL X.K H1 a xs /\ 0 < xs.length /\ List.length ks=xs.length /\ (∀ (i:Nat) w,xs[i]? = some w->∃ b ys,w=.ref b /\ SqL X.K H1 b ys /\ (ys.length:Int)=ks.getD i 0) /\ ∀ i w,IsMin ks i->xs[i]? = some w->∀ H2,Same H1 H2->Q w H2):=by
 intro pins s σ H Q I h;refine wpAny_Call_Name_kw (jO I hg hm uJ ?_);refine callWith_kw ?_ hpl2 hpl;rw [hpl2];refine Calls.spliced_cons (thn (ha pins s σ H _ I h) fun u1 s1 ⟨v1,H1,I1,rv1,l,xs,ks,hv,hsq,hne,hkl,hit,hq⟩=>?_);subst hv;cases (show u1=Value.ref l from rv1)
 refine Calls.spliced_nil (kws_cons (jO I1 hg2 hm2 PySem.boot_len ?_));refine kws_nil ?_;refine C9 (kv:=.builtin "len") (n:=xs.length) (Rv:=fun i v=>∃ w,xs[i]? = some w /\ RelV w v) (H0:=H1) (fun i=>ks.getD i 0) (I.ok.hd hc) I1 (Same.refl H1) (fun pins' H s J sm=>?_) hne (fun i v hv hi pins' H s hsub J sm=>?_) (fun i v H s hv hi hmin J sm=>?_) (.inr ⟨_,rfl⟩)
 .obtain⟨its,w,pl,_⟩:=J.list (pB hsq sm);refine⟨its,pl.isList,w.length.symm,fun i v hv=>?_⟩;have:i < xs.length:=by rw [w.length];exact (List.getElem?_eq_some_iff.mp hv).1
  obtain⟨u,hu,ru⟩:=w.get (List.getElem?_eq_getElem this);rw [hv] at hu;cases hu;exact⟨_,List.getElem?_eq_getElem this,ru⟩
 .obtain⟨w,hw,rw'⟩:=hv;obtain⟨b,ys,rfl,hb,hl⟩:=hit i w hw;cases (show v=Value.ref b from rw')
  obtain⟨its,w2,pl,hz⟩:=J.list (pB hb sm);have hlen:=w2.length;exact Calls.call_len_list pl.isList (by rw [sizeLine_eq] at hz;simp only [List.size_toArray];omega) ⟨s.toks + 1,H,by rw [List.size_toArray,<- hlen,hl],J.tok _,Same.refl H⟩
 .obtain⟨w,hw,rw'⟩:=hv;exact⟨w,H,J,rw',hq i w ⟨by omega,fun j hj=>hmin j (by omega)⟩ hw H sm⟩
theorem Z8 {i:Nat}{y:Str}{p2 p3 pos':Pos}(hc:X.calm=true) (hg:Gl X "min") (hm:X.mg "min" = none) (hg2:Gl X "len") (hm2:X.mg "len" = none) (hN:X.N[i]? = some y:=by rfl) (hv:Vis X.env.scope y:=by first | exact Or.inl rfl | exact Or.inr (Or.inl rfl) | exact Or.inr (Or.inr rfl)) (hd:(y == ("__debug__" : Str))=false:=by decide) (hcd:(y == ("__classdict__" : Str))=false:=by decide)
  (hpl:(backTo pos (starEach [.Name y p2] X.env)).any (·.1)=false:=by rfl) (hpl2:backTo pos (starEach [.Name y p2] X.env)=(false,eval (.Name y p2) X.env) :: backTo pos (starEach [] X.env):=by rfl) :
  QS X (.Return (some (.Call (.Name "min" p) [.Name y p2] [⟨some "key",.Name "len" p3,kp⟩] pos)) pos') (pD i):=.mk (tI (Z07 (y:=y) hc hg hm hg2 hm2 (gD hN hv hd hcd) hpl hpl2)) fun E σ H ⟨P,env,I,q⟩=>by
 obtain⟨F,hF⟩:=I.ex;unfold pD at q;split at q
 .rename_i ds h1;split at q
  .rename_i ks h2;split at q
   .rename_i d h3;obtain⟨v,e1,_⟩:=hF.ok i true _ h1;obtain⟨a1,a2,a3,_⟩:=hF.own i _ h1;obtain⟨a,vs,fp',rfl,hfp,hHa,hrs⟩:=jW (a3 v e1);obtain⟨hkl,hkg⟩:=wI h2;have hvl:=hrs.length;have hne:0 < ds.length:=Nat.lt_of_le_of_lt (Nat.zero_le _) (List.getElem?_eq_some_iff.mp h3).1;refine⟨.ref a,e1,a,vs,ks,rfl,SqL.of hHa,by omega,by omega,fun j w hw=>?_,fun j w hM hw H2 sm=>?_⟩
    .have hj:j < ds.length:=by rw [<- hvl];exact (List.getElem?_eq_some_iff.mp hw).1
     obtain⟨es,hes,hk⟩:=hkg j _ (List.getElem?_eq_getElem hj);obtain⟨v',f',g1,g2,_⟩:=Reps.get hrs (List.getElem?_eq_getElem hj);rw [hw] at g1;cases g1;rw [hes] at g2;obtain⟨b,ys,f2,rfl,hsq,hr2,_⟩:=bK g2;exact⟨b,ys,rfl,hsq,by rw [hr2.length,hk]⟩
    .have hix:pG ks=j:=(mG (by omega)).eq hM;rw [hix] at h3;obtain⟨v',f',g1,g2,g3,g4⟩:=Reps.get hrs h3;rw [hw] at g1;cases g1;refine q w H2 f' (I.same.trans sm) (g2.same sm) (fun b hb=>a2 b ?_) (g4 ?_)
     .rw [hfp];exact List.mem_cons_of_mem _ (g3 b hb)
     .rw [hfp] at a1;exact (List.nodup_cons.mp a1).2
   .exact q.elim
  .exact q.elim
 .exact q.elim
end
theorem FunD.k {P:Program}{w:World}{K:Frag}{mg:Str->Option Value}{base:Heap}{x qual:Str}{st:Stmt}{f:Addr}{fd:FuncData}{N ps:List Str}{k n L:Nat}{g:En->Res}(F:FunD K x qual st f fd) (S:aS N ps (aI st))
  (hb:∀ {cdv:Value}{A:Around}{outer:List Env}{s:Shared}{H:Hp}{E:XK},N.Nodup->Room k (A.deeper (envOfC qual (aI st) s.heap.objs.size f cdv))->QSs (vI CX0 P w K mg base N qual (aI st) f cdv A outer s H E).nox (bQ st) g) (hn:ps.length=n:=by rfl) (hL:N.length=L:=by rfl) :
  bR P w K mg base CX0 (k + 1) f fd ps (spD K n (runF L g)):=F.ok S hn hL fun _ _ _ _ _ _ hr=>hb S.nd hr
section
variable {X:Cx}{m m1:Bool}{rs rs1:List Nat}{e:Expr}{es:List Expr}{f:En->Option D}{fs:En->Option (List D)}{pos p pos':Pos}{x:Str}
theorem Qc {k n na:Nat}{dds:List D}{F':List D->Option D}(c:aY X.prog X.w X.K X.mg X.base x dds k n F') (ha:QA X m1 rs1 (e :: es) fs) (hr:Room k X.A:=by exact Room.mono (by assumption) (by first | decide | omega)) (hna:NArgs na fs:=by (repeat apply NArgs.cons);exact NArgs.nil) (hn:na + dds.length=n:=by rfl) (hg:Gl X x:=by rfl)
  (hdb:(x == ("__debug__" : Str))=false:=by decide) (he:starEach (e :: es) X.env=(false,eval e X.env) :: starEach es X.env:=by rfl) (hpl:(backTo pos (starEach es X.env)).any (·.1)=false:=by rfl) :
  QE X true [] (.Call (.Name x p) (e :: es) [] pos) (aM F' dds fs):=Z1i c hr hna hn ha hg hdb he hpl
theorem Qn (rs:List Nat):QA X false rs [] aH:=bG
theorem Qv (i:Nat) {x:Str}(hs:∀ r ∈ [i],r ∈ rs:=by simp) (hN:X.N[i]? = some x:=by rfl) (hv:Vis X.env.scope x:=by first | exact Or.inl rfl | exact Or.inr (Or.inl rfl) | exact Or.inr (Or.inr rfl)) (hd:(x == ("__debug__" : Str))=false:=by decide) (hcd:(x == ("__classdict__" : Str))=false:=by decide) :
  QE X false rs (.Name x pos) (aA i):=(aC i hN hv hd hcd).more hs
theorem Qs (i:Nat) (he:QE X true [] e f) (hN:X.N.Nodup:=by assumption) (hi:X.N[i]? = some x:=by rfl) (hx:Loc X.env.scope x:=by first | exact .inl rfl | exact .inr rfl) (hs:swapsWith e (some (.Name x pos')) pos.line X.env=pure false:=by rfl) (hf:X.fn x=true \/ X.env.scope.names.lookup x=some .local:=by first | exact .inl rfl | exact .inr rfl | assumption) :
  QS X (.Assign [.Name x pos'] e pos) (bI i f):=Z4e hN hi hx he hs hf
theorem Qg (i:Nat) (hN:X.N.Nodup:=by assumption) (hi:X.N[i]? = some x:=by rfl) (hx:Loc X.env.scope x:=by first | exact .inl rfl | exact .inr rfl) (hf:X.fn x=true \/ X.env.scope.names.lookup x=some .local:=by first | exact .inl rfl | exact .inr rfl | assumption):QG X (.Name x pos) (gtN i):=Z2S hN hi hx hf
end
noncomputable def HD (K:Frag) (x:Str) (st:Stmt) (f:Addr):Prop:=nsIn K mainGlobals x=some (some (.ref f)) /\ (∃ oc od kV doc pm an cd ct sl,K.lookup f=some ⟨oc,od,.func (fnOf x x (cL st) (bQ st) (aI st) .none kV doc pm an cd ct),sl⟩ /\ codeIn K cd x=true) /\ keepIn K (.ref f)=true
noncomputable def HU (x:Str) (st:Stmt) (ps:List Str):Prop:=∀ (r:Value × Value × Value × Option Addr × Value × Value) (us:List Value),us.length=ps.length->bindArgs (fnOf x x (cL st) (bQ st) (aI st) .none r.1 r.2.1 r.2.2.1 r.2.2.2.1 r.2.2.2.2.1 r.2.2.2.2.2) ⟨us,[]⟩=pure (ps.zip us)
noncomputable def HX (P:Program) (w:World) (K:Frag) (mg:Str->Option Value) (base:Heap):Prop:=∃ hh:Heap,K.In hh /\ hh.Ns mainGlobals mg
section
variable {K:Frag}{x:Str}{st:Stmt}{f:Addr}{ps:List Str}{P:Program}{w:World}{mg:Str->Option Value}{base hh:Heap}{k n:Nat}
theorem HD.mk {oc kV doc pm cd ct:Value}{od an:Option Addr}{sl:Array (Option Value)}(a:nsIn K mainGlobals x=some (some (.ref f))) (l:K.lookup f=some ⟨oc,od,.func (fnOf x x (cL st) (bQ st) (aI st) .none kV doc pm an cd ct),sl⟩)
  (c:codeIn K cd x=true) (k:keepIn K (.ref f)=true):HD K x st f:=⟨a,⟨oc,od,kV,doc,pm,an,cd,ct,sl,l,c⟩,k⟩
theorem HD.use (h:HD K x st f) (Y:HX P w K mg base) (hu:HU x st ps) :
  ∃ fd,FunD K x x st f fd /\ mg x=some (.ref f) /\ keepIn K (.ref f)=true /\ Binds K fd ps []:=by
 obtain⟨a,⟨oc,od,kV,doc,pm,an,cd,ct,sl,l,c⟩,k⟩:=h;obtain⟨_,X,G⟩:=Y;exact⟨_,nK l c k,mg_of X G a,k,.all (hu (kV,doc,pm,an,cd,ct))⟩
theorem HD.c {F':List D->Option D}(h:HD K x st f) (Y:HX P w K mg base)
  (ok:∀ fd,FunD K x x st f fd->bR P w K mg base CX0 k f fd ps (spD K n F')) (hu:HU x st ps):aY P w K mg base x [] k n F':=by
 obtain⟨fd,F,a,kp,b⟩:=h.use Y hu;exact⟨⟨f,fd,ps,[],[],ok fd F,a,kp,b,.nil,fun H=>by simp only [Reps];exact⟨trivial,trivial⟩⟩⟩
theorem HD.t {P₀:Addr}{pq:Pos × Str}{F':List D->Option D}(h:HD K x st f) (Y:HX P w K mg base)
  (ok:∀ fd,FunD K x x st f fd->bR P w K mg base CX0 k f fd ps (spT K P₀ pq n F')) (hu:HU x st ps):nM P w K mg base x P₀ pq k n F':=by
 obtain⟨fd,F,a,kp,b⟩:=h.use Y hu;exact⟨⟨f,fd,ps,ok fd F,a,kp,b⟩⟩
theorem HD.r {F':List D->Option D}(h:HD K x st f) (Y:HX P w K mg base)
  (ok:∀ fd,FunD K x x st f fd->mg x=some (.ref f)->keepIn K (.ref f)=true->Binds K fd ps []->bR P w K mg base CX0 k f fd ps (spD K n F')) (hu:HU x st ps):aY P w K mg base x [] k n F':=by
 obtain⟨fd,F,a,kp,b⟩:=h.use Y hu;exact⟨⟨f,fd,ps,[],[],ok fd F a kp b,a,kp,b,.nil,fun H=>by simp only [Reps];exact⟨trivial,trivial⟩⟩⟩
end
open PySem.W (hideAll hideAll_get hideAll_none funFrames_hide)
noncomputable def Fly (H':Hp) (h0 h':Heap) (a:Addr) (cls:Value):Prop :=
 H' a=none /\ h0.get? a=none /\ ∃ oe vs T oT ts,h'.get? a=some oe /\ oe.cls=cls /\ oe.data=.fields vs /\ vs[1]? = some (.ref T) /\ T ≠ a /\ h'.get? T=some oT /\ oT.data=.fields ts /\ ts[3]? = some .none /\ H' T=none /\ h0.get? T=none
noncomputable def CXe (P:Program) (w:World):CXT:=fun outer H s E e s'=>∃ a C H',e=.ref a /\ s'.os=s.os /\ AllBare s'.gens /\ Un (frs outer) [] H H' s.heap s'.heap /\ HOk P w H' s'.heap /\ Fly H' s.heap s'.heap a (.ref C) /\ E (.ref C) none H'
section
variable {X:Cx}{pins:List (Addr × Obj)}{σ:L2.St}{H:Hp}{s:Shared}{h2 h3:Heap}{a:Addr}{cls:Value}
theorem Z2x (I:Inv X pins σ H s) {b:Addr}{o:Obj}(q:X.s₀.heap.get? b=some o) (hb:b ∉ X.fs):b ∉ frs X.stack:=fun z=>by
 rcases List.mem_cons.mp (I.stkSub b z) with e | e
 .have:=I.ok.above;rw [e] at q;exact absurd (Heap.lt_size q) (Nat.not_lt.mpr this)
 .exact hb e
theorem Z1R (I:Inv X pins σ H s) (k2:∀ b o,s.heap.get? b=some o->h2.get? b=some o) (lf:Heap.Left (hideAll s.heap (frs X.stack)) X.stack a cls h2 h3) :
  HOk X.prog X.w H h3 /\ Un X.fs X.ex X.H₀ H X.s₀.heap h3:=by
 obtain⟨st,ff,_,sl⟩:=lf;have kp:∀ b o,s.heap.get? b=some o->b ∉ frs X.stack->h3.get? b=some o:=fun b o q hb=>st b o (hideAll_get _ q hb);have kf:∀ b o,s.heap.get? b=some o->b ∈ frs X.stack->∃ sl,h3.get? b=some { o with slots:=sl }:=fun b o q hb=>by
  obtain⟨_,o',e1,e2⟩:=I.stack.mem hb;rw [q] at e1;cases e1;exact sl b o (k2 b o q) e2
 refine⟨fun b o e=>(I.hok b o e).stay (fun c u hc q=>kp c u q fun z=>?_) (fun _ q=>q) fun _ _ q=>q,⟨fun b o q n hb hx=>?_,fun b o q n hb hx=>?_,I.base.free,fun b o q hx=>?_,I.base.tups,I.base.frzs,I.base.tbls⟩⟩
 .have:=I.stkFree c z;rcases hc with rfl | hc
  .rw [e] at this;cases this
  .rw [hc] at this;cases this
 .exact kp b o (I.base.keep b o q n hb hx) (Z2x I q hb)
 .obtain⟨s1,e1⟩:=I.base.slot b o q n hb hx;by_cases hz:b ∈ frs X.stack
  .obtain⟨s2,e2⟩:=kf b _ e1 hz;exact⟨s2,e2⟩
  .exact⟨s1,kp b _ e1 hz⟩
 .obtain⟨o1,e1⟩:=I.base.there b o q hx;by_cases hz:b ∈ frs X.stack
  .obtain⟨s2,e2⟩:=kf b _ e1 hz;exact⟨_,e2⟩
  .exact⟨o1,kp b _ e1 hz⟩
theorem wD {P:Program}{w:World}{H:Hp}{h:Heap}{a:Addr}{o:HO}(x:ObjOk P w H h a o):∃ u,h.get? a=some u:=by
 cases o <;> first
  | (obtain⟨_,_,_,_,e⟩:=x;exact⟨_,e⟩)
  | (obtain⟨_,_,_,_,e,_⟩:=x;exact⟨_,e⟩)
  | (obtain⟨_,_,_,_,ob,_,_,e,_⟩:=x;exact⟨_,e⟩)
  | (obtain⟨_,_,_,_,ob,_,e,_⟩:=x;exact⟨_,e⟩)
  | (obtain⟨c,o,_,_,z,e,_⟩:=x;cases z;exact⟨_,e⟩)
  | (obtain⟨_,e,_⟩:=x;exact⟨_,e⟩)
  | exact⟨_,x.2.2.2.1⟩
  | exact x
  | (obtain⟨_,⟨_,_,_,e,_⟩,_⟩:=x;exact⟨_,e⟩)
  | (obtain⟨_,_,_,e⟩:=x;exact⟨_,e⟩)
  | exact⟨_,x.1⟩
  | exact⟨_,x⟩
  | exact x.2.1
theorem xA (I:Inv X pins σ H s) {b:Addr}(h:s.heap.get? b=none):H b=none:=by
 cases q:H b with
 | none=>rfl
 | some o =>
  obtain⟨u,e⟩:=wD (I.hok b o q);rw [h] at e;cases e
theorem T3 (I:Inv X pins σ H s) (hex:X.ex=[]) {b:Addr}(h:s.heap.get? b=none):X.s₀.heap.get? b=none:=by
 cases q:X.s₀.heap.get? b with
 | none=>rfl
 | some o =>
  obtain⟨u,e⟩:=I.base.there b o q (by rw [hex];simp);rw [h] at e;cases e
theorem Z23 {l:List Env}:∀ env ∈ l,∀ a,env.frame=some a->a ∈ frs l:=fun env he a hf=>List.mem_filterMap.mpr ⟨env,he,hf⟩
theorem Z4M (I:Inv X pins σ H s) (hex:X.ex=[]) (ha:s.heap.get? a=none) (lf:Heap.Left (hideAll s.heap (frs X.stack)) X.stack a cls h2 h3):Fly H X.s₀.heap h3 a cls:=by
 obtain⟨st,ff,⟨oe,vs,T,oT,ts,t1,t2,t3,t4,t5,t6,t7,t8,t9⟩,sl⟩:=lf;have hT:s.heap.get? T=none:=by
  cases q:s.heap.get? T with
  | none=>rfl
  | some o =>
   by_cases hz:T ∈ frs X.stack
   .obtain⟨_,o',e1,e2⟩:=ff.mem hz;rw [t7] at e1;cases e1;exact absurd t8 (e2 ts)
   .rw [hideAll_get _ q hz] at t5;cases t5
 exact⟨xA I ha,T3 I hex ha,oe,vs,T,oT,ts,t1,t2,t3,t4,t6,t7,t8,t9,xA I hT,T3 I hex hT⟩
theorem Z3k {C:Addr}{E:XK}(I:Inv X pins σ H s) (hex:X.ex=[]) (k2:∀ b o,s.heap.get? b=some o->h2.get? b=some o) (ha:s.heap.get? a=none) (lf:Heap.Left (hideAll s.heap (frs X.stack)) X.stack a (.ref C) h2 h3) (q:E (.ref C) none H) {g:Array GenState}{d:Drawn}{t:Nat}(hg:AllBare g) :
  CXe X.prog X.w X.outer X.H₀ X.s₀ E (.ref a) ⟨h3,g,d,t,s.os⟩:=by
 obtain⟨l1,l2⟩:=Z1R I k2 lf;rw [hex] at l2;exact⟨a,C,H,rfl,I.os,hg,l2,l1,Z4M I hex ha lf,q⟩
theorem D0 {C:Addr}{args:List Value}{E:XK}{E':Value->Shared->Prop}(I:Inv X pins σ H s) (hex:X.ex=[]) (hst:X.stack=X.env :: X.outer) (hf:X.env.frame=some X.env.locals)
  (mk:Heap.MadeExcOf s.heap h2 a (.ref C) args) (q:E (.ref C) none H) :
  wpAny (model X.prog X.w) X.A (leaving X.env (.ref a)) (fun _ s''=>CXe X.prog X.w X.outer X.H₀ X.s₀ E (.ref a) s'') E' { s with heap:=h2 }:=by
 obtain⟨t,e1,e2,e3⟩:=mk.there;have hl0:s.heap.FunFrames (hideAll s.heap (frs X.stack)) X.stack:=funFrames_hide I.stack Z23;have hl:h2.FunFrames (hideAll s.heap (frs X.stack)) X.stack:=hl0.of_keeps fun b o hb _=>⟨o,mk.keeps b o hb,rfl⟩;have hkb:(hideAll s.heap (frs X.stack)).StaysIn h2:=fun b o hb=>mk.keeps b o (PySem.W.of_hideAll _ hb);have hen:(hideAll s.heap (frs X.stack)).get? a=none:=by
  cases q:(hideAll s.heap (frs X.stack)).get? a with
  | none=>rfl
  | some o=>have:=PySem.W.of_hideAll _ q;rw [mk.new] at this;cases this
 have hfr:=I.ok.frames;have lc:=@Z3k X pins σ H s h2
 revert hl hkb hen hfr lc
 rw [hst];intro hl hkb hen hfr lc;refine wpAny_leaving_first (s:={ s with heap:=h2 }) hfr hl hf e1 hkb hen rfl rfl fun h3 lf=>?_;exact lc I hex mk.keeps mk.new lf q I.bare
end
structure ExC (base:Heap) (C:Addr):Prop where
 obj:∃ (bmB tl:List Value) (N:Addr) (nm q:Str) (bs:List Value) (hdct:Bool) (sn:List Str) (sub:List Value) (ab:Bool) (col:Option Bool) (dd:Option Addr) (k0 k1 k2 k3 k5:Option Value) (newId:String) (mN:Str->Option Value) (B nid initId Bn inN:String) (bmN:List Value),
  base.get? C=some (excClassObj nm q C N bs tl hdct sn sub ab col dd k0 k1 k2 k3 k5 newId) /\ base.Ns N mN /\ mN "__init__" = none /\ OwnTail base bmB tl /\ ExcBaseFacts B nid initId bmB /\ ExcBaseFacts Bn newId inN bmN /\ bmB.contains (.type Bn)=true
section
variable {X:Cx}{C:Addr}{x:Str}{np cpos pos:Pos}{e:Expr}{t:TA}{R:Hp->Prop}
theorem Z1q (O:ExC X.base C) (hg:Gl X x) (hm:X.mg x=some (.ref C)) (hc:X.calm=true) (ha:PA X [e] t)
  (hxe:∀ pins σ H s h2 a args,Inv X pins σ H s->Heap.MadeExcOf s.heap h2 a (.ref C) args->R H->X.xe (.ref a) { s with heap:=h2 })
  (he:starEach [e] X.env=(false,eval e X.env) :: starEach [] X.env:=by rfl) (hplain:(backTo cpos (starEach [] X.env)).any (·.1)=false:=by rfl) (hd:(x == ("__debug__" : Str))=false:=by decide) :
  PS X (.Raise (some (.Call (.Name x np) [e] [] cpos)) none pos) (fun D σ H=>t σ H fun vs H1=>vs.length <= sizeLine /\ R H1):=by
 intro pins s σ H D I h;obtain⟨bmB,tl,N,nm,q,bs,hdct,sn,sub,ab,col,dd,k0,k1,k2,k3,k5,newId,mN,B,nid,initId,Bn,inN,bmN,hC,hN,hni,T,FB,Fn,hBn⟩:=O.obj;refine wpAny_Raise_call_subU (C:=C) (nm:=nm) (q:=q) (N:=N) (bs:=bs) (bm:=tl) (hdct:=hdct) (sn:=sn) (sub:=sub) (ab:=ab) (col:=col) (dd:=dd) (k0:=k0) (k1:=k1) (k2:=k2) (k3:=k3) (k5:=k5)
  Fn hBn FB (mN:=mN) (T.hasType FB.hasBase) (I.ok.hd hc) (by rw [he];show (false || (backTo cpos (starEach [] X.env)).any (·.1))=false;rw [hplain];rfl) hni
  (thn (kR (v:=.ref C) hg hm rfl hd pins s σ H (fun v H1=>v=.ref C /\ t σ H1 fun vs H2=>vs.length <= sizeLine /\ R H2) I ⟨rfl,h⟩) fun f s1 ⟨v,H1,I1,r1,e1,q1⟩=>?_)
 subst e1;cases r1;refine⟨rfl,?_⟩;have hh:=thn (ha cpos pins s1 σ H1 _ I1 q1) fun us s2 ⟨vs,H2,I2,r2,q2⟩=>(show us.length <= sizeLine /\ s2.heap.get? C=some (excClassObj nm q C N bs tl hdct sn sub ab col dd k0 k1 k2 k3 k5 newId) /\ s2.heap.Ns N mN /\ OwnTail s2.heap bmB tl /\ ∀ h' e,Heap.MadeExcOf s2.heap h' e (.ref C) us->X.xe (.ref e) { s2 with heap:=h' } from
  ⟨by rw [<- r2.length];exact q2.1,I2.bk _ _ hC,hN.keeps I2.bk,T.keeps I2.bk,fun h' e mk=>hxe pins σ H2 s2 h' e us I2 mk q2.2⟩)
 rw [he] at hh ⊢;exact Calls.evalArgs_plain (wpAny_mono hh (fun vs s₂ h₂=>⟨rfl,h₂⟩) fun _ _ y=>y)
end
section
variable {P:Program}{w:World}{K:Frag}{mg:Str->Option Value}{base:Heap}{N:List Str}{qual:Str}{scope:Scope}{f:Addr}{cd:Value}{A:Around}{outer:List Env}{s0:Shared}{H0:Hp}{E:XK}
noncomputable abbrev cxE (P:Program) (w:World) (K:Frag) (mg:Str->Option Value) (base:Heap) (N:List Str) (qual:Str) (scope:Scope) (f:Addr) (cd:Value) (A:Around) (outer:List Env) (s0:Shared) (H0:Hp) (E:XK):Cx:=vI (CXe P w) P w K mg base N qual scope f cd A outer s0 H0 E
theorem Z0Q {C:Addr}:∀ pins σ H s h2 a args,Inv (cxE P w K mg base N qual scope f cd A outer s0 H0 E) pins σ H s->Heap.MadeExcOf s.heap h2 a (.ref C) args->E (.ref C) none H->(cxE P w K mg base N qual scope f cd A outer s0 H0 E).xe (.ref a) { s with heap:=h2 } :=
 fun pins σ H s h2 a args I mk q=>D0 (X:=cxE P w K mg base N qual scope f cd A outer s0 H0 E) I rfl rfl rfl mk q
end
section
variable {X:Cx}{pins:List (Addr × Obj)}{σ:L2.St}{H:Hp}{s:Shared}
noncomputable def Z6x (H:Hp) (h:Heap) (a:Addr):Prop:=∃ oe vs T oT ts,h.get? a=some oe /\ oe.data=.fields vs /\ vs[1]? = some (.ref T) /\ T ≠ a /\ h.get? T=some oT /\ oT.data=.fields ts /\ ts[3]? = some .none /\ H T=none
theorem Z4U {E1:XK}{e:Value}{s':Shared}{E':Value->Shared->Prop}{Q:Unit->Shared->Prop}(I:Inv X pins σ H s) (hst:X.stack=X.env :: X.outer) (hf:X.env.frame=some X.env.locals)
  (cx:CXe X.prog X.w X.stack H s E1 e s')
  (q:∀ a C H' s3,e=.ref a->H' a=none->E1 (.ref C) none H'->Inv X pins σ (upd H' a (.ext (kB a (.ref C)))) s3->Z6x H' s3.heap a->Q () s3) :
  wpAny (model X.prog X.w) X.A (noteFrame e X.env) (fun _ s2=>wpAny (model X.prog X.w) X.A (setFlight e none) Q E' s2) E' s':=by
 obtain⟨a,C,H',rfl,os,bare,un,hok,⟨fa,f0,oe,vs,T,oT,ts,t1,t2,t3,t4,t6,t7,t8,t9,t10,t11⟩,hq⟩:=cx;obtain⟨hh,g,d,t,os'⟩:=s';obtain rfl:os'=s.os:=os;have J:Inv X pins σ H' ⟨hh,g,d,t,s.os⟩:=I.call (h':=hh) (g':=g) (d':=d) (t':=t) (ch:=[]) un hok bare (fun b z=>absurd z (by simp));have hl:hh.FunFrames (hideAll hh ([a,T] ++ frs X.stack)) X.stack:=funFrames_hide J.stack fun env he b hb=>List.mem_append_right _ (Z23 env he b hb);have hkb:(hideAll hh ([a,T] ++ frs X.stack)).StaysIn hh:=fun b o hb=>PySem.W.of_hideAll _ hb;have hen:(hideAll hh ([a,T] ++ frs X.stack)).get? a=none:=hideAll_none _ (by simp);have hnT:(hideAll hh ([a,T] ++ frs X.stack)).get? T=none:=hideAll_none _ (by simp);have hfr:=J.ok.frames;have ht:hh.Traced (hideAll hh ([a,T] ++ frs X.stack)) a (.ref C):=⟨oe,vs,T,oT,ts,t1,t2,t3,t4,hnT,t6,t7,t8,t9⟩;have jf:∀ h3,Heap.Left (hideAll hh ([a,T] ++ frs X.stack)) X.stack a (.ref C) hh h3->Q () ⟨h3,g,d,t,s.os⟩:=fun h3 lf=>by
  obtain⟨st,ff,⟨oe',vs',T',oT',ts',u1,u2,u3,u4,u5,u6,u7,u8,u9⟩,sl⟩:=lf;have nx:∀ b o,s.heap.get? b=some o->b ∉ [a,T]:=fun b o qq z=>by
   rcases List.mem_cons.mp z with z | z
   .rw [z,f0] at qq;cases qq
   .have z:b=T:=by simpa using z
    rw [z,t11] at qq;cases qq
  have tr:∀ b o,H' b=some o->b ∉ [a,T]:=fun b o qq z=>by
   rcases List.mem_cons.mp z with z | z
   .rw [z,fa] at qq;cases qq
   .have z:b=T:=by simpa using z
    rw [z,t10] at qq;cases qq
  have kp:∀ b o,hh.get? b=some o->b ∉ frs X.stack->b ∉ [a,T]->h3.get? b=some o:=fun b o q hb hc=>st b o (hideAll_get _ q fun z=>(List.mem_append.mp z).elim hc hb);have kf:∀ b o,hh.get? b=some o->b ∈ frs X.stack->∃ sl,h3.get? b=some { o with slots:=sl }:=fun b o q hb=>by
   obtain⟨_,o',e1,e2⟩:=J.stack.mem hb;have e1:hh.get? b=some o':=e1;rw [q] at e1;cases e1;exact sl b o q e2
  have hok3:HOk X.prog X.w (upd H' a (.ext (kB a (.ref C)))) h3:=fun b o e=>by
   by_cases hb:b=a
   .subst hb;rw [aR] at e;cases e;refine⟨⟨oe',vs',u1,u2,u3⟩,⟨_,u1⟩,fun h1 h2 ⟨o1,v1,y1,y2,y3⟩ k=>⟨o1,v1,k _ y1,y2,y3⟩⟩
   .rw [aJ hb] at e;refine (J.hok b o e).stay (fun c u hc q=>?_) (fun c qc=>?_) fun c xs qc=>?_
    .have hcs:∃ oc,H' c=some oc:=by
      rcases hc with rfl | hc
      .exact⟨_,e⟩
      .exact⟨_,hc⟩
     obtain⟨oc,hoc⟩:=hcs;exact kp c u q (fun z=>by rw [J.stkFree c z] at hoc;cases hoc) (tr c oc hoc)
    .rw [aJ fun z=>by rw [z,fa] at qc;cases qc];exact qc
    .rw [aJ fun z=>by rw [z,fa] at qc;cases qc];exact qc
  have un3:Un (frs X.stack) [] H (upd H' a (.ext (kB a (.ref C)))) s.heap h3:=by
   refine⟨fun b o q n hb hx=>kp b o (un.keep b o q n hb hx) hb (nx b o q),fun b o q n hb hx=>?_,fun b o q n hx=>?_,fun b o q hx=>?_,fun b xs q=>?_,fun b o u q=>?_,fun b ps q=>?_⟩
   .obtain⟨s1,e1⟩:=un.slot b o q n hb hx;obtain⟨s2,e2⟩:=kf b _ e1 hb;exact⟨s2,e2⟩
   .rw [aJ fun z=>by rw [z,f0] at q;cases q];exact un.free b o q n hx
   .obtain⟨o1,e1⟩:=un.there b o q hx;by_cases hz:b ∈ frs X.stack
    .obtain⟨s2,e2⟩:=kf b _ e1 hz;exact⟨_,e2⟩
    .exact⟨o1,kp b _ e1 hz (nx b o q)⟩
   .have:=un.tups b xs q;rw [aJ fun z=>by rw [z,fa] at this;cases this];exact this
   .have:=un.frzs b o u q;rw [aJ fun z=>by rw [z,fa] at this;cases this];exact this
   .obtain⟨m,e1⟩:=un.tbls b ps q;exact⟨m,by rw [aJ fun z=>by rw [z,fa] at e1;cases e1];exact e1⟩
  have hT':H' T'=none:=by
   by_cases hz:T' ∈ frs X.stack
   .exact J.stkFree T' hz
   .by_cases hy:T' ∈ [a,T]
    .rcases List.mem_cons.mp hy with z | z
     .rw [z];exact fa
     .have z:T'=T:=by simpa using z
      rw [z];exact t10
    .have hn:hh.get? T'=none:=by
      cases qq:hh.get? T' with
      | none=>rfl
      | some o=>rw [hideAll_get _ qq fun z=>(List.mem_append.mp z).elim hy hz] at u5;cases u5
     exact xA J hn
  exact q a C H' ⟨h3,g,d,t,s.os⟩ rfl fa hq (I.call (h':=h3) (g':=g) (d':=d) (t':=t) (ch:=[]) un3 hok3 bare (fun b z=>absurd z (by simp))) ⟨oe',vs',T',oT',ts',u1,u3,u4,u6,u7,u8,u9,hT'⟩
 revert hl hkb hen hfr jf ht
 rw [hst];intro hl hkb hen hfr ht jf;obtain⟨pe,pv,pT,po,pt,y1,y2,y3,y4,y5,y6,y7,y8,y9⟩:=ht;have hp0:pv[0]? = some pv[0]!:=by
  have h1:=(Array.getElem?_eq_some_iff.mp y4).1;rw [Array.getElem?_eq_getElem (show 0 < pv.size by omega),getElem!_pos pv 0 (show 0 < pv.size by omega)]
 refine wpAny_looks_onW (s:=⟨hh,g,d,t,s.os⟩) (a0:=pv[0]!) hfr hf ⟨hkb,hen,hl,pe,pv,pT,po,pt,y1,⟨y2,hp0⟩,y3,y4,y5,y6,y7,y8,y9⟩ fun h4 hH sm4=>?_;refine wpAny_landsW hH fun h5 hF5 sm5=>?_;obtain⟨w1,w2,w3,xe,xv,xT,xo,xt,v1,v2,v3⟩:=hF5;exact jf h5 ⟨w1,w3,⟨xe,xv,xT,xo,xt,v1,v2.1,v3⟩,sm4.trans sm5⟩
end
noncomputable def noX:Res->Res
 | .ret (.exc _)=>.bad
 | r=>r
noncomputable def Z3R (K:Frag) (P:Hp) (E:XK) (D:K5) (r:Res):Prop:=match r with
 | .ret (.exc C)=>∀ H,Same P H->E (.ref C) none H
 | r=>K3 K P D r
theorem Z03 {K:Frag}{P:Hp}{E:XK}{D:K5}{r:Res}(h:Z3R K P E D (noX r)):K3 K P D r:=by
 cases r with
 | ret d=>cases d <;> first | exact h | exact h.elim
 | _=>exact h
noncomputable def Z59 (K:Frag) (E:XK) (g:En->Res):TS:=fun D σ H=>∃ P env,SInv K P H σ env /\ Z3R K P E D (g env)
noncomputable def QSx (X:Cx) (E:XK) (st:Stmt) (g:En->Res):Prop:=PS X st (Z59 X.K E g)
noncomputable def K0 (X:Cx) (E:XK) (st:List Stmt) (g:En->Res):Prop:=PSs X st (Z59 X.K E g)
section
variable {X:Cx}{E:XK}{st:Stmt}{sts sa sb:List Stmt}{g h:En->Res}{pos:Pos}
theorem Z18 (h1:QSx X E st g):K0 X E [st] g:=fun pins s σ H D I q=>xV h1 pins s σ H D I q
theorem Z7 (h1:QSx X E st g) (h2:K0 X E sts h):K0 X E (st :: sts) (aK g h):=fun pins s σ H D I ⟨P,env,IS,q⟩=>pF h1 h2 pins s σ H D I (by
 refine⟨P,env,IS,?_⟩;unfold aK at q;cases hg:g env with
 | next env'=>rw [hg] at q;exact fun σ' H' I'=>⟨P,env',I',q⟩
 | ret d=>rw [hg] at q;cases d <;> exact q
 | brk _=>rw [hg] at q;exact q
 | cont _=>rw [hg] at q;exact q
 | bad=>rw [hg] at q;exact q)
theorem Z1a:K0 X E [] bD:=fun pins s σ H D I ⟨P,env,IS,q⟩=>U3 pins s σ H D I (q σ H IS)
theorem Z4c {c:Expr}{c':En->Option Bool}(hc:QT X.nox c c') (ha:K0 X E sa g) (hb:K0 X E sb h):QSx X E (.If c sa sb pos) (rIf c' g h):=fun pins s σ H D I ⟨P,env,IS,q⟩=>Z3L (PT.nox hc) ha hb pins s σ H D I (by
 obtain⟨F,hF⟩:=IS.ex;unfold rIf at q;split at q
 .rename_i h1;exact⟨env,F,true,hF.ok,h1,fun H' s=>D6 ⟨P,env,IS.grow s,q⟩⟩
 .rename_i h1;exact⟨env,F,false,hF.ok,h1,fun H' s=>D7 ⟨P,env,IS.grow s,q⟩⟩
 .exact q.elim)
noncomputable def Z5o (C:Addr):En->Res:=fun _=>.ret (.exc C)
theorem Z6 {P:Program}{w:World}{K:Frag}{mg:Str->Option Value}{base:Heap}{N:List Str}{qual:Str}{scope:Scope}{f:Addr}{cd:Value}{A:Around}{outer:List Env}{s0:Shared}{H0:Hp}{E:XK}{C:Addr}{x z:Str}{np cpos pos zp:Pos}{j:Nat}
  (O:ExC base C) (hg:Gl (cxE P w K mg base N qual scope f cd A outer s0 H0 E) x) (hm:mg x=some (.ref C)) (hd:(x == ("__debug__" : Str))=false:=by decide) :
  QSx (cxE P w K mg base N qual scope f cd A outer s0 H0 E) E (.Raise (some (.Call (.Name x np) [.Constant (.str z) j zp] [] cpos)) none pos) (Z5o C):=fun pins s σ H D I ⟨P',env,IS,q⟩ =>
 Z1q (X:=cxE P w K mg base N qual scope f cd A outer s0 H0 E) (R:=fun H=>E (.ref C) none H) O hg hm rfl (pa_cons Z1u pa_nil rfl) Z0Q rfl rfl hd pins s σ H D I ⟨(show 1 <= sizeLine by decide),q H IS.same⟩
end
noncomputable def spE (K:Frag) (n:Nat) (f:List D->Option D):Sp:=fun vs H Q E=>∃ ds d fp,ds.length=n /\ Reps K false H ds vs fp /\ f ds=some d /\
 match d with
 | .exc C=>∀ H',Same H H'->E (.ref C) none H'
 | d=>∀ v H' fp',Same H H'->Rep K true H' d v fp'->(∀ b ∈ fp',H b=none)->fp'.Nodup->Q v H'
theorem Z2A {K:Frag}{n:Nat}{f:List D->Option D}{vs:List V}{H:Hp}{Q:VK}{E:XK}(h:spE K n f vs H Q E):vs.length=n:=by
 obtain⟨ds,d,fp,h1,h2,_⟩:=h;rw [h2.length,h1]
structure Z61 (P:Program) (w:World) (K:Frag) (mg:Str->Option Value) (base:Heap) (x:Str) (dds:List D) (k n:Nat) (F':List D->Option D):Prop where
 ex:∃ fA fd ps dvs ds,bR P w K mg base (CXe P w) k fA fd ps (spE K n F') /\ mg x=some (.ref fA) /\ keepIn K (.ref fA)=true /\ Binds K fd ps ds /\ Vals dvs ds /\ ∀ H,Reps K false H dds dvs []
open Classical in
noncomputable def xM (i j k:Nat) (C:Addr) (F':List D->Option D) (dds:List D) (fs:En->Option (List D)):En->Res:=fun env=>match fs env with
 | some xs=>match F' (xs ++ dds) with
  | some (.exc C')=>if C'=C /\ j ≠ k /\ j < env.length /\ k < env.length then .next ((env.set j (some (true,.exc C))).set k none) else .bad
  | some d=>.next (env.set i (some (true,d)))
  | none=>.bad
 | none=>.bad
section
variable {X:Cx}{pins:List (Addr × Obj)}{σ:L2.St}{H:Hp}{s:Shared}{m1:Bool}{rs1:List Nat}{e:Expr}{es:List Expr}{fs:En->Option (List D)}
theorem Z0j {o:Obj}{ts:Array Value}{i:Nat}{x:Value}(h:o.data=.fields ts) (h1:ts[i]? = some x):Obj.mapFields (·.setIfInBounds i x) o=o:=by
 have e:ts.setIfInBounds i x=ts:=by
  apply Array.ext_getElem?;intro j;rw [Array.getElem?_setIfInBounds];by_cases hj:i=j
  .subst hj;obtain⟨h2,h3⟩:=Array.getElem?_eq_some_iff.mp h1;simp [h2,h3]
  .simp [hj]
 obtain⟨c,d,da,sl⟩:=o;simp only at h;subst h;simp [Obj.mapFields,e]
theorem Z0h {k:Nat}{n:Str}{pos:Pos}{M:Model}{A:Around}{E:Value->Shared->Prop}{Q:Unit->Shared->Prop}(I:Inv X pins σ H s) (hN:X.N.Nodup) (hk:X.N[k]? = some n) (lk:X.env.scope.names.lookup n=some .local) (h:∀ s',Inv X pins (σ.set k none) H s'->Q () s') :
  wpAny M A (do bindName X.env n .none;unbindBehindTheSuite X.env n pos) Q E s:=by
 have hcls:(X.env.scope.kind == .class || (X.env.scope.kind == .module && X.env.locals != X.env.globals))=false:=by rw [I.ok.kind];rfl
 have hkσ:k < σ.length:=by rw [I.len];exact (List.getElem?_eq_some_iff.mp hk).1
 refine wpAny_bind (wpAny_bindName (jU I hN hk (.inl lk) (v:=.non) (u:=.none) rfl (fun s1 I1=>?_) (.inr lk)));obtain⟨m,hn,hl⟩:=id I1.loc;obtain⟨u,ru,lu⟩:=hl k n .non hk (List.getElem?_set_self hkσ) (.inl lk);have hv:m n=some u:=by
  rcases lu with ⟨_,e⟩ | ⟨z,_⟩
  .exact e
  .have z':X.env.scope.names.lookup n=some .cell \/ X.env.scope.names.lookup n=some .free:=z;rw [lk] at z';rcases z' with z' | z' <;> cases z'
 unfold unbindBehindTheSuite;refine wpAny_onRaise (wpAny_unbindName_local lk hn hv hcls fun h' u' hn' hs=>?_);have cne:=I1.cne;obtain⟨oL,_,_,hoL,_⟩:=id hn;have hok:HOk X.prog X.w H h':=fun b ob e=>by
  refine (I1.hok b ob e).stay (fun c w' hc q=>(hs.2 c ?_).trans q) (fun _ q=>q) fun _ _ q=>q;rintro rfl;rcases hc with rfl | hc
  .rw [I1.free] at e;cases e
  .rw [I1.free] at hc;cases hc
 refine h _ ⟨I1.ok,I1.os,I1.bare,⟨fun b o e n hb hx=>?_,fun b o e n hb hx=>?_,I1.base.free,fun b o e hx=>?_,I1.base.tups,I1.base.frzs,I1.base.tbls⟩,⟨_,hn',fun j y v' e1 e2 e3=>?_⟩,fun y c e=>?_,I1.free,I1.freeC,fun p hp=>?_,hok,by simpa using I.len⟩
 .exact (hs.2 b (Nat.ne_of_lt (Nat.lt_of_lt_of_le (Heap.lt_size e) I1.ok.above))).trans (I1.base.keep b o e n hb hx)
 .obtain⟨sl,e1⟩:=I1.base.slot b o e n hb hx;exact⟨sl,(hs.2 b (Nat.ne_of_lt (Nat.lt_of_lt_of_le (Heap.lt_size e) I1.ok.above))).trans e1⟩
 .obtain⟨o',e1⟩:=I1.base.there b o e hx;exact⟨o',(hs.2 b (Nat.ne_of_lt (Nat.lt_of_lt_of_le (Heap.lt_size e) I1.ok.above))).trans e1⟩
 .have hj:j ≠ k:=by
   rintro rfl;rw [List.getElem?_set_self hkσ] at e2;cases e2
  rw [List.getElem?_set_ne (Ne.symm hj)] at e2;obtain⟨u2,r2,q2⟩:=hl j y v' e1 (by rw [List.getElem?_set_ne (Ne.symm hj)];exact e2) e3;refine⟨u2,r2,?_⟩;rcases q2 with ⟨z,e⟩ | ⟨z,c,e,w⟩
  .refine .inl ⟨z,?_⟩;have:y ≠ n:=fun e=>hj (tM hN e1 (e ▸ hk));simp [this,e]
  .exact .inr ⟨z,c,e,w.sameBut hs (cne y c e)⟩
 .obtain⟨w',z⟩:=I1.cell y c e;exact⟨w',z.sameBut hs (cne y c e)⟩
 .obtain⟨e,n,ne,nf,d⟩:=I1.pin p hp;exact⟨(hs.2 p.1 ne).trans e,n,ne,nf,d⟩
end
noncomputable def Z2y (K:Frag) (P:Addr) (pq:Pos × Str) (n:Nat) (f:List D->Option D):Sp:=fun vs H Q E=>TabIn H P pq /\ spE K n f vs H Q E
theorem FunD.okTE {P:Program}{w:World}{K:Frag}{mg:Str->Option Value}{base:Heap}{x qual:Str}{st:Stmt}{f P₀:Addr}{pq:Pos × Str}{fd:FuncData}{N ps:List Str}{k n L:Nat}{g:En->Res}(F:FunD K x qual st f fd) (S:aS N ps (aI st)) (hn:ps.length=n) (hL:N.length=L)
  (hb:∀ (cdv:Value) (A:Around) (outer:List Env) (s:Shared) (H:Hp) (E:XK),Room k (A.deeper (envOfC qual (aI st) s.heap.objs.size f cdv))->cdv=fd.code->TabIn H P₀ pq->K0 (cxE P w K mg base N qual (aI st) f cdv A outer s H E) E (bQ st) g) :
  bR P w K mg base (CXe P w) (k + 1) f fd ps (Z2y K P₀ pq n (runF L g)):=by
 subst hn hL;obtain⟨oc,od,dV,kV,doc,pm,an,cdv,ct,osl,rfl,lk,hcd⟩:=F.ex;refine W0 lk hcd S (fun vs H Q E h=>Z2A h.2) fun A outer s H vs Q E hr hsp=>?_;obtain⟨hT,ds,d,fp,h1,h2,h3,q⟩:=hsp;refine⟨_,hb cdv A outer s H E hr rfl hT,H,enStart N.length ds,nW h2,?_⟩;unfold runF at h3;cases hg:g (enStart N.length ds) with
 | ret d' =>
  rw [hg] at h3;cases h3;cases d <;> exact q
 | next env' =>
  rw [hg] at h3;cases h3;exact fun σ' H' I'=>q .non H' [] I'.same qK (fun b hb=>(by cases hb)) List.nodup_nil
 | brk _=>rw [hg] at h3;cases h3
 | cont _=>rw [hg] at h3;cases h3
 | bad=>rw [hg] at h3;cases h3
structure uP (P:Program) (w:World) (K:Frag) (mg:Str->Option Value) (base:Heap) (x:Str) (P₀:Addr) (pq:Pos × Str) (k n:Nat) (F':List D->Option D):Prop where
 ex:∃ fA fd ps,bR P w K mg base (CXe P w) k fA fd ps (Z2y K P₀ pq n F') /\ mg x=some (.ref fA) /\ keepIn K (.ref fA)=true /\ Binds K fd ps []
section
variable {X:Cx}{pins:List (Addr × Obj)}{σ:L2.St}{H:Hp}{s:Shared}{m1:Bool}{rs1:List Nat}{e:Expr}{es:List Expr}{fs:En->Option (List D)}
theorem Z2P {P₀:Addr}{pq:Pos × Str}{k n na i j kk:Nat}{F':List D->Option D}{C:Addr}{fx cx xv yv en:Str}{p1 p2 p3 p4 p5 p6 p7 p8 p9 p10:Pos}
  (c:uP X.prog X.w X.K X.mg X.base fx P₀ pq k n F') (hT:TabIn X.H₀ P₀ pq) (hr:Room k X.A) (hna:NArgs na fs) (hn:na=n) (ha:QA X m1 rs1 (e :: es) fs) (O:ExC X.base C) (hgC:Gl X cx) (hmC:X.mg cx=some (.ref C)) (hc:X.calm=true) (hxe:X.xe=fun _ _=>False)
  (hst:X.stack=X.env :: X.outer) (hf:X.env.frame=some X.env.locals) (hN:X.N.Nodup) (hi:X.N[i]? = some xv) (hj:X.N[j]? = some yv) (hk:X.N[kk]? = some en)
  (li:X.env.scope.names.lookup xv=some .local) (lj:X.env.scope.names.lookup yv=some .local) (lk:X.env.scope.names.lookup en=some .local) (hjk:j ≠ kk)
  (hg:Gl X fx:=by rfl) (hdb:(fx == ("__debug__" : Str))=false:=by decide) (hdc:(cx == ("__debug__" : Str))=false:=by decide) (hde:(en == ("__debug__" : Str))=false:=by decide) (hce:(en == ("__classdict__" : Str))=false:=by decide)
  (he:starEach (e :: es) X.env=(false,eval e X.env) :: starEach es X.env:=by rfl) (hpl:(backTo p3 (starEach es X.env)).any (·.1)=false:=by rfl)
  (hs1:swapsWith (.Call (.Name fx p2) (e :: es) [] p3) (some (.Name xv p1)) p4.line X.env=pure false:=by rfl) (hs2:swapsWith (.Name en p7) (some (.Name yv p6)) p8.line X.env=pure false:=by rfl) :
  QS X (.Try [.Assign [.Name xv p1] (.Call (.Name fx p2) (e :: es) [] p3) p4] [.ExceptHandler (some (.Name cx p5)) (some en) [.Assign [.Name yv p6] (.Name en p7) p8] p9] [] [] p10) (xM i j kk C F' [] fs):=by
 intro pins s σ H D I ⟨P,env,IS,q⟩;obtain⟨fA,fd,ps,G,hm,hkp,hb⟩:=c.ex;obtain⟨F,hF⟩:=IS.ex;unfold xM at q;cases h1:fs env with
 | none=>rw [h1] at q;exact q.elim
 | some xs =>
  rw [h1] at q;simp only at q;have hxl:xs.length=n:=by rw [hna.len env xs h1];exact hn
  refine wpAny_Try_except (wpAny_execs_cons (wpAny_Assign_Name ?_ hs1));refine wpAny_Call_Name_kw (sB I hg hm ?_ hdb);refine PySem.W.callWith_K (h₀:=X.base) I.ok.mod.kin hkp (wpAny_mono (ha p3 pins s σ H (fun vs H1=>Same H H1 /\ ∃ fp,Reps X.K m1 H1 xs vs fp) I ⟨env,F,xs,hF.ok,h1,fun vs H1 fp sm r cd=>⟨sm,fp,r⟩⟩) (fun us s1 ⟨vs,H1,I1,r,sm,fp,rr⟩=>⟨I1.kIn,?_⟩) fun _ _ z=>(by rw [hxe] at z;exact z.elim)) he hpl;have r2:Vals (vs ++ []) (us ++ []):=r.append .nil;have rp:Reps X.K false H1 (xs ++ []) (vs ++ []) fp:=by rw [List.append_nil,List.append_nil];exact Reps.weak _ _ _ rr
  have hT1:TabIn H1 P₀ pq:=TabIn.same (hT.un I.base) sm;have run:∀ (Q:VK) (E1:XK),spE X.K n F' (vs ++ []) H1 Q E1->∀ {Z:Value->Shared->Prop}{EE:Value->Shared->Prop},(∀ u s2,EP X pins σ Q u s2->Z u s2)->(∀ e s2,CXe X.prog X.w X.stack H1 s1 E1 e s2->EE e s2)->wpAny (model X.prog X.w) X.A (call (.ref fA) us) Z EE s1:=by
   intro Q E1 hsp Z EE z1 z2;have hl:(us ++ []).length=ps.length:=by rw [<- r2.length];exact G.len _ _ _ _ ⟨hT1,hsp⟩
   refine wpAny_call (codeAny_mono (G.run X.A X.stack s1 H1 ⟨us,[]⟩ (us ++ []) (vs ++ []) Q E1 hr I1.env0 (hb s1 us I1.kIn hl) r2 ⟨hT1,hsp⟩) fun r s' hq=>?_);cases r with
   | error e=>exact z2 e s' hq
   | ok fl =>
    cases fl with
    | ret u=>exact z1 u s' (I1.after hq)
    | next=>exact False.elim hq
    | brk=>exact False.elim hq
    | cont=>exact False.elim hq
  cases hF':F' (xs ++ []) with
  | none=>rw [hF'] at q;exact q.elim
  | some d =>
   rw [hF'] at q;by_cases hx:∃ C',d=.exc C'
   .obtain⟨C',rfl⟩:=hx;simp only at q;split at q
    .rename_i hcc;obtain⟨rfl,_,hjl,hkl⟩:=hcc;refine run (fun _ _=>False) (fun cls _ H2=>cls=.ref C' /\ Same H1 H2) ⟨xs ++ [],.exc C',_,by rw [List.append_nil];exact hxl,rp,hF',fun H2 s2=>⟨rfl,s2⟩⟩ (fun u s2 ⟨_,_,_,_,z⟩=>z.elim) fun e s2 cx=>?_;refine Z4U I1 hst hf cx fun a C2 H2 s3 ea hHa hE I3 tr=>?_;obtain⟨eC,sm2⟩:=hE;cases eC;subst ea;obtain⟨bmB,tl,N',nm,qn,bs,hdct,sn,sub,ab,col,dd,k0,k1,k2,k3,k5,newId,mN,B,nid,initId,Bn,inN,bmN,hCb,hNs,hni,T,FB,Fn,hBn⟩:=O.obj;have hC3:=I3.bk _ _ hCb;obtain⟨⟨oe,vs',g1,g2,g3⟩,_⟩:=(show ObjOk X.prog X.w _ s3.heap a (.ext (kB a (.ref C'))) from I3.hok a _ aR)
     have hbase:tl.contains (.type "BaseException")=true:=T.hasType FB.hasBase;obtain⟨hh,gg,dr,tt,oo⟩:=s3;refine wpAny_handleBy_cons (codeAny_handlers_test ?_) (by intro z;cases z);refine Calls.Name_function_global I3.ok.kind hgC (Calls.loadGlobal_global (by rw [I3.ok.glob];exact I3.mod.glob.keeps I3.bk) hmC ?_) hdc;refine wpAny_excMatches_sub_self hC3 g1 g2 hbase ?_;refine codeAny_handlers_suite_as ?_;obtain⟨oe2,vs2,T2,oT,ts,w1,w2,w3,w4,w5,w6,w7,w8⟩:=tr;have hsz:3 < ts.size:=(Array.getElem?_eq_some_iff.mp w7).1;refine wpAny_setFlight_none w1 w2 w3 w5 w6 hsz ?_;have I4:=I3.kept (h':=hh.update T2 (Obj.mapFields (·.setIfInBounds 3 .none))) (t':=tt) fun b u e=>by
      by_cases hb:b=T2
      .subst hb;rw [w5] at e;cases e;rw [Heap.get?_update_self _ w5 (Obj.isFreed_of_fields (Obj.data_mapFields w6 _)),Z0j w6 w7]
      .rw [Heap.get?_update_other _ _ (Ne.symm hb)];exact e
     refine jU I4 hN hk (.inl lk) (v:=.ref a) rfl (fun s5 I5=>?_) (.inr lk);have hkσ:kk < σ.length:=by rw [I.len];exact (List.getElem?_eq_some_iff.mp hk).1
     obtain⟨m,hn5,hl5⟩:=id I5.loc;obtain⟨u,ru,lu⟩:=hl5 kk en (.ref a) hk (List.getElem?_set_self hkσ) (.inl lk);have hv:m en=some u:=by
      rcases lu with ⟨_,e⟩ | ⟨z,_⟩
      .exact e
      .have z':X.env.scope.names.lookup en=some .cell \/ X.env.scope.names.lookup en=some .free:=z;rw [lk] at z';rcases z' with z' | z' <;> cases z'
     refine wpAny_execs_cons (wpAny_Assign_Name (wpAny_Name (wpAny_loadName_local I5.ok.kind lk hn5 hv ?_) hde) hs2);refine jU I5 hN hj (.inl lj) ru (fun s6 I6=>wpAny_execs_nil ?_) (.inr lj);refine Z0h I6 hN hk lk fun s7 I7=>⟨_,_,I7,q _ _ ?_⟩;have rx:Rep X.K true (upd H2 a (.ext (kB a (.ref C')))) (.exc C') (.ref a) [a]:=by simp only [Rep];exact⟨a,rfl,rfl,aR⟩
     have sm3:Same H (upd H2 a (.ext (kB a (.ref C')))):=(sm.trans sm2).trans (bS hHa);have hHn:H a=none:=(sm.trans sm2).free hHa;have IJ:=(mW j IS.same IS.len hF sm3 rx (by simp) (fun b hb=>by rw [List.mem_singleton.mp hb];exact hHn)).drop kk;have e0:((σ.set kk (some (V.ref a))).set j (some (V.ref a))).set kk none=(σ.set j (some (V.ref a))).set kk none:=by
      rw [List.set_comm _ _ (Ne.symm hjk),List.set_set]
     rw [e0];exact IJ.put kk none (by rw [List.getElem?_set_self (by rw [List.length_set];exact hkl)])
    .exact q.elim
   .have q':K3 X.K P D (.next (env.set i (some (true,d)))):=by
     cases d <;> first | exact q | exact absurd ⟨_,rfl⟩ hx
    refine run (fun v H2=>∃ fp',Same H1 H2 /\ Rep X.K true H2 d v fp' /\ (∀ b ∈ fp',H1 b=none) /\ fp'.Nodup) (fun _ _ _=>False) ⟨xs ++ [],d,_,by rw [List.append_nil];exact hxl,rp,hF',?_⟩ (fun u s2 ⟨v,H2,I2,rv,fp',sm2,rd,fr,nd⟩=>?_) (fun e s2 ⟨_,_,_,_,_,_,_,_,_,z⟩=>z.elim)
    .cases d <;> first | exact fun v H2 fp' s2 r2 h2 nd=>⟨fp',s2,r2,h2,nd⟩ | exact absurd ⟨_,rfl⟩ hx
    .refine jU I2 hN hi (.inl li) rv (fun s3 I3=>wpAny_execs_nil (wpAny_execs_nil ⟨_,H2,I3,q' _ _ ?_⟩)) (.inr li);exact mW i IS.same IS.len hF (sm.trans sm2) rd nd fun b hb=>sm.free (fr b hb)
end
section
variable {K:Frag}{x:Str}{st:Stmt}{f:Addr}{ps:List Str}{P:Program}{w:World}{mg:Str->Option Value}{base:Heap}{k n:Nat}
theorem HD.te {P₀:Addr}{pq:Pos × Str}{F':List D->Option D}(h:HD K x st f) (Y:HX P w K mg base)
  (ok:∀ fd,FunD K x x st f fd->bR P w K mg base (CXe P w) k f fd ps (Z2y K P₀ pq n F')) (hu:HU x st ps):uP P w K mg base x P₀ pq k n F':=by
 obtain⟨fd,F,a,kp,b⟩:=h.use Y hu;exact⟨⟨f,fd,ps,ok fd F,a,kp,b⟩⟩
theorem Z3I {F':Nat->List D->Option D}{fd:FuncData}(hps:ps.length=n) (a:mg x=some (.ref f)) (kp:keepIn K (.ref f)=true) (b:Binds K fd ps [])
  (h0:∀ ds,F' 0 ds=none) (ok:∀ j,aY P w K mg base x [] (k + j) n (F' j)->bR P w K mg base CX0 (k + j + 1) f fd ps (spD K n (F' (j + 1)))):∀ j,bR P w K mg base CX0 (k + j) f fd ps (spD K n (F' j))
 | 0=>⟨fun vs H Q E h=>by rw [hps];exact rW h,fun A outer s H args us vs Q E hr e0 hb hv hs=>by obtain⟨ds,d,fp,_,_,z,_⟩:=hs;rw [h0] at z;cases z⟩
 | j + 1=>ok j ⟨⟨f,fd,ps,[],[],Z3I hps a kp b h0 ok j,a,kp,b,.nil,fun H=>by simp only [Reps];exact⟨trivial,trivial⟩⟩⟩
theorem Z3H {P₀:Addr}{pq:Pos × Str}{F':Nat->List D->Option D}{fd:FuncData}(hps:ps.length=n) (a:mg x=some (.ref f)) (kp:keepIn K (.ref f)=true) (b:Binds K fd ps [])
  (h0:∀ ds,F' 0 ds=none) (ok:∀ j,nM P w K mg base x P₀ pq (k + j) n (F' j)->bR P w K mg base CX0 (k + j + 1) f fd ps (spT K P₀ pq n (F' (j + 1)))):∀ j,bR P w K mg base CX0 (k + j) f fd ps (spT K P₀ pq n (F' j))
 | 0=>⟨fun vs H Q E h=>by rw [hps];exact rW h.2,fun A outer s H args us vs Q E hr e0 hb hv hs=>by obtain⟨_,ds,d,fp,_,_,z,_⟩:=hs;rw [h0] at z;cases z⟩
 | j + 1=>ok j ⟨⟨f,fd,ps,Z3H hps a kp b h0 ok j,a,kp,b⟩⟩
end
end PD
namespace PySem.W
open PySem PySem.Spec PySem.Calls PyProof.Rows Builtin Builtin.ObjectAttr Builtin.Getset_descriptor
structure ExAt (h:Heap) (x:Addr) (ox:Obj) (C:Addr):Prop where
 at_:h.get? x=some ox
 cls:ox.cls=.ref C
section
variable {prog:Program}{w:World}{A:Around}{E:Value->Shared->Prop}{s:Shared}{K:Frag}{x C:Addr}{ox:Obj}{name:Str}{R:Result->Shared->Prop}
theorem ExAt.type {M:Model}{h:Heap}(I:ExAt h x ox C):Looks M h (typeOf (.ref x)) (.ref C):=I.cls ▸ (Looks.ld I.at_).andThen .now
theorem Q6 {tp:Value}(X:K.In s.heap) (I:ExAt s.heap x ox C) (hm:mroIn K C (.type "object")=some true)
  (h:R (.ok (.ret (.ref C))) s):codeAny (model prog w) A (.call (.builtin "getset_descriptor.__get__") ⟨[.builtin "object.__class__",.ref x,tp],[]⟩) R s:=by
 obtain⟨hh,g,dr,t,os⟩:=s;have L0:=I.type (M:=model prog w);have L1:=looks_mroIn (M:=model prog w) X hm;refine codeAny_call_builtin KF.slot_gs.plain KF.entry_gs (KF.slot_gs.check _ _ _ _ _ _ _ _ KF.type_class (KF.args_gs _ _ _) ?_);unfold Builtin.«getset_descriptor.__get__» descrGet;rw [dga_obj];refine wpAny_bind (wpAny_pure ?_);unfold descrGetter descrCheckInstance descrNameAndClass isInstance;simp only [KF.owner_class]
 repeat lk
 refine⟨Code.quiet_builtin _ (by decide +kernel),codeAny_builtin KF.entry_class ?_⟩;unfold Builtin.«object.__class__» shownTypeOf
 repeat lk
 exact h
theorem Z5Q {M:Model}{h:Heap}{a g:Value}(X:K.In h) (ha:findIn K (.ref C) name=some (some a)) (hg:specialIn K a "__get__" = some (some g)) (ht:takesIn K a=some true):Looks M h (find (.ref x) (.ref C) name) (.bind g a):=by
 have L1:=looks_findIn (M:=M) X ha;have L2:Looks M h (getOf (some a)) (some g):=looks_specialIn X hg;have L3:=looks_takesIn (M:=M) X ht;exact L1.andThen (L2.andThen ((show Looks M h (dataDescriptor? (some a) (some g)) (some (g,a)) from L3.andThen .now).andThen (Looks.tag .now)))
theorem yS:entryFor table "BaseException.__getattribute__" = some Builtin.«object.__getattribute__» :=
 entryFor_alias (id' := "object.__getattribute__") (by kernel_rfl) (by first | rfl | decide +kernel) (by decide +kernel) (by kernel_rfl)
theorem slot_exc_ga:Slot "BaseException" "__getattribute__" "BaseException.__getattribute__" :=
 .of (owner := "BaseException") (n := "__getattribute__") (by rw [typeLookup_type,builtinLookup_eq_fast];kernel_rfl) (by decide +kernel) (by decide +kernel) (by decide +kernel)
  (by first | exact .inl (by decide +kernel) | exact .inr (by decide +kernel)) (by rw [isSubtype_type];kernel_rfl)
structure ExcK (K:Frag) (C:Addr):Prop where
 ga:findIn K (.ref C) "__getattribute__" = some (some (.builtin "BaseException.__getattribute__"))
 gn:findIn K (.ref C) "__getattr__" = some none
 cl:findIn K (.ref C) "__class__" = some (some (.builtin "object.__class__"))
 cg:specialIn K (.builtin "object.__class__") "__get__" = some (some (.builtin "getset_descriptor.__get__"))
 ct:takesIn K (.builtin "object.__class__")=some true
 mo:mroIn K C (.type "object")=some true
 mb:mroIn K C (.type "BaseException")=some true
 ic:(clsIn K C).isSome=true
theorem yX {tk:Tok}{Q:Fin->Shared->Prop}(X:K.In s.heap) (I:ExAt s.heap x ox C) (k:ExcK K C) (h:Q (.done (.ret (.ref C))) s) :
  wpAny (model prog w) A (Builtin.«object.__getattribute__» ⟨[.ref x,.str "__class__" tk],[]⟩) Q E s:=by
 obtain⟨hh,g,d,t,os⟩:=s;have L0:=I.type (M:=model prog w);have L1:=Z5Q (M:=model prog w) (x:=x) X k.cl k.cg k.ct;refine wpAny_bind (wpAny_pure (wpAny_bind (wpAny_pure (wpAny_bind (L0.at (wpAny_bind (L1.at ?_)))))));show wpAny _ _ (bindTo _ _ _ _) _ _ _;unfold bindTo;refine wpAny_bind (wpAny_holding (wpAny_call (Q6 X I k.mo ?_)));exact wpAny_pure h
theorem Z4T {M:Model}{nm:Value}{Q:Unit->Shared->Prop}(X:K.In s.heap) (I:ExAt s.heap x ox C) (k:ExcK K C) (ha:argsOk "BaseException.__getattribute__" ⟨[.ref x,nm],[]⟩) (h:Q () s):wpAny M A (checkBuiltinCall "BaseException.__getattribute__" ⟨[.ref x,nm],[]⟩) Q E s:=by
 obtain⟨hh,g,d,t,os⟩:=s;have hsplit:splitId "BaseException.__getattribute__" = some ("BaseException","__getattribute__"):=by decide +kernel
 have hkind:(Manifest.find? "BaseException").bind (·.attrs.lookup "__getattribute__")=some .slot:=by decide +kernel
 have hk:builtinKind "BaseException.__getattribute__" = (Manifest.find? "BaseException").bind (·.attrs.lookup "__getattribute__"):=by simp only [builtinKind,hsplit]
 have LI:Looks M hh (isInstance (.ref x) (.type "BaseException")) true:=(I.type (M:=M)).andThen (looks_mroIn X k.mb);simp only [checkBuiltinCall,hk,hkind,hsplit];refine wpAny_bind (LI.at ?_);simp only [Bool.not_true,Bool.false_eq_true,if_false];cases hsig:Manifest.signature? "BaseException.__getattribute__" with
 | none=>exact wpAny_pure h
 | some sig =>
  simp only [argsOk,hsig] at ha;have h2:Bind.checkArgs "BaseException.__getattribute__" sig ⟨[.ref x,nm],[]⟩=pure ():=ha;show wpAny M A (Bind.checkArgs "BaseException.__getattribute__" sig ⟨[.ref x,nm],[]⟩) Q E _;rw [h2];exact wpAny_pure h
theorem N4:Manifest.owners.lookup (String.ofList ['n','o','i','t','p','e','c','x','E','e','s','a','B'].reverse)=some Manifest.sig_BaseException:=by kernel_rfl
theorem J9 (a b:Value):argsOk "BaseException.__getattribute__" ⟨[a,b],[]⟩:=by
 unfold argsOk;rw [signature?_of (id := "BaseException.__getattribute__") (n:=['_','_','e','t','u','b','i','r','t','t','a','t','e','g','_','_']) (o:=['n','o','i','t','p','e','c','x','E','e','s','a','B']) (by kernel_rfl) N4];kernel_rfl
theorem G5 {Q:Option Value->Shared->Prop}(X:K.In s.heap) (I:ExAt s.heap x ox C) (k:ExcK K C) (h:Q (some (.ref C)) { s with toks:=s.toks + 1 }):wpAny (model prog w) A (getAttr? (.ref x) "__class__") Q E s:=by
 obtain⟨hh,g,d,t,os⟩:=s;have L0:=I.type (M:=model prog w);have L1:=looks_findIn (M:=model prog w) X k.ga;have L2:=looks_findIn (M:=model prog w) X k.gn;unfold getAttr? getAttrBy? getAttrBy;refine wpAny_bind (wpAny_mkText (wpAny_bind (wpAny_attempt (wpAny_holding (wpAny_bind (L0.at (wpAny_bind (L1.at ?_))))))));show wpAny _ _ (getAttrByItsOwn _ _ _ _ _ _) _ _ _;unfold getAttrByItsOwn hookBefore;refine wpAny_bind (L2.at ?_);refine wpAny_bind (wpAny_attempt (wpAny_holding ?_));show wpAny _ _ (boundAndCalled _ _ _) _ _ _;unfold boundAndCalled;rw [slot_exc_ga.bind];refine wpAny_bind (wpAny_pure ?_);refine wpAny_call (codeAny_call_builtin slot_exc_ga.plain yS (Z4T X I k (J9 _ _) (yX X I k ?_)));exact handed_on rfl (wpAny_pure h)
theorem kitx_exc (k:ExcK K C):KitX K (.ref x) (.ref C) (fun h=>ExAt h x ox C) where
 ty:=fun _ _ _ I=>I.type
 it:=fun _ _ X _=>by
  have hc:=k.ic;unfold clsIn at hc;split at hc
  .rename_i c' d' cd' sl' ho;intro A' Q' E' s' k q;unfold isType loadHead;exact wpAny_bind (wpAny_loadPart (k _ _ (X _ _ ho)) (wpAny_pure q))
  .cases hc
 ne:=fun h tp dd its n sl X htp=>by
  refine Bool.eq_false_iff.mpr fun q=>?_;have e:C=tp:=Value.ref.inj (beq_iff_eq.mp q);subst e;have hc:=k.ic;unfold clsIn at hc;split at hc
  .rename_i c' d' cd' sl' ho;have z:=(X _ _ ho).symm.trans htp;cases z
  .cases hc
 ca:=fun X I q=>G5 X I k q
end
end PySem.W
namespace PD
open PySem PySem.Spec PyProof.Rows L2
noncomputable def F7 (C:Addr) (b:Bool) (fa:En->Option D):En->Option D:=fun env=>match fa env with
 | some (.exc C')=>if C'=C then some (.bl b) else none
 | _=>none
section
variable {X:Cx}{m m1:Bool}{rs rs1:List Nat}{a:Expr}{fa:En->Option D}{p p2 pos:Pos}{cn:Str}{C CC:Addr}{b:Bool}
theorem Z4K {pins:List (Addr × Obj)}{s:Shared}{σ:L2.St}{H:Hp}{q:Addr}{c:Value}{A:Around}{Q E:Value->Shared->Prop}(T:PySem.W.ExcK X.K C) (I:Inv X pins σ H s) (hq:H q=some (.ext (kB q (.ref C)))) (hk:PySem.W.kitOne X.K (.ref C) c=some b) (h:∀ tk,Q (.bool b) { s with toks:=tk }) :
  wpAny (model X.prog X.w) A (call (.builtin "isinstance") [.ref q,c]) Q E s:=by
 obtain⟨⟨oe,vs',g1,g2,g3⟩,_⟩:=(show ObjOk X.prog X.w H s.heap q (.ext (kB q (.ref C))) from I.hok q _ hq)
 exact PySem.W.kia_one (PySem.W.kitx_exc (ox:=oe) T) I.kIn ⟨g1,g2⟩ hk (fun z=>nomatch z) h
theorem wR {K:Frag}{σ:L2.St}{H:Hp}{Q:VK}(h:tD K m rs (F7 C b fa) σ H Q):tD K m1 rs1 fa σ H fun v H'=>∃ q,v=.ref q /\ H' q=some (.ext (kB q (.ref C))) /\ ∀ H'',Same H' H''->Q (.bl b) H'':=by
 obtain⟨env,F,d,ok,e,q⟩:=h;unfold F7 at e;split at e
 .rename_i C' h1;split at e
  .rename_i hC;subst hC;cases e;refine⟨env,F,_,ok,h1,fun v H' fp s r c=>?_⟩;simp only [Rep] at r;obtain⟨a',rfl,_,hh⟩:=r;exact⟨a',rfl,hh,fun H'' s2=>q _ _ _ (s.trans s2) jE .nil⟩
  .cases e
 .cases e
theorem Z4j (T:PySem.W.ExcK X.K C) (hk:PySem.W.kitOne X.K (.ref C) (.ref CC)=some b) (hg:Gl X "isinstance") (hm:X.mg "isinstance" = none) (ha:QE X m1 rs1 a fa) (hgc:Gl X cn) (hmc:X.mg cn=some (.ref CC)) (hdc:(cn == ("__debug__" : Str))=false:=by decide)
  (he:starEach [a,.Name cn p2] X.env=(false,eval a X.env) :: starEach [.Name cn p2] X.env:=by rfl) (he2:starEach [.Name cn p2] X.env=(false,eval (.Name cn p2) X.env) :: starEach [] X.env:=by rfl) (hpl:(backTo pos (starEach [.Name cn p2] X.env)).any (·.1)=false:=by rfl) :
  QE X m rs (.Call (.Name "isinstance" p) [a,.Name cn p2] [] pos) (F7 C b fa) :=
 .mk (L2.pe_callB (r:=fun vs H Q=>∃ q,vs=[.ref q,.ref CC] /\ H q=some (.ext (kB q (.ref C))) /\ Q (.bl b) H)
   (fun pins s σ H xs us Q I w h=>by
    obtain⟨q,rfl,hq,k⟩:=h;obtain⟨u,w',rfl,r1,r2⟩:=R4 w;cases (show w'=Value.ref CC from r2)
    cases (show u=Value.ref q from r1)
    exact Z4K T I hq hk fun tk=>⟨.bl b,H,I.tok tk,rfl,k⟩)
   hg hm hV (pa_cons ha (pa_cons (kR (v:=.ref CC) hgc hmc rfl hdc) pa_nil he2) he) (by decide) (by decide) he hpl) fun σ H Q h=>by
  obtain⟨env,F,d,ok,e,q⟩:=wR (m1:=m1) (rs1:=rs1) h;refine⟨env,F,d,ok,e,fun v H' fp s r c=>?_⟩;obtain⟨a',rfl,hh,k⟩:=q v H' fp s r c;exact⟨a',rfl,hh,k H' fun _ _ e=>e⟩
theorem vR:∀ (cs:List Addr) (us:List Value),Vals (cs.map V.ref) us->us=cs.map Value.ref
 | [],us,h=>by cases h;rfl
 | c :: r,us,h=>by
  cases h with
  | cons h1 h2 =>
   cases (show _=Value.ref c from h1)
   rw [vR r _ h2];rfl
theorem Z2V {es:List Expr}{t:TA}{x1:Nat}{p3:Pos}{cs:List Addr}(T:PySem.W.ExcK X.K C) (hk:PySem.W.kitAny X.K (.ref C) (cs.map Value.ref)=some b) (hg:Gl X "isinstance") (hm:X.mg "isinstance" = none) (ha:QE X m1 rs1 a fa) (hp:PA X es t) (ht:∀ σ H (Q:List V->Hp->Prop),Q (cs.map V.ref) H->t σ H Q) (hl:cs.length <= 100)
  (he:starEach [a,.Tuple es x1 p3] X.env=(false,eval a X.env) :: starEach [.Tuple es x1 p3] X.env:=by rfl) (he2:starEach [.Tuple es x1 p3] X.env=(false,eval (.Tuple es x1 p3) X.env) :: starEach [] X.env:=by rfl) (hpl:(backTo pos (starEach [.Tuple es x1 p3] X.env)).any (·.1)=false:=by rfl) :
  QE X m rs (.Call (.Name "isinstance" p) [a,.Tuple es x1 p3] [] pos) (F7 C b fa) :=
 .mk (L2.pe_callB (r:=fun vs H Q=>∃ q tp,vs=[.ref q,.ref tp] /\ H q=some (.ext (kB q (.ref C))) /\ H tp=some (.tup (cs.map V.ref)) /\ Q (.bl b) H)
   (fun pins s σ H xs us Q I w h=>by
    obtain⟨q,tp,rfl,hq,htp,k⟩:=h;obtain⟨u,w',rfl,r1,r2⟩:=R4 w;cases (show w'=Value.ref tp from r2)
    cases (show u=Value.ref q from r1)
    obtain⟨⟨oe,vs',g1,g2,g3⟩,_⟩:=(show ObjOk X.prog X.w H s.heap q (.ext (kB q (.ref C))) from I.hok q _ hq)
    obtain⟨_,its,hv,o,ho,hc,n,hd⟩:=(show ObjOk X.prog X.w H s.heap tp (.tup (cs.map V.ref)) from I.hok tp _ htp)
    rw [vR _ _ hv] at hd;obtain⟨oc,od,odt,osl⟩:=o;dsimp only at hc hd;subst hc hd;exact PySem.W.kia_tup (PySem.W.kitx_exc (ox:=oe) T) I.kIn ⟨g1,g2⟩ ho hk (fun z=>nomatch z) fun tk=>⟨.bl b,H,I.tok tk,rfl,k⟩)
   hg hm hV (pa_cons ha (pa_cons (pe_tup hp) pa_nil he2) he) (by decide) (by decide) he hpl) fun σ H Q h=>by
  obtain⟨env,F,d,ok,e,q⟩:=wR (m1:=m1) (rs1:=rs1) h;refine⟨env,F,d,ok,e,fun v H' fp s r c=>?_⟩;obtain⟨a',rfl,hh,k⟩:=q v H' fp s r c;refine ht _ _ _ ⟨by rw [List.length_map];exact Nat.le_trans hl (by decide),fun tp hf=>⟨a',tp,rfl,?_,aR,k _ (bS hf)⟩⟩;rw [aJ (aQ hh hf)];exact hh
end
noncomputable def Z2L (g:En->Res):En->Res:=fun env=>noX (g env)
section
variable {X:Cx}{E:XK}{st:Stmt}{sts:List Stmt}{g:En->Res}{i:Nat}{f:En->Option D}
theorem PSs.nox {t:TS}(h:PSs X.nox sts t):PSs X sts t:=fun pins s σ H D I hw =>
 wpAny_mono (h pins s σ H D (I.wish _) hw) (fun _ _ q=>q.unwish) fun _ _ z=>False.elim z
theorem Z19 (h:QSs X.nox sts g):K0 X E sts (Z2L g):=fun pins s σ H D I ⟨P,env,IS,q⟩=>PSs.nox h pins s σ H D I ⟨P,env,IS,Z03 q⟩
end
section
variable {K:Frag}{C CC:Addr}{b:Bool}
theorem pJ {cd:ClassData}(hc:PySem.W.clsIn K CC=some cd) (ht:PySem.W.typeIn K (.ref CC)=some (.type "type")) (hs:PySem.W.subIn K (.ref C) (.ref CC)=some b) (hne:(C == CC)=false):PySem.W.kitOne K (.ref C) (.ref CC)=some b:=by
 have h1:(Value.ref C == Value.ref CC)=false:=Bool.eq_false_iff.mpr fun q=>by
  have e:C=CC:=Value.ref.inj (beq_iff_eq.mp q);rw [e] at hne;simp at hne
 unfold PySem.W.kitOne PySem.W.kitCls;rw [h1];simp [hc,ht,hs]
theorem D3 {t:Value}:PySem.W.kitAny K t []=some false:=rfl
theorem kX {t c:Value}{r:List Value}(h:PySem.W.kitOne K t c=some false) (h2:PySem.W.kitAny K t r=some false):PySem.W.kitAny K t (c :: r)=some false:=by
 unfold PySem.W.kitAny;rw [h];exact h2
theorem Z3O {N:Addr}{c:Value}{d:Option Addr}{es:Array DictEntry}{n:Nat}{sl:Array (Option Value)}{h:Heap}(X:K.In h) (l:K.lookup N=some ⟨c,d,.dict es n,sl⟩) (hk:es.toList.all (fun e=>match e.key with | .str _ _=>true | _=>false)=true) (hi:nsIn K N "__init__" = some none) :
  ∃ m,h.Ns N m /\ m "__init__" = none:=by
 have hg:=X _ _ l;have hn:h.Ns N (h.nsMap N):=.of_isNs (by unfold Heap.isNs;rw [hg];rw [Array.all_toList] at hk;exact hk);refine⟨_,hn,?_⟩;obtain⟨o,es',ep,ho,hd,_,hf⟩:=hn;rw [ho] at hg;cases hg;cases hd;rw [<- hf];unfold nsIn at hi;rw [l] at hi;dsimp only at hi;split at hi
 .cases hi
 .rename_i he;unfold nsFind findBy;rw [<- Array.find?_toList,he];rfl
theorem Z4N {S N NS:Addr}{nm q:Str}{bs:List Value}{hdct:Bool}{sn:List Str}{sub:List Value}{ab:Bool}{col:Option Bool}{dd:Option Addr}{k0 k1 k2 k3 k5:Option Value}
  {c c1 c2:Value}{d d1 d2:Option Addr}{es es1:Array DictEntry}{n n1:Nat}{sl sl1 sl2:Array (Option Value)}{nm1 q1:Str}{bs1 mro1:List Value}{hd1:Bool}{sn1:List Str}{sub1:List Value}{ab1:Bool}{col1:Option Bool}{del1:Bool}
  (l:K.lookup C=some (excClassObj nm q C N bs [.ref S,.type "ValueError",.type "Exception",.type "BaseException",.type "object"] hdct sn sub ab col dd k0 k1 k2 k3 k5 "ValueError.__new__"))
  (lN:K.lookup N=some ⟨c,d,.dict es n,sl⟩) (hk:es.toList.all (fun e=>match e.key with | .str _ _=>true | _=>false)=true) (hi:nsIn K N "__init__" = some none)
  (lS:K.lookup S=some ⟨c2,d2,.cls ⟨nm1,bs1,mro1,NS,q1,hd1,sn1,sub1,ab1,col1,del1⟩,sl2⟩) (lT:K.lookup NS=some ⟨c1,d1,.dict es1 n1,sl1⟩) (hk1:es1.toList.all (fun e=>match e.key with | .str _ _=>true | _=>false)=true) (hi1:nsIn K NS "__init__" = some none) :
  ∀ base:Heap,K.In base->ExC base C:=fun base X=>by
 obtain⟨m,hm,h0⟩:=Z3O X lN hk hi;obtain⟨m1,hm1,h1⟩:=Z3O X lT hk1 hi1;exact⟨⟨[.type "ValueError",.type "Exception",.type "BaseException",.type "object"],_,N,nm,q,bs,hdct,sn,sub,ab,col,dd,k0,k1,k2,k3,k5,_,m,"ValueError",_,_,"ValueError",_,_,X _ _ l,hm,h0,.own (X _ _ lS) hm1 h1 .base,PySem.F.excBase_ValueError,PySem.F.excBase_ValueError,by decide +kernel⟩⟩
theorem Z4S {c:Value}{d:Option Addr}{cd:ClassData}{sl:Array (Option Value)}(l:K.lookup C=some ⟨c,d,.cls cd,sl⟩):(PySem.W.clsIn K C).isSome=true:=by
 unfold PySem.W.clsIn;rw [l];rfl
end
section
variable {X:Cx}{E:XK}{st:Stmt}{g:En->Res}{f:En->Option D}{t:TS}
end
section
variable {P:Program}{w:World}{K:Frag}{mg:Str->Option Value}{base:Heap}{N:List Str}{qual:Str}{scope:Scope}{f:Addr}{cd:Value}{A:Around}{outer:List Env}{s0:Shared}{H0:Hp}{E:XK}{m1:Bool}{rs1:List Nat}{e:Expr}{es:List Expr}{fs:En->Option (List D)}{p pos:Pos}
end
section
variable {X:Cx}{E:XK}{m:Bool}{rs:List Nat}{iter tg:Expr}{src:En->Option (List D)}{t:D->En->Option En}{body:List Stmt}{g:En->Res}{pos:Pos}
open Classical in
end
section
variable {X:Cx}{E:XK}{pre:En->Bool}{f fa fb:En->Option D}{a b e:Expr}{pos p:Pos}{x:Str}{i:Nat}{m1 m2:Bool}{rs1 rs2:List Nat}
end
section
variable {pre:En->Bool}{f:En->Option D}{g k:En->Res}{env:En}{C:Addr}{Q:Res->Prop}
end
end PD
namespace G
open PySem PySem.Spec PyProof.Rows L2 PD
theorem vZ:∀ (n a b:Nat),a <= n->a ||| b=(a ^^^ b) + (a &&& b)
 | n,0,b,_=>by simp
 | 0,a + 1,b,h=>by omega
 | n + 1,a + 1,b,h=>by
  have ih:=vZ n ((a + 1) / 2) (b / 2) (by omega);have o:=congrArg (· = true) (Nat.testBit_or (a + 1) b 0);have x:=congrArg (· = true) (Nat.testBit_xor (a + 1) b 0);have d:=congrArg (· = true) (Nat.testBit_and (a + 1) b 0);simp only [Nat.testBit_zero,Bool.or_eq_true,Bool.and_eq_true,decide_eq_true_eq] at o x d;rw [<- Nat.or_div_two,<- Nat.xor_div_two,<- Nat.and_div_two] at ih;generalize a + 1=A at *
  generalize A ||| b=O at *
  generalize A ^^^ b=X at *
  generalize A &&& b=N at *
  have ho:O % 2=1 ↔ A % 2=1 \/ b % 2=1:=by rw [o]
  have hd:N % 2=1 ↔ A % 2=1 /\ b % 2=1:=by rw [d]
  have hx:X % 2=1 ↔ ¬ (A % 2=1 ↔ b % 2=1):=by
   rw [x];by_cases h1:A % 2=1 <;> by_cases h2:b % 2=1 <;> simp [h1,h2]
  by_cases h1:A % 2=1 <;> by_cases h2:b % 2=1 <;> simp only [h1,h2,or_self,or_true,true_or,and_self,and_true,true_and,and_false,false_and,iff_self,not_true,iff_true,iff_false,or_false,false_or,not_false_iff] at ho hd hx <;> omega
theorem J6 (a:Nat):¬ (0:Int) <= Builtin.bitNot (a:Int):=by unfold Builtin.bitNot;omega
theorem Z2n (a:Int):Builtin.bitNot (Builtin.bitNot a)=a:=by unfold Builtin.bitNot;omega
theorem J7 (a b:Nat):Builtin.bitAnd (a:Int) (b:Int)=((a &&& b:Nat):Int):=by
 simp [Builtin.bitAnd]
theorem W8 (a b:Nat):Builtin.bitOr (a:Int) (b:Int)=((a ||| b:Nat):Int):=by
 unfold Builtin.bitOr Builtin.bitAnd;rw [decide_eq_false (J6 a),decide_eq_false (J6 b)];simp only [Z2n,Int.toNat_natCast]
theorem Z2m (a b:Nat):Builtin.bitXor (a:Int) (b:Int)=((a ^^^ b:Nat):Int):=by
 unfold Builtin.bitXor;rw [W8,J7,vZ a a b (Nat.le_refl _)];omega
noncomputable def tabN:Nat->(Nat->Bool)->Nat
 | 0,_=>0
 | n + 1,b=>tabN n b + (if b n then 2 ^ n else 0)
theorem eE:∀ (n:Nat) (b:Nat->Bool),tabN n b < 2 ^ n
 | 0,b=>by simp [tabN]
 | n + 1,b=>by
  have:=eE n b;simp only [tabN,Nat.pow_succ];split <;> omega
theorem cH:∀ (n:Nat) (b:Nat->Bool) (g:Nat),(tabN n b).testBit g=(decide (g < n) && b g)
 | 0,b,g=>by simp [tabN]
 | n + 1,b,g=>by
  have ih:=cH n b g;have hlt:=eE n b;simp only [tabN];cases hb:b n with
  | true =>
   simp only [if_true];rw [Nat.add_comm];by_cases h1:g < n
   .rw [Nat.testBit_two_pow_add_gt h1,ih];simp [h1,Nat.lt_succ_of_lt h1]
   .by_cases h2:g=n
    .subst h2;rw [Nat.testBit_two_pow_add_eq,ih];simp [hb]
    .rw [Nat.testBit_lt_two_pow]
     .simp [show ¬ g < n + 1 by omega]
     .have:2 ^ (n + 1) <= 2 ^ g:=Nat.pow_le_pow_right (by decide) (by omega);rw [Nat.pow_succ] at this;omega
  | false =>
   simp only [Bool.false_eq_true,if_false,Nat.add_zero];rw [ih];by_cases h2:g=n
   .subst h2;simp [hb]
   .by_cases h1:g < n
    .simp [h1,Nat.lt_succ_of_lt h1]
    .simp [h1,show ¬ g < n + 1 by omega]
theorem L8 (h:∀ g,g < n->a g=b g):tabN n a=tabN n b:=by
 apply Nat.eq_of_testBit_eq;intro g;rw [cH,cH];by_cases hg:g < n
 .simp [hg,h g hg]
 .simp [hg]
theorem iX (h1:x < 2 ^ n) (h:∀ g,g < n->x.testBit g=b g):x=tabN n b:=by
 apply Nat.eq_of_testBit_eq;intro g;rw [cH];by_cases hg:g < n
 .simp [hg,h g hg]
 .have:x < 2 ^ g:=Nat.lt_of_lt_of_le h1 (Nat.pow_le_pow_right (by decide) (by omega));rw [Nat.testBit_lt_two_pow this];simp [hg]
noncomputable def tab (n:Nat) (b:Nat->Bool):Int:=(tabN n b:Int)
theorem cX (h:∀ g,g < n->a g=b g):tab n a=tab n b:=by unfold tab;rw [L8 h]
theorem R9 (n:Nat) (a b:Nat->Bool):Builtin.bitAnd (tab n a) (tab n b)=tab n (fun g=>a g && b g):=by
 unfold tab;rw [J7];congr 1;refine iX (Nat.lt_of_le_of_lt Nat.and_le_left (eE n a)) fun g hg=>?_;rw [Nat.testBit_and,cH,cH];simp [hg]
theorem sL (n:Nat) (a b:Nat->Bool):Builtin.bitOr (tab n a) (tab n b)=tab n (fun g=>a g || b g):=by
 unfold tab;rw [W8];congr 1;refine iX (Nat.or_lt_two_pow (eE n a) (eE n b)) fun g hg=>?_;rw [Nat.testBit_or,cH,cH];simp [hg]
theorem xB (n:Nat) (a b:Nat->Bool):Builtin.bitXor (tab n a) (tab n b)=tab n (fun g=>a g ^^ b g):=by
 unfold tab;rw [Z2m];congr 1;refine iX (Nat.xor_lt_two_pow (eE n a) (eE n b)) fun g hg=>?_;rw [Nat.testBit_xor,cH,cH];simp [hg]
theorem X8 (n:Nat):tabN n (fun _=>true)=2 ^ n - 1:=by
 symm;refine iX (by have:=Nat.two_pow_pos n;omega) fun g hg=>?_;rw [Nat.testBit_two_pow_sub_one];simp [hg]
theorem iE:∀ (n:Nat),tabN n (fun _=>false)=0
 | 0=>rfl
 | n + 1=>by simp [tabN,iE n]
noncomputable def aT (n:Nat):Int:=2 ^ n - 1
theorem pA (n:Nat):tab n (fun _=>true)=aT n:=by
 unfold tab aT;rw [X8];have:=Nat.two_pow_pos n;rw [Int.ofNat_sub (by omega)];simp
theorem R8 (n:Nat) {b:Int}(h:b=0 \/ b=1):aT n * b=tab n (fun _=>decide (b=1)):=by
 rcases h with z | z
 .subst z;have:(fun _:Nat=>decide ((0:Int)=1))=fun _=>false:=by funext;decide
  rw [this,Int.mul_zero];unfold tab;rw [iE];rfl
 .subst z;have:(fun _:Nat=>decide ((1:Int)=1))=fun _=>true:=by funext;decide
  rw [this,Int.mul_one,pA]
theorem R7 (n:Nat) (b:Nat->Bool):Builtin.bitXor (aT n) (tab n b)=tab n (fun g=>!b g):=by
 rw [<- pA,xB];exact cX fun g _=>by simp
noncomputable def inT:Nat->List Int
 | 0=>[]
 | k + 1=>(inT k).map (fun t=>Builtin.bitOr t (t * 2 ^ (2 ^ k))) ++ [aT (2 ^ k) * 2 ^ (2 ^ k)]
theorem fT:∀ n,(inT n).length=n
 | 0=>rfl
 | n + 1=>by simp [inT,fT n]
theorem R5 (n:Nat) (b:Nat->Bool):tab n b * 2 ^ n=tab (n + n) (fun g=>decide (n <= g) && b (g - n)):=by
 unfold tab;have:((tabN n b:Nat):Int) * 2 ^ n=((tabN n b * 2 ^ n:Nat):Int):=by simp
 rw [this];congr 1;refine iX ?_ fun g hg=>?_
 .rw [Nat.pow_add];exact Nat.mul_lt_mul_of_pos_right (eE n b) (Nat.two_pow_pos n)
 .rw [<- Nat.shiftLeft_eq,Nat.testBit_shiftLeft,cH];by_cases h:n <= g
  .simp [h,show g - n < n by omega]
  .simp [h]
theorem Z0V (n m:Nat) (b:Nat->Bool):tab n b=tab (n + m) (fun g=>decide (g < n) && b g):=by
 unfold tab;congr 1;refine iX ?_ fun g hg=>cH n b g;exact Nat.lt_of_lt_of_le (eE n b) (Nat.pow_le_pow_right (by decide) (by omega))
theorem sC:∀ (n i:Nat),i < n->(inT n)[i]? = some (tab (2 ^ n) fun g=>decide (g / 2 ^ i % 2=1))
 | 0,i,h=>by omega
 | n + 1,i,h=>by
  have e2:2 ^ (n + 1)=2 ^ n + 2 ^ n:=by rw [Nat.pow_succ];omega
  simp only [inT];by_cases hi:i < n
  .rw [List.getElem?_append_left (by simp [fT,hi]),List.getElem?_map,sC n i hi];simp only [Option.map_some];congr 1;rw [R5];rw [Z0V (2 ^ n) (2 ^ n),sL,e2];refine cX fun g hg=>?_;by_cases h1:g < 2 ^ n
   .simp [h1,show ¬ 2 ^ n <= g by omega]
   .have h2:2 ^ n <= g:=by omega
    simp only [h1,h2,decide_false,decide_true,Bool.false_and,Bool.false_or,Bool.true_and];have h3:2 ^ n=2 ^ i * (2 * 2 ^ (n - i - 1)):=by rw [<- Nat.pow_succ',<- Nat.pow_add];congr 1;omega
    have h4:g / 2 ^ i=(g - 2 ^ n) / 2 ^ i + 2 * 2 ^ (n - i - 1):=by
     have:g=(g - 2 ^ n) + 2 ^ i * (2 * 2 ^ (n - i - 1)):=by omega
     conv=>lhs;rw [this]
     rw [Nat.add_mul_div_left _ _ (Nat.two_pow_pos i)]
    rw [h4];congr 2;omega
  .have hin:i=n:=by omega
   subst hin;rw [List.getElem?_append_right (by simp [fT]),List.length_map,fT,Nat.sub_self];simp only [List.getElem?_cons_zero];congr 1;rw [<- pA,R5,e2];refine cX fun g hg=>?_;by_cases h1:2 ^ i <= g
   .have:g / 2 ^ i=1:=by
     rw [Nat.div_eq_iff (Nat.two_pow_pos i)];omega
    simp [h1,this]
   .have:g / 2 ^ i=0:=Nat.div_eq_of_lt (by omega);simp [h1,this]
theorem Z5U (h:Bt x) (k:Bt y):(decide (x=1) && decide (y=1))=decide (Builtin.bitAnd x y=1):=by rcases h with z | z <;> rcases k with w | w <;> (subst z;subst w;decide)
theorem Z6t (h:Bt x) (k:Bt y):(decide (x=1) || decide (y=1))=decide (Builtin.bitOr x y=1):=by rcases h with z | z <;> rcases k with w | w <;> (subst z;subst w;decide)
theorem Z5S (h:Bt x) (k:Bt y):(decide (x=1) ^^ decide (y=1))=decide (Builtin.bitXor x y=1):=by rcases h with z | z <;> rcases k with w | w <;> (subst z;subst w;decide)
theorem Z5T (h:Bt x):(!decide (x=1))=decide (Builtin.bitXor 1 x=1):=by rcases h with z | z <;> (subst z;decide)
noncomputable def tb (n:Nat) (b:Nat->Int):Int:=tab n fun g=>decide (b g=1)
theorem jT (h:∀ g,g < n->a g=b g):tb n a=tb n b:=cX fun g hg=>by rw [h g hg]
theorem L5 (n:Nat) {b:Int}(h:b=0 \/ b=1):aT n * b=tb n fun _=>1 * b:=by
 rw [R8 n h];exact cX fun g _=>by rw [Int.one_mul]
theorem Z40 (n:Nat) {a b:Nat->Int}(ha:∀ g,Bt (a g)) (hb:∀ g,Bt (b g)):Builtin.bitAnd (tb n a) (tb n b)=tb n fun g=>Builtin.bitAnd (a g) (b g):=by
 unfold tb;rw [R9];exact cX fun g _=>Z5U (ha g) (hb g)
theorem Z51 (n:Nat) {a b:Nat->Int}(ha:∀ g,Bt (a g)) (hb:∀ g,Bt (b g)):Builtin.bitOr (tb n a) (tb n b)=tb n fun g=>Builtin.bitOr (a g) (b g):=by
 unfold tb;rw [sL];exact cX fun g _=>Z6t (ha g) (hb g)
theorem Z3Y (n:Nat) {a b:Nat->Int}(ha:∀ g,Bt (a g)) (hb:∀ g,Bt (b g)):Builtin.bitXor (tb n a) (tb n b)=tb n fun g=>Builtin.bitXor (a g) (b g):=by
 unfold tb;rw [xB];exact cX fun g _=>Z5S (ha g) (hb g)
theorem Z3Z (n:Nat) {a:Nat->Int}(ha:∀ g,Bt (a g)):Builtin.bitXor (aT n) (tb n a)=tb n fun g=>Builtin.bitXor 1 (a g):=by
 unfold tb;rw [R7];exact cX fun g _=>Z5T (ha g)
theorem vT (h:v=tb n b) (hf:∀ w b,f=.wire w b->b=0 \/ b=1):bH v w (aT n) f=tb n fun g=>bH (b g) w 1 f:=by
 cases f with
 | none=>exact h
 | leg _ _ _=>exact h
 | wire w' b' =>
  unfold bH;by_cases hw:w'=w
  .simp only [hw,if_true];exact L5 n (hf _ _ rfl)
  .simp only [hw,if_false];exact h
theorem Z2s {V:List Int}{B:Nat->List Int}(h:∀ a ∈ r.ws,nth V a=tb n fun g=>nth (B g) a) (hb:∀ w l b,f=.leg w l b->b=0 \/ b=1) :
  ∀ j:Nat,j < r.ws.length->nth (legs r w V (aT n) f) j=tb n fun g=>nth (legs r w (B g) 1 f) j:=by
 have base:∀ j:Nat,j < r.ws.length->nth (r.ws.map (nth V)) j=tb n fun g=>nth (r.ws.map (nth (B g))) j:=by
  intro j hj;have e1:∀ L:List Int,nth (r.ws.map (nth L)) j=nth L (r.ws[j]):=fun L=>gP (i:=j) (by simp [hj]) rfl;rw [e1 V,h _ (List.getElem_mem hj)];exact jT fun g _=>(e1 (B g)).symm
 intro j hj;cases f with
 | none=>exact base j hj
 | wire _ _=>exact base j hj
 | leg w' l b =>
  unfold legs;by_cases hw:w'=w
  .simp only [hw,if_true];by_cases hl:l.toNat=j
   .have e2:∀ (L:List Int) (x:Int),L.length=r.ws.length->nth (L.set l.toNat x) j=x:=fun L x hL=>gP (i:=j) (by rw [hl,List.getElem?_set_self (by omega)]) rfl;rw [e2 _ _ (by simp)];rw [L5 n (hb _ _ _ rfl)];exact jT fun g _=>(e2 _ _ (by simp)).symm
   .have e3:∀ (L:List Int) (x:Int),nth (L.set l.toNat x) j=nth L j:=fun L x=>by
     unfold nth;rw [Int.toNat_natCast,List.getD,List.getD,List.getElem?_set_ne hl]
    rw [e3,base j hj];exact jT fun g _=>(e3 _ _).symm
  .simp only [hw,if_false];exact base j hj
theorem Z2t {M:Nat->List Int}(hr:RowOk k r) (h:∀ j:Nat,j < r.ws.length->nth L j=tb n fun g=>nth (M g) j) (hM:∀ g,∀ x ∈ M g,Bt x):gN r L (aT n)=tb n fun g=>gN r (M g) 1:=by
 have bt:∀ j g,Bt (nth (M g) j):=fun j g=>kS (hM g) j;cases r with
 | fix b=>exact L5 n hr
 | not a =>
  have h0:=h 0 (by simp [Row.ws]);show Builtin.bitXor (aT n) (nth L 0)=_;rw [show nth L 0=nth L ((0:Nat):Int) from rfl,h0]
  exact Z3Z n fun g=>bt _ g
 | bin k a b =>
  have h0:nth L 0=tb n fun g=>nth (M g) 0:=h 0 (by simp [Row.ws]);have h1:nth L 1=tb n fun g=>nth (M g) 1:=h 1 (by simp [Row.ws]);cases k with
  | and =>
   show Builtin.bitAnd (nth L 0) (nth L 1)=_;rw [h0,h1];exact Z40 n (fun g=>bt _ g) fun g=>bt _ g
  | or =>
   show Builtin.bitOr (nth L 0) (nth L 1)=_;rw [h0,h1];exact Z51 n (fun g=>bt _ g) fun g=>bt _ g
  | xor =>
   show Builtin.bitXor (nth L 0) (nth L 1)=_;rw [h0,h1];exact Z3Y n (fun g=>bt _ g) fun g=>bt _ g
noncomputable def aZ (ins:Nat) (rows:List Row) (f:Flt):List Int:=gR (aT (2 ^ ins)) f (inT ins) rows
theorem gT (ins:Nat) (rows:List Row) (f:Flt):(aZ ins rows f).length=ins + rows.length:=by
 unfold aZ;rw [mV,fT]
theorem C6 {i:Nat}(h0:0 <= a) (h1:a < i):nth (l.take i) a=nth l a:=by
 unfold nth;rw [List.getD,List.getD,List.getElem?_take_of_lt (by omega)]
theorem zP {rows:List Row}(hr:RowsOk ins rows) (hf:FltOk ins rows f):∀ (i:Nat),i < ins + rows.length->nth (aZ ins rows f) i=tb (2 ^ ins) fun g=>nth (uL ins rows g f) i:=by
 intro i
 induction i using Nat.strongRecOn with
 | _ i ih =>
  intro hi;by_cases h1:i < ins
  .have e1:(aZ ins rows f)[i]? = some (bH (tab (2 ^ ins) fun g=>decide (g / 2 ^ i % 2=1)) i (aT (2 ^ ins)) f):=sI (sC ins i h1);rw [gP e1 rfl];have e2:(tab (2 ^ ins) fun g=>decide (g / 2 ^ i % 2=1))=tb (2 ^ ins) fun g=>((g:Int) / 2 ^ i % 2):=by
    refine cX fun g _=>?_;have e3:((g:Int) / 2 ^ i % 2)=((g / 2 ^ i % 2:Nat):Int):=by simp
    have e4:(g / 2 ^ i % 2=1) ↔ ((g:Int) / 2 ^ i % 2=1):=by rw [e3];omega
    exact decide_eq_decide.mpr e4
   rw [vT e2 hf.w];exact jT fun g _=>(gP (Z2k h1) rfl).symm
  .obtain⟨k,rfl⟩:∃ k,i=ins + k:=⟨i - ins,by omega⟩;have hk:k < rows.length:=by omega
   have hr1:=List.getElem?_eq_getElem hk;generalize rows[k]=r at hr1;have hrow:=hr k r hr1;have e1:=pU (o:=aT (2 ^ ins)) (f:=f) (ss:=inT ins) hr1;rw [fT] at e1;rw [show nth (aZ ins rows f) ((ins + k:Nat):Int)=_ from gP e1 rfl]
   have hb:∀ g:Nat,nth (uL ins rows g f) ((ins + k:Nat):Int)=_:=fun g=>gP (Z0M (g:=g) (f:=f) hr1) rfl;have e2:gN r (legs r ((ins + k:Nat):Int) ((gR (aT (2 ^ ins)) f (inT ins) rows).take (ins + k)) (aT (2 ^ ins)) f) (aT (2 ^ ins))=tb (2 ^ ins) fun g=>gN r (legs r ((ins + k:Nat):Int) ((uL ins rows g f).take (ins + k)) 1 f) 1:=by
    refine Z2t hrow (Z2s (fun a ha=>?_) hf.l) fun g=>U7 (fun x hx=>Z2l hr hf x (List.mem_of_mem_take hx)) hf.l;have ha2:=hrow.ws a ha;obtain⟨a',rfl⟩:∃ a':Nat,a=(a':Int):=⟨a.toNat,by omega⟩;have:=ih a' (by omega) (by omega);rw [C6 (by omega) (by omega)];show nth (aZ ins rows f) _=_;rw [this];exact jT fun g _=>(C6 (by omega) (by omega)).symm
   rw [vT e2 hf.w];exact jT fun g _=>(hb g).symm
theorem sM:∀ (n:Nat) (b:Nat->Bool),tabN n b + tabN n (fun g=>!b g) + 1=2 ^ n
 | 0,b=>by simp [tabN]
 | n + 1,b=>by
  have ih:=sM n b;simp only [tabN,Nat.pow_succ];by_cases hb:b n=true
  .simp only [hb,Bool.not_true,Bool.false_eq_true,if_true,if_false];omega
  .simp only [hb,Bool.not_false,Bool.false_eq_true,if_true,if_false];omega
theorem Z2u (n:Nat) (b:Nat->Bool):aT n - tab n b=tab n (fun g=>!b g):=by
 have h:=sM n b;have h2:((2 ^ n:Nat):Int)=2 ^ n:=by simp
 unfold aT tab;rw [<- h2];omega
noncomputable def IsT (n:Nat) (x:Int):Prop:=∃ b,x=tab n b
theorem Z3m (h:IsT n x):Builtin.bitXor (aT n) x=aT n - x:=by obtain⟨b,rfl⟩:=h;rw [R7,Z2u]
theorem IsT.or (h:IsT n x) (k:IsT n y):IsT n (Builtin.bitOr x y):=by obtain⟨b,rfl⟩:=h;obtain⟨c,rfl⟩:=k;exact⟨_,sL n b c⟩
theorem IsT.xor (h:IsT n x) (k:IsT n y):IsT n (Builtin.bitXor x y):=by obtain⟨b,rfl⟩:=h;obtain⟨c,rfl⟩:=k;exact⟨_,xB n b c⟩
theorem tT (n:Nat):IsT n 0:=⟨fun _=>false,by unfold tab;rw [iE];rfl⟩
theorem Z3n (h:b=0 \/ b=1):IsT n (aT n * b):=⟨_,R8 n h⟩
theorem Z3g (l:List Int) (a:Int):nth l a=nth l ((a.toNat:Nat):Int):=by unfold nth;rw [Int.toNat_natCast]
theorem lR (hr:RowsOk ins rows) (hf:FltOk ins rows f) (a:Int):IsT (2 ^ ins) (nth (aZ ins rows f) a):=by
 by_cases h:a.toNat < ins + rows.length
 .rw [Z3g,zP hr hf _ h];exact⟨_,rfl⟩
 .have:nth (aZ ins rows f) a=0:=by
   unfold nth;rw [List.getD,List.getElem?_eq_none (by rw [gT];omega)];rfl
  rw [this];exact tT _
theorem L6 (h:i < ins):(aZ ins rows f)[i]? = some (bH (tab (2 ^ ins) fun g=>decide (g / 2 ^ i % 2=1)) i (aT (2 ^ ins)) f):=sI (sC ins i h)
theorem zO (h:rows[k]? = some r) :
  (aZ ins rows f)[ins + k]? = some (bH (gN r (legs r ((ins + k:Nat):Int) ((aZ ins rows f).take (ins + k)) (aT (2 ^ ins)) f) (aT (2 ^ ins))) ((ins + k:Nat):Int) (aT (2 ^ ins)) f):=by
 have:=pU (o:=aT (2 ^ ins)) (f:=f) (ss:=inT ins) h;rw [fT] at this;exact this
theorem T0 (p:Nat->Bool):∀ n,(((List.range n).filter p).map fun (g:Nat)=>((1:Int) * 2 ^ (g:Int).toNat)).sum=tab n p
 | 0=>rfl
 | n + 1=>by
  rw [List.range_succ,List.filter_append,List.map_append,List.sum_append,T0 p n];unfold tab;simp only [tabN];cases hp:p n <;> simp [hp]
noncomputable def qN (r:Row) (w l:Int) (vs:List Int) (o:Int) (f:Flt):Int:=match f with
 | .leg w' l' b=>if w'=w /\ l'=l then o * b else nth vs (nth r.ws l)
 | _=>nth vs (nth r.ws l)
theorem qM (hl:l=0 /\ 0 < r.ws.length \/ l=1 /\ 1 < r.ws.length) (hf:∀ w' l' b,f=.leg w' l' b->w'=w->0 <= l' /\ l' < r.ws.length):nth (legs r w vs o f) l=qN r w l vs o f:=by
 have hm:∀ j:Nat,j < r.ws.length->(r.ws.map (nth vs))[j]? = some (nth vs (nth r.ws j)):=fun j hj=>by
  rw [List.getElem?_map,List.getElem?_eq_getElem hj];simp [nth,List.getD,hj]
 have hbase:nth (r.ws.map (nth vs)) l=nth vs (nth r.ws l):=by
  rcases hl with ⟨rfl,h⟩ | ⟨rfl,h⟩
  .exact gP (hm 0 h) rfl
  .exact gP (hm 1 h) rfl
 cases f with
 | none=>exact hbase
 | wire _ _=>exact hbase
 | leg w' l' b =>
  unfold legs qN;by_cases h:w'=w
  .obtain⟨l0,l1⟩:=hf w' l' b rfl h;simp only [h,if_true,true_and];by_cases h2:l'=l
   .subst h2;simp only [if_true];refine gP (i:=l'.toNat) ?_ (by omega);rw [List.getElem?_set_self (by rw [List.length_map];omega)]
   .simp only [h2,if_false];have hne:l'.toNat ≠ l.toNat:=by omega
    rw [<- hbase];unfold nth;rw [List.getD,List.getD,List.getElem?_set_ne hne]
  .simp only [h,if_false,false_and];exact hbase
noncomputable def kdT (k:Kd) (x y:Int):Int:=match k with | .and=>Builtin.bitAnd x y | .or=>Builtin.bitOr x y | .xor=>Builtin.bitXor x y
theorem Z1Q (hv:∀ a,IsT n (nth vs a)) (hb:∀ w l b,f=.leg w l b->b=0 \/ b=1):IsT n (qN r w l vs (aT n) f):=by
 unfold qN;split
 .split
  .exact Z3n (hb _ _ _ rfl)
  .exact hv _
 .exact hv _
noncomputable def oY (A B outs:List Int):Int:=outs.foldl (fun acc a=>Builtin.bitOr acc (Builtin.bitXor (nth A a) (nth B a))) 0
theorem vS (hA:∀ a,IsT n (nth A a)) (hB:∀ a,IsT n (nth B a)):∀ (outs:List Int) (x:Int),IsT n x->IsT n (outs.foldl (fun acc a=>Builtin.bitOr acc (Builtin.bitXor (nth A a) (nth B a))) x)
 | [],x,h=>h
 | a :: outs,x,h=>by rw [List.foldl_cons];exact vS hA hB outs _ (h.or ((hA a).xor (hB a)))
theorem X6 (hA:∀ a,IsT n (nth A a)) (hB:∀ a,IsT n (nth B a)) (outs:List Int):IsT n (oY A B outs):=vS hA hB outs 0 (tT n)
theorem sK {A B outs:List Int}{i:Nat}{a:Int}(h:outs[i]? = some a):oY A B (outs.take (i + 1))=Builtin.bitOr (oY A B (outs.take i)) (Builtin.bitXor (nth A a) (nth B a)):=by
 unfold oY;rw [bT h,List.foldl_append];rfl
noncomputable def bB (ins:Nat) (rows:List Row) (w:Int):List Int:=if w < (ins:Int) then [] else match rows[(w - (ins:Int)).toNat]? with | some r=>r.ws | none=>[]
theorem nC {ins:Nat}(h:w < (ins:Int)):bB ins rows w=[]:=if_pos h
theorem kW {ins:Nat}(h:(ins:Int) <= w) (e:rows[(w - (ins:Int)).toNat]? = some r):bB ins rows w=r.ws:=by
 unfold bB;rw [if_neg (by omega),e]
theorem iF (hr:RowsOk ins rows) {w b:Int}(hb:b ∈ bB ins rows w):0 <= b /\ b < w:=by
 by_cases h:w < (ins:Int)
 .rw [nC h] at hb;cases hb
 .cases e:rows[(w - (ins:Int)).toNat]? with
  | none=>unfold bB at hb;rw [if_neg h,e] at hb;cases hb
  | some r =>
   rw [kW (by omega) e] at hb;have:=(hr _ r e).ws b hb;omega
theorem iR:(bB ins rows w).length <= 2:=by
 unfold bB;split
 .simp
 .split
  .rename_i r _;cases r <;> simp [Row.ws]
  .simp
noncomputable def iW (ks:List Int) (k:Int):List Int:=if k ∈ ks then ks else ks ++ [k]
theorem Z1M:a ∈ iW ks k ↔ a ∈ ks \/ a=k:=by
 unfold iW;split
 .rename_i h;exact⟨.inl,fun z=>z.elim id fun z=>z ▸ h⟩
 .simp
theorem O2 (h:ks.Nodup) (hk:k ∉ ks):(ks ++ [k]).Nodup:=by
 refine List.nodup_append.mpr ⟨h,by simp,fun a ha b hb z=>?_⟩;have:b=k:=by simpa using hb
 subst this;subst z;exact hk ha
theorem O3 (h:ks.Nodup):(iW ks k).Nodup:=by
 unfold iW;split
 .exact h
 .rename_i hk;exact O2 h hk
noncomputable def cE (ks xs:List Int):List Int:=xs.foldl iW ks
theorem mem_addAll:∀ {xs ks:List Int}{a:Int},a ∈ cE ks xs ↔ a ∈ ks \/ a ∈ xs
 | [],ks,a=>by simp [cE]
 | x :: xs,ks,a=>by
  have ih:=mem_addAll (xs:=xs) (ks:=iW ks x) (a:=a);unfold cE at ih ⊢;rw [List.foldl_cons,ih,Z1M,List.mem_cons,or_assoc]
theorem fQ:∀ {xs ks:List Int},ks.Nodup->(cE ks xs).Nodup
 | [],ks,h=>h
 | x :: xs,ks,h=>by
  have ih:=fQ (xs:=xs) (ks:=iW ks x) (O3 h);exact ih
theorem jK {xs ks:List Int}(h:xs[i]? = some a):cE ks (xs.take (i + 1))=iW (cE ks (xs.take i)) a:=by
 unfold cE;rw [bT h,List.foldl_append];rfl
theorem Z1o:∃ t,iW ks k=ks ++ t:=by
 unfold iW;split
 .exact⟨[],(List.append_nil _).symm⟩
 .exact⟨[k],rfl⟩
theorem uM:∀ {xs ks:List Int},∃ t,cE ks xs=ks ++ t
 | [],ks=>⟨[],(List.append_nil _).symm⟩
 | x :: xs,ks=>by
  obtain⟨t,e⟩:=uM (xs:=xs) (ks:=iW ks x);obtain⟨t',e'⟩:=Z1o (ks:=ks) (k:=x);refine⟨t' ++ t,?_⟩;rw [<- List.append_assoc,<- e',<- e];rfl
theorem jC:∀ (N:Nat) (l:List Int),l.Nodup->(∀ a ∈ l,0 <= a /\ a < (N:Int))->l.length <= N
 | 0,[],_,_=>Nat.le_refl _
 | 0,a :: l,_,h=>by have:=h a List.mem_cons_self;omega
 | N + 1,l,nd,h=>by
  have ih:=jC N (l.erase (N:Int)) (nd.erase _) (fun a ha=>by
   have h1:=(nd.mem_erase_iff).mp ha;have:=h a h1.2;have h2:a ≠ (N:Int):=h1.1;omega)
  rw [List.length_erase] at ih;split at ih <;> omega
structure NeedL (ins:Nat) (rows:List Row) (outs L:List Int):Prop where
 nd:L.Nodup
 out:∀ a ∈ outs,a ∈ L
 cl:∀ a ∈ L,∀ b ∈ bB ins rows a,b ∈ L
 least:∀ S:Int->Prop,(∀ a ∈ outs,S a)->(∀ a,S a->∀ b ∈ bB ins rows a,S b)->∀ a ∈ L,S a
theorem NeedL.perm (h:NeedL ins rows outs L) (k:NeedL ins rows outs M):L.Perm M :=
 (List.perm_ext_iff_of_nodup h.nd k.nd).mpr fun a=>⟨fun z=>h.least (· ∈ M) k.out k.cl a z,fun z=>k.least (· ∈ L) h.out h.cl a z⟩
theorem NeedL.sort (h:NeedL ins rows outs L) (k:NeedL ins rows outs M):lJ L=lJ M :=
 fN ((fZ _).trans ((h.perm k).trans (fZ _).symm)) (gU _) (gU _)
theorem NeedL.bound (h:NeedL ins rows outs L) (hr:RowsOk ins rows) (ho:∀ a ∈ outs,0 <= a /\ a < ((ins + rows.length:Nat):Int)):∀ a ∈ L,0 <= a /\ a < ((ins + rows.length:Nat):Int) :=
 h.least _ ho fun a ha b hb=>by have:=iF hr hb;omega
theorem NeedL.len (h:NeedL ins rows outs L) (hr:RowsOk ins rows) (ho:∀ a ∈ outs,0 <= a /\ a < ((ins + rows.length:Nat):Int)):L.length <= ins + rows.length:=jC _ _ h.nd (h.bound hr ho)
noncomputable def eO (ins:Nat) (rows:List Row) (outs:List Int):Nat->List Int
 | 0=>cE [] outs
 | j + 1=>if (((ins + rows.length:Nat):Int) - 1 - (j:Int)) ∈ eO ins rows outs j then cE (eO ins rows outs j) (bB ins rows (((ins + rows.length:Nat):Int) - 1 - (j:Int))) else eO ins rows outs j
structure Z5Y (ins:Nat) (rows:List Row) (outs:List Int) (j:Nat) (L:List Int):Prop where
 nd:L.Nodup
 out:∀ a ∈ outs,a ∈ L
 cl:∀ a ∈ L,((ins + rows.length:Nat):Int) - (j:Int) <= a->∀ b ∈ bB ins rows a,b ∈ L
 least:∀ S:Int->Prop,(∀ a ∈ outs,S a)->(∀ a,S a->∀ b ∈ bB ins rows a,S b)->∀ a ∈ L,S a
theorem U6 (hr:RowsOk ins rows) (ho:∀ a ∈ outs,0 <= a /\ a < ((ins + rows.length:Nat):Int)):∀ j,Z5Y ins rows outs j (eO ins rows outs j)
 | 0=>by
  refine⟨fQ List.nodup_nil,fun a ha=>mem_addAll.mpr (.inr ha),fun a ha h=>?_,fun S h1 _ a ha=>?_⟩
  .have:=ho a ((mem_addAll.mp ha).elim (fun z=>(by cases z)) id);omega
  .exact h1 a ((mem_addAll.mp ha).elim (fun z=>(by cases z)) id)
 | j + 1=>by
  have ih:=U6 hr ho j;unfold eO;by_cases hw:(((ins + rows.length:Nat):Int) - 1 - (j:Int)) ∈ eO ins rows outs j
  .rw [if_pos hw];generalize hW:((ins + rows.length:Nat):Int) - 1 - (j:Int)=W at *
   refine⟨fQ ih.nd,fun a ha=>mem_addAll.mpr (.inl (ih.out a ha)),fun a ha h b hb=>?_,fun S h1 h2 a ha=>?_⟩
   .rcases mem_addAll.mp ha with z | z
    .by_cases haw:a=W
     .subst haw;exact mem_addAll.mpr (.inr hb)
     .exact mem_addAll.mpr (.inl (ih.cl a z (by omega) b hb))
    .have:=iF hr z;omega
   .rcases mem_addAll.mp ha with z | z
    .exact ih.least S h1 h2 a z
    .exact h2 W (ih.least S h1 h2 W hw) a z
  .rw [if_neg hw];refine⟨ih.nd,ih.out,fun a ha h b hb=>?_,ih.least⟩;by_cases haw:a=((ins + rows.length:Nat):Int) - 1 - (j:Int)
   .rw [haw] at ha;exact absurd ha hw
   .exact ih.cl a ha (by omega) b hb
theorem tN (hr:RowsOk ins rows) (ho:∀ a ∈ outs,0 <= a /\ a < ((ins + rows.length:Nat):Int)):NeedL ins rows outs (eO ins rows outs rows.length):=by
 have h:=U6 hr ho rows.length;refine⟨h.nd,h.out,fun a ha b hb=>?_,h.least⟩;by_cases hi:a < (ins:Int)
 .rw [nC hi] at hb;cases hb
 .exact h.cl a ha (by omega) b hb
noncomputable def lH (ins:Nat) (rows:List Row) (outs:List Int):List Int:=lJ (eO ins rows outs rows.length)
theorem mem_needV:a ∈ lH ins rows outs ↔ a ∈ eO ins rows outs rows.length:=(fZ _).mem_iff
theorem rB (hr:RowsOk ins rows) (ho:∀ a ∈ outs,0 <= a /\ a < ((ins + rows.length:Nat):Int)):∀ a ∈ lH ins rows outs,0 <= a /\ a < ((ins + rows.length:Nat):Int) :=
 fun a ha=>(tN hr ho).bound hr ho a (mem_needV.mp ha)
theorem qJ (hr:RowsOk ins rows) (ho:∀ a ∈ outs,0 <= a /\ a < ((ins + rows.length:Nat):Int)):(lH ins rows outs).length <= ins + rows.length:=by
 have:=(fZ (eO ins rows outs rows.length)).length_eq;unfold lH;rw [this];exact (tN hr ho).len hr ho
noncomputable def cN (ins:Nat) (rows:List Row) (w:Int):List Int:=if w < (ins:Int) then [0,1] else match rows[(w - (ins:Int)).toNat]? with | some (.fix b)=>[1 - b] | _=>[0,1]
theorem eU:(cN ins rows w).length <= 2:=by
 unfold cN;split
 .simp
 .split <;> simp
theorem wV (hr:RowsOk ins rows) {w b:Int}(hb:b ∈ cN ins rows w):b=0 \/ b=1:=by
 unfold cN at hb;split at hb
 .simpa using hb
 .split at hb
  .rename_i c e;have:=hr _ _ e;have h2:b=1 - c:=by simpa using hb
   rcases (show c=0 \/ c=1 from this) with z | z <;> omega
  .simpa using hb
noncomputable def bN (ins:Nat) (rows:List Row) (w:Int) (k:Nat):List Int->List Flt
 | []=>[]
 | a :: r=>(cN ins rows a).map (fun b=>Flt.leg w (k:Int) b) ++ bN ins rows w (k + 1) r
noncomputable def bX (ins:Nat) (rows:List Row) (w:Int):List Flt:=(cN ins rows w).map (fun b=>Flt.wire w b) ++ bN ins rows w 0 (bB ins rows w)
noncomputable def cF (ins:Nat) (rows:List Row) (outs:List Int):List Flt:=(lH ins rows outs).flatMap (bX ins rows)
theorem mL:∀ (l:List Int) (k:Nat) (a:Int),bN ins rows w k (l ++ [a])=bN ins rows w k l ++ (cN ins rows a).map (fun b=>Flt.leg w ((k + l.length:Nat):Int) b)
 | [],k,a=>by simp [bN]
 | x :: l,k,a=>by
  simp only [List.cons_append,bN];rw [mL l (k + 1) a,List.append_assoc,List.length_cons,show k + 1 + l.length=k + (l.length + 1) by omega]
theorem gQ:∀ (l:List Int) (k:Nat),(bN ins rows w k l).length <= 2 * l.length
 | [],k=>by simp [bN]
 | x :: l,k=>by
  have h1:=gQ (ins:=ins) (rows:=rows) (w:=w) l (k + 1);have h2:=eU (ins:=ins) (rows:=rows) (w:=x);simp only [bN,List.length_append,List.length_map,List.length_cons];omega
theorem sG:(bX ins rows w).length <= 6:=by
 have h1:=gQ (ins:=ins) (rows:=rows) (w:=w) (bB ins rows w) 0;have h2:=eU (ins:=ins) (rows:=rows) (w:=w);have h3:=iR (ins:=ins) (rows:=rows) (w:=w);unfold bX;rw [List.length_append,List.length_map];omega
theorem pP:∀ (l:List Int),(l.flatMap (bX ins rows)).length <= 6 * l.length
 | []=>by simp
 | a :: l=>by
  have h1:=pP (ins:=ins) (rows:=rows) l;have h2:=sG (ins:=ins) (rows:=rows) (w:=a);rw [List.flatMap_cons,List.length_append,List.length_cons];omega
theorem mS (hr:RowsOk ins rows) (ho:∀ a ∈ outs,0 <= a /\ a < ((ins + rows.length:Nat):Int)):(cF ins rows outs).length <= 6 * (ins + rows.length):=by
 have h1:=pP (ins:=ins) (rows:=rows) (lH ins rows outs);have h2:=qJ hr ho;unfold cF;omega
theorem nV:∀ {l:List Int}{k:Nat},f ∈ bN ins rows w k l->∃ j a b,l[j]? = some a /\ b ∈ cN ins rows a /\ f=.leg w ((k + j:Nat):Int) b
 | [],k,h=>by cases h
 | x :: l,k,h=>by
  simp only [bN] at h;rcases List.mem_append.mp h with z | z
  .obtain⟨b,hb,rfl⟩:=List.mem_map.mp z;exact⟨0,x,b,rfl,hb,rfl⟩
  .obtain⟨j,a,b,h1,h2,h3⟩:=nV z;exact⟨j + 1,a,b,by simpa using h1,h2,by rw [h3];congr 2;omega⟩
theorem lB {ins:Nat}(hr:RowsOk ins rows):∀ f ∈ cF ins rows outs,FltOk ins rows f /\ f ≠ .none:=by
 intro f hf;obtain⟨w,_,hw⟩:=List.mem_flatMap.mp hf;unfold bX at hw;rcases List.mem_append.mp hw with z | z
 .obtain⟨b,hb,rfl⟩:=List.mem_map.mp z;have h1:=wV hr hb;exact⟨⟨fun w b e=>(by cases e;exact h1),fun w l b e=>(by cases e),fun w l b k r e=>(by cases e)⟩,fun z=>(by cases z)⟩
 .obtain⟨j,a,b,h1,h2,rfl⟩:=nV z;have h3:=wV hr h2;refine⟨⟨fun w b e=>(by cases e),fun w l b e=>(by cases e;exact h3),fun w' l' b' k r e er ew=>?_⟩,fun z=>(by cases z)⟩;cases e;have hl:bB ins rows w=r.ws:=kW (by omega) (by rw [ew,show (((ins + k:Nat):Int) - (ins:Int)).toNat=k by omega];exact er);rw [hl] at h1;have:=(List.getElem?_eq_some_iff.mp h1).1;omega
noncomputable def dKT (ks:List Int):D:=.dk (ks.map Sum.inl) (ks.map fun _=>.bl true)
theorem inl_mem {ks:List Int}:(Sum.inl k:Key) ∈ ks.map Sum.inl ↔ k ∈ ks:=by
 constructor
 .intro h;obtain⟨a,ha,e⟩:=List.mem_map.mp h;cases e;exact ha
 .intro h;exact List.mem_map.mpr ⟨k,h,rfl⟩
theorem pH {ks:List Int}:tQ (Sum.inl k:Key) (ks.map Sum.inl)=decide (k ∈ ks):=by
 by_cases h:k ∈ ks
 .rw [memK_iff.mpr (inl_mem.mpr h),decide_eq_true h]
 .rw [decide_eq_false h,Bool.eq_false_iff];exact fun z=>h (inl_mem.mp (memK_iff.mp z))
theorem Z1l:N0 (ks.map Sum.inl) (Sum.inl k:Key)=(iW ks k).map Sum.inl:=by
 unfold N0 iW;by_cases h:k ∈ ks
 .rw [if_pos (inl_mem.mpr h),if_pos h]
 .rw [if_neg (fun z=>h (inl_mem.mp z)),if_neg h,List.map_append];rfl
theorem oU:∀ (ks:List Int),List.zipWith (fun (k':Key) (y:D)=>if k'=(Sum.inl k:Key) then D.bl true else y) (ks.map Sum.inl) (ks.map fun _=>D.bl true)=ks.map fun _=>D.bl true
 | []=>rfl
 | a :: ks=>by simp only [List.map_cons,List.zipWith_cons_cons,oU ks];split <;> rfl
theorem Z02:tG (ks.map Sum.inl) (ks.map fun _=>D.bl true) (Sum.inl k:Key) (.bl true)=(iW ks k).map fun _=>D.bl true:=by
 unfold tG iW;by_cases h:k ∈ ks
 .rw [if_pos (inl_mem.mpr h),if_pos h];exact oU ks
 .rw [if_neg (fun z=>h (inl_mem.mp z)),if_neg h,List.map_append];rfl
theorem Q2 (ks:List Int):flats (ks.map fun _=>D.bl true)=true:=iG fun d hd=>by
 obtain⟨_,_,rfl⟩:=List.mem_map.mp hd;rfl
theorem sZ (hv:fv env=some (.bl true)) (hi:env[i]? = some (some (true,dKT ks))) (hk:fk env=some (.int k)) (hl:ks.length < 1000) :
  tE i fk fv env=.next (env.set i (some (true,dKT (iW ks k)))):=by
 unfold tE dKT at *
 rw [hv,hi,hk];simp only [keyOf,Q2,PD.flat,List.length_map,hl,and_self,if_true,Z1l,Z02]
theorem E2:∀ (ks:List Int),inD (.int k) (ks.map D.int)=some (decide (k ∈ ks))
 | []=>rfl
 | a :: ks=>by
  simp only [List.map_cons,inD,eqN_int,E2 ks];by_cases h:a=k
  .subst h;simp
  .have h':¬ k=a:=fun z=>h z.symm;simp [h,h']
theorem Z25:inF (.int k) (LI ks)=some (decide (k ∈ ks)):=E2 ks
theorem A7 (hs:src env=some ds) (I:Nat->En->Prop) (h0:I 0 (fz rs env))
  (st:∀ i d env,ds[i]? = some d->I i env->∃ env1 env2,t d env=some env1 /\ g env1=.next env2 /\ I (i + 1) env2):∃ env',dR rs src t g env=.next env' /\ I ds.length env':=by
 obtain⟨env',h1,h2⟩:=Z0x I (fun i d e hd hI=>let ⟨e1,e2,a,b,c⟩:=st i d e hd hI;⟨e1,e2,a,.inl b,c⟩) h0;exact⟨env',Z5 hs h1,h2⟩
theorem iV:∀ {xs ks:List Int},(cE ks xs).length <= ks.length + xs.length
 | [],ks=>by simp [cE]
 | x :: xs,ks=>by
  have ih:=iV (xs:=xs) (ks:=iW ks x);have h:(iW ks x).length <= ks.length + 1:=by unfold iW;split <;> simp
  have e:cE ks (x :: xs)=cE (iW ks x) xs:=rfl;rw [e,List.length_cons];omega
theorem wE (hr:RowsOk ins rows) (ho:∀ a ∈ outs,0 <= a /\ a < ((ins + rows.length:Nat):Int)) (j:Nat):(eO ins rows outs j).length <= ins + rows.length :=
 jC _ _ (U6 hr ho j).nd ((U6 hr ho j).least _ ho fun a ha b hb=>by have:=iF hr hb;omega)
theorem wQ {l:List Int}(h:l[i]? = some w):(l.take (i + 1)).flatMap (bX ins rows)=(l.take i).flatMap (bX ins rows) ++ bX ins rows w:=by
 rw [bT h,List.flatMap_append];simp
theorem mK {l:List Int}(h:l[i]? = some a):bN ins rows w 0 (l.take (i + 1))=bN ins rows w 0 (l.take i) ++ (cN ins rows a).map (fun b=>Flt.leg w (i:Int) b):=by
 have hi:i < l.length:=(List.getElem?_eq_some_iff.mp h).1;rw [bT h,mL,List.length_take,Nat.zero_add,Nat.min_eq_left (by omega)]
theorem pS {rows:List Row}{k:Nat}(h:rows[k]? = some r) {a:Int}(e:a=(k:Int)):atI (rows.map Row.d) a=some r.d:=by
 subst e;exact iD (by simp [h])
theorem oR (h:env[i]? = some (some (true,d))) (hr:gO r env=some ds):gO (.inl i :: r) env=some (d :: ds):=by unfold gO;rw [h,hr]
theorem oQ (h:f env=some d) (hr:gO r env=some ds):gO (.inr f :: r) env=some (d :: ds):=by unfold gO;rw [h,hr]
theorem sY (h:gO is env=some ds) (hl:ds.length <= 1000):lE is env=.ret (.tup ds):=by unfold lE;rw [h];simp only [hl,if_true]
structure Z6A (ins:Nat) (rows:List Row) (outs:List Int) (j:Nat) (L:List Int):Prop where
 out:∀ a ∈ outs,a ∈ L
 cl:∀ a ∈ L,((ins + rows.length:Nat):Int) - (j:Int) <= a->∀ b ∈ bB ins rows a,b ∈ L
 least:∀ S:Int->Prop,(∀ a ∈ outs,S a)->(∀ a,S a->∀ b ∈ bB ins rows a,S b)->∀ a ∈ L,S a
theorem G0 (n:Nat):∀ (xs ys:List Int),xs.length=ys.length->eqL (eqN (n + 1)) (xs.map D.int) (ys.map D.int)=some (decide (xs=ys))
 | [],[],_=>by simp [eqL_nil]
 | [],_ :: _,h=>by cases h
 | _ :: _,[],h=>by cases h
 | x :: xs,y :: ys,h=>by
  have ih:=G0 n xs ys (by simpa using h);simp only [List.map_cons,eqL_cons,eqN_int,ih];by_cases h1:x=y
  .by_cases h2:xs=ys
   .simp [h1,h2]
   .simp [h1,h2]
  .simp [h1]
theorem Z4R (h:xs.length=ys.length):eqN (n + 2) (LI xs) (LI ys)=some (decide (xs=ys)):=by
 unfold LI;rw [W1,if_pos (by simpa using h)];exact G0 n xs ys h
theorem zH (φ ψ:α->D):∀ (xs:List α),nN (xs.map φ) (xs.map ψ)=xs.map fun x=>.tup [φ x,ψ x]
 | []=>rfl
 | x :: xs=>by simp only [List.map_cons,nN];rw [zH φ ψ xs]
noncomputable def top (i:Nat):Stmt:=PySem.Challenge.pw_stuckwire_k42_whole_shortest_rows.main.body.getD i (.Pass ⟨0,0,0,0⟩)
noncomputable abbrev kM:Stmt:=top 11
noncomputable abbrev lU:Stmt:=top 10
noncomputable abbrev kL:Stmt:=top 9
noncomputable abbrev pX:Stmt:=top 8
noncomputable abbrev xK:Stmt:=top 7
noncomputable abbrev kN:Stmt:=top 5
noncomputable abbrev iK:Stmt:=top 6
noncomputable abbrev dX:Stmt:=top 2
noncomputable abbrev qC:Stmt:=top 4
noncomputable abbrev bV:Stmt:=top 3
noncomputable abbrev kK:Stmt:=top 22
noncomputable abbrev sT:Stmt:=top 20
noncomputable abbrev gZ:Stmt:=top 23
noncomputable abbrev kO:Stmt:=top 21
noncomputable abbrev lZ:Stmt:=top 25
noncomputable abbrev nX:Stmt:=top 24
noncomputable abbrev sS:Stmt:=top 28
noncomputable abbrev lY:Stmt:=top 29
noncomputable abbrev oE:Stmt:=top 30
noncomputable abbrev bZ:Stmt:=top 33
noncomputable abbrev nY:Stmt:=top 32
noncomputable abbrev sW:Stmt:=top 31
noncomputable abbrev pY:Stmt:=top 35
noncomputable abbrev qA:Stmt:=top 36
noncomputable abbrev xJ:Stmt:=top 37
noncomputable abbrev lW:Stmt:=top 38
noncomputable abbrev sU:Stmt:=top 39
noncomputable abbrev oC:Stmt:=top 40
noncomputable abbrev nZ:Stmt:=top 41
noncomputable abbrev lV:Stmt:=top 42
noncomputable abbrev sV:Stmt:=top 43
noncomputable abbrev oA:Stmt:=top 44
noncomputable abbrev lX:Stmt:=top 45
noncomputable abbrev oB:Stmt:=top 46
noncomputable abbrev qB:Stmt:=top 47
noncomputable abbrev pZ:Stmt:=top 48
noncomputable abbrev iJ:Stmt:=top 49
noncomputable abbrev lD:Stmt:=top 50
noncomputable abbrev cA:Stmt:=Z3o (top 1) 0
noncomputable def fE (C:Addr):List D->Option D:=fun ds=>match ds with
 | [i,r,o]=>match (aV (aA 1)) [none,some (false,i),some (false,r),some (false,o)],(cC [] (dM (aA 2)) fTT (fB1 zE (aB (aA 0) aH))) [none,some (false,i),some (false,r),some (false,o)],(fB1 fX (aB (aA 3) aH)) [none,some (false,i),some (false,r),some (false,o)] with
  | some a,some b,some c=>some (.obj C ["ins","rows","outs"] [a,b,c])
  | _,_,_=>none
 | _=>none
noncomputable def iC (C:Addr):En->Res :=
  (aK (bI 3 (aV (fIx (aA 0) (fC (.int 0)))))
  (aK (rIf (fEq (aA 3) (fC (.str "fix"))) (bM (fI2 IntMulOk (fun i j=>.int (i * j)) (aA 2) (fIx (aA 0) (fC (.int 1))))) bD)
  (aK (rIf (fEq (aA 3) (fC (.str "not"))) (bM (fI0 (fun i j=>.int (Builtin.bitXor i j)) (aA 2) (fIx (aA 1) (fC (.int 0))))) bD)
  (aK (rIf (fEq (aA 3) (fC (.str "and"))) (bM (fI0 (fun i j=>.int (Builtin.bitAnd i j)) (fIx (aA 1) (fC (.int 0))) (fIx (aA 1) (fC (.int 1))))) bD)
  (aK (rIf (fEq (aA 3) (fC (.str "or"))) (bM (fI0 (fun i j=>.int (Builtin.bitOr i j)) (fIx (aA 1) (fC (.int 0))) (fIx (aA 1) (fC (.int 1))))) bD)
  (bM (fI0 (fun i j=>.int (Builtin.bitXor i j)) (fIx (aA 1) (fC (.int 0))) (fIx (aA 1) (fC (.int 1))))))))))
noncomputable def dL (C:Addr):List D->Option D:=runF 4 (iC C)
noncomputable def jI (C:Addr):En->Res :=
  (aK (rIf (fEq (fIx (aA 0) (fC (.int 0))) (fC (.str "fix"))) (bM (fY aH)) bD)
  (bM (fB1 fX (aB (fSl (aA 0) (fP (fC (.int 1))) vH) aH))))
noncomputable def cW (C:Addr):List D->Option D:=runF 1 (jI C)
noncomputable def fV (C:Addr):En->Res :=
  (aK (bI 5 (cC [2] (dM (aM (cW C) [] (aB (aA 0) aH))) fTT (aV (fIx (aA 1) (aA 0)))))
  (aK (rIf (iT (lM true (aA 4)) (iT (fEq (fIx (aA 4) (fC (.int 0))) (fC (.str "leg"))) (fEq (fIx (aA 4) (fC (.int 1))) (aA 1)))) (A6 5 (fIx (aA 4) (fC (.int 2))) (fI2 IntMulOk (fun i j=>.int (i * j)) (aA 3) (fIx (aA 4) (fC (.int 3))))) bD)
  (lF 5)))
noncomputable def cV (C:Addr):List D->Option D:=runF 6 (fV C)
noncomputable def kD (C:Addr):En->Res :=
  (aK (rIf (iT (lM true (aA 3)) (iT (fEq (fIx (aA 3) (fC (.int 0))) (fC (.str "wire"))) (fEq (fIx (aA 3) (fC (.int 1))) (aA 1)))) (bM (fI2 IntMulOk (fun i j=>.int (i * j)) (aA 2) (fIx (aA 3) (fC (.int 2))))) bD)
  (bM (aV (aA 0))))
noncomputable def dY (C:Addr):List D->Option D:=runF 4 (kD C)
noncomputable def V6 (C:Addr):En->Res :=
  (aK (bI 4 (fY aH))
  (aK (dR [1] (dM (aA 1)) (gtN 5) (fI 4 (aM (dY C) [] (aB (aA 5) (aB (fB1 cD (aB (aA 4) aH)) (aB (aA 2) (aB (aA 3) aH)))))))
  (aK (dR [0] (dM (fK C "rows" (aA 0))) (gtN 6) (aK (bI 7 (fB1 cD (aB (aA 4) aH)))
  (aK (bI 8 (aM (cV C) [] (aB (aA 6) (aB (aA 7) (aB (aA 4) (aB (aA 2) (aB (aA 3) aH)))))))
  (fI 4 (aM (dY C) [] (aB (aM (dL C) [] (aB (aA 6) (aB (aA 8) (aB (aA 2) aH)))) (aB (aA 7) (aB (aA 2) (aB (aA 3) aH)))))))))
  (lF 4))))
noncomputable def sA (C:Addr):List D->Option D:=runF 9 (V6 C)
noncomputable def pM (C:Addr):En->Res :=
  (bM (fI0 (fun i j=>.int (i - j)) (fI2 cO (fun i j=>.int (i * 2 ^ j.toNat)) (fC (.int 1)) (fI2 cO (fun i j=>.int (i * 2 ^ j.toNat)) (fC (.int 1)) (aA 0))) (fC (.int 1))))
noncomputable def bW (C:Addr):List D->Option D:=runF 1 (pM C)
noncomputable def mO (C:Addr):En->Res :=
  (aK (bI 1 (fY aH))
  (aK (dR [] (sB1 eQ (aB (aA 0) aH)) (gtN 2) (aK (bI 3 (fI2 cO (fun i j=>.int (i * 2 ^ j.toNat)) (fC (.int 1)) (aA 2)))
  (aK (bI 1 (cC [3] (dM (aA 1)) fTT (fI0 (fun i j=>.int (Builtin.bitOr i j)) (aA 0) (fI2 cO (fun i j=>.int (i * 2 ^ j.toNat)) (aA 0) (aA 1)))))
  (fI 1 (fI2 cO (fun i j=>.int (i * 2 ^ j.toNat)) (aM (bW C) [] (aB (aA 2) aH)) (aA 3))))))
  (lF 1)))
noncomputable def fS (C:Addr):List D->Option D:=runF 4 (mO C)
noncomputable def Z27 (C:Addr):En->Res :=
  (bM (aM (sA C) [] (aB (aA 0) (aB (aM (fS C) [] (aB (fK C "ins" (aA 0)) aH)) (aB (aM (bW C) [] (aB (fK C "ins" (aA 0)) aH)) (aB (aA 1) aH))))))
noncomputable def iO (C:Addr):List D->Option D:=runF 2 (Z27 C)
noncomputable def Z0v (C:Addr):En->Res :=
  (bM (cC [1] (dM (fK C "outs" (aA 0))) fTT (aV (fIx (aA 1) (aA 0)))))
noncomputable def nB (C:Addr):List D->Option D:=runF 2 (Z0v C)
noncomputable def yN (C:Addr):En->Res :=
  (bM (aM (nB C) [] (aB (aA 0) (aB (aM (iO C) [] (aB (aA 0) (aB (aA 1) aH))) aH))))
noncomputable def cK (C:Addr):List D->Option D:=runF 2 (yN C)
noncomputable def kZ (C:Addr):En->Res :=
  (aK (rIf (fBI (fun i j=>decide (i < j)) (aA 1) (fK C "ins" (aA 0))) (bM (fY aH)) bD)
  (bM (aM (cW C) [] (aB (fIx (fK C "rows" (aA 0)) (fI0 (fun i j=>.int (i - j)) (aA 1) (fK C "ins" (aA 0)))) aH))))
noncomputable def cJ (C:Addr):List D->Option D:=runF 2 (kZ C)
noncomputable def E7 (C:Addr):En->Res :=
  (aK (bI 1 (fC (.dk [] [])))
  (aK (dR [0] (dM (fK C "outs" (aA 0))) (gtN 2) (tE 1 (aA 2) (fC (.bl true))))
  (aK (dR [] (sB1 K4 (aB (fI0 (fun i j=>.int (i - j)) (fI0 (fun i j=>.int (i + j)) (fK C "ins" (aA 0)) (fB1 cD (aB (fK C "rows" (aA 0)) aH))) (fC (.int 1))) (aB (fI0 (fun i j=>.int (i - j)) (fK C "ins" (aA 0)) (fC (.int 1))) (aB (fC (.int (-1))) aH)))) (gtN 3) (rIf (Q3 (aA 3) (aA 1)) (dR [] (dM (aM (cJ C) [] (aB (aA 0) (aB (aA 3) aH)))) (gtN 4) (tE 1 (aA 4) (fC (.bl true)))) bD))
  (bM (fB1 zG (aB (aA 1) aH))))))
noncomputable def pI (C:Addr):List D->Option D:=runF 5 (E7 C)
noncomputable def hJ (C:Addr):En->Res :=
  (aK (rIf (iT (fBI (fun i j=>decide (j <= i)) (aA 1) (fK C "ins" (aA 0))) (fEq (fIx (fIx (fK C "rows" (aA 0)) (fI0 (fun i j=>.int (i - j)) (aA 1) (fK C "ins" (aA 0)))) (fC (.int 0))) (fC (.str "fix")))) (bM (fY (aB (fI0 (fun i j=>.int (i - j)) (fC (.int 1)) (fIx (fIx (fK C "rows" (aA 0)) (fI0 (fun i j=>.int (i - j)) (aA 1) (fK C "ins" (aA 0)))) (fC (.int 1)))) aH))) bD)
  (bM (fY (aB (fC (.int 0)) (aB (fC (.int 1)) aH)))))
noncomputable def bF (C:Addr):List D->Option D:=runF 2 (hJ C)
noncomputable def pN (C:Addr):En->Res :=
  (aK (bI 1 (fY aH))
  (aK (dR [] (dM (aM (pI C) [] (aB (aA 0) aH))) (gtN 2) (aK (dR [] (dM (aM (bF C) [] (aB (aA 0) (aB (aA 2) aH)))) (gtN 3) (fI 1 (fJ (aB (fC (.str "wire")) (aB (aV (aA 2)) (aB (aV (aA 3)) aH))))))
  (dR [] (sB1 mU (aB (aM (cJ C) [] (aB (aA 0) (aB (aA 2) aH))) aH)) (gtT [4,5]) (dR [] (dM (aM (bF C) [] (aB (aA 0) (aB (aA 5) aH)))) (gtN 3) (fI 1 (fJ (aB (fC (.str "leg")) (aB (aV (aA 2)) (aB (aV (aA 4)) (aB (aV (aA 3)) aH))))))))))
  (lF 1)))
noncomputable def iB (C:Addr):List D->Option D:=runF 6 (pN C)
noncomputable def rK (C:Addr):En->Res :=
  (aK (bI 2 (fC (.int 0)))
  (aK (dR [0,1] (sB1 Z0P (aB (aA 0) (aB (aA 1) aH))) (gtT [3,4]) (bI 2 (fI0 (fun i j=>.int (Builtin.bitOr i j)) (aA 2) (fI0 (fun i j=>.int (Builtin.bitXor i j)) (aA 3) (aA 4)))))
  (bM (aV (aA 2)))))
noncomputable def jF (C:Addr):List D->Option D:=runF 5 (rK C)
noncomputable def tW (C:Addr):En->Res :=
  (aK (bI 2 (aM (cK C) [.non] (aB (aA 0) aH)))
  (bM (cC [2,0] (dM (aA 1)) fTT (aM (jF C) [] (aB (aA 1) (aB (aM (cK C) [] (aB (aA 2) (aB (aA 0) aH))) aH))))))
noncomputable def kU (C:Addr):List D->Option D:=runF 3 (tW C)
noncomputable def E6 (C:Addr):En->Res :=
  (aK (bI 1 (fC (.dk [] [])))
  (aK (bI 2 (aM (iB C) [] (aB (aA 0) aH)))
  (aK (dR [2] (sB1 Z0P (aB (aA 2) (aB (aM (kU C) [] (aB (aA 0) (aB (aA 2) aH))) aH))) (gtT [3,4]) (rIf (cR (fEq (aA 4) (fC (.int 0)))) (Z2K 1 (aA 4) (aA 3)) bD))
  (lF 1))))
noncomputable def mH (C:Addr):List D->Option D:=runF 5 (E6 C)
noncomputable def E9 (C:Addr):En->Res :=
  (bM (cC [0] (sB1 eQ (aB (uE (aA 0)) aH)) (fEq (fI0 (fun i j=>.int (Builtin.bitAnd i j)) (fI2 (fun _ j=>0 <= j) (fun i j=>.int (i / 2 ^ j.toNat)) (aA 1) (aA 0)) (fC (.int 1))) (fC (.int 1))) (aV (aA 0))))
noncomputable def dJ (C:Addr):List D->Option D:=runF 1 (E9 C)
noncomputable def P9 (C:Addr):En->Res :=
  (bM (fB1 Z3D (aB (jP [0] 1 fTT (hU (cR (fEq (fI0 (fun i j=>.int (Builtin.bitAnd i j)) (aA 0) (aA 1)) (fC (.int 0)))))) aH)))
noncomputable def gK (C:Addr):List D->Option D:=runF 2 (P9 C)
noncomputable abbrev l_lam:Expr:=kwE (Z6v ((bQ bZ).getD 1 (.Pass ⟨0,0,0,0⟩)))
noncomputable abbrev q_lam:Str:=("paper_for" ++ ".<locals>.") ++ "<lambda>"
noncomputable def gX (C:Addr) (self:List D->Option D):En->Res :=
  (aK (bI 3 (jP [1] 0 (fEq (fI0 (fun i j=>.int (Builtin.bitAnd i j)) (aA 0) (aA 1)) (fC (.int 0))) (aV (aA 0))))
  (aK (bI 4 (F6 (aA 3) (fB1 cD (aB (aM (dJ C) [] (aB (aA 0) aH)) aH))))
  (aK (bI 5 (fY aH))
  (aK (rIf (fBI (fun i j=>decide (j < i)) (aA 2) (fC (.int 0))) (dR [] (dM (aM (dJ C) [] (aB (aA 4) aH))) (gtN 6) (fI 5 (fJ (aB (aV (aA 6)) (aB (aM self [] (aB (aA 0) (aB (fI0 (fun i j=>.int (Builtin.bitOr i j)) (aA 1) (fI2 cO (fun i j=>.int (i * 2 ^ j.toNat)) (fC (.int 1)) (aA 6))) (aB (fI0 (fun i j=>.int (i - j)) (aA 2) (fC (.int 1))) aH)))) aH))))) bD)
  (lE (.inr (wS (aA 0) (aA 4)) :: (.inl 5 :: [])))))))
noncomputable def bU (C:Addr):Nat->List D->Option D
 | 0=>fun _=>none
 | j + 1=>runF 7 (gX C (bU C j))
noncomputable def tX (C:Addr):En->Res :=
  (aK (bI 2 (cC [1] (sB1 eQ (aB (fI0 (fun i j=>.int (i + j)) (aM (bW C) [] (aB (aA 0) aH)) (fC (.int 1))) aH)) (fB (aM (gK C) [] (aB (aA 0) (aB (aA 1) aH)))) (aM (dJ C) [] (aB (aA 0) aH))))
  (pD 2))
noncomputable def gG (C:Addr):List D->Option D:=runF 3 (tX C)
noncomputable def mP (C CE:Addr):En->Res :=
  (aK (rIf (fBI (fun i j=>decide (j < i)) (fK C "ins" (aA 0)) (fC (.int 3))) (Z5o CE) bD)
  (Z2L (aK (bI 1 (aM (mH C) [] (aB (aA 0) aH)))
  (aK (bI 2 (aM (gG C) [] (aB (fK C "ins" (aA 0)) (aB (aA 1) aH))))
  (aK (rIf (fEq (aA 2) (fY aH)) (lE (.inl 2 :: (.inr (fC .non) :: []))) bD)
  (lE (.inl 2 :: (.inr (aM (bU C 9) [] (aB (aA 1) (aB (fC (.int 0)) (aB (fI0 (fun i j=>.int (i - j)) (fB1 cD (aB (aA 2) aH)) (fC (.int 1))) aH)))) :: []))))))))
noncomputable def gW (C CE:Addr):List D->Option D:=runF 3 (mP C CE)
noncomputable def wO (C:Addr):En->Res :=
  (bM (hU (iT (fB (qU "int" (aA 0))) (fB (hU (cR (fB (qU "bool" (aA 0)))))))))
noncomputable def dZ (C:Addr):List D->Option D:=runF 1 (wO C)
noncomputable def qT (C:Addr):En->Res :=
  (aK (rIf (fBI (fun i j=>decide (j <= i)) (aA 0) (fI2 Z3E (fun i j=>.int (i ^ j.toNat)) (fC (.int 10)) (fC (.int 40)))) (bM (fI2 (fun _ j=>0 < j) (fun i j=>.int (i % j)) (fI2 cG (fun i j=>.int (i / j)) (fI0 (fun i j=>.int (i - j)) (aA 0) (fI2 Z3E (fun i j=>.int (i ^ j.toNat)) (fC (.int 10)) (fC (.int 40)))) (fI2 cO (fun i j=>.int (i * 2 ^ j.toNat)) (fC (.int 1)) (fI2 IntMulOk (fun i j=>.int (i * j)) (fC (.int 31)) (fI2 (fun _ j=>0 < j) (fun i j=>.int (i % j)) (aA 1) (fC (.int 60)))))) (fI2 cO (fun i j=>.int (i * 2 ^ j.toNat)) (fC (.int 1)) (fC (.int 31))))) bD)
  (aK (bI 2 (fI2 (fun _ j=>0 < j) (fun i j=>.int (i % j)) (fI2 IntMulOk (fun i j=>.int (i * j)) (fI0 (fun i j=>.int (i + j)) (fI0 (fun i j=>.int (i + j)) (fI0 (fun i j=>.int (i + j)) (fI2 IntMulOk (fun i j=>.int (i * j)) (aA 0) (aA 0)) (fI2 IntMulOk (fun i j=>.int (i * j)) (fC (.int 3)) (aA 0))) (fI2 IntMulOk (fun i j=>.int (i * j)) (fC (.int 7919)) (aA 1))) (fC (.int 1))) (fC (.int 48271))) (fC (.int 2147483629))))
  (bM (fI2 (fun _ j=>0 < j) (fun i j=>.int (i % j)) (fI0 (fun i j=>.int (i + j)) (fI2 IntMulOk (fun i j=>.int (i * j)) (aA 2) (aA 2)) (fC (.int 7))) (fC (.int 2147483587))))))
noncomputable def eZ (C:Addr):List D->Option D:=runF 3 (qT C)
noncomputable def V5 (C:Addr):En->Res :=
  (aK (bI 3 (fI2 (fun _ j=>0 < j) (fun i j=>.int (i % j)) (fI2 cG (fun i j=>.int (i / j)) (aA 0) (fC (.int 11))) (aA 1)))
  (aK (bI 4 (fI2 (fun _ j=>0 < j) (fun i j=>.int (i % j)) (fI2 cG (fun i j=>.int (i / j)) (aA 0) (fC (.int 1009))) (aA 1)))
  (aK (rIf (iT (fB (aA 2)) (fEq (fI2 (fun _ j=>0 < j) (fun i j=>.int (i % j)) (fI2 cG (fun i j=>.int (i / j)) (aA 0) (fC (.int 7))) (fC (.int 2))) (fC (.int 1)))) (bI 3 (fI0 (fun i j=>.int (i - j)) (fI0 (fun i j=>.int (i - j)) (aA 1) (fC (.int 1))) (fI2 (fun _ j=>0 < j) (fun i j=>.int (i % j)) (fI2 cG (fun i j=>.int (i / j)) (aA 0) (fC (.int 13))) (fB1 Z3C (aB (aA 1) (aB (fC (.int 3)) aH)))))) bD)
  (aK (bI 5 (fI2 (fun _ j=>0 < j) (fun i j=>.int (i % j)) (aA 0) (fC (.int 11))))
  (aK (rIf (fEq (aA 5) (fC (.int 0))) (bM (fJ (aB (fC (.str "fix")) (aB (fI2 (fun _ j=>0 < j) (fun i j=>.int (i % j)) (fI2 cG (fun i j=>.int (i / j)) (aA 0) (fC (.int 5))) (fC (.int 2))) aH)))) bD)
  (aK (rIf (fBI (fun i j=>decide (i < j)) (aA 5) (fC (.int 3))) (bM (fJ (aB (fC (.str "not")) (aB (aV (aA 3)) aH)))) bD)
  (bM (fJ (aB (aV (fIx (fY (aB (fC (.str "and")) (aB (fC (.str "or")) (aB (fC (.str "xor")) (aB (fC (.str "and")) (aB (fC (.str "or")) aH)))))) (fI2 (fun _ j=>0 < j) (fun i j=>.int (i % j)) (aA 5) (fC (.int 5))))) (aB (aV (aA 3)) (aB (aV (aA 4)) aH)))))))))))
noncomputable def nA (C:Addr):List D->Option D:=runF 6 (V5 C)
noncomputable def rJ (C:Addr):En->Res :=
  (aK (bI 4 (fY aH))
  (aK (dR [] (sB1 mU (aB (fSl (aA 0) vH (fP (aA 2))) aH)) (gtT [5,6]) (aK (bI 7 (aM (eZ C) [] (aB (aA 6) (aB (aA 5) aH))))
  (rIf (fEq (fI0 (fun i j=>.int (i + j)) (aA 1) (fB1 cD (aB (aA 4) aH))) (fC (.int 0))) (fI 4 (fJ (aB (fC (.str "fix")) (aB (fI2 (fun _ j=>0 < j) (fun i j=>.int (i % j)) (aA 7) (fC (.int 2))) aH)))) (fI 4 (aM (nA C) [] (aB (aA 7) (aB (fI0 (fun i j=>.int (i + j)) (aA 1) (fB1 cD (aB (aA 4) aH))) (aB (hU (fEq (fI2 (fun _ j=>0 < j) (fun i j=>.int (i % j)) (aA 6) (fC (.int 2))) (fC (.int 0)))) aH))))))))
  (aK (rIf (fEq (fI0 (fun i j=>.int (i + j)) (aA 1) (fB1 cD (aB (aA 4) aH))) (fC (.int 0))) (fI 4 (fJ (aB (fC (.str "fix")) (aB (fC (.int 1)) aH)))) bD)
  (aK (bI 8 (fI0 (fun i j=>.int (i - j)) (fI0 (fun i j=>.int (i + j)) (aA 1) (fB1 cD (aB (aA 4) aH))) (fC (.int 1))))
  (aK (bI 9 (fY aH))
  (aK (dR [] (sB1 eQ (aB (fI0 (fun i j=>.int (i + j)) (aA 3) (fC (.int 1))) aH)) (gtN 5) (aK (bI 7 (aM (eZ C) [] (aB (fI0 (fun i j=>.int (i + j)) (fB1 zF (aB (fSl (aA 0) vH (fP (fC (.int 9)))) aH)) (fC (.int 5))) (aB (aA 5) aH))))
  (fI 9 (aV (fIx (fY (aB (aV (aA 8)) (aB (fI2 (fun _ j=>0 < j) (fun i j=>.int (i % j)) (fI2 cG (fun i j=>.int (i / j)) (aA 7) (fC (.int 3))) (fI0 (fun i j=>.int (i + j)) (aA 8) (fC (.int 1)))) aH))) (fB1 Q9 (aB (hU (fOr (fB (fI0 (fun i j=>.bl (decide (j < i))) (fI2 (fun _ j=>0 < j) (fun i j=>.int (i % j)) (aA 7) (fC (.int 3))) (fC (.int 0)))) (fB (fI0 (fun i j=>.bl (decide (j < i))) (aA 5) (fC (.int 0)))))) aH)))))))
  (A5 4 9)))))))
noncomputable def fD (C:Addr):List D->Option D:=runF 10 (rJ C)
noncomputable def E8 (C:Addr):En->Res :=
  (aK (rIf (iT (lM true (aA 4)) (fEq (aA 4) (fJ (aB (fC (.str "leg")) (aB (aA 2) (aB (aA 3) (aB (fIx (aA 4) (fC (.int (-1)))) aH))))))) (bM (fI2 IntMulOk (fun i j=>.int (i * j)) (fIx (aA 4) (fC (.int (-1)))) (aA 5))) bD)
  (bM (aV (fIx (aA 0) (fIx (aA 1) (fI0 (fun i j=>.int (i + j)) (fC (.int 1)) (aA 3)))))))
noncomputable def mI (C:Addr):List D->Option D:=runF 6 (E8 C)
noncomputable def lA (C:Addr):En->Res :=
  (aK (rIf (fEq (fIx (aA 1) (fC (.int 0))) (fC (.str "fix"))) (bM (fI2 IntMulOk (fun i j=>.int (i * j)) (fIx (aA 1) (fC (.int 1))) (aA 4))) bD)
  (aK (bI 5 (aM (mI C) [] (aB (aA 0) (aB (aA 1) (aB (aA 2) (aB (fC (.int 0)) (aB (aA 3) (aB (aA 4) aH))))))))
  (aK (rIf (fEq (fIx (aA 1) (fC (.int 0))) (fC (.str "not"))) (bM (fI0 (fun i j=>.int (i - j)) (aA 4) (aA 5))) bD)
  (aK (bI 6 (aM (mI C) [] (aB (aA 0) (aB (aA 1) (aB (aA 2) (aB (fC (.int 1)) (aB (aA 3) (aB (aA 4) aH))))))))
  (aK (rIf (fEq (fIx (aA 1) (fC (.int 0))) (fC (.str "and"))) (bM (fI0 (fun i j=>.int (Builtin.bitAnd i j)) (aA 5) (aA 6))) bD)
  (aK (rIf (fEq (fIx (aA 1) (fC (.int 0))) (fC (.str "or"))) (bM (fI0 (fun i j=>.int (Builtin.bitOr i j)) (aA 5) (aA 6))) bD)
  (bM (fI0 (fun i j=>.int (Builtin.bitXor i j)) (aA 5) (aA 6)))))))))
noncomputable def eT (C:Addr):List D->Option D:=runF 7 (lA C)
noncomputable def tY (C:Addr):En->Res :=
  (aK (bI 3 (fI0 (fun i j=>.int (i - j)) (fI2 cO (fun i j=>.int (i * 2 ^ j.toNat)) (fC (.int 1)) (fI2 cO (fun i j=>.int (i * 2 ^ j.toNat)) (fC (.int 1)) (aA 0))) (fC (.int 1))))
  (aK (bI 4 (fY aH))
  (aK (dR [] (sB1 eQ (aB (fI0 (fun i j=>.int (i + j)) (aA 0) (fB1 cD (aB (aA 1) aH))) aH)) (gtN 5) (aK (rIf (fBI (fun i j=>decide (i < j)) (aA 5) (aA 0)) (fI 4 (fB1 zF (aB (cC [5] (sB1 eQ (aB (fI2 cO (fun i j=>.int (i * 2 ^ j.toNat)) (fC (.int 1)) (aA 0)) aH)) (fEq (fI2 (fun _ j=>0 < j) (fun i j=>.int (i % j)) (fI2 cG (fun i j=>.int (i / j)) (aA 0) (fI2 cO (fun i j=>.int (i * 2 ^ j.toNat)) (fC (.int 1)) (aA 1))) (fC (.int 2))) (fC (.int 1))) (fI2 cO (fun i j=>.int (i * 2 ^ j.toNat)) (fC (.int 1)) (aA 0))) aH))) (fI 4 (aM (eT C) [] (aB (aA 4) (aB (fIx (aA 1) (fI0 (fun i j=>.int (i - j)) (aA 5) (aA 0))) (aB (aA 5) (aB (aA 2) (aB (aA 3) aH))))))))
  (rIf (iT (lM true (aA 2)) (iT (fEq (fIx (aA 2) (fC (.int 0))) (fC (.str "wire"))) (fEq (fIx (aA 2) (fC (.int 1))) (aA 5)))) (A6 4 (aA 5) (fI2 IntMulOk (fun i j=>.int (i * j)) (fIx (aA 2) (fC (.int 2))) (aA 3))) bD)))
  (lF 4))))
noncomputable def gH (C:Addr):List D->Option D:=runF 6 (tY C)
noncomputable def rH (C:Addr):En->Res :=
  (aK (bI 4 (aM (gH C) [] (aB (aA 0) (aB (aA 1) (aB (fC .non) aH)))))
  (aK (bI 5 (aM (gH C) [] (aB (aA 0) (aB (aA 1) (aB (aA 3) aH)))))
  (aK (bI 6 (fC (.int 0)))
  (aK (dR [2] (dM (aA 2)) (gtN 7) (bI 6 (fI0 (fun i j=>.int (Builtin.bitOr i j)) (aA 6) (fI0 (fun i j=>.int (Builtin.bitXor i j)) (fIx (aA 4) (aA 7)) (fIx (aA 5) (aA 7))))))
  (bM (aV (aA 6)))))))
noncomputable def eJ (C:Addr):List D->Option D:=runF 8 (rH C)
noncomputable def uA (C:Addr):En->Res :=
  (aK (rIf (fOr (fBI (fun i j=>decide (i < j)) (aA 2) (aA 0)) (fEq (fIx (fIx (aA 1) (fI0 (fun i j=>.int (i - j)) (aA 2) (aA 0))) (fC (.int 0))) (fC (.str "fix")))) (bM (fY aH)) bD)
  (bM (fB1 fX (aB (fSl (fIx (aA 1) (fI0 (fun i j=>.int (i - j)) (aA 2) (aA 0))) (fP (fC (.int 1))) vH) aH))))
noncomputable def iQ (C:Addr):List D->Option D:=runF 3 (uA C)
noncomputable def tZ (C:Addr):En->Res :=
  (aK (bI 3 (fY aH))
  (aK (dR [2] (dM (aA 2)) (gtN 4) (rIf (cR (fIn (aA 4) (aA 3))) (fI 3 (aV (aA 4))) bD))
  (aK (bI 5 (fC (.int 0)))
  (aK (rWh (fBI (fun i j=>decide (i < j)) (aA 5) (fB1 cD (aB (aA 3) aH))) (aK (dR [] (dM (aM (iQ C) [] (aB (aA 0) (aB (aA 1) (aB (fIx (aA 3) (aA 5)) aH))))) (gtN 6) (rIf (cR (fIn (aA 6) (aA 3))) (fI 3 (aV (aA 6))) bD))
  (bI 5 (fI0 (fun i j=>.int (i + j)) (aA 5) (fC (.int 1))))))
  (bM (fB1 sD (aB (aA 3) aH)))))))
noncomputable def iP (C:Addr):List D->Option D:=runF 7 (tZ C)
noncomputable def mM (C:Addr):En->Res :=
  (aK (rIf (iT (fBI (fun i j=>decide (j <= i)) (aA 2) (aA 0)) (fEq (fIx (fIx (aA 1) (fI0 (fun i j=>.int (i - j)) (aA 2) (aA 0))) (fC (.int 0))) (fC (.str "fix")))) (bM (fY (aB (fI0 (fun i j=>.int (i - j)) (fC (.int 1)) (fIx (fIx (aA 1) (fI0 (fun i j=>.int (i - j)) (aA 2) (aA 0))) (fC (.int 1)))) aH))) bD)
  (bM (fY (aB (fC (.int 0)) (aB (fC (.int 1)) aH)))))
noncomputable def dS (C:Addr):List D->Option D:=runF 3 (mM C)
noncomputable def uB (C:Addr):En->Res :=
  (aK (bI 3 (fY aH))
  (aK (dR [] (dM (aM (iP C) [] (aB (aA 0) (aB (aA 1) (aB (aA 2) aH))))) (gtN 4) (aK (kP 3 3 (cC [4] (dM (aM (dS C) [] (aB (aA 0) (aB (aA 1) (aB (aA 4) aH))))) fTT (fJ (aB (fC (.str "wire")) (aB (aV (aA 1)) (aB (aV (aA 0)) aH))))))
  (dR [] (sB1 mU (aB (aM (iQ C) [] (aB (aA 0) (aB (aA 1) (aB (aA 4) aH)))) aH)) (gtT [5,6]) (kP 3 3 (cC [4,5] (dM (aM (dS C) [] (aB (aA 0) (aB (aA 1) (aB (aA 6) aH))))) fTT (fJ (aB (fC (.str "leg")) (aB (aV (aA 1)) (aB (aV (aA 2)) (aB (aV (aA 0)) aH))))))))))
  (lF 3)))
noncomputable def gJ (C:Addr):List D->Option D:=runF 7 (uB C)
noncomputable def kE (C CE:Addr):En->Res :=
  (aK (bI 1 (fC .non))
  (aK (bI 2 (fC .non))
  (aK (xM 1 2 3 CE (gW C CE) [] (aB (aA 0) aH))
  (aK (rIf (lM false (aA 2)) (lF 1) bD)
  (aK (rIf (fOr (fB (F7 CE false (aA 2))) (cR (fB (F7 CE true (aA 2))))) (bM (fC .non)) bD)
  (bM (fC (.str "great"))))))))
noncomputable def kA (C CE:Addr):List D->Option D:=runF 4 (kE C CE)
noncomputable def nJ (C:Addr) (self:List D->Option D):En->Res :=
  (aK (rIf (fOr (cR (fB (qU "tuple" (aA 0)))) (fOr (cR (fEq (fB1 cD (aB (aA 0) aH)) (fC (.int 2)))) (cR (fB (qU "list" (fIx (aA 0) (fC (.int 1)))))))) (bM (fC (.bl false))) bD)
  (aK (bI 4 (fC (.int 0)))
  (aK (dR [1] (dM (aA 1)) (gtT [5,6]) (rIf (fEq (aA 5) (fIx (aA 0) (fC (.int 0)))) (bI 4 (aV (aA 6))) bD))
  (aK (rIf (fOr (fEq (aA 4) (fC (.int 0))) (cR (fEq (fI0 (fun i j=>.int (Builtin.bitAnd i j)) (aA 4) (aA 2)) (fC (.int 0))))) (bM (fC (.bl false))) bD)
  (aK (rIf (fEq (aA 3) (fC (.int 0))) (bM (hU (fEq (fB1 cD (aB (fIx (aA 0) (fC (.int 1))) aH)) (fC (.int 0))))) bD)
  (aK (bI 7 (cC [4] (sB1 eQ (aB (fC (.int 8)) aH)) (fEq (fI0 (fun i j=>.int (Builtin.bitAnd i j)) (fI2 (fun _ j=>0 <= j) (fun i j=>.int (i / 2 ^ j.toNat)) (aA 1) (aA 0)) (fC (.int 1))) (fC (.int 1))) (aV (aA 0))))
  (aK (rIf (cR (fEq (fB1 cD (aB (fIx (aA 0) (fC (.int 1))) aH)) (fB1 cD (aB (aA 7) aH)))) (bM (fC (.bl false))) bD)
  (aK (dR [] (sB1 eQ (aB (fB1 cD (aB (aA 7) aH)) aH)) (gtN 8) (aK (A3 9 [0] (fIx (fIx (aA 0) (fC (.int 1))) (aA 8)))
  (aK (rIf (fOr (cR (fB (qU "tuple" (aA 9)))) (fOr (cR (fEq (fB1 cD (aB (aA 9) aH)) (fC (.int 2)))) (fOr (cR (fB (aM (dZ C) [] (aB (fIx (aA 9) (fC (.int 0))) aH)))) (cR (fEq (fIx (aA 9) (fC (.int 0))) (fIx (aA 7) (aA 8))))))) (bM (fC (.bl false))) bD)
  (rIf (cR (fB (aM self [] (aB (fIx (aA 9) (fC (.int 1))) (aB (aA 1) (aB (fI0 (fun i j=>.int (Builtin.bitOr i j)) (aA 2) (fI2 cO (fun i j=>.int (i * 2 ^ j.toNat)) (fC (.int 1)) (fIx (aA 7) (aA 8)))) (aB (fI0 (fun i j=>.int (i - j)) (aA 3) (fC (.int 1))) aH))))))) (bM (fC (.bl false))) bD))))
  (bM (fC (.bl true)))))))))))
noncomputable def eL (C:Addr):Nat->List D->Option D
 | 0=>fun _=>none
 | j + 1=>runF 10 (nJ C (eL C j))
noncomputable def iS (C:Addr):En->Res :=
  (aK (rIf (cR (fB (qU "list" (aA 0)))) (bM (fC (.bl false))) bD)
  (aK (bI 3 (fC (.int (-1))))
  (aK (bI 4 (fC (.int 0)))
  (aK (dR [0] (dM (aA 0)) (gtN 5) (aK (rIf (fOr (cR (fB (aM (dZ C) [] (aB (aA 5) aH)))) (fOr (fBI (fun i j=>decide (i <= j)) (aA 5) (aA 3)) (fBI (fun i j=>decide (j <= i)) (aA 5) (fI2 cO (fun i j=>.int (i * 2 ^ j.toNat)) (fC (.int 1)) (aA 2))))) (bM (fC (.bl false))) bD)
  (aK (bI 3 (aV (aA 5)))
  (bI 4 (fI0 (fun i j=>.int (Builtin.bitOr i j)) (aA 4) (fI2 cO (fun i j=>.int (i * 2 ^ j.toNat)) (fC (.int 1)) (aA 5)))))))
  (bM (hU (fEq (fB1 cD (aB (cC [4] (dM (aA 1)) (un2 (iT (fBI (fun i j=>decide (j < i)) (aA 1) (fC (.int 0))) (fEq (fI0 (fun i j=>.int (Builtin.bitAnd i j)) (aA 1) (aA 2)) (fC (.int 0))))) (un2 (fC (.int 1)))) aH)) (fC (.int 0)))))))))
noncomputable def fR (C:Addr):List D->Option D:=runF 6 (iS C)
noncomputable def Z3P (C CE:Addr):En->Res :=
  (aK (bI 1 (fSl (aA 0) vH (fP (fC (.int 14)))))
  (aK (bI 2 (fC (.int 3)))
  (aK (rIf (fBI (fun i j=>decide (j < i)) (fB1 cD (aB (aA 1) aH)) (fC (.int 0))) (bI 2 (fB1 zF (aB (fSl (aA 0) vH (fP (fC (.int 63)))) aH))) bD)
  (aK (bI 3 (fI2 (fun _ j=>0 < j) (fun i j=>.int (i % j)) (aA 2) (fC (.int 4))))
  (aK (rIf (fEq (fI2 (fun _ j=>0 < j) (fun i j=>.int (i % j)) (fI2 cG (fun i j=>.int (i / j)) (aA 2) (fC (.int 4))) (fC (.int 8))) (fC (.int 1))) (bI 3 (fI0 (fun i j=>.int (i + j)) (fC (.int 4)) (fI2 (fun _ j=>0 < j) (fun i j=>.int (i % j)) (fI2 cG (fun i j=>.int (i / j)) (aA 2) (fC (.int 32))) (fC (.int 5))))) bD)
  (aK (Z4 [] (gtT [4,5]) (aM (fD C) [] (aB (aA 1) (aB (aA 3) (aB (fC (.int 14)) (aB (fI2 (fun _ j=>0 < j) (fun i j=>.int (i % j)) (fI2 cG (fun i j=>.int (i / j)) (aA 2) (fC (.int 5))) (fC (.int 5))) aH))))))
  (aK (bI 6 (aM (kA C CE) [] (aB (fB1 (fE C) (aB (aA 3) (aB (fB1 fX (aB (aA 4) aH)) (aB (fB1 fX (aB (aA 5) aH)) aH)))) aH)))
  (aK (rIf (fBI (fun i j=>decide (j < i)) (aA 3) (fC (.int 3))) (bM (hU (fEq (aA 6) (fC (.str "great"))))) bD)
  (aK (bI 7 (cC [3,4,5] (dM (aM (gJ C) [] (aB (aA 3) (aB (aA 4) (aB (aA 5) aH))))) fTT (fJ (aB (aV (aA 0)) (aB (aM (eJ C) [] (aB (aA 1) (aB (aA 2) (aB (aA 3) (aB (aA 0) aH))))) aH)))))
  (aK (rIf (fOr (cR (fB (qU "tuple" (aA 6)))) (fOr (cR (fEq (fB1 cD (aB (aA 6) aH)) (fC (.int 2)))) (cR (fB (aM (fR C) [] (aB (fIx (aA 6) (fC (.int 0))) (aB (aA 7) (aB (aA 3) aH)))))))) (bM (fC (.bl false))) bD)
  (aK (rIf (fEq (fB1 cD (aB (fIx (aA 6) (fC (.int 0))) aH)) (fC (.int 0))) (bM (hU (lM false (fIx (aA 6) (fC (.int 1)))))) bD)
  (bM (aM (eL C 9) [] (aB (fIx (aA 6) (fC (.int 1))) (aB (aA 7) (aB (fC (.int 0)) (aB (fI0 (fun i j=>.int (i - j)) (fB1 cD (aB (fIx (aA 6) (fC (.int 0))) aH)) (fC (.int 1))) aH)))))))))))))))))
noncomputable def Z1O (C CE:Addr):List D->Option D:=runF 8 (Z3P C CE)
section
variable {P:Program}{w:World}{K:Frag}{mg:Str->Option Value}{base:Heap}{C fA:Addr}{fd:FuncData}
theorem sc_init_Circuit:aS ["self","ins","rows","outs"] ["self","ins","rows","outs"] (aI cA):=⟨rfl,rfl,rfl,by decide +kernel,rfl,by decide +kernel,by decide +kernel⟩
theorem rR  (F:FunD K "__init__" "Circuit.__init__" cA fA fd) (z_list:mg "list" = none) (z_tuple:mg "tuple" = none) (hC:Cls K C) (hA_ins:NoAttr K C "ins") (hA_rows:NoAttr K C "rows") (hA_outs:NoAttr K C "outs") :
  bR P w K mg base CX0 1 fA fd ["self","ins","rows","outs"] (spI K C 3 (fE C)):=by
 have nd:=sc_init_Circuit.nd;refine F.raw sc_init_Circuit (fun vs H Q E h=>Z2z h) fun cdv A outer s H vs Q E hr hsp=>?_;obtain⟨x,dx,H0,us,ds,d,fp,rfl,hx,hdx,hne,rfl,h1,h2,h3,q⟩:=hsp;obtain⟨F,hF⟩:=xL h2;have hl:=h2.length
 match ds,us,h1,hl,hF,h3 with
 | [i,r,o],[u1,u2,u3],_,_,hF,h3 =>
  unfold fE at h3;simp only at h3;split at h3
  .rename_i a b c e1 e2 e3;cases h3;refine⟨_,pF (N2 (pv 0) (show QE _ true [] _ _ from (QE.flat (aC 1))) rfl) (pF (N2 (pv 0) (show QE _ true [] _ _ from (kQ (fr:=[]) rfl (by rfl) (cY (aC 2)) (show List.Nodup (["row"]:List Str) from by decide +kernel) (by rfl) (fun _ _ _ _ _ _=>iA) (fun _ _ _ _ _ _=>(qp (Z1d (by rfl) z_tuple (aC 0)))))) rfl) (xV (N2 (pv 0) (show QE _ true [] _ _ from (qp (pE (by rfl) z_list (aC 3)))) rfl))),?_⟩
   refine Z5H (F:=fun i=>F (i - 1)) (us:=[u1,u2,u3]) (ds:=[i,r,o]) (fp:=fp) hx hdx hne (fun j ow d' e=>?_) rfl e1 e2 e3 hC hA_ins hA_rows hA_outs (by decide +kernel) (by decide +kernel) (by decide +kernel) q
   match j,e with
   | 1,e=>cases e;exact (let ⟨v,a1,a2⟩:=hF 0 i rfl;⟨v,by cases a1;rfl,a2⟩)
   | 2,e=>cases e;exact (let ⟨v,a1,a2⟩:=hF 1 r rfl;⟨v,by cases a1;rfl,a2⟩)
   | 3,e=>cases e;exact (let ⟨v,a1,a2⟩:=hF 2 o rfl;⟨v,by cases a1;rfl,a2⟩)
   | 0,e=>cases e
   | j + 4,e=>cases e
  .cases h3
theorem uV:aS ["row","legs","ones","kind"] ["row","legs","ones"] (aI kM):=⟨rfl,rfl,rfl,by decide +kernel,rfl,by decide +kernel,by decide +kernel⟩
theorem vC   (F:FunD K "gate_value" "gate_value" kM fA fd)  :
  bR P w K mg base CX0 1 fA fd ["row","legs","ones"] (spD K 3 (dL C)) :=
 F.k uV fun nd hr=>(aE (Qs 3 (QE.flat (bA (aC 0) (qp aF))))
   (aE (bP (cP (bO hr) (aC 3) (qp bY)) (aG (aU (qp (aO eS (aC 2) (bA (aC 0) (qp aF)))))) aW)
   (aE (bP (cP (bO hr) (aC 3) (qp bY)) (aG (aU (qp (aP tK (aC 2) (bA (aC 1) (qp aF)))))) aW)
   (aE (bP (cP (bO hr) (aC 3) (qp bY)) (aG (aU (qp (aP mF (bA (aC 1) (qp aF)) (bA (aC 1) (qp aF)))))) aW)
   (aE (bP (cP (bO hr) (aC 3) (qp bY)) (aG (aU (qp (aP rA (bA (aC 1) (qp aF)) (bA (aC 1) (qp aF)))))) aW)
   (aG (aU (qp (aP tK (bA (aC 1) (qp aF)) (bA (aC 1) (qp aF)))))))))))
theorem xD:aS ["row"] ["row"] (aI lU):=⟨rfl,rfl,rfl,by decide +kernel,rfl,by decide +kernel,by decide +kernel⟩
theorem yA   (F:FunD K "leg_wires" "leg_wires" lU fA fd) (z_list:mg "list" = none) :
  bR P w K mg base CX0 1 fA fd ["row"] (spD K 1 (cW C)) :=
 F.k xD fun nd hr=>(aE (bP (cP (bO hr) (bA (aC 0) (qp aF)) (qp bY)) (aG (aU (dU bG))) aW)
   (aG (aU (qp (pE (by rfl) z_list (qp (jY (aC 0) (mY (qp aF)) mZ)))))))
theorem uU:aS ["row","wire","values","ones","fault","legs"] ["row","wire","values","ones","fault"] (aI kL):=⟨rfl,rfl,rfl,by decide +kernel,rfl,by decide +kernel,by decide +kernel⟩
theorem vB   (F:FunD K "leg_values" "leg_values" kL fA fd) (c_leg_wires:aY P w K mg base "leg_wires" [] 1 1 (cW C)) :
  bR P w K mg base CX0 2 fA fd ["row","wire","values","ones","fault"] (spD K 5 (cV C)) :=
 F.k uU fun nd hr=>(aE (iN (i:=5) (fr:=[2]) rfl nd rfl (Or.inl rfl) (by rfl) (cY (m1:=true) (rs:=[]) (Qc c_leg_wires (aD (Qv 0) (Qn [0])))) (show List.Nodup (["source","values"]:List Str) from by decide +kernel) (by rfl) (fun _ _ _ _ _ _=>iA) (fun _ _ _ _ _ _=>(QE.flat (bA (aC 1) (aC 0)))))
   (aE (bP (QW.qt (iM (rX (aC 4)) (iM (cP (bO hr) (bA (aC 4) (qp aF)) (qp bY)) (iZ (cP (bO hr) (bA (aC 4) (qp aF)) (aC 1)))))) (aG (T9 5 (bA (aC 4) (qp aF)) (qp (aO eS (aC 3) (bA (aC 4) (qp aF)))))) aW)
   (aG (jA (i:=5)))))
theorem M4:aS ["value","wire","ones","fault"] ["value","wire","ones","fault"] (aI pX):=⟨rfl,rfl,rfl,by decide +kernel,rfl,by decide +kernel,by decide +kernel⟩
theorem N5   (F:FunD K "on_wire" "on_wire" pX fA fd)  :
  bR P w K mg base CX0 1 fA fd ["value","wire","ones","fault"] (spD K 4 (dY C)) :=
 F.k M4 fun nd hr=>(aE (bP (QW.qt (iM (rX (aC 3)) (iM (cP (bO hr) (bA (aC 3) (qp aF)) (qp bY)) (iZ (cP (bO hr) (bA (aC 3) (qp aF)) (aC 1)))))) (aG (aU (qp (aO eS (aC 2) (bA (aC 3) (qp aF)))))) aW)
   (aG (aU (QE.flat (aC 0)))))
theorem Z10:aS ["circuit","starts","ones","fault","values","start","row","wire","legs"] ["circuit","starts","ones","fault"] (aI xK):=⟨rfl,rfl,rfl,by decide +kernel,rfl,by decide +kernel,by decide +kernel⟩
theorem Z1G   (F:FunD K "borne" "borne" xK fA fd) (c_gate_value:aY P w K mg base "gate_value" [] 1 3 (dL C)) (c_leg_values:aY P w K mg base "leg_values" [] 2 5 (cV C)) (c_on_wire:aY P w K mg base "on_wire" [] 1 4 (dY C)) (z_len:mg "len" = none) (hC:Cls K C) (hA_rows:NoAttr K C "rows") :
  bR P w K mg base CX0 3 fA fd ["circuit","starts","ones","fault"] (spD K 4 (sA C)) :=
 F.k Z10 fun nd hr=>(aE (Qs 4 (dU bG))
   (aE (cU rfl PassesOwn.never (cY (aC 1)) (Qg 5) (aG (fM 4 (Qc c_on_wire (aD (Qv 5) (aD (QE.weak (qp (dG (by rfl) z_len (aC 4)))) (aD (Qv 2) (aD (Qv 3) (Qn [5,2,3])))))))))
   (aE (cU rfl PassesOwn.never (cY (eD hC hA_rows (aC 0))) (Qg 6) (aE (Qs 7 (qp (dG (by rfl) z_len (aC 4))))
   (aE (Qs 8 (Qc c_leg_values (aD (Qv 6) (aD (Qv 7) (aD (Qv 4) (aD (Qv 2) (aD (Qv 3) (Qn [6,7,4,2,3]))))))))
   (aG (fM 4 (Qc c_on_wire (aD (QE.weak (Qc c_gate_value (aD (Qv 6) (aD (Qv 8) (aD (Qv 2) (Qn [6,8,2])))))) (aD (Qv 7) (aD (Qv 2) (aD (Qv 3) (Qn [7,2,3])))))))))))
   (aG (jA (i:=4))))))
theorem uW:aS ["ins"] ["ins"] (aI kN):=⟨rfl,rfl,rfl,by decide +kernel,rfl,by decide +kernel,by decide +kernel⟩
theorem vD   (F:FunD K "full_table" "full_table" kN fA fd)  :
  bR P w K mg base CX0 1 fA fd ["ins"] (spD K 1 (bW C)) :=
 F.k uW fun nd hr=>(aG (aU (qp (aP cZ (qp (aO dO (qp aF) (qp (aO dO (qp aF) (aC 0))))) (qp aF)))))
theorem rO:aS ["ins","found","k","width"] ["ins"] (aI iK):=⟨rfl,rfl,rfl,by decide +kernel,rfl,by decide +kernel,by decide +kernel⟩
theorem rQ   (F:FunD K "input_tables" "input_tables" iK fA fd) (c_full_table:aY P w K mg base "full_table" [] 1 1 (bW C)) (z_range:mg "range" = none) :
  bR P w K mg base CX0 2 fA fd ["ins"] (spD K 1 (fS C)) :=
 F.k rO fun nd hr=>(aE (Qs 1 (dU bG))
   (aE (cU rfl PassesOwn.never (eY (rs:=[]) (by rfl) z_range (aD (Qv 0) (Qn [0]))) (Qg 2) (aE (Qs 3 (qp (aO dO (qp aF) (aC 2))))
   (aE (iN (i:=1) (fr:=[3]) rfl nd rfl (Or.inl rfl) (by rfl) (cY (aC 1)) (show List.Nodup (["table","width"]:List Str) from by decide +kernel) (by rfl) (fun _ _ _ _ _ _=>iA) (fun _ _ _ _ _ _=>(qp (aP rA (aC 0) (qp (aO dO (aC 0) (aC 1)))))))
   (aG (fM 1 (qp (aO dO (Qc c_full_table (aD (Qv 2) (Qn [2]))) (aC 3))))))))
   (aG (jA (i:=1)))))
theorem Y5:aS ["circuit","fault"] ["circuit","fault"] (aI dX):=⟨rfl,rfl,rfl,by decide +kernel,rfl,by decide +kernel,by decide +kernel⟩
theorem Z0a   (F:FunD K "tables" "tables" dX fA fd) (c_borne:aY P w K mg base "borne" [] 3 4 (sA C)) (c_full_table:aY P w K mg base "full_table" [] 1 1 (bW C)) (c_input_tables:aY P w K mg base "input_tables" [] 2 1 (fS C)) (hC:Cls K C) (hA_ins:NoAttr K C "ins") :
  bR P w K mg base CX0 4 fA fd ["circuit","fault"] (spD K 2 (iO C)) :=
 F.k Y5 fun nd hr=>(aG (aU (Qc c_borne (aD (Qv 0) (aD (QE.weak (Qc c_input_tables (aD (QE.more (eD hC hA_ins (aC 0)) (by simp)) (Qn [0])))) (aD (QE.weak (Qc c_full_table (aD (QE.more (eD hC hA_ins (aC 0)) (by simp)) (Qn [0])))) (aD (Qv 1) (Qn [0,1]))))))))
theorem M7:aS ["circuit","values"] ["circuit","values"] (aI qC):=⟨rfl,rfl,rfl,by decide +kernel,rfl,by decide +kernel,by decide +kernel⟩
theorem O1   (F:FunD K "at_outs" "at_outs" qC fA fd) (hC:Cls K C) (hA_outs:NoAttr K C "outs") :
  bR P w K mg base CX0 1 fA fd ["circuit","values"] (spD K 2 (nB C)) :=
 F.k M7 fun nd hr=>(aG (aU (kQ (fr:=[1]) rfl (by rfl) (cY (eD hC hA_outs (aC 0))) (show List.Nodup (["out","values"]:List Str) from by decide +kernel) (by rfl) (fun _ _ _ _ _ _=>iA) (fun _ _ _ _ _ _=>(QE.flat (bA (aC 1) (aC 0)))))))
theorem uT:aS ["circuit","fault"] ["circuit","fault"] (aI bV):=⟨rfl,rfl,rfl,by decide +kernel,rfl,by decide +kernel,by decide +kernel⟩
theorem vA   (F:FunD K "out_tables" "out_tables" bV fA fd) (c_at_outs:aY P w K mg base "at_outs" [] 1 2 (nB C)) (c_tables:aY P w K mg base "tables" [] 4 2 (iO C)) :
  bR P w K mg base CX0 5 fA fd ["circuit","fault"] (spD K 2 (cK C)) :=
 F.k uT fun nd hr=>(aG (aU (Qc c_at_outs (aD (Qv 0) (aD (QE.weak (Qc c_tables (aD (Qv 0) (aD (Qv 1) (Qn [0,1]))))) (Qn [0]))))))
theorem uS:aS ["circuit","wire"] ["circuit","wire"] (aI kK):=⟨rfl,rfl,rfl,by decide +kernel,rfl,by decide +kernel,by decide +kernel⟩
theorem uZ   (F:FunD K "sources_of" "sources_of" kK fA fd) (c_leg_wires:aY P w K mg base "leg_wires" [] 1 1 (cW C)) (hC:Cls K C) (hA_ins:NoAttr K C "ins") (hA_rows:NoAttr K C "rows") :
  bR P w K mg base CX0 2 fA fd ["circuit","wire"] (spD K 2 (cJ C)) :=
 F.k uS fun nd hr=>(aE (bP (A9 (aC 1) (eD hC hA_ins (aC 0))) (aG (aU (dU bG))) aW)
   (aG (aU (Qc c_leg_wires (aD (QE.more (bA (eD hC hA_rows (aC 0)) (qp (aP cZ (aC 1) (eD hC hA_ins (aC 0))))) (by simp)) (Qn [0]))))))
theorem Y6:aS ["circuit","marked","out","wire","source"] ["circuit"] (aI sT):=⟨rfl,rfl,rfl,by decide +kernel,rfl,by decide +kernel,by decide +kernel⟩
theorem Z0b   (F:FunD K "needed" "needed" sT fA fd) (c_sources_of:aY P w K mg base "sources_of" [] 2 2 (cJ C)) (z_len:mg "len" = none) (z_range:mg "range" = none) (z_sorted:mg "sorted" = none) (hC:Cls K C) (hA_ins:NoAttr K C "ins") (hA_outs:NoAttr K C "outs") (hA_rows:NoAttr K C "rows") :
  bR P w K mg base CX0 3 fA fd ["circuit"] (spD K 1 (pI C)) :=
 F.k Y6 fun nd hr=>(aE (Qs 1 B4)
   (aE (cU rfl PassesOwn.never (cY (eD hC hA_outs (aC 0))) (Qg 2) (aG (U0 (V4 hr) 1 (aC 2) (qp mE))))
   (aE (cU rfl PassesOwn.never (Z00 (rs:=[]) (by rfl) z_range (aD (QE.weak (qp (aP cZ (qp (aP eI (eD hC hA_ins (aC 0)) (qp (dG (by rfl) z_len (eD hC hA_rows (aC 0)))))) (qp aF)))) (aD (QE.weak (qp (aP cZ (eD hC hA_ins (aC 0)) (qp aF)))) (aD (QE.weak (qp xS)) (Qn []))))) (Qg 3) (aG (bP (Z4b (V4 hr) (aC 3) (aC 1)) (aG (cU rfl PassesOwn.never (cY (m1:=true) (rs:=[]) (Qc c_sources_of (aD (Qv 0) (aD (Qv 3) (Qn [0,3]))))) (Qg 4) (aG (U0 (V4 hr) 1 (aC 4) (qp mE))))) aW)))
   (aG (aU (qp (Z1e rfl (by rfl) z_sorted (aC 1))))))))
theorem pW:aS ["circuit","wire"] ["circuit","wire"] (aI gZ):=⟨rfl,rfl,rfl,by decide +kernel,rfl,by decide +kernel,by decide +kernel⟩
theorem qI   (F:FunD K "bits_to_stick" "bits_to_stick" gZ fA fd) (hC:Cls K C) (hA_ins:NoAttr K C "ins") (hA_rows:NoAttr K C "rows") :
  bR P w K mg base CX0 1 fA fd ["circuit","wire"] (spD K 2 (bF C)) :=
 F.k pW fun nd hr=>(aE (bP (QW.qt (iM (T7 (aC 1) (eD hC hA_ins (aC 0))) (iZ (cP (bO hr) (bA (bA (eD hC hA_rows (aC 0)) (qp (aP cZ (aC 1) (eD hC hA_ins (aC 0))))) (qp aF)) (qp bY))))) (aG (aU (dU (aD (qp (aP cZ (qp aF) (bA (bA (eD hC hA_rows (aC 0)) (qp (aP cZ (aC 1) (eD hC hA_ins (aC 0))))) (qp aF)))) bG)))) aW)
   (aG (aU (dU (aD (qp aF) (aD (qp aF) bG))))))
theorem uX:aS ["circuit","faults","wire","bit","leg","source"] ["circuit"] (aI kO):=⟨rfl,rfl,rfl,by decide +kernel,rfl,by decide +kernel,by decide +kernel⟩
theorem vE   (F:FunD K "all_faults" "all_faults" kO fA fd) (c_bits_to_stick:aY P w K mg base "bits_to_stick" [] 1 2 (bF C)) (c_needed:aY P w K mg base "needed" [] 3 1 (pI C)) (c_sources_of:aY P w K mg base "sources_of" [] 2 2 (cJ C)) (z_enumerate:mg "enumerate" = none) :
  bR P w K mg base CX0 4 fA fd ["circuit"] (spD K 1 (iB C)) :=
 F.k uX fun nd hr=>(aE (Qs 1 (dU bG))
   (aE (cU rfl PassesOwn.never (cY (m1:=true) (rs:=[]) (Qc c_needed (aD (Qv 0) (Qn [0])))) (Qg 2) (aE (cU rfl PassesOwn.never (cY (m1:=true) (rs:=[]) (Qc c_bits_to_stick (aD (Qv 0) (aD (Qv 2) (Qn [0,2]))))) (Qg 3) (aG (fM 1 (hG (aD (qp bY) (aD (QE.flat (aC 2)) (aD (QE.flat (aC 3)) bG)))))))
   (aG (cU rfl PassesOwn.never (xR (m1:=true) (rs:=[]) (by rfl) z_enumerate (aD (Qc c_sources_of (aD (Qv 0) (aD (Qv 2) (Qn [0,2])))) bG)) (oK (is:=[4,5]) rfl (cS (cI (i:=4) nd rfl (Or.inl rfl)) (cS (cI (i:=5) nd rfl (Or.inl rfl)) jB)) rfl) (aG (cU rfl PassesOwn.never (cY (m1:=true) (rs:=[]) (Qc c_bits_to_stick (aD (Qv 0) (aD (Qv 5) (Qn [0,5]))))) (Qg 3) (aG (fM 1 (hG (aD (qp bY) (aD (QE.flat (aC 2)) (aD (QE.flat (aC 4)) (aD (QE.flat (aC 3)) bG)))))))))))))
   (aG (jA (i:=1)))))
theorem xI:aS ["one_tables","other_tables","found","one","other"] ["one_tables","other_tables"] (aI lZ):=⟨rfl,rfl,rfl,by decide +kernel,rfl,by decide +kernel,by decide +kernel⟩
theorem yF   (F:FunD K "differing" "differing" lZ fA fd) (z_zip:mg "zip" = none) :
  bR P w K mg base CX0 1 fA fd ["one_tables","other_tables"] (spD K 2 (jF C)) :=
 F.k xI fun nd hr=>(aE (Qs 2 (qp aF))
   (aE (cU rfl PassesOwn.never (Z1c (rs:=[0,1]) (by rfl) z_zip (aD (Qv 0) (aD (Qv 1) (Qn [0,1])))) (oK (is:=[3,4]) rfl (cS (cI (i:=3) nd rfl (Or.inl rfl)) (cS (cI (i:=4) nd rfl (Or.inl rfl)) jB)) rfl) (aG (Qs 2 (qp (aP rA (aC 2) (qp (aP tK (aC 3) (aC 4))))))))
   (aG (aU (QE.flat (aC 2))))))
theorem zU:aS ["circuit","faults","good"] ["circuit","faults"] (aI nX):=⟨rfl,rfl,rfl,by decide +kernel,rfl,by decide +kernel,by decide +kernel⟩
theorem B8   (F:FunD K "tellings" "tellings" nX fA fd) (c_differing:aY P w K mg base "differing" [] 1 2 (jF C)) (c_out_tables_d:aY P w K mg base "out_tables" [.non] 5 2 (cK C)) (c_out_tables:aY P w K mg base "out_tables" [] 5 2 (cK C)) :
  bR P w K mg base CX0 6 fA fd ["circuit","faults"] (spD K 2 (kU C)) :=
 F.k zU fun nd hr=>(aE (Qs 2 (Qc c_out_tables_d (aD (Qv 0) (Qn [0]))))
   (aG (aU (kQ (fr:=[2,0]) rfl (by rfl) (cY (aC 1)) (show List.Nodup (["fault","good","circuit"]:List Str) from by decide +kernel) (by rfl) (fun _ _ _ _ _ _=>iA) (fun _ _ _ _ _ _=>(Qc c_differing (aD (Qv 1) (aD (QE.weak (Qc c_out_tables (aD (Qv 2) (aD (Qv 0) (Qn [2,0]))))) (Qn [1])))))))))
theorem Y4:aS ["circuit","found","faults","fault","told"] ["circuit"] (aI sS):=⟨rfl,rfl,rfl,by decide +kernel,rfl,by decide +kernel,by decide +kernel⟩
theorem Z09   (F:FunD K "to_hit" "to_hit" sS fA fd) (c_all_faults:aY P w K mg base "all_faults" [] 4 1 (iB C)) (c_tellings:aY P w K mg base "tellings" [] 6 2 (kU C)) (z_zip:mg "zip" = none) :
  bR P w K mg base CX0 7 fA fd ["circuit"] (spD K 1 (mH C)) :=
 F.k Y4 fun nd hr=>(aE (Qs 1 B4)
   (aE (Qs 2 (Qc c_all_faults (aD (Qv 0) (Qn [0]))))
   (aE (cU rfl PassesOwn.never (Z1c (rs:=[2]) (by rfl) z_zip (aD (Qv 2) (aD (QE.weak (Qc c_tellings (aD (Qv 0) (aD (Qv 2) (Qn [0,2]))))) (Qn [2])))) (oK (is:=[3,4]) rfl (cS (cI (i:=3) nd rfl (Or.inl rfl)) (cS (cI (i:=4) nd rfl (Or.inl rfl)) jB)) rfl) (aG (bP (tF (bO hr) (aC 4) (qp aF)) (aG (Z4f (hpe:=Z3M PySem.F.plainAttrs_dict PySem.F.slot_dict_setdefault PySem.F.type_dict_setdefault O4 (gD (i:=1) rfl (by first | exact Or.inl rfl | exact Or.inr (Or.inl rfl) | exact Or.inr (Or.inr rfl))) (pa_cons (aC 4) (pa_cons (aC 3) pa_nil))))) aW)))
   (aG (jA (i:=1))))))
theorem xH:aS ["marks"] ["marks"] (aI lY):=⟨rfl,rfl,rfl,by decide +kernel,rfl,by decide +kernel,by decide +kernel⟩
theorem yE   (F:FunD K "givens_in" "givens_in" lY fA fd) (z_range:mg "range" = none) :
  bR P w K mg base CX0 1 fA fd ["marks"] (spD K 1 (dJ C)) :=
 F.k xH fun nd hr=>(aG (aU (kQ (fr:=[0]) rfl (by rfl) (eY (rs:=[]) (by rfl) z_range (aD (QE.weak (qp (Z30 (aC 0)))) (Qn []))) (show List.Nodup (["given","marks"]:List Str) from by decide +kernel) (by rfl) (fun _ _ _ _ _ _=>mX (cP (bO hr) (qp (aP mF (qp (aO Z1y (aC 1) (aC 0))) (qp aF))) (qp aF))) (fun _ _ _ _ _ _=>(QE.flat (aC 0))))))
theorem A0:aS ["marks","wanted"] ["marks","wanted"] (aI oE):=⟨rfl,rfl,rfl,by decide +kernel,rfl,by decide +kernel,by decide +kernel⟩
theorem C5   (F:FunD K "hits_all" "hits_all" oE fA fd) (z_all:mg "all" = none) :
  bR P w K mg base CX0 1 fA fd ["marks","wanted"] (spD K 2 (gK C)) :=
 F.k A0 fun nd hr=>(aG (aU (qp (Z4m rfl (by rfl) z_all (Z1g (fr:=[0]) 1 rfl (by rfl) rfl (by first | exact Or.inl rfl | exact Or.inr (Or.inl rfl) | exact Or.inr (Or.inr rfl)) (show List.Nodup (["told","marks"]:List Str) from by decide +kernel) (by rfl) (fun _ _ _ _ _ _=>iA) (fun _ _ _ _ _ _=>(qp (Z5t (bO hr) (qp (aP mF (aC 0) (aC 1))) (qp aF)))))))))
theorem sc_paper_for:aS ["wanted","chosen","many","left","narrow","branches","given"] ["wanted","chosen","many"] (aI bZ):=⟨rfl,rfl,rfl,by decide +kernel,rfl,by decide +kernel,by decide +kernel⟩
theorem xZ {P:Program}{w:World}{K:Frag}{mg:Str->Option Value}{base:Heap}{C fA P0:Addr}{fd:FuncData}  (F:FunD K "paper_for" "paper_for" bZ fA fd) (am:mg "paper_for" = some (.ref fA)) (kp:keepIn K (.ref fA)=true) (bb:Binds K fd ["wanted","chosen","many"] []) (c_givens_in:aY P w K mg base "givens_in" [] 1 1 (dJ C)) (L_lam:LamIn fd base mg P0) (z_len:mg "len" = none) (z_min:mg "min" = none) (n:Nat) :
  bR P w K mg base CX0 (3 + n) fA fd ["wanted","chosen","many"] (spT K P0 (lamPos l_lam,q_lam) 3 (bU C n)):=by
 have nd:=sc_paper_for.nd;refine Z3H (F':=bU C) rfl am kp bb (fun _=>rfl) (fun n c_self=>?_) n;exact F.okT sc_paper_for rfl rfl fun _ _ _ _ _ _ hr hcd hT=>(aE (B1 (i':=3) (fr:=[1]) 0 rfl nd rfl (Or.inl rfl) (by rfl) rfl (by first | exact Or.inl rfl | exact Or.inr (Or.inl rfl) | exact Or.inr (Or.inr rfl)) (show List.Nodup (["told","chosen"]:List Str) from by decide +kernel) (by rfl) (fun _ _ _ _ _ _=>mX (cP (bO hr) (qp (aP mF (aC 0) (aC 1))) (qp aF))) (fun _ _ _ _ _ _=>(QE.flat (aC 0))))
   (aE (Qs 4 (qp (Z2T (x := "told") (k:=1) (L_lam.at hcd hT rfl) (hr.mono (by omega)) (aC 3) rfl (by rfl) z_min rfl rfl (by decide +kernel) (fun _ _ _ _=>rfl) rfl (by decide +kernel) rfl rfl rfl (fun _ _ _ _ _ _ hr=>(qp (dG (by rfl) z_len (Qc c_givens_in (aD (Qv 0) (Qn [0])))))))))
   (aE (Qs 5 (dU bG))
   (aE (bP (B0 (aC 2) (qp aF)) (aG (cU rfl PassesOwn.never (cY (m1:=true) (rs:=[]) (Qc c_givens_in (aD (Qv 4) (Qn [4])))) (Qg 6) (aG (fM 5 (hG (aD (QE.flat (aC 6)) (aD (xU c_self hT (hr.mono (by omega)) (.cons (.cons (.cons NArgs.nil))) (aD (Qv 0) (aD (QE.weak (qp (aP rA (aC 1) (qp (aO dO (qp aF) (aC 6)))))) (aD (QE.weak (qp (aP cZ (aC 2) (qp aF)))) (Qn [0]))))) bG))))))) aW)
   (aG (xN (xQ (qp (Z2Y (V4 hr) (aC 0) (aC 4))) (xO 5 xP))))))))
theorem zV:aS ["ins","wanted","rows"] ["ins","wanted"] (aI nY):=⟨rfl,rfl,rfl,by decide +kernel,rfl,by decide +kernel,by decide +kernel⟩
theorem B9   (F:FunD K "shortest" "shortest" nY fA fd) (c_full_table:aY P w K mg base "full_table" [] 1 1 (bW C)) (c_givens_in:aY P w K mg base "givens_in" [] 1 1 (dJ C)) (c_hits_all:aY P w K mg base "hits_all" [] 1 2 (gK C)) (z_len:mg "len" = none) (z_min:mg "min" = none) (z_range:mg "range" = none) :
  bR P w K mg base CX0 2 fA fd ["ins","wanted"] (spD K 2 (gG C)) :=
 F.k zV fun nd hr=>(aE (iN (i:=2) (fr:=[1]) rfl nd rfl (Or.inl rfl) (by rfl) (eY (rs:=[]) (by rfl) z_range (aD (QE.weak (qp (aP eI (Qc c_full_table (aD (Qv 0) (Qn [0]))) (qp aF)))) (Qn []))) (show List.Nodup (["marks","wanted"]:List Str) from by decide +kernel) (by rfl) (fun _ _ _ _ _ _=>mX (gB (Qc c_hits_all (aD (Qv 0) (aD (Qv 1) (Qn [0,1])))))) (fun _ _ _ _ _ _=>(Qc c_givens_in (aD (Qv 0) (Qn [0])))))
   (aG (Z8 (i:=2) rfl (by rfl) z_min (by rfl) z_len)))
theorem sc_fewest:aS ["circuit","wanted","tests"] ["circuit"] (aI sW):=⟨rfl,rfl,rfl,by decide +kernel,rfl,by decide +kernel,by decide +kernel⟩
theorem Z0e {P:Program}{w:World}{K:Frag}{mg:Str->Option Value}{base:Heap}{C fA P0:Addr}{fd:FuncData}{t_FEW_INS:Tok}{CE:Addr}(F:FunD K "fewest" "fewest" sW fA fd) (c_paper_for:nM P w K mg base "paper_for" P0 (lamPos l_lam,q_lam) 12 3 (bU C 9)) (c_shortest:aY P w K mg base "shortest" [] 2 2 (gG C)) (c_to_hit:aY P w K mg base "to_hit" [] 7 1 (mH C)) (z_len:mg "len" = none) (g_FEW_INS:mg "FEW_INS" = some (.int 3 t_FEW_INS)) (hC:Cls K C) (hA_ins:NoAttr K C "ins") (O_X:ExC base CE) (mc_TooGreat:mg "TooGreat" = some (.ref CE)) :
  bR P w K mg base (CXe P w) 13 fA fd ["circuit"] (Z2y K P0 (lamPos l_lam,q_lam) 1 (gW C CE)):=by
 have nd:=sc_fewest.nd;refine F.okTE sc_fewest rfl rfl fun cdv A outer s H E hr hcd hT=>?_;exact (Z7 (Z4c (B0 (eD hC hA_ins (aC 0)) (qp (Z2X (by rfl) g_FEW_INS))) (Z18 (Z6 O_X (by rfl) mc_TooGreat)) Z1a)
   (Z19 (aE (Qs 1 (Qc c_to_hit (aD (Qv 0) (Qn [0]))))
   (aE (Qs 2 (Qc c_shortest (aD (QE.more (eD hC hA_ins (aC 0)) (by simp)) (aD (Qv 1) (Qn [0,1])))))
   (aE (bP (cP (bO hr) (aC 2) (dU (Qn []))) (aG (xN (xO 2 (xQ (qp mD) xP)))) aW)
   (aG (xN (xO 2 (xQ (xU c_paper_for hT (hr.mono (by decide)) (.cons (.cons (.cons NArgs.nil))) (aD (Qv 1) (aD (QE.weak (qp aF)) (aD (QE.weak (qp (aP cZ (qp (dG (by rfl) z_len (aC 2))) (qp aF)))) (Qn [1]))))) xP)))))))))
theorem M5:aS ["_law_found"] ["_law_found"] (aI pY):=⟨rfl,rfl,rfl,by decide +kernel,rfl,by decide +kernel,by decide +kernel⟩
theorem N6   (F:FunD K "_law_whole" "_law_whole" pY fA fd) (z_bool:mg "bool" = none) (z_int:mg "int" = none) (z_isinstance:mg "isinstance" = none) :
  bR P w K mg base CX0 1 fA fd ["_law_found"] (spD K 1 (dZ C)) :=
 F.k M5 fun nd hr=>(aG (aU (qp (Z4l (qp (gC (by rfl) z_isinstance (aC 0) (by rfl) z_int PD.boot_int (Z3l _))) (Z1f (qp (Z4h (qp (gC (by rfl) z_isinstance (aC 0) (by rfl) z_bool PD.boot_bool (Z1Z _))))))))))
theorem M6:aS ["_law_cell","_law_k","_law_number"] ["_law_cell","_law_k"] (aI qA):=⟨rfl,rfl,rfl,by decide +kernel,rfl,by decide +kernel,by decide +kernel⟩
theorem N9   (F:FunD K "_law_mixed" "_law_mixed" qA fA fd)  :
  bR P w K mg base CX0 1 fA fd ["_law_cell","_law_k"] (spD K 2 (eZ C)) :=
 F.k M6 fun nd hr=>(aE (bP (T7 (aC 0) (qp (aO Z1z (qp aF) (qp aF)))) (aG (aU (qp (aO dP (qp (aO eG (qp (aP cZ (aC 0) (qp (aO Z1z (qp aF) (qp aF))))) (qp (aO dO (qp aF) (qp (aO eS (qp aF) (qp (aO dP (aC 1) (qp aF))))))))) (qp (aO dO (qp aF) (qp aF))))))) aW)
   (aE (Qs 2 (qp (aO dP (qp (aO eS (qp (aP eI (qp (aP eI (qp (aP eI (qp (aO eS (aC 0) (aC 0))) (qp (aO eS (qp aF) (aC 0))))) (qp (aO eS (qp aF) (aC 1))))) (qp aF))) (qp aF))) (qp aF))))
   (aG (aU (qp (aO dP (qp (aP eI (qp (aO eS (aC 2) (aC 2))) (qp aF))) (qp aF)))))))
theorem Z0Z:aS ["_law_mixed_here","_law_wires","_law_near","_law_one","_law_other","_law_way"] ["_law_mixed_here","_law_wires","_law_near"] (aI xJ):=⟨rfl,rfl,rfl,by decide +kernel,rfl,by decide +kernel,by decide +kernel⟩
theorem Z1F   (F:FunD K "_law_row" "_law_row" xJ fA fd) (z_min:mg "min" = none) :
  bR P w K mg base CX0 1 fA fd ["_law_mixed_here","_law_wires","_law_near"] (spD K 3 (nA C)) :=
 F.k Z0Z fun nd hr=>(aE (Qs 3 (qp (aO dP (qp (aO eG (aC 0) (qp aF))) (aC 1))))
   (aE (Qs 4 (qp (aO dP (qp (aO eG (aC 0) (qp aF))) (aC 1))))
   (aE (bP (QW.qt (iM (gB (aC 2)) (iZ (cP (bO hr) (qp (aO dP (qp (aO eG (aC 0) (qp aF))) (qp aF))) (qp aF))))) (aG (Qs 3 (qp (aP cZ (qp (aP cZ (aC 1) (qp aF))) (qp (aO dP (qp (aO eG (aC 0) (qp aF))) (qp (Z4i rfl (by rfl) z_min (aD (Qv 1) (aD (QE.weak (qp aF)) (Qn [1]))))))))))) aW)
   (aE (Qs 5 (qp (aO dP (aC 0) (qp aF))))
   (aE (bP (cP (bO hr) (aC 5) (qp aF)) (aG (aU (hG (aD (qp bY) (aD (qp (aO dP (qp (aO eG (aC 0) (qp aF))) (qp aF))) bG))))) aW)
   (aE (bP (A9 (aC 5) (qp aF)) (aG (aU (hG (aD (qp bY) (aD (QE.flat (aC 3)) bG))))) aW)
   (aG (aU (hG (aD (QE.flat (bA (QE.weak (rs:=[]) (dU (aD (qp bY) (aD (qp bY) (aD (qp bY) (aD (qp bY) (aD (qp bY) bG))))))) (qp (aO dP (aC 5) (qp aF))))) (aD (QE.flat (aC 3)) (aD (QE.flat (aC 4)) bG))))))))))))
theorem xF:aS ["_law_cells","_law_ins","_law_most","_law_many","_law_rows","_law_k","_law_cell","_law_mixed_here","_law_last","_law_outs"] ["_law_cells","_law_ins","_law_most","_law_many"] (aI lW):=⟨rfl,rfl,rfl,by decide +kernel,rfl,by decide +kernel,by decide +kernel⟩
theorem yC   (F:FunD K "_law_circuit" "_law_circuit" lW fA fd) (c_l_mixed:aY P w K mg base "_law_mixed" [] 1 2 (eZ C)) (c_l_row:aY P w K mg base "_law_row" [] 1 3 (nA C)) (z_enumerate:mg "enumerate" = none) (z_int:mg "int" = none) (z_len:mg "len" = none) (z_range:mg "range" = none) (z_sum:mg "sum" = none) :
  bR P w K mg base CX0 2 fA fd ["_law_cells","_law_ins","_law_most","_law_many"] (spD K 4 (fD C)) :=
 F.k xF fun nd hr=>(aE (Qs 4 (dU bG))
   (aE (cU rfl PassesOwn.never (xR (m1:=true) (rs:=[]) (by rfl) z_enumerate (aD (qp (jY (aC 0) mZ (mY (aC 2)))) bG)) (oK (is:=[5,6]) rfl (cS (cI (i:=5) nd rfl (Or.inl rfl)) (cS (cI (i:=6) nd rfl (Or.inl rfl)) jB)) rfl) (aE (Qs 7 (Qc c_l_mixed (aD (Qv 6) (aD (Qv 5) (Qn [6,5])))))
   (aG (bP (cP (bO hr) (qp (aP eI (aC 1) (qp (dG (by rfl) z_len (aC 4))))) (qp aF)) (aG (fM 4 (hG (aD (qp bY) (aD (qp (aO dP (aC 7) (qp aF))) bG))))) (aG (fM 4 (Qc c_l_row (aD (Qv 7) (aD (QE.weak (qp (aP eI (aC 1) (qp (dG (by rfl) z_len (aC 4)))))) (aD (QE.weak (qp (U1 (bO hr) (qp (aO dP (aC 6) (qp aF))) (qp aF)))) (Qn [7])))))))))))
   (aE (bP (cP (bO hr) (qp (aP eI (aC 1) (qp (dG (by rfl) z_len (aC 4))))) (qp aF)) (aG (fM 4 (hG (aD (qp bY) (aD (qp aF) bG))))) aW)
   (aE (Qs 8 (qp (aP cZ (qp (aP eI (aC 1) (qp (dG (by rfl) z_len (aC 4))))) (qp aF))))
   (aE (Qs 9 (dU bG))
   (aE (cU rfl PassesOwn.never (eY (rs:=[]) (by rfl) z_range (aD (QE.weak (qp (aP eI (aC 3) (qp aF)))) (Qn []))) (Qg 5) (aE (Qs 7 (Qc c_l_mixed (aD (QE.weak (qp (aP eI (qp (M9 rfl (by rfl) z_sum (qp (jY (aC 0) mZ (mY (qp aF)))))) (qp aF)))) (aD (Qv 5) (Qn [5])))))
   (aG (fM 9 (QE.flat (bA (QE.weak (rs:=[]) (dU (aD (QE.flat (aC 8)) (aD (qp (aO dP (qp (aO eG (aC 7) (qp aF))) (qp (aP eI (aC 8) (qp aF))))) bG)))) (qp (Z2W (by rfl) z_int (qp (Z5s (qp (U2 Z1C (qp (aO dP (aC 7) (qp aF))) (qp aF) (gE _))) (Z1f (qp (U2 Z1C (aC 5) (qp aF) (gE _))))))))))))))
   (aG (Z2R (i:=4) (j:=9) (by decide)))))))))
theorem Y7:aS ["_law_found","_law_row_here","_law_wire","_law_leg","_law_fault","_law_most"] ["_law_found","_law_row_here","_law_wire","_law_leg","_law_fault","_law_most"] (aI sU):=⟨rfl,rfl,rfl,by decide +kernel,rfl,by decide +kernel,by decide +kernel⟩
theorem Z0c   (F:FunD K "_law_seen" "_law_seen" sU fA fd)  :
  bR P w K mg base CX0 1 fA fd ["_law_found","_law_row_here","_law_wire","_law_leg","_law_fault","_law_most"] (spD K 6 (mI C)) :=
 F.k Y7 fun nd hr=>(aE (bP (QW.qt (iM (rX (aC 4)) (iZ (cP (bO hr) (aC 4) (hG (aD (QE.weak (qp bY)) (aD (Qv 2) (aD (Qv 3) (aD (QE.more (bA (aC 4) (qp xS)) (by simp)) (Qn [2,3,4])))))))))) (aG (aU (qp (aO eS (bA (aC 4) (qp xS)) (aC 5))))) aW)
   (aG (aU (QE.flat (bA (aC 0) (bA (aC 1) (qp (aP eI (qp aF) (aC 3)))))))))
theorem zZ:aS ["_law_found","_law_row_here","_law_wire","_law_fault","_law_most","_law_one","_law_other"] ["_law_found","_law_row_here","_law_wire","_law_fault","_law_most"] (aI oC):=⟨rfl,rfl,rfl,by decide +kernel,rfl,by decide +kernel,by decide +kernel⟩
theorem C4   (F:FunD K "_law_column" "_law_column" oC fA fd) (c_l_seen:aY P w K mg base "_law_seen" [] 1 6 (mI C)) :
  bR P w K mg base CX0 2 fA fd ["_law_found","_law_row_here","_law_wire","_law_fault","_law_most"] (spD K 5 (eT C)) :=
 F.k zZ fun nd hr=>(aE (bP (cP (bO hr) (bA (aC 1) (qp aF)) (qp bY)) (aG (aU (qp (aO eS (bA (aC 1) (qp aF)) (aC 4))))) aW)
   (aE (Qs 5 (Qc c_l_seen (aD (Qv 0) (aD (Qv 1) (aD (Qv 2) (aD (QE.weak (qp aF)) (aD (Qv 3) (aD (Qv 4) (Qn [0,1,2,3,4])))))))))
   (aE (bP (cP (bO hr) (bA (aC 1) (qp aF)) (qp bY)) (aG (aU (qp (aP cZ (aC 4) (aC 5))))) aW)
   (aE (Qs 6 (Qc c_l_seen (aD (Qv 0) (aD (Qv 1) (aD (Qv 2) (aD (QE.weak (qp aF)) (aD (Qv 3) (aD (Qv 4) (Qn [0,1,2,3,4])))))))))
   (aE (bP (cP (bO hr) (bA (aC 1) (qp aF)) (qp bY)) (aG (aU (qp (aP mF (aC 5) (aC 6))))) aW)
   (aE (bP (cP (bO hr) (bA (aC 1) (qp aF)) (qp bY)) (aG (aU (qp (aP rA (aC 5) (aC 6))))) aW)
   (aG (aU (qp (aP tK (aC 5) (aC 6)))))))))))
theorem zW:aS ["_law_ins","_law_rows","_law_fault","_law_most","_law_found","_law_wire"] ["_law_ins","_law_rows","_law_fault"] (aI nZ):=⟨rfl,rfl,rfl,by decide +kernel,rfl,by decide +kernel,by decide +kernel⟩
theorem C0   (F:FunD K "_law_tables" "_law_tables" nZ fA fd) (c_l_column:aY P w K mg base "_law_column" [] 2 5 (eT C)) (z_len:mg "len" = none) (z_range:mg "range" = none) (z_sum:mg "sum" = none) :
  bR P w K mg base CX0 3 fA fd ["_law_ins","_law_rows","_law_fault"] (spD K 3 (gH C)) :=
 F.k zW fun nd hr=>(aE (Qs 3 (qp (aP cZ (qp (aO dO (qp aF) (qp (aO dO (qp aF) (aC 0))))) (qp aF))))
   (aE (Qs 4 (dU bG))
   (aE (cU rfl PassesOwn.never (eY (rs:=[]) (by rfl) z_range (aD (QE.weak (qp (aP eI (aC 0) (qp (dG (by rfl) z_len (aC 1)))))) (Qn []))) (Qg 5) (aE (bP (A9 (aC 5) (aC 0)) (aG (fM 4 (qp (M9 rfl (by rfl) z_sum (kQ (fr:=[5]) rfl (by rfl) (eY (rs:=[]) (by rfl) z_range (aD (QE.weak (qp (aO dO (qp aF) (aC 0)))) (Qn []))) (show List.Nodup (["_law_given","_law_wire"]:List Str) from by decide +kernel) (by rfl) (fun _ _ _ _ _ _=>mX (cP (bO hr) (qp (aO dP (qp (aO eG (aC 0) (qp (aO dO (qp aF) (aC 1))))) (qp aF))) (qp aF))) (fun _ _ _ _ _ _=>(qp (aO dO (qp aF) (aC 0))))))))) (aG (fM 4 (Qc c_l_column (aD (Qv 4) (aD (QE.more (bA (aC 1) (qp (aP cZ (aC 5) (aC 0)))) (by simp)) (aD (Qv 5) (aD (Qv 2) (aD (Qv 3) (Qn [4,1,5,2,3]))))))))))
   (aG (bP (QW.qt (iM (rX (aC 2)) (iM (cP (bO hr) (bA (aC 2) (qp aF)) (qp bY)) (iZ (cP (bO hr) (bA (aC 2) (qp aF)) (aC 5)))))) (aG (T9 4 (aC 5) (qp (aO eS (bA (aC 2) (qp aF)) (aC 3))))) aW))))
   (aG (jA (i:=4))))))
theorem xE:aS ["_law_ins","_law_rows","_law_outs","_law_fault","_law_good","_law_bad","_law_found","_law_wire"] ["_law_ins","_law_rows","_law_outs","_law_fault"] (aI lV):=⟨rfl,rfl,rfl,by decide +kernel,rfl,by decide +kernel,by decide +kernel⟩
theorem yB   (F:FunD K "_law_telling" "_law_telling" lV fA fd) (c_l_tables:aY P w K mg base "_law_tables" [] 3 3 (gH C)) :
  bR P w K mg base CX0 4 fA fd ["_law_ins","_law_rows","_law_outs","_law_fault"] (spD K 4 (eJ C)) :=
 F.k xE fun nd hr=>(aE (Qs 4 (Qc c_l_tables (aD (Qv 0) (aD (Qv 1) (aD (QE.weak (qp mD)) (Qn [0,1]))))))
   (aE (Qs 5 (Qc c_l_tables (aD (Qv 0) (aD (Qv 1) (aD (Qv 3) (Qn [0,1,3]))))))
   (aE (Qs 6 (qp aF))
   (aE (cU rfl PassesOwn.never (cY (aC 2)) (Qg 7) (aG (Qs 6 (qp (aP rA (aC 6) (qp (aP tK (bA (aC 4) (aC 7)) (bA (aC 5) (aC 7)))))))))
   (aG (aU (QE.flat (aC 6))))))))
theorem Y8:aS ["_law_ins","_law_rows","_law_wire"] ["_law_ins","_law_rows","_law_wire"] (aI sV):=⟨rfl,rfl,rfl,by decide +kernel,rfl,by decide +kernel,by decide +kernel⟩
theorem Z0d   (F:FunD K "_law_legs" "_law_legs" sV fA fd) (z_list:mg "list" = none) :
  bR P w K mg base CX0 1 fA fd ["_law_ins","_law_rows","_law_wire"] (spD K 3 (iQ C)) :=
 F.k Y8 fun nd hr=>(aE (bP (QW.qt (lG (A9 (aC 2) (aC 0)) (oJ (cP (bO hr) (bA (bA (aC 1) (qp (aP cZ (aC 2) (aC 0)))) (qp aF)) (qp bY))))) (aG (aU (dU bG))) aW)
   (aG (aU (qp (pE (by rfl) z_list (qp (jY (bA (aC 1) (qp (aP cZ (aC 2) (aC 0)))) (mY (qp aF)) mZ)))))))
theorem zX:aS ["_law_ins","_law_rows","_law_outs","_law_wanted","_law_wire","_law_at","_law_ahead"] ["_law_ins","_law_rows","_law_outs"] (aI oA):=⟨rfl,rfl,rfl,by decide +kernel,rfl,by decide +kernel,by decide +kernel⟩
theorem C1   (F:FunD K "_law_needed" "_law_needed" oA fA fd) (c_l_legs:aY P w K mg base "_law_legs" [] 1 3 (iQ C)) (z_len:mg "len" = none) (z_sorted:mg "sorted" = none) :
  bR P w K mg base CX0 2 fA fd ["_law_ins","_law_rows","_law_outs"] (spD K 3 (iP C)) :=
 F.k zX fun nd hr=>(aE (Qs 3 (dU bG))
   (aE (cU rfl PassesOwn.never (cY (aC 2)) (Qg 4) (aG (bP (A8 (Z3F hr) (aC 4) (aC 3)) (aG (fM 3 (QE.flat (aC 4)))) aW)))
   (aE (Qs 5 (qp aF))
   (aE (Z1b PassesOwn.never (A9 (aC 5) (qp (dG (by rfl) z_len (aC 3)))) (aE (cU rfl PassesOwn.never (cY (m1:=true) (rs:=[]) (Qc c_l_legs (aD (Qv 0) (aD (Qv 1) (aD (QE.more (bA (aC 3) (aC 5)) (by simp)) (Qn [0,1,3])))))) (Qg 6) (aG (bP (A8 (Z3F hr) (aC 6) (aC 3)) (aG (fM 3 (QE.flat (aC 6)))) aW)))
   (aG (Qs 5 (qp (aP eI (aC 5) (qp aF)))))))
   (aG (aU (qp (Z01 (by rfl) z_sorted (aC 3)))))))))
theorem xG:aS ["_law_ins","_law_rows","_law_wire"] ["_law_ins","_law_rows","_law_wire"] (aI lX):=⟨rfl,rfl,rfl,by decide +kernel,rfl,by decide +kernel,by decide +kernel⟩
theorem yD   (F:FunD K "_law_bits_at" "_law_bits_at" lX fA fd)  :
  bR P w K mg base CX0 1 fA fd ["_law_ins","_law_rows","_law_wire"] (spD K 3 (dS C)) :=
 F.k xG fun nd hr=>(aE (bP (QW.qt (iM (T7 (aC 2) (aC 0)) (iZ (cP (bO hr) (bA (bA (aC 1) (qp (aP cZ (aC 2) (aC 0)))) (qp aF)) (qp bY))))) (aG (aU (dU (aD (qp (aP cZ (qp aF) (bA (bA (aC 1) (qp (aP cZ (aC 2) (aC 0)))) (qp aF)))) bG)))) aW)
   (aG (aU (dU (aD (qp aF) (aD (qp aF) bG))))))
theorem zY:aS ["_law_ins","_law_rows","_law_outs","_law_found","_law_wire","_law_leg","_law_ahead"] ["_law_ins","_law_rows","_law_outs"] (aI oB):=⟨rfl,rfl,rfl,by decide +kernel,rfl,by decide +kernel,by decide +kernel⟩
theorem C3   (F:FunD K "_law_faults" "_law_faults" oB fA fd) (c_l_bits_at:aY P w K mg base "_law_bits_at" [] 1 3 (dS C)) (c_l_legs:aY P w K mg base "_law_legs" [] 1 3 (iQ C)) (c_l_needed:aY P w K mg base "_law_needed" [] 2 3 (iP C)) (z_enumerate:mg "enumerate" = none) :
  bR P w K mg base CX0 3 fA fd ["_law_ins","_law_rows","_law_outs"] (spD K 3 (gJ C)) :=
 F.k zY fun nd hr=>(aE (Qs 3 (dU bG))
   (aE (cU rfl PassesOwn.never (cY (m1:=true) (rs:=[]) (Qc c_l_needed (aD (Qv 0) (aD (Qv 1) (aD (Qv 2) (Qn [0,1,2])))))) (Qg 4) (aE (vX 3 3 nd rfl (Or.inl rfl) (kQ (fr:=[4]) rfl (by rfl) (cY (m1:=true) (rs:=[]) (Qc c_l_bits_at (aD (Qv 0) (aD (Qv 1) (aD (Qv 4) (Qn [0,1,4])))))) (show List.Nodup (["_law_bit","_law_wire"]:List Str) from by decide +kernel) (by rfl) (fun _ _ _ _ _ _=>iA) (fun _ _ _ _ _ _=>(hG (aD (qp bY) (aD (QE.flat (aC 1)) (aD (QE.flat (aC 0)) bG)))))))
   (aG (cU rfl PassesOwn.never (xR (m1:=true) (rs:=[]) (by rfl) z_enumerate (aD (Qc c_l_legs (aD (Qv 0) (aD (Qv 1) (aD (Qv 4) (Qn [0,1,4]))))) bG)) (oK (is:=[5,6]) rfl (cS (cI (i:=5) nd rfl (Or.inr rfl)) (cS (cI (i:=6) nd rfl (Or.inl rfl)) jB)) rfl) (aG (vX 3 3 nd rfl (Or.inl rfl) (kQ (fr:=[4,5]) rfl (by rfl) (cY (m1:=true) (rs:=[]) (Qc c_l_bits_at (aD (Qv 0) (aD (Qv 1) (aD (Qv 6) (Qn [0,1,6])))))) (show List.Nodup (["_law_bit","_law_wire","_law_leg"]:List Str) from by decide +kernel) (by rfl) (fun _ _ _ _ _ _=>iA) (fun _ _ _ _ _ _=>(hG (aD (qp bY) (aD (QE.flat (aC 1)) (aD (QE.flat (aC 2)) (aD (QE.flat (aC 0)) bG)))))))))))))
   (aG (jA (i:=3)))))
theorem sc_l_asked:aS ["_law_circuit_here","_law_found","_law_fault","e"] ["_law_circuit_here"] (aI qB):=⟨rfl,rfl,rfl,by decide +kernel,rfl,by decide +kernel,by decide +kernel⟩
theorem O0 {P:Program}{w:World}{K:Frag}{mg:Str->Option Value}{base:Heap}{C fA P0:Addr}{fd:FuncData}{CE:Addr}{A_NoCircuit:Addr}{A_NoLine:Addr}{A_NoWire:Addr}{A_NotTold:Addr}{A_StuckError:Addr}(F:FunD K "_law_asked" "_law_asked" qB fA fd) (c_fewest:uP P w K mg base "fewest" P0 (lamPos l_lam,q_lam) 13 1 (gW C CE)) (z_isinstance:mg "isinstance" = none) (O_X:ExC base CE) (mc_TooGreat:mg "TooGreat" = some (.ref CE)) (T_X:PySem.W.ExcK K CE) (mc_NoCircuit:mg "NoCircuit" = some (.ref A_NoCircuit)) (ki_NoCircuit:PySem.W.kitOne K (.ref CE) (.ref A_NoCircuit)=some false) (mc_NoLine:mg "NoLine" = some (.ref A_NoLine)) (ki_NoLine:PySem.W.kitOne K (.ref CE) (.ref A_NoLine)=some false) (mc_NoWire:mg "NoWire" = some (.ref A_NoWire)) (ki_NoWire:PySem.W.kitOne K (.ref CE) (.ref A_NoWire)=some false) (mc_NotTold:mg "NotTold" = some (.ref A_NotTold)) (ki_NotTold:PySem.W.kitOne K (.ref CE) (.ref A_NotTold)=some false) (mc_StuckError:mg "StuckError" = some (.ref A_StuckError)) (ki_StuckError:PySem.W.kitOne K (.ref CE) (.ref A_StuckError)=some true) :
  bR P w K mg base CX0 14 fA fd ["_law_circuit_here"] (spT K P0 (lamPos l_lam,q_lam) 1 (kA C CE)):=by
 have nd:=sc_l_asked.nd;exact F.okT sc_l_asked rfl rfl fun _ _ _ _ _ _ hr hcd hT=>(aE (Qs 1 (qp mD))
   (aE (Qs 2 (qp mD))
   (aE (Z2P (i:=1) (j:=2) (kk:=3) c_fewest hT (hr.mono (by decide)) (.cons NArgs.nil) rfl (aD (Qv 0) (Qn [0])) O_X (by rfl) mc_TooGreat rfl rfl rfl rfl nd rfl rfl rfl rfl rfl rfl (by decide))
   (aE (bP (Z4a (aC 2)) (aG (jA (i:=1))) aW)
   (aE (bP (QW.qt (lG (gB (qp (Z2V (cs:=[A_NoCircuit,A_NoLine,A_NotTold,A_NoWire]) T_X (kX ki_NoCircuit (kX ki_NoLine (kX ki_NotTold (kX ki_NoWire D3)))) (by rfl) z_isinstance (aC 2) (pa_cons (kR (v:=.ref A_NoCircuit) (by rfl) mc_NoCircuit rfl) (pa_cons (kR (v:=.ref A_NoLine) (by rfl) mc_NoLine rfl) (pa_cons (kR (v:=.ref A_NotTold) (by rfl) mc_NotTold rfl) (pa_cons (kR (v:=.ref A_NoWire) (by rfl) mc_NoWire rfl) pa_nil)))) (fun _ _ _ q=>q) (by simp)))) (oJ (jM (gB (qp (Z4j T_X ki_StuckError (by rfl) z_isinstance (aC 2) (by rfl) mc_StuckError))))))) (aG (aU (qp mD))) aW)
   (aG (aU (qp bY))))))))
theorem sc_l_paper:aS ["_law_paper_here","_law_some","_law_chosen","_law_many","_law_mask","_law_fault","_law_seen_here","_law_givens","_law_k","_law_step"] ["_law_paper_here","_law_some","_law_chosen","_law_many"] (aI pZ):=⟨rfl,rfl,rfl,by decide +kernel,rfl,by decide +kernel,by decide +kernel⟩
theorem N7   (F:FunD K "_law_paper" "_law_paper" pZ fA fd) (am:mg "_law_paper" = some (.ref fA)) (kp:keepIn K (.ref fA)=true) (bb:Binds K fd ["_law_paper_here","_law_some","_law_chosen","_law_many"] []) (c_l_whole:aY P w K mg base "_law_whole" [] 1 1 (dZ C)) (z_isinstance:mg "isinstance" = none) (z_len:mg "len" = none) (z_list:mg "list" = none) (z_range:mg "range" = none) (z_tuple:mg "tuple" = none) (n:Nat) :
  bR P w K mg base CX0 (1 + n) fA fd ["_law_paper_here","_law_some","_law_chosen","_law_many"] (spD K 4 (eL C n)):=by
 have nd:=sc_l_paper.nd;refine Z3I (F':=eL C) rfl am kp bb (fun _=>rfl) (fun n c_self=>?_) n;exact F.ok sc_l_paper rfl rfl fun _ _ _ _ _ _ hr=>(aE (bP (QW.qt (lG (jM (gB (qp (gC (by rfl) z_isinstance (aC 0) (by rfl) z_tuple PD.boot_tuple (qO _))))) (lG (tF (bO hr) (qp (dG (by rfl) z_len (aC 0))) (qp aF)) (oJ (jM (gB (qp (gC (by rfl) z_isinstance (bA (aC 0) (qp aF)) (by rfl) z_list PD.boot_list (D2 _))))))))) (aG (aU (qp mE))) aW)
   (aE (Qs 4 (qp aF))
   (aE (cU rfl PassesOwn.never (cY (aC 1)) (oK (is:=[5,6]) rfl (cS (cI (i:=5) nd rfl (Or.inl rfl)) (cS (cI (i:=6) nd rfl (Or.inl rfl)) jB)) rfl) (aG (bP (cP (bO hr) (aC 5) (bA (aC 0) (qp aF))) (aG (Qs 4 (QE.flat (aC 6)))) aW)))
   (aE (bP (QW.qt (lG (cP (bO hr) (aC 4) (qp aF)) (oJ (tF (bO hr) (qp (aP mF (aC 4) (aC 2))) (qp aF))))) (aG (aU (qp mE))) aW)
   (aE (bP (cP (bO hr) (aC 3) (qp aF)) (aG (aU (qp (U1 (bO hr) (qp (dG (by rfl) z_len (bA (aC 0) (qp aF)))) (qp aF))))) aW)
   (aE (iN (i:=7) (fr:=[4]) rfl nd rfl (Or.inl rfl) (by rfl) (eY (rs:=[]) (by rfl) z_range (aD (QE.weak (qp aF)) (Qn []))) (show List.Nodup (["_law_given","_law_mask"]:List Str) from by decide +kernel) (by rfl) (fun _ _ _ _ _ _=>mX (cP (bO hr) (qp (aP mF (qp (aO Z1y (aC 1) (aC 0))) (qp aF))) (qp aF))) (fun _ _ _ _ _ _=>(QE.flat (aC 0))))
   (aE (bP (tF (bO hr) (qp (dG (by rfl) z_len (bA (aC 0) (qp aF)))) (qp (dG (by rfl) z_len (aC 7)))) (aG (aU (qp mE))) aW)
   (aE (cU rfl PassesOwn.never (eY (rs:=[]) (by rfl) z_range (aD (QE.weak (qp (dG (by rfl) z_len (aC 7)))) (Qn []))) (Qg 8) (aE (Z2Q (i:=9) nd rfl (Or.inl rfl) (bA (bA (aC 0) (qp aF)) (aC 8)))
   (aE (bP (QW.qt (lG (jM (gB (qp (gC (by rfl) z_isinstance (aC 9) (by rfl) z_tuple PD.boot_tuple (qO _))))) (lG (tF (bO hr) (qp (dG (by rfl) z_len (aC 9))) (qp aF)) (lG (jM (gB (Qc c_l_whole (aD (QE.more (bA (aC 9) (qp aF)) (by simp)) (Qn [9]))))) (oJ (tF (bO hr) (bA (aC 9) (qp aF)) (bA (aC 7) (aC 8)))))))) (aG (aU (qp mE))) aW)
   (aG (bP (jM (gB (Z1i c_self (hr.mono (by omega)) (.cons (.cons (.cons (.cons NArgs.nil)))) rfl (aD (QE.more (bA (aC 9) (qp aF)) (by simp)) (aD (Qv 1) (aD (QE.weak (qp (aP rA (aC 2) (qp (aO dO (qp aF) (bA (aC 7) (aC 8))))))) (aD (QE.weak (qp (aP cZ (aC 3) (qp aF)))) (Qn [9,1])))))))) (aG (aU (qp mE))) aW)))))
   (aG (aU (qp mE)))))))))))
theorem rN:aS ["_law_tests","_law_some","_law_ins","_law_last","_law_chosen","_law_given"] ["_law_tests","_law_some","_law_ins"] (aI iJ):=⟨rfl,rfl,rfl,by decide +kernel,rfl,by decide +kernel,by decide +kernel⟩
theorem rP   (F:FunD K "_law_tests_good" "_law_tests_good" iJ fA fd) (c_l_whole:aY P w K mg base "_law_whole" [] 1 1 (dZ C)) (z_isinstance:mg "isinstance" = none) (z_len:mg "len" = none) (z_list:mg "list" = none) :
  bR P w K mg base CX0 2 fA fd ["_law_tests","_law_some","_law_ins"] (spD K 3 (fR C)) :=
 F.k rN fun nd hr=>(aE (bP (jM (gB (qp (gC (by rfl) z_isinstance (aC 0) (by rfl) z_list PD.boot_list (D2 _))))) (aG (aU (qp mE))) aW)
   (aE (Qs 3 (qp xS))
   (aE (Qs 4 (qp aF))
   (aE (cU rfl PassesOwn.never (cY (aC 0)) (Qg 5) (aE (bP (QW.qt (lG (jM (gB (Qc c_l_whole (aD (Qv 5) (Qn [5]))))) (lG (Z5r (aC 5) (aC 3)) (oJ (T7 (aC 5) (qp (aO dO (qp aF) (aC 2)))))))) (aG (aU (qp mE))) aW)
   (aE (Qs 3 (QE.flat (aC 5)))
   (aG (Qs 4 (qp (aP rA (aC 4) (qp (aO dO (qp aF) (aC 5))))))))))
   (aG (aU (qp (U1 (bO hr) (qp (dG (by rfl) z_len (Z1h (fr:=[4]) rfl (by rfl) (cY (aC 1)) (show List.Nodup (["_law_fault","_law_seen_here","_law_chosen"]:List Str) from by decide +kernel) (by rfl) (by rfl) (fun _ _ _ _ _ _=>mX (QW.qt (iM (B0 (aC 1) (qp aF)) (iZ (cP (bO hr) (qp (aP mF (aC 1) (aC 2))) (qp aF)))))) (fun _ _ _ _ _ _=>(qp aF))))) (qp aF)))))))))
theorem sc_law:aS ["_law_script","_law_cells","_law_first","_law_ins","_law_rows","_law_outs","_law_found","_law_some"] ["_law_script"] (aI lD):=⟨rfl,rfl,rfl,by decide +kernel,rfl,by decide +kernel,by decide +kernel⟩
theorem Z4C {P:Program}{w:World}{K:Frag}{mg:Str->Option Value}{base:Heap}{C fA P0:Addr}{fd:FuncData}{CE:Addr}(F:FunD K "law" "law" lD fA fd) (c_l_asked:nM P w K mg base "_law_asked" P0 (lamPos l_lam,q_lam) 14 1 (kA C CE)) (c_l_circuit:aY P w K mg base "_law_circuit" [] 2 4 (fD C)) (c_l_faults:aY P w K mg base "_law_faults" [] 3 3 (gJ C)) (c_l_paper:aY P w K mg base "_law_paper" [] 10 4 (eL C 9)) (c_l_telling:aY P w K mg base "_law_telling" [] 4 4 (eJ C)) (c_l_tests_good:aY P w K mg base "_law_tests_good" [] 2 3 (fR C)) (mk_Circuit:Z2p P w K mg base "Circuit" C 1 3 (fE C)) (z_isinstance:mg "isinstance" = none) (z_len:mg "len" = none) (z_list:mg "list" = none) (z_sum:mg "sum" = none) (z_tuple:mg "tuple" = none) :
  bR P w K mg base CX0 15 fA fd ["_law_script"] (spT K P0 (lamPos l_lam,q_lam) 1 (Z1O C CE)):=by
 have nd:=sc_law.nd;exact F.okT sc_law rfl rfl fun _ _ _ _ _ _ hr hcd hT=>(aE (Qs 1 (qp (jY (aC 0) mZ (mY (qp aF)))))
   (aE (Qs 2 (qp aF))
   (aE (bP (B0 (qp (dG (by rfl) z_len (aC 1))) (qp aF)) (aG (Qs 2 (qp (M9 rfl (by rfl) z_sum (qp (jY (aC 0) mZ (mY (qp aF)))))))) aW)
   (aE (Qs 3 (qp (aO dP (aC 2) (qp aF))))
   (aE (bP (cP (bO hr) (qp (aO dP (qp (aO eG (aC 2) (qp aF))) (qp aF))) (qp aF)) (aG (Qs 3 (qp (aP eI (qp aF) (qp (aO dP (qp (aO eG (aC 2) (qp aF))) (qp aF))))))) aW)
   (aE (Z2O (m:=true) (rs:=[]) (Qc c_l_circuit (aD (Qv 1) (aD (Qv 3) (aD (QE.weak (qp aF)) (aD (QE.weak (qp (aO dP (qp (aO eG (aC 2) (qp aF))) (qp aF)))) (Qn [1,3])))))) (oK (is:=[4,5]) rfl (cS (cI (i:=4) nd rfl (Or.inr rfl)) (cS (cI (i:=5) nd rfl (Or.inr rfl)) jB)) rfl))
   (aE (Qs 6 (xU c_l_asked hT (hr.mono (by decide)) (.cons NArgs.nil) (aD (QE.weak (Z5u mk_Circuit (hr.mono (by decide)) (.cons (.cons (.cons NArgs.nil))) (aD (Qv 3) (aD (QE.weak (qp (pE (by rfl) z_list (aC 4)))) (aD (QE.weak (qp (pE (by rfl) z_list (aC 5)))) (Qn [3])))))) (Qn []))))
   (aE (bP (B0 (aC 3) (qp aF)) (aG (aU (qp (U1 (bO hr) (aC 6) (qp bY))))) aW)
   (aE (iN (i:=7) (fr:=[3,4,5]) rfl nd rfl (Or.inl rfl) (by rfl) (cY (m1:=true) (rs:=[]) (Qc c_l_faults (aD (Qv 3) (aD (Qv 4) (aD (Qv 5) (Qn [3,4,5])))))) (show List.Nodup (["_law_fault","_law_ins","_law_rows","_law_outs"]:List Str) from by decide +kernel) (by rfl) (fun _ _ _ _ _ _=>iA) (fun _ _ _ _ _ _=>(hG (aD (QE.flat (aC 0)) (aD (Qc c_l_telling (aD (Qv 1) (aD (Qv 2) (aD (Qv 3) (aD (Qv 0) (Qn [1,2,3,0])))))) bG)))))
   (aE (bP (QW.qt (lG (jM (gB (qp (gC (by rfl) z_isinstance (aC 6) (by rfl) z_tuple PD.boot_tuple (qO _))))) (lG (tF (bO hr) (qp (dG (by rfl) z_len (aC 6))) (qp aF)) (oJ (jM (gB (Qc c_l_tests_good (aD (QE.more (bA (aC 6) (qp aF)) (by simp)) (aD (Qv 7) (aD (Qv 3) (Qn [6,7,3]))))))))))) (aG (aU (qp mE))) aW)
   (aE (bP (cP (bO hr) (qp (dG (by rfl) z_len (bA (aC 6) (qp aF)))) (qp aF)) (aG (aU (qp (Z4k (bA (aC 6) (qp aF)))))) aW)
   (aG (aU (Qc c_l_paper (aD (QE.more (bA (aC 6) (qp aF)) (by simp)) (aD (Qv 7) (aD (QE.weak (qp aF)) (aD (QE.weak (qp (aP cZ (qp (dG (by rfl) z_len (bA (aC 6) (qp aF)))) (qp aF)))) (Qn [6,7])))))))))))))))))))
end
local macro_rules | `(tactic| walk_at "ev") => do
 let ns:=("runF enStart List.map_cons List.map_nil List.length_cons List.length_nil List.cons_append List.nil_append List.append_nil List.replicate Nat.reduceAdd Nat.reduceSub Nat.reduceLeDiff PD.fz PD.fz1 ev_var ev_C ev_Flat ev_B ev_OfB ev_And ev_Or ev_Not ev_Nil ev_Cons ev_Tup ev_Lst ev_BI ev_IsN ev_Eq ev_Ix ev_I2' ev_I0' ev_Call ev_B1 ev_IsT ev_NoP ev_P ev_Sl ev_In ev_Bits ev_InK ev_DGet keyOf ev_seq ev_TT ev_rNext ev_rIf ev_rRet ev_rSet ev_rSeq List.getElem?_cons_zero List.getElem?_cons_succ List.set_cons_zero List.set_cons_succ Option.join_some Option.map_some Option.bind_some PD.flat Bool.not_true Bool.not_false if_true if_false eqN_int eqN_str eqN_bl eqN_non eqN_tnon atI_m3 atI_m4 atI_0 atI_1 atI_2 atI_3 decide_true decide_false eq_self and_self Bool.and_true Bool.and_false Bool.true_and Bool.false_and eqN_tup eqL_cons eqL_nil eqL_nilL reduceIte reduceCtorEq Int.reduceEq Int.reduceAdd Int.reduceSub Int.reduceLT Int.reduceLE Int.reduceNeg Nat.reduceEqDiff Nat.reduceBEq Bool.false_eq_true".splitOn " ").toArray.map fun s=>Lean.mkIdent s.toName
 `(tactic| simp only [$[$ns:ident],*, *])
theorem Z3i {C:Addr}{ins:Int}{rows:List Row}{outs:List Int}(hl:rows.length <= 1000):fE C [.int ins,.lst (rows.map Row.d),LI outs]=some (bC C ins rows outs):=by
 have e1:cC [] (dM (aA 2)) fTT (fB1 zE (aB (aA 0) aH)) [none,some (false,.int ins),some (false,.lst (rows.map Row.d)),some (false,LI outs)]=some (.lst (rows.map Row.d)) :=
  fG Row.d Row.d (xs:=rows) rfl hl fun r _=>by cases r <;> rfl
 have e2:fX [.lst (outs.map D.int)]=some (.lst (outs.map D.int)):=by simp only [fX,fF,if_true]
 unfold fE;simp only [e1];simp only [LI,bC];walk_at "ev"
theorem on_wire {C:Addr}{v w o:Int}{f:Flt}(h:-(2 ^ 64) < o /\ o < 2 ^ 64 \/ ∀ w b,f=.wire w b->b=0 \/ b=1):dY C [.int v,.int w,.int o,f.d]=some (.int (bH v w o f)):=by
 cases f with
 | none=>simp [dY,runF,enStart,kD,Flt.d,PD.flat,bH]
 | wire w' b =>
  by_cases hw:w'=w
  .have hm:IntMulOk o b:=h.elim (fun z=>jD z.1 z.2) fun z=>by rcases z w' b rfl with z | z <;> (subst z;exact yH (by decide) (by decide))
   simp [dY,runF,enStart,kD,Flt.d,PD.flat,bH,atI_0,atI_1,atI_2,eqN_str,eqN_int,hw,hm]
  .simp [dY,runF,enStart,kD,Flt.d,PD.flat,bH,atI_0,atI_1,atI_2,eqN_str,eqN_int,hw]
 | leg w' l b =>
  simp [dY,runF,enStart,kD,Flt.d,PD.flat,bH,atI_0,atI_1,atI_2,eqN_str,eqN_int,Z5e]
theorem leg_wires {C:Addr}(r:Row):cW C [r.d]=some (LI r.ws):=by
 cases r with
 | fix b=>simp [cW,runF,enStart,jI,atI_0,eqN_str,Row.d,LI,Row.ws]
 | not a=>simp [cW,runF,enStart,jI,atI_0,eqN_str,Row.d,LI,Row.ws,Y9,fSl,flats,PD.flat,Z3x,Z11,fX]
 | bin k a b=>simp [cW,runF,enStart,jI,atI_0,eqN_str,Row.d,LI,Row.ws,Z0,fSl,flats,PD.flat,Z3x,Z11,fX]
theorem Z0D {vs:List Int}(env:En) (he:env=[some (false,LI vs)]) (ws:List Int) (h:∀ a ∈ ws,0 <= a /\ a < vs.length):cT fTT (aV (fIx (aA 1) (aA 0))) env (ws.map D.int)=some ((ws.map (nth vs)).map D.int):=by
 subst he;rw [qX D.int (fun a=>.int (nth vs a)) ws fun a ha=>by simp [LI,iU (h a ha).1 (h a ha).2,PD.flat]];simp [Function.comp_def]
theorem leg_values {C:Addr}{r:Row}{w o:Int}{vs:List Int}{f:Flt}(hw:∀ a ∈ r.ws,0 <= a /\ a < vs.length) (hl:∀ w' l b,f=.leg w' l b->w'=w->0 <= l /\ l < r.ws.length) (hm:∀ w' l b,f=.leg w' l b->IntMulOk o b) :
  cV C [r.d,.int w,LI vs,.int o,f.d]=some (LI (legs r w vs o f)):=by
 have hlen:r.ws.length <= 1000:=by cases r <;> simp [Row.ws]
 have e1:∀ x:D,cC [2] (dM (aM (cW C) [] (aB (aA 0) aH))) fTT (aV (fIx (aA 1) (aA 0))) [some (false,r.d),some (false,.int w),some (false,LI vs),some (false,.int o),some (false,x),none]=some (LI (r.ws.map (nth vs))):=by
  intro x;simp only [cC,dM,aM,aB,aA,aH,List.getElem?_cons_zero,Option.join_some,Option.map_some,Option.bind_some,List.append_nil,leg_wires,LI,List.length_map,hlen,if_true];rw [Z0D (vs:=vs) (lO [2] _) (by simp [lO,LI]) r.ws hw];rfl
 cases f with
 | none=>simp [cV,runF,enStart,fV,e1,Flt.d,lF,legs]
 | wire w' b=>simp [cV,runF,enStart,fV,e1,Flt.d,lF,legs,atI_0,eqN_str,Z5d]
 | leg w' l b =>
  by_cases hww:w'=w
  .subst hww;obtain⟨l0,l1⟩:=hl _ l b rfl rfl;have hmm:=hm _ l b rfl;simp only [LI] at e1;have hfl:flats (List.map (D.int ∘ nth vs) r.ws)=true:=by have:=fF (r.ws.map (nth vs));simpa using this
   simp [cV,runF,enStart,fV,e1,Flt.d,lF,legs,atI_0,atI_1,atI_2,atI_3,eqN_str,eqN_int,A6,hmm,LI,Z21 l0 (by simpa using l1),hfl,PD.flat,List.map_set]
  .simp [cV,runF,enStart,fV,e1,Flt.d,lF,legs,atI_0,atI_1,atI_2,eqN_str,eqN_int,hww]
theorem gate_value {C:Addr}{r:Row}{ls:List Int}{o:Int}(hl:ls.length=r.ws.length) (hm:∀ b,r=.fix b->IntMulOk o b):dL C [r.d,LI ls,.int o]=some (.int (gN r ls o)):=by
 cases r with
 | fix b =>
  have:=hm b rfl;simp [dL,runF,enStart,iC,Row.d,atI_0,atI_1,PD.flat,eqN_str,this,gN]
 | not a =>
  have h0:atI (ls.map D.int) 0=some (.int (nth ls 0)):=iU (by decide) (by simp [Row.ws] at hl;omega);simp [dL,runF,enStart,iC,Row.d,atI_0,atI_1,PD.flat,eqN_str,gN,Y9,LI,h0]
 | bin k a b =>
  have h0:atI (ls.map D.int) 0=some (.int (nth ls 0)):=iU (by decide) (by simp [Row.ws] at hl;omega);have h1:atI (ls.map D.int) 1=some (.int (nth ls 1)):=iU (by decide) (by simp [Row.ws] at hl;omega);cases k <;> simp [dL,runF,enStart,iC,Row.d,atI_0,atI_1,PD.flat,eqN_str,gN,Z0,Z5g,Z5h,Z5f,LI,h0,h1]
theorem borne {C:Addr}{ins o:Int}{rows:List Row}{outs ss:List Int}{f:Flt}(hs:ss.length + rows.length <= 1000) (hr:RowsOk ss.length rows) (hf:FltOk ss.length rows f) :
  sA C [bC C ins rows outs,LI ss,.int o,f.d]=some (LI (dN o f (bL o f [] ss) rows)):=by
 have ow:∀ v w,dY C [.int v,.int w,.int o,f.d]=some (.int (bH v w o f)):=fun v w=>on_wire (.inr hf.w);refine cB ?_;unfold V6;refine mB (d:=.lst []) (by walk_at "ev") ?_;refine mC (ds:=ss.map D.int) (by walk_at "ev";rfl) (fun i env=>∃ s,env=[some (false,bC C ins rows outs),some (false,LI ss),some (false,.int o),some (false,f.d),some (true,LI (bL o f [] (ss.take i))),s,none,none,none]) ⟨none,rfl⟩ ?_ ?_
 .rintro i d env hd ⟨s,rfl⟩;obtain⟨x,hx,rfl⟩:=cQ hd;refine⟨_,_,rfl,?_,some (false,.int x),rfl⟩;have hi:i < ss.length:=(List.getElem?_eq_some_iff.mp hx).1;have hl:(bL o f [] (ss.take i)).length <= 1000:=by rw [eV];simp;omega
  rw [bT hx,kJ];simp [fI,cD,LI,ow,hl,List.map_append]
 rintro env ⟨s1,rfl⟩;rw [List.length_map,List.take_length];refine mC (dQ (pO (by rfl))) (fun i env=>∃ s a b c,env=[some (false,bC C ins rows outs),some (false,LI ss),some (false,.int o),some (false,f.d),some (true,LI (dN o f (bL o f [] ss) (rows.take i))),s,a,b,c]) ⟨s1,none,none,none,rfl⟩ ?_ ?_
 .rintro i d env hd ⟨s,a,b,c,rfl⟩;obtain⟨r,hx,rfl⟩:=cQ hd;have hi:i < rows.length:=(List.getElem?_eq_some_iff.mp hx).1;have hvl:(dN o f (bL o f [] ss) (rows.take i)).length=ss.length + i:=by rw [qE,eV];simp;omega
  generalize hvs:dN o f (bL o f [] ss) (rows.take i)=vs at hvl;have hrow:=hr i r hx;have lv:cV C [r.d,.int (vs.length:Int),LI vs,.int o,f.d]=some (LI (legs r vs.length vs o f)) :=
   leg_values (fun a ha=>by rw [hvl];exact hrow.ws a ha) (fun w' l b e hw=>hf.leg w' l b i r e hx (by rw [hw,hvl])) (fun w' l b e=>W7 (hf.l w' l b e))
  have gv:dL C [r.d,LI (legs r vs.length vs o f),.int o]=some (.int (gN r (legs r vs.length vs o f) o)):=gate_value (Z1P _ _ _ _ _) (fun b e=>W7 (by subst e;exact hrow));refine⟨_,_,rfl,?_,s,some (false,r.d),some (true,.int vs.length),some (true,LI (legs r vs.length vs o f)),rfl⟩;have hl:vs.length <= 1000:=by omega
  rw [bT hx,oG,hvs];simp only [LI] at lv gv;simp [fI,cD,LI,ow,hl,List.map_append,lv,gv]
 rintro env ⟨s2,a2,b2,c2,rfl⟩;rw [List.length_map,List.take_length];rfl
theorem at_outs {C:Addr}{ins:Int}{rows:List Row}{outs vs:List Int}(ho:outs.length <= 1000) (h:∀ a ∈ outs,0 <= a /\ a < vs.length):nB C [bC C ins rows outs,LI vs]=some (LI (outs.map (nth vs))):=by
 refine cB ?_;show bM _ [some (false,bC C ins rows outs),some (false,LI vs)]=_;unfold bM;rw [fG D.int (fun a=>.int (nth vs a)) (xs:=outs) (dQ (F4 (by rfl))) ho (fun a ha=>by simp [lO,LI,iU (h a ha).1 (h a ha).2,PD.flat])];simp [LI,Function.comp_def]
theorem iI (n:Nat):(1:Int) * 2 ^ (n:Int).toNat=((2 ^ n:Nat):Int):=by rw [Int.one_mul,Int.toNat_natCast];simp
theorem V8 (n:Nat):(1:Int) * 2 ^ ((2 ^ n:Nat):Int).toNat - 1=aT (2 ^ n):=by rw [Int.one_mul,Int.toNat_natCast];rfl
theorem xW {n:Nat}(h:n <= 8):(0:Int) <= ((2 ^ n:Nat):Int) /\ ((2 ^ n:Nat):Int) <= 256 :=
 ⟨Int.natCast_nonneg _,Int.ofNat_le.mpr (show 2 ^ n <= 256 from Nat.pow_le_pow_right (show 0 < 2 by decide) h)⟩
theorem full_table {C:Addr}{n:Nat}(h:n <= 8):bW C [.int n]=some (.int (aT (2 ^ n))):=by
 obtain⟨pb0,pb1⟩:=xW h;have p1:cO 1 (n:Int):=kG (by omega) (by omega);have p2:cO 1 ((2 ^ n:Nat):Int):=kG pb0 (Int.le_trans pb1 (by decide));have e1:=iI n;have e2:=V8 n;unfold bW pM;clear pb0 pb1 h;walk_at "ev"
theorem I0 (n:Nat) (b:Nat->Bool):Builtin.Int.intBits (tab n b) <= n:=by
 rw [PySem.intBits_le_iff];unfold tab;have:=eE n b;simpa using this
theorem Z0L (n:Nat):Builtin.Int.intBits (aT n) <= n:=by rw [<- pA];exact I0 n _
theorem input_tables {C:Addr}{n:Nat}(h:n <= 8):fS C [.int n]=some (LI (inT n)):=by
 refine cB ?_;unfold mO;refine mB (d:=.lst []) (by walk_at "ev") ?_;refine mC (ds:=(List.range n).map fun (k:Nat)=>.int (k:Int)) (fL (xs:=[.int (n:Int)]) (by walk_at "ev") (T4 (by omega)))
  (fun i env=>∃ a b,env=[some (false,.int n),some (true,LI (inT i)),a,b]) ⟨none,none,rfl⟩ ?_ ?_
 .rintro i d env hd ⟨a,b,rfl⟩;obtain⟨hi,rfl⟩:=jX hd;obtain⟨pb0,pb1⟩:=xW (show i <= 8 by omega);have pb2:∀ m:Nat,m=2 ^ i->(m:Int) + ((2 ^ i:Nat):Int) <= 100000000:=fun m e=>by subst e;exact Int.le_trans (Int.add_le_add pb1 pb1) (by decide)
  have p1:cO 1 (i:Int):=kG (by omega) (by omega);have e1:=iI i;have ft:=full_table (C:=C) (n:=i) (by omega);refine⟨_,_,rfl,?_,some (false,.int i),some (true,.int ((2 ^ i:Nat):Int)),rfl⟩;refine mB (d:=.int ((2 ^ i:Nat):Int)) (by clear pb0 pb1 pb2;walk_at "ev") ?_;refine mB (fG D.int (fun t=>.int (Builtin.bitOr t (t * 2 ^ (2 ^ i)))) (xs:=inT i) (by rfl) (by rw [fT];omega) (fun t ht=>?_)) ?_
  .obtain⟨j,hj⟩:=List.getElem?_of_mem ht;have hj2:j < i:=by have:=(List.getElem?_eq_some_iff.mp hj).1;rwa [fT] at this
   rw [sC i j hj2] at hj;have p3:cO t ((2 ^ i:Nat):Int):=by
    rw [<- Option.some.inj hj];exact yV (I0 _ _) pb0 (pb2 _ rfl)
   show fI0 _ (aA 0) _ [some (false,.int t),some (true,.int ((2 ^ i:Nat):Int))]=_;clear pb0 pb1 pb2 hj;walk_at "ev";rw [Int.toNat_natCast]
  .have p4:cO (aT (2 ^ i)) ((2 ^ i:Nat):Int):=yV (Z0L _) pb0 (pb2 _ rfl);refine (iY (d:=.int (aT (2 ^ i) * 2 ^ (2 ^ i))) ?_ rfl (by rw [List.length_map,fT];omega)).trans ?_
   .clear pb0 pb1 pb2;walk_at "ev";rw [Int.toNat_natCast]
   .simp only [inT,LI,List.map_append,List.map_map,List.map_cons,List.map_nil];rfl
 .rintro env ⟨a,b,rfl⟩;rw [List.length_map,List.length_range];rfl
theorem X7 {C:Addr}{ins:Nat}{rows:List Row}{outs:List Int}{f:Flt}(hi:ins <= 8) (hs:ins + rows.length <= 1000) (hr:RowsOk ins rows) (hf:FltOk ins rows f) :
  iO C [bC C ins rows outs,f.d]=some (LI (aZ ins rows f)):=by
 have gl:=fT ins;have b:=borne (C:=C) (ins:=ins) (o:=aT (2 ^ ins)) (rows:=rows) (outs:=outs) (ss:=inT ins) (f:=f) (by rw [gl];exact hs) (by rw [gl];exact hr) (by rw [gl];exact hf);have it:=input_tables (C:=C) hi;have ft:=full_table (C:=C) hi;refine cB (eR (aN (xs:=[bC C ins rows outs,LI (inT ins),.int (aT (2 ^ ins)),f.d]) ?_ b));refine aL rfl (aL (aN (xs:=[.int ins]) (aL (jJ (by rfl)) rfl) it) (aL (aN (xs:=[.int ins]) (aL (jJ (by rfl)) rfl) ft) (aL rfl rfl)))
theorem nU {C:Addr}{ins:Nat}{rows:List Row}{outs:List Int}{f:Flt}(hi:ins <= 8) (hs:ins + rows.length <= 1000) (hr:RowsOk ins rows) (hf:FltOk ins rows f) (hl:outs.length <= 1000) (ho:∀ a ∈ outs,0 <= a /\ a < ((ins + rows.length:Nat):Int)) :
  cK C [bC C ins rows outs,f.d]=some (LI (outs.map (nth (aZ ins rows f)))):=by
 have e1:=X7 (C:=C) (outs:=outs) hi hs hr hf;have e2:=at_outs (C:=C) (ins:=ins) (rows:=rows) (outs:=outs) (vs:=aZ ins rows f) hl (fun a ha=>by rw [gT];exact ho a ha);exact cB (eR (aN (xs:=[bC C ins rows outs,LI (aZ ins rows f)]) (aL rfl (aL (aN (xs:=[bC C ins rows outs,f.d]) rfl e1) rfl)) e2))
theorem vN {A B:List Int}:∀ (outs:List Int),nN ((outs.map (nth A)).map D.int) ((outs.map (nth B)).map D.int)=outs.map fun a=>.tup [.int (nth A a),.int (nth B a)]
 | []=>rfl
 | a :: outs=>by simp only [List.map_cons,nN];rw [vN outs]
theorem yT {C:Addr}{A B outs:List Int}:jF C [LI (outs.map (nth A)),LI (outs.map (nth B))]=some (.int (oY A B outs)):=by
 refine cB ?_;unfold rK;refine mB (d:=.int 0) (by walk_at "ev") ?_;refine mC (ds:=outs.map fun a=>.tup [.int (nth A a),.int (nth B a)]) (fL (xs:=[LI (outs.map (nth A)),LI (outs.map (nth B))]) rfl (by simp only [Z0P,LI,vN]))
  (fun i env=>∃ a b,env=[some (false,LI (outs.map (nth A))),some (false,LI (outs.map (nth B))),some (true,.int (oY A B (outs.take i))),a,b]) ⟨none,none,rfl⟩ ?_ ?_
 .rintro i d env hd ⟨a,b,rfl⟩;obtain⟨x,hx,rfl⟩:=cQ hd;refine⟨_,_,rfl,?_,some (false,.int (nth A x)),some (false,.int (nth B x)),rfl⟩;rw [sK hx];rfl
 .rintro env ⟨a,b,rfl⟩;rw [List.length_map,List.take_length];rfl
noncomputable def dF (ins:Nat) (rows:List Row) (outs:List Int) (f:Flt):Int:=oY (aZ ins rows .none) (aZ ins rows f) outs
theorem zN {C:Addr}{ins:Nat}{rows:List Row}{outs:List Int}{fs:List Flt}(hi:ins <= 8) (hs:ins + rows.length <= 1000) (hr:RowsOk ins rows) (hf:∀ f ∈ fs,FltOk ins rows f) (hl:outs.length <= 1000) (ho:∀ a ∈ outs,0 <= a /\ a < ((ins + rows.length:Nat):Int)) (hfl:fs.length <= 1000) :
  kU C [bC C ins rows outs,.lst (fs.map Flt.d)]=some (LI (fs.map (dF ins rows outs))):=by
 have o0:cK C [bC C ins rows outs,.non]=some (LI (outs.map (nth (aZ ins rows .none)))):=nU (f:=.none) hi hs hr .no hl ho;refine cB ?_;unfold tW;refine mB (aN (xs:=[bC C ins rows outs]) rfl o0) ?_;refine eR ?_;rw [fG Flt.d (fun f=>.int (dF ins rows outs f)) (xs:=fs) (by rfl) hfl (fun f hf'=>?_)]
 .simp [LI,Function.comp_def]
 .have of:=nU (C:=C) (outs:=outs) hi hs hr (hf f hf') hl ho;exact aN (xs:=[LI (outs.map (nth (aZ ins rows .none))),LI (outs.map (nth (aZ ins rows f)))]) (aL rfl (aL (aN (xs:=[bC C ins rows outs,f.d]) rfl of) rfl)) yT
theorem nR {C:Addr}{ins:Nat}{rows:List Row}{outs:List Int}{w:Int}(h1:w < ((ins + rows.length:Nat):Int)):cJ C [bC C ins rows outs,.int w]=some (LI (bB ins rows w)):=by
 have fi:=jJ (C:=C) (ins:=ins) (rows:=rows) (outs:=outs) (fa:=aA 0) (env:=[some (false,bC C ins rows outs),some (false,.int w)]) rfl;have fr:=pO (C:=C) (ins:=ins) (rows:=rows) (outs:=outs) (fa:=aA 0) (env:=[some (false,bC C ins rows outs),some (false,.int w)]) rfl;refine cB ?_;show kZ C [some (false,bC C ins rows outs),some (false,.int w)]=_;unfold kZ;by_cases h:w < (ins:Int)
 .rw [nC h];refine Z1 ?_ (vW rfl);clear fr;walk_at "ev"
 .have hk:(w - (ins:Int)).toNat < rows.length:=by omega
  have hr1:=List.getElem?_eq_getElem hk;generalize rows[(w - (ins:Int)).toNat]=r at hr1;have ea:=pS hr1 (a:=w - (ins:Int)) (by omega);rw [kW (by omega) hr1];refine sNo (by clear fr ea;walk_at "ev") ?_;refine eR (aN (xs:=[r.d]) (aL ?_ rfl) (leg_wires r));walk_at "ev"
theorem kH {C:Addr}{ins:Nat}{rows:List Row}{outs:List Int}{w:Int}(h1:w < ((ins + rows.length:Nat):Int)):bF C [bC C ins rows outs,.int w]=some (LI (cN ins rows w)):=by
 have fi:=jJ (C:=C) (ins:=ins) (rows:=rows) (outs:=outs) (fa:=aA 0) (env:=[some (false,bC C ins rows outs),some (false,.int w)]) rfl;have fr:=pO (C:=C) (ins:=ins) (rows:=rows) (outs:=outs) (fa:=aA 0) (env:=[some (false,bC C ins rows outs),some (false,.int w)]) rfl;refine cB ?_;show hJ C [some (false,bC C ins rows outs),some (false,.int w)]=_;unfold hJ cN;by_cases h:w < (ins:Int)
 .have h':¬ (ins:Int) <= w:=by omega
  rw [if_pos h];refine sNo (by clear fr;walk_at "ev") rfl
 .have h':(ins:Int) <= w:=by omega
  have hk:(w - (ins:Int)).toNat < rows.length:=by omega
  have hr1:=List.getElem?_eq_getElem hk;generalize rows[(w - (ins:Int)).toNat]=r at hr1;have ea:=pS hr1 (a:=w - (ins:Int)) (by omega);rw [if_neg h,hr1];cases r with
  | fix b =>
   have e1:=Z2F;simp only [Row.d] at ea;refine Z1 (by walk_at "ev") (vW ?_);simp only [LI,List.map_cons,List.map_nil];walk_at "ev"
  | not a =>
   have e1:=Y9;simp only [Row.d] at ea;exact sNo (by walk_at "ev") rfl
  | bin k a b =>
   have e1:=Z0 k;simp only [Row.d] at ea;exact sNo (by walk_at "ev") rfl
theorem Z6l {a b:Int}{n:Nat}(h:a - b=(n:Int)) (h1:-1000 <= b) (h2:a <= 1000):K4 [.int a,.int b,.int (-1)]=some ((List.range n).map fun (k:Nat)=>.int (a - (k:Int))):=by
 simp only [K4];rw [if_pos (by refine⟨⟨by omega,by omega,by omega,by omega⟩,trivial⟩),h,Int.toNat_natCast]
theorem Z0g {C:Addr}{ins:Nat}{rows:List Row}{outs:List Int}(hs:ins + rows.length < 64) (hl:outs.length <= 100) (hr:RowsOk ins rows) (ho:∀ a ∈ outs,0 <= a /\ a < ((ins + rows.length:Nat):Int)) :
  pI C [bC C ins rows outs]=some (LI (lH ins rows outs)):=by
 refine cB ?_;unfold E7;refine mB (d:=dKT []) rfl ?_;refine mC (dQ (F4 (by rfl))) (fun i env=>∃ a,env=[some (false,bC C ins rows outs),some (true,dKT (cE [] (outs.take i))),a,none,none]) ⟨none,rfl⟩ ?_ ?_
 .rintro i d env hd ⟨a,rfl⟩;obtain⟨x,hx,rfl⟩:=cQ hd;refine⟨_,_,rfl,sZ (ks:=cE [] (outs.take i)) (k:=x) rfl rfl rfl ?_,some (false,.int x),by rw [jK hx];rfl⟩;have:=iV (xs:=outs.take i) (ks:=[]);rw [List.length_take,List.length_nil] at this;omega
 rintro env ⟨a,rfl⟩;rw [List.length_map,List.take_length];have el:cD [.lst (rows.map Row.d)]=some (.int (rows.length:Int)):=by simp only [cD,List.length_map]
 refine mC (ds:=(List.range rows.length).map fun (k:Nat)=>.int (((ins + rows.length:Nat):Int) - 1 - (k:Int))) (fL (xs:=[.int (((ins + rows.length:Nat):Int) - 1),.int ((ins:Int) - 1),.int (-1)]) ?_ (Z6l (by omega) (by omega) (by omega)))
  (fun i env=>∃ a b c,env=[some (false,bC C ins rows outs),some (true,dKT (eO ins rows outs i)),a,b,c]) ⟨a,none,none,rfl⟩ ?_ ?_
 .have fi:=jJ (C:=C) (ins:=ins) (rows:=rows) (outs:=outs) (fa:=aA 0) (env:=[some (false,bC C ins rows outs),some (true,dKT (cE [] outs)),a,none,none]) rfl;have fr:=pO (C:=C) (ins:=ins) (rows:=rows) (outs:=outs) (fa:=aA 0) (env:=[some (false,bC C ins rows outs),some (true,dKT (cE [] outs)),a,none,none]) rfl;rw [show ((ins + rows.length:Nat):Int)=(ins:Int) + (rows.length:Int) by omega];clear hr ho hs hl;walk_at "ev"
 .rintro i d env hd ⟨a,b,c,rfl⟩;obtain⟨hi,rfl⟩:=jX hd;have hnl:=wE hr ho i;by_cases hw:(((ins + rows.length:Nat):Int) - 1 - (i:Int)) ∈ eO ins rows outs i
  .generalize hW:((ins + rows.length:Nat):Int) - 1 - (i:Int)=W at *
   have so:=nR (C:=C) (ins:=ins) (rows:=rows) (outs:=outs) (w:=W) (by omega);have hll:=iR (ins:=ins) (rows:=rows) (w:=W);obtain⟨env',h1,⟨z,rfl⟩⟩:=A7 (rs:=[]) (src:=dM (aM (cJ C) [] (aB (aA 0) (aB (aA 3) aH)))) (t:=gtN 4) (g:=tE 1 (aA 4) (fC (.bl true))) (env:=[some (false,bC C ins rows outs),some (true,dKT (eO ins rows outs i)),a,some (false,.int W),c]) (ds:=(bB ins rows W).map D.int)
    (dQ (aN (xs:=[bC C ins rows outs,.int W]) rfl so))
    (fun j env=>∃ z,env=[some (false,bC C ins rows outs),some (true,dKT (cE (eO ins rows outs i) ((bB ins rows W).take j))),a,some (false,.int W),z]) ⟨c,rfl⟩ (by
     rintro j d env hd ⟨z,rfl⟩;obtain⟨x,hx,rfl⟩:=cQ hd;refine⟨_,_,rfl,sZ (ks:=cE (eO ins rows outs i) ((bB ins rows W).take j)) (k:=x) rfl rfl rfl ?_,some (false,.int x),by rw [jK hx];rfl⟩;have:=iV (xs:=(bB ins rows W).take j) (ks:=eO ins rows outs i);rw [List.length_take] at this;omega)
   rw [List.length_map,List.take_length] at h1;refine⟨_,_,rfl,Z17 ?_ h1,a,some (false,.int W),z,?_⟩
   .show Q3 (aA 3) (aA 1) [some (false,bC C ins rows outs),some (true,dKT (eO ins rows outs i)),a,some (false,.int W),c]=some true;simp only [ev_InK,ev_var,List.getElem?_cons_zero,List.getElem?_cons_succ,Option.join_some,Option.map_some,dKT,keyOf,pH,hw,decide_true]
   .simp only [eO];rw [hW,if_pos hw]
  .generalize hW:((ins + rows.length:Nat):Int) - 1 - (i:Int)=W at *
   refine⟨_,_,rfl,Z2M ?_ rfl,a,some (false,.int W),c,?_⟩
   .show Q3 (aA 3) (aA 1) [some (false,bC C ins rows outs),some (true,dKT (eO ins rows outs i)),a,some (false,.int W),c]=some false;simp only [ev_InK,ev_var,List.getElem?_cons_zero,List.getElem?_cons_succ,Option.join_some,Option.map_some,dKT,keyOf,pH,hw,decide_false]
   .simp only [eO];rw [hW,if_neg hw];rfl
 rintro env ⟨a,b,c,rfl⟩;rw [List.length_map,List.length_range];have hnl:=wE hr ho rows.length;refine eR (fW (xs:=[dKT (eO ins rows outs rows.length)]) rfl ?_);unfold zG dKT;simp only [P3];rw [if_pos (by omega)];rfl
theorem Z0O {ins:Nat}{rows:List Row}{C:Addr}{outs:List Int}{w:Int}{base:List D}(hb:base.length <= 900) (a3 a4 a5:Slot) (so:bF C [bC C ins rows outs,.int w]=some (LI (cN ins rows w))) :
  ∃ z,dR [] (dM (aM (bF C) [] (aB (aA 0) (aB (aA 2) aH)))) (gtN 3) (fI 1 (fJ (aB (fC (.str "wire")) (aB (aV (aA 2)) (aB (aV (aA 3)) aH)))))
   [some (false,bC C ins rows outs),some (true,.lst base),some (false,.int w),a3,a4,a5]=.next [some (false,bC C ins rows outs),some (true,.lst (base ++ ((cN ins rows w).map fun b=>Flt.wire w b).map Flt.d)),some (false,.int w),z,a4,a5]:=by
 have hbl:=eU (ins:=ins) (rows:=rows) (w:=w);obtain⟨env',h1,⟨z,rfl⟩⟩:=A7 (rs:=[]) (src:=dM (aM (bF C) [] (aB (aA 0) (aB (aA 2) aH)))) (t:=gtN 3) (g:=fI 1 (fJ (aB (fC (.str "wire")) (aB (aV (aA 2)) (aB (aV (aA 3)) aH)))))
  (env:=[some (false,bC C ins rows outs),some (true,.lst base),some (false,.int w),a3,a4,a5]) (ds:=(cN ins rows w).map D.int) (dQ (aN (xs:=[bC C ins rows outs,.int w]) rfl so))
  (fun j env=>∃ z,env=[some (false,bC C ins rows outs),some (true,.lst (base ++ (((cN ins rows w).take j).map fun b=>Flt.wire w b).map Flt.d)),some (false,.int w),z,a4,a5]) ⟨a3,by simp [PD.fz]⟩ (by
   rintro j d env hd ⟨z,rfl⟩;obtain⟨x,hx,rfl⟩:=cQ hd;refine⟨_,_,rfl,iY (d:=(Flt.wire w x).d) rfl rfl ?_,some (false,.int x),?_⟩
   .rw [List.length_append,List.length_map,List.length_map,List.length_take];omega
   .rw [bT hx];simp only [List.map_append,List.map_cons,List.map_nil,<- List.append_assoc];rfl)
 rw [List.length_map,List.take_length] at h1;exact⟨z,h1⟩
theorem Z2o {ins:Nat}{rows:List Row}{C:Addr}{outs:List Int}{w:Int}{base:List D}(hb:base.length <= 900) (a3 a4 a5:Slot) (sl:cJ C [bC C ins rows outs,.int w]=some (LI (bB ins rows w))) (so:∀ a ∈ bB ins rows w,bF C [bC C ins rows outs,.int a]=some (LI (cN ins rows a))) :
  ∃ x y z,dR [] (sB1 mU (aB (aM (cJ C) [] (aB (aA 0) (aB (aA 2) aH))) aH)) (gtT [4,5]) (dR [] (dM (aM (bF C) [] (aB (aA 0) (aB (aA 5) aH)))) (gtN 3) (fI 1 (fJ (aB (fC (.str "leg")) (aB (aV (aA 2)) (aB (aV (aA 4)) (aB (aV (aA 3)) aH)))))))
   [some (false,bC C ins rows outs),some (true,.lst base),some (false,.int w),a3,a4,a5]=.next [some (false,bC C ins rows outs),some (true,.lst (base ++ (bN ins rows w 0 (bB ins rows w)).map Flt.d)),some (false,.int w),x,y,z]:=by
 have hll:=iR (ins:=ins) (rows:=rows) (w:=w);obtain⟨env',h1,⟨x,y,z,rfl⟩⟩:=A7 (rs:=[]) (src:=sB1 mU (aB (aM (cJ C) [] (aB (aA 0) (aB (aA 2) aH))) aH)) (t:=gtT [4,5]) (g:=dR [] (dM (aM (bF C) [] (aB (aA 0) (aB (aA 5) aH)))) (gtN 3) (fI 1 (fJ (aB (fC (.str "leg")) (aB (aV (aA 2)) (aB (aV (aA 4)) (aB (aV (aA 3)) aH)))))))
  (env:=[some (false,bC C ins rows outs),some (true,.lst base),some (false,.int w),a3,a4,a5]) (ds:=((bB ins rows w).map D.int).mapIdx fun i d=>.tup [.int i,d]) (fL (xs:=[LI (bB ins rows w)]) (aL (aN (xs:=[bC C ins rows outs,.int w]) rfl sl) rfl) (by simp only [mU,LI]))
  (fun j env=>∃ x y z,env=[some (false,bC C ins rows outs),some (true,.lst (base ++ (bN ins rows w 0 ((bB ins rows w).take j)).map Flt.d)),some (false,.int w),x,y,z]) ⟨a3,a4,a5,by simp [PD.fz,bN]⟩ (by
   rintro j d env hd ⟨x,y,z,rfl⟩;obtain⟨e,he,rfl⟩:=oO hd;obtain⟨a,ha,rfl⟩:=cQ he;have sa:=so a (List.mem_of_getElem? ha);have hbl:=eU (ins:=ins) (rows:=rows) (w:=a);have hfl:=gQ (ins:=ins) (rows:=rows) (w:=w) ((bB ins rows w).take j) 0;rw [List.length_take] at hfl;generalize hB:base ++ (bN ins rows w 0 ((bB ins rows w).take j)).map Flt.d=B at *
   have hBl:B.length <= 950:=by rw [<- hB,List.length_append,List.length_map];omega
   obtain⟨env',h1,⟨z',rfl⟩⟩:=A7 (rs:=[]) (src:=dM (aM (bF C) [] (aB (aA 0) (aB (aA 5) aH)))) (t:=gtN 3) (g:=fI 1 (fJ (aB (fC (.str "leg")) (aB (aV (aA 2)) (aB (aV (aA 4)) (aB (aV (aA 3)) aH))))))
    (env:=[some (false,bC C ins rows outs),some (true,.lst B),some (false,.int w),x,some (false,.int j),some (false,.int a)]) (ds:=(cN ins rows a).map D.int) (dQ (aN (xs:=[bC C ins rows outs,.int a]) rfl sa))
    (fun l env=>∃ z',env=[some (false,bC C ins rows outs),some (true,.lst (B ++ (((cN ins rows a).take l).map fun b=>Flt.leg w (j:Int) b).map Flt.d)),some (false,.int w),z',some (false,.int j),some (false,.int a)]) ⟨x,by simp [PD.fz]⟩ (by
     rintro l d env hd ⟨z',rfl⟩;obtain⟨b,hb',rfl⟩:=cQ hd;refine⟨_,_,rfl,iY (d:=(Flt.leg w (j:Int) b).d) rfl rfl ?_,some (false,.int b),?_⟩
     .rw [List.length_append,List.length_map,List.length_map,List.length_take];omega
     .rw [bT hb'];simp only [List.map_append,List.map_cons,List.map_nil,<- List.append_assoc];rfl)
   rw [List.length_map,List.take_length] at h1;refine⟨_,_,rfl,h1,z',some (false,.int j),some (false,.int a),?_⟩;rw [mK ha,List.map_append,<- List.append_assoc,hB])
 rw [List.length_mapIdx,List.length_map,List.take_length] at h1;exact⟨x,y,z,h1⟩
theorem vL {C:Addr}{ins:Nat}{rows:List Row}{outs:List Int}(hs:ins + rows.length < 64) (hl:outs.length <= 100) (hr:RowsOk ins rows) (ho:∀ a ∈ outs,0 <= a /\ a < ((ins + rows.length:Nat):Int)) :
  iB C [bC C ins rows outs]=some (.lst ((cF ins rows outs).map Flt.d)):=by
 have nd:=Z0g (C:=C) hs hl hr ho;have nb:=rB hr ho;have nl:=qJ hr ho;refine cB ?_;unfold pN cF;generalize lH ins rows outs=N at *
 refine mB (d:=.lst []) rfl ?_;refine mC (ds:=N.map D.int) (dQ (aN (xs:=[bC C ins rows outs]) rfl nd))
  (fun i env=>∃ a b c d,env=[some (false,bC C ins rows outs),some (true,.lst (((N.take i).flatMap (bX ins rows)).map Flt.d)),a,b,c,d]) ⟨none,none,none,none,rfl⟩ ?_ ?_
 .rintro i d env hd ⟨a,b,c,e,rfl⟩;obtain⟨w,hw,rfl⟩:=cQ hd;have hwb:=nb w (List.mem_of_getElem? hw);have hil:i < N.length:=(List.getElem?_eq_some_iff.mp hw).1;have fl:=pP (ins:=ins) (rows:=rows) (N.take i);rw [List.length_take] at fl;rw [wQ hw];generalize hB:(N.take i).flatMap (bX ins rows)=B at *
  have hBl:(B.map Flt.d).length <= 400:=by rw [List.length_map];omega
  obtain⟨z,h1⟩:=Z0O (C:=C) (outs:=outs) (w:=w) (base:=B.map Flt.d) (by omega) b c e (kH hwb.2);have hbl:=eU (ins:=ins) (rows:=rows) (w:=w);obtain⟨x',y',z',h2⟩:=Z2o (C:=C) (outs:=outs) (w:=w) (base:=B.map Flt.d ++ ((cN ins rows w).map fun b=>Flt.wire w b).map Flt.d) (by rw [List.length_append,List.length_map,List.length_map,List.length_map];rw [List.length_map] at hBl;omega) z c e (nR hwb.2)
   (fun a ha=>kH (by have:=iF hr ha;omega))
  refine⟨_,_,rfl,Z2E h1 h2,some (false,.int w),x',y',z',?_⟩;unfold bX;simp only [List.map_append,List.append_assoc]
 .rintro env ⟨a,b,c,e,rfl⟩;rw [List.length_map,List.take_length];rfl
theorem U9 {C:Addr}{c k:Int}(hc:Builtin.Int.intBits c <= 1048700) (hk:0 <= k):∃ m,0 <= m /\ m < 2147483648 /\ eZ C [.int c,.int k]=some (.int m):=by
 have p1:Z3E 10 40:=⟨by decide,by decide,by decide⟩;have p2:cO 1 (31 * (k % 60)):=kG (by omega) (by omega);have p3:cO 1 31:=kG (by decide) (by decide);have m1:IntMulOk 31 (k % 60):=jD (by decide) (by decide);have m2:IntMulOk c c:=PySem.IntMulOk.of_le hc hc (by decide);have m3:IntMulOk 3 c:=jD (by decide) (by decide);have m4:IntMulOk 7919 k:=jD (by decide) (by decide);have m5:∀ x,IntMulOk x 48271:=fun x=>yH (by decide) (by decide);have q1:(0:Int) < 60:=by decide
 have q2:(0:Int) < 1 * 2 ^ Int.toNat 31:=by decide
 have q3:(0:Int) < 2147483629:=by decide
 have q4:(0:Int) < 2147483587:=by decide
 have d1:cG (c - 10 ^ Int.toNat 40) (1 * 2 ^ (31 * (k % 60)).toNat):=G7 (by omega);by_cases h:(10:Int) ^ Int.toNat 40 <= c
 .refine⟨(c - 10 ^ Int.toNat 40) / (1 * 2 ^ (31 * (k % 60)).toNat) % (1 * 2 ^ Int.toNat 31),Int.emod_nonneg _ (by decide),Int.emod_lt_of_pos _ (by decide),?_⟩;unfold eZ qT;walk_at "ev"
 .refine⟨((c * c + 3 * c + 7919 * k + 1) * 48271 % 2147483629 * ((c * c + 3 * c + 7919 * k + 1) * 48271 % 2147483629) + 7) % 2147483587,Int.emod_nonneg _ (by decide),Int.lt_trans (Int.emod_lt_of_pos _ (by decide)) (by decide),?_⟩;have n0:=Int.emod_nonneg ((c * c + 3 * c + 7919 * k + 1) * 48271) (show (2147483629:Int) ≠ 0 by decide);have n1:=Int.emod_lt_of_pos ((c * c + 3 * c + 7919 * k + 1) * 48271) (show (0:Int) < 2147483629 by decide);have m6:IntMulOk ((c * c + 3 * c + 7919 * k + 1) * 48271 % 2147483629) ((c * c + 3 * c + 7919 * k + 1) * 48271 % 2147483629):=jD (by omega) (by omega);unfold eZ qT;walk_at "ev"
theorem Z5w (x:Int):∃ k:Kd,atI [D.str "and",.str "or",.str "xor",.str "and",.str "or"] (x % 5)=some (.str k.s):=by
 have h0:=Int.emod_nonneg x (show (5:Int) ≠ 0 by decide);have h1:=Int.emod_lt_of_pos x (show (0:Int) < 5 by decide);generalize x % 5=y at *
 have:y=0 \/ y=1 \/ y=2 \/ y=3 \/ y=4:=by omega
 rcases this with rfl | rfl | rfl | rfl | rfl
 .exact⟨.and,rfl⟩
 .exact⟨.or,rfl⟩
 .exact⟨.xor,rfl⟩
 .exact⟨.and,rfl⟩
 .exact⟨.or,rfl⟩
theorem Z5F {C:Addr}{m w:Int}{nr:Bool}(hm:0 <= m) (hw:0 < w):∃ r,RowOk w r /\ nA C [.int m,.int w,.bl nr]=some r.d:=by
 obtain⟨k,hk⟩:=Z5w (m % 11);have d1:cG m 11:=⟨by decide,by decide⟩;have d2:cG m 1009:=⟨by decide,by decide⟩;have d3:cG m 7:=⟨by decide,by decide⟩;have d4:cG m 13:=⟨by decide,by decide⟩;have d5:cG m 5:=⟨by decide,by decide⟩;have q1:(0:Int) < 2:=by decide
 have q2:(0:Int) < 11:=by decide
 have q3:(0:Int) < 5:=by decide
 have e1:Z3C [.int w,.int 3]=some (.int (if 3 < w then 3 else w)):=rfl;have a0:=Int.emod_nonneg (m / 11) (show w ≠ 0 by omega);have a1:=Int.emod_lt_of_pos (m / 11) hw;have b0:=Int.emod_nonneg (m / 1009) (show w ≠ 0 by omega);have b1:=Int.emod_lt_of_pos (m / 1009) hw;generalize hmn:(if 3 < w then 3 else w)=mn at e1;have q4:0 < mn:=by rw [<- hmn];split <;> omega
 have q5:mn <= w:=by rw [<- hmn];split <;> omega
 have c0:=Int.emod_nonneg (m / 13) (show mn ≠ 0 by omega);have c1:=Int.emod_lt_of_pos (m / 13) q4;have f0:=Int.emod_nonneg (m / 5) (show (2:Int) ≠ 0 by decide);have f1:=Int.emod_lt_of_pos (m / 5) q1;have key:∃ o,0 <= o /\ o < w /\ nA C [.int m,.int w,.bl nr]=runF 6 (fun _=>(aK (bI 5 (fI2 (fun _ j=>0 < j) (fun i j=>.int (i % j)) (aA 0) (fC (.int 11))))
  (aK (rIf (fEq (aA 5) (fC (.int 0))) (bM (fJ (aB (fC (.str "fix")) (aB (fI2 (fun _ j=>0 < j) (fun i j=>.int (i % j)) (fI2 cG (fun i j=>.int (i / j)) (aA 0) (fC (.int 5))) (fC (.int 2))) aH)))) bD)
  (aK (rIf (fBI (fun i j=>decide (i < j)) (aA 5) (fC (.int 3))) (bM (fJ (aB (fC (.str "not")) (aB (aV (aA 3)) aH)))) bD)
  (bM (fJ (aB (aV (fIx (fY (aB (fC (.str "and")) (aB (fC (.str "or")) (aB (fC (.str "xor")) (aB (fC (.str "and")) (aB (fC (.str "or")) aH)))))) (fI2 (fun _ j=>0 < j) (fun i j=>.int (i % j)) (aA 5) (fC (.int 5))))) (aB (aV (aA 3)) (aB (aV (aA 4)) aH)))))))) [some (false,.int m),some (false,.int w),some (false,.bl nr),some (true,.int o),some (true,.int (m / 1009 % w)),none]) []:=by
  unfold nA V5;cases nr with
  | false =>
   refine⟨m / 11 % w,a0,a1,?_⟩;walk_at "ev"
  | true =>
   by_cases h:m / 7 % 2=1
   .refine⟨w - 1 - m / 13 % mn,by omega,by omega,?_⟩;walk_at "ev"
   .refine⟨m / 11 % w,a0,a1,?_⟩;walk_at "ev"
 obtain⟨o,o0,o1,hkey⟩:=key;rw [hkey];by_cases h0:m % 11=0
 .refine⟨.fix (m / 5 % 2),by show _ \/ _;omega,?_⟩;walk_at "ev";rfl
 .by_cases h1:m % 11 < 3
  .refine⟨.not o,⟨o0,o1⟩,?_⟩;walk_at "ev";rfl
  .refine⟨.bin k o (m / 1009 % w),⟨⟨o0,o1⟩,b0,b1⟩,?_⟩;walk_at "ev";rfl
theorem J4:∀ (xs:List Int) (n:Nat),(∀ c ∈ xs,Builtin.Int.intBits c <= n)->Builtin.Int.intBits xs.sum <= n + xs.length
 | [],n,_=>by simp [Builtin.Int.intBits]
 | x :: xs,n,h=>by
  rw [List.sum_cons];have h1:=h x List.mem_cons_self;have h2:=J4 xs n fun c hc=>h c (List.mem_cons_of_mem _ hc);have:=PySem.intBits_add_le h1 h2;rw [List.length_cons];omega
theorem RowsOk.snoc {ins:Nat}{rows:List Row}{r:Row}(h:RowsOk ins rows) (hr:RowOk ((ins + rows.length:Nat):Int) r):RowsOk ins (rows ++ [r]):=by
 intro k r' e;by_cases hk:k < rows.length
 .rw [List.getElem?_append_left hk] at e;exact h k r' e
 .rw [List.getElem?_append_right (by omega)] at e;have:k - rows.length=0:=by
   by_cases z:k - rows.length=0
   .exact z
   .rw [List.getElem?_eq_none (by simp;omega)] at e;cases e
  rw [this] at e;simp at e;subst e;have:k=rows.length:=by omega
  rw [this];exact hr
theorem Z0K {cells:List Int}(hb:∀ c ∈ cells,Builtin.Int.intBits c <= 1048576):Builtin.Int.intBits ((cells.take 9).sum + 5) <= 1048700:=by
 have h1:=J4 (cells.take 9) 1048576 fun c hc=>hb c (List.mem_of_mem_take hc);have h2:Builtin.Int.intBits 5 <= 64:=PySem.intBits_le_64 (by decide) (by decide);have h3:=PySem.intBits_add_le h1 h2;have h4:(cells.take 9).length <= 9:=by simp;omega
 omega
theorem tS {C:Addr}{cells:List Int}{ins most many B:Nat}{a b c:Slot}(hb:∀ c ∈ cells,Builtin.Int.intBits c <= 1048576) (hi:ins <= 8) (hm:most <= 60) (hB:B <= 60) (hmany:many <= 15) (rows:List Row) (hr:RowsOk ins rows) (hl:rows.length <= B) (hp:0 < ins + rows.length) :
 Wp ((aK (bI 8 (fI0 (fun i j=>.int (i - j)) (fI0 (fun i j=>.int (i + j)) (aA 1) (fB1 cD (aB (aA 4) aH))) (fC (.int 1))))
 (aK (bI 9 (fY aH))
 (aK (dR [] (sB1 eQ (aB (fI0 (fun i j=>.int (i + j)) (aA 3) (fC (.int 1))) aH)) (gtN 5) (aK (bI 7 (aM (eZ C) [] (aB (fI0 (fun i j=>.int (i + j)) (fB1 zF (aB (fSl (aA 0) vH (fP (fC (.int 9)))) aH)) (fC (.int 5))) (aB (aA 5) aH))))
 (fI 9 (aV (fIx (fY (aB (aV (aA 8)) (aB (fI2 (fun _ j=>0 < j) (fun i j=>.int (i % j)) (fI2 cG (fun i j=>.int (i / j)) (aA 7) (fC (.int 3))) (fI0 (fun i j=>.int (i + j)) (aA 8) (fC (.int 1)))) aH))) (fB1 Q9 (aB (hU (fOr (fB (fI0 (fun i j=>.bl (decide (j < i))) (fI2 (fun _ j=>0 < j) (fun i j=>.int (i % j)) (aA 7) (fC (.int 3))) (fC (.int 0)))) (fB (fI0 (fun i j=>.bl (decide (j < i))) (aA 5) (fC (.int 0)))))) aH)))))))
 (A5 4 9)))) [some (false,LI cells),some (false,.int ins),some (false,.int most),some (false,.int many),some (true,.lst (rows.map Row.d)),a,b,c,none,none]) (Rt fun d=>∃ rows outs,RowsOk ins rows /\ rows.length <= B /\ 0 < ins + rows.length /\ outs.length=many + 1 /\ (∀ a ∈ outs,0 <= a /\ a < ((ins + rows.length:Nat):Int)) /\ d=.tup [.lst (rows.map Row.d),LI outs]):=by
 have el:cD [.lst (rows.map Row.d)]=some (.int (rows.length:Int)):=by simp only [cD,List.length_map]
 refine fH (d:=.int ((ins:Int) + (rows.length:Int) - 1)) (by walk_at "ev") ?_;refine fH (d:=.lst []) (by walk_at "ev") ?_;have er:eQ [.int ((many:Int) + 1)]=_:=Z2H (n:=many + 1) (by omega) (by omega);refine Z3V (ds:=(List.range (many + 1)).map fun (k:Nat)=>.int (k:Int)) ?_ (fun i env=>∃ outs a b c,outs.length=i /\ (∀ a ∈ outs,0 <= a /\ a < ((ins + rows.length:Nat):Int)) /\ env=[some (false,LI cells),some (false,.int ins),some (false,.int most),some (false,.int many),some (true,.lst (rows.map Row.d)),a,b,c,some (true,.int ((ins:Int) + (rows.length:Int) - 1)),some (true,LI outs)]) ⟨[],a,b,c,rfl,fun a h=>(by cases h),rfl⟩ ?_ ?_
 .exact fL (xs:=[.int ((many:Int) + 1)]) (by walk_at "ev") er
 .rintro i d env hd ⟨outs,a,b,c,ho,hall,rfl⟩;obtain⟨hin,rfl⟩:=jX hd;have hsb:=Z0K hb;obtain⟨m,m0,m1,em⟩:=U9 (C:=C) hsb (show (0:Int) <= (i:Int) by omega);refine⟨_,rfl,?_⟩;have e1:=fF cells;have e2:cutD (cells.map D.int) none (some 9)=(cells.take 9).map D.int:=by rw [List.map_take];exact pQ (cells.map D.int) 9
  have e3:=L9 (cells.take 9);refine fH (d:=.int m) (by simp only [LI];walk_at "ev") ?_;have hol:(outs.map D.int).length <= 1000:=by rw [List.length_map];omega
  have q3:(0:Int) < 3:=by decide
  have d3:cG m 3:=⟨by decide,by decide⟩;have ql:0 < (ins:Int) + (rows.length:Int) - 1 + 1:=by omega
  have z0:=Int.emod_nonneg (m / 3) (show (ins:Int) + (rows.length:Int) - 1 + 1 ≠ 0 by omega);have z1:=Int.emod_lt_of_pos (m / 3) ql;have hfin:∀ v:Int,0 <= v->v < ((ins + rows.length:Nat):Int)->Tn (fun env=>∃ outs a b c,outs.length=i + 1 /\ (∀ a ∈ outs,0 <= a /\ a < ((ins + rows.length:Nat):Int)) /\ env=[some (false,LI cells),some (false,.int ins),some (false,.int most),some (false,.int many),some (true,.lst (rows.map Row.d)),a,b,c,some (true,.int ((ins:Int) + (rows.length:Int) - 1)),some (true,LI outs)]) (A5 4 9) (Rt fun d=>∃ rows outs,RowsOk ins rows /\ rows.length <= 60 /\ 0 < ins + rows.length /\ outs.length=many + 1 /\ (∀ a ∈ outs,0 <= a /\ a < ((ins + rows.length:Nat):Int)) /\ d=.tup [.lst (rows.map Row.d),LI outs])
    (.next [some (false,LI cells),some (false,.int ins),some (false,.int most),some (false,.int many),some (true,.lst (rows.map Row.d)),some (false,.int i),b,some (true,.int m),some (true,.int ((ins:Int) + (rows.length:Int) - 1)),some (true,.lst (outs.map D.int ++ [.int v]))]):=by
   intro v v0 v1;have hmem:∀ a ∈ outs ++ [v],0 <= a /\ a < ((ins + rows.length:Nat):Int):=by
    intro a ha;rcases List.mem_append.mp ha with z | z
    .exact hall a z
    .have:a=v:=by simpa using z
     subst this;exact⟨v0,v1⟩
   exact⟨outs ++ [v],_,_,_,by simp [ho],hmem,by simp only [LI,List.map_append,List.map_cons,List.map_nil];rfl⟩
  by_cases hc:0 < m % 3
  .refine vQ (d:=.int (m / 3 % ((ins:Int) + (rows.length:Int) - 1 + 1))) (by simp only [LI];walk_at "ev";simp only [Q9,if_true];walk_at "ev") rfl hol ?_;exact hfin _ z0 (by omega)
  .by_cases hk:0 < (i:Int)
   .refine vQ (d:=.int (m / 3 % ((ins:Int) + (rows.length:Int) - 1 + 1))) (by simp only [LI];walk_at "ev";simp only [Q9,if_true];walk_at "ev") rfl hol ?_;exact hfin _ z0 (by omega)
   .refine vQ (d:=.int ((ins:Int) + (rows.length:Int) - 1)) (by simp only [LI];walk_at "ev";simp only [Q9];walk_at "ev") rfl hol ?_;exact hfin _ (by omega) (by omega)
 rintro env ⟨outs,a',b',c',ho,hall,rfl⟩;refine⟨_,rfl,rows,outs,hr,hl,hp,by simpa using ho,hall,rfl⟩
theorem P2 {C:Addr}{cells:List Int}{ins most many B:Nat}(hb:∀ c ∈ cells,Builtin.Int.intBits c <= 1048576) (hi:ins <= 8) (hm:most <= B) (hB:B <= 60) (hB1:1 <= B) (hmany:many <= 15) :
  ∃ d,fD C [LI cells,.int ins,.int most,.int many]=some d /\ ∃ rows outs,RowsOk ins rows /\ rows.length <= B /\ 0 < ins + rows.length /\ outs.length=many + 1 /\ (∀ a ∈ outs,0 <= a /\ a < ((ins + rows.length:Nat):Int)) /\ d=.tup [.lst (rows.map Row.d),LI outs]:=by
 refine Z6k ?_;unfold rJ;refine fH (d:=.lst []) (by walk_at "ev") ?_;refine Z3V (ds:=(((cells.take most).map D.int).mapIdx fun i d=>.tup [.int i,d])) ?_ (fun i env=>∃ rows a b c,RowsOk ins rows /\ rows.length=i /\ env=[some (false,LI cells),some (false,.int ins),some (false,.int most),some (false,.int many),some (true,.lst (rows.map Row.d)),a,b,c,none,none]) ⟨[],none,none,none,fun k r e=>by simp at e,rfl,rfl⟩ ?_ ?_
 .have e1:=fF cells;have e2:=pQ (cells.map D.int) most;refine fL (xs:=[.lst ((cells.take most).map D.int)]) (by simp only [LI,List.map_take];walk_at "ev") ?_;simp only [mU]
 .rintro i d env hd ⟨rows,a,b,c,hr,rfl,rfl⟩;obtain⟨x,hx,rfl⟩:=oO hd;obtain⟨y,hy,rfl⟩:=cQ hx;have hil:rows.length < most:=by
   have:=(List.getElem?_eq_some_iff.mp hy).1;rw [List.length_take] at this;omega
  have hyb:Builtin.Int.intBits y <= 1048700:=Nat.le_trans (hb y (List.mem_of_mem_take (List.mem_of_getElem? hy))) (by decide);obtain⟨m,m0,m1,em⟩:=U9 (C:=C) hyb (show (0:Int) <= (rows.length:Int) by omega);refine⟨_,rfl,?_⟩;refine fH (d:=.int m) (by walk_at "ev") ?_;have hlen:(rows.map Row.d).length <= 1000:=by rw [List.length_map];omega
  have el:cD [.lst (rows.map Row.d)]=some (.int (rows.length:Int)):=by simp only [cD,List.length_map]
  have q2:(0:Int) < 2:=by decide
  by_cases hz:(ins:Int) + (rows.length:Int)=0
  .refine R0 (by walk_at "ev") ?_;refine vQ (d:=(Row.fix (m % 2)).d) (by walk_at "ev";rfl) rfl hlen ?_;exact⟨rows ++ [.fix (m % 2)],_,_,_,hr.snoc (by show _ \/ _;omega),by simp,by simp only [List.map_append,List.map_cons,List.map_nil];rfl⟩
  .refine zM (by walk_at "ev") ?_;obtain⟨r,r1,r2⟩:=Z5F (C:=C) (nr:=decide (y % 2=0)) m0 (show 0 < (ins:Int) + (rows.length:Int) by omega);refine vQ (d:=r.d) (by walk_at "ev") rfl hlen ?_;exact⟨rows ++ [r],_,_,_,hr.snoc (by rw [show ((ins + rows.length:Nat):Int)=(ins:Int) + (rows.length:Int) by omega];exact r1),by simp,by simp only [List.map_append,List.map_cons,List.map_nil];rfl⟩
 rintro env ⟨rows,a,b,c,hr,hl,rfl⟩;rw [List.length_mapIdx,List.length_map,List.length_take] at hl;have hl2:rows.length <= B:=by omega
 clear hl;have key:=tS (C:=C) (most:=most) (B:=B) (a:=a) (b:=b) (c:=c) hb hi (Nat.le_trans hm hB) hB hmany;have el:cD [.lst (rows.map Row.d)]=some (.int (rows.length:Int)):=by simp only [cD,List.length_map]
 by_cases hz:(ins:Int) + (rows.length:Int)=0
 .refine zL (by walk_at "ev") ?_;refine Z64 (d:=(Row.fix 1).d) (by walk_at "ev";rfl) rfl (by rw [List.length_map];omega) ?_;have:=key (rows ++ [.fix 1]) (hr.snoc (show RowOk _ (.fix 1) from Or.inr rfl)) (by simp;omega) (by simp;omega)
  simpa only [List.map_append,List.map_cons,List.map_nil,List.set_cons_succ,List.set_cons_zero] using this
 .refine wNo (by walk_at "ev") ?_;exact key rows hr (by omega) (by omega)
theorem U8 {C:Addr}{i:Int}:dZ C [.int i]=some (.bl true):=by
 have h1:lL "int" (.int i)=some true:=rfl;have h2:lL "bool" (.int i)=some false:=rfl;unfold dZ wO;walk_at "ev"
theorem Z3A {rows:List Row}{k:Nat}{r:Row}(h:rows[k]? = some r) {a:Int}(e:a=(k:Int)):atI (rows.map Row.d) a=some r.d:=by
 subst e;exact iD (by simp [h])
theorem Z1W {C:Addr}{ins:Nat}{rows:List Row}{w:Int}(h1:w < ((ins + rows.length:Nat):Int)):iQ C [.int ins,.lst (rows.map Row.d),.int w]=some (LI (bB ins rows w)):=by
 refine cB ?_;show uA C [some (false,.int ins),some (false,.lst (rows.map Row.d)),some (false,.int w)]=_;unfold uA;by_cases h:w < (ins:Int)
 .rw [nC h];refine Z1 (by walk_at "ev") (vW rfl)
 .have hk:(w - (ins:Int)).toNat < rows.length:=by omega
  have hr1:=List.getElem?_eq_getElem hk;generalize rows[(w - (ins:Int)).toNat]=r at hr1;have ea:=pS hr1 (a:=w - (ins:Int)) (by omega);rw [kW (by omega) hr1];cases r with
  | fix b =>
   have e1:=Z2F;simp only [Row.d] at ea;exact Z1 (by walk_at "ev") (vW rfl)
  | not a =>
   have e1:=Y9;simp only [Row.d] at ea;refine sNo (by walk_at "ev") (eR ?_);simp [ea,fSl,flats,PD.flat,Z3x,Z11,fX,LI,Row.ws]
  | bin k a b =>
   have e1:=Z0 k;simp only [Row.d] at ea;refine sNo (by walk_at "ev") (eR ?_);simp [ea,fSl,flats,PD.flat,Z3x,Z11,fX,LI,Row.ws]
theorem B5 {env:En}{L:List Int}{x:Int}{k:Nat}{b:Bool}(hk:env[k]? = some (some (b,.int x))) (h3:env[3]? = some (some (true,LI L))) (hl:L.length <= 1000) :
  rIf (cR (fIn (aA k) (aA 3))) (fI 3 (aV (aA k))) bD env=.next (env.set 3 (some (true,LI (iW L x)))):=by
 have e1:aA k env=some (.int x):=by unfold aA;rw [hk];rfl
 have e2:aA 3 env=some (LI L):=by unfold aA;rw [h3];rfl
 have hi:3 < env.length:=(List.getElem?_eq_some_iff.mp h3).1;have e3:cR (fIn (aA k) (aA 3)) env=some (!decide (x ∈ L)):=by
  simp only [ev_Not,ev_In,e1,e2,Z25,Option.map_some]
 unfold iW;by_cases h:x ∈ L
 .rw [if_pos h];refine Z2M (by rw [e3];simp [h]) ?_;show Res.next env=_;congr 1;apply List.ext_getElem?;intro j;by_cases hj:j=3
  .subst hj;rw [List.getElem?_set_self hi,h3]
  .rw [List.getElem?_set_ne (Ne.symm hj)]
 .rw [if_neg h];refine Z17 (by rw [e3];simp [h]) ?_;refine (iY (d:=.int x) ?_ h3 (by simpa using hl)).trans ?_
  .simp only [ev_Flat,e1,PD.flat,if_true]
  .simp only [LI,List.map_append,List.map_cons,List.map_nil]
structure Z5X (ins:Nat) (rows:List Row) (outs:List Int) (at':Nat) (L:List Int):Prop where
 nd:L.Nodup
 out:∀ a ∈ outs,a ∈ L
 cl:∀ (i:Nat) (a:Int),i < at'->L[i]? = some a->∀ b ∈ bB ins rows a,b ∈ L
 least:∀ S:Int->Prop,(∀ a ∈ outs,S a)->(∀ a,S a->∀ b ∈ bB ins rows a,S b)->∀ a ∈ L,S a
 le:at' <= L.length
theorem Z1V {C:Addr}{ins:Nat}{rows:List Row}{outs:List Int}(hs:ins + rows.length < 64) (hl:outs.length <= 100) (hr:RowsOk ins rows) (ho:∀ a ∈ outs,0 <= a /\ a < ((ins + rows.length:Nat):Int)) :
  iP C [.int ins,.lst (rows.map Row.d),LI outs]=some (LI (lH ins rows outs)):=by
 refine uY ?_;unfold tZ;refine fH (d:=.lst []) rfl ?_;refine vP (ds:=outs.map D.int) rfl (fun i env=>∃ a,env=[some (false,.int ins),some (false,.lst (rows.map Row.d)),some (false,LI outs),some (true,LI (cE [] (outs.take i))),a,none,none]) ⟨none,rfl⟩ ?_ ?_
 .rintro i d env R hd ⟨a,rfl⟩ hR;obtain⟨x,hx,rfl⟩:=cQ hd;refine⟨_,rfl,?_⟩;have hlen:(cE [] (outs.take i)).length <= 1000:=by
   have:=iV (xs:=outs.take i) (ks:=[]);rw [List.length_take,List.length_nil] at this;omega
  refine wEq (B5 (L:=cE [] (outs.take i)) (x:=x) (b:=false) rfl rfl hlen) (hR _ ⟨some (false,.int x),?_⟩);rw [jK hx];rfl
 rintro env ⟨a,rfl⟩;rw [List.length_map,List.take_length];refine fH (d:=.int 0) rfl ?_;refine Z3U (m:=ins + rows.length) (fun m env=>∃ L at' a b,Z5X ins rows outs at' L /\ m + at'=ins + rows.length /\ env=[some (false,.int ins),some (false,.lst (rows.map Row.d)),some (false,LI outs),some (true,LI L),a,some (true,.int (at':Nat)),b])
  ⟨cE [] outs,0,a,none,⟨fQ List.nodup_nil,fun a ha=>mem_addAll.mpr (.inr ha),fun i a h=>(by omega),fun S h1 _ a ha=>h1 a ((mem_addAll.mp ha).elim (fun z=>(by cases z)) id),Nat.zero_le _⟩,by omega,rfl⟩ ?_
 rintro m env ⟨L,at',a,b,hW,hm,rfl⟩;have hbd:∀ a ∈ L,0 <= a /\ a < ((ins + rows.length:Nat):Int):=hW.least _ ho fun a ha b hb=>by have:=iF hr hb;omega
 have hLl:=jC _ _ hW.nd hbd;have el:cD [.lst (L.map D.int)]=some (.int (L.length:Int)):=by simp only [cD,List.length_map]
 by_cases hend:at' < L.length
 .right;have hg:=List.getElem?_eq_getElem hend;generalize hx:L[at']=x at hg;have hxb:=hbd x (List.mem_of_getElem? hg);have lg:=Z1W (C:=C) (ins:=ins) (rows:=rows) (w:=x) hxb.2;have hll:=iR (ins:=ins) (rows:=rows) (w:=x);have ci:(at':Int) < (L.length:Int):=by omega
  have ea:atI (L.map D.int) (at':Int)=some (.int x):=by
   rw [iU (by omega) ci];exact congrArg (fun z=>some (D.int z)) (gP hg rfl)
  refine⟨by simp only [LI];clear lg hW hbd hr ho;walk_at "ev",?_⟩;refine vP (ds:=(bB ins rows x).map D.int) ?_ (fun j env=>∃ b,env=[some (false,.int ins),some (false,.lst (rows.map Row.d)),some (false,LI outs),some (true,LI (cE L ((bB ins rows x).take j))),a,some (true,.int (at':Nat)),b]) ⟨b,rfl⟩ ?_ ?_
  .refine dQ (aN (xs:=[.int ins,.lst (rows.map Row.d),.int x]) ?_ lg);simp only [LI];clear lg hW hbd hr ho;walk_at "ev"
  .rintro j d env R hd ⟨b,rfl⟩ hR;obtain⟨y,hy,rfl⟩:=cQ hd;refine⟨_,rfl,?_⟩;have hlen:(cE L ((bB ins rows x).take j)).length <= 1000:=by
    have:=iV (xs:=(bB ins rows x).take j) (ks:=L);rw [List.length_take] at this;omega
   refine wEq (B5 (L:=cE L ((bB ins rows x).take j)) (x:=y) (b:=false) rfl rfl hlen) (hR _ ⟨some (false,.int y),?_⟩);rw [jK hy];rfl
  .rintro env ⟨b,rfl⟩;rw [List.length_map,List.take_length];refine zK (d:=.int ((at' + 1:Nat):Int)) (by rw [show ((at' + 1:Nat):Int)=(at':Int) + 1 by omega];rfl) ?_;obtain⟨t,ht⟩:=uM (xs:=bB ins rows x) (ks:=L);refine⟨m - 1,by omega,cE L (bB ins rows x),at' + 1,a,b,⟨fQ hW.nd,fun a ha=>mem_addAll.mpr (.inl (hW.out a ha)),fun i c hi hc d hd=>?_,fun S s1 s2 c hc=>?_,?_⟩,by omega,rfl⟩
   .have hil:i < L.length:=by omega
    rw [ht,List.getElem?_append_left hil] at hc;by_cases hie:i=at'
    .subst hie;rw [hg] at hc;cases hc;exact mem_addAll.mpr (.inr hd)
    .exact mem_addAll.mpr (.inl (hW.cl i c (by omega) hc d hd))
   .rcases mem_addAll.mp hc with z | z
    .exact hW.least S s1 s2 c z
    .exact s2 x (hW.least S s1 s2 x (List.mem_of_getElem? hg)) c z
   .rw [ht,List.length_append];omega
 .left;have ci:¬ (at':Int) < (L.length:Int):=by omega
  refine⟨by simp only [LI];clear hW hbd hr ho;walk_at "ev",?_⟩;have hN:NeedL ins rows outs L:=⟨hW.nd,hW.out,fun c hc d hd=>by
   obtain⟨i,hi⟩:=List.getElem?_of_mem hc;have:=(List.getElem?_eq_some_iff.mp hi).1;exact hW.cl i c (by omega) hi d hd,hW.least⟩
  have hsrt:lH ins rows outs=lJ L:=(tN hr ho).sort hN;refine Z0S (d:=LI (lH ins rows outs)) (fW (xs:=[LI L]) rfl ?_) rfl;unfold sD LI;simp only [nG];rw [if_pos (by omega),hsrt]
theorem wJ {C:Addr}{ins:Nat}{rows:List Row}{w:Int}(h1:w < ((ins + rows.length:Nat):Int)):dS C [.int ins,.lst (rows.map Row.d),.int w]=some (LI (cN ins rows w)):=by
 refine cB ?_;show mM C [some (false,.int ins),some (false,.lst (rows.map Row.d)),some (false,.int w)]=_;unfold mM cN;by_cases h:w < (ins:Int)
 .have h':¬ (ins:Int) <= w:=by omega
  rw [if_pos h];exact sNo (by walk_at "ev") rfl
 .have h':(ins:Int) <= w:=by omega
  have hk:(w - (ins:Int)).toNat < rows.length:=by omega
  have hr1:=List.getElem?_eq_getElem hk;generalize rows[(w - (ins:Int)).toNat]=r at hr1;have ea:=pS hr1 (a:=w - (ins:Int)) (by omega);rw [if_neg h,hr1];cases r with
  | fix b =>
   have e1:=Z2F;simp only [Row.d] at ea;refine Z1 (by walk_at "ev") (vW ?_);simp only [LI,List.map_cons,List.map_nil];walk_at "ev"
  | not a =>
   have e1:=Y9;simp only [Row.d] at ea;exact sNo (by walk_at "ev") rfl
  | bin k a b =>
   have e1:=Z0 k;simp only [Row.d] at ea;exact sNo (by walk_at "ev") rfl
theorem wP (fs:List Flt):flats (fs.map Flt.d)=true:=iG fun d hd=>by
 obtain⟨f,_,rfl⟩:=List.mem_map.mp hd;exact mR f
theorem sX {i j:Nat}{f:En->Option D}{env:En}{xs ys:List D}(e1:env[j]? = some (some (true,.lst xs))) (e2:f env=some (.lst ys)) (h1:flats xs=true) (h2:xs.length + ys.length <= 1000):kP i j f env=.next (env.set i (some (true,.lst (xs ++ ys)))):=by
 unfold kP;simp only [e1,e2,h1,h2,and_self,if_true]
theorem Z1X {C:Addr}{ins:Nat}{rows:List Row}{outs N:List Int}(hr:RowsOk ins rows) (nb:∀ a ∈ N,0 <= a /\ a < ((ins + rows.length:Nat):Int)) (nl:N.length < 64) (ln:iP C [.int ins,.lst (rows.map Row.d),LI outs]=some (LI N)) :
  gJ C [.int ins,.lst (rows.map Row.d),LI outs]=some (.lst ((N.flatMap (bX ins rows)).map Flt.d)):=by
 refine cB ?_;unfold uB;refine mB (d:=.lst []) rfl ?_;refine mC (ds:=N.map D.int) (dQ (aN (xs:=[.int ins,.lst (rows.map Row.d),LI outs]) rfl ln))
  (fun i env=>∃ a b c,env=[some (false,.int ins),some (false,.lst (rows.map Row.d)),some (false,LI outs),some (true,.lst (((N.take i).flatMap (bX ins rows)).map Flt.d)),a,b,c]) ⟨none,none,none,rfl⟩ ?_ ?_
 .rintro i d env hd ⟨a,b,c,rfl⟩;obtain⟨w,hw,rfl⟩:=cQ hd;have hwb:=nb w (List.mem_of_getElem? hw);have hil:i < N.length:=(List.getElem?_eq_some_iff.mp hw).1;have fl:=pP (ins:=ins) (rows:=rows) (N.take i);rw [List.length_take] at fl;rw [wQ hw];generalize hB:(N.take i).flatMap (bX ins rows)=B at *
  have hBl:(B.map Flt.d).length <= 400:=by rw [List.length_map];omega
  have hbl:=eU (ins:=ins) (rows:=rows) (w:=w);have hll:=iR (ins:=ins) (rows:=rows) (w:=w);have bw:=wJ (C:=C) (ins:=ins) (rows:=rows) (w:=w) hwb.2;have lw:=Z1W (C:=C) (ins:=ins) (rows:=rows) (w:=w) hwb.2;have c1:cC [4] (dM (aM (dS C) [] (aB (aA 0) (aB (aA 1) (aB (aA 4) aH))))) fTT (fJ (aB (fC (.str "wire")) (aB (aV (aA 1)) (aB (aV (aA 0)) aH)))) [some (false,.int ins),some (false,.lst (rows.map Row.d)),some (false,LI outs),some (true,.lst (B.map Flt.d)),some (false,.int w),b,c]=some (.lst (((cN ins rows w).map fun b=>Flt.wire w b).map Flt.d)):=by
   rw [fG D.int (fun b=>(Flt.wire w b).d) (xs:=cN ins rows w) (dQ (aN (xs:=[.int ins,.lst (rows.map Row.d),.int w]) rfl bw)) (by omega) (fun x _=>rfl),List.map_map];rfl
  have h1:=sX (i:=3) (j:=3) (env:=[some (false,.int ins),some (false,.lst (rows.map Row.d)),some (false,LI outs),some (true,.lst (B.map Flt.d)),some (false,.int w),b,c]) rfl c1 (wP B) (by simp only [List.length_map] at *;omega);rw [<- List.map_append] at h1;generalize hB2:B ++ (cN ins rows w).map (fun b=>Flt.wire w b)=B2 at *
  have hB2l:(B2.map Flt.d).length <= 410:=by rw [<- hB2,List.length_map,List.length_append,List.length_map];rw [List.length_map] at hBl;omega
  obtain⟨env',h2,⟨x,y,rfl⟩⟩:=A7 (rs:=[]) (src:=sB1 mU (aB (aM (iQ C) [] (aB (aA 0) (aB (aA 1) (aB (aA 4) aH)))) aH)) (t:=gtT [5,6]) (g:=kP 3 3 (cC [4,5] (dM (aM (dS C) [] (aB (aA 0) (aB (aA 1) (aB (aA 6) aH))))) fTT (fJ (aB (fC (.str "leg")) (aB (aV (aA 1)) (aB (aV (aA 2)) (aB (aV (aA 0)) aH)))))))
   (env:=[some (false,.int ins),some (false,.lst (rows.map Row.d)),some (false,LI outs),some (true,.lst (B2.map Flt.d)),some (false,.int w),b,c]) (ds:=((bB ins rows w).map D.int).mapIdx fun i d=>.tup [.int i,d]) (fL (xs:=[LI (bB ins rows w)]) (aL (aN (xs:=[.int ins,.lst (rows.map Row.d),.int w]) rfl lw) rfl) (by simp only [mU,LI]))
   (fun j env=>∃ x y,env=[some (false,.int ins),some (false,.lst (rows.map Row.d)),some (false,LI outs),some (true,.lst ((B2 ++ bN ins rows w 0 ((bB ins rows w).take j)).map Flt.d)),some (false,.int w),x,y]) ⟨b,c,by simp [PD.fz,bN]⟩ (by
    rintro j d env hd ⟨x,y,rfl⟩;obtain⟨e,he,rfl⟩:=oO hd;obtain⟨a',ha,rfl⟩:=cQ he;have hab:=iF hr (List.mem_of_getElem? ha);have ba:=wJ (C:=C) (ins:=ins) (rows:=rows) (w:=a') (by omega);have hbl2:=eU (ins:=ins) (rows:=rows) (w:=a');have hfl:=gQ (ins:=ins) (rows:=rows) (w:=w) ((bB ins rows w).take j) 0;rw [List.length_take] at hfl;rw [mK ha,<- List.append_assoc];generalize hB3:B2 ++ bN ins rows w 0 ((bB ins rows w).take j)=B3 at *
    have hB3l:(B3.map Flt.d).length <= 450:=by rw [<- hB3,List.length_map,List.length_append];rw [List.length_map] at hB2l;omega
    have c2:cC [4,5] (dM (aM (dS C) [] (aB (aA 0) (aB (aA 1) (aB (aA 6) aH))))) fTT (fJ (aB (fC (.str "leg")) (aB (aV (aA 1)) (aB (aV (aA 2)) (aB (aV (aA 0)) aH))))) [some (false,.int ins),some (false,.lst (rows.map Row.d)),some (false,LI outs),some (true,.lst (B3.map Flt.d)),some (false,.int w),some (false,.int (j:Nat)),some (false,.int a')]=some (.lst (((cN ins rows a').map fun b=>Flt.leg w (j:Int) b).map Flt.d)):=by
     rw [fG D.int (fun b=>(Flt.leg w (j:Int) b).d) (xs:=cN ins rows a') (dQ (aN (xs:=[.int ins,.lst (rows.map Row.d),.int a']) rfl ba)) (by omega) (fun x _=>rfl),List.map_map];rfl
    have h3:=sX (i:=3) (j:=3) (env:=[some (false,.int ins),some (false,.lst (rows.map Row.d)),some (false,LI outs),some (true,.lst (B3.map Flt.d)),some (false,.int w),some (false,.int (j:Nat)),some (false,.int a')]) rfl c2 (wP B3) (by simp only [List.length_map] at *;omega);rw [<- List.map_append] at h3;exact⟨_,_,rfl,h3,some (false,.int j),some (false,.int a'),rfl⟩)
  rw [List.length_mapIdx,List.length_map,List.take_length] at h2;refine⟨_,_,rfl,Z2E h1 h2,some (false,.int w),x,y,?_⟩;unfold bX;rw [<- hB2,List.append_assoc]
 .rintro env ⟨a,b,c,rfl⟩;rw [List.length_map,List.take_length];rfl
theorem Z4D {w w' l l' b:Int}:eqN 8 (.tup [.str "leg",.int w',.int l',.int b]) (.tup [.str "leg",.int w,.int l,.int b])=some (decide (w'=w /\ l'=l)):=by
 have e1:=Z6i;by_cases h1:w'=w
 .by_cases h2:l'=l
  .subst h1;subst h2;walk_at "ev"
  .subst h1;walk_at "ev";simp
 .walk_at "ev";try simp [h1]
theorem Z2q {w w' l b b':Int}:eqN 8 (.tup [.str "wire",.int w',.int b]) (.tup [.str "leg",.int w,.int l,.int b'])=some false:=by
 have e1:=Z5d;walk_at "ev"
 try simp
theorem O9 {C:Addr}{n:Nat}{r:Row}{w l:Int}{vs:List Int}{f:Flt}(hl:l=0 /\ 0 < r.ws.length \/ l=1 /\ 1 < r.ws.length) (hw:∀ a ∈ r.ws,0 <= a /\ a < vs.length) (hb:∀ w l b,f=.leg w l b->b=0 \/ b=1) :
  mI C [LI vs,r.d,.int w,.int l,f.d,.int (aT n)]=some (.int (qN r w l vs (aT n) f)):=by
 have key:aV (fIx (aA 0) (fIx (aA 1) (fI0 (fun i j=>.int (i + j)) (fC (.int 1)) (aA 3)))) [some (false,LI vs),some (false,r.d),some (false,.int w),some (false,.int l),some (false,f.d),some (false,.int (aT n))]=some (.int (nth vs (nth r.ws l))):=by
  cases r with
  | fix b=>simp [Row.ws] at hl
  | not a =>
   rcases hl with ⟨rfl,_⟩ | ⟨_,h⟩
   .have ha:=hw a (by simp [Row.ws]);have ea:=iU ha.1 ha.2;have en:nth (Row.not a).ws 0=a:=rfl;simp only [LI,Row.d];walk_at "ev"
   .simp [Row.ws] at h
  | bin k a b =>
   rcases hl with ⟨rfl,_⟩ | ⟨rfl,_⟩
   .have ha:=hw a (by simp [Row.ws]);have ea:=iU ha.1 ha.2;have en:nth (Row.bin k a b).ws 0=a:=rfl;simp only [LI,Row.d];walk_at "ev"
   .have ha:=hw b (by simp [Row.ws]);have ea:=iU ha.1 ha.2;have en:nth (Row.bin k a b).ws 1=b:=rfl;simp only [LI,Row.d];walk_at "ev"
 refine cB ?_;unfold E8;cases f with
 | none =>
  refine sNo ?_ (eR key);simp only [Flt.d];rfl
 | wire w' b =>
  have e1:=Z2q (w:=w) (w':=w') (l:=l) (b:=b) (b':=b);refine sNo ?_ (eR key);simp only [Flt.d,enStart,List.map_cons,List.map_nil,List.length_cons,List.length_nil,List.replicate,List.append_nil,ev_And,ev_IsN,ev_Eq,ev_var,ev_Tup,ev_Cons,ev_C,ev_Nil,ev_Ix,List.getElem?_cons_zero,List.getElem?_cons_succ,Option.join_some,Option.map_some,atI_m3];exact e1
 | leg w' l' b =>
  have e1:=Z4D (w:=w) (w':=w') (l:=l) (l':=l') (b:=b);have e2:iT (lM true (aA 4)) (fEq (aA 4) (fJ (aB (fC (.str "leg")) (aB (aA 2) (aB (aA 3) (aB (fIx (aA 4) (fC (.int (-1)))) aH)))))) [some (false,LI vs),some (false,r.d),some (false,.int w),some (false,.int l),some (false,(Flt.leg w' l' b).d),some (false,.int (aT n))]=some (decide (w'=w /\ l'=l)):=by
   simp only [Flt.d,ev_And,ev_IsN,ev_Eq,ev_var,ev_Tup,ev_Cons,ev_C,ev_Nil,ev_Ix,List.getElem?_cons_zero,List.getElem?_cons_succ,Option.join_some,Option.map_some,atI_m4];exact e1
  by_cases h:w'=w /\ l'=l
  .rw [decide_eq_true h] at e2;have mo:IntMulOk b (aT n):=by rcases hb _ _ _ rfl with z | z <;> (subst z;exact jD (by decide) (by decide))
   refine Z1 e2 (vW ?_);simp only [qN,if_pos h,Flt.d,Int.mul_comm (aT n) b];clear e1 e2 key;walk_at "ev"
  .rw [decide_eq_false h] at e2;refine sNo e2 ?_;simp only [qN,if_neg h];exact eR key
theorem Z1Y {C:Addr}{n:Nat}{r:Row}{w k:Int}{vs:List Int}{f:Flt}(hr:RowOk k r) (hn:k <= vs.length) (hv:∀ a,IsT n (nth vs a)) (hb:∀ w l b,f=.leg w l b->b=0 \/ b=1) (hf:∀ w' l' b,f=.leg w' l' b->w'=w->0 <= l' /\ l' < r.ws.length) :
  eT C [LI vs,r.d,.int w,f.d,.int (aT n)]=some (.int (gN r (legs r w vs (aT n) f) (aT n))):=by
 have hw:∀ a ∈ r.ws,0 <= a /\ a < vs.length:=fun a ha=>by have:=hr.ws a ha;omega
 cases r with
 | fix b =>
  have e1:=Z2F;have mo:IntMulOk b (aT n):=by rcases (show b=0 \/ b=1 from hr) with z | z <;> (subst z;exact jD (by decide) (by decide))
  unfold eT lA;simp only [Row.d,gN,Int.mul_comm (aT n) b];clear hv hb hf hw hr;walk_at "ev"
 | not a =>
  have h0:=O9 (C:=C) (n:=n) (w:=w) (l:=0) (f:=f) (.inl ⟨rfl,by simp [Row.ws]⟩) hw hb;have k0:=qM (w:=w) (l:=0) (o:=aT n) (vs:=vs) (.inl ⟨rfl,by simp [Row.ws]⟩) hf;have e1:=Y9;have e2:=Z6h;have g1:=Z3m (Z1Q (r:=.not a) (w:=w) (l:=0) hv hb);have g2:gN (.not a) (legs (.not a) w vs (aT n) f) (aT n)=aT n - qN (.not a) w 0 vs (aT n) f:=by rw [<- g1,<- k0];rfl
  rw [g2];generalize qN (Row.not a) w 0 vs (aT n) f=x at *
  unfold eT lA;simp only [Row.d] at h0 ⊢;clear g1 g2 k0 hf hb hv hr hw;walk_at "ev"
 | bin kd a b =>
  have h0:=O9 (C:=C) (n:=n) (w:=w) (l:=0) (f:=f) (.inl ⟨rfl,by simp [Row.ws]⟩) hw hb;have k0:=qM (w:=w) (l:=0) (o:=aT n) (vs:=vs) (.inl ⟨rfl,by simp [Row.ws]⟩) hf;have h1:=O9 (C:=C) (n:=n) (w:=w) (l:=1) (f:=f) (.inr ⟨rfl,by simp [Row.ws]⟩) hw hb;have k1:=qM (w:=w) (l:=1) (o:=aT n) (vs:=vs) (.inr ⟨rfl,by simp [Row.ws]⟩) hf;have e1:=Z0 kd;have e2:=Z5g kd;have e3:=Z5h kd;have e4:=Z5f kd;have g:gN (.bin kd a b) (legs (.bin kd a b) w vs (aT n) f) (aT n)=kdT kd (qN (.bin kd a b) w 0 vs (aT n) f) (qN (.bin kd a b) w 1 vs (aT n) f):=by
   rw [<- k0,<- k1];cases kd <;> rfl
  rw [g];clear g k0 k1 hf hb hv hr hw;generalize qN (Row.bin kd a b) w 0 vs (aT n) f=x at *
  generalize qN (Row.bin kd a b) w 1 vs (aT n) f=y at *
  unfold eT lA;simp only [Row.d] at h0 h1 ⊢;cases kd with
  | and=>walk_at "ev";rfl
  | or=>walk_at "ev";rfl
  | xor=>walk_at "ev";rfl
theorem D1 {C:Addr}{ins:Nat}{rows:List Row}{f:Flt}(hi:ins <= 8) (hs:ins + rows.length <= 1000) (hr:RowsOk ins rows) (hf:FltOk ins rows f) :
  gH C [.int ins,.lst (rows.map Row.d),f.d]=some (LI (aZ ins rows f)):=by
 have hN:=gT ins rows f;have hbt:=lR hr hf;obtain⟨pb0,pb1⟩:=xW hi;have pbn:2 ^ ins <= 256:=Int.ofNat_le.mp pb1;have p1:cO 1 (ins:Int):=kG (by omega) (by omega);have p2:cO 1 ((1:Int) * 2 ^ (ins:Int).toNat):=by rw [iI];exact kG pb0 (Int.le_trans pb1 (by decide))
 have ep:(1:Int) * 2 ^ ((1:Int) * 2 ^ (ins:Int).toNat).toNat - 1=aT (2 ^ ins):=by rw [iI];exact V8 ins
 refine cB ?_;unfold tY;have el:cD [.lst (rows.map Row.d)]=some (.int (rows.length:Int)):=by simp only [cD,List.length_map]
 refine mB (d:=.int (aT (2 ^ ins))) (by clear hbt pb0 pb1 pbn hN hi hs hr hf;walk_at "ev") ?_;refine mB (d:=.lst []) (by walk_at "ev") ?_;refine mC (ds:=(List.range (ins + rows.length)).map fun (k:Nat)=>.int (k:Int)) (fL (xs:=[.int ((ins:Int) + (rows.length:Int))]) (by clear hbt pb0 pb1 pbn hN hi hs hr hf p1 p2 ep;walk_at "ev") (Z2H (by omega) hs))
  (fun i env=>∃ s,env=[some (false,.int ins),some (false,.lst (rows.map Row.d)),some (false,f.d),some (true,.int (aT (2 ^ ins))),some (true,LI ((aZ ins rows f).take i)),s]) ⟨none,rfl⟩ ?_ ?_
 .rintro i d env hd ⟨s,rfl⟩;obtain⟨hin,rfl⟩:=jX hd;have hil:i < (aZ ins rows f).length:=by omega
  have htl:((aZ ins rows f).take i).length=i:=by rw [List.length_take];omega
  have cont:∀ v,(aZ ins rows f)[i]? = some (bH v i (aT (2 ^ ins)) f)->rIf (iT (lM true (aA 2)) (iT (fEq (fIx (aA 2) (fC (.int 0))) (fC (.str "wire"))) (fEq (fIx (aA 2) (fC (.int 1))) (aA 5)))) (A6 4 (aA 5) (fI2 IntMulOk (fun i j=>.int (i * j)) (fIx (aA 2) (fC (.int 2))) (aA 3))) bD
    [some (false,.int ins),some (false,.lst (rows.map Row.d)),some (false,f.d),some (true,.int (aT (2 ^ ins))),some (true,.lst (((aZ ins rows f).take i).map D.int ++ [.int v])),some (false,.int i)] =
    .next [some (false,.int ins),some (false,.lst (rows.map Row.d)),some (false,f.d),some (true,.int (aT (2 ^ ins))),some (true,LI ((aZ ins rows f).take (i + 1))),some (false,.int i)]:=by
   intro v hv;rw [bT hv];generalize (aZ ins rows f).take i=vs at *
   cases f with
   | none=>simp only [Flt.d,bH,LI,List.map_append,List.map_cons,List.map_nil];rfl
   | leg w l b =>
    have e1:=Z5e;simp only [Flt.d,bH,LI,List.map_append,List.map_cons,List.map_nil];clear hbt pb0 pb1 pbn hN hi hs hr hf p1 p2 ep hv hil hd;walk_at "ev"
   | wire w b =>
    have e1:=Z6g;by_cases hw:w=(i:Int)
    .have e2:flats (vs.map D.int ++ [.int v])=true:=by have:=fF (vs ++ [v]);simpa using this
     have e3:(vs.map D.int ++ [D.int v]).set i (.int (b * aT (2 ^ ins)))=vs.map D.int ++ [.int (b * aT (2 ^ ins))]:=by
      rw [List.set_append];simp [htl]
     have e4:ixN (vs.map D.int ++ [D.int v]).length (i:Int)=some i:=by
      rw [Z21 (by omega) (by simp;omega)];simp
     have mo:IntMulOk b (aT (2 ^ ins)):=by rcases hf.w _ _ rfl with z | z <;> (subst z;exact jD (by decide) (by decide))
     refine Z17 (by simp only [Flt.d];clear hbt pb0 pb1 pbn hN hi hs hr hf p1 p2 ep hv hil hd;walk_at "ev") ?_;simp only [bH,hw,if_true,LI,List.map_append,List.map_cons,List.map_nil,Int.mul_comm (aT (2 ^ ins)) b];unfold A6;simp only [Flt.d,ev_Ix,ev_var,ev_C,ev_I2',mo,List.getElem?_cons_zero,List.getElem?_cons_succ,Option.join_some,Option.map_some,atI_2,e4,e2,PD.flat,and_self,if_true,e3,List.set_cons_succ,List.set_cons_zero]
    .simp only [Flt.d,bH,hw,if_false,LI,List.map_append,List.map_cons,List.map_nil];clear hbt pb0 pb1 pbn hN hi hs hr hf p1 p2 ep hv hil hd;walk_at "ev"
  have hol:(((aZ ins rows f).take i).map D.int).length <= 1000:=by rw [List.length_map];omega
  by_cases h1:i < ins
  .have c1:(i:Int) < (ins:Int):=by omega
   have hv:=L6 (rows:=rows) (f:=f) h1;have esum:fB1 zF (aB (cC [5] (sB1 eQ (aB (fI2 cO (fun i j=>.int (i * 2 ^ j.toNat)) (fC (.int 1)) (aA 0)) aH)) (fEq (fI2 (fun _ j=>0 < j) (fun i j=>.int (i % j)) (fI2 cG (fun i j=>.int (i / j)) (aA 0) (fI2 cO (fun i j=>.int (i * 2 ^ j.toNat)) (fC (.int 1)) (aA 1))) (fC (.int 2))) (fC (.int 1))) (fI2 cO (fun i j=>.int (i * 2 ^ j.toNat)) (fC (.int 1)) (aA 0))) aH)
     [some (false,.int ins),some (false,.lst (rows.map Row.d)),some (false,f.d),some (true,.int (aT (2 ^ ins))),some (true,LI ((aZ ins rows f).take i)),some (false,.int i)]=some (.int (tab (2 ^ ins) fun g=>decide (g / 2 ^ i % 2=1))):=by
    have ec:=eM (fr:=[5]) (fc:=fEq (fI2 (fun _ j=>0 < j) (fun i j=>.int (i % j)) (fI2 cG (fun i j=>.int (i / j)) (aA 0) (fI2 cO (fun i j=>.int (i * 2 ^ j.toNat)) (fC (.int 1)) (aA 1))) (fC (.int 2))) (fC (.int 1))) (fe:=fI2 cO (fun i j=>.int (i * 2 ^ j.toNat)) (fC (.int 1)) (aA 0))
     (src:=sB1 eQ (aB (fI2 cO (fun i j=>.int (i * 2 ^ j.toNat)) (fC (.int 1)) (aA 0)) aH)) (env:=[some (false,.int ins),some (false,.lst (rows.map Row.d)),some (false,f.d),some (true,.int (aT (2 ^ ins))),some (true,LI ((aZ ins rows f).take i)),some (false,.int i)])
     (fun (k:Nat)=>D.int (k:Int)) (fun (k:Nat)=>D.int ((1:Int) * 2 ^ (k:Int).toNat)) (fun g=>decide (g / 2 ^ i % 2=1)) (xs:=List.range (2 ^ ins))
     (fL (xs:=[.int ((1:Int) * 2 ^ (ins:Int).toNat)]) (by clear hbt pb0 pb1 pbn hN hi hs hr hf p2 ep hv hil hd cont hol htl;walk_at "ev") (Z2H (iI ins) (by omega))) (by rw [List.length_range];omega) ?_ ?_
    .refine fW (aL ec rfl) ?_;have e9:(((List.range (2 ^ ins)).filter fun g=>decide (g / 2 ^ i % 2=1)).map fun (k:Nat)=>D.int ((1:Int) * 2 ^ (k:Int).toNat))=((((List.range (2 ^ ins)).filter fun g=>decide (g / 2 ^ i % 2=1)).map fun (k:Nat)=>((1:Int) * 2 ^ (k:Int).toNat)).map D.int):=by rw [List.map_map];rfl
     rw [e9,L9,T0]
    .intro g hg;have hg':=List.mem_range.mp hg;have p3:cO 1 (i:Int):=kG (by omega) (by omega);have d1:cG (g:Int) ((1:Int) * 2 ^ (i:Int).toNat):=G7 (by omega);have q2:(0:Int) < 2:=by decide
     have ee:((g:Int) / ((1:Int) * 2 ^ (i:Int).toNat) % 2=1)=(g / 2 ^ i % 2=1):=by
      rw [iI];apply propext;constructor
      .intro z;exact Int.ofNat.inj (by simpa using z)
      .intro z;have:=congrArg (fun (n:Nat)=>(n:Int)) z;simpa using this
     show fEq _ (fC (.int 1)) [some (false,.int (g:Int)),some (false,.int (i:Int))]=_;clear hbt pb0 pb1 pbn hN hi hs hr hf p1 p2 ep hv hil hd cont hol htl;walk_at "ev"
    .intro g hg _;have hg':=List.mem_range.mp hg;have p3:cO 1 (g:Int):=kG (by omega) (by omega);show fI2 cO _ (fC (.int 1)) (aA 0) [some (false,.int (g:Int)),some (false,.int (i:Int))]=_;clear hbt pb0 pb1 pbn hN hi hs hr hf p1 p2 ep hv hil hd cont hol htl;walk_at "ev"
   refine⟨_,_,rfl,Z2E (Z17 ?_ (iY esum rfl hol)) (cont _ hv),some (false,.int i),rfl⟩;clear hbt pb0 pb1 pbn hN hi hs hr hf p1 p2 ep hv hil hd cont hol htl esum;walk_at "ev"
  .have c1:¬ (i:Int) < (ins:Int):=by omega
   have hk:i - ins < rows.length:=by omega
   have hr1:=List.getElem?_eq_getElem hk;generalize rows[i - ins]=r at hr1;have hv:=zO (ins:=ins) (f:=f) hr1;rw [show ins + (i - ins)=i by omega] at hv;have hrow:=hr _ r hr1;rw [show ins + (i - ins)=i by omega] at hrow;have ea:=Z3A hr1 (a:=(i:Int) - (ins:Int)) (by omega);have eg:=Z1Y (C:=C) (n:=2 ^ ins) (w:=(i:Int)) (vs:=(aZ ins rows f).take i) (f:=f) hrow (by rw [htl];omega) (fun a=>?_) hf.l (fun w' l' b e hw=>hf.leg w' l' b (i - ins) r e hr1 (by rw [hw];omega))
   .refine⟨_,_,rfl,Z2E (Z2M ?_ (iY (d:=.int (gN r (legs r i ((aZ ins rows f).take i) (aT (2 ^ ins)) f) (aT (2 ^ ins)))) ?_ rfl hol)) (cont _ hv),some (false,.int i),rfl⟩
    .clear hbt pb0 pb1 pbn hN hi hs hr hf p1 p2 ep hv hil hd cont hol htl eg ea;walk_at "ev"
    .clear hbt pb0 pb1 pbn hN hi hs hr hf p1 p2 ep hv hil hd cont hol htl;walk_at "ev"
   .by_cases ha:a.toNat < i
    .have:nth ((aZ ins rows f).take i) a=nth (aZ ins rows f) a:=by unfold nth;rw [List.getD,List.getD,List.getElem?_take_of_lt ha]
     rw [this];exact hbt a
    .have:nth ((aZ ins rows f).take i) a=0:=by unfold nth;rw [List.getD,List.getElem?_eq_none (by omega)];rfl
     rw [this];exact tT _
 .rintro env ⟨s,rfl⟩;rw [List.length_map,List.length_range,<- hN,List.take_length];rfl
theorem Z0m {C:Addr}{ins:Nat}{rows:List Row}{outs:List Int}{f:Flt}(hi:ins <= 8) (hs:ins + rows.length <= 1000) (hr:RowsOk ins rows) (hf:FltOk ins rows f) (ho:∀ a ∈ outs,0 <= a /\ a < ((ins + rows.length:Nat):Int)) :
  eJ C [.int ins,.lst (rows.map Row.d),LI outs,f.d]=some (.int (dF ins rows outs f)):=by
 have t0:gH C [.int ins,.lst (rows.map Row.d),.non]=some (LI (aZ ins rows .none)):=D1 (f:=.none) hi hs hr .no;have t1:=D1 (C:=C) hi hs hr hf;have l0:=gT ins rows .none;have l1:=gT ins rows f;unfold dF;generalize aZ ins rows .none=A at *
 generalize aZ ins rows f=B at *
 refine cB ?_;unfold rH;refine mB (aN (xs:=[.int ins,.lst (rows.map Row.d),.non]) rfl t0) ?_;refine mB (aN (xs:=[.int ins,.lst (rows.map Row.d),f.d]) rfl t1) ?_;refine mB (d:=.int 0) (by walk_at "ev") ?_;refine mC (ds:=outs.map D.int) (by rfl)
  (fun i env=>∃ a,env=[some (false,.int ins),some (false,.lst (rows.map Row.d)),some (false,LI outs),some (false,f.d),some (true,LI A),some (true,LI B),some (true,.int (oY A B (outs.take i))),a]) ⟨none,rfl⟩ ?_ ?_
 .rintro i d env hd ⟨a,rfl⟩;obtain⟨x,hx,rfl⟩:=cQ hd;have hx2:=ho x (List.mem_of_getElem? hx);have ea:=iU (vs:=A) (a:=x) hx2.1 (by rw [l0];exact hx2.2);have eb:=iU (vs:=B) (a:=x) hx2.1 (by rw [l1];exact hx2.2);refine⟨_,_,rfl,Z2J (d:=.int (Builtin.bitOr (oY A B (outs.take i)) (Builtin.bitXor (nth A x) (nth B x)))) ?_,some (false,.int x),by rw [sK hx];rfl⟩;simp only [LI];clear hd hx t0 t1 ho hr hf;walk_at "ev"
 .rintro env ⟨a,rfl⟩;rw [List.length_map,List.take_length];rfl
noncomputable def pK (tell:Flt->Int) (st:List Int × List Flt) (f:Flt):List Int × List Flt:=if tell f=0 \/ tell f ∈ st.1 then st else (st.1 ++ [tell f],st.2 ++ [f])
noncomputable def nO (tell:Flt->Int) (FS:List Flt) (i:Nat):List Int × List Flt:=(FS.take i).foldl (pK tell) ([],[])
theorem qS {tell:Flt->Int}{FS:List Flt}{i:Nat}{f:Flt}(h:FS[i]? = some f):nO tell FS (i + 1)=pK tell (nO tell FS i) f:=by
 unfold nO;rw [bT h,List.foldl_append];rfl
theorem pL {tell:Flt->Int}{FS:List Flt}:∀ (i:Nat),i <= FS.length->(nO tell FS i).1.length=(nO tell FS i).2.length /\ (nO tell FS i).1.length <= i /\ ∀ t,t ∈ (nO tell FS i).1 ↔ t ≠ 0 /\ ∃ f ∈ FS.take i,tell f=t
 | 0,_=>by simp [nO]
 | i + 1,h=>by
  have hx:=List.getElem?_eq_getElem (show i < FS.length by omega);rw [qS hx,bT hx];obtain⟨h1,h2,h3⟩:=pL (tell:=tell) (FS:=FS) i (by omega);generalize nO tell FS i=st at *
  generalize FS[i]=f;unfold pK;by_cases hc:tell f=0 \/ tell f ∈ st.1
  .rw [if_pos hc];refine⟨h1,by omega,fun t=>?_⟩;rw [h3 t];constructor
   .rintro⟨a,g,hg,e⟩;exact⟨a,g,List.mem_append_left _ hg,e⟩
   .rintro⟨a,g,hg,e⟩;rcases List.mem_append.mp hg with z | z
    .exact⟨a,g,z,e⟩
    .have z:g=f:=by simpa using z
     subst z;rcases hc with y | y
     .exact absurd (e.symm.trans y) a
     .rw [e] at y;exact (h3 t).mp y
  .rw [if_neg hc];refine⟨by simp [h1],by simp;omega,fun t=>?_⟩;rw [List.mem_append,h3 t];constructor
   .rintro (⟨a,g,hg,e⟩ | z)
    .exact⟨a,g,List.mem_append_left _ hg,e⟩
    .have z:t=tell f:=by simpa using z
     exact⟨fun y=>hc (.inl (z ▸ y)),f,by simp,z.symm⟩
   .rintro⟨a,g,hg,e⟩;rcases List.mem_append.mp hg with z | z
    .exact .inl ⟨a,g,z,e⟩
    .have z:g=f:=by simpa using z
     subst z;exact .inr (by simp [e])
noncomputable def vF (ins:Nat) (rows:List Row) (outs:List Int):List Int × List Flt:=nO (dF ins rows outs) (cF ins rows outs) (cF ins rows outs).length
noncomputable def gL (h:List Int × List Flt):D:=.dk (h.1.map Sum.inl) (h.2.map Flt.d)
theorem Q1 (fs:List Flt):flats (fs.map Flt.d)=true:=iG fun d hd=>by
 obtain⟨f,_,rfl⟩:=List.mem_map.mp hd;exact mR f
theorem X5 {C:Addr}{ins:Nat}{rows:List Row}{outs:List Int}(hi:ins <= 8) (hs:ins + rows.length < 64) (hl:outs.length <= 100) (hr:RowsOk ins rows) (ho:∀ a ∈ outs,0 <= a /\ a < ((ins + rows.length:Nat):Int)) :
  mH C [bC C ins rows outs]=some (gL (vF ins rows outs)):=by
 have af:=vL (C:=C) hs hl hr ho;have fl:=mS hr ho;have te:=zN (C:=C) (fs:=cF ins rows outs) hi (by omega) hr (fun f hf=>(lB hr f hf).1) (by omega) ho (by omega);unfold vF;generalize cF ins rows outs=FS at *
 refine cB ?_;unfold E6;refine mB (d:=.dk [] []) rfl ?_;refine mB (aN (xs:=[bC C ins rows outs]) rfl af) ?_;refine mC (ds:=FS.map fun f=>.tup [Flt.d f,.int (dF ins rows outs f)]) (fL (xs:=[.lst (FS.map Flt.d),LI (FS.map (dF ins rows outs))]) (aL rfl (aL (aN (xs:=[bC C ins rows outs,.lst (FS.map Flt.d)]) rfl te) rfl)) (by
   simp only [Z0P,LI,List.map_map];rw [zH];rfl))
  (fun i env=>i <= FS.length /\ ∃ a b,env=[some (false,bC C ins rows outs),some (true,gL (nO (dF ins rows outs) FS i)),some (false,.lst (FS.map Flt.d)),a,b]) ⟨Nat.zero_le _,none,none,rfl⟩ ?_ ?_
 .rintro i d env hd ⟨hil,a,b,rfl⟩;obtain⟨f,hf,rfl⟩:=cQ hd;have hlt:i < FS.length:=(List.getElem?_eq_some_iff.mp hf).1;obtain⟨h1,h2,_⟩:=pL (tell:=dF ins rows outs) (FS:=FS) i hil;rw [qS hf];generalize nO (dF ins rows outs) FS i=st at *
  have ff:=mR f;refine⟨_,_,rfl,?_,by omega,some (false,f.d),some (false,.int (dF ins rows outs f)),rfl⟩;show rIf _ _ _ [some (false,bC C ins rows outs),some (true,gL st),some (false,.lst (FS.map Flt.d)),some (false,f.d),some (false,.int (dF ins rows outs f))]=_;unfold pK;by_cases hz:dF ins rows outs f=0
  .rw [if_pos (.inl hz)];refine Z2M ?_ rfl;simp only [ev_Not,ev_Eq,ev_var,ev_C,List.getElem?_cons_zero,List.getElem?_cons_succ,Option.join_some,Option.map_some,eqN_int,hz,decide_true,Bool.not_true]
  .refine Z17 ?_ ?_
   .simp only [ev_Not,ev_Eq,ev_var,ev_C,List.getElem?_cons_zero,List.getElem?_cons_succ,Option.join_some,Option.map_some,eqN_int,hz,decide_false,Bool.not_false]
   .unfold Z2K;simp only [List.getElem?_cons_zero,List.getElem?_cons_succ,gL,ev_var,Option.join_some,Option.map_some,keyOf];rw [if_pos ⟨by rw [List.length_map];omega,Q1 st.2,ff⟩];by_cases hm:dF ins rows outs f ∈ st.1
    .rw [if_pos (by rw [pH];exact decide_eq_true hm),if_pos (.inr hm)]
    .rw [if_neg (by rw [pH];simp [hm]),if_neg (fun z=>z.elim hz hm)];simp
 .rintro env ⟨_,a,b,rfl⟩;rw [List.length_map];rfl
noncomputable def gF (tests:List Int):Int:=tests.foldl (fun m t=>Builtin.bitOr m (1 * 2 ^ t.toNat)) 0
noncomputable def jH (marks:Int) (ks:List Int):Bool:=ks.all fun t=>!decide (Builtin.bitAnd t marks=0)
theorem wU:∀ (bs:List Bool),jQ (bs.map D.bl)=some bs
 | []=>rfl
 | b :: bs=>by simp only [List.map_cons,jQ,wU bs,Option.map_some]
theorem F5:∀ (bs:List Bool),flats (bs.map D.bl)=true
 | []=>rfl
 | b :: bs=>by simp only [List.map_cons,flats,PD.flat,F5 bs,Bool.and_self]
theorem E3 {C:Addr}{marks:Int}{h:List Int × List Flt}(hl:h.1.length <= 1000):gK C [.int marks,gL h]=some (.bl (jH marks h.1)):=by
 refine cB (eR (fW (xs:=[.lst ((h.1.map fun t=>!decide (Builtin.bitAnd t marks=0)).map D.bl)]) (aL ?_ rfl) ?_))
 .have hc:cC [0] (fun _=>some ((h.1.map (Sum.inl:Int->Key)).map yK)) fTT (hU (cR (fEq (fI0 (fun i j=>.int (Builtin.bitAnd i j)) (aA 0) (aA 1)) (fC (.int 0))))) (wA [0] [some (false,.int marks),some (false,gL h)])=some (.lst ((h.1.map fun t=>!decide (Builtin.bitAnd t marks=0)).map D.bl)):=by
   rw [fG D.int (fun t=>.bl (!decide (Builtin.bitAnd t marks=0))) (xs:=h.1) (by simp [yK,Function.comp_def]) hl (fun t _=>?_)]
   .simp [Function.comp_def]
   .show hU _ [some (false,.int t),some (false,.int marks)]=_;simp only [ev_OfB,ev_Not,ev_Eq,ev_I0',ev_var,ev_C,List.getElem?_cons_zero,List.getElem?_cons_succ,Option.join_some,Option.map_some,eqN_int]
  show jP [0] 1 fTT _ [some (false,.int marks),some (false,gL h)]=_;unfold jP;simp only [List.getElem?_cons_zero,List.getElem?_cons_succ,gL] at hc ⊢;have hfl:([0]:List Nat).all (yQ [some (false,D.int marks),some (false,D.dk (h.1.map Sum.inl) (h.2.map Flt.d))])=true:=rfl;simp only [hfl,if_true,hc,F5]
 .simp only [Z3D,wU,Option.map_some];unfold jH;rw [List.all_map];rfl
theorem L7 {n g:Nat}{b:Nat->Bool}(hg:g < n):(tab n b / 2 ^ g % 2=1) ↔ b g=true:=by
 have h:=cH n b g;rw [Nat.testBit_eq_decide_div_mod_eq] at h;simp only [hg,decide_true,Bool.true_and] at h;have e:tab n b / 2 ^ g % 2=((tabN n b / 2 ^ g % 2:Nat):Int):=by unfold tab;simp
 rw [e,<- h];constructor
 .intro z;exact decide_eq_true (by omega)
 .intro z;have:=of_decide_eq_true z;omega
theorem U5 {n t:Nat}(h:t < n):(1 * 2 ^ t:Int)=tab n (fun g=>decide (g=t)):=by
 unfold tab;have:2 ^ t=tabN n (fun g=>decide (g=t)):=iX (Nat.pow_lt_pow_right (by decide) h) fun g hg=>by
  rw [Nat.testBit_two_pow];by_cases e:g=t
  .simp [e]
  .simp [e,Ne.symm e]
 rw [<- this,Int.one_mul];simp
theorem wG {n:Nat}:∀ (tests:List Int) (m:Int) (b:Nat->Bool),m=tab n b->(∀ t ∈ tests,0 <= t /\ t < (n:Int))->tests.foldl (fun m t=>Builtin.bitOr m (1 * 2 ^ t.toNat)) m=tab n (fun g=>b g || decide ((g:Int) ∈ tests))
 | [],m,b,h,_=>by simp [h]
 | t :: ts,m,b,h,hb=>by
  have ht:=hb t (by simp);rw [List.foldl_cons];rw [wG ts _ (fun g=>b g || decide (g=t.toNat)) (by rw [h,U5 (n:=n) (t:=t.toNat) (by omega),sL]) (fun x hx=>hb x (List.mem_cons_of_mem _ hx))];refine cX fun g hg=>?_;by_cases e:g=t.toNat
  .have h1:(g:Int)=t:=by omega
   have h2:(g:Int) ∈ t :: ts:=by rw [h1];exact List.mem_cons_self
   rw [decide_eq_true e,decide_eq_true h2];simp
  .have h1:¬ (g:Int)=t:=by omega
   have h2:((g:Int) ∈ t :: ts) ↔ ((g:Int) ∈ ts):=⟨fun z=>(List.mem_cons.mp z).elim (fun y=>absurd y h1) id,List.mem_cons_of_mem _⟩;rw [decide_eq_false e,Bool.or_false,decide_eq_decide.mpr h2]
theorem O5 {n:Nat}{tests:List Int}(hb:∀ t ∈ tests,0 <= t /\ t < (n:Int)):gF tests=tab n (fun g=>decide ((g:Int) ∈ tests)):=by
 have:=wG tests 0 (fun _=>false) (by unfold tab;rw [iE];rfl) hb;rw [show gF tests=_ from this]
 exact cX fun g _=>by simp
noncomputable def gV (n:Nat) (b:Nat->Bool):List Int:=((List.range n).filter b).map fun (k:Nat)=>(k:Int)
theorem gV_mem {n:Nat}{b:Nat->Bool}{g:Int}:g ∈ gV n b ↔ ∃ k:Nat,k < n /\ b k=true /\ g=(k:Int):=by
 unfold gV;rw [List.mem_map];constructor
 .rintro⟨k,hk,rfl⟩;have:=List.mem_filter.mp hk;exact⟨k,List.mem_range.mp this.1,this.2,rfl⟩
 .rintro⟨k,h1,h2,rfl⟩;exact⟨k,List.mem_filter.mpr ⟨List.mem_range.mpr h1,h2⟩,rfl⟩
theorem uC {n:Nat}{b:Nat->Bool}:(gV n b).length <= n:=by
 unfold gV;rw [List.length_map];exact Nat.le_trans (List.length_filter_le ..) (by simp)
theorem Z0w (n:Nat) (b:Nat->Bool):(gV n b).Pairwise (· < ·):=by
 unfold gV;rw [List.pairwise_map];exact (List.pairwise_lt_range.filter b).imp fun h=>by omega
theorem qF {L:Nat}{b:Nat->Bool}:∀ {n:Nat},L <= n->(∀ g,L <= g->g < n->b g=false)->(List.range n).filter b=(List.range L).filter b
 | 0,h,_=>by
  have:L=0:=by omega
  rw [this]
 | n + 1,h,hb=>by
  by_cases e:L=n + 1
  .rw [e]
  .rw [List.range_succ,List.filter_append,qF (n:=n) (by omega) fun g h1 h2=>hb g h1 (by omega)];simp [hb n (by omega) (by omega)]
theorem kY {C:Addr}{n:Nat}{b:Nat->Bool}(hn:n <= 256):dJ C [.int (tab n b)]=some (LI (gV n b)):=by
 have hlt:(tab n b).natAbs < 2 ^ n:=by unfold tab;rw [Int.natAbs_natCast];exact eE n b
 have hL:Builtin.Int.intBits (tab n b) <= n:=PyProof.Rows.intBits_le hlt;have hB:(tab n b).natAbs < 2 ^ Builtin.Int.intBits (tab n b):=by
  unfold Builtin.Int.intBits;by_cases h0:tab n b=0
  .simp [h0]
  .rw [if_neg (by simpa using h0)];exact Nat.lt_log2_self
 generalize hLe:Builtin.Int.intBits (tab n b)=L at *
 have hz:∀ g,L <= g->g < n->b g=false:=fun g h1 h2=>by
  cases hb:b g with
  | false=>rfl
  | true =>
   have h3:=cH n b g;rw [hb] at h3;simp only [h2,decide_true,Bool.true_and] at h3;have h4:=Nat.ge_two_pow_of_testBit h3;have h5:2 ^ L <= 2 ^ g:=Nat.pow_le_pow_right (by decide) h1;have h6:(tab n b).natAbs=tabN n b:=by unfold tab;rw [Int.natAbs_natCast]
   omega
 refine cB (eR ?_);have key:=eM (fr:=[0]) (src:=sB1 eQ (aB (uE (aA 0)) aH)) (fc:=fEq (fI0 (fun i j=>.int (Builtin.bitAnd i j)) (fI2 (fun _ j=>0 <= j) (fun i j=>.int (i / 2 ^ j.toNat)) (aA 1) (aA 0)) (fC (.int 1))) (fC (.int 1))) (fe:=aV (aA 0)) (env:=[some (false,.int (tab n b))]) (fun (k:Nat)=>.int (k:Int)) (fun (k:Nat)=>.int (k:Int)) b (xs:=List.range L)
  (fL (xs:=[.int (L:Int)]) (aL (by
    show uE (aA 0) [some (false,.int (tab n b))]=_;unfold uE;simp only [ev_var,List.getElem?_cons_zero,Option.join_some,Option.map_some,hLe]) rfl) (by
   unfold eQ;simp only;rw [if_pos (by omega),Int.toNat_natCast];simp)) (by rw [List.length_range];omega) (fun g hg=>by
   have hgl:g < n:=by have:=List.mem_range.mp hg;omega
   have h0:(0:Int) <= (g:Int):=by omega
   have ha:=L7 (n:=n) (b:=b) hgl;show fEq _ _ [some (false,.int (g:Int)),some (false,.int (tab n b))]=_;simp only [ev_Eq,ev_I0',ev_I2',ev_var,ev_C,List.getElem?_cons_zero,List.getElem?_cons_succ,Option.join_some,Option.map_some,h0,if_true,eqN_int,PyProof.Rows.bitAnd_m1,Int.toNat_natCast];congr 1;cases hb:b g with
   | true=>exact decide_eq_true (ha.mpr hb)
   | false=>exact decide_eq_false fun z=>by rw [ha.mp z] at hb;cases hb) (fun g _ _=>rfl)
 refine key.trans ?_;unfold gV LI;rw [qF hL hz,List.map_map];rfl
theorem wM {tell:Flt->Int}{FS:List Flt}:∀ (i:Nat),i <= FS.length->∀ (j:Nat) k f,(nO tell FS i).1[j]? = some k->(nO tell FS i).2[j]? = some f->tell f=k /\ f ∈ FS
 | 0,_=>by intro j k f h;simp [nO] at h
 | i + 1,h=>by
  have hx:=List.getElem?_eq_getElem (show i < FS.length by omega);rw [qS hx];have ih:=wM (tell:=tell) (FS:=FS) i (by omega);have hl:=(pL (tell:=tell) (FS:=FS) i (by omega)).1;have hm:FS[i] ∈ FS:=List.getElem_mem _;generalize nO tell FS i=st at *
  generalize FS[i]=f0 at hm;unfold pK;split
  .exact ih
  .intro j k f h1 h2;by_cases hj:j < st.1.length
   .rw [List.getElem?_append_left hj] at h1;rw [List.getElem?_append_left (by omega)] at h2;exact ih j k f h1 h2
   .rw [List.getElem?_append_right (by omega)] at h1;rw [List.getElem?_append_right (by omega)] at h2;have hz:j - st.1.length=0:=by
     have:=(List.getElem?_eq_some_iff.mp h1).1;simp at this;omega
    rw [hz] at h1;rw [show j - st.2.length=0 by omega] at h2;cases h1;cases h2;exact⟨rfl,hm⟩
theorem yG {n m:Nat}(h:m < 2 ^ n):(m:Int)=tab n fun g=>m.testBit g:=by
 unfold tab;rw [<- iX h fun g _=>rfl]
theorem Z28 {n:Nat}{b c:Nat->Bool}(h:∀ x,x < n->b x=c x):gV n b=gV n c:=by
 unfold gV;congr 1;exact List.filter_congr fun x hx=>h x (List.mem_range.mp hx)
theorem wH {α:Type}(f:α->List Int):∀ (l:List α),tR (l.map fun m=>LI (f m))=some (l.map fun m=>((f m).length:Int))
 | []=>rfl
 | a :: l=>by
  rw [List.map_cons,List.map_cons];unfold LI tR;have ih:=wH f l;unfold LI at ih;rw [ih];simp
theorem Z36 {ins:Nat}(hi:ins <= 3):2 ^ ins <= 8:=Nat.le_trans (Nat.pow_le_pow_right (by decide) hi) (by decide)
theorem Z37 {n:Nat}(hn:n <= 8):2 ^ n <= 256:=Nat.le_trans (Nat.pow_le_pow_right (by decide) hn) (by decide)
theorem zT {C:Addr}{ins:Nat}{h:List Int × List Flt}(hi:ins <= 3) (hl:h.1.length <= 1000) (hk:∀ t ∈ h.1,IsT (2 ^ ins) t /\ t ≠ 0) :
  ∃ b,gG C [.int ins,gL h]=some (LI (gV (2 ^ ins) b)) /\ jH (tab (2 ^ ins) b) h.1=true /\ ∀ c,jH (tab (2 ^ ins) c) h.1=true->(gV (2 ^ ins) b).length <= (gV (2 ^ ins) c).length:=by
 have n8:=Z36 hi;generalize hn:2 ^ ins=n at *
 have N8:=Z37 n8;have ft:bW C [.int ins]=some (.int (aT n)):=by rw [<- hn];exact full_table (by omega)
 have hfull:jH (tab n fun _=>true) h.1=true:=by
  unfold jH;refine List.all_eq_true.mpr fun t ht=>?_;obtain⟨⟨b,hb⟩,h0⟩:=hk t ht;rw [hb,R9];have:¬ tab n (fun g=>b g && true)=0:=by simp only [Bool.and_true];rw [<- hb];exact h0
  rw [decide_eq_false this];rfl
 let P:Nat->Bool:=fun m=>jH (m:Int) h.1
 let L:=(List.range (2 ^ n)).filter P
 have hmem:∀ c,jH (tab n c) h.1=true->tabN n c ∈ L:=fun c hc=>List.mem_filter.mpr ⟨List.mem_range.mpr (eE n c),hc⟩;have hgv:∀ c,gV n (fun g=>(tabN n c).testBit g)=gV n c:=fun c=>Z28 fun x hx=>by rw [cH];simp [hx]
 have hLl:L.length <= 256:=Nat.le_trans (List.length_filter_le _ _) (by rw [List.length_range];exact N8);have hLp:0 < L.length:=List.length_pos_of_mem (hmem _ hfull);have comp:cC [1] (sB1 eQ (aB (fI0 (fun i j=>.int (i + j)) (aM (bW C) [] (aB (aA 0) aH)) (fC (.int 1))) aH)) (fB (aM (gK C) [] (aB (aA 0) (aB (aA 1) aH)))) (aM (dJ C) [] (aB (aA 0) aH)) [some (false,.int (ins:Int)),some (false,gL h),none]=some (.lst (L.map fun m=>LI (gV n fun g=>m.testBit g))):=by
  refine eM (fun (m:Nat)=>.int (m:Int)) (fun m=>LI (gV n fun g=>m.testBit g)) P (xs:=List.range (2 ^ n)) ?_ (by rw [List.length_range];omega) ?_ ?_
  .refine fL (xs:=[.int ((2 ^ n:Nat):Int)]) (aL ?_ rfl) (T4 (by omega));have e1:aM (bW C) [] (aB (aA 0) aH) [some (false,.int (ins:Int)),some (false,gL h),none]=some (.int (aT n)):=aN (xs:=[.int (ins:Int)]) rfl ft;rw [lI e1 (ev_C (d:=.int 1))];congr 2;unfold aT;simp
  .intro m _;have:=E3 (C:=C) (marks:=(m:Int)) (h:=h) hl;have e1:aM (gK C) [] (aB (aA 0) (aB (aA 1) aH)) [some (false,.int (m:Int)),some (false,gL h)]=some (.bl (jH (m:Int) h.1)):=aN (xs:=[.int (m:Int),gL h]) rfl this;show fB _ [some (false,.int (m:Int)),some (false,gL h)]=_;rw [ev_B,e1]
  .intro m hm _;have hlt:=List.mem_range.mp hm;have:=kY (C:=C) (n:=n) (b:=fun g=>m.testBit g) (by omega);rw [<- yG hlt] at this;exact aN (xs:=[.int (m:Int)]) rfl this
 have hlens:=wH (fun m=>gV n fun g=>Nat.testBit m g) L;have hM:=mG (ks:=L.map fun m=>((gV n fun g=>Nat.testBit m g).length:Int)) (by rw [List.length_map];exact hLp);generalize pG (L.map fun m=>((gV n fun g=>Nat.testBit m g).length:Int))=i0 at *
 obtain⟨hi0,hmin⟩:=id hM;rw [List.length_map] at hi0;have hx:=List.getElem?_eq_getElem hi0;generalize hm0:L[i0]=m0 at hx;have hm0L:m0 ∈ L:=List.mem_of_getElem? hx;obtain⟨hm0r,hm0P⟩:=List.mem_filter.mp hm0L;have hm0lt:=List.mem_range.mp hm0r;refine⟨fun g=>m0.testBit g,?_,?_,fun c hc=>?_⟩
 .refine cB ?_;unfold tX;refine mB comp ?_;show pD 2 [some (false,.int (ins:Int)),some (false,gL h),some (true,.lst (L.map fun m=>LI (gV n fun g=>m.testBit g)))]=_;unfold pD;simp only [List.getElem?_cons_zero,List.getElem?_cons_succ,hlens];have hmi:pG (L.map fun m=>((gV n fun g=>Nat.testBit m g).length:Int))=i0:=(mG (by rw [List.length_map];exact hLp)).eq hM;rw [hmi,List.getElem?_map,hx];rfl
 .rw [<- yG hm0lt];exact hm0P
 .obtain⟨j,hj,ej⟩:=List.getElem_of_mem (hmem c hc);have h1:=(hmin j (by rw [List.length_map];exact hj)).1;simp only [List.getD_eq_getElem?_getD,List.getElem?_map,hx,List.getElem?_eq_getElem hj,ej,Option.map_some,Option.getD_some] at h1;rw [hgv] at h1;omega
noncomputable def orB (c:Nat->Bool) (g:Nat):Nat->Bool:=fun x=>c x || decide (x=g)
theorem Z1x {c:Nat->Bool}{g:Nat}:∀ (l:List Nat),l.Nodup->(l.filter (orB c g)).length <= (l.filter c).length + 1
 | [],_=>by simp
 | a :: l,h=>by
  obtain⟨h1,h2⟩:=List.nodup_cons.mp h;have ih:=Z1x (c:=c) (g:=g) l h2;by_cases ha:a=g
  .subst ha;have e:l.filter (orB c a)=l.filter c:=List.filter_congr fun x hx=>by
    have:x ≠ a:=fun z=>h1 (z ▸ hx);simp [orB,this]
   rw [List.filter_cons_of_pos (by simp [orB]),e,List.length_cons];by_cases hc:c a=true
   .rw [List.filter_cons_of_pos hc,List.length_cons];omega
   .rw [List.filter_cons_of_neg hc];omega
  .have e:orB c g a=c a:=by simp [orB,ha]
   by_cases hc:c a=true
   .rw [List.filter_cons_of_pos (by rw [e];exact hc),List.filter_cons_of_pos hc,List.length_cons,List.length_cons];omega
   .rw [List.filter_cons_of_neg (by rw [e];exact hc),List.filter_cons_of_neg hc];exact ih
theorem Z5M {n:Nat}{c:Nat->Bool}{g:Nat}:(gV n (orB c g)).length <= (gV n c).length + 1:=by
 unfold gV;rw [List.length_map,List.length_map];exact Z1x _ List.nodup_range
theorem R6 {n g:Nat}{c:Nat->Bool}(h:g < n):Builtin.bitOr (tab n c) (1 * 2 ^ g)=tab n (orB c g):=by
 rw [U5 h,sL];rfl
noncomputable def PP (n:Nat) (tell:Flt->Int) (FS:List Flt):Nat->(Nat->Bool)->D->Prop
 | 0,c,d=>∃ f bt,f ∈ FS /\ tell f=tab n bt /\ tell f ≠ 0 /\ Builtin.bitAnd (tab n bt) (tab n c)=0 /\ d=.tup [f.d,.lst []]
 | m + 1,c,d=>∃ f bt,f ∈ FS /\ tell f=tab n bt /\ tell f ≠ 0 /\ Builtin.bitAnd (tab n bt) (tab n c)=0 /\ ∃ sub:Nat->D,d=.tup [f.d,.lst ((gV n bt).map fun g=>.tup [.int g,sub g.toNat])] /\ ∀ g,g < n->bt g=true->PP n tell FS m (orB c g) (sub g)
theorem tV:∀ {ks:List Int}{fs:List Flt}{t:Int},ks.length=fs.length->t ∈ ks->∃ (j:Nat) (f:Flt),ks[j]? = some t /\ fs[j]? = some f /\ fU (ks.map fun k=>(Sum.inl k:Key)) (fs.map Flt.d) (Sum.inl t:Key)=some f.d
 | [],_,t,_,h=>by cases h
 | k :: ks,[],t,hl,_=>by simp at hl
 | k :: ks,f :: fs,t,hl,h=>by
  by_cases hp:k=t
  .exact⟨0,f,by simp [hp],rfl,by simp only [List.map_cons,fU,hp,if_true]⟩
  .have hp':¬ (Sum.inl k:Key)=Sum.inl t:=fun z=>hp (Sum.inl.inj z);obtain⟨j,f',h1,h2,h3⟩:=tV (ks:=ks) (fs:=fs) (t:=t) (by simpa using hl) ((List.mem_cons.mp h).resolve_left fun z=>hp z.symm);exact⟨j + 1,f',h1,h2,by simp only [List.map_cons,fU,hp',if_false];exact h3⟩
theorem V0 {g:D->Option D}(k:Int->Int):∀ (ns:List Int),(∀ n ∈ ns,g (.int n)=some (.int (k n)))->Z0p g ns=some (ns.map k)
 | [],_=>rfl
 | n :: ns,h=>by
  unfold Z0p;rw [h n List.mem_cons_self,V0 k ns fun m hm=>h m (List.mem_cons_of_mem _ hm)];rfl
theorem Z2b {fa g:En->Option D}{env:En}{ns:List Int}(k:Int->Int) (h:fa env=some (LI ns)) (hp:0 < ns.length) (hk:∀ n ∈ ns,g (wT (.int n) [])=some (.int (k n))):∃ t ∈ ns,F6 fa g env=some (.int t):=by
 have h1:=V0 (g:=fun d=>g (wT d [])) k ns hk;have hM:=mG (ks:=ns.map k) (by rw [List.length_map];exact hp);have hi:=hM.1;rw [List.length_map] at hi;refine⟨ns[pG (ns.map k)],List.getElem_mem _,?_⟩;unfold F6;rw [h];simp only [LI,nG,h1];rw [List.getElem?_eq_getElem hi];rfl
theorem Z3v {n:Nat}{xs ys:List Int}:eqN (n + 2) (LI xs) (LI ys)=some (decide (xs=ys)):=by
 by_cases h:xs.length=ys.length
 .exact Z4R h
 .unfold LI;rw [W1,if_neg (by simpa using h),decide_eq_false (fun z=>h (by rw [z]))]
theorem D8 {n:Nat}{t:Int}(h:IsT n t):t=tab n fun g=>t.toNat.testBit g:=by
 obtain⟨b,rfl⟩:=h;have e:(tab n b).toNat=tabN n b:=by unfold tab;rw [Int.toNat_natCast]
 rw [e];exact yG (eE n b)
theorem Z1w {C:Addr}{n L:Nat}{h:List Int × List Flt}{tell:Flt->Int}{FS:List Flt}(hn:n <= 8) (hl:h.1.length <= 1000) (hh:h.1.length=h.2.length) (hp:∀ (j:Nat) k f,h.1[j]? = some k->h.2[j]? = some f->tell f=k /\ f ∈ FS)
  (hk:∀ t ∈ h.1,IsT n t /\ t ≠ 0) (hL:∀ c,jH (tab n c) h.1=true->L <= (gV n c).length):∀ (fuel m:Nat) (c:Nat->Bool),m < fuel->(gV n c).length + m < L->∃ d,bU C fuel [gL h,.int (tab n c),.int (m:Int)]=some d /\ PP n tell FS m c d:=by
 intro fuel
 induction fuel with
 | zero=>intro m c hf;omega
 | succ fuel ih =>
  intro m c hf hc;have hnot:jH (tab n c) h.1=false:=by
   cases e:jH (tab n c) h.1 with
   | false=>rfl
   | true=>have:=hL c e;omega
  let lf:=h.1.filter fun t=>decide (Builtin.bitAnd t (tab n c)=0)
  have hlf:0 < lf.length:=by
   unfold jH at hnot;have h1:¬ ∀ t ∈ h.1,(!decide (Builtin.bitAnd t (tab n c)=0))=true:=fun z=>by rw [List.all_eq_true.mpr z] at hnot;cases hnot
   have h2:∃ t ∈ h.1,Builtin.bitAnd t (tab n c)=0:=by
    refine Classical.byContradiction fun z=>h1 fun t ht=>?_;have:¬ Builtin.bitAnd t (tab n c)=0:=fun y=>z ⟨t,ht,y⟩;rw [decide_eq_false this];rfl
   obtain⟨t,h3,h4⟩:=h2;exact List.length_pos_of_mem (List.mem_filter.mpr ⟨h3,decide_eq_true h4⟩)
  let S0:Slot:=some (false,gL h)
  let S1:Slot:=some (false,.int (tab n c))
  let S2:Slot:=some (false,.int (m:Int))
  have e3:jP [1] 0 (fEq (fI0 (fun i j=>.int (Builtin.bitAnd i j)) (aA 0) (aA 1)) (fC (.int 0))) (aV (aA 0)) [S0,S1,S2,none,none,none,none]=some (LI lf):=by
   have hc':cC [1] (fun _=>some ((h.1.map (Sum.inl:Int->Key)).map yK)) (fEq (fI0 (fun i j=>.int (Builtin.bitAnd i j)) (aA 0) (aA 1)) (fC (.int 0))) (aV (aA 0)) (wA [1] [S0,S1,S2,none,none,none,none])=some (.lst (lf.map D.int)):=by
    refine eM D.int D.int (fun t=>decide (Builtin.bitAnd t (tab n c)=0)) (xs:=h.1) (by simp [yK,Function.comp_def]) hl (fun t _=>?_) (fun t _ _=>rfl);show fEq _ _ [some (false,.int t),S1]=_;simp only [ev_Eq,ev_I0',ev_var,ev_C,List.getElem?_cons_zero,List.getElem?_cons_succ,S1,Option.join_some,Option.map_some,eqN_int]
   unfold jP;have hfl:([1]:List Nat).all (yQ [S0,S1,S2,none,none,none,none])=true:=rfl;have hz:([S0,S1,S2,none,none,none,none]:En)[0]? = some (some (false,D.dk (h.1.map Sum.inl) (h.2.map Flt.d))):=rfl;rw [hz];simp only [hfl,if_true,hc',fF];rfl
  obtain⟨t,htm,et⟩:=Z2b (fa:=aA 3) (g:=fB1 cD (aB (aM (dJ C) [] (aB (aA 0) aH)) aH)) (env:=[S0,S1,S2,some (true,LI lf),none,none,none]) (ns:=lf) (fun t=>((gV n fun g=>t.toNat.testBit g).length:Int)) rfl hlf (fun t ht=>by
   have hT:=(hk t (List.mem_filter.mp ht).1).1;have:=kY (C:=C) (n:=n) (b:=fun g=>t.toNat.testBit g) (by omega);rw [<- D8 hT] at this;exact fW (xs:=[LI (gV n fun g=>t.toNat.testBit g)]) (aL (aN (xs:=[.int t]) rfl this) rfl) (by simp only [cD,LI,List.length_map]))
  obtain⟨ht1,ht2⟩:=List.mem_filter.mp htm;have ht2:=of_decide_eq_true ht2;obtain⟨j,f,hj1,hj2,hj3⟩:=tV hh ht1;obtain⟨hf1,hf2⟩:=hp j t f hj1 hj2;obtain⟨hT,ht0⟩:=hk t ht1;have hbt:=D8 hT;have gi:=kY (C:=C) (n:=n) (b:=fun g=>t.toNat.testBit g) (by omega);rw [<- hbt] at gi;generalize (fun g=>t.toNat.testBit g)=bt at *
  let S3:Slot:=some (true,LI lf)
  let S4:Slot:=some (true,.int t)
  have eg:∀ (x y:Slot),wS (aA 0) (aA 4) [S0,S1,S2,S3,S4,x,y]=some f.d:=fun x y=>by
   rw [ev_DGet];have z0:aA 0 [S0,S1,S2,S3,S4,x,y]=some (.dk (h.1.map Sum.inl) (h.2.map Flt.d)):=rfl;have z4:aA 4 [S0,S1,S2,S3,S4,x,y]=some (.int t):=rfl;rw [z0,z4];have ff:=mR f;simp only [keyOf];rw [hj3];simp only [ff,if_true]
  have ret:∀ (ds:List D) (y:Slot),lE (.inr (wS (aA 0) (aA 4)) :: (.inl 5 :: [])) [S0,S1,S2,S3,S4,some (true,.lst ds),y]=.ret (.tup [f.d,.lst ds]):=fun ds y=>sY (oQ (eg _ _) (oR rfl rfl)) (by simp);have hbt0:Builtin.bitAnd (tab n bt) (tab n c)=0:=by rw [<- hbt];exact ht2
  have htell:tell f=tab n bt:=hf1.trans hbt;have htell0:tell f ≠ 0:=by rw [hf1];exact ht0
  cases m with
  | zero =>
   refine⟨.tup [f.d,.lst []],?_,f,bt,hf2,htell,htell0,hbt0,rfl⟩;show runF 7 (gX C (bU C fuel)) [gL h,.int (tab n c),.int ((0:Nat):Int)]=_;refine uY ?_;unfold gX;refine fH e3 ?_;refine fH et ?_;refine fH (d:=.lst []) rfl ?_;refine wNo rfl ?_;exact ret [] none
  | succ m =>
   have hall:∀ k:Nat,∃ d,k < n->bt k=true->bU C fuel [gL h,.int (tab n (orB c k)),.int (m:Int)]=some d /\ PP n tell FS m (orB c k) d:=fun k=>by
    by_cases hkn:k < n
    .have:=Z5M (n:=n) (c:=c) (g:=k);obtain⟨d,d1,d2⟩:=ih m (orB c k) (by omega) (by omega);exact⟨d,fun _ _=>⟨d1,d2⟩⟩
    .exact⟨.non,fun z=>absurd z hkn⟩
   obtain⟨sub,hsub⟩:=Classical.axiomOfChoice hall;refine⟨.tup [f.d,.lst ((gV n bt).map fun g=>.tup [.int g,sub g.toNat])],?_,f,bt,hf2,htell,htell0,hbt0,sub,rfl,fun g hg hb=>(hsub g hg hb).2⟩;show runF 7 (gX C (bU C fuel)) [gL h,.int (tab n c),.int ((m + 1:Nat):Int)]=_;refine uY ?_;unfold gX;refine fH e3 ?_;refine fH et ?_;refine fH (d:=.lst []) rfl ?_;have hgl:=uC (n:=n) (b:=bt);have pos:fBI (fun i j=>decide (j < i)) (aA 2) (fC (.int 0)) [S0,S1,S2,S3,S4,some (true,.lst []),none]=some true:=by
    show some (decide ((0:Int) < ((m + 1:Nat):Int)))=_;rw [decide_eq_true (by omega)]
   refine zL pos ?_;refine vP (ds:=(gV n bt).map D.int) (dQ (aN (xs:=[.int t]) rfl gi)) (fun i env=>∃ y,env=[S0,S1,S2,S3,S4,some (true,.lst (((gV n bt).take i).map fun g=>.tup [.int g,sub g.toNat])),y]) ⟨none,rfl⟩ ?_ ?_
   .rintro i d env R hd ⟨y,rfl⟩ hR;obtain⟨g,hg,rfl⟩:=cQ hd;obtain⟨k,hkn,hkb,rfl⟩:=gV_mem.mp (List.mem_of_getElem? hg);obtain⟨d1,_⟩:=hsub k hkn hkb;refine⟨_,rfl,?_⟩
    let E:En:=[S0,S1,S2,S3,S4,some (true,.lst (((gV n bt).take i).map fun g=>.tup [.int g,sub g.toNat])),some (false,.int (k:Int))]
    have a1:fI0 (fun i j=>.int (Builtin.bitOr i j)) (aA 1) (fI2 cO (fun i j=>.int (i * 2 ^ j.toNat)) (fC (.int 1)) (aA 6)) E=some (.int (tab n (orB c k))):=by
     have b1:fI2 cO (fun i j=>.int (i * 2 ^ j.toNat)) (fC (.int 1)) (aA 6) E=some (.int (1 * 2 ^ (k:Int).toNat)):=mT (C:=cO) (i:=1) (j:=(k:Int)) rfl rfl (kG (by omega) (by omega));rw [Int.toNat_natCast] at b1;rw [lI (i:=tab n c) rfl b1,R6 hkn]
    have a2:fI0 (fun i j=>.int (i - j)) (aA 2) (fC (.int 1)) E=some (.int (m:Int)):=by
     have z:((m + 1:Nat):Int) - 1=(m:Int):=by omega
     rw [lI (i:=((m + 1:Nat):Int)) (j:=1) rfl rfl,z]
    have a3:aM (bU C fuel) [] (aB (aA 0) (aB (fI0 (fun i j=>.int (Builtin.bitOr i j)) (aA 1) (fI2 cO (fun i j=>.int (i * 2 ^ j.toNat)) (fC (.int 1)) (aA 6))) (aB (fI0 (fun i j=>.int (i - j)) (aA 2) (fC (.int 1))) aH))) E=some (sub k):=aN (xs:=[gL h,.int (tab n (orB c k)),.int (m:Int)]) (aL rfl (aL a1 (aL a2 rfl))) d1;have a4:fJ (aB (aV (aA 6)) (aB (aM (bU C fuel) [] (aB (aA 0) (aB (fI0 (fun i j=>.int (Builtin.bitOr i j)) (aA 1) (fI2 cO (fun i j=>.int (i * 2 ^ j.toNat)) (fC (.int 1)) (aA 6))) (aB (fI0 (fun i j=>.int (i - j)) (aA 2) (fC (.int 1))) aH)))) aH)) E=some (.tup [.int (k:Int),sub k]):=by
     have b0:aV (aA 6) E=some (.int (k:Int)):=rfl;rw [ev_Tup,aL b0 (aL a3 rfl)];rfl
    refine vQ (d:=.tup [.int (k:Int),sub k]) (ds:=((gV n bt).take i).map fun g=>.tup [.int g,sub g.toNat]) a4 rfl (by rw [List.length_map,List.length_take];omega) (hR _ ⟨some (false,.int (k:Int)),?_⟩);rw [bT hg,List.map_append];rfl
   .rintro env ⟨y,rfl⟩;rw [List.length_map,List.take_length];exact ret _ _
theorem Z63 {P:D->Prop}{g:En->Res}{env:En}(w:Wp (g env) (Rt P)) (h:∀ d,P d->∀ C,d ≠ .exc C):Wp (Z2L g env) (Rt P):=by
 obtain⟨d,e,p⟩:=w;refine⟨d,?_,p⟩;unfold Z2L;rw [e];cases d <;> first | rfl | exact absurd rfl (h _ p _)
theorem yR {C CE:Addr}{ins:Nat}{rows:List Row}{outs:List Int}(hi:3 < ins):gW C CE [bC C ins rows outs]=some (.exc CE):=by
 refine uY ?_;show Wp (mP C CE [some (false,bC C ins rows outs),none,none]) _;unfold mP;have e:fBI (fun i j=>decide (j < i)) (fK C "ins" (aA 0)) (fC (.int 3)) [some (false,bC C ins rows outs),none,none]=some true:=by
  rw [ev_BI,jJ (by rfl),ev_C];dsimp only;rw [decide_eq_true (by omega)]
 exact zL e rfl
theorem Z0y {C CE:Addr}{ins:Nat}{rows:List Row}{outs:List Int}(hi:ins <= 3) (hs:ins + rows.length < 64) (hl:outs.length <= 100) (hr:RowsOk ins rows) (ho:∀ a ∈ outs,0 <= a /\ a < ((ins + rows.length:Nat):Int)) :
  ∃ b d,gW C CE [bC C ins rows outs]=some (.tup [LI (gV (2 ^ ins) b),d]) /\ jH (tab (2 ^ ins) b) (vF ins rows outs).1=true /\ ((gV (2 ^ ins) b).length=0->d=.non) /\ (0 < (gV (2 ^ ins) b).length->PP (2 ^ ins) (dF ins rows outs) (cF ins rows outs) ((gV (2 ^ ins) b).length - 1) (fun _=>false) d):=by
 have th:=X5 (C:=C) (by omega) hs hl hr ho;have fl:=mS hr ho;obtain⟨h1,h2,h3⟩:=pL (tell:=dF ins rows outs) (FS:=cF ins rows outs) (cF ins rows outs).length (Nat.le_refl _);have h4:=wM (tell:=dF ins rows outs) (FS:=cF ins rows outs) (cF ins rows outs).length (Nat.le_refl _);have hk:∀ t ∈ (vF ins rows outs).1,IsT (2 ^ ins) t /\ t ≠ 0:=fun t ht=>by
  obtain⟨a,f,hf,rfl⟩:=(h3 t).mp ht;exact⟨X6 (lR hr .no) (lR hr (lB hr f (List.mem_of_mem_take hf)).1) outs,a⟩
 have n8:=Z36 hi
 change (vF ins rows outs).1.length=(vF ins rows outs).2.length at h1
 change (vF ins rows outs).1.length <= _ at h2
 change ∀ (j:Nat) k f,(vF ins rows outs).1[j]? = some k->(vF ins rows outs).2[j]? = some f->_ at h4
 generalize vF ins rows outs=h at *
 obtain⟨b,hb1,hb2,hb3⟩:=zT (C:=C) (h:=h) hi (by omega) hk;have hgl:=uC (n:=2 ^ ins) (b:=b);have hz:(0:Int)=tab (2 ^ ins) fun _=>false:=by unfold tab;rw [iE];rfl
 have hg0:(gV (2 ^ ins) fun _=>false)=[]:=by unfold gV;simp
 let S0:Slot:=some (false,bC C ins rows outs)
 have e0:fBI (fun i j=>decide (j < i)) (fK C "ins" (aA 0)) (fC (.int 3)) [S0,none,none]=some false:=by
  rw [ev_BI,jJ (by rfl),ev_C];dsimp only;rw [decide_eq_false (by omega)]
 have e2:aM (gG C) [] (aB (fK C "ins" (aA 0)) (aB (aA 1) aH)) [S0,some (true,gL h),none]=some (LI (gV (2 ^ ins) b)):=aN (xs:=[.int (ins:Int),gL h]) (aL (jJ (by rfl)) rfl) hb1;have eqe:fEq (aA 2) (fY aH) [S0,some (true,gL h),some (true,LI (gV (2 ^ ins) b))]=some (decide (gV (2 ^ ins) b=[])):=by
  have:=Z3v (n:=6) (xs:=gV (2 ^ ins) b) (ys:=[]);exact this
 have run:∀ d,(∀ C',d ≠ D.exc C')->Wp (aK (rIf (fEq (aA 2) (fY aH)) (lE (.inl 2 :: (.inr (fC .non) :: []))) bD) (lE (.inl 2 :: (.inr (aM (bU C 9) [] (aB (aA 1) (aB (fC (.int 0)) (aB (fI0 (fun i j=>.int (i - j)) (fB1 cD (aB (aA 2) aH)) (fC (.int 1))) aH)))) :: []))) [S0,some (true,gL h),some (true,LI (gV (2 ^ ins) b))]) (Rt (· = d))->gW C CE [bC C ins rows outs]=some d:=fun d hd w=>by
  refine uY ?_;show Wp (mP C CE [S0,none,none]) _;unfold mP;refine wNo e0 ?_;have:=Z63 (g:=aK (bI 1 (aM (mH C) [] (aB (aA 0) aH))) (aK (bI 2 (aM (gG C) [] (aB (fK C "ins" (aA 0)) (aB (aA 1) aH)))) (aK (rIf (fEq (aA 2) (fY aH)) (lE (.inl 2 :: (.inr (fC .non) :: []))) bD) (lE (.inl 2 :: (.inr (aM (bU C 9) [] (aB (aA 1) (aB (fC (.int 0)) (aB (fI0 (fun i j=>.int (i - j)) (fB1 cD (aB (aA 2) aH)) (fC (.int 1))) aH)))) :: [])))))) (env:=[S0,none,none]) (P:=(· = d)) (by
   refine fH (aN (xs:=[bC C ins rows outs]) rfl th) ?_;exact fH e2 w) (fun x hx C'=>by rw [hx];exact hd C')
  obtain⟨x,e,rfl⟩:=this;exact e
 by_cases hem:gV (2 ^ ins) b=[]
 .refine⟨b,.non,run _ (fun C' z=>by cases z) ?_,hb2,fun _=>rfl,fun z=>by rw [hem] at z;cases z⟩;rw [decide_eq_true hem] at eqe;refine zL eqe ?_;refine⟨_,?_,rfl⟩;unfold aK;rw [sY (oR rfl (oQ rfl rfl)) (by simp)]
 .have hpos:0 < (gV (2 ^ ins) b).length:=List.length_pos_iff.mpr hem;obtain⟨d,d1,d2⟩:=Z1w (C:=C) (n:=2 ^ ins) (L:=(gV (2 ^ ins) b).length) (h:=h) (tell:=dF ins rows outs) (FS:=cF ins rows outs) n8 (by omega) h1 h4 hk hb3 9 ((gV (2 ^ ins) b).length - 1) (fun _=>false) (by omega) (by rw [hg0];simp;omega);rw [<- hz] at d1;refine⟨b,d,run _ (fun C' z=>by cases z) ?_,hb2,fun z=>by omega,fun _=>d2⟩;rw [decide_eq_false hem] at eqe;refine wNo eqe ?_;refine⟨_,?_,rfl⟩;refine sY (oR rfl (oQ (d:=d) ?_ rfl)) (by simp);refine aN (xs:=[gL h,.int 0,.int (((gV (2 ^ ins) b).length - 1:Nat):Int)]) (aL rfl (aL rfl (aL ?_ rfl))) d1;have b1:fB1 cD (aB (aA 2) aH) [S0,some (true,gL h),some (true,LI (gV (2 ^ ins) b))]=some (.int ((gV (2 ^ ins) b).length:Int)):=fW (xs:=[LI (gV (2 ^ ins) b)]) rfl (by simp only [cD,LI,List.length_map]);rw [lI (j:=1) b1 rfl];congr 2;omega
theorem Z4Z {Q:Res->Prop}{env:En}{k:En->Res}{i j kk:Nat}{CE:Addr}{F':List D->Option D}{dds xs:List D}{fs:En->Option (List D)}(e1:fs env=some xs) (e2:F' (xs ++ dds)=some (.exc CE)) (h:j ≠ kk /\ j < env.length /\ kk < env.length) (q:Wp (k ((env.set j (some (true,.exc CE))).set kk none)) Q):Wp (aK (xM i j kk CE F' dds fs) k env) Q:=by
 have e:xM i j kk CE F' dds fs env=.next ((env.set j (some (true,.exc CE))).set kk none):=by unfold xM;simp only [e1,e2];exact if_pos ⟨by first | trivial | rfl,h⟩
 unfold aK;rw [e];exact q
theorem Z4Y {Q:Res->Prop}{env:En}{k:En->Res}{i j kk:Nat}{CE:Addr}{F':List D->Option D}{dds xs:List D}{fs:En->Option (List D)}{d:D}(e1:fs env=some xs) (e2:F' (xs ++ dds)=some d) (h:∀ C,d ≠ .exc C) (q:Wp (k (env.set i (some (true,d)))) Q):Wp (aK (xM i j kk CE F' dds fs) k env) Q:=by
 have e:xM i j kk CE F' dds fs env=.next (env.set i (some (true,d))):=by
  unfold xM;simp only [e1,e2]
  try (cases d <;> first | rfl | exact absurd rfl (h _))
 unfold aK;rw [e];exact q
theorem Z0N {C CE:Addr}{ins:Nat}{rows:List Row}{outs:List Int}{ds:List D}(h:gW C CE [bC C ins rows outs]=some (.tup ds)):kA C CE [bC C ins rows outs]=some (.tup ds):=by
 refine uY ?_;show Wp (kE C CE [some (false,bC C ins rows outs),none,none,none]) _;unfold kE;refine fH (d:=.non) rfl ?_;refine fH (d:=.non) rfl ?_;refine Z4Y (xs:=[bC C ins rows outs]) rfl h (fun C' e=>by cases e) ?_;exact zL rfl rfl
theorem J8 {C CE:Addr}{ins:Nat}{rows:List Row}{outs:List Int}(h:gW C CE [bC C ins rows outs]=some (.exc CE)):kA C CE [bC C ins rows outs]=some (.str "great"):=by
 refine uY ?_;show Wp (kE C CE [some (false,bC C ins rows outs),none,none,none]) _;unfold kE;refine fH (d:=.non) rfl ?_;refine fH (d:=.non) rfl ?_;refine Z4Z (xs:=[bC C ins rows outs]) rfl h ⟨by decide,by simp,by simp⟩ ?_;refine wNo rfl ?_;have e:∀ b,F7 CE b (aA 2) [some (false,bC C ins rows outs),some (true,.non),some (true,.exc CE),none]=some (.bl b):=fun b=>by
  unfold F7;rw [show aA 2 [some (false,bC C ins rows outs),some (true,.non),some (true,.exc CE),none]=some (.exc CE) from rfl]
  exact if_pos rfl
 refine wNo (by
  show fOr _ _ [some (false,bC C ins rows outs),some (true,.non),some (true,.exc CE),none]=_;rw [ev_Or,ev_B,e];simp only;rw [ev_Not,ev_B,e];rfl) ?_
 exact Z0S (d:=.str "great") rfl rfl
theorem Z3t (n:Nat) (f:Flt):eqN (n + 2) f.d f.d=some true:=by
 cases f <;> simp [Flt.d,eqN_tup,eqL_cons,eqL_nil,eqN_str,eqN_int,eqN_non]
theorem Q4 (n:Nat) {f g:Flt}(h:f ≠ g) (hf:f ≠ .none) (hg:g ≠ .none):eqN (n + 2) f.d g.d=some false:=by
 have w1:(Str.ofString "wire" == Str.ofString "leg")=false:=by decide +kernel
 have w2:(Str.ofString "leg" == Str.ofString "wire")=false:=by decide +kernel
 cases f with
 | none=>exact absurd rfl hf
 | wire w b =>
  cases g with
  | none=>exact absurd rfl hg
  | wire w' b' =>
   have:¬ (w=w' /\ b=b'):=fun z=>h (by rw [z.1,z.2]);by_cases h1:w=w'
   .have h2:¬ b=b':=fun z=>this ⟨h1,z⟩;simp [Flt.d,eqN_tup,eqL_cons,eqL_nil,eqN_str,eqN_int,h1,h2]
   .simp [Flt.d,eqN_tup,eqL_cons,eqL_nil,eqN_str,eqN_int,h1]
  | leg w' l' b'=>simp [Flt.d,eqN_tup,eqL_cons,eqL_nil,eqN_str,eqN_int,eqL,w1]
 | leg w l b =>
  cases g with
  | none=>exact absurd rfl hg
  | wire w' b'=>simp [Flt.d,eqN_tup,eqL_cons,eqL_nil,eqN_str,eqN_int,eqL,w2]
  | leg w' l' b' =>
   have:¬ (w=w' /\ l=l' /\ b=b'):=fun z=>h (by rw [z.1,z.2.1,z.2.2]);by_cases h1:w=w'
   .by_cases h2:l=l'
    .have h3:¬ b=b':=fun z=>this ⟨h1,h2,z⟩;simp [Flt.d,eqN_tup,eqL_cons,eqL_nil,eqN_str,eqN_int,h1,h2,h3]
    .simp [Flt.d,eqN_tup,eqL_cons,eqL_nil,eqN_str,eqN_int,h1,h2]
   .simp [Flt.d,eqN_tup,eqL_cons,eqL_nil,eqN_str,eqN_int,h1]
theorem Z0W {n g:Nat}{b:Nat->Bool}(h:n <= g):¬ tab n b / 2 ^ g % 2=1:=by
 have h1:tabN n b < 2 ^ g:=Nat.lt_of_lt_of_le (eE n b) (Nat.pow_le_pow_right (by decide) h);have:tab n b / 2 ^ g=((tabN n b / 2 ^ g:Nat):Int):=by unfold tab;simp
 rw [this,Nat.div_eq_of_lt h1];decide
theorem gV8 {n:Nat}{b:Nat->Bool}(hn:n <= 8):((List.range 8).filter fun (k:Nat)=>decide (tab n b / 2 ^ k % 2=1)).map (fun (k:Nat)=>(k:Int))=gV n b:=by
 unfold gV;congr 1;rw [qF (L:=n) hn fun g h1 _=>decide_eq_false (Z0W h1)];exact List.filter_congr fun k hk=>by
  cases hb:b k with
  | true=>exact decide_eq_true ((L7 (List.mem_range.mp hk)).mpr hb)
  | false=>exact decide_eq_false fun z=>by rw [(L7 (List.mem_range.mp hk)).mp z] at hb;cases hb
noncomputable def oZ (tell:Flt->Int) (f:Flt):D:=.tup [f.d,.int (tell f)]
theorem P1 {C:Addr}{n:Nat}{tell:Flt->Int}{FS:List Flt}(hn:n <= 8) (hFl:FS.length <= 1000) (hFn:∀ f ∈ FS,f ≠ .none):∀ (fuel m:Nat) (c:Nat->Bool) (d:D),m < fuel->PP n tell FS m c d ->
  eL C fuel [d,.lst (FS.map (oZ tell)),.int (tab n c),.int (m:Int)]=some (.bl true):=by
 intro fuel
 induction fuel with
 | zero=>intro m c d hf;omega
 | succ fuel ih =>
  intro m c d hf hP;obtain⟨f,bt,hfF,htell,ht0,hand,bs,rfl,hbs⟩:∃ f bt,f ∈ FS /\ tell f=tab n bt /\ tell f ≠ 0 /\ Builtin.bitAnd (tab n bt) (tab n c)=0 /\ ∃ bs,d=.tup [f.d,.lst bs] /\ (m=0 /\ bs=[] \/ ∃ (m':Nat) (sub:Nat->D),m=m' + 1 /\ bs=(gV n bt).map (fun g=>D.tup [.int g,sub g.toNat]) /\ ∀ g,g < n->bt g=true->PP n tell FS m' (orB c g) (sub g)):=by
   cases m with
   | zero=>obtain⟨f,bt,a1,a2,a3,a4,a5⟩:=hP;exact⟨f,bt,a1,a2,a3,a4,[],a5,.inl ⟨rfl,rfl⟩⟩
   | succ m=>obtain⟨f,bt,a1,a2,a3,a4,sub,a5,a6⟩:=hP;exact⟨f,bt,a1,a2,a3,a4,_,a5,.inr ⟨m,sub,rfl,rfl,a6⟩⟩
  show runF 10 (nJ C (eL C fuel)) [.tup [f.d,.lst bs],.lst (FS.map (oZ tell)),.int (tab n c),.int (m:Int)]=_;refine uY ?_
  let S0:Slot:=some (false,.tup [f.d,.lst bs])
  let S1:Slot:=some (false,.lst (FS.map (oZ tell)))
  let S2:Slot:=some (false,.int (tab n c))
  let S3:Slot:=some (false,.int (m:Int))
  show Wp (nJ C (eL C fuel) [S0,S1,S2,S3,none,none,none,none,none,none]) _;unfold nJ;have ix1:∀ r:En,fIx (aA 0) (fC (.int 1)) (S0 :: r)=some (.lst bs):=fun r=>rfl;have ix0:∀ r:En,fIx (aA 0) (fC (.int 0)) (S0 :: r)=some f.d:=fun r=>rfl;have lb:∀ r:En,fB1 cD (aB (fIx (aA 0) (fC (.int 1))) aH) (S0 :: r)=some (.int (bs.length:Int)):=fun r=>fW (aL (ix1 r) rfl) (by simp only [cD]);refine wNo ?_ ?_
  .have a1:cR (fB (qU "tuple" (aA 0))) [S0,S1,S2,S3,none,none,none,none,none,none]=some false:=rfl;have a2:cR (fEq (fB1 cD (aB (aA 0) aH)) (fC (.int 2))) [S0,S1,S2,S3,none,none,none,none,none,none]=some false:=rfl;have a3:cR (fB (qU "list" (fIx (aA 0) (fC (.int 1))))) [S0,S1,S2,S3,none,none,none,none,none,none]=some false:=by
    rw [ev_Not,ev_B,ev_IsT,ix1];rfl
   rw [ev_Or,a1];simp only;rw [ev_Or,a2];exact a3
  refine fH (d:=.int 0) rfl ?_;refine vP (ds:=FS.map (oZ tell)) rfl (fun i env=>∃ v a b,(v=0 /\ f ∉ FS.take i \/ v=tell f) /\ env=[S0,S1,S2,S3,some (true,.int v),a,b,none,none,none]) ⟨0,none,none,.inl ⟨rfl,by simp⟩,rfl⟩ ?_ ?_
  .rintro i d env R hd ⟨v,a,b,hv,rfl⟩ hR;obtain⟨f',hf',rfl⟩:=cQ hd;refine⟨[S0,S1,S2,S3,some (true,.int v),some (false,f'.d),some (false,.int (tell f')),none,none,none],rfl,?_⟩;have eqv:fEq (aA 5) (fIx (aA 0) (fC (.int 0))) [S0,S1,S2,S3,some (true,.int v),some (false,f'.d),some (false,.int (tell f')),none,none,none]=eqN 8 f'.d f.d:=by
    rw [ev_Eq,ix0];rfl
   by_cases hff:f'=f
   .subst hff;rw [Z3t 6] at eqv;refine R0 eqv ?_;exact zK (d:=.int (tell f')) rfl (hR _ ⟨tell f',_,_,.inr rfl,rfl⟩)
   .rw [Q4 6 hff (hFn f' (List.mem_of_getElem? hf')) (hFn f hfF)] at eqv;refine zM eqv ?_;refine hR _ ⟨v,_,_,hv.imp (fun z=>⟨z.1,fun y=>?_⟩) id,rfl⟩;rw [bT hf'] at y;rcases List.mem_append.mp y with y | y
    .exact z.2 y
    .exact hff (List.mem_singleton.mp y).symm
  rintro env ⟨v,a,b,hv,rfl⟩;rw [List.length_map,List.take_length] at hv;obtain rfl:v=tell f:=hv.elim (fun z=>absurd hfF z.2) id;rw [htell]
  let S4:Slot:=some (true,.int (tab n bt))
  refine (show Wp (aK _ _ [S0,S1,S2,S3,S4,a,b,none,none,none]) _ from ?_)
  have ht0':¬ tab n bt=0:=by rw [<- htell];exact ht0
  refine wNo ?_ ?_
  .have a1:fEq (aA 4) (fC (.int 0)) [S0,S1,S2,S3,S4,a,b,none,none,none]=some false:=by
    show eqN 8 (.int (tab n bt)) (.int 0)=_;rw [eqN_int,decide_eq_false ht0']
   have a2:cR (fEq (fI0 (fun i j=>.int (Builtin.bitAnd i j)) (aA 4) (aA 2)) (fC (.int 0))) [S0,S1,S2,S3,S4,a,b,none,none,none]=some false:=by
    rw [ev_Not,ev_Eq,lI (i:=tab n bt) (j:=tab n c) rfl rfl,hand];rfl
   rw [ev_Or,a1];exact a2
  have em:fEq (aA 3) (fC (.int 0)) [S0,S1,S2,S3,S4,a,b,none,none,none]=some (decide ((m:Int)=0)):=by
   show eqN 8 (.int (m:Int)) (.int 0)=_;rw [eqN_int]
  rcases hbs with ⟨rfl,rfl⟩ | ⟨m',sub,rfl,rfl,hsub⟩
  .refine zL em ?_;exact Z0R (d:=.bl true) rfl rfl
  .rw [decide_eq_false (by omega)] at em;refine wNo em ?_;have hgl:=uC (n:=n) (b:=bt);have comp:cC [4] (sB1 eQ (aB (fC (.int 8)) aH)) (fEq (fI0 (fun i j=>.int (Builtin.bitAnd i j)) (fI2 (fun _ j=>0 <= j) (fun i j=>.int (i / 2 ^ j.toNat)) (aA 1) (aA 0)) (fC (.int 1))) (fC (.int 1))) (aV (aA 0)) [S0,S1,S2,S3,S4,a,b,none,none,none]=some (LI (gV n bt)):=by
    rw [eM (fun (k:Nat)=>.int (k:Int)) (fun (k:Nat)=>.int (k:Int)) (fun (k:Nat)=>decide (tab n bt / 2 ^ k % 2=1)) (xs:=List.range 8) (fL (xs:=[.int 8]) rfl (Z2H (n:=8) rfl (by decide))) (by simp) (fun k _=>?_) (fun k _ _=>rfl),<- gV8 hn]
    .unfold LI;rw [List.map_map];rfl
    .show fEq _ _ [some (false,.int (k:Int)),S4]=_;have b1:fI2 (fun _ j=>0 <= j) (fun i j=>.int (i / 2 ^ j.toNat)) (aA 1) (aA 0) [some (false,.int (k:Int)),S4]=some (.int (tab n bt / 2 ^ (k:Int).toNat)):=mT (C:=fun _ j=>0 <= j) (i:=tab n bt) (j:=(k:Int)) rfl rfl (by omega);rw [Int.toNat_natCast] at b1;rw [ev_Eq,lI (j:=1) b1 rfl,ev_C,PyProof.Rows.bitAnd_m1];simp only [eqN_int]
   refine fH comp ?_
   let S7:Slot:=some (true,LI (gV n bt))
   refine (show Wp (aK _ _ [S0,S1,S2,S3,S4,a,b,S7,none,none]) _ from ?_)
   have l7:∀ x y:Slot,fB1 cD (aB (aA 7) aH) [S0,S1,S2,S3,S4,a,b,S7,x,y]=some (.int ((gV n bt).length:Int)):=fun x y=>fW (xs:=[LI (gV n bt)]) rfl (by simp only [cD,LI,List.length_map]);refine wNo ?_ ?_
   .rw [ev_Not,ev_Eq,lb,l7];simp only [List.length_map,eqN_int,decide_true,Option.map_some,Bool.not_true]
   refine vP (ds:=(List.range (gV n bt).length).map fun (k:Nat)=>.int (k:Int)) (fL (xs:=[.int ((gV n bt).length:Int)]) (aL (l7 _ _) rfl) (T4 (by omega))) (fun i env=>∃ x y,env=[S0,S1,S2,S3,S4,a,b,S7,x,y]) ⟨none,none,rfl⟩ ?_ ?_
   .rintro i d env R hd ⟨x,y,rfl⟩ hR;obtain⟨hi,rfl⟩:=jX hd;refine⟨[S0,S1,S2,S3,S4,a,b,S7,some (false,.int (i:Int)),y],rfl,?_⟩;have hg:=List.getElem?_eq_getElem hi;generalize (gV n bt)[i]=g at hg;obtain⟨k,hkn,hkb,rfl⟩:=gV_mem.mp (List.mem_of_getElem? hg);have hst:atI ((gV n bt).map fun g=>D.tup [.int g,sub g.toNat]) (i:Int)=some (.tup [.int (k:Int),sub k]):=iD (by rw [List.getElem?_map,hg];rfl);have hgi:atI ((gV n bt).map D.int) (i:Int)=some (.int (k:Int)):=iD (by rw [List.getElem?_map,hg];rfl);have e9:fIx (fIx (aA 0) (fC (.int 1))) (aA 8) [S0,S1,S2,S3,S4,a,b,S7,some (false,.int (i:Int)),y]=some (.tup [.int (k:Int),sub k]):=by
     rw [ev_Ix,ix1];exact hst
    let S9:Slot:=some (false,.tup [.int (k:Int),sub k])
    let E:En:=[S0,S1,S2,S3,S4,a,b,S7,some (false,.int (i:Int)),S9]
    have hset:A3 9 [0] (fIx (fIx (aA 0) (fC (.int 1))) (aA 8)) [S0,S1,S2,S3,S4,a,b,S7,some (false,.int (i:Int)),y]=.next E:=by
     unfold A3;rw [e9];rfl
    have e7:fIx (aA 7) (aA 8) E=some (.int (k:Int)):=hgi;have e90:fIx (aA 9) (fC (.int 0)) E=some (.int (k:Int)):=rfl;have e91:fIx (aA 9) (fC (.int 1)) E=some (sub k):=rfl;have lw:=U8 (C:=C) (i:=(k:Int));have cnd:fOr (cR (fB (qU "tuple" (aA 9)))) (fOr (cR (fEq (fB1 cD (aB (aA 9) aH)) (fC (.int 2)))) (fOr (cR (fB (aM (dZ C) [] (aB (fIx (aA 9) (fC (.int 0))) aH)))) (cR (fEq (fIx (aA 9) (fC (.int 0))) (fIx (aA 7) (aA 8)))))) E=some false:=by
     have a1:cR (fB (qU "tuple" (aA 9))) E=some false:=rfl;have a2:cR (fEq (fB1 cD (aB (aA 9) aH)) (fC (.int 2))) E=some false:=rfl;have a3:cR (fB (aM (dZ C) [] (aB (fIx (aA 9) (fC (.int 0))) aH))) E=some false:=by
      rw [ev_Not,ev_B,aN (xs:=[.int (k:Int)]) (aL e90 rfl) lw];rfl
     have a4:cR (fEq (fIx (aA 9) (fC (.int 0))) (fIx (aA 7) (aA 8))) E=some false:=by
      rw [ev_Not,ev_Eq,e90,e7];simp only [eqN_int,decide_true,Option.map_some,Bool.not_true]
     rw [ev_Or,a1];simp only;rw [ev_Or,a2];simp only;rw [ev_Or,a3];exact a4
    have rc:=ih m' (orB c k) (sub k) (by omega) (hsub k hkn hkb);have b1:fI2 cO (fun i j=>.int (i * 2 ^ j.toNat)) (fC (.int 1)) (fIx (aA 7) (aA 8)) E=some (.int (1 * 2 ^ (k:Int).toNat)):=mT (C:=cO) (i:=1) (j:=(k:Int)) rfl e7 (kG (by omega) (by omega));rw [Int.toNat_natCast] at b1;have b2:fI0 (fun i j=>.int (Builtin.bitOr i j)) (aA 2) (fI2 cO (fun i j=>.int (i * 2 ^ j.toNat)) (fC (.int 1)) (fIx (aA 7) (aA 8))) E=some (.int (tab n (orB c k))):=by
     rw [lI (i:=tab n c) rfl b1,R6 hkn]
    have b3:fI0 (fun i j=>.int (i - j)) (aA 3) (fC (.int 1)) E=some (.int (m':Int)):=by
     have z:((m' + 1:Nat):Int) - 1=(m':Int):=by omega
     rw [lI (i:=((m' + 1:Nat):Int)) (j:=1) rfl rfl,z]
    have b4:aM (eL C fuel) [] (aB (fIx (aA 9) (fC (.int 1))) (aB (aA 1) (aB (fI0 (fun i j=>.int (Builtin.bitOr i j)) (aA 2) (fI2 cO (fun i j=>.int (i * 2 ^ j.toNat)) (fC (.int 1)) (fIx (aA 7) (aA 8)))) (aB (fI0 (fun i j=>.int (i - j)) (aA 3) (fC (.int 1))) aH)))) E=some (.bl true):=aN (xs:=[sub k,.lst (FS.map (oZ tell)),.int (tab n (orB c k)),.int (m':Int)]) (aL e91 (aL rfl (aL b2 (aL b3 rfl)))) rc;refine (show Wp (aK _ _ _) R from ?_)
    unfold aK;rw [hset];refine (show Wp (aK _ _ E) R from ?_)
    refine wNo cnd ?_;refine zM (by rw [ev_Not,ev_B,b4];rfl) ?_;exact hR _ ⟨_,_,rfl⟩
   .rintro env ⟨x,y,rfl⟩;exact Z0S (d:=.bl true) rfl rfl
theorem rS {C:Addr}{ins:Nat}{tell:Flt->Int}{FS:List Flt}{b:Nat->Bool}(hi:ins <= 3) (hFl:FS.length <= 1000) (ht:∀ f ∈ FS,tell f ≠ 0 -> ¬ Builtin.bitAnd (tell f) (tab (2 ^ ins) b)=0) :
  fR C [LI (gV (2 ^ ins) b),.lst (FS.map (oZ tell)),.int (ins:Int)]=some (.bl true):=by
 have n8:=Z36 hi;have hgl:=uC (n:=2 ^ ins) (b:=b);have hs:=Z0w (2 ^ ins) b;have hmv:gF (gV (2 ^ ins) b)=tab (2 ^ ins) b:=by
  rw [O5 (n:=2 ^ ins) fun t h=>by obtain⟨k,h1,_,rfl⟩:=gV_mem.mp h;omega];refine cX fun g hg=>?_;cases hb:b g with
  | true=>exact decide_eq_true (gV_mem.mpr ⟨g,hg,hb,rfl⟩)
  | false => exact decide_eq_false fun z => by obtain ⟨k, h1, h2, e⟩ := gV_mem.mp z; have : g = k := by omega
                                               subst this;rw [hb] at h2;cases h2
 have hbd:∀ g ∈ gV (2 ^ ins) b,0 <= g /\ g < ((2 ^ ins:Nat):Int):=fun g h=>by obtain⟨k,h1,_,rfl⟩:=gV_mem.mp h;omega
 generalize gV (2 ^ ins) b=W at *
 refine uY ?_
 let S0:Slot:=some (false,LI W)
 let S1:Slot:=some (false,.lst (FS.map (oZ tell)))
 let S2:Slot:=some (false,.int (ins:Int))
 show Wp (iS C [S0,S1,S2,none,none,none]) _;unfold iS;refine wNo rfl ?_;refine fH (d:=.int (-1)) rfl ?_;refine fH (d:=.int 0) rfl ?_;refine vP (ds:=W.map D.int) rfl (fun i env=>∃ last x,(∀ g,W[i]? = some g->last < g) /\ env=[S0,S1,S2,some (true,.int last),some (true,.int (gF (W.take i))),x]) ⟨-1,none,fun g hg=>by have:=hbd g (List.mem_of_getElem? hg);omega,rfl⟩ ?_ ?_
 .rintro i d env R hd ⟨last,x,hlast,rfl⟩ hR;obtain⟨g,hg,rfl⟩:=cQ hd;have hgb:=hbd g (List.mem_of_getElem? hg);have hlg:=hlast g hg;have lw:=U8 (C:=C) (i:=g);refine⟨[S0,S1,S2,some (true,.int last),some (true,.int (gF (W.take i))),some (false,.int g)],rfl,?_⟩;have sh:∀ E:En,E[2]? = some S2->fI2 cO (fun i j=>.int (i * 2 ^ j.toNat)) (fC (.int 1)) (aA 2) E=some (.int ((2 ^ ins:Nat):Int)):=fun E hE=>by
   have e0:aA 2 E=some (.int (ins:Int)):=by rw [ev_var,hE];rfl
   rw [mT (C:=cO) (i:=1) (j:=(ins:Int)) rfl e0 (kG (by omega) (by omega)),iI]
  refine wNo ?_ ?_
  .have a1:cR (fB (aM (dZ C) [] (aB (aA 5) aH))) [S0,S1,S2,some (true,.int last),some (true,.int (gF (W.take i))),some (false,.int g)]=some false:=by
    rw [ev_Not,ev_B,aN (xs:=[.int g]) rfl lw];rfl
   have a2:fBI (fun i j=>decide (i <= j)) (aA 5) (aA 3) [S0,S1,S2,some (true,.int last),some (true,.int (gF (W.take i))),some (false,.int g)]=some false:=by
    show some (decide (g <= last))=_;rw [decide_eq_false (by omega)]
   have a3:fBI (fun i j=>decide (j <= i)) (aA 5) (fI2 cO (fun i j=>.int (i * 2 ^ j.toNat)) (fC (.int 1)) (aA 2)) [S0,S1,S2,some (true,.int last),some (true,.int (gF (W.take i))),some (false,.int g)]=some false:=by
    rw [ev_BI,sh _ rfl];show some (decide (((2 ^ ins:Nat):Int) <= g))=_;rw [decide_eq_false (by omega)]
   rw [ev_Or,a1];simp only;rw [ev_Or,a2];exact a3
  refine fH (d:=.int g) rfl ?_;have o1:fI0 (fun i j=>.int (Builtin.bitOr i j)) (aA 4) (fI2 cO (fun i j=>.int (i * 2 ^ j.toNat)) (fC (.int 1)) (aA 5)) [S0,S1,S2,some (true,.int g),some (true,.int (gF (W.take i))),some (false,.int g)]=some (.int (gF (W.take (i + 1)))):=by
   have b1:fI2 cO (fun i j=>.int (i * 2 ^ j.toNat)) (fC (.int 1)) (aA 5) [S0,S1,S2,some (true,.int g),some (true,.int (gF (W.take i))),some (false,.int g)]=some (.int (1 * 2 ^ g.toNat)):=mT (C:=cO) (i:=1) (j:=g) rfl rfl (kG (by omega) (by omega));rw [lI (i:=gF (W.take i)) rfl b1,bT hg];unfold gF;rw [List.foldl_append];rfl
  refine zK o1 (hR _ ⟨g,_,fun g' hg'=>?_,rfl⟩);obtain⟨p1,q1⟩:=List.getElem?_eq_some_iff.mp hg;obtain⟨p2,q2⟩:=List.getElem?_eq_some_iff.mp hg';have:=List.pairwise_iff_getElem.mp hs i (i + 1) p1 p2 (by omega);rw [q1,q2] at this;exact this
 .rintro env ⟨last,x,_,rfl⟩;rw [List.length_map,List.take_length,hmv];refine Z0S (d:=.bl true) ?_ rfl;have comp:cC [4] (dM (aA 1)) (un2 (iT (fBI (fun i j=>decide (j < i)) (aA 1) (fC (.int 0))) (fEq (fI0 (fun i j=>.int (Builtin.bitAnd i j)) (aA 1) (aA 2)) (fC (.int 0))))) (un2 (fC (.int 1))) [S0,S1,S2,some (true,.int last),some (true,.int (tab (2 ^ ins) b)),x]=some (.lst []):=by
   rw [eM (oZ tell) (fun _=>.int 1) (fun _=>false) (xs:=FS) rfl hFl (fun f hf=>?_) (fun f _ h=>by cases h)]
   .simp
   .unfold oZ;rw [Z3X];show iT _ _ [some (false,f.d),some (false,.int (tell f)),some (true,.int (tab (2 ^ ins) b))]=_;have c1:fBI (fun i j=>decide (j < i)) (aA 1) (fC (.int 0)) [some (false,f.d),some (false,.int (tell f)),some (true,.int (tab (2 ^ ins) b))]=some (decide (0 < tell f)):=rfl;have c2:fEq (fI0 (fun i j=>.int (Builtin.bitAnd i j)) (aA 1) (aA 2)) (fC (.int 0)) [some (false,f.d),some (false,.int (tell f)),some (true,.int (tab (2 ^ ins) b))]=some (decide (Builtin.bitAnd (tell f) (tab (2 ^ ins) b)=0)):=by
     rw [ev_Eq,lI (i:=tell f) (j:=tab (2 ^ ins) b) rfl rfl,ev_C];simp only [eqN_int]
    rw [ev_And,c1,c2];by_cases h0:0 < tell f
    .rw [decide_eq_true h0,decide_eq_false (ht f hf (by omega))]
    .rw [decide_eq_false h0]
  have len:fB1 cD (aB (cC [4] (dM (aA 1)) (un2 (iT (fBI (fun i j=>decide (j < i)) (aA 1) (fC (.int 0))) (fEq (fI0 (fun i j=>.int (Builtin.bitAnd i j)) (aA 1) (aA 2)) (fC (.int 0))))) (un2 (fC (.int 1)))) aH) [S0,S1,S2,some (true,.int last),some (true,.int (tab (2 ^ ins) b)),x]=some (.int 0):=fW (aL comp rfl) rfl;rw [ev_OfB,ev_Eq,len];rfl
theorem Z1H {F':List D->Option D}{fs:En->Option (List D)}{env:En}{xs:List D}(h:fs env=some xs) (q:F' xs=some (.bl true)):cR (fB (aM F' [] fs)) env=some false:=by
 have:aM F' [] fs env=some (.bl true):=aN (xs:=xs) h (by simpa using q);simp only [ev_Not,ev_B,this,Option.map_some,Bool.not_true]
theorem Z3N {a b:En->Option Bool}{env:En}(h:a env=some false) (k:b env=some false):fOr a b env=some false:=by rw [ev_Or,h];exact k
theorem Z1S {C CE:Addr}(ns:List Int) (hlen:ns.length <= 63) (hbits:∀ i ∈ ns,Builtin.Int.intBits i <= 1048576):Z1O C CE [.lst (ns.map D.int)]=some (.bl true):=by
 refine uY ?_;unfold Z3P;have e1:=fF ns;have e2:cutD (ns.map D.int) none (some 14)=(ns.take 14).map D.int:=by rw [List.map_take];exact pQ (ns.map D.int) 14
 have e3:cutD (ns.map D.int) none (some 63)=ns.map D.int:=(pQ (ns.map D.int) 63).trans (List.take_of_length_le (by simpa using hlen));refine fH (d:=LI (ns.take 14)) (by walk_at "ev";rfl) ?_;have hcb:∀ c ∈ ns.take 14,Builtin.Int.intBits c <= 1048576:=fun c hc=>hbits c (List.mem_of_mem_take hc);have hcl:(ns.take 14).length <= 14:=by rw [List.length_take];omega
 generalize ns.take 14=cells at *
 refine fH (d:=.int 3) (by walk_at "ev") ?_;have el:cD [.lst (cells.map D.int)]=some (.int (cells.length:Int)):=by simp only [cD,List.length_map]
 refine Z50 (fun e=>∃ fst:Int,e=[some (false,.lst (ns.map D.int)),some (true,LI cells),some (true,.int fst),none,none,none,none,none]) ?_ ?_
 .by_cases h:0 < (cells.length:Int)
  .refine R0 (by clear hbits hcb;simp only [LI];walk_at "ev") ?_;have sl:fSl (aA 0) vH (fP (fC (.int 63))) [some (false,.lst (ns.map D.int)),some (true,LI cells),some (true,.int 3),none,none,none,none,none]=some (.lst (ns.map D.int)):=by
    simp only [ev_Sl,ev_var,List.getElem?_cons_zero,Option.join_some,Option.map_some,ev_NoP,ev_P,ev_C,e1,if_true,e3]
   exact zK (d:=.int ns.sum) (fW (xs:=[.lst (ns.map D.int)]) (aL sl rfl) (L9 ns)) ⟨_,rfl,ns.sum,rfl⟩
  .refine zM (by clear hbits hcb;simp only [LI];walk_at "ev") ?_;exact⟨_,rfl,3,rfl⟩
 rintro _ ⟨fst,rfl⟩;have q4:(0:Int) < 4:=by decide
 have q5:(0:Int) < 5:=by decide
 have q8:(0:Int) < 8:=by decide
 have d4:cG fst 4:=⟨by decide,by decide⟩;have d5:cG fst 5:=⟨by decide,by decide⟩;have d32:cG fst 32:=⟨by decide,by decide⟩;have i0:=Int.emod_nonneg fst (show (4:Int) ≠ 0 by decide);have i1:=Int.emod_lt_of_pos fst q4;have j0:=Int.emod_nonneg (fst / 5) (show (5:Int) ≠ 0 by decide);have j1:=Int.emod_lt_of_pos (fst / 5) q5;have l0:=Int.emod_nonneg (fst / 32) (show (5:Int) ≠ 0 by decide);have l1:=Int.emod_lt_of_pos (fst / 32) q5;refine fH (d:=.int (fst % 4)) (by clear hcb hbits;walk_at "ev") ?_;refine Z50 (fun e=>∃ ins:Nat,ins <= 8 /\ e=[some (false,.lst (ns.map D.int)),some (true,LI cells),some (true,.int fst),some (true,.int (ins:Int)),none,none,none,none]) ?_ ?_
 .have cnd:fEq (fI2 (fun _ j=>0 < j) (fun i j=>.int (i % j)) (fI2 cG (fun i j=>.int (i / j)) (aA 2) (fC (.int 4))) (fC (.int 8))) (fC (.int 1)) [some (false,.lst (ns.map D.int)),some (true,LI cells),some (true,.int fst),some (true,.int (fst % 4)),none,none,none,none]=some (decide (fst / 4 % 8=1)):=by
   have y1:fI2 cG (fun i j=>.int (i / j)) (aA 2) (fC (.int 4)) [some (false,.lst (ns.map D.int)),some (true,LI cells),some (true,.int fst),some (true,.int (fst % 4)),none,none,none,none]=some (.int (fst / 4)):=mT (C:=cG) rfl rfl d4;rw [ev_Eq,mT (C:=fun _ j=>0 < j) (j:=8) y1 rfl q8,ev_C];simp only [eqN_int]
  by_cases h:fst / 4 % 8=1
  .rw [decide_eq_true h] at cnd;refine R0 cnd ?_;refine zK (d:=.int (4 + fst / 32 % 5)) ?_ ⟨_,rfl,(4 + fst / 32 % 5).toNat,by omega,?_⟩
   .have y1:fI2 cG (fun i j=>.int (i / j)) (aA 2) (fC (.int 32)) [some (false,.lst (ns.map D.int)),some (true,LI cells),some (true,.int fst),some (true,.int (fst % 4)),none,none,none,none]=some (.int (fst / 32)):=mT (C:=cG) rfl rfl d32;exact lI rfl (mT (C:=fun _ j=>0 < j) (j:=5) y1 rfl q5)
   .rw [Int.toNat_of_nonneg (by omega)];rfl
  .rw [decide_eq_false h] at cnd;refine zM cnd ?_;refine⟨_,rfl,(fst % 4).toNat,by omega,?_⟩;rw [Int.toNat_of_nonneg i0];rfl
 rintro _ ⟨ins,hi8,rfl⟩;obtain⟨many,hmany⟩:∃ k:Nat,fst / 5 % 5=(k:Int):=⟨(fst / 5 % 5).toNat,by omega⟩;obtain⟨_,ec,rows,outs,hr,hrl,hpos,hol,ho,rfl⟩:=P2 (C:=C) (cells:=cells) (ins:=ins) (most:=14) (many:=many) (B:=15) hcb (by omega) (by decide) (by decide) (by decide) (by omega);have ec':fD C [LI cells,.int ins,.int 14,.int many]=some (.tup [.lst (rows.map Row.d),LI outs]):=ec
 let S0:Slot:=some (false,.lst (ns.map D.int))
 let S1:Slot:=some (true,LI cells)
 let S2:Slot:=some (true,.int fst)
 let S3:Slot:=some (true,.int (ins:Int))
 let S4:Slot:=some (false,.lst (rows.map Row.d))
 let S5:Slot:=some (false,LI outs)
 have eu:aM (fD C) [] (aB (aA 1) (aB (aA 3) (aB (fC (.int 14)) (aB (fI2 (fun _ j=>0 < j) (fun i j=>.int (i % j)) (fI2 cG (fun i j=>.int (i / j)) (aA 2) (fC (.int 5))) (fC (.int 5))) aH)))) [S0,S1,S2,S3,none,none,none,none]=some (.tup [.lst (rows.map Row.d),LI outs]):=by
  have y1:fI2 cG (fun i j=>.int (i / j)) (aA 2) (fC (.int 5)) [S0,S1,S2,S3,none,none,none,none]=some (.int (fst / 5)):=mT (C:=cG) rfl rfl d5;have y2:fI2 (fun _ j=>0 < j) (fun i j=>.int (i % j)) (fI2 cG (fun i j=>.int (i / j)) (aA 2) (fC (.int 5))) (fC (.int 5)) [S0,S1,S2,S3,none,none,none,none]=some (.int (many:Int)):=by
   rw [mT (C:=fun _ j=>0 < j) (j:=5) y1 rfl q5,hmany]
  exact aN (xs:=[LI cells,.int ins,.int 14,.int many]) (aL rfl (aL rfl (aL rfl (aL y2 rfl)))) ec'
 refine Z62 eu rfl ?_;have f1:fX [.lst (rows.map Row.d)]=some (.lst (rows.map Row.d)):=by simp only [fX,Z2,if_true]
 have f2:fX [LI outs]=some (LI outs):=by simp only [fX,LI,fF,if_true]
 have mc:=Z3i (C:=C) (ins:=ins) (rows:=rows) (outs:=outs) (by omega);have hs1:ins + rows.length < 64:=by omega
 have hol2:outs.length <= 100:=by omega
 have em:fB1 (fE C) (aB (aA 3) (aB (fB1 fX (aB (aA 4) aH)) (aB (fB1 fX (aB (aA 5) aH)) aH))) [S0,S1,S2,S3,S4,S5,none,none]=some (bC C ins rows outs) :=
  fW (xs:=[.int ins,.lst (rows.map Row.d),LI outs]) (aL rfl (aL (fW (xs:=[.lst (rows.map Row.d)]) rfl f1) (aL (fW (xs:=[LI outs]) rfl f2) rfl))) mc
 have c3:∀ x y:Slot,fBI (fun i j=>decide (j < i)) (aA 3) (fC (.int 3)) [S0,S1,S2,S3,S4,S5,x,y]=some (decide ((3:Int) < (ins:Int))):=fun x y=>rfl;by_cases hg:3 < ins
 .refine fH (aN (xs:=[bC C ins rows outs]) (aL em rfl) (J8 (yR hg))) ?_;refine zL ((c3 _ _).trans (by rw [decide_eq_true (show (3:Int) < (ins:Int) by omega)])) ?_;refine Z0R (d:=.bl true) ?_ rfl;show (eqN 8 (.str "great") (.str "great")).map D.bl=_;rw [eqN_str];rfl
 .obtain⟨b,d,fe,fh,fe0,fe1⟩:=Z0y (C:=C) (CE:=CE) (ins:=ins) (rows:=rows) (outs:=outs) (by omega) hs1 hol2 hr ho;refine fH (aN (xs:=[bC C ins rows outs]) (aL em rfl) (Z0N fe)) ?_;refine wNo ((c3 _ _).trans (by rw [decide_eq_false (show ¬ (3:Int) < (ins:Int) by omega)])) ?_;clear ec ec' mc f1 f2 j0 j1 hmany hcb el em eu fe;have ln:=Z1V (C:=C) hs1 hol2 hr ho;have nb:=rB hr ho;have nl:=qJ hr ho;have lf:=Z1X (C:=C) (N:=lH ins rows outs) hr nb (by omega) ln;have fl:=mS hr ho;have fo:=fun f hf=>(lB (outs:=outs) hr f hf).1;have fn:=fun f hf=>(lB (outs:=outs) hr f hf).2;have LT:∀ f,FltOk ins rows f->eJ C [.int ins,.lst (rows.map Row.d),LI outs,f.d]=some (.int (dF ins rows outs f)):=fun f hf=>Z0m (by omega) (by omega) hr hf ho;have lf':gJ C [.int ins,.lst (rows.map Row.d),LI outs]=some (.lst ((cF ins rows outs).map Flt.d)):=lf;obtain⟨_,_,k3⟩:=pL (tell:=dF ins rows outs) (FS:=cF ins rows outs) (cF ins rows outs).length (Nat.le_refl _);rw [List.take_length] at k3;have hhit:∀ f ∈ cF ins rows outs,dF ins rows outs f ≠ 0 -> ¬ Builtin.bitAnd (dF ins rows outs f) (tab (2 ^ ins) b)=0:=fun f hf h0 z=>by
   have h1:=List.all_eq_true.mp fh _ ((k3 _).mpr ⟨h0,f,hf,rfl⟩);rw [decide_eq_true z] at h1;cases h1
  have n8:=Z36 (ins:=ins) (by omega);have tg:=rS (C:=C) (ins:=ins) (tell:=dF ins rows outs) (FS:=cF ins rows outs) (b:=b) (by omega) (by omega) hhit;have lp:=P1 (C:=C) (n:=2 ^ ins) (tell:=dF ins rows outs) (FS:=cF ins rows outs) n8 (by omega) fn 9 ((gV (2 ^ ins) b).length - 1) (fun _=>false) d;have hz:(0:Int)=tab (2 ^ ins) fun _=>false:=by unfold tab;rw [iE];rfl
  rw [<- hz] at lp;have gl:=uC (n:=2 ^ ins) (b:=b);clear lf ln nb nl k3 fh hhit;generalize gV (2 ^ ins) b=W at *
  generalize cF ins rows outs=FS at *
  let S6:Slot:=some (true,.tup [LI W,d])
  have e7:cC [3,4,5] (dM (aM (gJ C) [] (aB (aA 3) (aB (aA 4) (aB (aA 5) aH))))) fTT (fJ (aB (aV (aA 0)) (aB (aM (eJ C) [] (aB (aA 1) (aB (aA 2) (aB (aA 3) (aB (aA 0) aH))))) aH))) [S0,S1,S2,S3,S4,S5,S6,none]=some (.lst (FS.map (oZ (dF ins rows outs)))):=by
   refine fG Flt.d (oZ (dF ins rows outs)) (dQ (aN (xs:=[.int ins,.lst (rows.map Row.d),LI outs]) rfl lf')) (by omega) (fun f hf=>?_);have g1:aM (eJ C) [] (aB (aA 1) (aB (aA 2) (aB (aA 3) (aB (aA 0) aH)))) [some (false,f.d),S3,S4,S5]=some (.int (dF ins rows outs f)):=aN (xs:=[.int ins,.lst (rows.map Row.d),LI outs,f.d]) rfl (LT f (fo f hf));have ff:=mR f;have g2:aV (aA 0) [some (false,f.d),S3,S4,S5]=some f.d:=by simp only [ev_Flat,ev_var,List.getElem?_cons_zero,Option.join_some,Option.map_some,ff,if_true]
   show fJ _ [some (false,f.d),S3,S4,S5]=_;rw [ev_Tup,aL g2 (aL g1 rfl)];rfl
  refine fH e7 ?_
  let S7:Slot:=some (true,.lst (FS.map (oZ (dF ins rows outs))))
  let E:En:=[S0,S1,S2,S3,S4,S5,S6,S7]
  refine (show Wp (aK _ _ E) _ from ?_)
  have x0:fIx (aA 6) (fC (.int 0)) E=some (LI W):=rfl;have x1:fIx (aA 6) (fC (.int 1)) E=some d:=rfl;refine wNo (Z3N rfl (Z3N rfl (Z1H (xs:=[LI W,.lst (FS.map (oZ (dF ins rows outs))),.int (ins:Int)]) (aL x0 rfl) tg))) ?_;have lw:fB1 cD (aB (fIx (aA 6) (fC (.int 0))) aH) E=some (.int (W.length:Int)):=fW (aL x0 rfl) (by simp only [cD,LI,List.length_map]);have c0:fEq (fB1 cD (aB (fIx (aA 6) (fC (.int 0))) aH)) (fC (.int 0)) E=some (decide ((W.length:Int)=0)):=by
   rw [ev_Eq,lw,ev_C];simp only [eqN_int]
  by_cases hw:W.length=0
  .rw [decide_eq_true (by omega)] at c0;refine zL c0 ?_;refine Z0R (d:=.bl true) ?_ rfl;rw [ev_OfB,show lM false (fIx (aA 6) (fC (.int 1))) E=some true from ?_]
   .rfl
   .have:=fe0 hw;subst this;rfl
  .rw [decide_eq_false (by omega)] at c0;refine wNo c0 ?_;refine Z0S (d:=.bl true) ?_ rfl;have a3:fI0 (fun i j=>.int (i - j)) (fB1 cD (aB (fIx (aA 6) (fC (.int 0))) aH)) (fC (.int 1)) E=some (.int ((W.length - 1:Nat):Int)):=by
    have z:(W.length:Int) - 1=((W.length - 1:Nat):Int):=by omega
    rw [lI (j:=1) lw rfl,z]
   exact aN (xs:=[d,.lst (FS.map (oZ (dF ins rows outs))),.int 0,.int ((W.length - 1:Nat):Int)]) (aL x1 (aL rfl (aL rfl (aL a3 rfl)))) (lp (by omega) (fe1 (by omega)))
theorem us0 {Z:List Value->Prop}(h:Z []) (us:List Value) (hl:us.length=0):Z us:=by rw [List.eq_nil_of_length_eq_zero hl];exact h
theorem usS {Z:List Value->Prop}{n:Nat}(h:∀ (a:Value) (t:List Value),t.length=n->Z (a :: t)) (us:List Value) (hl:us.length=n + 1):Z us:=by
 cases us with
 | nil=>exact absurd hl (by simp)
 | cons a t=>exact h a t (Nat.succ.inj hl)
theorem us1 {Z:List Value->Prop}(h:∀ a0:Value,Z [a0]) (us:List Value) (hl:us.length=1):Z us:=usS (n:=0) (fun a=>us0 (Z:=fun t=>Z (a :: t)) (h a)) us hl
theorem us2 {Z:List Value->Prop}(h:∀ a0 a1:Value,Z [a0,a1]) (us:List Value) (hl:us.length=2):Z us:=usS (n:=1) (fun a=>us1 (Z:=fun t=>Z (a :: t)) (h a)) us hl
theorem us3 {Z:List Value->Prop}(h:∀ a0 a1 a2:Value,Z [a0,a1,a2]) (us:List Value) (hl:us.length=3):Z us:=usS (n:=2) (fun a=>us2 (Z:=fun t=>Z (a :: t)) (h a)) us hl
theorem us4 {Z:List Value->Prop}(h:∀ a0 a1 a2 a3:Value,Z [a0,a1,a2,a3]) (us:List Value) (hl:us.length=4):Z us:=usS (n:=3) (fun a=>us3 (Z:=fun t=>Z (a :: t)) (h a)) us hl
theorem us5 {Z:List Value->Prop}(h:∀ a0 a1 a2 a3 a4:Value,Z [a0,a1,a2,a3,a4]) (us:List Value) (hl:us.length=5):Z us:=usS (n:=4) (fun a=>us4 (Z:=fun t=>Z (a :: t)) (h a)) us hl
theorem us6 {Z:List Value->Prop}(h:∀ a0 a1 a2 a3 a4 a5:Value,Z [a0,a1,a2,a3,a4,a5]) (us:List Value) (hl:us.length=6):Z us:=usS (n:=5) (fun a=>us5 (Z:=fun t=>Z (a :: t)) (h a)) us hl
theorem Z5j {K:Frag}{H:Hp}:Reps K false H [] [] []:=by simp only [Reps];exact⟨trivial,trivial⟩
theorem head_mk {l:PySem.W.OpenLaw}{w:World}{K:Frag}{h:Heap}{mg:Str->Option Value}{fa:Addr}(X:K.In h) (G:h.Ns mainGlobals mg) (hfa:mg "law" = some (.ref fa))
  {C_Circuit:Addr}
  {f0:Addr}{od0 an0:Option Addr}{sl0:Array (Option Value)}{oc0 kV0 dc0 pm0 cd0 ct0:Value}
  {f1:Addr}
  {f2:Addr}
  {f3:Addr}
  {f4:Addr}
  {f5:Addr}
  {f6:Addr}
  {f7:Addr}
  {f8:Addr}{od8 an8:Option Addr}{sl8:Array (Option Value)}{oc8 kV8 dc8 pm8 cd8 ct8:Value}
  {T8:Addr}{ocT8:Value}{odT8:Option Addr}{slT8:Array (Option Value)}{nT8:Nat}
  {f9:Addr}
  {f10:Addr}{od10 an10:Option Addr}{sl10:Array (Option Value)}{oc10 kV10 dc10 pm10 cd10 ct10:Value}
  {T10:Addr}{ocT10:Value}{odT10:Option Addr}{slT10:Array (Option Value)}{nT10:Nat}
  {f11:Addr}
  {f12:Addr}
  {f13:Addr}
  {f14:Addr}
  {f15:Addr}
  {f16:Addr}
  {f17:Addr}
  {f18:Addr}
  {f19:Addr}
  {f20:Addr}{od20 an20:Option Addr}{sl20:Array (Option Value)}{oc20 kV20 dc20 pm20 ct20:Value}
  {cA_lam P0:Addr}
  {f21:Addr}
  {f22:Addr}
  {f23:Addr}
  {f24:Addr}
  {f25:Addr}
  {f26:Addr}
  {f27:Addr}
  {f28:Addr}
  {f29:Addr}
  {f30:Addr}
  {f31:Addr}
  {f32:Addr}
  {f33:Addr}
  {f34:Addr}
  {f35:Addr}
  {f36:Addr}
  {f37:Addr}
  {f38:Addr}{od38 an38:Option Addr}{sl38:Array (Option Value)}{oc38 kV38 dc38 pm38 cd38 ct38:Value}
  {t_FEW_INS:Tok}
  {CE S_X N_X NS_X:Addr}{nm_X q_X nm1_X q1_X:Str}{bs_X bs1_X mro1_X sub_X sub1_X:List Value}{hd_X hd1_X ab_X ab1_X del1_X:Bool}{sn_X sn1_X:List Str}{col_X col1_X:Option Bool}{dd_X d_X d1_X d2_X:Option Addr}{k0_X k1_X k2_X k3_X k5_X:Option Value}{c_X c1_X c2_X:Value}{es_X es1_X:Array DictEntry}{n_X n1_X:Nat}{sl_X sl1_X sl2_X:Array (Option Value)}
  {A_NoCircuit:Addr}{cd_NoCircuit:ClassData}
  {A_NoLine:Addr}{cd_NoLine:ClassData}
  {A_NoWire:Addr}{cd_NoWire:ClassData}
  {A_NotTold:Addr}{cd_NotTold:ClassData}
  {A_StuckError:Addr}{cd_StuckError:ClassData}
  (aC_Circuit:nsIn K mainGlobals "Circuit" = some (some (.ref C_Circuit)))
  (a0:PySem.W.findIn K (.ref C_Circuit) "__init__" = some (some (.ref f0)))
  (l0:K.lookup f0=some ⟨oc0,od0,.func (fnOf "__init__" "Circuit.__init__" (cL cA) (bQ cA) (aI cA) .none kV0 dc0 pm0 an0 cd0 ct0),sl0⟩)
  (c0:codeIn K cd0 "Circuit.__init__" = true)
  (k0:keepIn K (.ref f0)=true)
  (i0:PySem.W.isFn K (.ref f0)=true)
  (pg_Circuit:PySem.W.plainGet K C_Circuit Str.empty=true)
  (hd_Circuit:PySem.W.hasDictIn K C_Circuit=true)
  (po_Circuit:PySem.W.plainOver K C_Circuit=true)
  (sa_Circuit:PySem.W.findIn K (.ref C_Circuit) "__setattr__" = some (some (.builtin "object.__setattr__")))
  (mk_Circuit:PySem.W.makesIn K C_Circuit=true)
  (kc_Circuit:keepIn K (.ref C_Circuit)=true)
  (nA_ins:PySem.W.findIn K (.ref C_Circuit) "ins" = some none)
  (nA_rows:PySem.W.findIn K (.ref C_Circuit) "rows" = some none)
  (nA_outs:PySem.W.findIn K (.ref C_Circuit) "outs" = some none)
  (h1:HD K "gate_value" kM f1)
  (h2:HD K "leg_wires" lU f2)
  (h3:HD K "leg_values" kL f3)
  (h4:HD K "on_wire" pX f4)
  (h5:HD K "borne" xK f5)
  (h6:HD K "full_table" kN f6)
  (h7:HD K "input_tables" iK f7)
  (a8:nsIn K mainGlobals "tables" = some (some (.ref f8)))
  (l8:K.lookup f8=some ⟨oc8,od8,.func (fnOf "tables" "tables" (cL dX) (bQ dX) (aI dX) (.ref T8) kV8 dc8 pm8 an8 cd8 ct8),sl8⟩)
  (c8:codeIn K cd8 "tables" = true)
  (k8:keepIn K (.ref f8)=true)
  (d8:K.lookup T8=some ⟨ocT8,odT8,.seq #[.none] nT8,slT8⟩)
  (h9:HD K "at_outs" qC f9)
  (a10:nsIn K mainGlobals "out_tables" = some (some (.ref f10)))
  (l10:K.lookup f10=some ⟨oc10,od10,.func (fnOf "out_tables" "out_tables" (cL bV) (bQ bV) (aI bV) (.ref T10) kV10 dc10 pm10 an10 cd10 ct10),sl10⟩)
  (c10:codeIn K cd10 "out_tables" = true)
  (k10:keepIn K (.ref f10)=true)
  (d10:K.lookup T10=some ⟨ocT10,odT10,.seq #[.none] nT10,slT10⟩)
  (h11:HD K "sources_of" kK f11)
  (h12:HD K "needed" sT f12)
  (h13:HD K "bits_to_stick" gZ f13)
  (h14:HD K "all_faults" kO f14)
  (h15:HD K "differing" lZ f15)
  (h16:HD K "tellings" nX f16)
  (h17:HD K "to_hit" sS f17)
  (h18:HD K "givens_in" lY f18)
  (h19:HD K "hits_all" oE f19)
  (a20:nsIn K mainGlobals "paper_for" = some (some (.ref f20)))
  (l20:K.lookup f20=some ⟨oc20,od20,.func (fnOf "paper_for" "paper_for" (cL bZ) (bQ bZ) (aI bZ) .none kV20 dc20 pm20 an20 (.ref cA_lam) ct20),sl20⟩)
  (c20:codeIn K (.ref cA_lam) "paper_for" = true)
  (k20:keepIn K (.ref f20)=true)
  (T_lam:PySem.W.codeHdIn K cA_lam P0=true)
  (h21:HD K "shortest" nY f21)
  (h22:HD K "fewest" sW f22)
  (h23:HD K "_law_whole" pY f23)
  (h24:HD K "_law_mixed" qA f24)
  (h25:HD K "_law_row" xJ f25)
  (h26:HD K "_law_circuit" lW f26)
  (h27:HD K "_law_seen" sU f27)
  (h28:HD K "_law_column" oC f28)
  (h29:HD K "_law_tables" nZ f29)
  (h30:HD K "_law_telling" lV f30)
  (h31:HD K "_law_legs" sV f31)
  (h32:HD K "_law_needed" oA f32)
  (h33:HD K "_law_bits_at" lX f33)
  (h34:HD K "_law_faults" oB f34)
  (h35:HD K "_law_asked" qB f35)
  (h36:HD K "_law_paper" pZ f36)
  (h37:HD K "_law_tests_good" iJ f37)
  (a38:nsIn K mainGlobals "law" = some (some (.ref f38)))
  (l38:K.lookup f38=some ⟨oc38,od38,.func (fnOf "law" "law" (cL lD) (bQ lD) (aI lD) .none kV38 dc38 pm38 an38 cd38 ct38),sl38⟩)
  (c38:codeIn K cd38 "law" = true)
  (k38:keepIn K (.ref f38)=true)
  (y_all:nsIn K mainGlobals "all" = some none)
  (y_bool:nsIn K mainGlobals "bool" = some none)
  (y_enumerate:nsIn K mainGlobals "enumerate" = some none)
  (y_int:nsIn K mainGlobals "int" = some none)
  (y_isinstance:nsIn K mainGlobals "isinstance" = some none)
  (y_len:nsIn K mainGlobals "len" = some none)
  (y_list:nsIn K mainGlobals "list" = some none)
  (y_min:nsIn K mainGlobals "min" = some none)
  (y_range:nsIn K mainGlobals "range" = some none)
  (y_sorted:nsIn K mainGlobals "sorted" = some none)
  (y_sum:nsIn K mainGlobals "sum" = some none)
  (y_tuple:nsIn K mainGlobals "tuple" = some none)
  (y_zip:nsIn K mainGlobals "zip" = some none)
  (g_FEW_INS:nsIn K mainGlobals "FEW_INS" = some (some (.int 3 t_FEW_INS)))
  (aC_X:nsIn K mainGlobals "TooGreat" = some (some (.ref CE)))
  (lC_X:K.lookup CE=some (excClassObj nm_X q_X CE N_X bs_X [.ref S_X,.type "ValueError",.type "Exception",.type "BaseException",.type "object"] hd_X sn_X sub_X ab_X col_X dd_X k0_X k1_X k2_X k3_X k5_X "ValueError.__new__"))
  (lN_X:K.lookup N_X=some ⟨c_X,d_X,.dict es_X n_X,sl_X⟩)
  (XrN_X:es_X.toList.all (fun e=>match e.key with | .str _ _=>true | _=>false)=true)
  (iN_X:nsIn K N_X "__init__" = some none)
  (lS_X:K.lookup S_X=some ⟨c2_X,d2_X,.cls ⟨nm1_X,bs1_X,mro1_X,NS_X,q1_X,hd1_X,sn1_X,sub1_X,ab1_X,col1_X,del1_X⟩,sl2_X⟩)
  (lT_X:K.lookup NS_X=some ⟨c1_X,d1_X,.dict es1_X n1_X,sl1_X⟩)
  (XrT_X:es1_X.toList.all (fun e=>match e.key with | .str _ _=>true | _=>false)=true)
  (iT_X:nsIn K NS_X "__init__" = some none)
  (ga_X:PySem.W.findIn K (.ref CE) "__getattribute__" = some (some (.builtin "BaseException.__getattribute__")))
  (gn_X:PySem.W.findIn K (.ref CE) "__getattr__" = some none)
  (cl_X:PySem.W.findIn K (.ref CE) "__class__" = some (some (.builtin "object.__class__")))
  (cg_X:PySem.W.specialIn K (.builtin "object.__class__") "__get__" = some (some (.builtin "getset_descriptor.__get__")))
  (ct_X:PySem.W.takesIn K (.builtin "object.__class__")=some true)
  (mo_X:PySem.W.mroIn K CE (.type "object")=some true)
  (mb_X:PySem.W.mroIn K CE (.type "BaseException")=some true)
  (aC_NoCircuit:nsIn K mainGlobals "NoCircuit" = some (some (.ref A_NoCircuit)))
  (kc_NoCircuit:PySem.W.clsIn K A_NoCircuit=some cd_NoCircuit)
  (kt_NoCircuit:PySem.W.typeIn K (.ref A_NoCircuit)=some (.type "type"))
  (ks_NoCircuit:PySem.W.subIn K (.ref CE) (.ref A_NoCircuit)=some false)
  (XrK_NoCircuit:(CE == A_NoCircuit)=false)
  (aC_NoLine:nsIn K mainGlobals "NoLine" = some (some (.ref A_NoLine)))
  (kc_NoLine:PySem.W.clsIn K A_NoLine=some cd_NoLine)
  (kt_NoLine:PySem.W.typeIn K (.ref A_NoLine)=some (.type "type"))
  (ks_NoLine:PySem.W.subIn K (.ref CE) (.ref A_NoLine)=some false)
  (XrK_NoLine:(CE == A_NoLine)=false)
  (aC_NoWire:nsIn K mainGlobals "NoWire" = some (some (.ref A_NoWire)))
  (kc_NoWire:PySem.W.clsIn K A_NoWire=some cd_NoWire)
  (kt_NoWire:PySem.W.typeIn K (.ref A_NoWire)=some (.type "type"))
  (ks_NoWire:PySem.W.subIn K (.ref CE) (.ref A_NoWire)=some false)
  (XrK_NoWire:(CE == A_NoWire)=false)
  (aC_NotTold:nsIn K mainGlobals "NotTold" = some (some (.ref A_NotTold)))
  (kc_NotTold:PySem.W.clsIn K A_NotTold=some cd_NotTold)
  (kt_NotTold:PySem.W.typeIn K (.ref A_NotTold)=some (.type "type"))
  (ks_NotTold:PySem.W.subIn K (.ref CE) (.ref A_NotTold)=some false)
  (XrK_NotTold:(CE == A_NotTold)=false)
  (aC_StuckError:nsIn K mainGlobals "StuckError" = some (some (.ref A_StuckError)))
  (kc_StuckError:PySem.W.clsIn K A_StuckError=some cd_StuckError)
  (kt_StuckError:PySem.W.typeIn K (.ref A_StuckError)=some (.type "type"))
  (ks_StuckError:PySem.W.subIn K (.ref CE) (.ref A_StuckError)=some true)
  (XrK_StuckError:(CE == A_StuckError)=false) :
  ∃ (fd:FuncData) (m:List D->Option D),(∀ (s:Shared) (u:Value),BindsTo s fd ⟨[u],[]⟩ [("_law_script",u)]) /\ (∀ ns:List Int,ns.length <= 63->(∀ i ∈ ns,Builtin.Int.intBits i <= 1048576)->m [.lst (ns.map D.int)]=some (.bl true)) /\
   ∀ base:Heap,K.In base->base.Ns mainGlobals mg->base.BuiltinsAt mg P0->bR l.prog w K mg base CX0 15 fa fd ["_law_script"] (spT K P0 (lamPos l_lam,q_lam) 1 m):=by
 have e:=hfa.symm.trans (mg_of X G a38);cases e;have z_all:=PySem.W.mg_none_of X G y_all;have z_bool:=PySem.W.mg_none_of X G y_bool;have z_enumerate:=PySem.W.mg_none_of X G y_enumerate;have z_int:=PySem.W.mg_none_of X G y_int;have z_isinstance:=PySem.W.mg_none_of X G y_isinstance;have z_len:=PySem.W.mg_none_of X G y_len;have z_list:=PySem.W.mg_none_of X G y_list;have z_min:=PySem.W.mg_none_of X G y_min;have z_range:=PySem.W.mg_none_of X G y_range;have z_sorted:=PySem.W.mg_none_of X G y_sorted;have z_sum:=PySem.W.mg_none_of X G y_sum;have z_tuple:=PySem.W.mg_none_of X G y_tuple;have z_zip:=PySem.W.mg_none_of X G y_zip;have h_FEW_INS:=mg_of X G g_FEW_INS;have hC_Circuit:Cls K C_Circuit:=⟨pg_Circuit,hd_Circuit,po_Circuit,sa_Circuit⟩;have F0:=nK (st:=cA) l0 c0 k0;have b0:Binds K _ ["self","ins","rows","outs"] []:=.all (fd:=fnOf "__init__" "Circuit.__init__" (cL cA) (bQ cA) (aI cA) .none kV0 dc0 pm0 an0 cd0 ct0) (us4 fun _ _ _ _=>rfl);have T_X:PySem.W.ExcK K CE:=⟨ga_X,gn_X,cl_X,cg_X,ct_X,mo_X,mb_X,Z4S lC_X⟩;have mc_TooGreat:=mg_of X G aC_X;have mc_NoCircuit:=mg_of X G aC_NoCircuit;have ki_NoCircuit:=pJ kc_NoCircuit kt_NoCircuit ks_NoCircuit XrK_NoCircuit;have mc_NoLine:=mg_of X G aC_NoLine;have ki_NoLine:=pJ kc_NoLine kt_NoLine ks_NoLine XrK_NoLine;have mc_NoWire:=mg_of X G aC_NoWire;have ki_NoWire:=pJ kc_NoWire kt_NoWire ks_NoWire XrK_NoWire;have mc_NotTold:=mg_of X G aC_NotTold;have ki_NotTold:=pJ kc_NotTold kt_NotTold ks_NotTold XrK_NotTold;have mc_StuckError:=mg_of X G aC_StuckError;have ki_StuckError:=pJ kc_StuckError kt_StuckError ks_StuckError XrK_StuckError;have F8:=nK (st:=dX) l8 c8 k8;have b8:Binds K (fnOf "tables" "tables" (cL dX) (bQ dX) (aI dX) (.ref T8) kV8 dc8 pm8 an8 cd8 ct8) ["circuit","fault"] []:=fun s us ks hl=>match us,hl with | [_,_],_=>.of_defaults rfl (ks _ _ d8) rfl rfl rfl
 have bd8:Binds K (fnOf "tables" "tables" (cL dX) (bQ dX) (aI dX) (.ref T8) kV8 dc8 pm8 an8 cd8 ct8) ["circuit","fault"] [.none]:=fun s us ks hl=>(match us,(show us.length=1 by simpa using hl) with | [_],_=>.of_defaults rfl (ks _ _ d8) rfl rfl rfl)
 have F10:=nK (st:=bV) l10 c10 k10;have b10:Binds K (fnOf "out_tables" "out_tables" (cL bV) (bQ bV) (aI bV) (.ref T10) kV10 dc10 pm10 an10 cd10 ct10) ["circuit","fault"] []:=fun s us ks hl=>match us,hl with | [_,_],_=>.of_defaults rfl (ks _ _ d10) rfl rfl rfl
 have bd10:Binds K (fnOf "out_tables" "out_tables" (cL bV) (bQ bV) (aI bV) (.ref T10) kV10 dc10 pm10 an10 cd10 ct10) ["circuit","fault"] [.none]:=fun s us ks hl=>(match us,(show us.length=1 by simpa using hl) with | [_],_=>.of_defaults rfl (ks _ _ d10) rfl rfl rfl)
 have F20:=nK (st:=bZ) l20 c20 k20;have b20:Binds K (fnOf "paper_for" "paper_for" (cL bZ) (bQ bZ) (aI bZ) .none kV20 dc20 pm20 an20 (.ref cA_lam) ct20) ["wanted","chosen","many"] []:=.all (us3 fun _ _ _=>rfl);have F38:=nK (st:=lD) l38 c38 k38;have b38:Binds K (fnOf "law" "law" (cL lD) (bQ lD) (aI lD) .none kV38 dc38 pm38 an38 cd38 ct38) ["_law_script"] []:=.all (us1 fun _=>rfl);refine⟨fnOf "law" "law" (cL lD) (bQ lD) (aI lD) .none kV38 dc38 pm38 an38 cd38 ct38,Z1O C_Circuit CE,fun s u=>.of_eq rfl,Z1S,fun base KB NB BB=>?_⟩;have Y:HX l.prog w K mg base:=⟨_,X,G⟩;have O_X:=Z4N lC_X lN_X XrN_X iN_X lS_X lT_X XrT_X iT_X base KB;have mk_Circuit:Z2p l.prog w K mg base "Circuit" C_Circuit 1 3 (fE C_Circuit):=⟨⟨f0,_,_,⟨mk_Circuit,a0,i0,kc_Circuit⟩,rR F0 z_list z_tuple hC_Circuit nA_ins nA_rows nA_outs,mg_of X G aC_Circuit,b0⟩⟩;have Cc1:=h1.c Y (fun _ F=>vC (C:=C_Circuit) F) (fun _=>us3 fun _ _ _=>rfl);have Cc2:=h2.c Y (fun _ F=>yA (C:=C_Circuit) F z_list) (fun _=>us1 fun _=>rfl);have Cc3:=h3.c Y (fun _ F=>vB (C:=C_Circuit) F Cc2) (fun _=>us5 fun _ _ _ _ _=>rfl);have Cc4:=h4.c Y (fun _ F=>N5 (C:=C_Circuit) F) (fun _=>us4 fun _ _ _ _=>rfl);have Cc5:=h5.c Y (fun _ F=>Z1G (C:=C_Circuit) F Cc1 Cc3 Cc4 z_len hC_Circuit nA_rows) (fun _=>us4 fun _ _ _ _=>rfl);have Cc6:=h6.c Y (fun _ F=>vD (C:=C_Circuit) F) (fun _=>us1 fun _=>rfl);have Cc7:=h7.c Y (fun _ F=>rQ (C:=C_Circuit) F Cc6 z_range) (fun _=>us1 fun _=>rfl);have G8:bR l.prog w K mg base CX0 4 f8 _ _ (spD K 2 (iO C_Circuit)):=Z0a (C:=C_Circuit) F8 Cc5 Cc6 Cc7 hC_Circuit nA_ins;have Cc8:aY l.prog w K mg base "tables" [] 4 2 (iO C_Circuit):=⟨⟨f8,_,_,[],[],G8,mg_of X G a8,k8,b8,.nil,fun _=>Z5j⟩⟩;have Cc_tables_d:aY l.prog w K mg base "tables" [.non] 4 2 (iO C_Circuit):=⟨⟨f8,_,_,[.non],[.none],G8,mg_of X G a8,k8,bd8,.cons rfl .nil,fun H=>by simp only [Reps];exact⟨.non,[],[],[],rfl,rfl,qK,rfl,rfl⟩⟩⟩;have Cc9:=h9.c Y (fun _ F=>O1 (C:=C_Circuit) F hC_Circuit nA_outs) (fun _=>us2 fun _ _=>rfl);have G10:bR l.prog w K mg base CX0 5 f10 _ _ (spD K 2 (cK C_Circuit)):=vA (C:=C_Circuit) F10 Cc9 Cc8;have Cc10:aY l.prog w K mg base "out_tables" [] 5 2 (cK C_Circuit):=⟨⟨f10,_,_,[],[],G10,mg_of X G a10,k10,b10,.nil,fun _=>Z5j⟩⟩;have Cc_out_tables_d:aY l.prog w K mg base "out_tables" [.non] 5 2 (cK C_Circuit):=⟨⟨f10,_,_,[.non],[.none],G10,mg_of X G a10,k10,bd10,.cons rfl .nil,fun H=>by simp only [Reps];exact⟨.non,[],[],[],rfl,rfl,qK,rfl,rfl⟩⟩⟩;have Cc11:=h11.c Y (fun _ F=>uZ (C:=C_Circuit) F Cc2 hC_Circuit nA_ins nA_rows) (fun _=>us2 fun _ _=>rfl);have Cc12:=h12.c Y (fun _ F=>Z0b (C:=C_Circuit) F Cc11 z_len z_range z_sorted hC_Circuit nA_ins nA_outs nA_rows) (fun _=>us1 fun _=>rfl);have Cc13:=h13.c Y (fun _ F=>qI (C:=C_Circuit) F hC_Circuit nA_ins nA_rows) (fun _=>us2 fun _ _=>rfl);have Cc14:=h14.c Y (fun _ F=>vE (C:=C_Circuit) F Cc13 Cc12 Cc11 z_enumerate) (fun _=>us1 fun _=>rfl);have Cc15:=h15.c Y (fun _ F=>yF (C:=C_Circuit) F z_zip) (fun _=>us2 fun _ _=>rfl);have Cc16:=h16.c Y (fun _ F=>B8 (C:=C_Circuit) F Cc15 Cc_out_tables_d Cc10) (fun _=>us2 fun _ _=>rfl);have Cc17:=h17.c Y (fun _ F=>Z09 (C:=C_Circuit) F Cc14 Cc16 z_zip) (fun _=>us1 fun _=>rfl);have Cc18:=h18.c Y (fun _ F=>yE (C:=C_Circuit) F z_range) (fun _=>us1 fun _=>rfl);have Cc19:=h19.c Y (fun _ F=>C5 (C:=C_Circuit) F z_all) (fun _=>us2 fun _ _=>rfl);have L_lam:LamIn (fnOf "paper_for" "paper_for" (cL bZ) (bQ bZ) (aI bZ) .none kV20 dc20 pm20 an20 (.ref cA_lam) ct20) base mg P0:=⟨⟨cA_lam,rfl,PySem.W.codeHd_of_K KB T_lam⟩,BB⟩;have Cc20:nM l.prog w K mg base "paper_for" P0 (lamPos l_lam,q_lam) 12 3 (bU C_Circuit 9):=⟨⟨f20,_,_,xZ (C:=C_Circuit) F20 (mg_of X G a20) k20 b20 Cc18 L_lam z_len z_min 9,mg_of X G a20,k20,b20⟩⟩;have Cc21:=h21.c Y (fun _ F=>B9 (C:=C_Circuit) F Cc6 Cc18 Cc19 z_len z_min z_range) (fun _=>us2 fun _ _=>rfl);have Cc22:=h22.te Y (fun _ F=>Z0e (C:=C_Circuit) (CE:=CE) F Cc20 Cc21 Cc17 z_len h_FEW_INS hC_Circuit nA_ins O_X mc_TooGreat) (fun _=>us1 fun _=>rfl);have Cc23:=h23.c Y (fun _ F=>N6 (C:=C_Circuit) F z_bool z_int z_isinstance) (fun _=>us1 fun _=>rfl);have Cc24:=h24.c Y (fun _ F=>N9 (C:=C_Circuit) F) (fun _=>us2 fun _ _=>rfl);have Cc25:=h25.c Y (fun _ F=>Z1F (C:=C_Circuit) F z_min) (fun _=>us3 fun _ _ _=>rfl);have Cc26:=h26.c Y (fun _ F=>yC (C:=C_Circuit) F Cc24 Cc25 z_enumerate z_int z_len z_range z_sum) (fun _=>us4 fun _ _ _ _=>rfl);have Cc27:=h27.c Y (fun _ F=>Z0c (C:=C_Circuit) F) (fun _=>us6 fun _ _ _ _ _ _=>rfl);have Cc28:=h28.c Y (fun _ F=>C4 (C:=C_Circuit) F Cc27) (fun _=>us5 fun _ _ _ _ _=>rfl);have Cc29:=h29.c Y (fun _ F=>C0 (C:=C_Circuit) F Cc28 z_len z_range z_sum) (fun _=>us3 fun _ _ _=>rfl);have Cc30:=h30.c Y (fun _ F=>yB (C:=C_Circuit) F Cc29) (fun _=>us4 fun _ _ _ _=>rfl);have Cc31:=h31.c Y (fun _ F=>Z0d (C:=C_Circuit) F z_list) (fun _=>us3 fun _ _ _=>rfl);have Cc32:=h32.c Y (fun _ F=>C1 (C:=C_Circuit) F Cc31 z_len z_sorted) (fun _=>us3 fun _ _ _=>rfl);have Cc33:=h33.c Y (fun _ F=>yD (C:=C_Circuit) F) (fun _=>us3 fun _ _ _=>rfl);have Cc34:=h34.c Y (fun _ F=>C3 (C:=C_Circuit) F Cc33 Cc31 Cc32 z_enumerate) (fun _=>us3 fun _ _ _=>rfl);have Cc35:=h35.t Y (fun _ F=>O0 (C:=C_Circuit) (CE:=CE) F Cc22 z_isinstance O_X mc_TooGreat T_X mc_NoCircuit ki_NoCircuit mc_NoLine ki_NoLine mc_NoWire ki_NoWire mc_NotTold ki_NotTold mc_StuckError ki_StuckError) (fun _=>us1 fun _=>rfl);have Cc36:=h36.r Y (fun _ F a k b=>N7 (C:=C_Circuit) F a k b Cc23 z_isinstance z_len z_list z_range z_tuple 9) (fun _=>us4 fun _ _ _ _=>rfl);have Cc37:=h37.c Y (fun _ F=>rP (C:=C_Circuit) F Cc23 z_isinstance z_len z_list) (fun _=>us3 fun _ _ _=>rfl);exact Z4C (C:=C_Circuit) (CE:=CE) F38 Cc35 Cc26 Cc34 Cc36 Cc30 Cc37 mk_Circuit z_isinstance z_len z_list z_sum z_tuple
end G
open PySem PySem.W PyProof.Rows
set_option maxRecDepth 100000 in
set_option maxHeartbeats 0 in
theorem PySem.Challenge.cw_stuckwire_k42_whole_shortest_rows_holds : PySem.Challenge.rw_stuckwire_k42_whole_shortest_rows.Holds := by
  w_on; o_law; k_head; (case hw => w_witness2)
  k_fill
  refine PD.walkT (c₀ := 245) (P₀ := 243) (pq := (PD.lamPos G.l_lam, G.q_lam)) (l := PySem.Challenge.rw_stuckwire_k42_whole_shortest_rows) (n := 63) (k := 15) (x := "_law_script") rfl (by decide) rfl ⟨rfl, by decide, by decide⟩ (fun w h Y => PySem.W.km_in_of Y) (fun w h Y => (PySem.W.codeHd_of_K (PySem.W.km_in_of Y) (by kernel_rfl)).tab (PySem.W.km_tabs_of Y _ (by k_mem))) (fun w => by kernel_rfl) ?F
  case F =>
    intro w mg fa h KX GX hmg
    refine' G.head_mk KX GX hmg ?_ ?_ ?_ ?_ ?_ ?_ ?_ ?_ ?_ ?_ ?_ ?_ ?_ ?_ ?_ ?_ ?_ ?_ ?_ ?_ ?_ ?_ ?_ ?_ ?_ ?_ ?_ ?_ ?_ ?_ ?_ ?_ ?_ ?_ ?_ ?_ ?_ ?_ ?_ ?_ ?_ ?_ ?_ ?_ ?_ ?_ ?_ ?_ ?_ ?_ ?_ ?_ ?_ ?_ ?_ ?_ ?_ ?_ ?_ ?_ ?_ ?_ ?_ ?_ ?_ ?_ ?_ ?_ ?_ ?_ ?_ ?_ ?_ ?_ ?_ ?_ ?_ ?_ ?_ ?_ ?_ ?_ ?_ ?_ ?_ ?_ ?_ ?_ ?_ ?_ ?_ ?_ ?_ ?_ ?_ ?_ ?_ ?_ ?_ ?_ ?_ ?_ ?_ ?_ ?_ ?_ ?_ ?_ ?_ ?_ ?_ ?_ ?_ ?_ ?_ ?_ ?_ ?_ ?_ ?_ ?_ ?_ ?_
    any_goals k_is
    any_goals (apply PD.HD.mk <;> k_is)
    all_goals first | (kernel_rfl) | (first | rfl | decide +kernel)
